import PyProof.Rows.All
import Wide.All
import OpenK.AllK
import Wide.FinOn
import Lean
import PyProof.EqAt
import PyProof.EqKinds
import PyProof.TupleCall
import KE.KSortTup
import PyProof.FString
import PyProof.StrBlock
import KE.KRevSl
import PyProof.StrLawsReplace
import PyProof.StrCalls6
import PyProof.MinMaxWalk
import PyProof.WalkInts
import PyProof.NeKinds
import KE.KEqDict
import PyProof.Rows.SumAny
import KE.KMinKey
import PyProof.Rows.CallKwBuiltin
import PySem.Challenge.RW_shortglue_k35_whole_table_bound
set_option Elab.async false
set_option linter.all false
set_option maxRecDepth 100000
set_option maxHeartbeats 4000000
noncomputable section
namespace L2
open PySem PySem.W
def m3 (tb:String->Option Builtin) (p:Program) (w:World) (n₀:Nat) (ann:Option Value):Nat->SharedT->Thread->Option SharedT
|0,_,_=>none
|n+1,s,t=>match through t with
 |true=>some s
 |false=>match stepOk n₀ ann t with
  |false=>none
  |true=>match stepT (denote tb) p w s t with
   |some (s',t')=>m3 tb p w n₀ ann n s' t'
   |none=>none
theorem oF {tb:String->Option Builtin}{p:Program}{w:World}{n₀:Nat}{ann:Option Value}:∀{n:Nat}{s s':SharedT}{t:Thread},m3 tb p w n₀ ann n s t=some s'->topRun tb p w n₀ ann n s.abs t=some s'.abs
|0,_,_,_,h=>by cases h
|n+1,s,s',t,h=>by
  unfold m3 at h
  unfold topRun
  cases he:through t with
 |true=>rw [he] at h;cases h;rfl
 |false =>
   rw [he] at h
   cases hk:stepOk n₀ ann t with
  |false=>rw [hk] at h;cases h
  |true =>
    rw [hk] at h
    cases hs:stepT (denote tb) p w s t with
   |none=>rw [hs] at h;cases h
   |some r=>obtain⟨s₂,t₂⟩:=r;rw [hs] at h;rw [stepT_spec hs];exact oF h
def zb:List Obj->Nat->BT->BT
|[],_,t=>t
|o::r,i,t=>zb r (i+1) (t.ins i o)
def zU (P:Params):BT:=zb (boot_heap P).objs.toList 0 .nil
theorem xD:∀P,absHeap (zU P) (boot_heap P).objs.size (boot_heap P).life=boot_heap P:=fun P=>by kernel_rfl
theorem B4 {p q:Program}{loose:List Str}{Xt:Shared->Bool}{α:Type}{Yf:Shared->α}{Ya:World->α}{N:Nat}{g0:Bool}{m₀:Nat}{ann:Option Value}
  (e:opening p=plainProg p.main.scope.names) (hN:Nat.ble 600 N=true) (f:∀s,fenceModules? p s=some s)
  (size:∀w:World,((boot_heap w.params).isNs mainGlobals && (Array.mk []:Array GenState).size == 0,(boot_heap w.params).objs.size,(boot_heap w.params).nsMap mainGlobals "__annotations__")=(true,m₀,ann))
  (run:∀(w:World) (os:OsState),(m3 treeTable p w m₀ ann N ⟨zU w.params,m₀,(boot_heap w.params).life,Array.mk [],boot_drawn,boot_toks,os⟩ (topStub p)).map (fun sT=>((staticsOk (importedModules p.main.body) (boot_heap w.params) sT.abs.heap && namesBound p sT.abs.heap && gensDone sT.abs && laidKept (boot_heap w.params) sT.abs.heap),openSeen q loose (importedModules p.main.body) Xt g0 sT.abs,Yf sT.abs))=some (true,openGood q loose,Ya w)):LeftO p q loose Xt Yf Ya N g0:=fun w=>by
 obtain⟨⟨h,gs,d,k,os⟩,e,e'⟩:=Option.map_eq_some_iff.mp (boot_open e hN f w)
 obtain⟨rfl,rfl,rfl,rfl⟩:h=boot_heap w.params/\gs=Array.mk []/\d=boot_drawn/\k=boot_toks:=by simpa using e'
 obtain⟨z1,z2,z3⟩:_/\_/\_:=by simpa only [Prod.mk.injEq] using size w
 obtain⟨sT,r,l⟩:=Option.map_eq_some_iff.mp (run w os)
 obtain⟨l1,l2,l3⟩:_/\_/\_:=by simpa only [Prod.mk.injEq] using l
 have r:=oF r
 rw [show SharedT.abs ⟨zU w.params,m₀,(boot_heap w.params).life,Array.mk [],boot_drawn,boot_toks,os⟩=⟨boot_heap w.params,Array.mk [],boot_drawn,boot_toks,os⟩ by
  unfold SharedT.abs;dsimp only;rw [<- z2,xD]] at r
 have t:topFrom treeTable p w N ⟨boot_heap w.params,Array.mk [],boot_drawn,boot_toks,os⟩=some sT.abs:=by
  unfold topFrom
  dsimp only
  rw [z1,z2,z3,r]
  show (match staticsOk (importedModules p.main.body) (boot_heap w.params) sT.abs.heap && namesBound p sT.abs.heap && gensDone sT.abs && laidKept (boot_heap w.params) sT.abs.heap with|true=>_|false=>_)=_
  rw [l1]
 unfold openEnds
 rw [e]
 show (topFrom treeTable p w N _).map _=_
 rw [t]
 exact congrArg some (Prod.ext l2 l3)
end L2
section
open PySem PySem.W PyProof.Rows
def zV:Program:=PySem.W.view PySem.Challenge.pw_shortglue_k35_whole_table_bound [1,2,3,5,6,7,9,10,11,12,13,14,16,17,19,20,21,23,25,26,27,28,29,31,32,33,34,35,36,37,38,39,40,41,42,43,44,45,46,47]
local macro_rules | `(tactic| o_head $H)=>`(tactic| (refine holds_open (q:=zV) (loose:=[PySem.Str.ofString "is_text"]) (Xt:=fun s=>xlAt zV [] s && recOk (RowW.records (OpenRow.toRowW (OpenLaw.row PySem.Challenge.rw_shortglue_k35_whole_table_bound))) s) (XP:=XL zV []) (Yf:=Hook.obs $H) (Ya:=Hook.val $H) (YP:=Hook.says $H) (N:=4086) ?hl (Hook.of $H) (Hook.keeps $H) (fun s e=>xl_of s (Bool.and_eq_true_iff.mp e).1) XL.keeps (by rfl) (by rfl) (by rfl) (fun s e=>recFacts_of (Bool.and_eq_true_iff.mp e).2) (by rfl) (by first | assumption | decide +kernel) (by decide +kernel) ⟨rfl,rfl,rfl,rfl,rfl,by decide +kernel⟩ ?hw ?hc;(case hl=>(refine L2.B4 (m₀:=11) (ann:=some (.ref 6)) (by kernel_rfl) (by rfl) (fun s=>by kernel_rfl) (fun w=>by kernel_rfl) ?_;intro w os;kernel_rfl))))
set_option maxRecDepth 100000 in
set_option maxHeartbeats 0 in
open_top topHd for PySem.Challenge.rw_shortglue_k35_whole_table_bound
end
-- CHANGE: your row's module here,as the last of these rows
namespace L2
open PySem PySem.Spec PyProof.Rows
abbrev Key:=Sum Int Str
def tP:Key->Value->Bool
|.inl k,v=>Value.isInt k v
|.inr x,v=>Value.isStrOf x v
def Gb (w:World):Key->Int
|.inl k=>hashInt k
|.inr x=>hashStr w x
theorem cE:∀{k:Key}{v:Value},tP k v=true->(∃i t,k=Sum.inl i/\v=Value.int i t)\/(∃x t,k=Sum.inr x/\v=Value.str x t)
|.inl i,v,h=>by
  obtain⟨t,e⟩:=Value.isInt_shape (k:=i) (v:=v) h
  exact .inl ⟨i,t,rfl,e⟩
|.inr x,v,h=>by
  obtain⟨t,e⟩:=Value.isStrOf_shape (x:=x) (v:=v) h
  exact .inr ⟨x,t,rfl,e⟩
theorem uQ (i:Int) (t:Tok):tP (.inl i) (.int i t)=true:=by simp [tP,Value.isInt]
theorem uR (x:Str) (t:Tok):tP (.inr x) (.str x t)=true:=by simp [tP,Value.isStrOf]
theorem B5 (a b:Int):decide ((Sum.inl a:Key)=Sum.inl b)=(a == b):=by
 by_cases e:a=b
 .subst e;simp
 .have h:¬ (Sum.inl a:Key)=Sum.inl b:=fun q=>e (Sum.inl.inj q)
  rw [decide_eq_false h]
  exact (beq_eq_false_iff_ne.mpr e).symm
theorem B6 (a b:Str):decide ((Sum.inr a:Key)=Sum.inr b)=decide (a=b):=by
 by_cases e:a=b
 .subst e;simp
 .have h:¬ (Sum.inr a:Key)=Sum.inr b:=fun q=>e (Sum.inr.inj q)
  rw [decide_eq_false h,decide_eq_false e]
theorem B7 (a:Int) (b:Str):decide ((Sum.inl a:Key)=Sum.inr b)=false:=decide_eq_false (fun q=>nomatch q)
theorem B8 (a:Str) (b:Int):decide ((Sum.inr a:Key)=Sum.inl b)=false:=decide_eq_false (fun q=>nomatch q)
def eV (prog:Program) (w:World):PySem.KeyKind prog w Key where
 is:=tP
 hash:=Gb w
 inj:=fun v a b ha hb=>by
  rcases cE ha with ⟨i,t,rfl,rfl⟩|⟨x,t,rfl,rfl⟩
  .rcases cE hb with ⟨j,u,rfl,e⟩|⟨y,u,rfl,e⟩
   .injection e with e1 _;rw [e1]
   .exact nomatch e
  .rcases cE hb with ⟨j,u,rfl,e⟩|⟨y,u,rfl,e⟩
   .exact nomatch e
   .injection e with e1 _;rw [e1]
 byValue:=fun k v h=>by
  rcases cE h with ⟨i,t,rfl,rfl⟩|⟨x,t,rfl,rfl⟩ <;> rfl
 pyHash:=fun hv h=>by
  rcases cE hv with ⟨i,t,rfl,rfl⟩|⟨x,t,rfl,rfl⟩
  .exact wpAny_pyHash_int h
  .exact wpAny_pyHash_str h
 eqBool:=fun hu hv h=>by
  rcases cE hu with ⟨i,t,rfl,rfl⟩|⟨x,t,rfl,rfl⟩
  .rcases cE hv with ⟨j,u,rfl,rfl⟩|⟨y,u,rfl,rfl⟩
   .rw [B5] at h;exact wpAny_eqBool_int h
   .rw [B7] at h;exact SeqAt.EqAt.int_str i t y u _ _ _ _ h
  .rcases cE hv with ⟨j,u,rfl,rfl⟩|⟨y,u,rfl,rfl⟩
   .rw [B8] at h;exact SeqAt.EqAt.str_int x t j u _ _ _ _ h
   .rw [B6] at h;exact wpAny_eqBool_str h
 «strs»:=fun k x t v h=>by
  rcases cE h with ⟨i,u,rfl,e⟩|⟨y,u,rfl,e⟩
  .exact nomatch e
  .injection e with e1 _
   subst e1
   cases v <;> rfl
theorem qB (prog:Program) (w:World) (i:Int) (t:Tok):(eV prog w).is (.inl i) (.int i t)=true:=uQ i t
theorem qC (prog:Program) (w:World) (x:Str) (t:Tok):(eV prog w).is (.inr x) (.str x t)=true:=uR x t
inductive V where
|non|bl (b:Bool)|int (i:Int)|str (x:Str)|byt (b:Array UInt8)|flt (b:UInt64)|ref (a:Addr)|ty (n:String)
 deriving DecidableEq
def dh:V->Value->Prop
|.non,u=>u=Value.none
|.bl b,u=>u=Value.bool b
|.int i,u=>∃t,u=Value.int i t
|.str x,u=>∃t,u=Value.str x t
|.byt b,u=>∃t,u=Value.bytes b t
|.flt b,u=>∃t,u=Value.float b t
|.ref a,u=>u=Value.ref a
|.ty n,u=>u=Value.type n
abbrev bW:List V->List Value->Prop:=Paired dh
theorem bW.length {xs:List V}{us:List Value} (r:bW xs us):xs.length=us.length:=Paired.length r
theorem bW.get:∀{xs:List V}{us:List Value}{i:Nat}{x:V},bW xs us->xs[i]?=some x->∃u,us[i]?=some u/\dh x u
|_,_,_,_,.nil,e=>by simp at e
|_,_,0,_,.cons r _,e=>by simp at e;subst e;exact⟨_,rfl,r⟩
|_,_,i+1,x,.cons _ t,e=>by
  obtain⟨u,h1,h2⟩:=bW.get (i:=i) (x:=x) t (by simpa using e)
  exact⟨u,by simpa using h1,h2⟩
theorem bW.set {x:V}{u:Value} (r:dh x u):∀{xs:List V}{us:List Value} (i:Nat),bW xs us->bW (xs.set i x) (us.set i u)
|_,_,_,.nil=>.nil
|_,_,0,.cons _ t=>.cons r t
|_,_,i+1,.cons q t=>.cons q (bW.set r i t)
theorem bW.append:∀{xs ys:List V}{us ws:List Value},bW xs us->bW ys ws->bW (xs++ys) (us++ws)
|_,_,_,_,.nil,s=>s
|_,_,_,_,.cons r t,s=>.cons r (bW.append t s)
theorem bW.take:∀{xs:List V}{us:List Value} (n:Nat),bW xs us->bW (xs.take n) (us.take n)
|_,_,0,_=>.nil
|_,_,_+1,.nil=>.nil
|_,_,n+1,.cons r t=>.cons r (bW.take n t)
theorem bW.drop:∀{xs:List V}{us:List Value} (n:Nat),bW xs us->bW (xs.drop n) (us.drop n)
|_,_,0,r=>r
|_,_,_+1,.nil=>.nil
|_,_,n+1,.cons _ t=>bW.drop n t
def xz:Option V->Option Value->Prop
|some v,some u=>dh v u
|none,none=>True
|_,_=>False
def KV {κ:Type}:List (κ×V)->List (κ×Value)->Prop:=Paired fun (p:κ×V) (q:κ×Value)=>p.1=q.1/\dh p.2 q.2
def kV:Key->V
|.inl i=>.int i
|.inr x=>.str x
inductive HO where
 /-- a list -/
|lst (xs:List V)
 /-- a tuple (never changes) -/
|tup (xs:List V)
 /-- a dict whose keys are ints and texts;one whose keys are tuples of ints and texts (the empty one is both) -/
|dK (kvs:List (Key×V))|dT (kvs:List (List Key×V))
 /-- a set of ints: its members,its size -/
|set (S:Int->Bool) (n:Nat)
 /-- an instance of the class at C,its dict at dx,its attributes -/
|ins (C dx:Addr) (fs:List (Str×V))
 /-- the dict of the instance at x -/
|own (x:Addr)
 /-- the dict of an exception -/
|xd (fs:List (Str×V))
 /-- a bound method,f of x -/
|met (f x:Addr)
 /-- a range object lo,lo+1,.. below hi -/
|rng (lo hi:Int)
 /-- a thing that is known to the object (the script;a dict while a loop walks it): read,never written while it is so -/
|frz (o:Obj) (u:HO)
 /-- a code object's table -/
|tbl (ps:Array Value)
 /-- any other thing,by what is true of its one object (a def of one's own: SetO a S n:=HO.ext fun h=>..) -/
|ext (φ:Heap->Prop)
abbrev Hp:=Addr->Option HO
def upd (H:Hp) (a:Addr) (o:HO):Hp:=fun b=>if b=a then some o else H b
theorem aL {H:Hp}{a:Addr}{o:HO}:upd H a o a=some o:=by unfold upd;rw [if_pos rfl]
theorem aB {H:Hp}{a b:Addr}{o:HO} (h:b≠a):upd H a o b=H b:=by unfold upd;rw [if_neg h]
theorem bi {H:Hp}{a b:Addr}{o:HO} (h:H a=some o) (h':H b=none):a≠b:=by
 intro e;subst e;rw [h] at h';cases h'
section
variable (P:Program) (w:World)
def cF (H:Hp) (h:Heap) (a:Addr):HO->Prop
|.lst xs=>xs.length<=sizeLine/\∃(its:List Value) (n:Nat),bW xs its/\h.get? a=some { cls:=.type "list",data:=.seq its.toArray n }
|.tup xs=>xs.length<=sizeLine/\∃its:List Value,bW xs its/\IsTup h a its.toArray
|.dK kvs=>kvs.length<=sizeLine/\(a == sysModules)=false/\∃vs,KV kvs vs/\h.DictOf (eV P w) a vs
|.dT kvs=>kvs.length<=sizeLine/\(a == sysModules)=false/\∃xs:List (List Key×Addr×Value),
   Paired (fun (p:List Key×V) (q:List Key×Addr×Value)=>p.1=q.1/\H q.2.1=some (.tup (p.1.map kV))/\dh p.2 q.2.2) kvs xs /\
   ∃o es ep,h.get? a=some o/\o.ExactDict/\o.data=.dict es ep/\es.toList=xs.map (entryOfKey (tupleKind (eV P w)))/\(xs.map (·.1)).Nodup
|.set S n=>h.SetOf (intKind P w) a S n
|.ins C dx fs=>H dx=some (.own a)/\fs.length<=1000/\dx≠a/\h.get? a=some (PySem.W.instObj C dx) /\
   ∃mA,h.Ns1 dx mA/\(∀f,xz (fs.lookup f) (mA f))/\PySem.Within mA (fs.map (·.1))
|.own _=>∃o,h.get? a=some o
|.xd fs=>∃mA,h.Ns1 a mA/\∀f,xz (fs.lookup f) (mA f)
|.rng lo hi=>∃t u v,h.get? a=some { cls:=.type "range",data:=.fields #[.int lo t,.int hi u,.int 1 v] }
|.frz o u=>h.get? a=some o/\cF H h a u
|.tbl ps=>h.get? a=some { cls:=.none,data:=.fields ps }
|.met f x=>h.get? a=some (PySem.W.methodObj (.ref f) (.ref x))
|.ext φ=>φ h/\(∃o,h.get? a=some o)/\∀h1 h2:Heap,φ h1->(∀o,h1.get? a=some o->h2.get? a=some o)->φ h2
def HOk (H:Hp) (h:Heap):Prop:=∀a o,H a=some o->cF P w H h a o
end
section
variable {P:Program}{w:World}{H H':Hp}{h h':Heap}{a:Addr}{o:HO}
theorem cF.lt (x:cF P w H h a o):a<h.objs.size:=by
 cases o with
|lst xs=>obtain⟨_,_,_,_,e⟩:=x;exact Heap.lt_size e
|tup xs=>obtain⟨_,_,_,p⟩:=x;exact p.lt
|dK kvs=>obtain⟨_,_,_,_,o,_,_,e,_⟩:=x;exact Heap.lt_size e
|dT kvs=>obtain⟨_,_,_,_,o,_,_,e,_⟩:=x;exact Heap.lt_size e
|set S n=>obtain⟨o,_,_,_,e,_⟩:=x;exact Heap.lt_size e
|ins C dx fs=>obtain⟨_,_,_,e,_⟩:=x;exact Heap.lt_size e
|own y=>obtain⟨_,e⟩:=x;exact Heap.lt_size e
|xd fs=>obtain⟨_,⟨_,_,_,e,_⟩,_⟩:=x;exact Heap.lt_size e
|rng lo hi=>obtain⟨_,_,_,e⟩:=x;exact Heap.lt_size e
|frz ob u=>obtain⟨e,_⟩:=x;exact Heap.lt_size e
|tbl ps=>exact Heap.lt_size (show h.get? a=some _ from x)
|met f y=>exact Heap.lt_size (show h.get? a=some _ from x)
|ext φ=>obtain⟨_,⟨_,e⟩,_⟩:=x;exact Heap.lt_size e
theorem Paired.mapP {α β:Type}{F G:α->β->Prop}:∀{l₁:List α}{l₂:List β},Paired F l₁ l₂->(∀a b,F a b->G a b)->Paired G l₁ l₂
|_,_,.nil,_=>.nil
|_,_,.cons r t,f=>.cons (f _ _ r) (Paired.mapP t f)
theorem cF.stay (x:cF P w H h a o) (k:∀b u,(b=a\/H b=some (.own a))->h.get? b=some u->h'.get? b=some u)
  (ho:∀b,H b=some (.own a)->H' b=some (.own a)) (ht:∀b xs,H b=some (.tup xs)->H' b=some (.tup xs)):cF P w H' h' a o:=by
 induction o with
|lst xs=>obtain⟨z,its,n,r,e⟩:=x;exact⟨z,its,n,r,k _ _ (.inl rfl) e⟩
|tup xs=>obtain⟨z,its,r,ob,e,c⟩:=x;exact⟨z,its,r,ob,k _ _ (.inl rfl) e,c⟩
|dK kvs=>obtain⟨z,y,vs,r,ob,es,ep,e,c⟩:=x;exact⟨z,y,vs,r,ob,es,ep,k _ _ (.inl rfl) e,c⟩
|dT kvs =>
  obtain⟨z,y,xs,r,ob,es,ep,e,c⟩:=x
  exact⟨z,y,xs,Paired.mapP r fun p q z=>⟨z.1,ht _ _ z.2.1,z.2.2⟩,ob,es,ep,k _ _ (.inl rfl) e,c⟩
|set S n=>obtain⟨ob,es,ep,t,e,c⟩:=x;exact⟨ob,es,ep,t,k _ _ (.inl rfl) e,c⟩
|ins C dx fs =>
  obtain⟨d,z,ne,e,mA,⟨od,es,ep,e2,c⟩,r⟩:=x
  exact⟨ho _ d,z,ne,k _ _ (.inl rfl) e,mA,⟨od,es,ep,k _ _ (.inr d) e2,c⟩,r⟩
|own y=>obtain⟨ob,e⟩:=x;exact⟨ob,k _ _ (.inl rfl) e⟩
|xd fs=>obtain⟨mA,⟨od,es,ep,e,c⟩,r⟩:=x;exact⟨mA,⟨od,es,ep,k _ _ (.inl rfl) e,c⟩,r⟩
|rng lo hi=>obtain⟨t,u,v,e⟩:=x;exact⟨t,u,v,k _ _ (.inl rfl) e⟩
|frz ob u ih=>obtain⟨e,q⟩:=x;exact⟨k _ _ (.inl rfl) e,ih q⟩
|tbl ps =>
  have e:h.get? a=some { cls:=.none,data:=.fields ps }:=x
  show h'.get? a=some { cls:=.none,data:=.fields ps }
  exact k a _ (.inl rfl) e
|met f y =>
  have e:h.get? a=some (PySem.W.methodObj (.ref f) (.ref y)):=x
  show h'.get? a=some (PySem.W.methodObj (.ref f) (.ref y))
  exact k a _ (.inl rfl) e
|ext φ=>obtain⟨p,⟨o,e⟩,st⟩:=x;exact⟨st _ _ p fun o q=>k _ _ (.inl rfl) q,⟨o,k _ _ (.inl rfl) e⟩,st⟩
theorem HOk.lt (x:HOk P w H h) (e:H a=some o):a<h.objs.size:=(x a o e).lt
theorem HOk.fresh (x:HOk P w H h) (e:h.objs.size<=a):H a=none:=by
 cases q:H a with
|none=>rfl
|some u=>exact absurd (Nat.lt_of_lt_of_le (x.lt q) e) (Nat.lt_irrefl _)
theorem HOk.kept (x:HOk P w H h) (k:∀b u,h.get? b=some u->h'.get? b=some u):HOk P w H h':=fun a o e =>
 (x a o e).stay (fun b u _ q=>k b u q) (fun _ q=>q) fun _ _ q=>q
theorem HOk.laid (x:HOk P w H h) (k:∀b u,h.get? b=some u->h'.get? b=some u) (hp:h.objs.size<=a) (new:cF P w (upd H a o) h' a o):HOk P w (upd H a o) h':=fun b u e=>by
 have hn:=x.fresh hp
 by_cases hb:b=a
 .subst hb;rw [aL] at e;cases e;exact new
 .rw [aB hb] at e
  exact (x b u e).stay (fun c v _ q=>k c v q) (fun c q=>by rw [aB (bi q hn)];exact q) fun c xs q=>by rw [aB (bi q hn)];exact q
end
def Rd (H:Hp) (a:Addr) (u:HO):Prop:=H a=some u\/∃o,H a=some (.frz o u)
theorem Rd.ok {P:Program}{w:World}{H:Hp}{h:Heap}{a:Addr}{u:HO} (r:Rd H a u) (x:HOk P w H h):cF P w H h a u:=by
 rcases r with r|⟨o,r⟩
 .exact x a u r
 .obtain⟨_,q⟩:=x a _ r
  exact q
def Mut:Option HO->Prop
|some (.lst _)=>True
|some (.dK _)=>True
|some (.dT _)=>True
|some (.set _ _)=>True
|some (.ins _ _ _)=>True
|some (.ext _)=>True
|_=>False
section
variable {P:Program}{w:World}{H:Hp}{h h':Heap}{x e:Addr}{o':HO}
theorem HOk.write (ok:HOk P w H h) (mu:Mut (H x)) (he:e=x\/H e=some (.own x)) (k:∀b u,b≠e->h.get? b=some u->h'.get? b=some u) (heo:∃u,h'.get? e=some u)
  (new:cF P w (upd H x o') h' x o'):HOk P w (upd H x o') h':=fun b u q=>by
 have nown:∀c y,H c=some (.own y)->c≠x:=fun c y r z=>by subst z;rw [r] at mu;exact mu
 have ntup:∀c xs,H c=some (.tup xs)->c≠x:=fun c xs r z=>by subst z;rw [r] at mu;exact mu
 by_cases hb:b=x
 .subst hb;rw [aL] at q;cases q;exact new
 .rw [aB hb] at q
  by_cases hbe:b=e
  .have q':H b=some (.own x):=by
    rcases he with z|z
    .exact absurd (hbe.trans z) hb
    .rw [hbe];exact z
   rw [q] at q';cases q'
   obtain⟨v,hv⟩:=heo
   exact⟨v,by rw [hbe];exact hv⟩
  .refine (ok b u q).stay (fun c v hc r=>k c v ?_ r) (fun c r=>by rw [aB (nown c b r)];exact r) fun c xs r=>by rw [aB (ntup c xs r)];exact r
   rcases hc with rfl|hc
   .exact hbe
   .rintro rfl
    rcases he with z|z
    .exact nown c b hc z
    .rw [hc] at z;cases z;exact hb rfl
end
structure Un (fs ex:List Addr) (H H':Hp) (h h':Heap):Prop where
 keep:∀b o,h.get? b=some o->H b=none->b∉fs->b∉ex->h'.get? b=some o
 slot:∀b o,h.get? b=some o->H b=none->b∈fs->b∉ex->∃sl,h'.get? b=some { o with slots:=sl }
 free:∀b o,h.get? b=some o->H b=none->b∉ex->H' b=none
 there:∀b o,h.get? b=some o->b∉ex->∃o',h'.get? b=some o'
 tups:∀b xs,H b=some (.tup xs)->H' b=some (.tup xs)
 frzs:∀b o u,H b=some (.frz o u)->H' b=some (.frz o u)
 tbls:∀b ps,H b=some (.tbl ps)->∃more,H' b=some (.tbl (ps++more))
section
variable {fs fs' ex ex':List Addr}{H H1 H2:Hp}{h h1 h2 h':Heap}{a x e:Addr}{o:HO}
theorem Un.any (u:Un fs ex H H1 h h1) {b:Addr}{ob:Obj} (q:h.get? b=some ob) (n:H b=none) (hx:b∉ex):∃sl,h1.get? b=some { ob with slots:=sl }:=by
 by_cases hb:b∈fs
 .exact u.slot b ob q n hb hx
 .exact⟨ob.slots,u.keep b ob q n hb hx⟩
theorem Un.kept (k:∀b u,h.get? b=some u->h'.get? b=some u):Un fs ex H H h h' :=
 ⟨fun b ob q _ _ _=>k b ob q,fun b ob q _ _ _=>⟨ob.slots,k b ob q⟩,fun _ _ _ n _=>n,fun b ob q _=>⟨ob,k b ob q⟩,fun _ _ q=>q,fun _ _ _ q=>q,fun _ ps q=>⟨#[],by rw [q];simp⟩⟩
theorem Un.refl:Un fs ex H H h h:=Un.kept fun _ _ q=>q
theorem Un.laid (k:∀b u,h.get? b=some u->h'.get? b=some u) (hp:h.objs.size<=a) (hn:H a=none):Un fs ex H (upd H a o) h h' where
 keep:=fun b u q _ _ _=>k b u q
 slot:=fun b u q _ _ _=>⟨u.slots,k b u q⟩
 free:=fun b u q n _=>by rw [aB (Nat.ne_of_lt (Nat.lt_of_lt_of_le (Heap.lt_size q) hp))];exact n
 there:=fun b u q _=>⟨u,k b u q⟩
 tups:=fun b xs q=>by rw [aB (bi q hn)];exact q
 frzs:=fun b u xs q=>by rw [aB (bi q hn)];exact q
 tbls:=fun b ps q=>⟨#[],by rw [aB (bi q hn),q];simp⟩
theorem Un.write (mu:Mut (H x)) (he:e=x\/H e=some (.own x)) (k:∀b u,b≠e->h.get? b=some u->h'.get? b=some u) (heo:∃u,h'.get? e=some u):Un fs ex H (upd H x o) h h':=by
 have hx:∀b,H b=none->b≠x:=fun b n z=>by subst z;rw [n] at mu;exact mu
 have hb:∀b,H b=none->b≠e:=fun b n z=>by
  subst z
  rcases he with r|r
  .exact hx b n r
  .rw [n] at r;cases r
 have hm:∀b u,H b=some u->¬ Mut (some u)->b≠x:=fun b u q nm z=>by subst z;rw [q] at mu;exact nm mu
 refine⟨fun b u q n _ _=>k b u (hb b n) q,fun b u q n _ _=>⟨u.slots,k b u (hb b n) q⟩,fun b u q n _=>by rw [aB (hx b n)];exact n,fun b u q _=>?_,
  fun b xs q=>by rw [aB (hm b _ q fun z=>z)];exact q,fun b u xs q=>by rw [aB (hm b _ q fun z=>z)];exact q,fun b ps q=>⟨#[],by rw [aB (hm b _ q fun z=>z),q];simp⟩⟩
 by_cases hbe:b=e
 .subst hbe;exact heo
 .exact⟨u,k b u hbe q⟩
end
def trk (h:Heap) (H:Hp):List Addr:=(List.range h.objs.size).filter fun a=>(H a).isSome
def xE (h:Heap) (H:Hp):Heap:=PySem.W.hideAll h (trk h H)
theorem uS (h:Heap) (H:Hp):(xE h H).objs.size=h.objs.size:=PySem.W.hideAll_size _ _
theorem xF {h:Heap}{H:Hp}{b:Addr}{o:Obj} (e:h.get? b=some o) (n:H b=none):(xE h H).get? b=some o :=
 PySem.W.hideAll_get _ e fun hm=>by
  have q:(H b).isSome=true:=(List.mem_filter.mp hm).2
  rw [n] at q;simp at q
theorem zW {h:Heap}{H:Hp}{b:Addr}{o:Obj} (e:(xE h H).get? b=some o):h.get? b=some o/\H b=none:=by
 have e':h.get? b=some o:=PySem.W.of_hideAll (trk h H) e
 refine⟨e',?_⟩
 cases q:H b with
|none=>rfl
|some x =>
  have hm:b∈trk h H:=List.mem_filter.mpr ⟨List.mem_range.mpr (Heap.lt_size e'),by simp [q]⟩
  have z:(xE h H).get? b=none:=PySem.W.hideAll_none (trk h H) hm
  rw [z] at e;cases e
structure Mod (K:PySem.W.Frag) (mg:Str->Option Value) (base:Heap):Prop where
 kin:K.In base
 glob:base.Ns mainGlobals mg
 blt:∃mb,base.Ns builtinsNs mb/\∀x:Str,x≠"__name__"->mb x=bootBuiltins x
 nolimit:base.NoLimit
structure Cx where
 prog:Program
 w:World
 K:PySem.W.Frag
 mg:Str->Option Value
 base:Heap
 A:Around
 N:List Str
 s₀:Shared
 H₀:Hp
 env:Env
 outer:List Env
 stack:List Env
 ex:List Addr
 fn:Str->Bool
 calm:Bool
 pn:List (Addr×Obj)
 xe:Value->Shared->Prop
def frs (l:List Env):List Addr:=l.filterMap (·.frame)
abbrev Cx.fs (X:Cx):List Addr:=frs X.outer
def Vis (sc:Scope) (x:Str):Prop:=sc.names.lookup x=some .local\/sc.names.lookup x=some .cell\/sc.names.lookup x=some .free
def Loc (sc:Scope) (x:Str):Prop:=sc.names.lookup x=some .local\/sc.names.lookup x=some .cell
def Gc (env:Env) (h:Heap) (m:Str->Option Value) (x:Str) (u:Value):Prop :=
 (env.kindOf x=some .local/\m x=some u)\/((env.kindOf x=some .cell\/env.kindOf x=some .free)/\∃c,env.cells.lookup x=some c/\h.IsCell c (some u))
structure Cx.Ok (X:Cx):Prop where
 mod:Mod X.K X.mg X.base
 kind:X.env.scope.kind=.function
 glob:X.env.globals=mainGlobals
 blt:X.env.builtins=builtinsNs
 above:X.s₀.heap.objs.size<=X.env.locals
 inj:∀x y c,X.env.cells.lookup x=some c->X.env.cells.lookup y=some c->x=y
 has:∀x,(X.env.kindOf x=some .cell\/X.env.kindOf x=some .free)->∃c,X.env.cells.lookup x=some c
 cab:∀x c,X.fn x=true->X.env.cells.lookup x=some c->X.s₀.heap.objs.size<=c
 hd:X.calm=true->X.A.handled=none
 frames:X.A.frames=some X.stack
 stk:X.stack=X.outer\/(X.stack=X.env::X.outer/\X.env.frame=some X.env.locals)
 exf:∀b∈X.ex,b≠X.env.locals/\∀x c,X.env.cells.lookup x=some c->c≠b
 bs:∀b o,X.base.get? b=some o->X.s₀.heap.get? b=some o/\X.H₀ b=none
 bsz:X.base.objs.size<=X.s₀.heap.objs.size
 noex:∀b o,X.base.get? b=some o->b∉X.ex
 exfs:∀b∈X.ex,b∉X.fs
 funs:X.s₀.heap.FunFrames X.base X.outer
 frf:∀b∈X.fs,X.H₀ b=none
structure Inv (X:Cx) (pins:List (Addr×Obj)) (σ:List (Option V)) (H:Hp) (s:Shared):Prop where
 ok:X.Ok
 os:s.os=X.s₀.os
 bare:AllBare s.gens
 base:Un X.fs X.ex X.H₀ H X.s₀.heap s.heap
 loc:∃m,s.heap.Ns X.env.locals m/\∀(i:Nat) (x:Str) (v:V),X.N[i]?=some x->σ[i]?=some (some v)->Vis X.env.scope x->∃u,dh v u/\Gc X.env s.heap m x u
 cell:∀x c,X.env.cells.lookup x=some c->∃v,s.heap.IsCell c v
 free:H X.env.locals=none
 freeC:∀x c,X.env.cells.lookup x=some c->H c=none
 pin:∀p∈X.pn++pins,s.heap.get? p.1=some p.2/\H p.1=none/\p.1≠X.env.locals/\p.1∉X.fs/\∀v,p.2.data≠.cell v
 hok:HOk X.prog X.w H s.heap
 len:σ.length=X.N.length
section
variable {X:Cx}{pins:List (Addr×Obj)}{σ:List (Option V)}{H H':Hp}{s:Shared}{h':Heap}
theorem Cx.Ok.nofr (ok:X.Ok) {b:Addr}{o:Obj} (e:X.base.get? b=some o):b∉X.fs:=fun hb=>by
 have:=(ok.funs.mem hb).1
 rw [e] at this;cases this
theorem Inv.bs (I:Inv X pins σ H s):∀b o,X.base.get? b=some o->s.heap.get? b=some o/\H b=none:=fun b o e =>
 ⟨I.base.keep b o (I.ok.bs b o e).1 (I.ok.bs b o e).2 (I.ok.nofr e) (I.ok.noex b o e),I.base.free b o (I.ok.bs b o e).1 (I.ok.bs b o e).2 (I.ok.noex b o e)⟩
theorem Inv.bk (I:Inv X pins σ H s):∀b o,X.base.get? b=some o->s.heap.get? b=some o:=fun b o e=>(I.bs b o e).1
theorem Inv.mod (I:Inv X pins σ H s):Mod X.K X.mg X.base:=I.ok.mod
theorem Inv.kIn (I:Inv X pins σ H s):X.K.In s.heap:=I.ok.mod.kin.keeps I.bk
theorem Inv.lt (I:Inv X pins σ H s):X.env.locals<s.heap.objs.size:=let ⟨_,hn,_⟩:=I.loc;hn.lt
theorem Inv.sz (I:Inv X pins σ H s):X.s₀.heap.objs.size<=s.heap.objs.size:=Nat.le_trans I.ok.above (Nat.le_of_lt I.lt)
theorem Inv.nofs (I:Inv X pins σ H s) {a:Addr} (h:s.heap.objs.size<=a):a∉X.fs:=fun hb=>by
 obtain⟨_,o,ho,_⟩:=I.ok.funs.mem hb
 exact absurd (Nat.lt_of_lt_of_le (Heap.lt_size ho) (Nat.le_trans I.sz h)) (Nat.lt_irrefl _)
theorem Inv.cne (I:Inv X pins σ H s):∀x c,X.env.cells.lookup x=some c->c≠X.env.locals:=fun x c e z=>by
 obtain⟨v,o,ho,hd⟩:=I.cell x c e
 obtain⟨m,⟨o',es,ep,ho',hd',_⟩,_⟩:=I.loc
 rw [z,ho'] at ho;cases ho;rw [hd'] at hd;cases hd
theorem Inv.funs (I:Inv X pins σ H s):s.heap.FunFrames X.base X.outer:=by
 have all:∀(l:List Env),(∀b∈frs l,b∈X.fs)->X.s₀.heap.FunFrames X.base l->s.heap.FunFrames X.base l:=by
  intro l
  induction l with
 |nil=>intro _ _;trivial
 |cons env r ih =>
   intro hs hl
   obtain⟨hk,⟨L,o,hf,hn,ho,hd⟩,hr⟩:=hl
   have hL:L∈X.fs:=hs L (by unfold frs;rw [List.filterMap_cons,hf];exact List.mem_cons_self)
   obtain⟨sl,e⟩:=I.base.slot L o ho (I.ok.frf L hL) hL fun z=>I.ok.exfs L z hL
   exact⟨hk,⟨L,_,hf,hn,e,hd⟩,ih (fun b hb=>hs b (by unfold frs;rw [List.filterMap_cons,hf];exact List.mem_cons_of_mem _ hb)) hr⟩
 exact all X.outer (fun _ hb=>hb) I.ok.funs
theorem Inv.stack (I:Inv X pins σ H s):s.heap.FunFrames X.base X.stack:=by
 rcases I.ok.stk with e|⟨e,hf⟩
 .rw [e];exact I.funs
 .rw [e]
  obtain⟨m,hn,_⟩:=I.loc
  refine .cons (by rw [I.ok.kind];decide) hf hn ?_ I.funs
  exact Heap.get?_none_of_le (Nat.le_trans I.ok.bsz I.ok.above)
theorem Inv.stkSub (I:Inv X pins σ H s):∀b∈frs X.stack,b∈X.env.locals::X.fs:=fun b hb=>by
 rcases I.ok.stk with e|⟨e,hf⟩
 .rw [e] at hb;exact List.mem_cons_of_mem _ hb
 .rw [e] at hb
  unfold frs at hb
  rw [List.filterMap_cons,hf] at hb
  exact hb
theorem Inv.stkFree (I:Inv X pins σ H s):∀b∈frs X.stack,H b=none:=fun b hb=>by
 rcases List.mem_cons.mp (I.stkSub b hb) with e|hb
 .rw [e];exact I.free
 .obtain⟨_,o,ho,_⟩:=I.ok.funs.mem hb
  exact I.base.free b o ho (I.ok.frf b hb) fun z=>I.ok.exfs b z hb
theorem Inv.step {g':Array GenState}{t':Nat}{d':Drawn}{ch:List Addr} (I:Inv X pins σ H s)
  (hch:∀b∈ch,(b∈X.ex\/X.s₀.heap.objs.size<=b)/\b≠X.env.locals/\(∀x c,X.env.cells.lookup x=some c->c≠b)/\∀p∈X.pn++pins,p.1≠b)
  (keep:∀b o,b≠X.env.locals->b∉X.fs->b∉ch->s.heap.get? b=some o->H b=none->h'.get? b=some o)
  (slot:∀b o,b≠X.env.locals->b∈X.fs->b∉ch->s.heap.get? b=some o->H b=none->∃sl,h'.get? b=some { o with slots:=sl }) (free:∀b o,b∉ch->s.heap.get? b=some o->H b=none->H' b=none)
  (there:∀b o,b∉ch->s.heap.get? b=some o->∃o',h'.get? b=some o')
  (tups:∀b xs,H b=some (.tup xs)->H' b=some (.tup xs)) (frzs:∀b o u,H b=some (.frz o u)->H' b=some (.frz o u)) (tbls:∀b ps,H b=some (.tbl ps)->∃more,H' b=some (.tbl (ps++more)))
  (ns:∀m,s.heap.Ns X.env.locals m->h'.Ns X.env.locals m) (hok:HOk X.prog X.w H' h') (hg:AllBare g') :
  Inv X pins σ H' { s with heap:=h',gens:=g',drawn:=d',toks:=t' }:=by
 have neL:∀b o,X.s₀.heap.get? b=some o->b≠X.env.locals:=fun b o e=>Nat.ne_of_lt (Nat.lt_of_lt_of_le (Heap.lt_size e) I.ok.above)
 have neC:∀b o,X.s₀.heap.get? b=some o->b∉X.ex->b∉ch:=fun b o e hx hb=>by
  rcases (hch b hb).1 with z|z
  .exact hx z
  .exact absurd (Nat.lt_of_lt_of_le (Heap.lt_size e) z) (Nat.lt_irrefl _)
 have cellK:∀x c,X.env.cells.lookup x=some c->∀v,s.heap.IsCell c v->h'.IsCell c v:=fun x c e v ⟨o,ho,hd⟩=>by
  have nch:c∉ch:=fun z=>(hch c z).2.2.1 x c e rfl
  by_cases hc:c∈X.fs
  .obtain⟨sl,q⟩:=slot c o (I.cne x c e) hc nch ho (I.freeC x c e)
   exact⟨_,q,hd⟩
  .exact⟨o,keep c o (I.cne x c e) hc nch ho (I.freeC x c e),hd⟩
 refine⟨I.ok,I.os,hg,⟨fun b o e n hb hx=>?_,fun b o e n hb hx=>?_,fun b o e n hx=>?_,fun b o e hx=>?_,fun b xs e=>tups b xs (I.base.tups b xs e),fun b o xs e=>frzs b o xs (I.base.frzs b o xs e),fun b ps e=>?_⟩,?_,fun x c e=>?_,?_,fun x c e=>?_,fun p hp=>?_,hok,I.len⟩
 .exact keep b o (neL b o e) hb (neC b o e hx) (I.base.keep b o e n hb hx) (I.base.free b o e n hx)
 .obtain⟨sl,e1⟩:=I.base.slot b o e n hb hx
  obtain⟨sl',e2⟩:=slot b _ (neL b o e) hb (neC b o e hx) e1 (I.base.free b o e n hx)
  exact⟨sl',e2⟩
 .obtain⟨o',e1⟩:=I.base.there b o e hx
  exact free b o' (neC b o e hx) e1 (I.base.free b o e n hx)
 .obtain⟨o',e1⟩:=I.base.there b o e hx
  exact there b o' (neC b o e hx) e1
 .obtain⟨m1,e1⟩:=I.base.tbls b ps e
  obtain⟨m2,e2⟩:=tbls b _ e1
  exact⟨m1++m2,by rw [e2,Array.append_assoc]⟩
 .obtain⟨m,hn,hl⟩:=I.loc
  refine⟨m,ns m hn,fun i x v e1 e2 e3=>?_⟩
  obtain⟨u,r,l⟩:=hl i x v e1 e2 e3
  refine⟨u,r,?_⟩
  rcases l with l|⟨k,c,e,z⟩
  .exact .inl l
  .exact .inr ⟨k,c,e,cellK x c e _ z⟩
 .obtain⟨v,z⟩:=I.cell x c e
  exact⟨v,cellK x c e v z⟩
 .obtain⟨m,⟨o,_,_,ho,_⟩,_⟩:=I.loc
  exact free _ o (fun z=>(hch _ z).2.1 rfl) ho I.free
 .obtain⟨v,o,ho,hd⟩:=I.cell x c e
  exact free c o (fun z=>(hch c z).2.2.1 x c e rfl) ho (I.freeC x c e)
 .obtain⟨e,n,ne,nf,d⟩:=I.pin p hp
  have nch:p.1∉ch:=fun z=>(hch p.1 z).2.2.2 p hp rfl
  exact⟨keep p.1 p.2 ne nf nch e n,free p.1 p.2 nch e n,ne,nf,d⟩
theorem Inv.un {t':Nat} (I:Inv X pins σ H s) (u:Un X.fs [] H H' s.heap h') (hok:HOk X.prog X.w H' h'):Inv X pins σ H' { s with heap:=h',toks:=t' }:=by
 obtain⟨m,⟨o,es,ep,ho,r⟩,_⟩:=id I.loc
 obtain⟨sl,hL⟩:=u.any ho I.free (by simp)
 exact I.step (g':=s.gens) (d':=s.drawn) (ch:=[]) (fun _ z=>nomatch z) (fun b o _ hb _ e n=>u.keep b o e n hb (by simp)) (fun b o _ hb _ e n=>u.slot b o e n hb (by simp)) (fun b o _ e n=>u.free b o e n (by simp)) (fun b o _ e=>u.there b o e (by simp)) u.tups u.frzs u.tbls (fun m' hm=>by
  obtain⟨o',es',ep',ho',r'⟩:=hm
  rw [ho] at ho';cases ho'
  exact⟨_,es',ep',hL,r'⟩) hok I.bare
theorem Inv.call {g':Array GenState}{t':Nat}{d':Drawn}{ch:List Addr} (I:Inv X pins σ H s) (u:Un (frs X.stack) ch H H' s.heap h') (hok:HOk X.prog X.w H' h') (hg:AllBare g')
  (hch:∀b∈ch,(b∈X.ex\/X.s₀.heap.objs.size<=b)/\b≠X.env.locals/\(∀x c,X.env.cells.lookup x=some c->c≠b)/\∀p∈X.pn++pins,p.1≠b) :
  Inv X pins σ H' { s with heap:=h',gens:=g',drawn:=d',toks:=t' }:=by
 obtain⟨m,⟨o,es,ep,ho,r⟩,_⟩:=id I.loc
 obtain⟨sl,hL⟩:=u.any ho I.free fun z=>(hch _ z).2.1 rfl
 exact I.step (ch:=ch) hch (fun b o hL hb hc e n=>u.keep b o e n (fun z=>(List.mem_cons.mp (I.stkSub b z)).elim hL hb) hc) (fun b o _ _ hc e n=>u.any e n hc) (fun b o hc e n=>u.free b o e n hc) (fun b o hc e=>u.there b o e hc) u.tups u.frzs u.tbls (fun m' hm=>by
  obtain⟨o',es',ep',ho',r'⟩:=hm
  rw [ho] at ho';cases ho'
  exact⟨_,es',ep',hL,r'⟩) hok hg
theorem Inv.turned {t':Nat}{it:Addr} (I:Inv X pins σ H s) (k:∀b o,b≠it->s.heap.get? b=some o->h'.get? b=some o) (hn:H it=none) (hL:it≠X.env.locals)
  (h1:it∈X.ex\/X.s₀.heap.objs.size<=it) (h2:∀x c,X.env.cells.lookup x=some c->c≠it) (h3:∀p∈X.pn++pins,p.1≠it):Inv X pins σ H { s with heap:=h',toks:=t' }:=by
 have nit:∀b u,H b=some u->b≠it:=fun b u e z=>by rw [z,hn] at e;cases e
 refine I.step (g':=s.gens) (d':=s.drawn) (ch:=[it]) (fun b hb=>?_) (fun b o _ _ hc e _=>k b o (fun z=>hc (by simp [z])) e) (fun b o _ _ hc e _=>⟨o.slots,k b o (fun z=>hc (by simp [z])) e⟩) (fun _ _ _ _ n=>n)
  (fun b o hc e=>⟨o,k b o (fun z=>hc (by simp [z])) e⟩) (fun _ _ e=>e) (fun _ _ _ e=>e) (fun b ps e=>⟨#[],by rw [e];simp⟩) (fun m hm=>?_) (fun b u e=>?_) I.bare
 .have e:b=it:=by simpa using hb
  subst e
  exact⟨h1,hL,h2,h3⟩
 .obtain⟨o,es,ep,ho,r⟩:=hm
  exact⟨o,es,ep,k _ o (Ne.symm hL) ho,r⟩
 .refine (I.hok b u e).stay (fun c v hc q=>k c v ?_ q) (fun _ q=>q) fun _ _ q=>q
  rcases hc with z|z
  .rw [z];exact nit b u e
  .exact nit c _ z
theorem Inv.tok (I:Inv X pins σ H s) (t:Nat):Inv X pins σ H { s with toks:=t }:=I.un (h':=s.heap) (t':=t) Un.refl I.hok
theorem Inv.kept {t':Nat} (I:Inv X pins σ H s) (k:∀b u,s.heap.get? b=some u->h'.get? b=some u):Inv X pins σ H { s with heap:=h',toks:=t' }:=I.un (Un.kept k) (I.hok.kept k)
theorem Inv.laid {a:Addr}{o:HO}{t':Nat} (I:Inv X pins σ H s) (k:∀b u,s.heap.get? b=some u->h'.get? b=some u) (hp:s.heap.objs.size<=a) (new:cF X.prog X.w (upd H a o) h' a o) :
  Inv X pins σ (upd H a o) { s with heap:=h',toks:=t' }:=I.un (Un.laid k hp (I.hok.fresh hp)) (I.hok.laid k hp new)
theorem Inv.write {x e:Addr}{o:HO}{t':Nat} (I:Inv X pins σ H s) (mu:Mut (H x)) (he:e=x\/H e=some (.own x)) (k:∀b u,b≠e->s.heap.get? b=some u->h'.get? b=some u) (heo:∃u,h'.get? e=some u)
  (new:cF X.prog X.w (upd H x o) h' x o):Inv X pins σ (upd H x o) { s with heap:=h',toks:=t' }:=I.un (Un.write mu he k heo) (I.hok.write mu he k heo new)
theorem Inv.pins_of {pins':List (Addr×Obj)} (I:Inv X pins σ H s) (h:∀p∈pins',s.heap.get? p.1=some p.2/\H p.1=none/\p.1≠X.env.locals/\p.1∉X.fs/\∀v,p.2.data≠.cell v):Inv X pins' σ H s :=
 ⟨I.ok,I.os,I.bare,I.base,I.loc,I.cell,I.free,I.freeC,fun p hp=>(List.mem_append.mp hp).elim (fun z=>I.pin p (List.mem_append_left _ z)) (h p),I.hok,I.len⟩
theorem rS {N:List Str} (hN:N.Nodup) {i j:Nat}{x:Str} (a:N[i]?=some x) (b:N[j]?=some x):i=j:=by
 obtain⟨h1,e1⟩:=List.getElem?_eq_some_iff.mp a
 obtain⟨h2,e2⟩:=List.getElem?_eq_some_iff.mp b
 exact (List.getElem_inj hN).mp (e1.trans e2.symm)
theorem uT {M:Model}{A:Around}{E:Value->Shared->Prop}{i:Nat}{x:Str}{v:V}{u:Value}{Q:Unit->Shared->Prop} (I:Inv X pins σ H s) (hN:X.N.Nodup) (hi:X.N[i]?=some x) (hx:Loc X.env.scope x) (r:dh v u)
  (h:∀s',Inv X pins (σ.set i (some v)) H s'->(∃a,Heap.SameBut a s.heap s'.heap/\(a=X.env.locals\/X.env.cells.lookup x=some a))->Q () s') (hf:X.fn x=true\/X.env.scope.names.lookup x=some .local:=by first|exact .inl rfl|exact .inr rfl|assumption):wpAny M A (storeName X.env x u) Q E s:=by
 obtain⟨m,hn,hl⟩:=id I.loc
 have hcls:(X.env.scope.kind == .class || (X.env.scope.kind == .module && X.env.locals != X.env.globals))=false:=by rw [I.ok.kind];rfl
 have hiσ:i<σ.length:=by rw [I.len];exact (List.getElem?_eq_some_iff.mp hi).1
 have cne:=I.cne
 have tracked:∀{a:Addr}{h':Heap},(∃o,s.heap.get? a=some o/\H a=none)->Heap.SameBut a s.heap h'->HOk X.prog X.w H h':=fun {a h'} ha hs b ob e=>by
  obtain⟨_,_,hfree⟩:=ha
  refine (I.hok b ob e).stay (fun c w' hc q=>(hs.2 c ?_).trans q) (fun _ q=>q) fun _ _ q=>q
  rintro rfl
  rcases hc with rfl|hc
  .rw [hfree] at e;cases e
  .rw [hfree] at hc;cases hc
 rcases hx with hk|hk
 .refine wpAny_storeName_local hk hn (fun h' hn' hs=>?_) hcls
  obtain⟨oL,_,_,hoL,_⟩:=id hn
  refine h _ ⟨I.ok,I.os,I.bare,⟨fun b o e n hb hx=>?_,fun b o e n hb hx=>?_,I.base.free,fun b o e hx=>?_,I.base.tups,I.base.frzs,I.base.tbls⟩,⟨_,hn',fun j y v' e1 e2 e3=>?_⟩,fun y c e=>?_,I.free,I.freeC,fun p hp=>?_,tracked ⟨oL,hoL,I.free⟩ hs,by simpa using I.len⟩ ⟨_,hs,.inl rfl⟩
  .exact (hs.2 b (Nat.ne_of_lt (Nat.lt_of_lt_of_le (Heap.lt_size e) I.ok.above))).trans (I.base.keep b o e n hb hx)
  .obtain⟨sl,e1⟩:=I.base.slot b o e n hb hx
   exact⟨sl,(hs.2 b (Nat.ne_of_lt (Nat.lt_of_lt_of_le (Heap.lt_size e) I.ok.above))).trans e1⟩
  .obtain⟨o',e1⟩:=I.base.there b o e hx
   exact⟨o',(hs.2 b (Nat.ne_of_lt (Nat.lt_of_lt_of_le (Heap.lt_size e) I.ok.above))).trans e1⟩
  .by_cases hj:j=i
   .subst hj
    rw [hi] at e1;cases e1
    rw [List.getElem?_set_self hiσ] at e2
    cases e2
    exact⟨u,r,.inl ⟨hk,by simp⟩⟩
   .rw [List.getElem?_set_ne (Ne.symm hj)] at e2
    obtain⟨u',r',q⟩:=hl j y v' e1 e2 e3
    refine⟨u',r',?_⟩
    rcases q with ⟨k,e⟩|⟨k,c,e,z⟩
    .refine .inl ⟨k,?_⟩
     have:y≠x:=fun e=>hj (rS hN e1 (e ▸ hi))
     simp [this,e]
    .exact .inr ⟨k,c,e,z.sameBut hs (cne y c e)⟩
  .obtain⟨w',z⟩:=I.cell y c e
   exact⟨w',z.sameBut hs (cne y c e)⟩
  .obtain⟨e,n,ne,nf,d⟩:=I.pin p hp
   exact⟨(hs.2 p.1 ne).trans e,n,ne,nf,d⟩
 .have hfn:X.fn x=true:=by
   rcases hf with z|z
   .exact z
   .rw [z] at hk;cases hk
  obtain⟨c,hc⟩:=I.ok.has x (.inl hk)
  obtain⟨w',z⟩:=I.cell x c hc
  refine wpAny_storeName_cell I.ok.kind hk hc z (fun h' hc' hs=>?_)
  obtain⟨oc,hoc,hocd⟩:=id z
  refine h { s with heap:=h' } ⟨I.ok,I.os,I.bare,⟨fun b o e n hb hx=>?_,fun b o e n hb hx=>?_,I.base.free,fun b o e hx=>?_,I.base.tups,I.base.frzs,I.base.tbls⟩,⟨m,hn.sameBut hs (Ne.symm (cne x c hc)),fun j y v' e1 e2 e3=>?_⟩,fun y c' e=>?_,I.free,I.freeC,fun p hp=>?_,tracked ⟨oc,hoc,I.freeC x c hc⟩ hs,by simpa using I.len⟩ ⟨c,hs,.inr hc⟩
  .exact (hs.2 b (Nat.ne_of_lt (Nat.lt_of_lt_of_le (Heap.lt_size e) (I.ok.cab x c hfn hc)))).trans (I.base.keep b o e n hb hx)
  .obtain⟨sl,e1⟩:=I.base.slot b o e n hb hx
   exact⟨sl,(hs.2 b (Nat.ne_of_lt (Nat.lt_of_lt_of_le (Heap.lt_size e) (I.ok.cab x c hfn hc)))).trans e1⟩
  .obtain⟨o',e1⟩:=I.base.there b o e hx
   exact⟨o',(hs.2 b (Nat.ne_of_lt (Nat.lt_of_lt_of_le (Heap.lt_size e) (I.ok.cab x c hfn hc)))).trans e1⟩
  .by_cases hj:j=i
   .subst hj
    rw [hi] at e1;cases e1
    rw [List.getElem?_set_self hiσ] at e2
    cases e2
    exact⟨u,r,.inr ⟨.inl hk,c,hc,hc'⟩⟩
   .rw [List.getElem?_set_ne (Ne.symm hj)] at e2
    obtain⟨u',r',q⟩:=hl j y v' e1 e2 e3
    refine⟨u',r',?_⟩
    rcases q with q|⟨k,c',e,z'⟩
    .exact .inl q
    .refine .inr ⟨k,c',e,z'.sameBut hs ?_⟩
     rintro rfl
     exact hj (rS hN e1 (I.ok.inj _ _ _ e hc ▸ hi))
  .by_cases hcc:c'=c
   .subst hcc;exact⟨_,hc'⟩
   .obtain⟨w2,z2⟩:=I.cell y c' e
    exact⟨w2,z2.sameBut hs hcc⟩
  .obtain⟨e,n,ne,nf,d⟩:=I.pin p hp
   refine⟨(hs.2 p.1 ?_).trans e,n,ne,nf,d⟩
   intro q
   rw [q,hoc] at e
   have q':oc=p.2:=Option.some.inj e
   exact d w' (by rw [<- q'];exact hocd)
theorem m4 {M:Model}{A:Around}{E:Value->Shared->Prop}{i:Nat}{x:Str}{v:V}{u:Value}{Q:Unit->Shared->Prop} (I:Inv X pins σ H s) (hN:X.N.Nodup) (hi:X.N[i]?=some x) (hx:Loc X.env.scope x) (r:dh v u)
  (h:∀s',Inv X pins (σ.set i (some v)) H s'->Q () s') (hf:X.fn x=true\/X.env.scope.names.lookup x=some .local:=by first|exact .inl rfl|exact .inr rfl|assumption):wpAny M A (storeName X.env x u) Q E s :=
 uT I hN hi hx r (fun s' I' _=>h s' I') hf
theorem Inv.call' {s':Shared}{ch:List Addr} (I:Inv X pins σ H s) (ho:s'.os=s.os) (u:Un (frs X.stack) ch H H' s.heap s'.heap) (hok:HOk X.prog X.w H' s'.heap) (hg:AllBare s'.gens)
  (hch:∀b∈ch,(b∈X.ex\/X.s₀.heap.objs.size<=b)/\b≠X.env.locals/\(∀x c,X.env.cells.lookup x=some c->c≠b)/\∀p∈X.pn++pins,p.1≠b):Inv X pins σ H' s':=by
 obtain⟨h',g',d',t',o'⟩:=s'
 have e:o'=s.os:=ho
 subst e
 exact I.call (g':=g') (t':=t') (d':=d') u hok hg hch
end
abbrev XK:=Value->Option Addr->Hp->Prop
abbrev St:=List (Option V)
abbrev VK:=V->Hp->Prop
abbrev TE:=St->Hp->VK->Prop
abbrev TT:=St->Hp->(Bool->Hp->Prop)->Prop
abbrev TA:=St->Hp->(List V->Hp->Prop)->Prop
structure zX where
 nx:St->Hp->Prop
 rt:VK
 bk:St->Hp->Prop:=fun _ _=>False
 ct:St->Hp->Prop:=fun _ _=>False
abbrev TS:=zX->St->Hp->Prop
def EP (X:Cx) (pins:List (Addr×Obj)) (σ:St) (Q:VK) (u:Value) (s':Shared):Prop:=∃v H',Inv X pins σ H' s'/\dh v u/\Q v H'
def TP (X:Cx) (pins:List (Addr×Obj)) (σ:St) (Q:Bool->Hp->Prop) (b:Bool) (s':Shared):Prop:=∃H',Inv X pins σ H' s'/\Q b H'
def AP (X:Cx) (pins:List (Addr×Obj)) (σ:St) (Q:List V->Hp->Prop) (us:List Value) (s':Shared):Prop:=∃vs H',Inv X pins σ H' s'/\bW vs us/\Q vs H'
def SP (X:Cx) (pins:List (Addr×Obj)) (D:zX) (f:Flow) (s':Shared):Prop :=
 match f with
|.next=>∃σ' H',Inv X pins σ' H' s'/\D.nx σ' H'
|.brk=>∃σ' H',Inv X pins σ' H' s'/\D.bk σ' H'
|.cont=>∃σ' H',Inv X pins σ' H' s'/\D.ct σ' H'
|.ret u=>∃v σ' H',Inv X pins σ' H' s'/\dh v u/\D.rt v H'
def PE (X:Cx) (e:Expr) (t:TE):Prop :=
 ∀(pins:List (Addr×Obj)) (s:Shared) (σ:St) (H:Hp) (Q:VK),Inv X pins σ H s->t σ H Q->wpAny (model X.prog X.w) X.A (eval e X.env) (EP X pins σ Q) X.xe s
def PT (X:Cx) (e:Expr) (t:TT):Prop :=
 ∀(pins:List (Addr×Obj)) (s:Shared) (σ:St) (H:Hp) (Q:Bool->Hp->Prop),Inv X pins σ H s->t σ H Q->wpAny (model X.prog X.w) X.A (isTrue e X.env (eval e X.env)) (TP X pins σ Q) X.xe s
def PW (X:Cx) (e:Expr) (t:TT):Prop :=
 ∀(whole:Sem Value) (pins:List (Addr×Obj)) (s:Shared) (σ:St) (H:Hp) (Q:Bool->Hp->Prop),Inv X pins σ H s->t σ H Q->wpAny (model X.prog X.w) X.A (isTrue e X.env whole) (TP X pins σ Q) X.xe s
theorem PW.pt {X:Cx}{e:Expr}{t:TT} (h:PW X e t):PT X e t:=h _
def PA (X:Cx) (es:List Expr) (t:TA):Prop :=
 ∀(pos:Pos) (pins:List (Addr×Obj)) (s:Shared) (σ:St) (H:Hp) (Q:List V->Hp->Prop),Inv X pins σ H s->t σ H Q->wpAny (model X.prog X.w) X.A (spliced (backTo pos (starEach es X.env))) (AP X pins σ Q) X.xe s
def PS (X:Cx) (st:Stmt) (t:TS):Prop :=
 ∀(pins:List (Addr×Obj)) (s:Shared) (σ:St) (H:Hp) (D:zX),Inv X pins σ H s->t D σ H->wpAny (model X.prog X.w) X.A (exec st X.env) (SP X pins D) X.xe s
def PSs (X:Cx) (st:List Stmt) (t:TS):Prop :=
 ∀(pins:List (Addr×Obj)) (s:Shared) (σ:St) (H:Hp) (D:zX),Inv X pins σ H s->t D σ H->wpAny (model X.prog X.w) X.A (execs st X.env) (SP X pins D) X.xe s
theorem thn {α:Type}{t:Sem α}{Q Q':α->Shared->Prop}{M:Model}{A:Around}{E:Value->Shared->Prop}{s:Shared} (h:wpAny M A t Q E s) (hQ:∀a s,Q a s->Q' a s):wpAny M A t Q' E s:=wpAny_mono h hQ fun _ _ x=>x
section
variable {X:Cx}
def a9 (i:Nat):TE:=fun σ H Q=>∃v,σ[i]?=some (some v)/\Q v H
def tC (v:V):TE:=fun _ H Q=>Q v H
theorem B9 {i:Nat}{x:Str}{pos:Pos} (hN:X.N[i]?=some x) (hv:Vis X.env.scope x) (hd:(x == ("__debug__":Str))=false:=by decide) (hcd:(x == ("__classdict__":Str))=false:=by decide):PE X (.Name x pos) (a9 i):=by
 intro pins s σ H Q I h
 obtain⟨v,e,h⟩:=h
 obtain⟨m,hn,hl⟩:=I.loc
 obtain⟨u,r,l⟩:=hl i x v hN e hv
 have fin:EP X pins σ Q u s:=⟨v,H,I,r,h⟩
 rcases l with ⟨hk,hm⟩|⟨hk,c,hc,hcell⟩
 .exact wpAny_Name (wpAny_loadName_local I.ok.kind hk hn hm fin) hd
 .rcases hk with hk|hk
  .exact wpAny_Name (wpAny_loadName_cell I.ok.kind hk hc hcell fin) hd
  .exact wpAny_Name (wpAny_loadName_free I.ok.kind hk hc hcell fin hcd) hd
theorem ai {i j pos}:PE X (.Constant (.int i) j pos) (tC (.int i)):=fun _ _ _ H _ I h=>wpAny_Constant_int ⟨.int i,H,I.tok _,⟨_,rfl⟩,h⟩
theorem oG {b j pos}:PE X (.Constant (.bool b) j pos) (tC (.bl b)):=fun _ _ _ H _ I h=>Constant_bool ⟨.bl b,H,I,rfl,h⟩
theorem gW {j pos}:PE X (.Constant .none j pos) (tC .non):=fun _ _ _ H _ I h=>Constant_none ⟨.non,H,I,rfl,h⟩
theorem Ca {x j pos}:PE X (.Constant (.str x) j pos) (tC (.str x)):=fun _ _ _ H _ I h=>Calls.Constant_str ⟨.str x,H,I.tok _,⟨_,rfl⟩,h⟩
def Gl (X:Cx) (x:Str):Prop:=X.env.kindOf x=some .globalImplicit
theorem qD {E:Value->Shared->Prop}{pins:List (Addr×Obj)}{s:Shared}{σ:St}{H:Hp}{x:Str}{u:Value}{pos:Pos}{Q:Value->Shared->Prop} (I:Inv X pins σ H s) (hg:Gl X x) (hm:X.mg x=some u) (h:Q u s)
  (hd:(x == ("__debug__":Str))=false:=by decide):wpAny (model X.prog X.w) X.A (eval (.Name x pos) X.env) Q E s :=
 Calls.Name_function_global I.ok.kind hg (Calls.loadGlobal_global (by rw [I.ok.glob];exact I.mod.glob.keeps I.bk) hm h) hd
theorem gc {E:Value->Shared->Prop}{pins:List (Addr×Obj)}{s:Shared}{σ:St}{H:Hp}{x:Str}{u:Value}{pos:Pos}{Q:Value->Shared->Prop} (I:Inv X pins σ H s) (hg:Gl X x) (hm:X.mg x=none) (hv:bootBuiltins x=some u) (h:Q u s)
  (hn:x≠"__name__":=by decide) (hd:(x == ("__debug__":Str))=false:=by decide):wpAny (model X.prog X.w) X.A (eval (.Name x pos) X.env) Q E s:=by
 obtain⟨mb,h1,h2⟩:=I.mod.blt
 exact Calls.Name_function_global I.ok.kind hg (Calls.loadGlobal_builtin (by rw [I.ok.glob];exact I.mod.glob.keeps I.bk) hm (by rw [I.ok.blt];exact h1.keeps I.bk) ((h2 x hn).trans hv) h) hd
theorem zY {x:Str}{v:V}{u:Value}{pos:Pos} (hg:Gl X x) (hm:X.mg x=some u) (r:dh v u) (hd:(x == ("__debug__":Str))=false:=by decide):PE X (.Name x pos) (tC v) :=
 fun _ _ _ H _ I h=>qD I hg hm ⟨v,H,I,r,h⟩ hd
theorem kj {x:Str}{v:V}{u:Value}{pos:Pos} (hg:Gl X x) (hm:X.mg x=none) (hv:bootBuiltins x=some u) (r:dh v u) (hn:x≠"__name__":=by decide) (hd:(x == ("__debug__":Str))=false:=by decide):PE X (.Name x pos) (tC v) :=
 fun _ _ _ H _ I h=>gc I hg hm hv ⟨v,H,I,r,h⟩ hn hd
variable {a b:Expr}{ta tb:TE}{pos:Pos}
def tB (t:TE):TT:=fun σ H Q=>t σ H fun x H1=>∃c,x=.bl c/\Q c H1
theorem Cb {e:Expr}{t:TE} (h:PE X e t) (he:∀whole,isTrue e X.env whole=(do let v <- whole;standAt e.pos;holding [v] (truthy v)):=by intro _;rfl):PT X e (tB t):=by
 intro pins s σ H Q I hw
 refine isTrue_plain (thn (h pins s σ H _ I hw) fun v s1 ⟨x,H1,I1,r1,q1⟩=>?_) (he _)
 obtain⟨d,rfl,q⟩:=q1
 cases r1
 exact wpAny_truthy_bool ⟨H1,I1,q⟩
variable {tA tB':TT}{rest:List Expr}
def Es (t u:TT):TT:=fun σ H Q=>t σ H fun c H1=>if c=true then u σ H1 Q else Q false H1
def tOr (t u:TT):TT:=fun σ H Q=>t σ H fun c H1=>if c=true then Q true H1 else u σ H1 Q
def Fs (t:TT):TT:=fun σ H Q=>t σ H fun c H1=>Q (!c) H1
theorem kl (ha:PT X a tA):PW X (.BoolOp .And [a] pos) tA:=by
 intro wh pins s σ H Q I h
 refine isTrue_and (thn (ha pins s σ H Q I h) fun c s1 e=>?_)
 cases c with
|true=>exact isTrue_and_nil e
|false=>exact e
theorem rT (ha:PT X a tA):PW X (.BoolOp .Or [a] pos) tA:=by
 intro wh pins s σ H Q I h
 refine isTrue_or (thn (ha pins s σ H Q I h) fun c s1 e=>?_)
 cases c with
|false=>exact isTrue_or_nil e
|true=>exact e
theorem oH (ha:PT X a tA) (hb:PW X (.BoolOp .And (b::rest) pos) tB'):PW X (.BoolOp .And (a::b::rest) pos) (Es tA tB'):=by
 intro wh pins s σ H Q I h
 refine isTrue_and (thn (ha pins s σ H _ I h) fun c s1 ⟨H1,I1,q1⟩=>?_)
 cases c with
|true=>exact hb wh pins s1 σ H1 Q I1 q1
|false=>exact⟨H1,I1,q1⟩
theorem tQ (ha:PT X a tA) (hb:PW X (.BoolOp .Or (b::rest) pos) tB'):PW X (.BoolOp .Or (a::b::rest) pos) (tOr tA tB'):=by
 intro wh pins s σ H Q I h
 refine isTrue_or (thn (ha pins s σ H _ I h) fun c s1 ⟨H1,I1,q1⟩=>?_)
 cases c with
|true=>exact⟨H1,I1,q1⟩
|false=>exact hb wh pins s1 σ H1 Q I1 q1
theorem jB (ha:PT X a tA):PT X (.UnaryOp .Not a pos) (Fs tA):=by
 intro pins s σ H Q I h
 exact isTrue_not (ha pins s σ H (fun c H1=>Q (!c) H1) I h)
def Cc (ta tb:TE):TE:=fun σ H Q=>ta σ H fun x H1=>∃c,x=.bl c/\if c=true then tb σ H1 Q else Q (.bl false) H1
def Cd (ta:TE):TE:=fun σ H Q=>ta σ H fun x H1=>∃c,x=.bl c/\Q (.bl (!c)) H1
theorem uU {op}{t:TE} (h:PE X a t):PE X (.BoolOp op [a] pos) t:=fun pins s σ H Q I hw=>BoolOp_one (h pins s σ H Q I hw)
theorem rV (ha:PE X a ta) (hb:PE X (.BoolOp .And (b::rest) pos) tb):PE X (.BoolOp .And (a::b::rest) pos) (Cc ta tb):=by
 intro pins s σ H Q I h
 refine BoolOp_and (thn (ha pins s σ H _ I h) fun v s1 ⟨x,H1,I1,r1,q1⟩=>?_)
 obtain⟨c,rfl,q1⟩:=q1
 cases r1
 refine wpAny_truthy_bool ?_
 cases c with
|true=>exact hb pins s1 σ H1 Q I1 q1
|false=>exact⟨.bl false,H1,I1,rfl,q1⟩
theorem zc (ha:PE X a ta):PE X (.UnaryOp .Not a pos) (Cd ta):=by
 intro pins s σ H Q I h
 refine UnaryOp_ (thn (ha pins s σ H _ I h) fun v s1 ⟨x,H1,I1,r1,q1⟩=>?_)
 obtain⟨c,rfl,q1⟩:=q1
 cases r1
 exact not_of (wpAny_truthy_bool ⟨.bl (!c),H1,I1,rfl,q1⟩)
def tIf (t:TT) (ta tb:TE):TE:=fun σ H Q=>t σ H fun c H1=>if c=true then ta σ H1 Q else tb σ H1 Q
theorem rW {c:Expr} (hc:PT X c tA) (ha:PE X a ta) (hb:PE X b tb):PE X (.IfExp c a b pos) (tIf tA ta tb):=by
 intro pins s σ H Q I h
 refine wpAny_IfExp (thn (hc pins s σ H _ I h) fun d s1 ⟨H1,I1,q1⟩=>?_)
 cases d with
|true=>exact ha pins s1 σ H1 Q I1 q1
|false=>exact hb pins s1 σ H1 Q I1 q1
end
def SqL (K:PySem.W.Frag) (H:Hp) (a:Addr) (xs:List V):Prop :=
 Rd H a (.lst xs) \/
  ∃(o:Obj) (its:Array Value) (n:Nat),K.lookup a=some o/\o.cls=.type "list"/\o.dict=none/\o.data=.seq its n/\its.size<=sizeLine/\bW xs its.toList
def SqT (K:PySem.W.Frag) (H:Hp) (a:Addr) (xs:List V):Prop :=
 Rd H a (.tup xs) \/
  ∃(o:Obj) (its:Array Value) (n:Nat),K.lookup a=some o/\o.cls=.type "tuple"/\o.data=.seq its n/\its.size<=sizeLine/\bW xs its.toList
def Gd:Value->Option V
|.none=>some .non
|.bool b=>some (.bl b)
|.int i _=>some (.int i)
|.str x _=>some (.str x)
|.bytes b _=>some (.byt b)
|.float b _=>some (.flt b)
|.ref a=>some (.ref a)
|.type n=>some (.ty n)
|_=>none
theorem dh.abs {x:V}{u:Value} (r:dh x u):Gd u=some x:=by
 cases x with
|non=>cases r;rfl
|bl _=>cases r;rfl
|int _=>obtain⟨t,rfl⟩:=r;rfl
|str _=>obtain⟨t,rfl⟩:=r;rfl
|byt _=>obtain⟨t,rfl⟩:=r;rfl
|flt _=>obtain⟨t,rfl⟩:=r;rfl
|ref _=>cases r;rfl
|ty _=>cases r;rfl
theorem dh.inj {x y:V}{u:Value} (r:dh x u) (q:dh y u):x=y:=Option.some.inj (r.abs.symm.trans q.abs)
theorem bW.inj:∀{xs ys:List V}{us:List Value},bW xs us->bW ys us->xs=ys
|_,_,_,.nil,.nil=>rfl
|_,_,_,.cons r t,.cons r' t'=>by rw [r.inj r',bW.inj t t']
section
variable {X:Cx}{pins:List (Addr×Obj)}{σ:St}{H:Hp}{s:Shared}{a:Addr}{xs ys:List V}
theorem SqL.of {K:PySem.W.Frag} (h:H a=some (.lst xs)):SqL K H a xs:=.inl (.inl h)
theorem SqT.of {K:PySem.W.Frag} (h:H a=some (.tup xs)):SqT K H a xs:=.inl (.inl h)
theorem Inv.list (I:Inv X pins σ H s) (h:SqL X.K H a xs):∃its:List Value,bW xs its/\PlainL s.heap a its.toArray/\xs.length<=sizeLine:=by
 rcases h with h|⟨o,its,n,hk,hc,hd,hs,hz,r⟩
 .obtain⟨z,its,n,r,e⟩:=h.ok I.hok
  exact⟨its,r,⟨_,n,e,rfl,rfl,rfl⟩,z⟩
 .refine⟨its.toList,r,⟨o,n,I.kIn a o hk,hc,hd,by simpa using hs⟩,?_⟩
  have e:=r.length
  simp only [Array.length_toList] at e
  omega
theorem Inv.tuple (I:Inv X pins σ H s) (h:SqT X.K H a xs):∃its:List Value,bW xs its/\IsTup s.heap a its.toArray/\xs.length<=sizeLine:=by
 rcases h with h|⟨o,its,n,hk,hc,hs,hz,r⟩
 .obtain⟨z,its,r,p⟩:=h.ok I.hok
  exact⟨its,r,p,z⟩
 .refine⟨its.toList,r,⟨o,I.kIn a o hk,hc,n,by simpa using hs⟩,?_⟩
  have e:=r.length
  simp only [Array.length_toList] at e
  omega
theorem Inv.list_inj (I:Inv X pins σ H s) (h:SqL X.K H a xs) (h':SqL X.K H a ys):xs=ys:=by
 obtain⟨its,r,⟨o,n,e,_,_,d⟩,_⟩:=I.list h
 obtain⟨its',r',⟨o',n',e',_,_,d'⟩,_⟩:=I.list h'
 rw [e] at e';cases e'
 rw [d] at d'
 injection d' with d1 _
 have:its=its':=by simpa using congrArg Array.toList d1
 subst this
 exact r.inj r'
theorem Inv.tuple_inj (I:Inv X pins σ H s) (h:SqT X.K H a xs) (h':SqT X.K H a ys):xs=ys:=by
 obtain⟨its,r,⟨o,e,_,n,d⟩,_⟩:=I.tuple h
 obtain⟨its',r',⟨o',e',_,n',d'⟩,_⟩:=I.tuple h'
 rw [e] at e';cases e'
 rw [d] at d'
 injection d' with d1 _
 have:its=its':=by simpa using congrArg Array.toList d1
 subst this
 exact r.inj r'
end
abbrev Cx.wish (X:Cx) (E:Value->Shared->Prop):Cx:={ X with xe:=E }
abbrev Cx.nox (X:Cx):Cx:=X.wish fun _ _=>False
theorem Cx.Ok.wish {X:Cx} (ok:X.Ok) (E:Value->Shared->Prop):(X.wish E).Ok :=
 ⟨ok.mod,ok.kind,ok.glob,ok.blt,ok.above,ok.inj,ok.has,ok.cab,ok.hd,ok.frames,ok.stk,ok.exf,ok.bs,ok.bsz,ok.noex,ok.exfs,ok.funs,ok.frf⟩
theorem Cx.Ok.unwish {X:Cx}{E:Value->Shared->Prop} (ok:(X.wish E).Ok):X.Ok :=
 ⟨ok.mod,ok.kind,ok.glob,ok.blt,ok.above,ok.inj,ok.has,ok.cab,ok.hd,ok.frames,ok.stk,ok.exf,ok.bs,ok.bsz,ok.noex,ok.exfs,ok.funs,ok.frf⟩
section
variable {X:Cx}{pins:List (Addr×Obj)}{σ:St}{H:Hp}{s:Shared}{E:Value->Shared->Prop}
theorem Inv.wish (I:Inv X pins σ H s) (E:Value->Shared->Prop):Inv (X.wish E) pins σ H s:=⟨I.ok.wish E,I.os,I.bare,I.base,I.loc,I.cell,I.free,I.freeC,I.pin,I.hok,I.len⟩
theorem Inv.unwish (I:Inv (X.wish E) pins σ H s):Inv X pins σ H s:=⟨I.ok.unwish,I.os,I.bare,I.base,I.loc,I.cell,I.free,I.freeC,I.pin,I.hok,I.len⟩
theorem SP.unwish {D:zX}{f:Flow}{s':Shared} (h:SP (X.wish E) pins D f s'):SP X pins D f s':=by
 cases f with
|next=>obtain⟨σ',H',I,q⟩:=h;exact⟨σ',H',I.unwish,q⟩
|brk=>obtain⟨σ',H',I,q⟩:=h;exact⟨σ',H',I.unwish,q⟩
|cont=>obtain⟨σ',H',I,q⟩:=h;exact⟨σ',H',I.unwish,q⟩
|ret u=>obtain⟨v,σ',H',I,r,q⟩:=h;exact⟨v,σ',H',I.unwish,r,q⟩
theorem PSs.nox {st:List Stmt}{t:TS} (h:PSs X.nox st t):PSs X st t:=fun pins s σ H D I hw =>
 wpAny_mono (h pins s σ H D (I.wish _) hw) (fun _ _ q=>q.unwish) fun _ _ z=>False.elim z
end
section
variable {X:Cx}{st:Stmt}{rest:List Stmt}{t u:TS}{e:Expr}{te:TE}{pos:Pos}
def Ce:TS:=fun D σ H=>D.nx σ H
def Eg (t u:TS):TS:=fun D σ H=>t { D with nx:=u D } σ H
theorem bE:PSs X [] Ce:=fun _ _ σ H _ I h=>wpAny_execs_nil ⟨σ,H,I,h⟩
theorem ah (h1:PS X st t) (h2:PSs X rest u):PSs X (st::rest) (Eg t u):=by
 intro pins s σ H D I h
 refine wpAny_execs_cons (thn (h1 pins s σ H { D with nx:=u D } I h) fun f s1 q=>?_)
 cases f with
|next =>
  obtain⟨σ',H',I',q⟩:=q
  exact h2 pins s1 σ' H' D I' q
|ret v=>exact q
|brk=>exact q
|cont=>exact q
theorem au (h1:PS X st t):PSs X [st] t:=by
 intro pins s σ H D I h
 refine wpAny_execs_cons (thn (h1 pins s σ H D I h) fun f s1 q=>?_)
 cases f with
|next=>exact wpAny_execs_nil q
|ret v=>exact q
|brk=>exact q
|cont=>exact q
theorem Inv.quiet {pins:List (Addr×Obj)}{σ:St}{H:Hp}{s:Shared} (I:Inv X pins σ H s):interactive X.env=false:=by simp [interactive,I.ok.kind]
def Cf (te:TE):TS:=fun D σ H=>te σ H fun _ H1=>D.nx σ H1
theorem gd (he:PE X e te) (hs:swapsWith e none pos.line X.env=pure false:=by rfl):PS X (.Expr e pos) (Cf te):=by
 intro pins s σ H D I h
 exact wpAny_Expr_any (thn (he pins s σ H _ I h) fun v s1 ⟨x,H1,I1,r1,q1⟩=>⟨σ,H1,I1,q1⟩) I.quiet hs
def Ft (te:TE):TS:=fun D σ H=>te σ H D.rt
theorem ba (he:PE X e te):PS X (.Return (some e) pos) (Ft te):=by
 intro pins s σ H D I h
 exact wpAny_Return_some (thn (he pins s σ H _ I h) fun v s1 ⟨x,H1,I1,r1,q1⟩=>⟨x,σ,H1,I1,r1,q1⟩)
def Et (c:TT) (t u:TS):TS:=fun D σ H=>c σ H fun b H1=>if b=true then t D σ H1 else u D σ H1
theorem dr {c:Expr}{a b:List Stmt}{tc:TT} (hc:PT X c tc) (ha:PSs X a t) (hb:PSs X b u):PS X (.If c a b pos) (Et tc t u):=by
 intro pins s σ H D I h
 refine wpAny_If (thn (hc pins s σ H _ I h) fun d s1 ⟨H1,I1,q1⟩=>?_)
 cases d with
|true=>exact ha pins s1 σ H1 D I1 q1
|false=>exact hb pins s1 σ H1 D I1 q1
def zd:TS:=fun _ _ _=>False
theorem rX:PS X st zd:=fun _ _ _ _ _ _ h=>h.elim
end
abbrev TG:=V->St->Hp->(St->Hp->Prop)->Prop
abbrev TGs:=List V->St->Hp->(St->Hp->Prop)->Prop
def PG (X:Cx) (target:Expr) (t:TG):Prop :=
 ∀(pins:List (Addr×Obj)) (s:Shared) (σ:St) (H:Hp) (v:V) (u:Value) (Q:St->Hp->Prop),Inv X pins σ H s->dh v u->t v σ H Q ->
  wpAny (model X.prog X.w) X.A (assign target X.env u) (fun _ s'=>∃σ' H',Inv X pins σ' H' s'/\Q σ' H') X.xe s
def PGs (X:Cx) (ts:List Expr) (t:TGs):Prop :=
 ∀(pins:List (Addr×Obj)) (s:Shared) (σ:St) (H:Hp) (vs:List V) (us:List Value) (Q:St->Hp->Prop),Inv X pins σ H s->bW vs us->t vs σ H Q ->
  wpAny (model X.prog X.w) X.A (assignInOrder ((assignEach ts X.env).map (·.2)) us) (fun _ s'=>∃σ' H',Inv X pins σ' H' s'/\Q σ' H') X.xe s
abbrev Eu:=V->V->V->Hp->(Hp->Prop)->Prop
def Fu (X:Cx) (t:Eu):Prop :=
 ∀(pins:List (Addr×Obj)) (s:Shared) (σ:St) (H:Hp) (o i v:V) (ov iv u:Value) (Q:Hp->Prop),Inv X pins σ H s->dh o ov->dh i iv->dh v u->t o i v H Q ->
  wpAny (model X.prog X.w) X.A (setItem ov iv u) (fun _ s'=>∃H',Inv X pins σ H' s'/\Q H') X.xe s
section
variable {X:Cx}{pos:Pos}
def bR (i:Nat):TG:=fun v σ H Q=>Q (σ.set i (some v)) H
theorem aK {i:Nat}{x:Str} (hN:X.N.Nodup) (hi:X.N[i]?=some x) (hx:Loc X.env.scope x) (hf:X.fn x=true\/X.env.scope.names.lookup x=some .local:=by first|exact .inl rfl|exact .inr rfl|assumption):PG X (.Name x pos) (bR i):=by
 intro pins s σ H v u Q I r h
 exact wpAny_assign_Name (m4 I hN hi hx r (fun s' I'=>⟨_,H,I',h⟩) hf)
def Fv:TGs:=fun vs σ H Q=>vs=[]/\Q σ H
def Cg (t:TG) (u:TGs):TGs:=fun vs σ H Q=>∃v r,vs=v::r/\t v σ H fun σ' H'=>u r σ' H' Q
theorem uV:PGs X [] Fv:=by
 intro pins s σ H vs us Q I r h
 obtain⟨e,h⟩:=h
 subst e
 cases r
 exact assignInOrder_nil ⟨σ,H,I,h⟩
theorem j8 {e:Expr}{es:List Expr}{t:TG}{u:TGs} (h1:PG X e t) (h2:PGs X es u)
  (hs:(assignEach (e::es) X.env).map (·.2)=assign e X.env::(assignEach es X.env).map (·.2):=by rfl):PGs X (e::es) (Cg t u):=by
 intro pins s σ H vs us Q I r h
 obtain⟨v,vr,e1,h⟩:=h
 subst e1
 cases r with
|cons r rr =>
  rw [hs]
  refine assignInOrder_cons (thn (h1 pins s σ H _ _ _ I r h) fun _ s1 ⟨σ1,H1,I1,q1⟩=>?_)
  exact h2 pins s1 σ1 H1 _ _ Q I1 rr q1
def Ge (K:PySem.W.Frag) (n:Nat) (t:TGs):TG:=fun v σ H Q=>∃a xs,v=.ref a/\SqT K H a xs/\xs.length=n/\t xs σ H Q
theorem Ch {es:List Expr}{k:Nat}{t:TGs}{n:Nat} (hc:X.calm=true) (h:PGs X es t)
  (hn:(assignEach es X.env).length=n:=by rfl) (hst:(assignEach es X.env).findIdx? (·.1)=none:=by rfl):PG X (.Tuple es k pos) (Ge X.K n t):=by
 intro pins s σ H v u Q I r hw
 obtain⟨a,xs,e1,hq,hl,hw⟩:=hw
 subst e1
 cases r
 obtain⟨its,rv,ht,hz⟩:=I.tuple hq
 refine assign_Tuple_tuple (I.ok.hd hc) ht (by simp [hn,<- hl,rv.length]) hst fun h' hx=>?_
 have I1:Inv X pins σ H { s with heap:=h' }:=I.kept (t':=s.toks) fun b o e=>hx b o (Nat.ne_of_lt (Heap.lt_size e)) e
 exact h pins _ σ H xs _ Q I1 (by simpa using rv) hw
def Ev (to ti:TE) (t:Eu):TG:=fun v σ H Q=>to σ H fun o H1=>ti σ H1 fun i H2=>t o i v H2 fun H3=>Q σ H3
theorem mr {o i:Expr}{to ti:TE}{t:Eu} (ho:PE X o to) (hi:PE X i ti) (hs:Fu X t)
  (ha:∀v,assign (.Subscript o i pos) X.env v=(do
   let ov <- holding [v] (eval o X.env)
   let iv <- holding [v,ov] (eval i X.env)
   standAt pos
   holding [v,ov,iv] (setItem ov iv v)
   release [v,ov,iv] []):=by intro _;rfl):PG X (.Subscript o i pos) (Ev to ti t):=by
 intro pins s σ H v u Q I r h
 rw [ha]
 refine wpAny_bind (wpAny_holding (thn (ho pins s σ H _ I h) fun ov s1 ⟨x,H1,I1,r1,q1⟩=>?_))
 refine wpAny_bind (wpAny_holding (thn (hi pins s1 σ H1 _ I1 q1) fun iv s2 ⟨y,H2,I2,r2,q2⟩=>?_))
 refine wpAny_bind (wpAny_standAt (wpAny_bind (wpAny_holding (thn (hs pins s2 σ H2 x y v ov iv u _ I2 r1 r2 r q2) fun _ s3 ⟨H3,I3,q3⟩=>?_))))
 exact wpAny_release ⟨σ,H3,I3,q3⟩
def ze (te:TE) (g:TG):TS:=fun D σ H=>te σ H fun x H1=>g x σ H1 D.nx
theorem Ci {tg e:Expr}{te:TE}{g:TG} (he:PE X e te) (hg:PG X tg g) (hs:swapsWithSole [tg] e pos.line X.env=pure false:=by rfl) (hw:swappedStores [tg] e X.env=pure none:=by rfl)
  (h1:(assignEach [tg] X.env).map (·.2)=[assign tg X.env]:=by rfl):PS X (.Assign [tg] e pos) (ze te g):=by
 intro pins s σ H D I h
 refine wpAny_Assign_stores (thn (he pins s σ H _ I h) fun v s1 ⟨x,H1,I1,r1,q1⟩=>?_) hs hw
 rw [h1]
 exact thn (hg pins s1 σ H1 x v _ I1 r1 q1) fun _ s2 q=>q
theorem aF {i:Nat}{x:Str}{e:Expr}{te:TE}{pos':Pos} (hN:X.N.Nodup) (hi:X.N[i]?=some x) (hx:Loc X.env.scope x) (he:PE X e te) (hs:swapsWith e (some (.Name x pos')) pos.line X.env=pure false:=by rfl) (hf:X.fn x=true\/X.env.scope.names.lookup x=some .local:=by first|exact .inl rfl|exact .inr rfl|assumption) :
  PS X (.Assign [.Name x pos'] e pos) (ze te (bR i)):=by
 intro pins s σ H D I h
 refine wpAny_Assign_Name (thn (he pins s σ H _ I h) fun v s1 ⟨y,H1,I1,r1,q1⟩=>?_) hs
 exact m4 I1 hN hi hx r1 (fun s2 I2=>⟨_,H1,I2,q1⟩) hf
end
section
variable {X:Cx}{pos:Pos}
def zf (c:TT) (tb:TS):TS:=fun D σ H=>∃W:Nat->St->Hp->Prop,(∃m,W m σ H)/\∀m σ H,W m σ H ->
 c σ H fun b H1=>if b=true then ∃N:St->Hp->Prop,(∀σ' H',N σ' H'->∃m',m'<m/\W m' σ' H')/\tb { D with nx:=N,ct:=N,bk:=D.nx } σ H1 else D.nx σ H1
theorem m5 {c:Expr}{body:List Stmt}{tc:TT}{tb:TS} (hp:PassesOwn (model X.prog X.w) X.A X.env X.xe) (hc:PT X c tc) (hb:PSs X body tb):PS X (.While c body [] pos) (zf tc tb):=by
 intro pins s σ H D I h
 obtain⟨W,⟨m0,w0⟩,turn⟩:=h
 refine wpAny_While (codeAny_whileLoop (fun n s'=>∃σ' H',Inv X pins σ' H' s'/\W n σ' H') ?_ m0 ⟨σ,H,I,w0⟩)
 rintro n s1 ⟨σ1,H1,I1,w1⟩
 refine wpAny_passesOwn hp (thn (hc pins s1 σ1 H1 _ I1 (turn n σ1 H1 w1)) fun b s2 ⟨H2,I2,q2⟩=>?_)
 cases b with
|true =>
  obtain⟨N,hN,q2⟩:=q2
  rw [if_pos rfl]
  refine wpAny_passesOwn hp (thn (hb pins s2 σ1 H2 _ I2 q2) fun f s3 q3=>?_)
  cases f with
 |next =>
   obtain⟨σ3,H3,I3,n3⟩:=q3
   obtain⟨m',hm,w3⟩:=hN σ3 H3 n3
   exact⟨m',hm,σ3,H3,I3,w3⟩
 |cont =>
   obtain⟨σ3,H3,I3,n3⟩:=q3
   obtain⟨m',hm,w3⟩:=hN σ3 H3 n3
   exact⟨m',hm,σ3,H3,I3,w3⟩
 |brk=>exact q3
 |ret v=>exact q3
|false =>
  rw [if_neg Bool.false_ne_true]
  exact wpAny_execs_nil ⟨σ1,H2,I2,q2⟩
end
structure It where
 go:Nat->Hp->Prop
 yld:Nat->Hp->V->Hp->Prop
 stop:Nat->Hp->Prop
def qE (X:Cx) (pins:List (Addr×Obj)) (H:Hp) (b:Addr):Prop :=
 H b=none/\b≠X.env.locals/\b∉X.fs/\(b∈X.ex\/X.s₀.heap.objs.size<=b)/\(∀x c,X.env.cells.lookup x=some c->c≠b)/\∀p∈X.pn++pins,p.1≠b
theorem Inv.fpOk {X:Cx}{pins:List (Addr×Obj)}{σ:St}{H H':Hp}{s:Shared}{b:Addr} (I:Inv X pins σ H s) (hb:s.heap.objs.size<=b) (hn:H' b=none):qE X pins H' b:=by
 refine⟨hn,Nat.ne_of_gt (Nat.lt_of_lt_of_le I.lt hb),I.nofs hb,.inr (Nat.le_trans I.sz hb),fun x c e z=>?_,fun p hp z=>?_⟩
 .obtain⟨v,q⟩:=I.cell x c e
  exact absurd (Nat.lt_of_lt_of_le q.lt (by rw [z];exact hb)) (Nat.lt_irrefl _)
 .exact absurd (Nat.lt_of_lt_of_le (Heap.lt_size (I.pin p hp).1) (by rw [z];exact hb)) (Nat.lt_irrefl _)
structure BU (P:Program) (w:World) (K:PySem.W.Frag) (tg:Expr) (J:It) (fp:List Addr) (it:Addr) (tn:Nat->Heap->Prop):Prop where
 mem:it∈fp
 obj:∀i h,tn i h->∀b∈fp,∃o,h.get? b=some o/\∀v,o.data≠.cell v
 keep:∀i h h',tn i h->(∀b∈fp,∀o,h.get? b=some o->h'.get? b=some o)->tn i h'
 item:∀(X:Cx),X.prog=P->X.w=w->X.K=K->X.calm=true->∀(i:Nat) (pins:List (Addr×Obj)) (s:Shared) (σ:St) (H:Hp) (E:Value->Shared->Prop),Inv X pins σ H s->(∀b∈fp,qE X pins H b)->tn i s.heap->J.go i H ->
  wpAny (model P w) X.A (pyNext (.ref it)) (fun r s1=>∃u,r=some u /\
   wpAny (model P w) X.A (letOwnedTupleGo tg (.ref it) u) (fun _ s2=>∃x H',Inv X pins σ H' s2/\dh x u/\J.yld i H x H'/\tn (i+1) s2.heap/\∀b∈fp,H' b=none) E s1) E s
 done:∀(X:Cx),X.prog=P->X.w=w->X.K=K->X.calm=true->∀(i:Nat) (pins:List (Addr×Obj)) (s:Shared) (σ:St) (H:Hp) (E:Value->Shared->Prop),Inv X pins σ H s->(∀b∈fp,qE X pins H b)->tn i s.heap->J.stop i H ->
  wpAny (model P w) X.A (pyNext (.ref it)) (fun r s1=>r=none/\Inv X pins σ H s1) E s
 self:∀(A:Around) (i:Nat) (s:Shared) (Q:Value->Shared->Prop) (E:Value->Shared->Prop),tn i s.heap->Q (.ref it) s->wpAny (model P w) A (pyIter (.ref it)) Q E s
abbrev TI:=St->Hp->(It->Hp->Prop)->Prop
def PIE (X:Cx) (pins:List (Addr×Obj)) (σ:St) (tg:Expr) (R:It->Hp->Prop) (itv:Value) (s2:Shared):Prop :=
 ∃(it:Addr) (fp:List Addr) (tn:Nat->Heap->Prop) (J:It) (H':Hp),itv=.ref it/\Inv X pins σ H' s2/\BU X.prog X.w X.K tg J fp it tn/\tn 0 s2.heap/\(∀b∈fp,qE X pins H' b)/\R J H'
def PI (X:Cx) (tg iter:Expr) (wi:TI):Prop :=
 ∀(pins:List (Addr×Obj)) (s:Shared) (σ:St) (H:Hp) (R:It->Hp->Prop),Inv X pins σ H s->wi σ H R ->
  wpAny (model X.prog X.w) X.A (eval iter X.env) (fun v s1=>wpAny (model X.prog X.w) X.A (pyIter v) (PIE X pins σ tg R) X.xe s1) X.xe s
theorem zZ {M:Model}{A:Around}{E:Value->Shared->Prop}{s:Shared}{tg:Expr}{it:Addr}{u:Value}{o:Obj}{n:String}{vs:Array Value}{Q:Unit->Shared->Prop} (ho:s.heap.get? it=some o) (hc:o.cls=.type n) (hd:o.data=.fields vs)
    (hn:["enumerate","zip","dict_itemiterator","dict_reverseitemiterator","odict_iterator","itertools.zip_longest","itertools.pairwise"].contains n=false) (hQ:Q () s):wpAny M A (letOwnedTupleGo tg (.ref it) u) Q E s:=by
  unfold letOwnedTupleGo
  cases tg <;> first
   |exact wpAny_pure hQ
    | (cases u <;> first
       |exact wpAny_pure hQ
        | (refine wpAny_bind (wpAny_load ho ?_)
           rw [hc,hd]
           show wpAny M A (if (["enumerate","zip","dict_itemiterator","dict_reverseitemiterator","odict_iterator","itertools.zip_longest","itertools.pairwise"].contains n && vs[0]? == some (rawInt _))=true then _ else _) Q E s
           rw [if_neg (by intro h;rw [hn,Bool.false_and] at h;cases h)]
           exact wpAny_pure hQ))
def Itl (K:PySem.W.Frag) (a:Addr):It :=
 ⟨fun i H=>∃xs x,SqL K H a xs/\xs[i]?=some x,fun i H x H'=>H'=H/\∀xs,SqL K H a xs->xs[i]?=some x,fun i H=>∃xs,SqL K H a xs/\xs.length<=i⟩
def Itt (K:PySem.W.Frag) (a:Addr):It :=
 ⟨fun i H=>∃xs x,SqT K H a xs/\xs[i]?=some x,fun i H x H'=>H'=H/\∀xs,SqT K H a xs->xs[i]?=some x,fun i H=>∃xs,SqT K H a xs/\xs.length<=i⟩
def Itr (lo:Int) (n:Nat):It:=⟨fun i _=>i<n,fun i H x H'=>H'=H/\x=.int (lo+i),fun i _=>n<=i⟩
theorem uW {P:Program}{w:World}{K:PySem.W.Frag}{tg:Expr} (a it:Addr):BU P w K tg (Itl K a) [it] it (fun i h=>h.IsListIter it a i) where
 mem:=by simp
 obj:=fun i h st b hb=>by
  have e:b=it:=by simpa using hb
  subst e
  obtain⟨o,e,c,d⟩:=st
  exact⟨o,e,fun v z=>by rw [d] at z;cases z⟩
 keep:=fun i h h' st k=>st.at fun o e=>k it (by simp) o e
 item:=by
  intro X hP hw hK hc i pins s σ H E I hf st hg
  subst hP hw hK
  obtain⟨xs,x,hq,hx⟩:=hg
  obtain⟨its,rv,p,hz⟩:=I.list hq
  obtain⟨u,hu,ru⟩:=rv.get hx
  obtain⟨f0,f1,f2,f3,f4,f5⟩:=hf it (by simp)
  refine wpAny_pyNext_list_item st p.isList (x:=u) (by simpa using hu) fun h' st' sb=>?_
  have I1:Inv X pins σ H { s with heap:=h' }:=I.turned (t':=s.toks) (fun b o hb e=>(sb.2 b hb).trans e) f0 f1 f3 f4 f5
  obtain⟨o,e,c,d⟩:=id st'
  exact⟨u,rfl,zZ (s:={ s with heap:=h' }) e c d (by decide) ⟨x,H,I1,ru,⟨rfl,fun ys hy=>by rw [I.list_inj hy hq];exact hx⟩,st',fun b hb=>(hf b hb).1⟩⟩
 done:=by
  intro X hP hw hK hc i pins s σ H E I hf st hg
  subst hP hw hK
  obtain⟨xs,hq,hx⟩:=hg
  obtain⟨its,rv,p,hz⟩:=I.list hq
  obtain⟨f0,f1,f2,f3,f4,f5⟩:=hf it (by simp)
  have hl:=rv.length
  exact wpAny_pyNext_list_end (I.ok.hd hc) st p.isList (by simp;omega) fun h' eb=>⟨rfl,I.turned (t':=s.toks) (fun b o hb e=>eb b o hb e) f0 f1 f3 f4 f5⟩
 self:=fun _ _ _ _ _ st h=>wpAny_pyIter_listiter st h
theorem tR {P:Program}{w:World}{K:PySem.W.Frag}{tg:Expr} (a it:Addr):BU P w K tg (Itt K a) [it] it (fun i h=>h.IsTupleIter it a i) where
 mem:=by simp
 obj:=fun i h st b hb=>by
  have e:b=it:=by simpa using hb
  subst e
  obtain⟨o,e,c,d⟩:=st
  exact⟨o,e,fun v z=>by rw [d] at z;cases z⟩
 keep:=fun i h h' st k=>st.at fun o e=>k it (by simp) o e
 item:=by
  intro X hP hw hK hc i pins s σ H E I hf st hg
  subst hP hw hK
  obtain⟨xs,x,hq,hx⟩:=hg
  obtain⟨its,rv,p,hz⟩:=I.tuple hq
  obtain⟨u,hu,ru⟩:=rv.get hx
  obtain⟨f0,f1,f2,f3,f4,f5⟩:=hf it (by simp)
  refine wpAny_pyNext_tuple_item st (show s.heap.IsTuple a its.toArray from p) (x:=u) (by simpa using hu) fun h' st' sb=>?_
  have I1:Inv X pins σ H { s with heap:=h' }:=I.turned (t':=s.toks) (fun b o hb e=>(sb.2 b hb).trans e) f0 f1 f3 f4 f5
  obtain⟨o,e,c,d⟩:=id st'
  exact⟨u,rfl,zZ (s:={ s with heap:=h' }) e c d (by decide) ⟨x,H,I1,ru,⟨rfl,fun ys hy=>by rw [I.tuple_inj hy hq];exact hx⟩,st',fun b hb=>(hf b hb).1⟩⟩
 done:=by
  intro X hP hw hK hc i pins s σ H E I hf st hg
  subst hP hw hK
  obtain⟨xs,hq,hx⟩:=hg
  obtain⟨its,rv,p,hz⟩:=I.tuple hq
  obtain⟨f0,f1,f2,f3,f4,f5⟩:=hf it (by simp)
  have hl:=rv.length
  exact wpAny_pyNext_tuple_end (I.ok.hd hc) st (show s.heap.IsTuple a its.toArray from p) (by simp;omega) fun h' eb=>⟨rfl,I.turned (t':=s.toks) (fun b o hb e=>eb b o hb e) f0 f1 f3 f4 f5⟩
 self:=fun _ _ _ _ _ st h=>wpAny_pyIter_tupleiter st h
theorem tS {P:Program}{w:World}{K:PySem.W.Frag}{tg:Expr} (it:Addr) (lo:Int) (n:Nat):BU P w K tg (Itr lo n) [it] it (fun i h=>IsRangeIter h it (lo+(i:Nat)*1) ((n:Int) - (i:Nat)) 1) where
 mem:=by simp
 obj:=fun i h st b hb=>by
  have e:b=it:=by simpa using hb
  subst e
  exact⟨_,st,fun v z=>by
   have z':Data.fields _=Data.cell v:=z
   cases z'⟩
 keep:=fun i h h' st k=>k it (by simp) _ st
 item:=by
  intro X hP hw hK hc i pins s σ H E I hf st hg
  subst hP hw hK
  obtain⟨f0,f1,f2,f3,f4,f5⟩:=hf it (by simp)
  have W:=Walks.range (prog:=X.prog) (w:=X.w) (I.ok.hd hc) it lo 1 n
  refine W.item i s _ _ hg st fun v h' tk hv st' kk=>?_
  obtain⟨t,rfl⟩:=hv
  have I1:Inv X pins σ H { s with heap:=h',toks:=tk }:=I.turned (fun b o hb e=>kk b o (by simpa using hb) e) f0 f1 f3 f4 f5
  refine⟨_,rfl,zZ (s:={ s with heap:=h',toks:=tk }) (n:="range_iterator") st' rfl rfl (by decide) ⟨.int (lo+i),H,I1,⟨t,?_⟩,⟨rfl,rfl⟩,st',fun b hb=>(hf b hb).1⟩⟩
  rw [Int.mul_one]
 done:=by
  intro X hP hw hK hc i pins s σ H E I hf st hg
  subst hP hw hK
  obtain⟨f0,f1,f2,f3,f4,f5⟩:=hf it (by simp)
  exact wpAny_pyNext_range_end (I.ok.hd hc) st (by have:n<=i:=hg;omega) fun h' eb=>⟨rfl,I.turned (t':=s.toks) (fun b o hb e=>eb b o hb e) f0 f1 f3 f4 f5⟩
 self:=fun _ _ _ _ _ st h=>wpAny_pyIter_rangeiter st h
section
variable {X:Cx}{tg:Expr}
theorem xG {pins:List (Addr×Obj)}{σ:St}{H:Hp}{s:Shared}{R:It->Hp->Prop}{E:Value->Shared->Prop}{lo hi:Int}{t u v:Tok}{tk:Nat} (I:Inv X pins σ H s) (h1:-(2^62)<=lo) (h2:lo<2^62) (h3:-(2^62)<=hi) (h4:hi<2^62)
  (q:R (Itr lo (hi - lo).toNat) H):wpAny (model X.prog X.w) X.A (pyIter (.ref s.heap.objs.size)) (PIE X pins σ tg R) E { s with heap:=s.heap.push { cls:=.type "range",data:=.fields #[.int lo t,.int hi u,.int 1 v] },toks:=tk }:=by
 refine wpAny_pyIter_range (IsRange.new ..) (small_one h1 h2 h3 h4) ?_
 have I1:Inv X pins σ H { s with heap:=s.heap.push { cls:=.type "range",data:=.fields #[.int lo t,.int hi u,.int 1 v] },toks:=tk }:=I.kept fun b o e=>Heap.get?_push_of_some _ e
 refine⟨(s.heap.push { cls:=.type "range",data:=.fields #[.int lo t,.int hi u,.int 1 v] }).objs.size,[(s.heap.push { cls:=.type "range",data:=.fields #[.int lo t,.int hi u,.int 1 v] }).objs.size],_,_,H,rfl,
  I1.kept (t':=tk) fun b o e=>Heap.get?_push_of_some _ e,tS _ lo (hi - lo).toNat,?_,fun b hb=>?_,q⟩
 .have e1:lo+((0:Nat):Int)*1=lo:=by simp
  have e2:(((hi - lo).toNat:Nat):Int) - ((0:Nat):Int)=Builtin.Range.rangeSize lo hi 1:=by rw [rangeSize_one];split <;> omega
  show IsRangeIter _ _ (lo+((0:Nat):Int)*1) ((((hi - lo).toNat:Nat):Int) - ((0:Nat):Int)) 1
  rw [e1,e2]
  exact Heap.get?_push_size _ rfl
 .have e:b=(s.heap.push { cls:=.type "range",data:=.fields #[.int lo t,.int hi u,.int 1 v] }).objs.size:=by simpa using hb
  subst e
  exact I1.fpOk (Nat.le_refl _) (I1.hok.fresh (Nat.le_refl _))
def jW (ta:TA):TI:=fun σ H R=>ta σ H fun vs H1=>∃j:Int,vs=[.int j]/\-(2^62)<=j/\j<2^62/\R (Itr 0 j.toNat) H1
theorem bZ {a:Expr}{ta:TA}{p pos:Pos} (hg:Gl X "range") (hm:X.mg "range"=none) (ha:PA X [a] ta) (hs:starEach [a] X.env=[(false,eval a X.env)]:=by rfl):PI X tg (.Call (.Name "range" p) [a] [] pos) (jW ta):=by
 intro pins s σ H R I h
 refine Call_ (gc I hg hm boot_range (PyProof.Rows.callWith_type1 (thn (ha pos pins s σ H _ I h) fun us s1 ⟨vs,H1,I1,r1,q1⟩=>?_) hs rfl))
 obtain⟨j,e,q1,q2,q⟩:=q1
 subst e
 cases r1 with
|cons r rr =>
  cases rr
  obtain⟨t,rfl⟩:=r
  exact call_range_1 (xG I1 (by omega) (by omega) q1 q2 (by simpa using q))
def Fw (wi:TI) (g:TG) (tb:TS):TS:=fun D σ H=>wi σ H fun J H1=>∃W:Nat->Nat->St->Hp->Prop,(∃m,W 0 m σ H1)/\∀i m σ H,W i m σ H ->
 (J.stop i H/\D.nx σ H)\/(J.go i H/\∃N:St->Hp->Prop,(∀σ' H',N σ' H'->∃m',m'<m/\W (i+1) m' σ' H')/\∀x H',J.yld i H x H'->g x σ H' fun σ2 H2=>tb { D with nx:=N,ct:=N,bk:=D.nx } σ2 H2)
def km (fp:List Addr) (h:Heap):List (Addr×Obj):=fp.filterMap fun b=>(h.get? b).map fun o=>(b,o)
theorem di {fp:List Addr}{h:Heap}{b:Addr}{o:Obj} (hb:b∈fp) (e:h.get? b=some o):(b,o)∈km fp h:=List.mem_filterMap.mpr ⟨b,hb,by rw [e];rfl⟩
theorem uX {fp:List Addr}{h:Heap}{p:Addr×Obj} (hp:p∈km fp h):p.1∈fp/\h.get? p.1=some p.2:=by
 obtain⟨b,hb,e⟩:=List.mem_filterMap.mp hp
 cases q:h.get? b with
|none=>rw [q] at e;cases e
|some o =>
  rw [q] at e
  have e':(b,o)=p:=Option.some.inj e
  subst e'
  exact⟨hb,q⟩
theorem Inv.pinned {pins:List (Addr×Obj)}{σ:St}{H:Hp}{s:Shared}{fp:List Addr} (I:Inv X pins σ H s) (hf:∀b∈fp,qE X pins H b) (ho:∀b∈fp,∃o,s.heap.get? b=some o/\∀v,o.data≠.cell v):Inv X (pins++km fp s.heap) σ H s :=
 I.pins_of fun p hp=>(List.mem_append.mp hp).elim (fun z=>I.pin p (List.mem_append_right _ z)) fun z=>by
  obtain⟨hb,e⟩:=uX z
  obtain⟨f0,f1,f2,_⟩:=hf p.1 hb
  obtain⟨o,e',d⟩:=ho p.1 hb
  rw [e] at e';cases e'
  exact⟨e,f0,f1,f2,d⟩
theorem Inv.unpinned {pins pl:List (Addr×Obj)}{σ:St}{H:Hp}{s:Shared} (I:Inv X (pins++pl) σ H s):Inv X pins σ H s:=I.pins_of fun p hp=>I.pin p (List.mem_append_right _ (List.mem_append_left _ hp))
theorem gf {iter:Expr}{body:List Stmt}{wi:TI}{g:TG}{tb:TS}{pos:Pos} (hp:PassesOwn (model X.prog X.w) X.A X.env X.xe) (hc:X.calm=true) (hi:PI X tg iter wi) (hg:PG X tg g) (hb:PSs X body tb)
  (hs:∀x,foldedSetIterable iter X.env x=pure x:=by intro _;rfl):PS X (.For tg iter body [] pos) (Fw wi g tb):=by
 intro pins s σ H D I h
 refine wpAny_For (thn (hi pins s σ H _ I h) fun v s1 h1=>thn h1 fun itv s2 h2=>?_) hs
 obtain⟨it,fp,tn,J,H2,e,I2,T,st2,f2,W,⟨m0,w0⟩,turn⟩:=h2
 subst e
 -- what stays true of the iterator's objects through the loop
 have stat:∀{H':Hp},(∀b∈fp,H' b=none)->∀b∈fp,qE X pins H' b:=fun hn b hb=>⟨hn b hb,(f2 b hb).2⟩
 refine codeAny_forLoop_any (fun n s'=>∃i σ' H',Inv X pins σ' H' s'/\tn i s'.heap/\(∀b∈fp,H' b=none)/\W i n σ' H') ?_ m0 ⟨0,σ,H2,I2,st2,fun b hb=>(f2 b hb).1,w0⟩
 rintro n s3 ⟨i,σ3,H3,I3,st3,fr3,w3⟩
 rcases turn i n σ3 H3 w3 with ⟨stop,qn⟩|⟨go,N,hN,step⟩
 .refine wpAny_passesOwn hp (thn (T.done X rfl rfl rfl hc i pins s3 σ3 H3 X.xe I3 (stat fr3) st3 stop) fun r s4 ⟨hr,I4⟩=>?_)
  subst hr
  exact wpAny_execs_nil ⟨σ3,H3,I4,qn⟩
 .refine wpAny_passesOwn hp (thn (T.item X rfl rfl rfl hc i pins s3 σ3 H3 X.xe I3 (stat fr3) st3 go) fun r s4 ⟨u,hr,h4⟩=>?_)
  subst hr
  refine wpAny_passesOwn hp (thn h4 fun _ s5 ⟨x,H5,I5,r5,y5,st5,fr5⟩=>?_)
  have I5':=I5.pinned (stat fr5) (T.obj _ _ st5)
  refine wpAny_passesOwn hp (thn (hg _ s5 σ3 H5 x u _ I5' r5 (step x H5 y5)) fun _ s6 ⟨σ6,H6,I6,q6⟩=>?_)
  refine wpAny_passesOwn hp (thn (hb _ s6 σ6 H6 _ I6 q6) fun f s7 q7=>?_)
  have again:∀{σ7:St}{H7:Hp},Inv X (pins++km fp s5.heap) σ7 H7 s7->N σ7 H7->∃m,m<n/\∃i σ' H',Inv X pins σ' H' s7/\tn i s7.heap/\(∀b∈fp,H' b=none)/\W i m σ' H':=fun {σ7 H7} I7 n7=>by
   obtain⟨m',hm,w7⟩:=hN σ7 H7 n7
   refine⟨m',hm,i+1,σ7,H7,I7.unpinned,T.keep _ _ _ st5 fun b hb o e=>(I7.pin (b,o) (List.mem_append_right _ (List.mem_append_right _ (di hb e)))).1,fun b hb=>?_,w7⟩
   obtain⟨o,e,d⟩:=T.obj _ _ st5 b hb
   exact (I7.pin (b,o) (List.mem_append_right _ (List.mem_append_right _ (di hb e)))).2.1
  cases f with
 |next=>obtain⟨σ7,H7,I7,n7⟩:=q7;exact again I7 n7
 |cont=>obtain⟨σ7,H7,I7,n7⟩:=q7;exact again I7 n7
 |brk=>obtain⟨σ7,H7,I7,q7⟩:=q7;exact⟨σ7,H7,I7.unpinned,q7⟩
 |ret v=>obtain⟨x7,σ7,H7,I7,r7,q7⟩:=q7;exact⟨x7,σ7,H7,I7.unpinned,r7,q7⟩
end
abbrev R2:=V->V->Hp->VK->Prop
def OpR (X:Cx) (f:Value->Value->Sem Value) (r:R2):Prop :=
 ∀(pins:List (Addr×Obj)) (s:Shared) (σ:St) (H:Hp) (x y:V) (v u:Value) (Q:VK),Inv X pins σ H s->dh x v->dh y u->r x y H Q ->
  wpAny (model X.prog X.w) X.A (f v u) (EP X pins σ Q) X.xe s
def UnR (X:Cx) (f:Value->Sem Value) (r:V->Hp->VK->Prop):Prop :=
 ∀(pins:List (Addr×Obj)) (s:Shared) (σ:St) (H:Hp) (x:V) (v:Value) (Q:VK),Inv X pins σ H s->dh x v->r x H Q ->
  wpAny (model X.prog X.w) X.A (f v) (EP X pins σ Q) X.xe s
def cw (X:Cx) (f:Value) (r:List V->Hp->VK->Prop):Prop :=
 ∀(pins:List (Addr×Obj)) (s:Shared) (σ:St) (H:Hp) (xs:List V) (us:List Value) (Q:VK),Inv X pins σ H s->bW xs us->r xs H Q ->
  wpAny (model X.prog X.w) X.A (call f us) (EP X pins σ Q) X.xe s
def tOp (r:R2) (ta tb:TE):TE:=fun σ H Q=>ta σ H fun x H1=>tb σ H1 fun y H2=>r x y H2 Q
def tUn (r:V->Hp->VK->Prop) (ta:TE):TE:=fun σ H Q=>ta σ H fun x H1=>r x H1 Q
def rI (C:Int->Int->Prop) (g:Int->Int->V):R2:=fun x y H Q=>∃i j,x=.int i/\y=.int j/\C i j/\Q (g i j) H
def rI0 (g:Int->Int->V):R2:=fun x y H Q=>∃i j,x=.int i/\y=.int j/\Q (g i j) H
def rU (g:Int->V):V->Hp->VK->Prop:=fun x H Q=>∃i,x=.int i/\Q (g i) H
section
variable {X:Cx}{a b c:Expr}{ta tb tc:TE}{pos:Pos}
theorem Ew (ha:PE X a ta) (hb:PE X b tb) {pins:List (Addr×Obj)}{s:Shared}{σ:St}{H:Hp}{R:V->V->Hp->Prop} (I:Inv X pins σ H s)
  (h:ta σ H fun x H1=>tb σ H1 fun y H2=>R x y H2) {Q:Value->Shared->Prop}{f:Value->Value->Sem Value}
  (hf:∀v u s2 x y H2,Inv X pins σ H2 s2->dh x v->dh y u->R x y H2->wpAny (model X.prog X.w) X.A (f v u) Q X.xe s2) :
  wpAny (model X.prog X.w) X.A (eval a X.env) (fun v s₁=>wpAny (model X.prog X.w) X.A (eval b X.env) (fun u s₂=>wpAny (model X.prog X.w) X.A (f v u) Q X.xe s₂) X.xe s₁) X.xe s:=by
 refine thn (ha pins s σ H _ I h) fun v s1 ⟨x,H1,I1,r1,q1⟩=>?_
 refine thn (hb pins s1 σ H1 _ I1 q1) fun u s2 ⟨y,H2,I2,r2,q2⟩=>?_
 exact hf v u s2 x y H2 I2 r1 r2 q2
theorem aC {op:Operator}{r:R2} (ho:OpR X (binaryOp op) r) (ha:PE X a ta) (hb:PE X b tb):PE X (.BinOp a op b pos) (tOp r ta tb):=by
 intro pins s σ H Q I h
 exact wpAny_BinOp (Ew ha hb I h fun v u s2 x y H2 I2 rx ry q=>ho pins s2 σ H2 x y v u Q I2 rx ry q)
theorem kn {op:UnaryOp}{r:V->Hp->VK->Prop} (ho:UnR X (unaryOp op) r) (ha:PE X a ta):PE X (.UnaryOp op a pos) (tUn r ta):=by
 intro pins s σ H Q I h
 exact UnaryOp_ (thn (ha pins s σ H _ I h) fun v s1 ⟨x,H1,I1,r1,q1⟩=>ho pins s1 σ H1 x v Q I1 r1 q1)
theorem opI {f:Value->Value->Sem Value}{C:Int->Int->Prop}{g:Int->Int->Int}
  (rule:∀(i j:Int) (t u:Tok) (s:Shared) (Q:Value->Shared->Prop) (E:Value->Shared->Prop),C i j->Q (.int (g i j) s.toks) { s with toks:=s.toks+1 }->wpAny (model X.prog X.w) X.A (f (.int i t) (.int j u)) Q E s) :
  OpR X f (rI C fun i j=>.int (g i j)):=by
 intro pins s σ H x y v u Q I rx ry h
 obtain⟨i,j,rfl,rfl,hc,q⟩:=h
 obtain⟨t,rfl⟩:=rx
 obtain⟨t',rfl⟩:=ry
 exact rule i j t t' s _ _ hc ⟨.int (g i j),H,I.tok _,⟨_,rfl⟩,q⟩
theorem Ex {f:Value->Value->Sem Value}{g:Int->Int->Int}
  (rule:∀(i j:Int) (t u:Tok) (s:Shared) (Q:Value->Shared->Prop) (E:Value->Shared->Prop),Q (.int (g i j) s.toks) { s with toks:=s.toks+1 }->wpAny (model X.prog X.w) X.A (f (.int i t) (.int j u)) Q E s) :
  OpR X f (rI0 fun i j=>.int (g i j)):=by
 intro pins s σ H x y v u Q I rx ry h
 obtain⟨i,j,rfl,rfl,q⟩:=h
 obtain⟨t,rfl⟩:=rx
 obtain⟨t',rfl⟩:=ry
 exact rule i j t t' s _ _ ⟨.int (g i j),H,I.tok _,⟨_,rfl⟩,q⟩
theorem BV {f:Value->Value->Sem Value}{g:Int->Int->Bool}
  (rule:∀(i j:Int) (t u:Tok) (s:Shared) (Q:Value->Shared->Prop) (E:Value->Shared->Prop),Q (.bool (g i j)) s->wpAny (model X.prog X.w) X.A (f (.int i t) (.int j u)) Q E s) :
  OpR X f (rI0 fun i j=>.bl (g i j)):=by
 intro pins s σ H x y v u Q I rx ry h
 obtain⟨i,j,rfl,rfl,q⟩:=h
 obtain⟨t,rfl⟩:=rx
 obtain⟨t',rfl⟩:=ry
 exact rule i j t t' s _ _ ⟨.bl (g i j),H,I,rfl,q⟩
def Ey (i j:Int):Prop:=0<j/\j<1073741824
def Cj (i j:Int):Prop:=0<=j/\j<=1000000/\i.natAbs<2^64
def Eh (i j:Int):Prop:=(-(2^64)<i/\i<2^64)\/(-(2^64)<j/\j<2^64)
theorem Eh.ok {i j:Int} (h:Eh i j):IntMulOk i j:=by
 rcases h with ⟨h1,h2⟩|⟨h1,h2⟩
 .exact .of_left (intBits_le_64 h1 h2)
 .exact .of_right (intBits_le_64 h1 h2)
theorem tT (k:Nat):(0:Int)<=2^k:=by
 rw [two_pow_cast]
 exact Int.natCast_nonneg _
theorem Ck:OpR X (binaryOp .Add) (rI0 fun i j=>.int (i+j)):=Ex fun _ _ _ _ _ _ _ q=>add_int q
theorem Cm:OpR X (binaryOp .Sub) (rI0 fun i j=>.int (i - j)):=Ex fun _ _ _ _ _ _ _ q=>sub_int q
theorem Cn:OpR X (binaryOp .Mult) (rI Eh fun i j=>.int (i*j)):=opI fun _ _ _ _ _ _ _ hc q=>mul_int q hc.ok
theorem z0:OpR X (binaryOp .FloorDiv) (rI Ey fun i j=>.int (i / j)):=opI fun i j _ _ _ _ _ hc q=>by
 have h1:(0:Int)<j:=hc.1
 have h2:j<1073741824:=hc.2
 exact floordiv_int (by omega) (by rw [Int.fdiv_eq_ediv_of_nonneg i (by omega)];exact q) (.inl (PyProof.noPylong_small (by omega)))
theorem Co:OpR X (binaryOp .Mod) (rI (fun _ j=>0<j) fun i j=>.int (i % j)):=opI fun i j _ _ _ _ _ hc q=>by
 have h1:(0:Int)<j:=hc
 exact mod_int' (by omega) (by rw [Int.fmod_eq_emod_of_nonneg i (by omega)];exact q)
theorem Cq:OpR X (binaryOp .Pow) (rI Cj fun i j=>.int (i^j.toNat)):=opI fun _ _ _ _ _ _ _ hc q=>pow_int_small hc.1 hc.2.1 hc.2.2 q
theorem Cr:OpR X (binaryOp .LShift) (rI Cj fun i j=>.int (i*2^j.toNat)):=opI fun _ _ _ _ _ _ _ hc q=>lshift_int_small hc.1 hc.2.1 hc.2.2 q
theorem Cs:OpR X (binaryOp .RShift) (rI (fun _ j=>0<=j) fun i j=>.int (i / 2^j.toNat)):=opI fun i j _ _ _ _ _ hc q =>
 rshift_int hc (by rw [Int.fdiv_eq_ediv_of_nonneg i (tT _)];exact q)
theorem Ct:OpR X (binaryOp .BitAnd) (rI0 fun i j=>.int (Builtin.bitAnd i j)):=Ex fun _ _ _ _ _ _ _ q=>and_int q
theorem unI {f:Value->Sem Value}{g:Int->Int}
  (rule:∀(i:Int) (t:Tok) (s:Shared) (Q:Value->Shared->Prop) (E:Value->Shared->Prop),Q (.int (g i) s.toks) { s with toks:=s.toks+1 }->wpAny (model X.prog X.w) X.A (f (.int i t)) Q E s) :
  UnR X f (rU fun i=>.int (g i)):=by
 intro pins s σ H x v Q I rx h
 obtain⟨i,rfl,q⟩:=h
 obtain⟨t,rfl⟩:=rx
 exact rule i t s _ _ ⟨.int (g i),H,I.tok _,⟨_,rfl⟩,q⟩
theorem gg:UnR X (unaryOp .USub) (rU fun i=>.int (-i)):=unI fun _ _ _ _ _ q=>neg_int q
end
def Fx:V->V->Bool
|.non,.non=>true|.non,.int _=>true|.int _,.non=>true|.non,.bl _=>true|.bl _,.non=>true|.non,.str _=>true|.str _,.non=>true
|.int _,.int _=>true|.bl _,.bl _=>true|.str _,.str _=>true|.byt _,.byt _=>true
|.int _,.str _=>true|.str _,.int _=>true|.bl _,.str _=>true|.str _,.bl _=>true
|_,_=>false
def rEq:R2:=fun x y H Q=>Fx x y=true/\Q (.bl (decide (x=y))) H
def rNe:R2:=fun x y H Q=>Fx x y=true/\Q (.bl (!decide (x=y))) H
theorem uY {i j:Int}:decide (V.int i=V.int j)=(i == j):=by
 rw [Bool.eq_iff_iff]
 simp
theorem zg {i j:Bool}:decide (V.bl i=V.bl j)=(i == j):=by
 rw [Bool.eq_iff_iff]
 simp
theorem uZ {i j:Str}:decide (V.str i=V.str j)=(i == j):=by
 rw [Bool.eq_iff_iff]
 simp
theorem u0 {i j:Array UInt8}:decide (V.byt i=V.byt j)=(i.toList == j.toList):=by
 rw [Bool.eq_iff_iff]
 cases i
 cases j
 simp
section
variable {X:Cx}{a b c:Expr}{ta tb tc:TE}{pos:Pos}
theorem bA {pins:List (Addr×Obj)}{σ:St}{H:Hp}{s:Shared}{Q:VK}{k k':Bool} (I:Inv X pins σ H s) (q:Q (.bl k) H) (e:k=k'):EP X pins σ Q (.bool k') s:=by
 subst e
 exact⟨.bl k,H,I,rfl,q⟩
theorem Ez:OpR X (compareOp .Eq) rEq:=by
 intro pins s σ H x y v u Q I rx ry h
 obtain⟨hs,q⟩:=h
 cases x with
|non =>
  cases rx
  cases y with
 |non=>cases ry;exact PySem.EqNone.eq_none_none (bA I q (by simp))
 |bl j=>cases ry;exact PySem.EqNone.eq_none_bool (bA I q (by simp))
 |int j=>obtain⟨t',rfl⟩:=ry;exact PySem.EqNone.eq_none_int (bA I q (by simp))
 |str j=>obtain⟨t',rfl⟩:=ry;exact PySem.EqNone.eq_none_str (bA I q (by simp))
 |_=>exact absurd (show false=true from hs) Bool.false_ne_true
|bl i =>
  cases rx
  cases y with
 |non=>cases ry;exact PySem.EqNone.eq_bool_none (bA I q (by simp))
 |bl j=>cases ry;exact eq_bool (bA I q zg)
 |str j=>obtain⟨t',rfl⟩:=ry;exact PySem.EqMixed.eq_bool_str (bA I q (by simp))
 |_=>exact absurd (show false=true from hs) Bool.false_ne_true
|int i =>
  obtain⟨t,rfl⟩:=rx
  cases y with
 |non=>cases ry;exact PySem.EqNone.eq_int_none (bA I q (by simp))
 |int j=>obtain⟨t',rfl⟩:=ry;exact eq_int (bA I q uY)
 |str j=>obtain⟨t',rfl⟩:=ry;exact PySem.EqMixed.eq_int_str (bA I q (by simp))
 |_=>exact absurd (show false=true from hs) Bool.false_ne_true
|str i =>
  obtain⟨t,rfl⟩:=rx
  cases y with
 |non=>cases ry;exact PySem.EqNone.eq_str_none (bA I q (by simp))
 |bl j=>cases ry;exact PySem.EqMixed.eq_str_bool (bA I q (by simp))
 |int j=>obtain⟨t',rfl⟩:=ry;exact PySem.EqMixed.eq_str_int (bA I q (by simp))
 |str j=>obtain⟨t',rfl⟩:=ry;exact eq_str (bA I q uZ)
 |_=>exact absurd (show false=true from hs) Bool.false_ne_true
|byt i =>
  obtain⟨t,rfl⟩:=rx
  cases y with
 |byt j=>obtain⟨t',rfl⟩:=ry;exact PySem.W.eq_bytes (bA I q u0)
 |_=>exact absurd (show false=true from hs) Bool.false_ne_true
|_=>cases y <;> exact absurd (show false=true from hs) Bool.false_ne_true
theorem EA:OpR X (compareOp .NotEq) rNe:=by
 intro pins s σ H x y v u Q I rx ry h
 obtain⟨hs,q⟩:=h
 cases x with
|non =>
  cases rx
  cases y with
 |non=>cases ry;exact PySem.EqNone.ne_none_none (bA I q (by simp))
 |bl j=>cases ry;exact PySem.EqNone.ne_none_bool (bA I q (by simp))
 |int j=>obtain⟨t',rfl⟩:=ry;exact PySem.EqNone.ne_none_int (bA I q (by simp))
 |str j=>obtain⟨t',rfl⟩:=ry;exact PySem.EqNone.ne_none_str (bA I q (by simp))
 |_=>exact absurd (show false=true from hs) Bool.false_ne_true
|bl i =>
  cases rx
  cases y with
 |non=>cases ry;exact PySem.EqNone.ne_bool_none (bA I q (by simp))
 |bl j=>cases ry;exact ne_bool (bA I q (congrArg not zg))
 |str j=>obtain⟨t',rfl⟩:=ry;exact PySem.EqMixed.ne_bool_str (bA I q (by simp))
 |_=>exact absurd (show false=true from hs) Bool.false_ne_true
|int i =>
  obtain⟨t,rfl⟩:=rx
  cases y with
 |non=>cases ry;exact PySem.EqNone.ne_int_none (bA I q (by simp))
 |int j=>obtain⟨t',rfl⟩:=ry;exact ne_int (bA I q (congrArg not uY))
 |str j=>obtain⟨t',rfl⟩:=ry;exact PySem.EqMixed.ne_int_str (bA I q (by simp))
 |_=>exact absurd (show false=true from hs) Bool.false_ne_true
|str i =>
  obtain⟨t,rfl⟩:=rx
  cases y with
 |non=>cases ry;exact PySem.EqNone.ne_str_none (bA I q (by simp))
 |bl j=>cases ry;exact PySem.EqMixed.ne_str_bool (bA I q (by simp))
 |int j=>obtain⟨t',rfl⟩:=ry;exact PySem.EqMixed.ne_str_int (bA I q (by simp))
 |str j=>obtain⟨t',rfl⟩:=ry;exact ne_str (bA I q (congrArg not uZ))
 |_=>exact absurd (show false=true from hs) Bool.false_ne_true
|byt i =>
  obtain⟨t,rfl⟩:=rx
  cases y with
 |byt j=>obtain⟨t',rfl⟩:=ry;exact PySem.W.ne_bytes (bA I q (congrArg not u0))
 |_=>exact absurd (show false=true from hs) Bool.false_ne_true
|_=>cases y <;> exact absurd (show false=true from hs) Bool.false_ne_true
theorem EB:OpR X (compareOp .Lt) (rI0 fun i j=>.bl (decide (i<j))):=BV fun _ _ _ _ _ _ _ q=>lt_int q
theorem EC:OpR X (compareOp .LtE) (rI0 fun i j=>.bl (decide (i<=j))):=BV fun _ _ _ _ _ _ _ q=>le_int q
theorem ED:OpR X (compareOp .Gt) (rI0 fun i j=>.bl (decide (j<i))):=BV fun _ _ _ _ _ _ _ q=>gt_int q
theorem EE:OpR X (compareOp .GtE) (rI0 fun i j=>.bl (decide (j<=i))):=BV fun _ _ _ _ _ _ _ q=>ge_int q
theorem u4:OpR X (compareOp .Lt) (fun x y H Q=>∃i j,x=.str i/\y=.str j/\Q (.bl (decide (i.cps.toList<j.cps.toList))) H):=by
 intro pins s σ H x y v u Q I rx ry h
 obtain⟨i,j,rfl,rfl,q⟩:=h
 obtain⟨t,rfl⟩:=rx
 obtain⟨t',rfl⟩:=ry
 exact lt_str (bA I q rfl)
theorem Cu:OpR X (compareOp .Is) (fun x y H Q=>y=.non/\Q (.bl (decide (x=.non))) H):=by
 intro pins s σ H x y v u Q I rx ry h
 obtain⟨rfl,q⟩:=h
 cases ry
 refine is_none_gen (bA I q ?_)
 cases x <;> first
  | (cases rx;rfl)
  | (obtain ⟨t,rfl⟩:=rx;rfl)
theorem Aa:OpR X (compareOp .IsNot) (fun x y H Q=>y=.non/\Q (.bl (!decide (x=.non))) H):=by
 intro pins s σ H x y v u Q I rx ry h
 obtain⟨rfl,q⟩:=h
 cases ry
 refine isnot_none_gen (bA I q ?_)
 cases x <;> first
  | (cases rx;rfl)
  | (obtain ⟨t,rfl⟩:=rx;rfl)
theorem OpR.or {f:Value->Value->Sem Value}{r r':R2} (h:OpR X f r) (h':OpR X f r'):OpR X f (fun x y H Q=>r x y H Q\/r' x y H Q):=by
 intro pins s σ H x y v u Q I rx ry q
 rcases q with q|q
 .exact h pins s σ H x y v u Q I rx ry q
 .exact h' pins s σ H x y v u Q I rx ry q
theorem bb (b:Expr) {op:CmpOp} (h:op≠.In:=by decide) (h2:op≠.NotIn:=by decide):behindInMarks op b=false:=by
 have e1:(op == CmpOp.In)=false:=by cases op <;> first|rfl|exact absurd rfl h
 have e2:(op == CmpOp.NotIn)=false:=by cases op <;> first|rfl|exact absurd rfl h2
 cases b <;> simp [behindInMarks,e1,e2]
theorem ip {op:CmpOp}{r:R2} (ho:OpR X (compareOp op) r) (ha:PE X a ta) (hb:PE X b tb) (hm:behindInMarks op b=false):PE X (.Compare a [op] [b] pos) (tOp r ta tb):=by
 intro pins s σ H Q I h
 exact wpAny_Compare1 (Ew ha hb I h fun v u s2 x y H2 I2 rx ry q=>ho pins s2 σ H2 x y v u Q I2 rx ry q) hm
def jX (t:TE):TT:=fun σ H Q=>t σ H fun x H'=>∃k,x=.bl k/\Q k H'
theorem aN {op:CmpOp}{r:R2} (ho:OpR X (compareOp op) r) (ha:PE X a ta) (hb:PE X b tb) (hm:behindInMarks op b=false):PT X (.Compare a [op] [b] pos) (jX (tOp r ta tb)):=by
 intro pins s σ H Q I h
 refine wpAny_isTrue_Compare1 (thn (ha pins s σ H _ I h) fun v s1 ⟨x,H1,I1,r1,q1⟩=>thn (hb pins s1 σ H1 _ I1 q1) fun u s2 ⟨y,H2,I2,r2,q2⟩ =>
  thn (ho pins s2 σ H2 x y v u _ I2 r1 r2 q2) fun c s3 ⟨z,H3,I3,r3,k,e,q3⟩=>?_) hm
 subst e
 cases r3
 exact wpAny_truthy_bool ⟨H3,I3,q3⟩
def rY (r r':R2) (ta tb tc:TE):TE:=fun σ H Q=>ta σ H fun x H1=>tb σ H1 fun y H2=>r x y H2 fun z H3=>∃k,z=.bl k /\
 (if k=true then tc σ H3 fun w' H4=>r' y w' H4 Q else Q (.bl false) H3)
theorem xH {op op':CmpOp}{r r':R2} (ho:OpR X (compareOp op) r) (ho':OpR X (compareOp op') r') (ha:PE X a ta) (hb:PE X b tb) (hc:PE X c tc)
  (hm:lastMarks [op,op'] [b,c]=false:=by with_unfolding_all rfl):PE X (.Compare a [op,op'] [b,c] pos) (rY r r' ta tb tc):=by
 intro pins s σ H Q I h
 refine Compare_chain (thn (ha pins s σ H _ I h) fun v s1 ⟨x,H1,I1,r1,q1⟩=>chain_link (thn (hb pins s1 σ H1 _ I1 q1) fun u s2 ⟨y,H2,I2,r2,q2⟩ =>
  thn (ho pins s2 σ H2 x y v u _ I2 r1 r2 q2) fun d s3 ⟨z,H3,I3,r3,k,e,q3⟩=>?_)) hm
 subst e
 cases r3
 refine wpAny_truthy_bool ?_
 cases k with
|false=>exact ite_ff ⟨.bl false,H3,I3,rfl,q3⟩
|true=>exact ite_tt (chain_last (thn (hc pins s3 σ H3 _ I3 q3) fun w' s4 ⟨z',H4,I4,r4,q4⟩=>ho' pins s4 σ H4 y z' u w' Q I4 r2 r4 q4))
theorem xI {op op':CmpOp}{r r':R2} (ho:OpR X (compareOp op) r) (ho':OpR X (compareOp op') r') (ha:PE X a ta) (hb:PE X b tb) (hc:PE X c tc)
  (hm:lastMarks [op,op'] [b,c]=false:=by with_unfolding_all rfl):PT X (.Compare a [op,op'] [b,c] pos) (jX (rY r r' ta tb tc)):=by
 intro pins s σ H Q I h
 refine isTrue_chain (thn (ha pins s σ H _ I h) fun v s1 ⟨x,H1,I1,r1,q1⟩=>test_link (thn (hb pins s1 σ H1 _ I1 q1) fun u s2 ⟨y,H2,I2,r2,q2⟩ =>
  thn (ho pins s2 σ H2 x y v u _ I2 r1 r2 q2) fun d s3 ⟨z,H3,I3,r3,k,e,q3⟩=>?_)) hm
 subst e
 cases r3
 refine wpAny_truthy_bool ?_
 cases k with
|false =>
  obtain⟨k',e',q'⟩:=q3
  cases e'
  exact ite_ff ⟨H3,I3,q'⟩
|true =>
  refine ite_tt (test_last (thn (hc pins s3 σ H3 _ I3 q3) fun w' s4 ⟨z',H4,I4,r4,q4⟩=>thn (ho' pins s4 σ H4 y z' u w' _ I4 r2 r4 q4) fun d' s5 ⟨z2,H5,I5,r5,k2,e2,q5⟩=>?_))
  subst e2
  cases r5
  exact wpAny_truthy_bool ⟨H5,I5,q5⟩
theorem mw:(sizeLine:Nat)<2^63:=by rw [sizeLine_eq];decide
theorem tU:OpR X (binaryOp .Add) (fun x y H Q=>∃i j,x=.str i/\y=.str j/\i.length+j.length<=sizeLine/\Q (.str (i++j)) H):=by
 intro pins s σ H x y v u Q I rx ry h
 obtain⟨i,j,rfl,rfl,hz,q⟩:=h
 obtain⟨t,rfl⟩:=rx
 obtain⟨t',rfl⟩:=ry
 exact add_str (fun t' tk=>⟨.str (i++j),H,I.tok _,⟨_,rfl⟩,q⟩) hz
theorem gT {x:V}{us:List Value} (r:bW [x] us):∃u,us=[u]/\dh x u:=by
 cases r with
|cons r1 r2=>cases r2;exact⟨_,rfl,r1⟩
theorem Ab {x y:V}{us:List Value} (r:bW [x,y] us):∃u w',us=[u,w']/\dh x u/\dh y w':=by
 cases r with
|cons r1 r2 =>
  cases r2 with
 |cons r3 r4=>cases r4;exact⟨_,_,rfl,r1,r3⟩
theorem u5 (hc:X.calm=true):cw X (.builtin "min") (fun xs H Q=>∃i j,xs=[.int i,.int j]/\Q (.int (if j<i then j else i)) H):=by
 intro pins s σ H xs us Q I r h
 obtain⟨i,j,rfl,q⟩:=h
 obtain⟨u,w',rfl,⟨t,rfl⟩,⟨t',rfl⟩⟩:=Ab r
 refine min_two_ints (I.ok.hd hc) fun h' tk k=>⟨_,H,I.kept k,?_,q⟩
 by_cases hj:j<i
 .rw [if_pos hj,if_pos hj];exact⟨_,rfl⟩
 .rw [if_neg hj,if_neg hj];exact⟨_,rfl⟩
end
structure Ac (h:Heap) (x dx C:Addr) (mA:Str->Option Value):Prop where
 obj:h.get? x=some (PySem.W.instObj C dx)
 ns:h.Ns1 dx mA
 ne:dx≠x
theorem u6 {h:Heap}{dx:Addr}{mA:Str->Option Value} (n:h.Ns1 dx mA):∃od,h.get? dx=some od/\∀name,PySem.W.lookIn name od=some (mA name):=by
 obtain⟨o,es,ep,ho,hd,hk,_,hm⟩:=n
 refine⟨o,ho,fun name=>?_⟩
 have e:=hm name
 unfold nsFind findBy at e
 rw [<- Array.find?_toList] at e
 unfold PySem.W.lookIn
 rw [hd]
 dsimp only
 split
 .rename_i y q
  rw [q] at e
  exact congrArg some e
 .rename_i q
  rw [q] at e
  have a:es.toList.any (·.refKey)=false:=by
   rw [List.any_eq_false]
   intro y hy
   obtain⟨z,t,hkey⟩:=hk y (Array.mem_toList_iff.mp hy)
   simp [DictEntry.refKey,hkey]
  have a':¬ es.toList.any (·.refKey)=true:=by rw [a];exact Bool.false_ne_true
  rw [if_neg a']
  exact congrArg some e
theorem Ac.look {h:Heap}{x dx C:Addr}{mA:Str->Option Value} (I:Ac h x dx C mA):∃od,PySem.W.InstAt h x (PySem.W.instObj C dx) C (some od)/\∀name,PySem.W.lookIn name od=some (mA name) :=
 let ⟨od,ho,hl⟩:=u6 I.ns
 ⟨od,⟨I.obj,rfl,rfl,ho⟩,hl⟩
section
variable {prog:Program}{w:World}{A:Around}{E:Value->Shared->Prop}{s:Shared}{K:PySem.W.Frag}{x dx C f:Addr}{mA:Str->Option Value}{name:Str}{v:Value}
theorem Ad {expr:Bool}{Q:Value->Shared->Prop} (X:K.In s.heap) (I:Ac s.heap x dx C mA) (hg:PySem.W.plainGet K C name=true) (hh:PySem.W.hasDictIn K C=true)
  (ha:PySem.W.findIn K (.ref C) name=some none) (hv:mA name=some v) (hv':PySem.W.handedIn v=true) (h:Q v { s with toks:=s.toks+1 }) :
  wpAny (model prog w) A (getAttr (.ref x) name expr) Q E s:=by
 obtain⟨od,J,hl⟩:=I.look
 exact PySem.W.get_value X J (PySem.W.plainGet_of hg).1 (PySem.W.findObj_own hh ha rfl (by rw [hl,hv])) hv' h
theorem xJ {pl:Sem Bool}{Q:Value×List Value->Shared->Prop} (X:K.In s.heap) (I:Ac s.heap x dx C mA) (hg:PySem.W.plainGet K C name=true)
  (hf:PySem.W.findIn K (.ref C) name=some (some (.ref f))) (ht:PySem.W.isFn K (.ref f)=true) (hv:mA name=none) (h:Q (.ref f,[.ref x]) s) :
  wpAny (model prog w) A (getMethod (.ref x) name pl) Q E s:=by
 obtain⟨od,J,hl⟩:=I.look
 exact PySem.W.method_fn X J (PySem.W.plainGet_of hg).1 (PySem.W.plainGet_of hg).2 hf (beq_iff_eq.mp ht) (by show (PySem.W.lookIn name od).map (·.isSome)=some false;rw [hl,hv];rfl) h
theorem Ae {ns:List Str}{Q:Unit->Shared->Prop} (X:K.In s.heap) (I:Ac s.heap x dx C mA)
  (hs:PySem.W.findIn K (.ref C) "__setattr__"=some (some (.builtin "object.__setattr__"))) (hp:PySem.W.plainOver K C=true) (ht:PySem.W.takerIn K C name=some none) (hh:PySem.W.hasDictIn K C=true)
  (hw:PySem.Within mA ns) (hsz:ns.length<=sizeLine)
  (h:∀h',Ac h' x dx C (fun y=>if y=name then some v else mA y)->Heap.SameBut dx s.heap h'->Q () { s with heap:=h',toks:=s.toks+2 }) :
  wpAny (model prog w) A (setAttr (.ref x) name v) Q E s:=by
 obtain⟨od,J,hl⟩:=I.look
 refine PySem.W.set_plain X J hs (PySem.W.osa_open (s:={ s with toks:=s.toks+1 }) (r:=none) X J hp ht fun b=>?_)
 obtain⟨cd,hc,hd'⟩:=PySem.W.any_some hh
 have hx:s.heap.get? x=some ⟨.ref C,some dx,.plain,#[]⟩:=I.obj
 refine wpAny_bind (wpAny_pure (wpAny_bind (wpAny_bind (wpAny_loadPart hx (wpAny_bind (PySem.W.Looks.here (s:={ s with toks:=s.toks+1 }) (PySem.W.looks_clsIn X hc) ?_))))))
 rw [hd']
 refine wpAny_pure (a:=some dx) (wpAny_bind (wpAny_pure (wpAny_bind ?_)))
 refine wpAny_nsSet1 (s:={ s with toks:=s.toks+1 }) I.ns fun h' hn2 hs2=>?_
 obtain⟨oD,esD,epD,hoD,hdD,hcD⟩:=hn2.count (PySem.Within.cons name v hw)
 refine wpAny_bind (wpAny_lookBehind hoD (by rw [hdD];exact pastItsLine_dict (Nat.le_trans hcD (by rw [List.length_cons];omega))) ?_)
 exact wpAny_pure (h _ ⟨(hs2.2 _ (Ne.symm I.ne)).trans I.obj,hn2,I.ne⟩ hs2)
theorem xK {R:Result->Shared->Prop}{vs:List Value}{kw:List (Str×Value)} (X:K.In s.heap) (hm:PySem.W.makesIn K C=true)
  (hi:PySem.W.findIn K (.ref C) "__init__"=some (some (.ref f))) (hf:PySem.W.typeIn K (.ref f)=some (.type "function"))
  (h:codeAny (model prog w) (A.under (.builtin "type.__call__" ⟨.ref C::vs,kw⟩)) (.call (.ref f) ⟨.ref (s.heap.objs.size+1)::vs,kw⟩) (PySem.W.InitBack (s.heap.objs.size+1) R)
   { s with heap:=(s.heap.push PySem.W.emptyDict).push (PySem.W.instObj C s.heap.objs.size) }) :
  codeAny (model prog w) A (.call (.ref C) ⟨vs,kw⟩) R s:=by
 obtain⟨hh,g,d,t,os⟩:=s
 exact PySem.W.make_core (PySem.W.makes_of X hm) (PySem.W.looks_findIn X hi) (fun self=>PySem.W.bind_fn X self hf) (.inl rfl) h
end
def my (f:Str) (v:V):List (Str×V)->List (Str×V)
|[]=>[(f,v)]
 | (g,x)::r=>if g=f then (g,v)::r else (g,x)::my f v r
theorem ko (f g:Str) (v:V):∀fs:List (Str×V),(my f v fs).lookup g=if g=f then some v else fs.lookup g
|[]=>by
  show List.lookup g [(f,v)]=_
  by_cases h:g=f
  .have hb:(g == f)=true:=beq_iff_eq.mpr h
   simp only [List.lookup,hb,if_pos h]
  .have hb:(g == f)=false:=beq_eq_false_iff_ne.mpr h
   simp only [List.lookup,hb,if_neg h]
 | (k,x)::r=>by
  have ih:=ko f g v r
  rw [show my f v ((k,x)::r)=(if k=f then (k,v)::r else (k,x)::my f v r) from rfl]
  by_cases hk:k=f
  .rw [if_pos hk]
   by_cases h:g=k
   .have hb:(g == k)=true:=beq_iff_eq.mpr h
    simp only [List.lookup,hb,if_pos (h.trans hk)]
   .have hb:(g == k)=false:=beq_eq_false_iff_ne.mpr h
    simp only [List.lookup,hb,if_neg (fun e:g=f=>h (e.trans hk.symm))]
  .rw [if_neg hk]
   by_cases h:g=k
   .have hb:(g == k)=true:=beq_iff_eq.mpr h
    simp only [List.lookup,hb,if_neg (fun e:g=f=>hk (h.symm.trans e))]
   .have hb:(g == k)=false:=beq_eq_false_iff_ne.mpr h
    simp only [List.lookup,hb]
    exact ih
theorem kq (f:Str) (v:V):∀fs:List (Str×V),f∈(my f v fs).map (·.1)/\∀g,g∈fs.map (·.1)->g∈(my f v fs).map (·.1)
|[]=>⟨by simp [my],fun g h=>by simp at h⟩
 | (k,x)::r=>by
  obtain⟨i1,i2⟩:=kq f v r
  rw [show my f v ((k,x)::r)=(if k=f then (k,v)::r else (k,x)::my f v r) from rfl]
  by_cases hk:k=f
  .rw [if_pos hk]
   subst hk
   exact⟨by simp,fun g h=>by simpa using h⟩
  .rw [if_neg hk]
   refine⟨?_,fun g h=>?_⟩
   .rw [List.map_cons]
    exact List.mem_cons_of_mem _ i1
   .rw [List.map_cons] at h ⊢
    rcases List.mem_cons.mp h with e|e
    .exact List.mem_cons.mpr (.inl e)
    .exact List.mem_cons_of_mem _ (i2 g e)
theorem kt (f:Str) (v:V):∀fs:List (Str×V),(my f v fs).length<=fs.length+1
|[]=>by simp [my]
 | (k,x)::r=>by
  have ih:=kt f v r
  rw [show my f v ((k,x)::r)=(if k=f then (k,v)::r else (k,x)::my f v r) from rfl]
  by_cases hk:k=f
  .rw [if_pos hk,List.length_cons,List.length_cons];omega
  .rw [if_neg hk,List.length_cons,List.length_cons];omega
theorem xz.some_of {v:V}{o:Option Value} (r:xz (some v) o):∃u,o=some u/\dh v u:=by
 cases o with
|none=>exact (show False from r).elim
|some u=>exact⟨u,rfl,r⟩
theorem xz.none_of {o:Option Value} (r:xz none o):o=none:=by
 cases o with
|none=>rfl
|some u=>exact (show False from r).elim
theorem u7 {v:V}{u:Value} (r:dh v u):PySem.W.handedIn u=true:=by
 cases v with
|non=>cases (show u=Value.none from r);rfl
|bl b=>cases (show u=Value.bool b from r);rfl
|int i=>obtain⟨t,e⟩:=(show ∃t,u=Value.int i t from r);cases e;rfl
|str x=>obtain⟨t,e⟩:=(show ∃t,u=Value.str x t from r);cases e;rfl
|byt b=>obtain⟨t,e⟩:=(show ∃t,u=Value.bytes b t from r);cases e;rfl
|flt b=>obtain⟨t,e⟩:=(show ∃t,u=Value.float b t from r);cases e;rfl
|ref a=>cases (show u=Value.ref a from r);rfl
|ty n=>cases (show u=Value.type n from r);rfl
section
variable {P:Program}{w:World}{H H':Hp}{h h':Heap}{a C dx:Addr}{fs fs':List (Str×V)}
theorem ku (hok:HOk P w H h) (e:H a=some (.ins C dx fs)):∃mA,Ac h a dx C mA/\(∀f,xz (fs.lookup f) (mA f))/\PySem.Within mA (fs.map (·.1))/\fs.length<=1000/\H dx=some (.own a):=by
 obtain⟨d,z,ne,ob,mA,n,r,q⟩:=(show cF P w H h a (.ins C dx fs) from hok a _ e)
 exact⟨mA,⟨ob,n,ne⟩,r,q,z,d⟩
end
structure Cls (K:PySem.W.Frag) (C:Addr):Prop where
 pg:PySem.W.plainGet K C Str.empty=true
 hd:PySem.W.hasDictIn K C=true
 po:PySem.W.plainOver K C=true
 sa:PySem.W.findIn K (.ref C) "__setattr__"=some (some (.builtin "object.__setattr__"))
theorem Cls.get {K:PySem.W.Frag}{C:Addr} (c:Cls K C) (f:Str):PySem.W.plainGet K C f=true:=c.pg
def eE (K:PySem.W.Frag) (C:Addr) (f:Str):Prop:=PySem.W.findIn K (.ref C) f=some none
theorem eE.taker {K:PySem.W.Frag}{C:Addr}{f:Str} (n:eE K C f):PySem.W.takerIn K C f=some none:=by
 unfold PySem.W.takerIn
 rw [show PySem.W.findIn K (.ref C) f=some none from n]
 rfl
structure Ei (K:PySem.W.Frag) (C:Addr) (m:Str) (f:Addr):Prop where
 at_:PySem.W.findIn K (.ref C) m=some (some (.ref f))
 fn:PySem.W.isFn K (.ref f)=true
 kp:PySem.W.keepIn K (.ref f)=true
section
variable {X:Cx}{pins:List (Addr×Obj)}{σ:St}{H:Hp}{s:Shared}{a C dx:Addr}{fs:List (Str×V)}{f:Str}{v:V}{A:Around}{E:Value->Shared->Prop}
theorem tV {b:Bool}{Q:Value->Shared->Prop} (I:Inv X pins σ H s) (e:H a=some (.ins C dx fs)) (c:Cls X.K C) (n:eE X.K C f) (l:fs.lookup f=some v)
  (h:∀u s',Inv X pins σ H s'->dh v u->Q u s'):wpAny (model X.prog X.w) A (getAttr (.ref a) f b) Q E s:=by
 obtain⟨mA,O,r,_,_,_⟩:=ku I.hok e
 obtain⟨u,hu,ru⟩:=xz.some_of (v:=v) (o:=mA f) (by rw [<- l];exact r f)
 exact Ad I.kIn O (c.get f) c.hd n hu (u7 ru) (h u _ (I.tok _) ru)
theorem tW {m:Str}{g:Addr}{pl:Sem Bool}{Q:Value×List Value->Shared->Prop} (I:Inv X pins σ H s) (e:H a=some (.ins C dx fs)) (c:Cls X.K C) (k:Ei X.K C m g) (l:fs.lookup m=none)
  (h:Q (.ref g,[.ref a]) s):wpAny (model X.prog X.w) A (getMethod (.ref a) m pl) Q E s:=by
 obtain⟨mA,O,r,_,_,_⟩:=ku I.hok e
 have hn:mA m=none:=xz.none_of (by rw [<- l];exact r m)
 exact xJ I.kIn O (c.get m) k.at_ k.fn hn h
theorem tX {y:V}{u:Value}{Q:Unit->Shared->Prop} (I:Inv X pins σ H s) (e:H a=some (.ins C dx fs)) (c:Cls X.K C) (n:eE X.K C f) (hl:fs.length<1000) (ry:dh y u)
  (h:∀s',Inv X pins σ (upd H a (.ins C dx (my f y fs))) s'->Q () s'):wpAny (model X.prog X.w) A (setAttr (.ref a) f u) Q E s:=by
 obtain⟨mA,O,r,wi,_,ho⟩:=ku I.hok e
 have hz:(fs.map (·.1)).length<=sizeLine:=by rw [List.length_map,sizeLine_eq];omega
 refine Ae I.kIn O c.sa c.po n.taker c.hd wi hz fun h' O' sb=>h _ ?_
 have hd:∃o,h'.get? dx=some o:=let ⟨o,_,_,e',_⟩:=O'.ns;⟨o,e'⟩
 refine I.write (x:=a) (e:=dx) (by rw [e];exact True.intro) (.inr ho) (fun b q hb z=>(sb.2 b hb).trans z) hd ?_
 refine⟨by rw [aB O.ne];exact ho,?_,O.ne,O'.obj,_,O'.ns,fun g=>?_,fun g hg=>?_⟩
 .have:=kt f y fs;omega
 .show xz ((my f y fs).lookup g) (if g=f then some u else mA g)
  rw [ko]
  by_cases q:g=f
  .rw [if_pos q,if_pos q];exact ry
  .rw [if_neg q,if_neg q];exact r g
 .by_cases q:g=f
  .rw [q];exact (kq f y fs).1
  .refine (kq f y fs).2 g (wi g fun z=>hg ?_)
   show (if g=f then some u else mA g)=none
   rw [if_neg q];exact z
theorem Inv.made (I:Inv X pins σ H s):Inv X pins σ (upd (upd H s.heap.objs.size (.own (s.heap.objs.size+1))) (s.heap.objs.size+1) (.ins C s.heap.objs.size []))
  { s with heap:=(s.heap.push PySem.W.emptyDict).push (PySem.W.instObj C s.heap.objs.size) }:=by
 have e1:(s.heap.push PySem.W.emptyDict).get? s.heap.objs.size=some PySem.W.emptyDict:=Heap.get?_push_size s.heap rfl
 have e2:((s.heap.push PySem.W.emptyDict).push (PySem.W.instObj C s.heap.objs.size)).get? (s.heap.objs.size+1)=some (PySem.W.instObj C s.heap.objs.size):=by
  have:=Heap.get?_push_size (s.heap.push PySem.W.emptyDict) (o:=PySem.W.instObj C s.heap.objs.size) rfl
  rwa [Heap.size_push] at this
 have e3:(s.heap.push PySem.W.emptyDict).Ns s.heap.objs.size (fun _=>none):=⟨PySem.W.emptyDict,#[],_,e1,rfl,(fun e he=>absurd he (by simp)),fun _=>rfl⟩
 have I1:=I.laid (a:=s.heap.objs.size) (o:=.own (s.heap.objs.size+1)) (h':=s.heap.push PySem.W.emptyDict) (t':=s.toks) (fun b u q=>Heap.get?_push_of_some _ q) (Nat.le_refl _) ⟨_,e1⟩
 refine I1.laid (a:=s.heap.objs.size+1) (o:=.ins C s.heap.objs.size []) (t':=s.toks) (fun b u q=>Heap.get?_push_of_some _ q) (Nat.le_of_eq (Heap.size_push _ _)) ?_
 have ne:s.heap.objs.size≠s.heap.objs.size+1:=Nat.ne_of_lt (Nat.lt_succ_self _)
 refine⟨by rw [aB ne,aL],Nat.zero_le _,ne,e2,fun _=>none,(Heap.Ns1.of_empty e3).at fun o q=>Heap.get?_push_of_some _ q,fun _=>True.intro,fun y hy=>absurd rfl hy⟩
theorem Af {prog:Program}{w:World}{env:Env}{e:Expr}{f:Str}{pos:Pos}{s:Shared}{Q:Value->Shared->Prop} (hb:attributeBase e f env (eval e env)=eval e env)
  (h:wpAny (model prog w) A (eval e env) (fun o s₁=>wpAny (model prog w) A (getAttr o f true) Q E s₁) E s):wpAny (model prog w) A (eval (.Attribute e f pos) env) Q E s :=
 Attribute_any_ h (by rw [arm_eval_Attribute,hb])
end
def u8 (K:PySem.W.Frag) (ta:TE) (f:Str):TE:=fun σ H Q=>ta σ H fun x H1=>∃a C dx fs v,x=.ref a/\H1 a=some (.ins C dx fs)/\Cls K C/\eE K C f/\fs.lookup f=some v/\Q v H1
def Fy (K:PySem.W.Frag) (ta tv:TE) (f:Str):TS:=fun D σ H=>tv σ H fun y H1=>ta σ H1 fun x H2=>∃a C dx fs,x=.ref a/\H2 a=some (.ins C dx fs)/\Cls K C/\eE K C f/\fs.length<1000 /\
 D.nx σ (upd H2 a (.ins C dx (my f y fs)))
section
variable {X:Cx}{o e value:Expr}{f:Str}{pos pos' tpos:Pos}{ta tv:TE}
theorem Cv (he:PE X e ta) (hb:attributeBase e f X.env (eval e X.env)=eval e X.env):PE X (.Attribute e f pos) (u8 X.K ta f):=by
 intro pins s σ H Q I h
 refine Af hb (thn (he pins s σ H _ I h) fun u s1 ⟨x,H1,I1,rx,a,C,dx,fs,v,ex,ea,c,n,l,q⟩=>?_)
 subst ex
 obtain rfl:u=Value.ref a:=rx
 exact tV I1 ea c n l fun u' s2 I2 ru=>⟨v,H1,I2,ru,q⟩
theorem mz (ha:PE X o ta) (hv:PE X value tv) (hs:swapsWith value (some (.Attribute o f pos')) pos.line X.env=pure false):PS X (.Assign [.Attribute o f pos'] value pos) (Fy X.K ta tv f):=by
 intro pins s σ H D I h
 refine plainObj_wpAny_Assign_Attribute (thn (hv pins s σ H _ I h) fun u s1 ⟨y,H1,I1,ry,q⟩=>thn (ha pins s1 σ H1 _ I1 q) fun ov s2 ⟨x,H2,I2,rx,a,C,dx,fs,ex,ea,c,n,l,q2⟩=>?_) hs
 subst ex
 obtain rfl:ov=Value.ref a:=rx
 exact tX I2 ea c n l ry fun s3 I3=>⟨σ,_,I3,q2⟩
end
section
variable {X:Cx}{pins:List (Addr×Obj)}{σ:St}{H:Hp}{s:Shared}{A:Around}{E:Value->Shared->Prop}{Q:Value->Shared->Prop}{c:Value}{b:Bool}
inductive oz (K:PySem.W.Frag) (H:Hp):V->Value->Prop where
|non:oz K H .non (.type "NoneType")
|bl (x:Bool):oz K H (.bl x) (.type "bool")
|int (i:Int):oz K H (.int i) (.type "int")
|str (x:Str):oz K H (.str x) (.type "str")
|flt (x:UInt64):oz K H (.flt x) (.type "float")
|lst {a:Addr}{xs:List V} (e:H a=some (.lst xs)):oz K H (.ref a) (.type "list")
|frz {a:Addr}{o:Obj}{xs:List V} (e:H a=some (.frz o (.lst xs))):oz K H (.ref a) (.type "list")
|tup {a:Addr}{xs:List V} (e:H a=some (.tup xs)):oz K H (.ref a) (.type "tuple")
|dK {a:Addr}{kvs:List (Key×V)} (e:H a=some (.dK kvs)):oz K H (.ref a) (.type "dict")
|dT {a:Addr}{kvs:List (List Key×V)} (e:H a=some (.dT kvs)):oz K H (.ref a) (.type "dict")
|ins {a C dx:Addr}{fs:List (Str×V)} (e:H a=some (.ins C dx fs)) (cl:Cls K C) (ha:PySem.W.findIn K (.ref C) "__class__"=some (some (.builtin "object.__class__")))
   (hn:PySem.W.specialIn K (.builtin "object.__class__") "__get__"=some (some (.builtin "getset_descriptor.__get__"))) (htk:PySem.W.takesIn K (.builtin "object.__class__")=some true)
   (hm:PySem.W.mroIn K C (.type "object")=some true):oz K H (.ref a) (.ref C)
theorem va {x:V}{u t:Value} (I:Inv X pins σ H s) (rx:dh x u) (ty:oz X.K H x t) (e:PySem.W.kitOne X.K t c=some b) (h:∀tk,Q (.bool b) { s with toks:=tk }) :
  wpAny (model X.prog X.w) A (call (.builtin "isinstance") [u,c]) Q E s:=by
 cases ty with
|non=>cases (show u=Value.none from rx);exact PySem.W.kia_one PySem.W.kitx_none I.kIn True.intro e (fun z=>nomatch z) h
|bl y=>cases (show u=Value.bool y from rx);exact PySem.W.kia_one PySem.W.kitx_bool I.kIn True.intro e (fun z=>nomatch z) h
|int i=>obtain⟨t,q⟩:=(show ∃t,u=Value.int i t from rx);cases q;exact PySem.W.kia_one PySem.W.kitx_int I.kIn True.intro e (fun z=>nomatch z) h
|str y=>obtain⟨t,q⟩:=(show ∃t,u=Value.str y t from rx);cases q;exact PySem.W.kia_one PySem.W.kitx_str I.kIn True.intro e (fun z=>nomatch z) h
|flt y=>obtain⟨t,q⟩:=(show ∃t,u=Value.float y t from rx);cases q;exact PySem.W.kia_one PySem.W.kitx_float I.kIn True.intro e (fun z=>nomatch z) h
|@lst a xs ea =>
  cases (show u=Value.ref a from rx)
  obtain⟨_,_,n,_,h1⟩:=(show cF X.prog X.w H s.heap a (.lst xs) from I.hok a _ ea)
  exact PySem.W.kia_one PySem.W.kitx_list I.kIn ⟨_,h1,rfl⟩ e (fun z=>nomatch z) h
|@frz a ob xs ea =>
  cases (show u=Value.ref a from rx)
  obtain⟨_,_,_,n,_,h1⟩:=(show cF X.prog X.w H s.heap a (.frz ob (.lst xs)) from I.hok a _ ea)
  exact PySem.W.kia_one PySem.W.kitx_list I.kIn ⟨_,h1,rfl⟩ e (fun z=>nomatch z) h
|@tup a xs ea =>
  cases (show u=Value.ref a from rx)
  obtain⟨_,_,_,p⟩:=(show cF X.prog X.w H s.heap a (.tup xs) from I.hok a _ ea)
  obtain⟨o,h1,h2,_⟩:=p
  exact PySem.W.kia_one PySem.W.kitx_tuple I.kIn ⟨o,h1,h2⟩ e (fun z=>nomatch z) h
|@dK a kvs ea =>
  cases (show u=Value.ref a from rx)
  obtain⟨_,_,vs,_,p⟩:=(show cF X.prog X.w H s.heap a (.dK kvs) from I.hok a _ ea)
  obtain⟨o,es,ep,h1,h2,_⟩:=p
  exact PySem.W.kia_one PySem.W.kitx_dict I.kIn ⟨o,h1,h2.1⟩ e (fun z=>nomatch z) h
|@dT a kvs ea =>
  cases (show u=Value.ref a from rx)
  obtain⟨_,_,xs,_,o,es,ep,h1,h2,_⟩:=(show cF X.prog X.w H s.heap a (.dT kvs) from I.hok a _ ea)
  exact PySem.W.kia_one PySem.W.kitx_dict I.kIn ⟨o,h1,h2.1⟩ e (fun z=>nomatch z) h
|@ins a C dx fs ea cl ha hn htk hm =>
  cases (show u=Value.ref a from rx)
  obtain⟨mA,O,_⟩:=ku I.hok ea
  obtain⟨od,J,_⟩:=O.look
  exact PySem.W.kia_one (PySem.W.kitx_own (cl.get _) cl.hd ha hn htk hm) I.kIn J e (fun z=>nomatch z) h
end
structure gh (k:Nat) (A:Around):Prop where
 hd:A.handled=none
 dp:A.depth+3*k+5<recursionLimit
 un:A.units+16*k+200<cLine
theorem gh.mono {j k:Nat}{A:Around} (r:gh k A) (h:j<=k):gh j A:=⟨r.hd,by have:=r.dp;omega,by have:=r.un;omega⟩
theorem gh.deeper {k:Nat}{A:Around} (r:gh (k+1) A) (env:Env):gh k (A.deeper env) :=
 ⟨r.hd,by have:=r.dp;show A.depth+1+3*k+5<_;omega,by have:=r.un;show A.units+3+16*k+200<_;omega⟩
theorem tY {A:Around}{C:Addr}{us:List Value}{kw:List (Str×Value)}:(A.under (.builtin "type.__call__" ⟨.ref C::us,kw⟩)).depth=A.depth+1:=by
 first|rfl|simp [Around.under,Code.weight,Code.isCreation,Code.isGuard,Code.isCaller,Code.frames,Code.isFrame,guardIds]
theorem tZ {A:Around}{C:Addr}{us:List Value}{kw:List (Str×Value)}:(A.under (.builtin "type.__call__" ⟨.ref C::us,kw⟩)).units=A.units+1:=by
 first|rfl|simp [Around.under,Code.cUnits,Code.frames,Code.isFrame]
theorem gh.make {k:Nat}{A:Around} (r:gh (k+1) A) (C:Addr) (us:List Value) (kw:List (Str×Value)):gh k (A.under (.builtin "type.__call__" ⟨.ref C::us,kw⟩)) :=
 ⟨r.hd,by have:=r.dp;rw [tY];omega,by have:=r.un;rw [tZ];omega⟩
theorem gh.depth {k:Nat}{A:Around} (r:gh k A):A.depth<recursionLimit:=by have:=r.dp;omega
theorem gh.units {k:Nat}{A:Around} (r:gh k A):A.units+64<cLine:=by have:=r.un;omega
def dC:TA:=fun _ H Q=>Q [] H
def aW (ta:TE) (tr:TA):TA:=fun σ H Q=>ta σ H fun x H1=>tr σ H1 fun xs H2=>Q (x::xs) H2
section
variable {X:Cx}{e:Expr}{es:List Expr}{te:TE}{t:TA}{pos:Pos}
theorem ag:PA X [] dC:=fun _ _ _ _ H Q I h=>Calls.spliced_nil ⟨[],H,I,.nil,h⟩
theorem Ag (ha:PE X e te) (hr:PA X es t) (hs:starEach (e::es) X.env=(false,eval e X.env)::starEach es X.env:=by rfl):PA X (e::es) (aW te t):=by
 intro pos pins s σ H Q I h
 rw [hs]
 show wpAny _ _ (spliced ((false,eval e X.env)::backTo pos (starEach es X.env))) _ _ s
 refine Calls.spliced_cons (thn (ha pins s σ H _ I h) fun u s1 ⟨x,H1,I1,r1,q1⟩=>?_)
 exact thn (hr pos pins s1 σ H1 _ I1 q1) fun us s2 ⟨xs,H2,I2,r2,q2⟩=>⟨x::xs,H2,I2,.cons r1 r2,q2⟩
def EF (t:TA):TE:=fun σ H Q=>t σ H fun xs H1=>xs.length<=sizeLine/\∀p,H1 p=none->Q (.ref p) (upd H1 p (.tup xs))
def Fz (t:TA):TE:=fun σ H Q=>t σ H fun xs H1=>xs.length<=sizeLine/\∀p,H1 p=none->Q (.ref p) (upd H1 p (.lst xs))
theorem gX {x1} (h:PA X es t):PE X (.Tuple es x1 pos) (EF t):=by
 intro pins s σ H Q I hq
 refine wpAny_Tuple_spliced (thn (h pos pins s σ H _ I hq) fun us s1 ⟨xs,H1,I1,r,z,q⟩=>⟨by rw [<- r.length];exact z,?_⟩)
 have hf:H1 s1.heap.objs.size=none:=I1.hok.fresh (Nat.le_refl _)
 refine⟨.ref s1.heap.objs.size,upd H1 s1.heap.objs.size (.tup xs),I1.laid (t':=s1.toks) (fun b u e=>Heap.get?_push_of_some _ e) (Nat.le_refl _) ?_,rfl,q _ hf⟩
 exact⟨z,us,r,⟨_,Heap.get?_push_size _ rfl,rfl,_,rfl⟩⟩
theorem bq (h:PA X es t):PE X (.List es pos) (Fz t):=by
 intro pins s σ H Q I hq
 refine wpAny_List_spliced (thn (h pos pins s σ H _ I hq) fun us s1 ⟨xs,H1,I1,r,z,q⟩=>⟨by rw [<- r.length];exact z,?_⟩)
 have hf:H1 s1.heap.objs.size=none:=I1.hok.fresh (Nat.le_refl _)
 refine⟨.ref s1.heap.objs.size,upd H1 s1.heap.objs.size (.lst xs),I1.laid (t':=s1.toks) (fun b u e=>Heap.get?_push_of_some _ e) (Nat.le_refl _) ?_,rfl,q _ hf⟩
 exact⟨z,us,0,r,Heap.get?_push_size _ rfl⟩
end
abbrev Sp:=List V->Hp->VK->XK->Prop
abbrev CXT:=List Env->Hp->Shared->XK->Value->Shared->Prop
structure Ah (P:Program) (w:World) (K:PySem.W.Frag) (mg:Str->Option Value) (base:Heap) (A:Around) (outer:List Env) (s:Shared) (H:Hp):Prop where
 frames:A.frames=some outer
 mod:Mod K mg base
 bs:∀b o,base.get? b=some o->s.heap.get? b=some o/\H b=none
 bsz:base.objs.size<=s.heap.objs.size
 funs:s.heap.FunFrames base outer
 frf:∀b∈frs outer,H b=none
 hok:HOk P w H s.heap
 bare:AllBare s.gens
def CE (outer:List Env) (P:Program) (w:World) (H:Hp) (s:Shared) (Q:VK) (u:Value) (s':Shared):Prop :=
 ∃v H',s'.os=s.os/\AllBare s'.gens/\Un (frs outer) [] H H' s.heap s'.heap/\HOk P w H' s'.heap/\dh v u/\Q v H'
def CR (CX:CXT) (outer:List Env) (P:Program) (w:World) (H:Hp) (s:Shared) (Q:VK) (E:XK) (r:Result) (s':Shared):Prop :=
 match r with
|.ok (.ret u)=>CE outer P w H s Q u s'
|.ok _=>False
|.error e=>CX outer H s E e s'
structure m7 (P:Program) (w:World) (K:PySem.W.Frag) (mg:Str->Option Value) (base:Heap) (CX:CXT) (k:Nat) (f:Addr) (fd:FuncData) (ps:List Str) (sp:Sp):Prop where
 len:∀vs H Q E,sp vs H Q E->vs.length=ps.length
 run:∀(A:Around) (outer:List Env) (s:Shared) (H:Hp) (args:Args) (us:List Value) (vs:List V) (Q:VK) (E:XK),gh k A->Ah P w K mg base A outer s H->BindsTo s fd args (ps.zip us)->bW vs us->sp vs H Q E ->
  codeAny (model P w) A (.call (.ref f) args) (CR CX outer P w H s Q E) s
theorem m7.imp {P:Program}{w:World}{K:PySem.W.Frag}{mg:Str->Option Value}{base:Heap}{CX:CXT}{k:Nat}{f:Addr}{fd:FuncData}{ps:List Str}{sp sp':Sp} (F:m7 P w K mg base CX k f fd ps sp)
  (h:∀vs H Q E,sp' vs H Q E->sp vs H Q E):m7 P w K mg base CX k f fd ps sp' :=
 ⟨fun vs H Q E q=>F.len vs H Q E (h _ _ _ _ q),fun A outer s H args us vs Q E hr he hb hv hs=>F.run A outer s H args us vs Q E hr he hb hv (h _ _ _ _ hs)⟩
theorem Ah.make {P:Program}{w:World}{K:PySem.W.Frag}{mg:Str->Option Value}{base:Heap}{A:Around}{outer:List Env}{s:Shared}{H:Hp} (e:Ah P w K mg base A outer s H) (C:Addr) (us:List Value) (kw:List (Str×Value)) :
  Ah P w K mg base (A.under (.builtin "type.__call__" ⟨.ref C::us,kw⟩)) outer s H:=⟨by first|exact e.frames|(simpa [Around.under,Code.envs,Code.isFrame,pushEnvs] using e.frames),e.mod,e.bs,e.bsz,e.funs,e.frf,e.hok,e.bare⟩
section
variable {X:Cx}{pins:List (Addr×Obj)}{σ:St}{H:Hp}{s s':Shared}
theorem Inv.env0 (I:Inv X pins σ H s):Ah X.prog X.w X.K X.mg X.base X.A X.stack s H :=
 ⟨I.ok.frames,I.ok.mod,I.bs,Nat.le_trans I.ok.bsz I.sz,I.stack,I.stkFree,I.hok,I.bare⟩
theorem Inv.after {Q:VK}{u:Value} (I:Inv X pins σ H s) (h:CE X.stack X.prog X.w H s Q u s'):EP X pins σ Q u s':=by
 obtain⟨v,H',os,bare,un,hok,r,q⟩:=h
 obtain⟨hh,g,d,t,os'⟩:=s'
 obtain rfl:os'=s.os:=os
 exact⟨v,H',I.call (h':=hh) (g':=g) (d':=d) (t':=t) (ch:=[]) un hok bare (fun b z=>absurd z (by simp)),r,q⟩
end
def eB (sp:Sp) (dvs:List V) (E:XK) (t:TA):TE:=fun σ H Q=>t σ H fun vs H1=>sp (vs++dvs) H1 Q E
def Aj (C:Addr) (m:Str) (sp:Sp) (dvs:List V) (E:XK) (ta:TE) (t:TA):TE:=fun σ H Q=>ta σ H fun x H1=>∃a dx fs,x=.ref a/\H1 a=some (.ins C dx fs)/\fs.lookup m=none /\
 t σ H1 fun vs H2=>sp (x::(vs++dvs)) H2 Q E
def xL (C:Addr) (sp:Sp) (dvs:List V) (E:XK) (t:TA):TE:=fun σ H Q=>t σ H fun vs H1=>∀x dx,H1 x=none->H1 dx=none->dx≠x ->
 sp (.ref x::(vs++dvs)) (upd (upd H1 dx (.own x)) x (.ins C dx [])) (fun v H2=>v=.non/\Q (.ref x) H2) E
def jY (K:PySem.W.Frag) (fd:FuncData) (ps:List Str) (ds:List Value):Prop :=
 ∀(s:Shared) (us:List Value),K.In s.heap->(us++ds).length=ps.length->BindsTo s fd ⟨us,[]⟩ (ps.zip (us++ds))
theorem jY.all {K:PySem.W.Frag}{fd:FuncData}{ps:List Str} (h:∀us:List Value,us.length=ps.length->bindArgs fd ⟨us,[]⟩=pure (ps.zip us)):jY K fd ps []:=fun s us _ hl=>by
 rw [List.append_nil] at hl ⊢
 exact .of_eq (h us hl)
def mB (CX:CXT) (X:Cx) (E:XK):Prop:=∀(pins:List (Addr×Obj)) (σ:St) (H:Hp) (s:Shared) (e:Value) (s':Shared),Inv X pins σ H s->CX X.stack H s E e s'->X.xe e s'
section
variable {X:Cx}{CX:CXT}{k:Nat}{f C:Addr}{fd:FuncData}{ps:List Str}{sp:Sp}{dvs:List V}{ds:List Value}{E:XK}{x m:Str}{p pos apos:Pos}{e o:Expr}{es:List Expr}{ta:TE}{t:TA}
theorem zh {pins:List (Addr×Obj)}{σ:St}{H:Hp}{s:Shared}{Q:VK}{us:List Value}{vs:List V} (F:m7 X.prog X.w X.K X.mg X.base CX k f fd ps sp) (hr:gh k X.A) (hb:jY X.K fd ps ds) (hd:bW dvs ds) (hx:mB CX X E)
  (I:Inv X pins σ H s) (r:bW vs us) (h:sp (vs++dvs) H Q E):wpAny (model X.prog X.w) X.A (call (.ref f) us) (EP X pins σ Q) X.xe s:=by
 have r2:bW (vs++dvs) (us++ds):=r.append hd
 have hl:(us++ds).length=ps.length:=by rw [<- r2.length];exact F.len _ _ _ _ h
 refine wpAny_call (codeAny_mono (F.run X.A X.stack s H ⟨us,[]⟩ (us++ds) (vs++dvs) Q E hr I.env0 (hb s us I.kIn hl) r2 h) fun r s' hq=>?_)
 cases r with
|error e=>exact hx pins σ H s e s' I hq
|ok fl =>
  cases fl with
 |ret u=>exact I.after hq
 |next=>exact False.elim hq
 |brk=>exact False.elim hq
 |cont=>exact False.elim hq
theorem vc (F:m7 X.prog X.w X.K X.mg X.base CX k f fd ps sp) (hr:gh k X.A) (hg:Gl X x) (hm:X.mg x=some (.ref f)) (hk:PySem.W.keepIn X.K (.ref f)=true) (hb:jY X.K fd ps ds) (hd:bW dvs ds) (hx:mB CX X E)
  (ha:PA X (e::es) t) (hdb:(x == ("__debug__":Str))=false:=by decide) (he:starEach (e::es) X.env=(false,eval e X.env)::starEach es X.env:=by rfl) (hpl:(backTo pos (starEach es X.env)).any (·.1)=false:=by rfl) :
  PE X (.Call (.Name x p) (e::es) [] pos) (eB sp dvs E t):=by
 intro pins s σ H Q I h
 refine wpAny_Call_Name_kw (qD I hg hm ?_ hdb)
 refine PySem.W.callWith_K (h₀:=X.base) I.ok.mod.kin hk (thn (ha pos pins s σ H _ I h) fun us s1 ⟨vs,H1,I1,r,q⟩=>⟨I1.kIn,?_⟩) he hpl
 exact zh F hr hb hd hx I1 r q
theorem xM {pl:Sem Bool} (he:PE X o ta) (c:Cls X.K C) (hm:Ei X.K C m f) (F:m7 X.prog X.w X.K X.mg X.base CX k f fd ps sp) (hr:gh k X.A) (hb:jY X.K fd ps ds) (hd:bW dvs ds) (hx:mB CX X E)
  (ht:eval (.Call (.Attribute o m apos) [] [] pos) X.env=(do
   let ov <- eval o X.env
   standAt apos.atName
   let (f,first) <- holding [ov] (getMethod ov m pl)
   callWith pos f first (backTo pos (starEach [] X.env)) (backToKw pos (keywordEach [] X.env))):=by rfl) :
  PE X (.Call (.Attribute o m apos) [] [] pos) (Aj C m sp dvs E ta dC):=by
 intro pins s σ H Q I h
 refine PySem.W.methodCall_KW (pl:=pl) (thn (he pins s σ H _ I h) fun u s1 ⟨x,H1,I1,rx,a,dx,fs,ex,ea,l,q⟩=>?_) ht
 subst ex
 obtain rfl:u=Value.ref a:=rx
 refine tW I1 ea c hm l ?_
 exact PySem.W.callWith_K0 (first:=[.ref a]) I1.kIn hm.kp (zh (us:=[.ref a]) (vs:=[.ref a]) F hr hb hd hx I1 (.cons rfl .nil) q)
structure Mk (K:PySem.W.Frag) (C f:Addr):Prop where
 makes:PySem.W.makesIn K C=true
 init:PySem.W.findIn K (.ref C) "__init__"=some (some (.ref f))
 fn:PySem.W.isFn K (.ref f)=true
 kp:PySem.W.keepIn K (.ref C)=true
theorem xN {pins:List (Addr×Obj)}{σ:St}{H:Hp}{s:Shared}{Q:VK}{us:List Value}{vs:List V} (M:Mk X.K C f) (F:m7 X.prog X.w X.K X.mg X.base CX k f fd ps sp) (hr:gh (k+1) X.A) (hb:jY X.K fd ps ds) (hd:bW dvs ds)
  (hx:mB CX X E) (I:Inv X pins σ H s) (r:bW vs us)
  (h:∀x dx,H x=none->H dx=none->dx≠x->sp (.ref x::(vs++dvs)) (upd (upd H dx (.own x)) x (.ins C dx [])) (fun v H2=>v=.non/\Q (.ref x) H2) E) :
  wpAny (model X.prog X.w) X.A (call (.ref C) us) (EP X pins σ Q) X.xe s:=by
 have hq:=h (s.heap.objs.size+1) s.heap.objs.size (I.hok.fresh (Nat.le_succ _)) (I.hok.fresh (Nat.le_refl _)) (Nat.ne_of_lt (Nat.lt_succ_self _))
 have I2:=Inv.made (C:=C) I
 have r2:bW (V.ref (s.heap.objs.size+1)::(vs++dvs)) (Value.ref (s.heap.objs.size+1)::(us++ds)):=.cons rfl (r.append hd)
 have hl:(Value.ref (s.heap.objs.size+1)::us++ds).length=ps.length:=by
  have e:=r2.length
  rw [F.len _ _ _ _ hq] at e
  exact e.symm
 refine wpAny_call (xK (f:=f) I.kIn M.makes M.init (beq_iff_eq.mp M.fn) (codeAny_mono (F.run _ X.stack _ _ ⟨Value.ref (s.heap.objs.size+1)::us,[]⟩ (Value.ref (s.heap.objs.size+1)::(us++ds)) _ _ E (hr.make C us [])
  (I2.env0.make C us []) (hb _ (Value.ref (s.heap.objs.size+1)::us) I2.kIn hl) r2 hq) fun r s' hq'=>?_))
 cases r with
|error e=>exact hx pins σ _ _ e s' I2 hq'
|ok fl =>
  cases fl with
 |ret u =>
   obtain⟨v,H',I3,rv,ev,q3⟩:=I2.after hq'
   subst ev
   exact⟨rv,⟨V.ref (s.heap.objs.size+1),H',I3,rfl,q3⟩⟩
 |next=>exact False.elim hq'
 |brk=>exact False.elim hq'
 |cont=>exact False.elim hq'
theorem Ak (M:Mk X.K C f) (F:m7 X.prog X.w X.K X.mg X.base CX k f fd ps sp) (hr:gh (k+1) X.A) (hg:Gl X x) (hm:X.mg x=some (.ref C)) (hb:jY X.K fd ps ds) (hd:bW dvs ds) (hx:mB CX X E)
  (ha:PA X (e::es) t) (hdb:(x == ("__debug__":Str))=false:=by decide) (he:starEach (e::es) X.env=(false,eval e X.env)::starEach es X.env:=by rfl) (hpl:(backTo pos (starEach es X.env)).any (·.1)=false:=by rfl) :
  PE X (.Call (.Name x p) (e::es) [] pos) (xL C sp dvs E t):=by
 intro pins s σ H Q I h
 refine wpAny_Call_Name_kw (qD I hg hm ?_ hdb)
 refine PySem.W.callWith_K (h₀:=X.base) I.ok.mod.kin M.kp (thn (ha pos pins s σ H _ I h) fun us s1 ⟨vs,H1,I1,r,q⟩=>⟨I1.kIn,?_⟩) he hpl
 exact xN M F hr hb hd hx I1 r q
end
structure aO (N P:List Str) (sc:Scope):Prop where
 kind:sc.kind=.function
 co:sc.isCoroutine=false
 gen:sc.isGenerator=false
 nd:N.Nodup
 pre:N.take P.length=P
 par:∀x∈P,sc.names.lookup x=some .local\/sc.names.lookup x=some .cell
 nofree:∀y∈sc.names,y.2≠.free
theorem oI {kindOf:Str->Option NameKind}{x:Str}:∀{binds:List (Str×Value)}{m:Str->Option Value},(∀v,(x,v)∉binds)->bindL kindOf binds m x=m x
|[],_,_=>rfl
 | (n,v)::r,m,h=>by
  unfold bindL
  rw [oI fun w hw=>h w (List.mem_cons_of_mem _ hw)]
  split
  .have:x≠n:=by rintro rfl;exact h v List.mem_cons_self
   simp [this]
  .rfl
theorem oJ {kindOf:Str->Option NameKind}{x:Str}:∀{binds:List (Str×Value)}{m:Str->Option Value},(∀v,(x,v)∉binds)->bindC kindOf binds m x=m x
|[],_,_=>rfl
 | (n,v)::r,m,h=>by
  unfold bindC
  rw [oJ fun w hw=>h w (List.mem_cons_of_mem _ hw)]
  split
  .rfl
  .have:x≠n:=by rintro rfl;exact h v List.mem_cons_self
   simp [this]
theorem oK {kindOf:Str->Option NameKind}{x:Str}{v:Value}:∀{P:List Str}{vs:List Value}{i:Nat}{m:Str->Option Value},P.Nodup->P[i]?=some x->vs[i]?=some v->kindOf x=some .local ->
  bindL kindOf (P.zip vs) m x=some v
|[],_,_,_,_,h,_,_=>by simp at h
|_::_,[],_,_,_,_,h,_=>by simp at h
|p::P,w::vs,0,m,nd,h1,h2,hk=>by
  simp at h1 h2;subst h1;subst h2
  show bindL kindOf ((p,w)::P.zip vs) m p=_
  unfold bindL
  rw [oI fun v hv=>(List.nodup_cons.mp nd).1 (List.of_mem_zip hv).1,if_pos hk]
  simp
|p::P,w::vs,i+1,m,nd,h1,h2,hk=>by
  show bindL kindOf ((p,w)::P.zip vs) m x=_
  unfold bindL
  exact oK (i:=i) (List.nodup_cons.mp nd).2 (by simpa using h1) (by simpa using h2) hk
theorem oM {kindOf:Str->Option NameKind}{x:Str}{v:Value}:∀{P:List Str}{vs:List Value}{i:Nat}{m:Str->Option Value},P.Nodup->P[i]?=some x->vs[i]?=some v->kindOf x≠some .local ->
  bindC kindOf (P.zip vs) m x=some v
|[],_,_,_,_,h,_,_=>by simp at h
|_::_,[],_,_,_,_,h,_=>by simp at h
|p::P,w::vs,0,m,nd,h1,h2,hk=>by
  simp at h1 h2;subst h1;subst h2
  show bindC kindOf ((p,w)::P.zip vs) m p=_
  unfold bindC
  rw [oJ fun v hv=>(List.nodup_cons.mp nd).1 (List.of_mem_zip hv).1,if_neg hk]
  simp
|p::P,w::vs,i+1,m,nd,h1,h2,hk=>by
  show bindC kindOf ((p,w)::P.zip vs) m x=_
  unfold bindC
  exact oM (i:=i) (List.nodup_cons.mp nd).2 (by simpa using h1) (by simpa using h2) hk
def start (N:List Str) (vs:List V):St:=vs.map some++List.replicate (N.length - vs.length) none
def xA (CX:CXT) (P:Program) (w:World) (K:PySem.W.Frag) (mg:Str->Option Value) (base:Heap) (N:List Str) (qual:Str) (scope:Scope) (f:Addr) (cd:Value) (A:Around) (outer:List Env) (s:Shared) (H:Hp) (E:XK):Cx where
 prog:=P
 w:=w
 K:=K
 mg:=mg
 base:=base
 A:=A.deeper (envOfC qual scope s.heap.objs.size f cd)
 N:=N
 s₀:=s
 H₀:=H
 env:=envOfC qual scope s.heap.objs.size f cd
 outer:=outer
 stack:=envOfC qual scope s.heap.objs.size f cd::outer
 ex:=[]
 calm:=true
 fn:=fun _=>true
 pn:=[]
 xe:=fun e s'=>wpAny (model P w) (A.deeper (envOfC qual scope s.heap.objs.size f cd)) (leaving (envOfC qual scope s.heap.objs.size f cd) e) (fun _ s''=>CX outer H s E e s'') (fun e' s''=>CX outer H s E e' s'') s'
theorem rZ {sc:Scope}{n:Nat}{x:Str} (h:sc.names.lookup x=some .cell):∃c,(cellsFrom n sc.names []).lookup x=some c:=by
 have q:=PySem.W.cellsFrom_some sc.names n [] (.inl h)
 exact Option.isSome_iff_exists.mp q
theorem vd {CX:CXT}{P:Program}{w:World}{K:PySem.W.Frag}{mg:Str->Option Value}{base:Heap}{N ps:List Str}{qual:Str}{scope:Scope}{f:Addr}{cd:Value}{A:Around}{outer:List Env}{s s1:Shared}{H:Hp}{E:XK}{us:List Value}{vs:List V}
  (S:aO N ps scope) (hd:A.handled=none) (e0:Ah P w K mg base A outer s H) (hl:vs.length=ps.length) (r:bW vs us)
  (x:InCallC s s.heap.objs.size (bindL (envOfC qual scope s.heap.objs.size f cd).kindOf (ps.zip us) fun _=>none) (cellsFrom (s.heap.objs.size+1) scope.names []) (bindC (envOfC qual scope s.heap.objs.size f cd).kindOf (ps.zip us) fun _=>none) s1) :
  Inv (xA CX P w K mg base N qual scope f cd A outer s H E) [] (start N vs) H s1:=by
 have hpl:ps.length<=N.length:=by have:=congrArg List.length S.pre;rw [List.length_take] at this;omega
 obtain⟨h1,tk,rfl,hk⟩:=x.done
 have noA:∀b:Addr,b∉(xA CX P w K mg base N qual scope f cd A outer s H E).ex:=fun b z=>absurd (show b∈([]:List Addr) from z) (by simp)
 refine⟨⟨e0.mod,S.kind,rfl,rfl,Nat.le_refl _,fun y z c h1 h2=>?_,fun y hy=>?_,fun y c _ h=>?_,fun _=>hd,Around.frames_deeper e0.frames,.inr ⟨rfl,rfl⟩,fun b z=>absurd z (noA b),e0.bs,e0.bsz,fun b _ _=>noA b,fun b z=>absurd z (noA b),e0.funs,e0.frf⟩,
  rfl,e0.bare,Un.kept hk,⟨_,x.toInCall.ns,fun i y v h1 h2 h3=>?_⟩,fun y c h=>⟨_,x.cell y c h⟩,e0.hok.fresh (Nat.le_refl _),fun y c h=>?_,fun p hp=>absurd (show p∈([]:List (Addr×Obj)) from hp) (by simp),e0.hok.kept hk,?_⟩
 .exact name_of_addr x.apart (PySem.mem_of_lookup h1) (PySem.mem_of_lookup h2)
 .have hy:scope.names.lookup y=some .cell\/scope.names.lookup y=some .free:=hy
  rcases hy with hy|hy
  .exact rZ hy
  .exact absurd rfl (S.nofree _ (PySem.mem_of_lookup hy))
 .exact Nat.le_of_lt (x.above y c (PySem.mem_of_lookup h))
 .have hi:i<vs.length:=by
   unfold start at h2
   by_cases hi:i<vs.length
   .exact hi
   .rw [List.getElem?_append_right (by simpa using hi)] at h2
    rw [List.getElem?_replicate] at h2
    split at h2 <;> cases h2
  have ha:vs[i]?=some v:=by
   unfold start at h2
   rw [List.getElem?_append_left (by simpa using hi),List.getElem?_map] at h2
   cases e:vs[i]? with
  |none=>rw [e] at h2;cases h2
  |some a=>rw [e] at h2;cases h2;rfl
  obtain⟨u,hu,rv⟩:=r.get ha
  have hp:ps[i]?=some y:=by
   rw [<- S.pre,List.getElem?_take_of_lt (by omega)];exact h1
  have ndP:ps.Nodup:=by rw [<- S.pre];exact S.nd.sublist (List.take_sublist _ _)
  refine⟨u,rv,?_⟩
  rcases S.par y (List.mem_of_getElem? hp) with k|k
  .exact .inl ⟨k,oK ndP hp hu k⟩
  .obtain⟨c,e⟩:=rZ (n:=s.heap.objs.size+1) k
   refine .inr ⟨.inl k,c,e,?_⟩
   have q:=x.cell y c e
   rw [oM ndP hp hu (by show scope.names.lookup y≠_;rw [k];decide)] at q
   exact q
 .exact e0.hok.fresh (Nat.le_of_lt (x.above y c (PySem.mem_of_lookup h)))
 .unfold start
  show _=N.length
  rw [List.length_append,List.length_map,List.length_replicate]
  omega
theorem Cw {CX:CXT}{P:Program}{w:World}{K:PySem.W.Frag}{mg:Str->Option Value}{base:Heap}{k:Nat}{f:Addr}{name qual:Str}{params:Arguments}{body:List Stmt}{scope:Scope}{dV kV doc pm cdv ct oc:Value}{an od:Option Addr}
  {osl:Array (Option Value)}{N ps:List Str}{sp:Sp} (lk:K.lookup f=some ⟨oc,od,.func (PySem.W.fnOf name qual params body scope dV kV doc pm an cdv ct),osl⟩) (hcd:PySem.W.codeIn K cdv qual=true) (S:aO N ps scope)
  (len:∀vs H Q E,sp vs H Q E->vs.length=ps.length)
  (hbody:∀(A:Around) (outer:List Env) (s:Shared) (H:Hp) (vs:List V) (Q:VK) (E:XK),gh k (A.deeper (envOfC qual scope s.heap.objs.size f cdv))->sp vs H Q E ->
   ∃t,PSs (xA CX P w K mg base N qual scope f cdv A outer s H E) body t/\t { nx:=fun _ H'=>Q .non H',rt:=Q } (start N vs) H) :
  m7 P w K mg base CX (k+1) f (PySem.W.fnOf name qual params body scope dV kV doc pm an cdv ct) ps sp:=by
 refine⟨len,fun A outer s H args us vs Q E hr e0 hb r hsp=>?_⟩
 have hl:=len _ _ _ _ hsp
 have KX:K.In s.heap:=e0.mod.kin.keeps fun b o e=>(e0.bs b o e).1
 have lim:s.heap.NoLimit:=e0.mod.nolimit.keeps fun b o e=>(e0.bs b o e).1
 have hkind:∀y∈ps.zip us,scope.names.lookup y.1=some .local\/(scope.names.lookup y.1=some .cell/\((cellsFrom (s.heap.objs.size+1) scope.names []).lookup y.1).isSome=true):=fun ⟨n,v⟩ hy=>by
  rcases S.par n (List.of_mem_zip hy).1 with q|q
  .exact .inl q
  .exact .inr ⟨q,PySem.W.cellsFrom_some _ _ _ (.inl q)⟩
 refine codeAny_call_function hr.depth (KX _ _ lk) rfl S.co S.gen rfl (PySem.W.codeRec_of KX hcd) (hb _ _ _ _ ?_)
 refine wpAny_newFunctionEnv_cells S.kind hkind fun env he s1 x=>?_
 subst he
 refine⟨lim.keeps x.toInCall.keep,codeAny_func ?_⟩
 obtain⟨t,ht,hq⟩:=hbody A outer s H vs Q E (hr.deeper _) hsp
 have I:Inv (xA CX P w K mg base N qual scope f cdv A outer s H E) [] (start N vs) H s1:=vd S hr.hd e0 hl r x
 refine wpAny_mono (ht [] s1 (start N vs) H _ I hq) (fun fl s' hs=>?_) fun e s' hs=>hs
 have fin:∀{σ':St}{H':Hp}{v:V}{u:Value},Inv (xA CX P w K mg base N qual scope f cdv A outer s H E) [] σ' H' s'->dh v u->Q v H'->CE outer P w H s Q u s' :=
  fun {σ' H' v u} J rv q=>⟨v,H',J.os,J.bare,J.base,J.hok,rv,q⟩
 cases fl with
|ret u =>
  obtain⟨v,σ',H',J,rv,q⟩:=hs
  exact fin J rv q
|next =>
  obtain⟨σ',H',J,q⟩:=hs
  exact fin (v:=V.non) (u:=Value.none) J rfl q
|brk =>
  obtain⟨_,_,_,q⟩:=hs
  exact False.elim q
|cont =>
  obtain⟨_,_,_,q⟩:=hs
  exact False.elim q
section
variable {X:Cx}{x:Str}{p pos:Pos}{e:Expr}{es:List Expr}{t:TA}{id T:String}{r:List V->Hp->VK->Prop}
def tCB (r:List V->Hp->VK->Prop) (t:TA):TE:=fun σ H Q=>t σ H fun vs H1=>r vs H1 Q
theorem xO (hc:cw X (.builtin id) r) (hg:Gl X x) (hm:X.mg x=none) (hv:bootBuiltins x=some (.builtin id)) (ha:PA X (e::es) t) (hn:x≠"__name__":=by decide) (hdb:(x == ("__debug__":Str))=false:=by decide)
  (he:starEach (e::es) X.env=(false,eval e X.env)::starEach es X.env:=by rfl) (hpl:(backTo pos (starEach es X.env)).any (·.1)=false:=by rfl):PE X (.Call (.Name x p) (e::es) [] pos) (tCB r t):=by
 intro pins s σ H Q I h
 refine wpAny_Call_Name_kw (gc I hg hm hv ?_ hn hdb)
 exact PyProof.Rows.callWith_builtin1 (thn (ha pos pins s σ H _ I h) fun us s1 ⟨vs,H1,I1,r1,q1⟩=>hc pins s1 σ H1 vs us Q I1 r1 q1) he hpl
theorem ve (hc:cw X (.type T) r) (hg:Gl X x) (hm:X.mg x=none) (hv:bootBuiltins x=some (.type T)) (ha:PA X (e::es) t) (hn:x≠"__name__":=by decide) (hdb:(x == ("__debug__":Str))=false:=by decide)
  (he:starEach (e::es) X.env=(false,eval e X.env)::starEach es X.env:=by rfl) (hpl:(backTo pos (starEach es X.env)).any (·.1)=false:=by rfl):PE X (.Call (.Name x p) (e::es) [] pos) (tCB r t):=by
 intro pins s σ H Q I h
 refine wpAny_Call_Name_kw (gc I hg hm hv ?_ hn hdb)
 exact PyProof.Rows.callWith_type1 (thn (ha pos pins s σ H _ I h) fun us s1 ⟨vs,H1,I1,r1,q1⟩=>hc pins s1 σ H1 vs us Q I1 r1 q1) he hpl
end
end L2
namespace HT
open PySem PyProof.Rows
section
open PySem.SeqAt
open PySem.AutoSeq1 (wpAny_loadPart')
open PySem.MeetsSeq PySem.MeetsSeq2 PySem.MeetsSeq3
end
section
variable {prog:Program}{w:World}{A:Around}{E:Value->Shared->Prop}{s:Shared}
theorem cat_tup {t b:Addr}{vs ws:List Value}{Q:Value->Shared->Prop} (ht:IsTup s.heap t vs.toArray) (hb:IsTup s.heap b ws.toArray) (hv:vs≠[])
  (h1:ws=[]->Q (.ref t) s) (h2:ws≠[]->Q (.ref s.heap.objs.size) { s with heap:=s.heap.push { cls:=.type "tuple",data:=.seq (vs++ws).toArray } })
  (hsz:vs.length+ws.length<=sizeLine):wpAny (model prog w) A (binaryOp .Add (.ref t) (.ref b)) Q E s:=by
 obtain⟨⟨cls,dd,data,sl⟩,ho,hc,n,hd⟩:=id ht
 obtain⟨⟨cls2,dd2,data2,sl2⟩,ho2,hc2,n2,hd2⟩:=id hb
 simp only at hc hd hc2 hd2
 subst hc hd hc2 hd2
 have e:vs.toArray++ws.toArray=(vs++ws).toArray:=by simp
 by_cases hw:ws=[]
 .exact concat_meets ⟨_,ho,rfl⟩ ⟨_,ho2,rfl⟩ noFill_tuple_add seq_tuple_add PySem.F.slot_tuple_add PySem.F.entry_tuple_add (PySem.F.args_tuple_add_2 _ _)
   (tuple_addW1 t b vs.toArray ws.toArray n n2 dd dd2 sl sl2 (by simpa using hv) (by simp [hw])) ⟨ho,ho2,h1 hw⟩
 .refine concat_meets ⟨_,ho,rfl⟩ ⟨_,ho2,rfl⟩ noFill_tuple_add seq_tuple_add PySem.F.slot_tuple_add PySem.F.entry_tuple_add (PySem.F.args_tuple_add_2 _ _)
   (tuple_addW2 t b vs.toArray ws.toArray n n2 dd dd2 sl sl2 (by simpa using hv) (by simpa using hw) (by rw [List.size_toArray,List.size_toArray];exact hsz)) ⟨ho,ho2,?_⟩
  rw [e]
  exact h2 hw
def sIx (n d:Nat):Option Int->Nat
|none=>d
|some v=>if v<0 then (v+(n:Int)).toNat else min v.toNat n
theorem sIx_nat (n d k:Nat):sIx n d (some (k:Int))=min k n:=by
 show (if (k:Int)<0 then ((k:Int)+(n:Int)).toNat else min (k:Int).toNat n)=min k n
 rw [if_neg (by omega),Int.toNat_natCast]
theorem sIx_le (n d:Nat) (hd:d<=n) (o:Option Int):sIx n d o<=n:=by
 cases o with
|none=>exact hd
|some v =>
  show (if v<0 then (v+(n:Int)).toNat else min v.toNat n)<=n
  by_cases hv:v<0
  .rw [if_pos hv];omega
  .rw [if_neg hv];exact Nat.min_le_right _ _
theorem clip_eq (v:Int) (n d:Nat):(if v<0 then max (v+(n:Int)) 0 else min v (n:Int))=((sIx n d (some v):Nat):Int):=by
 show (if v<0 then max (v+(n:Int)) 0 else min v (n:Int))=(((if v<0 then (v+(n:Int)).toNat else min v.toNat n):Nat):Int)
 by_cases hv:v<0
 .simp only [if_pos hv];omega
 .simp only [if_neg hv];omega
theorem t5 (lo hi:Option Int) (n:Nat):Builtin.Slice.sliceAdjust lo hi 1 (n:Int)=(((sIx n 0 lo:Nat):Int),((sIx n n hi:Nat):Int)):=by
 have h1:¬ ((1:Int)<0):=by omega
 unfold Builtin.Slice.sliceAdjust
 simp only [h1,if_false]
 refine Prod.ext ?_ ?_
 .cases lo with
 |none=>rfl
 |some v=>exact clip_eq v n 0
 .cases hi with
 |none=>rfl
 |some v=>exact clip_eq v n n
theorem t6 (i j:Nat):Builtin.Slice.slicePlaces (i:Int) (j:Int) 1=j - i:=by
 unfold Builtin.Slice.slicePlaces
 have h1:(1:Int) > 0:=by omega
 simp only [h1,if_true,Int.ediv_one]
 split <;> omega
theorem mC {v:Value}{o:Option Int}{Q:Option Int->Shared->Prop} (p:IsPart v o) (h:Q o s):wpAny (model prog w) A (Builtin.Slice.slicePartIndex v) Q E s:=by
 cases p with
|none=>exact slicePart_none h
|int i t=>exact slicePart_int h
theorem fS {sl:Addr}{vl vu:Value}{lo hi:Option Int}{n:Nat}{Q:Int×Int×Nat->Shared->Prop} (hs:s.heap.IsSliceOf sl vl vu .none) (pl:IsPart vl lo) (pu:IsPart vu hi)
  (h:Q (((sIx n 0 lo:Nat):Int),1,sIx n n hi - sIx n 0 lo) s):wpAny (model prog w) A (Builtin.Slice.sliceApplied (.ref sl) (pure (n:Int))) Q E s:=by
 obtain⟨os,hos,hcs,hds⟩:=id hs
 unfold Builtin.Slice.sliceApplied Builtin.Slice.sliceFields
 refine wpAny_bind (wpAny_bind (wpAny_field hos hds (x:=vl) rfl (wpAny_bind (wpAny_field hos hds (x:=vu) rfl (wpAny_bind (wpAny_field hos hds (x:=.none) rfl (wpAny_pure ?_)))))))
 refine wpAny_bind (slicePart_none ?_)
 show wpAny _ _ (if ((1:Int) == 0)=true then _ else _) _ _ s
 rw [if_neg (by decide)]
 refine wpAny_bind (mC pl (wpAny_bind (mC pu (wpAny_bind (wpAny_pure ?_)))))
 show wpAny _ _ (match Builtin.Slice.sliceAdjust lo hi 1 (n:Int) with|(lo,hi)=>pure (lo,(1:Int),Builtin.Slice.slicePlaces lo hi 1)) _ _ s
 rw [t5 lo hi n]
 show wpAny _ _ (pure (((sIx n 0 lo:Nat):Int),(1:Int),Builtin.Slice.slicePlaces ((sIx n 0 lo:Nat):Int) ((sIx n n hi:Nat):Int) 1)) _ _ s
 rw [t6]
 exact wpAny_pure h
theorem xP (xs:Array Value) (i k:Nat):((List.range k).filterMap fun (m:Nat)=>xs[((i:Int)+(m:Int)*1).toNat]?).toArray=((xs.toList.drop i).take k).toArray:=by
 have e:(fun (m:Nat)=>xs[((i:Int)+(m:Int)*1).toNat]?)=fun m=>xs[i+m]?:=by
  funext m
  have:((i:Int)+(m:Int)*1).toNat=i+m:=by omega
  rw [this]
 rw [e]
 have:=pick_run xs i k
 rw [List.filterMap_map] at this
 have e2:((fun x=>xs[x]?) ∘ fun x=>i+x)=fun m=>xs[i+m]?:=rfl
 rw [e2] at this
 rw [this]
theorem getItem_tuple_cut {t sl:Addr}{items:Array Value}{vl vu:Value}{lo hi:Option Int}{Q:Value->Shared->Prop} (ht:IsTup s.heap t items) (hs:s.heap.IsSliceOf sl vl vu .none) (pl:IsPart vl lo) (pu:IsPart vu hi)
  (hw:¬ (sIx items.size 0 lo=0/\sIx items.size items.size hi=items.size))
  (h:Q (.ref s.heap.objs.size) { s with heap:=s.heap.push { cls:=.type "tuple",data:=.seq ((items.toList.drop (sIx items.size 0 lo)).take (sIx items.size items.size hi - sIx items.size 0 lo)).toArray } })
  (hsz:items.size<=sizeLine):wpAny (model prog w) A (getItem (.ref t) (.ref sl)) Q E s:=by
 have htake:sizeOk (.seq ((items.toList.drop (sIx items.size 0 lo)).take (sIx items.size items.size hi - sIx items.size 0 lo)).toArray):=by
  show ((items.toList.drop (sIx items.size 0 lo)).take (sIx items.size items.size hi - sIx items.size 0 lo)).toArray.size<=sizeLine
  rw [List.size_toArray,List.length_take,List.length_drop,Array.length_toList]
  omega
 have hj:sIx items.size items.size hi<=items.size:=sIx_le _ _ (Nat.le_refl _) hi
 obtain⟨os,hos,hcs,hds⟩:=id hs
 have hTs:s.TypeIs (.ref sl) "slice":=⟨os,hos,hcs⟩
 unfold getItem
 try with_reducible refine wpAny_holding ?_
 first|refine wpAny_bind (wpAny_pure ?_)|skip
 refine wpAny_bind (wpAny_sequenceKey ht.typeIs (by decide) ?_)
 refine wpAny_bind (wpAny_callSpecial?_slot (name:=Str.ofString "__getitem__") ht.typeIs PyProof.Rows.slot_tuple_getitem
  (wpAny_call_entry PyProof.Rows.slot_tuple_getitem ht.typeIs entry_tuple_getitem ?_ (args_tuple_getitem _ _)))
 show wpAny _ _ (Builtin.Tuple.tupleItemsOf (.ref t) >>= _) _ _ s
 refine wpAny_bind (tupleItemsOf_ ht ?_)
 refine wpAny_bind (wpAny_typeOf hTs ?_)
 rw [if_pos (by decide)]
 refine wpAny_bind (fS hs pl pu ?_)
 have hno:¬ ((((sIx items.size 0 lo:Nat):Int) == 0 && (1:Int) == 1 && (sIx items.size items.size hi - sIx items.size 0 lo) == items.size)=true):=by
  intro q
  rw [Bool.and_eq_true,Bool.and_eq_true] at q
  have q1:((sIx items.size 0 lo:Nat):Int)=0:=eq_of_beq q.1.1
  have q2:sIx items.size items.size hi - sIx items.size 0 lo=items.size:=eq_of_beq q.2
  exact hw ⟨by omega,by omega⟩
 show wpAny _ _ (if (((sIx items.size 0 lo:Nat):Int) == 0 && (1:Int) == 1 && (sIx items.size items.size hi - sIx items.size 0 lo) == items.size)=true then _ else _) _ _ s
 rw [if_neg hno,xP]
 first
 |exact wpAny_bind (m:=Builtin.Tuple.tupleExact _) (wpAny_newObj_type (wpAny_pure ⟨_,rfl,wpAny_pure h⟩) htake)
 |exact wpAny_bind (m:=Builtin.Tuple.tupleExact _) (wpAny_newObj_type (wpAny_bind (wpAny_pure (wpAny_pure ⟨_,rfl,wpAny_pure h⟩))) htake)
 |exact wpAny_bind (wpAny_bind (m:=Builtin.Tuple.tupleExact _) (wpAny_newObj_type (wpAny_pure (wpAny_pure ⟨_,rfl,wpAny_pure h⟩)) htake))
 |exact wpAny_bind (wpAny_bind (m:=Builtin.Tuple.tupleExact _) (wpAny_newObj_type (wpAny_pure ⟨_,rfl,wpAny_pure h⟩) htake))
end
end HT
namespace L2
open PySem PySem.Spec PyProof.Rows
abbrev TO:=St->Hp->(Option Int->Hp->Prop)->Prop
def PO (X:Cx) (e:Option Expr) (t:TO):Prop :=
 ∀(pins:List (Addr×Obj)) (s:Shared) (σ:St) (H:Hp) (Q:Option Int->Hp->Prop),Inv X pins σ H s->t σ H Q ->
  wpAny (model X.prog X.w) X.A (evalPart e X.env) (fun u s'=>∃o H',Inv X pins σ H' s'/\IsPart u o/\Q o H') X.xe s
def vf:TO:=fun _ H Q=>Q none H
def Cy (t:TE):TO:=fun σ H Q=>t σ H fun x H1=>∃i,x=.int i/\Q (some i) H1
theorem ef {ns:List Int}:∀{us:List Value},bW (ns.map V.int) us->IntsAre us ns:=by
 induction ns with
|nil=>intro us r;rw [List.map_nil] at r;cases r;exact .nil
|cons n ns ih =>
  intro us r
  rw [List.map_cons] at r
  cases r with
 |cons r1 r2 =>
   obtain⟨t,e⟩:=r1
   subst e
   exact .cons n t (ih r2)
section
variable {X:Cx}{e:Expr}{te:TE}{lo hi:Option Expr}{tl th:TO}{pos p2:Pos}
theorem cT:PO X none vf:=by
 intro pins s σ H Q I h
 rw [evalPart_none]
 exact wpAny_pure ⟨none,H,I,.none,h⟩
theorem cG (h:PE X e te):PO X (some e) (Cy te):=by
 intro pins s σ H Q I hw
 rw [evalPart_some]
 refine thn (h pins s σ H _ I hw) fun u s1 ⟨x,H1,I1,r1,q1⟩=>?_
 obtain⟨i,rfl,q⟩:=q1
 obtain⟨t,rfl⟩:=r1
 exact⟨some i,H1,I1,.int i t,q⟩
def SlR (X:Cx) (r:V->Option Int->Option Int->Hp->VK->Prop):Prop :=
 ∀(pins:List (Addr×Obj)) (s:Shared) (σ:St) (H:Hp) (x:V) (v vl vu:Value) (lo hi:Option Int) (sl:Addr) (Q:VK),Inv X pins σ H s->dh x v->s.heap.IsSliceOf sl vl vu .none->IsPart vl lo->IsPart vu hi->r x lo hi H Q ->
  ∃T id,typeLookup (.type T) "__getitem__"=pure (some (.builtin id))/\s.TypeIs v T/\wpAny (model X.prog X.w) X.A (getItem v (.ref sl)) (EP X pins σ Q) X.xe s
theorem SlR.or {r r':V->Option Int->Option Int->Hp->VK->Prop} (h:SlR X r) (h':SlR X r'):SlR X (fun x lo hi H Q=>r x lo hi H Q\/r' x lo hi H Q):=by
 intro pins s σ H x v vl vu lo hi sl Q I rx hs pl pu q
 rcases q with q|q
 .exact h pins s σ H x v vl vu lo hi sl Q I rx hs pl pu q
 .exact h' pins s σ H x v vl vu lo hi sl Q I rx hs pl pu q
def tSl (r:V->Option Int->Option Int->Hp->VK->Prop) (te:TE) (tl th:TO):TE:=fun σ H Q=>te σ H fun x H1=>tl σ H1 fun l H2=>th σ H2 fun u H3=>r x l u H3 Q
theorem bU {r:V->Option Int->Option Int->Hp->VK->Prop} (hr:SlR X r) (he:PE X e te) (hl:PO X lo tl) (hu:PO X hi th):PE X (.Subscript e (.Slice lo hi none p2) pos) (tSl r te tl th):=by
 intro pins s σ H Q I h
 refine Subscript_ (thn (he pins s σ H _ I h) fun v s1 ⟨x,H1,I1,r1,q1⟩=>?_)
 refine wpAny_Slice (thn (hl pins s1 σ H1 _ I1 q1) fun vl s2 ⟨l,H2,I2,pl,q2⟩=>thn (hu pins s2 σ H2 _ I2 q2) fun vu s3 ⟨u,H3,I3,pu,q3⟩=>?_)
 rw [evalPart_none]
 refine wpAny_pure ?_
 have I4:Inv X pins σ H3 { s3 with heap:=s3.heap.push { cls:=.type "slice",data:=.fields #[vl,vu,.none] } }:=I3.kept (t':=s3.toks) fun b ob q=>Heap.get?_push_of_some _ q
 obtain⟨T,id,hT,ht,hg⟩:=hr pins { s3 with heap:=s3.heap.push { cls:=.type "slice",data:=.fields #[vl,vu,.none] } } σ H3 x v vl vu l u s3.heap.objs.size Q I4 r1 (Heap.IsSliceOf.new ..) pl pu q3
 show wpAny (model X.prog X.w) X.A (subscriptTail e (.Slice lo hi none p2) v (.ref s3.heap.objs.size)) (EP X pins σ Q) X.xe { s3 with heap:=s3.heap.push { cls:=.type "slice",data:=.fields #[vl,vu,.none] } }
 exact tail_any (ops:=[.ref s3.heap.objs.size,v]) ht hT hg (by with_unfolding_all rfl)
def Al (xs:List V) (lo hi:Option Int):List V:=(xs.drop (HT.sIx xs.length 0 lo)).take (HT.sIx xs.length xs.length hi - HT.sIx xs.length 0 lo)
theorem kx (xs:List V) (lo hi:Option Int):(Al xs lo hi).length<=xs.length:=by
 unfold Al
 rw [List.length_take,List.length_drop]
 omega
def FA (K:PySem.W.Frag):V->Option Int->Option Int->Hp->VK->Prop:=fun x lo hi H Q=>∃a xs,x=.ref a/\SqT K H a xs /\
 ¬ (HT.sIx xs.length 0 lo=0/\HT.sIx xs.length xs.length hi=xs.length)/\∀p,H p=none->Q (.ref p) (upd H p (.tup (Al xs lo hi)))
theorem Cz:SlR X (FA X.K):=by
 intro pins s σ H x v vl vu lo hi sl Q I rx hs pl pu h
 obtain⟨a,xs,rfl,hx,hw,q⟩:=h
 cases rx
 obtain⟨its,r,ht,hz⟩:=I.tuple hx
 have hlen:its.toArray.size=xs.length:=by rw [List.size_toArray];exact r.length.symm
 refine⟨"tuple",_,PyProof.Rows.slot_tuple_getitem.lookup,ht.typeIs,?_⟩
 refine HT.getItem_tuple_cut ht hs pl pu (by rw [hlen];exact hw) ?_ (by rw [hlen];exact hz)
 rw [hlen]
 refine⟨.ref s.heap.objs.size,_,I.laid (t':=s.toks) (o:=.tup (Al xs lo hi)) (fun b ob q=>Heap.get?_push_of_some _ q) (Nat.le_refl _) ?_,rfl,q _ (I.hok.fresh (Nat.le_refl _))⟩
 exact⟨Nat.le_trans (kx xs lo hi) hz,_,(r.drop (HT.sIx xs.length 0 lo)).take (HT.sIx xs.length xs.length hi - HT.sIx xs.length 0 lo),IsTup.new _ _⟩
def CA (K:PySem.W.Frag):R2:=fun x y H Q=>∃a b xs ys,x=.ref a/\y=.ref b/\SqT K H a xs/\SqT K H b ys/\xs≠[]/\xs.length+ys.length<=sizeLine /\
 (ys=[]->Q (.ref a) H)/\(ys≠[]->∀p,H p=none->Q (.ref p) (upd H p (.tup (xs++ys))))
theorem bW.nil_iff {xs:List V}{us:List Value} (r:bW xs us):us=[] ↔ xs=[]:=by
 cases r with
|nil=>simp
|cons _ _=>simp
theorem Am:OpR X (binaryOp .Add) (CA X.K):=by
 intro pins s σ H x y v u Q I rx ry h
 obtain⟨a,b,xs,ys,rfl,rfl,ha,hb,hx,hz,q1,q2⟩:=h
 cases rx
 cases ry
 obtain⟨its,r1,p1,_⟩:=I.tuple ha
 obtain⟨its2,r2,p2,_⟩:=I.tuple hb
 refine HT.cat_tup p1 p2 (fun z=>hx (r1.nil_iff.mp z)) (fun z=>⟨.ref a,H,I,rfl,q1 (r2.nil_iff.mp z)⟩) (fun z=>?_) (by rw [<- r1.length,<- r2.length];exact hz)
 refine⟨.ref s.heap.objs.size,_,I.laid (t':=s.toks) (o:=.tup (xs++ys)) (fun b ob q=>Heap.get?_push_of_some _ q) (Nat.le_refl _) ?_,rfl,q2 (fun w=>z (r2.nil_iff.mpr w)) _ (I.hok.fresh (Nat.le_refl _))⟩
 exact⟨by rw [List.length_append];exact hz,_,r1.append r2,IsTup.new _ _⟩
end
def ixN (n:Nat) (i:Int):Option Nat:=if 0<=i then (if i<n then some i.toNat else none) else if -(n:Int)<=i then some (i+n).toNat else none
def atI {α:Type} (xs:List α) (i:Int):Option α:=(ixN xs.length i).bind fun j=>xs[j]?
theorem qF {n:Nat}{i:Int}{j:Nat} (h:ixN n i=some j):seqIndex? i n=some j/\j<n/\-(n:Int)<=i/\i<n:=by
 unfold ixN at h
 by_cases h0:0<=i
 .rw [if_pos h0] at h
  by_cases h1:i<n
  .rw [if_pos h1] at h
   have e:i.toNat=j:=Option.some.inj h
   exact⟨by rw [seqIndex_of h0 h1,e],by omega,by omega,h1⟩
  .rw [if_neg h1] at h;cases h
 .rw [if_neg h0] at h
  by_cases h1:-(n:Int)<=i
  .rw [if_pos h1] at h
   have e:(i+n).toNat=j:=Option.some.inj h
   exact⟨by rw [seqIndex_neg (by omega) h1,e],by omega,h1,by omega⟩
  .rw [if_neg h1] at h;cases h
theorem qG {α:Type}{xs:List α}{i:Int}{v:α} (h:atI xs i=some v):∃j,seqIndex? i xs.length=some j/\xs[j]?=some v/\j<xs.length/\-(xs.length:Int)<=i/\i<xs.length:=by
 unfold atI at h
 cases e:ixN xs.length i with
|none=>rw [e] at h;cases h
|some j =>
  rw [e] at h
  obtain⟨h1,h2,h3,h4⟩:=qF e
  exact⟨j,h1,h,h2,h3,h4⟩
theorem An {α:Type}{xs:List α}{j:Nat}{v:α} (h:xs[j]?=some v):atI xs (j:Int)=some v:=by
 have hj:j<xs.length:=(List.getElem?_eq_some_iff.mp h).1
 have e:ixN xs.length (j:Int)=some j:=by
  unfold ixN
  rw [if_pos (by omega),if_pos (by omega)];simp
 unfold atI;rw [e];exact h
def Ao (b:Expr):Prop:=∀o i,subscripted b false o i=operate [o,i] (getItem o i)
def IxR (X:Cx) (r:R2):Prop :=
 ∀(value slice:Expr) (pins:List (Addr×Obj)) (s:Shared) (σ:St) (H:Hp) (x y:V) (v u:Value) (Q:VK),Inv X pins σ H s->dh x v->dh y u->r x y H Q ->
  subscripted slice false v u=operate [v,u] (getItem v u)->wpAny (model X.prog X.w) X.A (subscriptTail value slice v u) (EP X pins σ Q) X.xe s
def MtR (X:Cx) (id:String) (r:V->List V->Hp->VK->Prop):Prop :=
 ∀(pins:List (Addr×Obj)) (s:Shared) (σ:St) (H:Hp) (x:V) (xs:List V) (v:Value) (us:List Value) (Q:VK),Inv X pins σ H s->dh x v->bW xs us->r x xs H Q ->
  wpAny (model X.prog X.w) X.A (call (.builtin id) (v::us)) (EP X pins σ Q) X.xe s
section
variable {X:Cx}{a b:Expr}{ta tb:TE}{pos:Pos}
theorem IxR.or {r r':R2} (h:IxR X r) (h':IxR X r'):IxR X (fun x y H Q=>r x y H Q\/r' x y H Q):=by
 intro value slice pins s σ H x y v u Q I rx ry q hs
 rcases q with q|q
 .exact h value slice pins s σ H x y v u Q I rx ry q hs
 .exact h' value slice pins s σ H x y v u Q I rx ry q hs
theorem b7 {r:R2} (hr:IxR X r) (ha:PE X a ta) (hb:PE X b tb) (hs:Ao b):PE X (.Subscript a b pos) (tOp r ta tb):=by
 intro pins s σ H Q I h
 exact Subscript_ (Ew ha hb I h fun v u s2 x y H2 I2 rx ry q=>hr a b pins s2 σ H2 x y v u Q I2 rx ry q (hs _ _))
def FB (K:PySem.W.Frag):R2:=fun x y H Q=>∃p xs i v,x=.ref p/\y=.int i/\SqL K H p xs/\atI xs i=some v/\Q v H
def FC (K:PySem.W.Frag):R2:=fun x y H Q=>∃p xs i v,x=.ref p/\y=.int i/\SqT K H p xs/\atI xs i=some v/\Q v H
def Gf:R2:=fun x y H Q=>∃z i c,x=.str z/\y=.int i/\z.length<=sizeLine/\atI z.cps.toList i=some c/\Q (.str ⟨#[c]⟩) H
theorem Ap:IxR X (FB X.K):=by
 intro value slice pins s σ H x y v u Q I rx ry h hs
 obtain⟨p,xs,i,z,rfl,rfl,hq,he,q⟩:=h
 cases rx
 obtain⟨t,rfl⟩:=ry
 obtain⟨its,r,pl,hz⟩:=I.list hq
 obtain⟨j,h1,h2,h3,h4,h5⟩:=qG he
 obtain⟨w,ew,rw'⟩:=r.get h2
 have hl:=r.length
 have hn:=mw
 have fin:EP X pins σ Q w s:=⟨z,H,I,rw',q⟩
 by_cases h0:0<=i
 .have hj:i.toNat=j:=by
   rw [seqIndex_of h0 h5] at h1
   exact Option.some.inj h1
  exact item_listR pl.isList h0 (by omega) (by rw [hj];simpa using ew) fin hs
 .have hj:(i+(its.toArray.size:Int)).toNat=j:=by
   rw [seqIndex_neg (by omega) h4] at h1
   rw [List.size_toArray,<- hl]
   exact Option.some.inj h1
  exact subscriptTail_builtinR (x:=w) pl.isList.typeIs slot_list_getitem.lookup
   (wpAny_getItem_list_neg (Q:=fun r s'=>r=w/\EP X pins σ Q r s') pl.isList (by omega) (by rw [List.size_toArray] <;> omega) (by omega) (by rw [hj];simpa using ew) ⟨rfl,fin⟩) hs
theorem CB:IxR X (FC X.K):=by
 intro value slice pins s σ H x y v u Q I rx ry h hs
 obtain⟨p,xs,i,z,rfl,rfl,hq,he,q⟩:=h
 cases rx
 obtain⟨t,rfl⟩:=ry
 obtain⟨its,r,pl,hz⟩:=I.tuple hq
 obtain⟨j,h1,h2,h3,h4,h5⟩:=qG he
 obtain⟨w,ew,rw'⟩:=r.get h2
 have hl:=r.length
 have hn:=mw
 have fin:EP X pins σ Q w s:=⟨z,H,I,rw',q⟩
 exact subscriptTail_builtinR (x:=w) pl.typeIs slot_tuple_getitem.lookup
  (getItem_tuple (j:=j) (Q:=fun r s'=>r=w/\EP X pins σ Q r s') pl (by omega) (by omega) (by rw [List.size_toArray,<- hl];exact h1) (by simpa using ew) ⟨rfl,fin⟩) hs
theorem CC:IxR X Gf:=by
 intro value slice pins s σ H x y v u Q I rx ry h hs
 obtain⟨z,i,c,rfl,rfl,hz,he,q⟩:=h
 obtain⟨t,rfl⟩:=rx
 obtain⟨t',rfl⟩:=ry
 obtain⟨j,h1,h2,h3,h4,h5⟩:=qG he
 have hl:z.cps.toList.length=z.length:=by simp [Str.length]
 rw [hl] at h1 h4 h5
 have hn:=mw
 exact tail_any (typeIs_str s z t) slot_str_getitem.lookup (getItem_str (c:=c) (by
  have e1:decide (i < -(2^63:Int))=false:=decide_eq_false (by omega)
  have e2:decide (i >= 2^63)=false:=decide_eq_false (by omega)
  rw [e1,e2,Bool.or_false]) (by rw [h1];simpa using h2) ⟨.str ⟨#[c]⟩,H,I.tok _,⟨_,rfl⟩,q⟩) hs
theorem t7 (its:List Value) (n j:Nat) (u:Value):Obj.mapSeq (·.setIfInBounds j u) { cls:=.type "list",data:=.seq its.toArray n }={ cls:=.type "list",data:=.seq (its.set j u).toArray n }:=by
 simp [Obj.mapSeq]
theorem Inv.lst {pins:List (Addr×Obj)}{σ:St}{H:Hp}{s:Shared}{p:Addr}{xs:List V} (I:Inv X pins σ H s) (h:H p=some (.lst xs)) :
  ∃(its:List Value) (n:Nat),bW xs its/\s.heap.get? p=some { cls:=.type "list",data:=.seq its.toArray n }/\xs.length<=sizeLine:=by
 obtain⟨z,its,n,r,e⟩:=I.hok p _ h
 exact⟨its,n,r,e,z⟩
theorem Inv.lstUpd {pins:List (Addr×Obj)}{σ:St}{H:Hp}{s:Shared}{p:Addr}{xs ys:List V}{its its':List Value}{n n':Nat}{f:Obj->Obj} (I:Inv X pins σ H s) (h:H p=some (.lst xs))
  (ho:s.heap.get? p=some { cls:=.type "list",data:=.seq its.toArray n }) (hf:f { cls:=.type "list",data:=.seq its.toArray n }={ cls:=.type "list",data:=.seq its'.toArray n' }) (r:bW ys its') (hz:ys.length<=sizeLine) (t:Nat) :
  Inv X pins σ (upd H p (.lst ys)) { s with heap:=s.heap.update p f,toks:=t }:=by
 have e:(s.heap.update p f).get? p=some { cls:=.type "list",data:=.seq its'.toArray n' }:=by
  rw [Heap.get?_update_self f ho (by rw [hf] <;> rfl),hf]
 refine I.write (x:=p) (e:=p) (by rw [h];trivial) (.inl rfl) (fun b u hb q=>(Heap.get?_update_other _ _ (Ne.symm hb)).trans q) ⟨_,e⟩ ?_
 exact⟨hz,its',n',r,e⟩
def Aq:V->V->V->Hp->(Hp->Prop)->Prop:=fun o i v H Q=>∃p xs k j,o=.ref p/\i=.int k/\H p=some (.lst xs)/\ixN xs.length k=some j/\Q (upd H p (.lst (xs.set j v)))
theorem gI:Fu X Aq:=by
 intro pins s σ H o i v ov iv u Q I ro ri rv h
 obtain⟨p,xs,k,j,rfl,rfl,hp,hj,q⟩:=h
 cases ro
 obtain⟨t,rfl⟩:=ri
 obtain⟨its,n,r,ho,hz⟩:=I.lst hp
 obtain⟨h1,h2,h3,h4⟩:=qF hj
 have hl:=r.length
 have hn:=mw
 have I':Inv X pins σ (upd H p (.lst (xs.set j v))) { s with heap:=s.heap.update p (Obj.mapSeq (·.setIfInBounds j u)) } :=
  I.lstUpd hp ho (t7 its n j u) (r.set rv j) (by rw [List.length_set];exact hz) s.toks
 by_cases h0:0<=k
 .have hk:k.toNat=j:=by
   rw [seqIndex_of h0 h4] at h1
   exact Option.some.inj h1
  exact PySem.W.ki_setAt ho h0 (by omega) (by rw [List.size_toArray,<- hl];exact h4) (by rw [hk];exact⟨_,I',q⟩)
 .have hk:(k+(its.toArray.size:Int)).toNat=j:=by
   rw [seqIndex_neg (by omega) h3] at h1
   rw [List.size_toArray,<- hl]
   exact Option.some.inj h1
  exact PySem.W.ki_setBack ho (by omega) (by rw [List.size_toArray,<- hl];exact h3) (by omega) (by rw [hk];exact⟨_,I',q⟩)
theorem oN (lo hi:Option Int) (n:Nat):(sliceBounds lo hi none n).1=((HT.sIx n 0 lo:Nat):Int)/\(sliceBounds lo hi none n).2.1=((HT.sIx n n hi:Nat):Int)/\(sliceBounds lo hi none n).2.2=1:=by
 refine⟨?_,?_,rfl⟩
 .cases lo with
 |none=>simp [sliceBounds,HT.sIx]
 |some i =>
   simp only [sliceBounds,HT.sIx,Option.getD_none,show (1:Int) > 0 by decide,if_true]
   by_cases h:i<0
   .simp only [h,if_true] <;> omega
   .simp only [h,if_false] <;> omega
 .cases hi with
 |none=>simp [sliceBounds,HT.sIx]
 |some i =>
   simp only [sliceBounds,HT.sIx,Option.getD_none,show (1:Int) > 0 by decide,if_true]
   by_cases h:i<0
   .simp only [h,if_true] <;> omega
   .simp only [h,if_false] <;> omega
theorem m8 (its:List Value) (lo hi:Option Int):slicePick its.toArray lo hi none=((its.drop (HT.sIx its.length 0 lo)).take (HT.sIx its.length its.length hi - HT.sIx its.length 0 lo)).toArray:=by
 obtain⟨h1,h2,h3⟩:=oN lo hi its.toArray.size
 unfold slicePick
 rw [h1,h2,h3]
 simp only [sliceRange_one,pick_run,List.size_toArray] <;> rfl
def FD (K:PySem.W.Frag):V->Option Int->Option Int->Hp->VK->Prop:=fun x lo hi H Q=>∃a xs,x=.ref a/\SqL K H a xs/\∀p,H p=none->Q (.ref p) (upd H p (.lst (Al xs lo hi)))
theorem Ar:SlR X (FD X.K):=by
 intro pins s σ H x v vl vu lo hi sl Q I rx hs pl pu h
 obtain⟨a,xs,rfl,hx,q⟩:=h
 cases rx
 obtain⟨its,r,ht,hz⟩:=I.list hx
 have hlen:=r.length
 refine⟨"list",_,slot_list_getitem.lookup,ht.isList.typeIs,?_⟩
 refine wpAny_getItem_list_slice ht.isList hs pl pu .none (by simp) ?_ (by rw [List.size_toArray] <;> omega)
 rw [m8,<- hlen]
 refine⟨.ref s.heap.objs.size,_,I.laid (t':=s.toks) (o:=.lst (Al xs lo hi)) (fun b ob q=>Heap.get?_push_of_some _ q) (Nat.le_refl _) ?_,rfl,q _ (I.hok.fresh (Nat.le_refl _))⟩
 exact⟨Nat.le_trans (kx xs lo hi) hz,_,0,(r.drop (HT.sIx xs.length 0 lo)).take (HT.sIx xs.length xs.length hi - HT.sIx xs.length 0 lo),Heap.get?_push_size _ rfl⟩
def lM:V->Bool
|.non=>true
|.bl _=>true
|.int _=>true
|.str _=>true
|_=>false
def eqV:V->V->Bool
|.non,.non=>true
|.bl a,.bl b=>a == b
|.bl a,.int b=>(if a then 1 else 0) == b
|.int a,.bl b=>a == (if b then 1 else 0)
|.int a,.int b=>a == b
|.str a,.str b=>a == b
|_,_=>false
theorem CD {A:Around}{s:Shared}{y x:V}{u v:Value} (ry:dh y u) (rx:dh x v) (fy:lM y=true) (fx:lM x=true):SeqAt.EqAt A s u v (eqV y x):=by
 cases y with
|non =>
  cases ry
  cases x with
 |non=>cases rx;exact SeqAt.EqAt.same _
 |bl b=>cases rx;exact SeqAt.EqAt.none_bool b
 |int b=>obtain⟨t,rfl⟩:=rx;exact SeqAt.EqAt.none_int b t
 |str b=>obtain⟨t,rfl⟩:=rx;exact SeqAt.EqAt.none_str b t
 |_=>exact absurd (show false=true from fx) Bool.false_ne_true
|bl a =>
  cases ry
  cases x with
 |non=>cases rx;exact SeqAt.EqAt.bool_none a
 |bl b=>cases rx;exact SeqAt.EqAt.bool_bool a b
 |int b=>obtain⟨t,rfl⟩:=rx;exact SeqAt.EqAt.bool_int a b t
 |str b=>obtain⟨t,rfl⟩:=rx;exact SeqAt.EqAt.bool_str a b t
 |_=>exact absurd (show false=true from fx) Bool.false_ne_true
|int a =>
  obtain⟨t',rfl⟩:=ry
  cases x with
 |non=>cases rx;exact SeqAt.EqAt.int_none a t'
 |bl b=>cases rx;exact SeqAt.EqAt.int_bool a t' b
 |int b=>obtain⟨t,rfl⟩:=rx;exact SeqAt.EqAt.int_int a t' b t
 |str b=>obtain⟨t,rfl⟩:=rx;exact SeqAt.EqAt.int_str a t' b t
 |_=>exact absurd (show false=true from fx) Bool.false_ne_true
|str a =>
  obtain⟨t',rfl⟩:=ry
  cases x with
 |non=>cases rx;exact SeqAt.EqAt.str_none a t'
 |bl b=>cases rx;exact SeqAt.EqAt.str_bool a t' b
 |int b=>obtain⟨t,rfl⟩:=rx;exact SeqAt.EqAt.str_int a t' b t
 |str b=>obtain⟨t,rfl⟩:=rx;exact SeqAt.EqAt.str_str a t' b t
 |_=>exact absurd (show false=true from fx) Bool.false_ne_true
|_=>exact absurd (show false=true from fy) Bool.false_ne_true
def eqU (x:V) (u:Value):Bool:=match u with
|.none=>eqV .non x
|.bool b=>eqV (.bl b) x
|.int i _=>eqV (.int i) x
|.str z _=>eqV (.str z) x
|_=>false
theorem zi {x y:V}{u:Value} (r:dh y u) (f:lM y=true):eqU x u=eqV y x:=by
 cases y with
|non=>cases r;rfl
|bl b=>cases r;rfl
|int i=>obtain⟨t,rfl⟩:=r;rfl
|str z=>obtain⟨t,rfl⟩:=r;rfl
|_=>exact absurd (show false=true from f) Bool.false_ne_true
theorem ky {x:V}:∀{xs:List V}{us:List Value},bW xs us->xs.all lM=true->us.any (eqU x)=xs.any fun y=>eqV y x
|_,_,.nil,_=>rfl
|y::xs,u::us,.cons r t,f=>by
  rw [List.all_cons,Bool.and_eq_true] at f
  rw [List.any_cons,List.any_cons,zi r f.1,ky t f.2]
theorem iI {A:Around}{s:Shared}{x:V}{v:Value} (rx:dh x v) (fx:lM x=true):∀{xs:List V}{us:List Value},bW xs us->xs.all lM=true->∀u∈us,SeqAt.EqAt A s u v (eqU x u)
|_,_,.nil,_=>fun u hu=>by cases hu
|y::xs,u::us,.cons r t,f=>fun u' hu=>by
  rw [List.all_cons,Bool.and_eq_true] at f
  rcases List.mem_cons.mp hu with rfl|hu
  .rw [zi r f.1];exact CD r rx f.1 fx
  .exact iI rx fx t f.2 u' hu
def inV (x:V) (xs:List V):Bool:=xs.any fun y=>eqV y x
def rIn (K:PySem.W.Frag) (neg:Bool):R2:=fun x y H Q=>∃p xs,y=.ref p/\(SqL K H p xs\/SqT K H p xs)/\lM x=true/\xs.all lM=true/\Q (.bl (if neg then !inV x xs else inV x xs)) H
theorem vg:OpR X (compareOp .In) (rIn X.K false):=by
 intro pins s σ H x y v u Q I rx ry h
 obtain⟨p,xs,rfl,hq,fx,fs,q⟩:=h
 cases ry
 rcases hq with hq|hq
 .obtain⟨its,r,pl,hz⟩:=I.list hq
  refine SeqAt.in_listAt (eqU x) pl.isList (fun w hw=>iI rx fx r fs w (by simpa using hw)) ⟨.bl _,H,I,rfl,?_⟩
  rw [show its.toArray.any (eqU x)=its.any (eqU x) by simp,ky r fs]
  exact q
 .obtain⟨its,r,pl,hz⟩:=I.tuple hq
  refine SeqAt.in_tupleAt (eqU x) pl (fun w hw=>iI rx fx r fs w (by simpa using hw)) ⟨.bl _,H,I,rfl,?_⟩
  rw [show its.toArray.any (eqU x)=its.any (eqU x) by simp,ky r fs]
  exact q
theorem oO:OpR X (compareOp .NotIn) (rIn X.K true):=by
 intro pins s σ H x y v u Q I rx ry h
 obtain⟨p,xs,rfl,hq,fx,fs,q⟩:=h
 cases ry
 rcases hq with hq|hq
 .obtain⟨its,r,pl,hz⟩:=I.list hq
  refine SeqAt.notIn_listAt (eqU x) pl.isList (fun w hw=>iI rx fx r fs w (by simpa using hw)) ⟨.bl _,H,I,rfl,?_⟩
  rw [show its.toArray.any (eqU x)=its.any (eqU x) by simp,ky r fs]
  exact q
 .obtain⟨its,r,pl,hz⟩:=I.tuple hq
  refine SeqAt.notIn_tupleAt (eqU x) pl (fun w hw=>iI rx fx r fs w (by simpa using hw)) ⟨.bl _,H,I,rfl,?_⟩
  rw [show its.toArray.any (eqU x)=its.any (eqU x) by simp,ky r fs]
  exact q
theorem jC:cw X (.builtin "len") (fun xs H Q=>∃p ys,xs=[.ref p]/\(SqL X.K H p ys\/SqT X.K H p ys)/\Q (.int ys.length) H):=by
 intro pins s σ H xs us Q I r h
 obtain⟨p,ys,rfl,hq,q⟩:=h
 obtain⟨u,rfl,rx⟩:=gT r
 cases rx
 have hn:=mw
 rcases hq with hq|hq
 .obtain⟨its,r',pl,hz⟩:=I.list hq
  have hlen:=r'.length
  exact Calls.call_len_list pl.isList (by simp only [List.size_toArray] <;> omega) ⟨.int ys.length,H,I.tok _,⟨s.toks+1,by rw [List.size_toArray,hlen]⟩,q⟩
 .obtain⟨its,r',pl,hz⟩:=I.tuple hq
  have hlen:=r'.length
  exact len_tuple pl (by simp only [List.size_toArray] <;> omega) ⟨.int ys.length,H,I.tok _,⟨s.toks+1,by rw [List.size_toArray,hlen]⟩,q⟩
theorem oP:cw X (.builtin "len") (fun xs H Q=>∃z,xs=[.str z]/\z.length<=sizeLine/\Q (.int z.length) H):=by
 intro pins s σ H xs us Q I r h
 obtain⟨z,rfl,hz,q⟩:=h
 obtain⟨u,rfl,t,rfl⟩:=gT r
 have hn:=mw
 exact len_str (by omega) ⟨.int z.length,H,I.tok _,⟨_,rfl⟩,q⟩
theorem cw.or {f:Value}{r r':List V->Hp->VK->Prop} (h:cw X f r) (h':cw X f r'):cw X f (fun xs H Q=>r xs H Q\/r' xs H Q):=by
 intro pins s σ H xs us Q I rs q
 rcases q with q|q
 .exact h pins s σ H xs us Q I rs q
 .exact h' pins s σ H xs us Q I rs q
theorem oQ:cw X (.type "list") (fun xs H Q=>∃p ys,xs=[.ref p]/\(SqL X.K H p ys\/SqT X.K H p ys)/\∀l,H l=none->Q (.ref l) (upd H l (.lst ys))):=by
 intro pins s σ H xs us Q I r h
 obtain⟨p,ys,rfl,hq,q⟩:=h
 obtain⟨u,rfl,rx⟩:=gT r
 cases rx
 have fin:∀(its:List Value),bW ys its->ys.length<=sizeLine->∀(h':Heap) (c':Nat),(∀b o',s.heap.get? b=some o'->h'.get? b=some o') ->
   h'.get? s.heap.objs.size=some { cls:=.type "list",dict:=none,data:=.seq its.toArray c',slots:=#[] }->EP X pins σ Q (.ref s.heap.objs.size) { s with heap:=h' }:=fun its r' hz h' c' kp e =>
  ⟨.ref s.heap.objs.size,_,I.laid (t':=s.toks) kp (Nat.le_refl _) (show cF X.prog X.w _ h' _ (.lst ys) from ⟨hz,its,c',r',e⟩),rfl,q _ (I.hok.fresh (Nat.le_refl _))⟩
 rcases hq with hq|hq
 .obtain⟨its,r',pl,hz⟩:=I.list hq
  have hlen:=r'.length
  obtain⟨o,ho,hc,n,hd⟩:=pl.isList
  exact call_list_seq p (.inl rfl) ho hc hd (fun h' c' kp e=>fin its r' hz h' c' kp e) (by simp only [List.size_toArray] <;> omega)
 .obtain⟨its,r',pl,hz⟩:=I.tuple hq
  have hlen:=r'.length
  obtain⟨o,ho,hc,n,hd⟩:=pl
  exact call_list_seq p (.inr rfl) ho hc hd (fun h' c' kp e=>fin its r' hz h' c' kp e) (by simp only [List.size_toArray] <;> omega)
theorem m9:cw X (.type "tuple") (fun xs H Q=>∃p ys,xs=[.ref p]/\((SqL X.K H p ys/\∀l,H l=none->Q (.ref l) (upd H l (.tup ys)))\/(SqT X.K H p ys/\Q (.ref p) H))):=by
 intro pins s σ H xs us Q I r h
 obtain⟨p,ys,rfl,h⟩:=h
 obtain⟨u,rfl,rx⟩:=gT r
 cases rx
 rcases h with ⟨hq,q⟩|⟨hq,q⟩
 .obtain⟨its,r',pl,hz⟩:=I.list hq
  have hlen:=r'.length
  refine call_tuple_list pl.isList (fun h' kp=>?_) (by simp only [List.size_toArray] <;> omega)
  have I1:Inv X pins σ H { s with heap:=h' }:=I.kept (t':=s.toks) kp
  have I2:Inv X pins σ (upd H h'.objs.size (.tup ys)) { s with heap:=h'.push { cls:=.type "tuple",data:=.seq its.toArray } } :=
   I1.laid (t':=s.toks) (fun b o e=>Heap.get?_push_of_some _ e) (Nat.le_refl _) (show cF X.prog X.w _ _ _ (.tup ys) from ⟨hz,its,r',IsTup.new _ _⟩)
  exact⟨.ref h'.objs.size,_,I2,rfl,q _ (I1.hok.fresh (Nat.le_refl _))⟩
 .obtain⟨its,r',pl,hz⟩:=I.tuple hq
  exact call_tuple_same pl ⟨.ref p,H,I,rfl,q⟩
def tyV (K:PySem.W.Frag) (T:String) (x:V) (H:Hp):Prop:=match x with
|.str _=>T="str"
|.int _=>T="int"
|.ref p=>(T="list"/\∃xs,SqL K H p xs)\/(T="tuple"/\∃o,K.lookup p=some o/\o.cls=.type "tuple"/\o.dict=none) \/
   (T="dict"/\((∃kvs,H p=some (.dK kvs))\/∃kvs,H p=some (.dT kvs)))\/(T="set"/\∃S n,H p=some (.set S n))
|_=>False
theorem zj {pins:List (Addr×Obj)}{σ:St}{H:Hp}{s:Shared}{T:String}{x:V}{v:Value} (I:Inv X pins σ H s) (r:dh x v) (ty:tyV X.K T x H) :
  s.TypeIs v T/\∀a,v=.ref a->∃ob,s.heap.get? a=some ob/\ob.dict=none:=by
 cases x with
|str z =>
  obtain⟨t,rfl⟩:=r
  cases (show T="str" from ty)
  exact⟨typeIs_str s z t,fun _ e=>nomatch e⟩
|int i =>
  obtain⟨t,rfl⟩:=r
  cases (show T="int" from ty)
  exact⟨typeIs_int s i t,fun _ e=>nomatch e⟩
|ref p =>
  cases r
  rcases ty with ⟨rfl,xs,hq⟩|⟨rfl,o,hk,hc,hd⟩|⟨rfl,hk⟩|⟨rfl,S,n,hk⟩
  .obtain⟨its,_,pl,_⟩:=I.list hq
   refine⟨pl.isList.typeIs,fun a e=>?_⟩
   cases e
   obtain⟨o,n,e,c,hd,_⟩:=pl
   exact⟨o,e,hd⟩
  .refine⟨⟨o,I.kIn p o hk,hc⟩,fun a e=>?_⟩
   cases e
   exact⟨o,I.kIn _ o hk,hd⟩
  .have z:∃o,s.heap.get? p=some o/\o.ExactDict:=by
    rcases hk with ⟨kvs,hk⟩|⟨kvs,hk⟩
    .obtain⟨_,_,_,_,o,_,_,e,ex,_⟩:=I.hok p _ hk
     exact⟨o,e,ex⟩
    .obtain⟨_,_,_,_,o,_,_,e,ex,_⟩:=I.hok p _ hk
     exact⟨o,e,ex⟩
   obtain⟨o,e,ex⟩:=z
   refine⟨⟨o,e,ex.1⟩,fun a e2=>?_⟩
   cases e2
   exact⟨o,e,ex.2.1⟩
  .obtain⟨o,_,_,_,e,ex,_⟩:=I.hok p _ hk
   refine⟨⟨o,e,ex.1⟩,fun a e2=>?_⟩
   cases e2
   exact⟨o,e,ex.2.1⟩
|_=>exact False.elim ty
def CF (K:PySem.W.Frag) (T:String) (r:V->List V->Hp->VK->Prop) (to:TE):TE:=fun σ H Q=>to σ H fun x H1=>tyV K T x H1/\r x [] H1 Q
def tBM (K:PySem.W.Frag) (T:String) (r:V->List V->Hp->VK->Prop) (to:TE) (t:TA):TE:=fun σ H Q=>to σ H fun x H1=>tyV K T x H1/\t σ H1 fun xs H2=>r x xs H2 Q
variable {o e:Expr}{es:List Expr}{to:TE}{t:TA}{name:Str}{apos cpos:Pos}{T id:String}{r:V->List V->Hp->VK->Prop}
theorem zk (pa:PlainAttrs T) (slot:Slot T name id) (hty:typeOf (.builtin id)=pure (.type "method_descriptor")) (hm:MtR X id r) (ho:PE X o to)
  (hbase:attributeBase o name X.env (eval o X.env)=eval o X.env:=by rfl) (hline:(apos.endLine == cpos.line)=true:=by rfl):PE X (.Call (.Attribute o name apos) [] [] cpos) (CF X.K T r to):=by
 intro pins s σ H Q I h
 refine wpAny_Call_method0_late hbase hline (thn (ho pins s σ H _ I h) fun v s1 ⟨x,H1,I1,r1,ty,q1⟩=>?_)
 obtain⟨h1,h2⟩:=zj I1 r1 ty
 exact⟨T,id,pa,slot,hty,h1,h2,Calls.callWith_builtin rfl (PySem.evalArgs_none (hm pins s1 σ H1 x [] v [] Q I1 r1 .nil q1))⟩
theorem EG (pa:PlainAttrs T) (slot:Slot T name id) (hty:typeOf (.builtin id)=pure (.type "method_descriptor")) (hm:MtR X id r) (ho:PE X o to) (ha:PA X (e::es) t)
  (hbase:attributeBase o name X.env (eval o X.env)=eval o X.env:=by rfl)
  (hfew:((backTo cpos (starEach (e::es) X.env)).all (fun x=>!x.1) && (backToKw cpos (keywordEach [] X.env)).all (fun x=>x.1.isSome)
   && decide ((e::es).length+([]:List Keyword).length+(if ([]:List Keyword).isEmpty then 0 else 1)<30))=true:=by rfl)
  (hline:(apos.endLine == cpos.line)=true:=by rfl) (hs:starEach (e::es) X.env=(false,eval e X.env)::starEach es X.env:=by rfl) (hplain:(backTo cpos (starEach es X.env)).any (·.1)=false:=by rfl) :
  PE X (.Call (.Attribute o name apos) (e::es) [] cpos) (tBM X.K T r to t):=by
 intro pins s σ H Q I h
 refine wpAny_Call_method_late hbase hfew hline rfl (thn (ho pins s σ H _ I h) fun v s1 ⟨x,H1,I1,r1,ty,q1⟩=>?_)
 obtain⟨h1,h2⟩:=zj I1 r1 ty
 refine⟨T,id,pa,slot,hty,h1,h2,?_⟩
 have hA:=ha cpos pins s1 σ H1 _ I1 q1
 rw [hs] at hA ⊢
 refine Calls.callWith_builtin (by show (false || (backTo cpos (starEach es X.env)).any (·.1))=false;rw [hplain] <;> rfl) (Calls.evalArgs_plain ?_)
 exact thn hA fun us s2 ⟨vs,H2,I2,r2,q2⟩=>hm pins s2 σ H2 x vs v us Q I2 r1 r2 q2
end
def MtM (X:Cx) (id:String) (r:V->List V->Hp->VK->Prop):Prop :=
 ∀(pins:List (Addr×Obj)) (s:Shared) (σ:St) (H:Hp) (x:V) (xs:List V) (v:Value) (us:List Value) (Q:VK),Inv X pins σ H s->dh x v->bW xs us->r x xs H Q ->
  wpAny (model X.prog X.w) X.A (call (.builtin id) (v::us)) (EP X pins σ Q) X.xe s
theorem bW.one:∀{x:V}{us:List Value},bW [x] us->∃u,us=[u]/\dh x u
|_,_,.cons r .nil=>⟨_,rfl,r⟩
theorem bW.zero:∀{us:List Value},bW [] us->us=[]
|_,.nil=>rfl
theorem bW.dropLast {xs:List V}{us:List Value} (h:bW xs us):bW xs.dropLast us.dropLast:=by
 induction h with
|nil=>exact .nil
|cons r t ih =>
  cases t with
 |nil=>exact .nil
 |cons q t'=>exact .cons r ih
theorem bW.eraseIdx:∀{xs:List V}{us:List Value} (i:Nat),bW xs us->bW (xs.eraseIdx i) (us.eraseIdx i)
|_,_,_,.nil=>.nil
|_,_,0,.cons _ t=>t
|_,_,i+1,.cons r t=>.cons r (bW.eraseIdx i t)
theorem bW.reverse {xs:List V}{us:List Value} (h:bW xs us):bW xs.reverse us.reverse:=by
 induction h with
|nil=>exact .nil
|cons r t ih=>rw [List.reverse_cons,List.reverse_cons];exact bW.append ih (.cons r .nil)
theorem bW.rep {xs:List V}{us:List Value} (h:bW xs us):∀k:Nat,bW (List.replicate k xs).flatten (List.replicate k us).flatten
|0=>.nil
|k+1=>by
  rw [List.replicate_succ,List.replicate_succ,List.flatten_cons,List.flatten_cons]
  exact bW.append h (bW.rep h k)
theorem t8 {α:Type} (l:List α):l.eraseIdx (l.length - 1)=l.dropLast:=by
 induction l with
|nil=>rfl
|cons a r ih =>
  cases r with
 |nil=>rfl
 |cons b r =>
   have e:(a::b::r).length - 1=((b::r).length - 1)+1:=by
    have h1:(a::b::r).length=r.length+2:=rfl
    have h2:(b::r).length=r.length+1:=rfl
    omega
   rw [e,List.eraseIdx_cons_succ,ih]
   all_goals rfl
theorem oR {α:Type}:∀(l:List α) (i:Nat),(l.eraseIdx i).length<=l.length
|[],_=>Nat.le_refl _
|_::_,0=>Nat.le_succ _
|_::r,i+1=>Nat.succ_le_succ (oR r i)
theorem oS (its:List Value):∀(k:Nat) (acc:List Value),
  List.foldl (fun x1 x2=>x1++x2) acc.toArray (List.replicate k its.toArray)=(acc++(List.replicate k its).flatten).toArray
|0,acc=>by simp
|k+1,acc=>by
  have e:acc.toArray++its.toArray=(acc++its).toArray:=by simp
  have e2:(acc++its)++(List.replicate k its).flatten=acc++(List.replicate (k+1) its).flatten:=by
   rw [List.replicate_succ,List.flatten_cons,List.append_assoc]
  rw [<- e2,<- oS its k (acc++its),<- e,List.replicate_succ,List.foldl_cons]
section
variable {X:Cx}{pins:List (Addr×Obj)}{σ:St}{H:Hp}{s:Shared}{l b:Addr}{xs ys zs:List V}
theorem Inv.lset {its its':List Value}{n:Nat}{f:Array Value->Array Value}{t':Nat} (I:Inv X pins σ H s) (hH:H l=some (.lst xs))
  (e:s.heap.get? l=some { cls:=.type "list",data:=.seq its.toArray n }) (hf:f its.toArray=its'.toArray) (hv:bW ys its') (hz:ys.length<=sizeLine) :
  Inv X pins σ (upd H l (.lst ys)) { s with heap:=s.heap.update l (Obj.mapSeq f),toks:=t' }:=by
 have q:=PySem.IsL.update e f
 rw [hf] at q
 refine I.write (x:=l) (e:=l) (by rw [hH];exact trivial) (.inl rfl) (fun b' u hb hu=>(Heap.get?_update_other s.heap (Obj.mapSeq f) (Ne.symm hb)).trans hu) ⟨_,q⟩ ?_
 exact⟨hz,its',_,hv,q⟩
theorem Inv.lnew {its:List Value}{t':Nat} (I:Inv X pins σ H s) (hv:bW ys its) (hz:ys.length<=sizeLine) :
  Inv X pins σ (upd H s.heap.objs.size (.lst ys)) { s with heap:=s.heap.push { cls:=.type "list",data:=.seq its.toArray },toks:=t' } :=
 I.laid (fun _ _ q=>Heap.get?_push_of_some _ q) (Nat.le_refl _) ⟨hz,its,0,hv,Heap.get?_push_size _ rfl⟩
theorem Inv.fresh (I:Inv X pins σ H s):H s.heap.objs.size=none:=I.hok.fresh (Nat.le_refl _)
theorem Inv.lstM (I:Inv X pins σ H s) (hH:H l=some (.lst xs)):xs.length<=sizeLine/\∃(its:List Value) (n:Nat),bW xs its/\xs.length=its.length/\s.heap.get? l=some { cls:=.type "list",data:=.seq its.toArray n }:=by
 obtain⟨z,its,n,r,e⟩:=I.hok l _ hH
 exact⟨z,its,n,r,r.length,e⟩
theorem r8 {n:Nat} (h:n<=sizeLine):Builtin.List.listTooLong n=false:=by
 unfold Builtin.List.listTooLong
 exact decide_eq_false (by omega)
end
section
variable {X:Cx}
def vh:V->List V->Hp->VK->Prop:=fun x vs H Q=>∃l xs y,x=.ref l/\vs=[y]/\H l=some (.lst xs)/\xs.length<sizeLine/\Q .non (upd H l (.lst (xs++[y])))
theorem eh:MtM X "list.append" vh:=by
 intro pins s σ H x vs v us Q I rx rv h
 obtain⟨l,xs,y,rfl,rfl,hH,hz,q⟩:=h
 cases rx
 obtain⟨u,rfl,ru⟩:=rv.one
 obtain⟨z,its,n,r,hl,e⟩:=I.lstM hH
 refine call_meets F.slot_list_append ⟨_,e,rfl⟩ F.entry_list_append (F.args_list_append_2 _ _) (PySem.list_append l its.toArray n u (by rw [List.size_toArray];omega)) ⟨e,?_⟩
 refine⟨.non,_,I.lset (its':=its++[u]) hH e (by simp) (r.append (.cons ru .nil)) ?_,rfl,q⟩
 rw [List.length_append,List.length_singleton]
 omega
def vk:V->List V->Hp->VK->Prop:=fun x vs H Q=>∃l b xs zs,x=.ref l/\vs=[.ref b]/\H l=some (.lst xs)/\H b=some (.lst zs)/\xs.length+zs.length<=sizeLine/\Q .non (upd H l (.lst (xs++zs)))
theorem vm:MtM X "list.extend" vk:=by
 intro pins s σ H x vs v us Q I rx rv h
 obtain⟨l,b,xs,zs,rfl,rfl,hH,hB,hz,q⟩:=h
 cases rx
 obtain⟨u,rfl,ru⟩:=rv.one
 cases ru
 obtain⟨z,its,n,r,hl,e⟩:=I.lstM hH
 obtain⟨z2,its2,n2,r2,hl2,e2⟩:=I.lstM hB
 have hsz:its.toArray.size+its2.toArray.size<=sizeLine:=by rw [List.size_toArray,List.size_toArray];omega
 have hlong:¬ (!its.toArray.isEmpty && Builtin.List.listTooLong (its.toArray.size+its2.toArray.size))=true:=by
  rw [r8 hsz,Bool.and_false]
  exact Bool.false_ne_true
 refine call_meets F.slot_list_extend ⟨_,e,rfl⟩ F.entry_list_extend (F.args_list_extend_2 _ _)
  (AutoSeq1.list_extend_list_list_0 l its.toArray n b its2.toArray n2 hlong (by rw [List.size_toArray];omega) (by omega)) ⟨e,e2,?_⟩
 refine⟨.non,_,I.lset (its':=its++its2) hH e (by simp) (r.append r2) ?_,rfl,q⟩
 rw [List.length_append]
 omega
def FE:V->List V->Hp->VK->Prop:=fun x vs H Q=>∃l xs y,x=.ref l/\vs=[]/\H l=some (.lst xs)/\xs[xs.length - 1]?=some y/\Q y (upd H l (.lst xs.dropLast))
theorem CG:MtM X "list.pop" FE:=by
 intro pins s σ H x vs v us Q I rx rv h
 obtain⟨l,xs,y,rfl,rfl,hH,hy,q⟩:=h
 cases rx
 have hus:=rv.zero
 subst hus
 obtain⟨z,its,n,r,hl,e⟩:=I.lstM hH
 obtain⟨u,hu,ru⟩:=r.get hy
 have hy':its.toArray[its.toArray.size - 1]?=some u:=by
  show its.toArray[its.length - 1]?=some u
  rw [<- Array.getElem?_toList,<- hl]
  exact hu
 refine call_meets F.slot_list_pop ⟨_,e,rfl⟩ F.entry_list_pop (F.args_list_pop_1 _) (MeetsSeq.list_pop_last l its.toArray n u hy' (by rw [List.size_toArray];omega)) ⟨e,?_⟩
 refine⟨y,_,I.lset (its':=its.dropLast) hH e ?_ r.dropLast ?_,ru,q⟩
 .show its.toArray.eraseIdxIfInBounds (its.toArray.size - 1)=its.dropLast.toArray
  rw [List.size_toArray,List.eraseIdxIfInBounds_toArray,t8]
 .rw [List.length_dropLast]
  omega
def zl:V->List V->Hp->VK->Prop:=fun x vs H Q=>∃l xs i k y,x=.ref l/\vs=[.int i]/\H l=some (.lst xs)/\-(2^63)<=i/\i<2^63/\seqIndex? i xs.length=some k/\xs[k]?=some y/\Q y (upd H l (.lst (xs.eraseIdx k)))
theorem sd:MtM X "list.pop" zl:=by
 intro pins s σ H x vs v us Q I rx rv h
 obtain⟨l,xs,i,k,y,rfl,rfl,hH,h1,h2,hk,hy,q⟩:=h
 cases rx
 obtain⟨u,rfl,ru⟩:=rv.one
 obtain⟨t,rfl⟩:=ru
 obtain⟨z,its,n,r,hl,e⟩:=I.lstM hH
 obtain⟨w,hw,rw'⟩:=r.get hy
 refine call_meets F.slot_list_pop ⟨_,e,rfl⟩ F.entry_list_pop (F.args_list_pop_2 _ _)
  (MeetsSeq.list_pop_at l its.toArray n i t k w (fitsIndex_both h1 h2) (by rw [List.size_toArray,<- hl];exact hk) (by rw [<- Array.getElem?_toList];exact hw) (by rw [List.size_toArray];omega)) ⟨e,?_⟩
 refine⟨y,_,I.lset (its':=its.eraseIdx k) hH e ?_ (r.eraseIdx k) ?_,rw',q⟩
 .show its.toArray.eraseIdxIfInBounds k=(its.eraseIdx k).toArray
  rw [List.eraseIdxIfInBounds_toArray]
 .have:=oR xs k
  omega
def FF:R2:=fun x y H Q=>∃l k xs,x=.ref l/\y=.int k/\H l=some (.lst xs)/\-(2^63)<=k/\k<2^63/\xs.length*k.toNat<=sizeLine /\
 ∀p,H p=none->Q (.ref p) (upd H p (.lst (List.replicate k.toNat xs).flatten))
theorem As {α:Type} (xs:List α) (k:Nat):(List.replicate k xs).flatten.length=k*xs.length:=by
 induction k with
|zero=>simp
|succ k ih=>rw [List.replicate_succ,List.flatten_cons,List.length_append,ih,Nat.succ_mul,Nat.add_comm]
theorem CH:OpR X (binaryOp .Mult) FF:=by
 intro pins s σ H x y v u Q I rx ry h
 obtain⟨l,k,xs,rfl,rfl,hH,h1,h2,hz,q⟩:=h
 cases rx
 obtain⟨t,rfl⟩:=ry
 obtain⟨z,its,n,r,hl,e⟩:=I.lstM hH
 have hlen:its.toArray.size*k.toNat<=sizeLine:=by rw [List.size_toArray,<- hl];exact hz
 have hcap:¬ its.toArray.size*k.toNat > (2^63 - 1) / 8:=by
  have:(sizeLine:Nat)<=(2^63 - 1) / 8:=by decide
  omega
 have hfit:¬ (!Builtin.List.listFitsIndex k)=true:=by
  rw [fitsIndex_both h1 h2]
  exact Bool.false_ne_true
 have hlong:¬ Builtin.List.listTooLong (its.toArray.size*k.toNat)=true:=by
  rw [r8 hlen]
  exact Bool.false_ne_true
 have hnew:List.foldl (fun x1 x2=>x1++x2) #[] (List.replicate (if its.toArray.isEmpty=true then 0 else k.toNat) its.toArray)=(List.replicate k.toNat its).flatten.toArray:=by
  have f0:∀m:Nat,List.foldl (fun x1 x2=>x1++x2) #[] (List.replicate m its.toArray)=(List.replicate m its).flatten.toArray:=fun m=>by
   have:=oS its m []
   rw [List.nil_append] at this
   exact this
  rw [f0]
  cases its with
 |nil=>simp
 |cons a r'=>rw [if_neg (by simp)]
 refine wpAny_binaryOp_repeat_ref (T:="list") (U:="int") (by decide) ⟨_,e,rfl⟩ (fun s'=>typeIs_int s' k t) noFill_list_mul F.fills_int_mul F.slot_int_rmul repeat_list F.slot_int_index.lookup
  (call_meets F.slot_int_rmul (typeIs_int s k t) F.entry_int_rmul (F.args_int_rmul_2 _ _) (int___rmul___int_list k t l its.toArray n)
   ⟨e,rfl,⟨_,e,rfl⟩,call_meets F.slot_list_mul ⟨_,e,rfl⟩ F.entry_list_mul (F.args_list_mul_2 _ _) (AutoListH.list___mul___list_int_3 l its.toArray n k t hfit hcap hlong) ⟨e,?_⟩⟩)
 rw [hnew]
 exact⟨.ref _,_,I.lnew (t':=s.toks) (r.rep k.toNat) (by rw [As,Nat.mul_comm];exact hz),rfl,q _ I.fresh⟩
end
end L2
namespace Att
open PySem PySem.W PySem.Calls PyProof.Rows
theorem kz {P:Params}{h:Heap}:∀(ns:List Int) (vs:List Value),WellAll P h vs (ns.map WData.int)->IntsAre vs ns:=by
 intro ns
 induction ns with
|nil =>
  intro vs w
  rw [List.map_nil] at w
  cases w
  exact .nil
|cons n ns ih =>
  intro vs w
  rw [List.map_cons] at w
  cases w with
 |cons a b =>
   cases a
   exact .cons _ _ (ih _ b)
theorem vn {l:OpenLaw}{n:Nat} (hn:l.most=some n) {P:Params}{h:Heap}{args:List WData}{vals:List Value}
  (hpre:l.row.toRowW.claim.pre args=true) (hwl:WellAll P h vals args) :
  ∃a vs ns,vals=[Value.ref a]/\args=[WData.list (ns.map WData.int)]/\h.get? a=some { cls:=.type "list",data:=.seq vs.toArray }/\IntsAre vs ns/\ns.length<=n:=by
 have hsh:WShape.hasAll [] args [.list .int]=true:=(pre_splitW hpre).1
 have hc:l.pre.holds [] { args:=args }=true:=(pre_splitW hpre).2
 obtain⟨d,r,rfl,h1,h2⟩:=hasAllW_cons hsh
 obtain rfl:=hasAllW_nil h2
 obtain⟨xs,rfl,h3⟩:=hasW_list h1
 obtain⟨ns,rfl⟩:=items_int h3
 have hlen:ns.length<=n:=by
  unfold OpenLaw.pre at hc
  have h4:(WTm.not (.lt (.lit (.int (n:Int))) (.len (.arg 0)))).holds [] { args:=[.list (ns.map .int)] }=true:=by
   have h4:=(holds_andW hc).1
   rw [hn] at h4
   exact h4
  have h5:=condW_of h4 (w_not (w_lt w_lit (w_len_list (w_arg rfl))))
  rw [List.length_map] at h5
  refine Nat.le_of_not_lt fun q=>?_
  have q':(n:Int)<((ns.length:Nat):Int):=by omega
  first
   | (rw [decide_eq_true q'] at h5;exact absurd h5 (by decide))
   | (simp at h5;omega)
 cases hwl with
|cons w1 w2 =>
  cases w2
  cases w1 with
 |list ho hall=>exact⟨_,_,ns,rfl,rfl,ho,kz ns _ hall,hlen⟩
theorem vo (l:OpenLaw) (args:List WData):l.row.toRowW.claim.post args (.bool true) args=true :=
 postW_of (r:=l.row.toRowW) (X:=(true == true))
  (show WShape.has [] (.bool true) .bool=true by first|rfl|decide|simp [WShape.has,WShape.arms,WShape.armsAll])
  (show (WTm.eq .res (.lit (.bool true))).value [] { args:=args,res:=some (.bool true),after:=args }=some (.bool (true == true)) from w_eq_bool (w_res rfl) w_lit) rfl
theorem attach_call {l:OpenLaw}{n:Nat}{q:Program}{loose:List Str}{XP:(Str->Option Value)->Heap->Prop}{YP:World->Heap->Prop}{d:DefRec}
  (hn:l.most=some n) (hdf:d.params.defaults=[])
  (call:∀(w:World) (s₀ s₁:Shared) (mg mb:Str->Option Value) (fa:Addr) (o:Obj) (pm cd doc:Value) (a:Addr) (vs:List Value) (ns:List Int),
   Ground q loose [] XP w s₀ mg mb s₁.heap->YP w s₁.heap ->
   s₁.heap.get? fa=some o->o.data=.func (docDef d.name d.params d.body d.scope pm cd doc)->s₁.heap.CodeRec cd d.name->mg d.name=some (.ref fa) ->
   s₁.heap.get? a=some { cls:=.type "list",data:=.seq vs.toArray }->IntsAre vs ns->ns.length<=n->s₁.gens=#[] ->
   codeAny (model l.prog w) callerA (.call (.ref fa) ⟨[.ref a],[]⟩) (fun r s'=>r=.ok (.ret (.bool true))/\OldK s₁.heap s'.heap/\s'.os=s₁.os/\AllBare s'.gens) s₁) :
  WalkO q loose XP YP l.row.toRowW d [] (fun f vs=>PySem.call f vs):=by
 intro w s₀ s₁ mg mb G Y fa o pm cd doc dV kV ho hd hcd hD hmg hg args vals as hpre hlay hrd hwl hlo
 obtain rfl:dV=.none:=Dflts.none hD hdf
 obtain rfl:kV=.none:=Dflts.noKw hD
 obtain⟨a,vs,ns,rfl,rfl,hobj,hints,hlen⟩:=vn hn hpre hwl
 refine enter_call (codeAny_mono (call w s₀ s₁ mg mb fa o pm cd doc a vs ns G Y ho (fd_plain hd) hcd hmg hobj hints hlen hg) fun r s' hq=>?_)
 obtain⟨rfl,h2,h3,h4⟩:=hq
 exact⟨.inl ⟨.bool true,.bool true,[],rfl,fun _=>rfl,.bool true,vo l _,fun _=>⟨List.Pairwise.nil,fun _ hm=>(nomatch hm)⟩⟩,h2,h3,h4⟩
end Att
namespace L2
open PySem PySem.Spec PyProof.Rows
theorem oU:∀{vs:List Value}{ns:List Int},IntsAre vs ns->bW (ns.map V.int) vs
|_,_,.nil=>.nil
|_,_,.cons n t h=>.cons ⟨t,rfl⟩ (oU h)
def EH (H:Hp):Prop:=∀b,H b=none\/∃o xs,H b=some (.frz o (.lst xs))
theorem xQ {P:Program}{w:World}{K:PySem.W.Frag}{mg mb:Str->Option Value}{CX:CXT}{k:Nat}{fa a:Addr}{fd:FuncData}{x:Str}{sp:Sp}{s₁:Shared}{vs:List Value}{ns:List Int}
  (KX:K.In s₁.heap) (hns:s₁.heap.Ns mainGlobals mg) (hb:s₁.heap.Ns builtinsNs mb) (hbb:∀x:Str,x≠"__name__"->mb x=bootBuiltins x) (hlim:s₁.heap.NoLimit) (hg:s₁.gens=#[])
  (ha:s₁.heap.get? a=some { cls:=.type "list",data:=.seq vs.toArray }) (hi:IntsAre vs ns) (hl:ns.length<=sizeLine) (hr:gh k callerA)
  (F:∀base:Heap,K.In base->base.Ns mainGlobals mg->m7 P w K mg base CX k fa fd [x] sp) (hbind:∀(s:Shared) (u:Value),BindsTo s fd ⟨[u],[]⟩ [(x,u)])
  (hsp:∀H:Hp,EH H->SqL K H a (ns.map V.int)->sp [.ref a] H (fun v _=>v=.bl true) fun _ _ _=>False)
  (hCX:∀H e s',CX [] H s₁ (fun _ _ _=>False) e s'->False) :
  codeAny (model P w) callerA (.call (.ref fa) ⟨[.ref a],[]⟩) (fun r s'=>r=.ok (.ret (.bool true))/\OldK s₁.heap s'.heap/\s'.os=s₁.os/\AllBare s'.gens) s₁:=by
 have rv:=oU hi
 have lenV:=hi.length
 -- from an abstract heap in which nothing but the script may be tracked
 have core:∀H:Hp,EH H->SqL K H a (ns.map V.int)->HOk P w H s₁.heap->(∀b,H b≠none->b=a)->(H a≠none->K.lookup a=none) ->
   codeAny (model P w) callerA (.call (.ref fa) ⟨[.ref a],[]⟩) (fun r s'=>r=.ok (.ret (.bool true))/\OldK s₁.heap s'.heap/\s'.os=s₁.os/\AllBare s'.gens) s₁:=by
  intro H hO hS hok hA hK
  have base_of:∀{b:Addr}{o:Obj},s₁.heap.get? b=some o->H b=none->(xE s₁.heap H).get? b=some o:=fun e n=>xF e n
  have noA:∀{b:Addr}{o:Obj}{es:Array DictEntry}{ep:Nat},s₁.heap.get? b=some o->o.data=.dict es ep->H b=none:=fun {b o es ep} e d=>by
   cases q:H b with
  |none=>rfl
  |some u =>
    have e':b=a:=hA b (by rw [q];simp)
    subst e'
    rw [ha] at e;cases e
    have d':Data.seq vs.toArray _=Data.dict es ep:=d
    cases d'
  have nsK:∀{b:Addr}{m:Str->Option Value},s₁.heap.Ns b m->(xE s₁.heap H).Ns b m:=fun {b m} ⟨o,es,ep,e,d,r⟩=>⟨o,es,ep,base_of e (noA e d),d,r⟩
  have hKb:K.In (xE s₁.heap H):=fun b o e=>base_of (KX b o e) (by
   cases q:H b with
  |none=>rfl
  |some u =>
    have e':b=a:=hA b (by rw [q];simp)
    subst e'
    rw [hK (by rw [q];simp)] at e;cases e)
  have hM:Mod K mg (xE s₁.heap H):=⟨hKb,nsK hns,⟨mb,nsK hb,hbb⟩,let ⟨mc,h1,h2⟩:=hlim;⟨mc,nsK h1,h2⟩⟩
  have e0:Ah P w K mg (xE s₁.heap H) callerA [] s₁ H:=⟨rfl,hM,fun b o e=>zW e,Nat.le_of_eq (uS _ _),trivial,fun b hb=>absurd (show b∈([]:List Addr) from hb) (by simp),hok,.of_eq hg⟩
  refine codeAny_mono ((F _ hKb (nsK hns)).run callerA [] s₁ H ⟨[.ref a],[]⟩ [.ref a] [.ref a] _ _ hr e0 (hbind s₁ (.ref a)) (.cons rfl .nil) (hsp H hO hS)) fun r s' h=>?_
  cases r with
 |error e=>exact (hCX H e s' h).elim
 |ok fl =>
   cases fl with
  |next=>exact False.elim h
  |brk=>exact False.elim h
  |cont=>exact False.elim h
  |ret u =>
    obtain⟨v,H',os,bare,un,hok',r',q⟩:=h
    have q':v=.bl true:=q
    subst q'
    obtain rfl:u=Value.bool true:=r'
    refine⟨rfl,OldK.of_keep fun b o e=>?_,os,bare⟩
    cases q:H b with
   |none=>exact un.keep b o e q (by intro z;exact absurd (show b∈([]:List Addr) from z) (by simp)) (by simp)
   |some u =>
     rcases hO b with z|⟨ob,xs,z⟩
     .rw [q] at z;cases z
     .have z2:=un.frzs b ob _ z
      obtain⟨e1,_⟩:=hok b _ z
      obtain⟨e2,_⟩:=hok' b _ z2
      rw [e] at e1;cases e1
      exact e2
 cases hk:K.lookup a with
|some o =>
  -- the script is one of the module's own objects
  have e:=KX a o hk
  rw [ha] at e
  cases e
  refine core (fun _=>none) (fun _=>.inl rfl) (.inr ⟨_,vs.toArray,_,hk,rfl,rfl,rfl,by rw [List.size_toArray,lenV];exact hl,by simpa using rv⟩) (fun b u z=>by have z':(none:Option HO)=some u:=z;cases z') (fun b z=>absurd rfl z) fun z=>absurd rfl z
|none =>
  refine core (fun b=>if b=a then some (.frz { cls:=.type "list",data:=.seq vs.toArray } (.lst (ns.map V.int))) else none) (fun b=>?_) (.inl (.inr ⟨{ cls:=.type "list",data:=.seq vs.toArray },if_pos rfl⟩)) (fun b u z=>?_) (fun b z=>?_) fun _=>hk
  .by_cases hb:b=a
   .exact .inr ⟨_,_,if_pos hb⟩
   .exact .inl (if_neg hb)
  .by_cases hb:b=a
   .have z':=(if_pos hb).symm.trans z
    cases z'
    subst hb
    exact⟨ha,by rw [List.length_map];exact hl,vs,_,rv,ha⟩
   .have z':=(if_neg hb).symm.trans z
    cases z'
  .by_cases hb:b=a
   .exact hb
   .exact absurd (if_neg hb) z
theorem At {l:PySem.W.OpenLaw}{n k:Nat}{q:Program}{loose:List Str}{XP:(Str->Option Value)->Heap->Prop}{YP:World->Heap->Prop}{d:DefRec}{K:Params->PySem.W.Frag}{CX:World->CXT}{sp:World->Sp}{x:Str}
  (hn:l.most=some n) (hn2:n<=sizeLine) (hdf:d.params.defaults=[]) (hr:gh k callerA)
  (hY:∀(w:World) (h:Heap),YP w h->(K w.params).In h)
  (F:∀(w:World) (mg:Str->Option Value) (fa:Addr) (h:Heap),(K w.params).In h->h.Ns mainGlobals mg->mg d.name=some (.ref fa) ->
   ∃fd:FuncData,(∀(s:Shared) (u:Value),BindsTo s fd ⟨[u],[]⟩ [(x,u)]) /\
    ∀base:Heap,(K w.params).In base->base.Ns mainGlobals mg->m7 l.prog w (K w.params) mg base (CX w) k fa fd [x] (sp w))
  (hsp:∀(w:World) (H:Hp) (a:Addr) (ns:List Int),ns.length<=n->EH H->SqL (K w.params) H a (ns.map V.int)->sp w [.ref a] H (fun v _=>v=.bl true) fun _ _ _=>False)
  (hCX:∀(w:World) (H:Hp) (s:Shared) (e:Value) (s':Shared),CX w [] H s (fun _ _ _=>False) e s'->False) :
  PySem.W.WalkO q loose XP YP l.row.toRowW d [] (fun f vs=>PySem.call f vs):=by
 refine Att.attach_call hn hdf fun w s₀ s₁ mg mb fa o pm cd doc a vs ns G Y ho hd hcd hmg hobj hints hlen hg=>?_
 have KX:=hY w _ Y
 obtain⟨fd,hb,hF⟩:=F w mg fa _ KX G.T.g hmg
 exact xQ KX G.T.g G.T.b G.T.builtins G.T.nolimit hg hobj hints (Nat.le_trans hlen hn2) hr hF hb (fun H hO hS=>hsp w H a ns hlen hO hS) fun H e s'=>hCX w H s₁ e s'
def vp (s:Stmt) (j:Nat):Stmt:=match s with
|.ClassDef _ _ _ body _ _ _ _ _ _ _=>body.getD j (.Pass ⟨0,0,0,0⟩)
|_=>.Pass ⟨0,0,0,0⟩
def cY (s:Stmt):Arguments:=match s with
|.FunctionDef _ a _ _ _ _ _ _ _ _=>a
|_=>{ posonlyargs:=[],args:=[],vararg:=none,kwonlyargs:=[],kw_defaults:=[],kwarg:=none,defaults:=[] }
def ci (s:Stmt):List Stmt:=match s with
|.FunctionDef _ _ b _ _ _ _ _ _ _=>b
|_=>[]
def ar (s:Stmt):Scope:=match s with
|.FunctionDef _ _ _ _ _ _ sc _ _ _=>sc
|_=>{ kind:=.function,names:=[],isGenerator:=false,isCoroutine:=false }
abbrev CX0:CXT:=fun _ _ _ _ _ _=>False
abbrev E0:XK:=fun _ _ _=>False
theorem xR {X:Cx}:mB CX0 X E0:=fun _ _ _ _ _ _ _ h=>h.elim
structure Fun (K:PySem.W.Frag) (x qual:Str) (st:Stmt) (f:Addr) (fd:FuncData):Prop where
 ex:∃(oc:Value) (od:Option Addr) (kV doc pm:Value) (an:Option Addr) (cdv ct:Value) (osl:Array (Option Value)),
  fd=PySem.W.fnOf x qual (cY st) (ci st) (ar st) .none kV doc pm an cdv ct/\K.lookup f=some ⟨oc,od,.func fd,osl⟩/\PySem.W.codeIn K cdv qual=true
 kp:PySem.W.keepIn K (.ref f)=true
section
variable {P:Program}{w:World}{K:PySem.W.Frag}{mg:Str->Option Value}{base:Heap}
theorem Fun.ok {x qual:Str}{st:Stmt}{f:Addr}{fd:FuncData}{N ps:List Str}{k:Nat}{sp:Sp} (F:Fun K x qual st f fd) (S:aO N ps (ar st)) (len:∀vs H Q E,sp vs H Q E->vs.length=ps.length)
  (hbody:∀(cdv:Value) (A:Around) (outer:List Env) (s:Shared) (H:Hp) (vs:List V) (Q:VK) (E:XK),gh k (A.deeper (envOfC qual (ar st) s.heap.objs.size f cdv))->sp vs H Q E ->
   ∃t,PSs (xA CX0 P w K mg base N qual (ar st) f cdv A outer s H E).nox (ci st) t/\t { nx:=fun _ H'=>Q .non H',rt:=Q } (start N vs) H):m7 P w K mg base CX0 (k+1) f fd ps sp:=by
 obtain⟨oc,od,kV,doc,pm,an,cdv,ct,osl,rfl,lk,hcd⟩:=F.ex
 refine Cw lk hcd S len fun A outer s H vs Q E hr hsp=>?_
 obtain⟨t,h,q⟩:=hbody cdv A outer s H vs Q E hr hsp
 exact⟨t,h.nox,q⟩
theorem Fun.binds {x qual:Str}{st:Stmt}{f:Addr}{fd:FuncData}{ps:List Str} (F:Fun K x qual st f fd)
  (h:∀(kV doc pm:Value) (an:Option Addr) (cdv ct:Value) (us:List Value),us.length=ps.length->bindArgs (PySem.W.fnOf x qual (cY st) (ci st) (ar st) .none kV doc pm an cdv ct) ⟨us,[]⟩=pure (ps.zip us)):jY K fd ps []:=by
 obtain⟨oc,od,kV,doc,pm,an,cdv,ct,osl,rfl,lk,hcd⟩:=F.ex
 exact .all (h kV doc pm an cdv ct)
theorem vq {x qual:Str}{st:Stmt}{f:Addr}{oc:Value}{od an:Option Addr}{osl:Array (Option Value)}{kV doc pm cdv ct:Value} (l:K.lookup f=some ⟨oc,od,.func (PySem.W.fnOf x qual (cY st) (ci st) (ar st) .none kV doc pm an cdv ct),osl⟩)
  (c:PySem.W.codeIn K cdv qual=true) (k:PySem.W.keepIn K (.ref f)=true):Fun K x qual st f (PySem.W.fnOf x qual (cY st) (ci st) (ar st) .none kV doc pm an cdv ct):=⟨⟨oc,od,kV,doc,pm,an,cdv,ct,osl,rfl,l,c⟩,k⟩
end
section
variable {X:Cx}
theorem pv (i:Nat) {x:Str}{pos:Pos} (hN:X.N[i]?=some x:=by rfl) (hv:Vis X.env.scope x:=by first|exact Or.inl rfl|exact Or.inr (Or.inl rfl)|exact Or.inr (Or.inr rfl)) (hd:(x == ("__debug__":Str))=false:=by decide)
  (hcd:(x == ("__classdict__":Str))=false:=by decide):PE X (.Name x pos) (a9 i):=B9 hN hv hd hcd
end
def S (l:List Nat):Str:=⟨l.toArray⟩
theorem gU (l:List Nat):(S l).length=l.length:=by simp [S,Str.length]
theorem EI (a b:List Nat):S a++S b=S (a++b):=by
 show (⟨a.toArray++b.toArray⟩:Str)=⟨(a++b).toArray⟩
 rw [List.append_toArray]
theorem CI {a b:List Nat} (h:S a=S b):a=b:=by
 have h':=congrArg (fun x:Str=>x.cps.toList) h
 simpa [S] using h'
theorem Gg {a b:List Nat} (h:a≠b):S a≠S b:=fun e=>h (CI e)
theorem CJ {a b:List Nat}:V.str (S a)=V.str (S b) ↔ a=b:=⟨fun h=>CI (V.str.inj h),fun h=>by rw [h]⟩
theorem CK (a b:List Nat):decide (V.str (S a)=V.str (S b))=decide (a=b):=by
 by_cases h:a=b
 .rw [decide_eq_true h,decide_eq_true (CJ.mpr h)]
 .rw [decide_eq_false h,decide_eq_false (fun z=>h (CJ.mp z))]
def dR {α:Type} (xs:List α) (lo hi:Option Int):List α:=(xs.drop (HT.sIx xs.length 0 lo)).take (HT.sIx xs.length xs.length hi - HT.sIx xs.length 0 lo)
theorem dE {α:Type} (xs:List α) (lo hi:Option Int):(dR xs lo hi).length<=xs.length:=by
 unfold dR
 rw [List.length_take,List.length_drop]
 omega
theorem vt (xs:List V) (lo hi:Option Int):Al xs lo hi=dR xs lo hi:=rfl
theorem CL (lo hi:Option Int) (n:Nat):Builtin.Str.strSliceIndices lo hi 1 n=(List.range (HT.sIx n n hi - HT.sIx n 0 lo)).map (fun k=>HT.sIx n 0 lo+k):=by
 have key:∀(o:Option Int) (d:Nat),d<=n->(match o with|none=>(d:Int)|some i=>max 0 (min (if i<0 then i+(n:Int) else i) (n:Int)))=((HT.sIx n d o:Nat):Int):=by
  intro o d hd
  cases o with
 |none=>rfl
 |some i =>
   show max 0 (min (if i<0 then i+(n:Int) else i) (n:Int))=_
   rw [<- HT.clip_eq i n d]
   by_cases h:i<0
   .rw [if_pos h,if_pos h];omega
   .rw [if_neg h,if_neg h];omega
 have k1:=key lo 0 (Nat.zero_le _)
 have k2:=key hi n (Nat.le_refl _)
 unfold Builtin.Str.strSliceIndices
 simp only [show (1:Int) > 0 by decide,if_true]
 refine Eq.trans (congrArg (fun a=>sliceRange a _ 1) k1) (Eq.trans (congrArg (fun b=>sliceRange _ b 1) k2) ?_)
 unfold sliceRange
 simp only [show (1:Int) > 0 by decide,if_true]
 generalize HT.sIx n 0 lo=a
 generalize HT.sIx n n hi=b
 have ec:(if (a:Int)<(b:Int) then ((b:Int) - (a:Int)+1 - 1) / 1 else 0).toNat=b - a:=by
  split <;> omega
 rw [ec]
 apply List.map_congr_left
 intro k _
 omega
theorem vv {α:Type} (l:List α) (a m:Nat):((List.range m).map (fun k=>a+k)).filterMap (fun i=>l[i]?)=(l.drop a).take m:=by
 induction m generalizing a with
|zero=>simp
|succ m ih =>
  rw [List.range_succ_eq_map,List.map_cons,List.map_map,List.filterMap_cons]
  have e:((fun k=>a+k) ∘ Nat.succ)=fun k=>(a+1)+k:=by funext k;simp;omega
  rw [e,ih (a+1)]
  cases h:l[a+0]? with
 |none =>
   have hl:l.length<=a:=by simpa using List.getElem?_eq_none_iff.mp h
   rw [List.drop_eq_nil_of_le hl,List.drop_eq_nil_of_le (by omega)];simp
 |some v =>
   have hl:a<l.length:=by simpa using (List.getElem?_eq_some_iff.mp h).1
   have hv:l[a]=v:=by simpa using (List.getElem?_eq_some_iff.mp h).2
   rw [List.drop_eq_getElem_cons hl,hv];rfl
theorem Au (l:List Nat) (lo hi:Option Int):Txt.slice (S l) lo hi=S (dR l lo hi):=by
 have e1:(Builtin.Str.strSliceIndices lo hi 1 (S l).length).filterMap ((S l).cps[·]?)=dR l lo hi:=by
  rw [CL,gU]
  have e:(fun i:Nat=>(S l).cps[i]?)=fun i:Nat=>l[i]?:=by funext i;simp [S]
  rw [e]
  exact vv l _ _
 unfold Txt.slice
 split
 .rename_i h
  have h2:(Builtin.Str.strSliceIndices lo hi 1 (S l).length).length=(S l).length:=by simpa using h
  rw [CL,gU,List.length_map,List.length_range] at h2
  have a0:=HT.sIx_le l.length 0 (Nat.zero_le _) lo
  have b0:=HT.sIx_le l.length l.length (Nat.le_refl _) hi
  unfold dR
  by_cases hz:l.length=0
  .have:l=[]:=List.length_eq_zero_iff.mp hz
   subst this;simp
  .have ha:HT.sIx l.length 0 lo=0:=by omega
   have hb:HT.sIx l.length l.length hi=l.length:=by omega
   rw [ha,hb]
   simp
 .rw [e1];rfl
theorem iq {α:Type} (l:List α) (k:Nat):dR l none (some (k:Int))=l.take k:=by
 unfold dR
 rw [HT.sIx_nat]
 show (l.drop 0).take (min k l.length - 0)=l.take k
 rw [List.drop_zero,Nat.sub_zero]
 by_cases h:k<=l.length
 .rw [Nat.min_eq_left h]
 .rw [Nat.min_eq_right (by omega),List.take_of_length_le (Nat.le_refl _),List.take_of_length_le (by omega)]
theorem gi {α:Type} (l:List α) (k:Nat):dR l (some (k:Int)) none=l.drop k:=by
 unfold dR
 rw [HT.sIx_nat]
 show (l.drop (min k l.length)).take (l.length - min k l.length)=l.drop k
 by_cases h:k<=l.length
 .rw [Nat.min_eq_left h,List.take_of_length_le (by rw [List.length_drop];exact Nat.le_refl _)]
 .rw [Nat.min_eq_right (by omega),Nat.sub_self,List.take_zero,List.drop_eq_nil_of_le (by omega)]
theorem vw {α:Type} (l:List α) (i j:Nat):dR l (some (i:Int)) (some (j:Int))=(l.drop i).take (j - i):=by
 unfold dR
 rw [HT.sIx_nat,HT.sIx_nat]
 by_cases h:i<=l.length
 .rw [Nat.min_eq_left h]
  by_cases h2:j<=l.length
  .rw [Nat.min_eq_left h2]
  .rw [Nat.min_eq_right (by omega),List.take_of_length_le (by rw [List.length_drop];omega),List.take_of_length_le (by rw [List.length_drop];omega)]
 .have e:min i l.length=l.length:=Nat.min_eq_right (by omega)
  rw [e,List.drop_eq_nil_of_le (Nat.le_refl _),List.drop_eq_nil_of_le (by omega),List.take_nil,List.take_nil]
section
variable {X:Cx}
def FG:V->Option Int->Option Int->Hp->VK->Prop:=fun x lo hi H Q=>∃l,x=.str (S l)/\l.length<=sizeLine/\Q (.str (S (dR l lo hi))) H
theorem CM:SlR X FG:=by
 intro pins s σ H x v vl vu lo hi sl Q I rx hs pl pu h
 obtain⟨l,rfl,hz,q⟩:=h
 obtain⟨t,rfl⟩:=rx
 refine⟨"str",_,slot_str_getitem.lookup,typeIs_str s _ t,?_⟩
 obtain⟨l',hl',el⟩:∃l':Option (Int×Tok),vl=partValue l'/\l'.map (·.1)=lo:=by
  cases pl with
 |none=>exact⟨none,rfl,rfl⟩
 |int i t=>exact⟨some (i,t),rfl,rfl⟩
 obtain⟨u',hu',eu⟩:∃l':Option (Int×Tok),vu=partValue l'/\l'.map (·.1)=hi:=by
  cases pu with
 |none=>exact⟨none,rfl,rfl⟩
 |int i t=>exact⟨some (i,t),rfl,rfl⟩
 subst hl' hu'
 refine wpAny_getItem_str_slice (l:=l') (u:=u') (st:=none) hs rfl ?_
 have hm:∀t' k,EP X pins σ Q (.str (Txt.slice (S l) lo hi) t') { s with toks:=k }:=fun t' k=>⟨.str (S (dR l lo hi)),H,I.tok _,⟨t',by rw [Au]⟩,q⟩
 have hlen:(Txt.slice (S l) lo hi).length<=sizeLine:=Nat.le_trans (Txt.slice_le _ _ _) (by rw [gU];exact hz)
 subst el eu
 exact post_val_or_str ⟨hlen,hm⟩
def kA {α:Type} (l:List α) (n:Int):List α:=(List.replicate n.toNat l).flatten
theorem vx (k:Nat) (l acc:List Nat):(List.replicate k l.toArray).foldl (·++·) acc.toArray=(acc++(List.replicate k l).flatten).toArray:=by
 induction k generalizing acc with
|zero=>simp
|succ k ih =>
  rw [List.replicate_succ,List.foldl_cons,List.append_toArray,ih (acc++l),List.replicate_succ,List.flatten_cons,List.append_assoc]
theorem EJ (l:List Nat) (n:Int):Txt.mul (S l) n=S (kA l n):=by
 unfold Txt.mul kA
 by_cases h:n<1
 .rw [if_pos h]
  have:n.toNat=0:=by omega
  rw [this];rfl
 .rw [if_neg h]
  split
  .rename_i h2
   rw [gU] at h2
   simp only [Bool.or_eq_true,beq_iff_eq] at h2
   rcases h2 with h2|h2
   .subst h2;simp [S]
   .have:l=[]:=List.length_eq_zero_iff.mp h2
    subst this;simp [S]
  .have e:=vx n.toNat l []
   show (⟨_⟩:Str)=_
   have e':(List.replicate n.toNat (S l).cps).foldl (·++·) #[]=((List.replicate n.toNat l).flatten).toArray:=by
    simpa [S] using e
   rw [e'];rfl
theorem fk {α:Type} (l:List α) (n:Int):(kA l n).length=n.toNat*l.length:=by
 unfold kA
 rw [List.length_flatten,List.map_replicate,List.sum_replicate_nat]
theorem t9:OpR X (binaryOp .Mult) (fun x y H Q=>∃l n,x=.str (S l)/\y=.int n/\-1000000<=n/\n<=1000000/\n.toNat*l.length<=sizeLine/\Q (.str (S (kA l n))) H):=by
 intro pins s σ H x y v u Q I rx ry h
 obtain⟨l,n,rfl,rfl,h1,h2,hz,q⟩:=h
 obtain⟨t,rfl⟩:=rx
 obtain⟨t',rfl⟩:=ry
 have hs:sizeLine=16777216:=sizeLine_eq
 have hz':n.toNat*l.length<=16777216:=by rw [<- hs];exact hz
 refine SB.mul ⟨?_,fun hn hc=>?_,fun hn hc=>?_⟩ fun t' k=>⟨.str (S (kA l n)),H,I.tok _,⟨t',by rw [EJ]⟩,q⟩
 .rw [decide_eq_false (by omega),decide_eq_false (by omega)];rfl
 .rw [gU]
  intro hgt
  have hl:l.length<=16777216:=by
   have:1*l.length<=n.toNat*l.length:=Nat.mul_le_mul_right _ (by omega)
   omega
  have hdiv:(2^63 - 1:Int) / 1000000<=(2^63 - 1) / n:=by
   apply Int.le_ediv_of_mul_le (by omega)
   have:=Int.mul_le_mul_of_nonneg_left h2 (show (0:Int)<=(2^63 - 1) / 1000000 by decide)
   have e2:((2^63 - 1:Int) / 1000000)*1000000<=2^63 - 1:=by decide
   omega
  have e3:(2^63 - 1:Int) / 1000000=9223372036854:=by decide
  omega
 .rw [gU]
  have:l.length*n.toNat<=16777216:=by rw [Nat.mul_comm];exact hz'
  exact decide_eq_false (by omega)
theorem vy:OpR X (compareOp .LtE) (fun x y H Q=>∃i j,x=.str i/\y=.str j/\Q (.bl (!decide (j.cps.toList<i.cps.toList))) H):=by
 intro pins s σ H x y v u Q I rx ry h
 obtain⟨i,j,rfl,rfl,q⟩:=h
 obtain⟨t,rfl⟩:=rx
 obtain⟨t',rfl⟩:=ry
 exact PySem.P.le_str ⟨.bl _,H,I,rfl,q⟩
end
def Its (xs:List V):It:=⟨fun i _=>i<xs.length,fun i H x H'=>H'=H/\xs[i]?=some x,fun i _=>xs.length=i⟩
theorem vz {M:Model}{A:Around}{E:Value->Shared->Prop}{s:Shared}{tg:Expr}{it:Addr}{u:Value}{Q:Unit->Shared->Prop} (hu:∀a,u≠.ref a) (hQ:Q () s):wpAny M A (letOwnedTupleGo tg (.ref it) u) Q E s:=by
 unfold letOwnedTupleGo
 cases tg <;> first
 |exact wpAny_pure hQ
  | (cases u <;> first
   |exact wpAny_pure hQ
   |exact absurd rfl (hu _))
theorem kB {P:Program}{w:World}{K:PySem.W.Frag}{tg:Expr}{it:Addr}{xs:List V}{n:Nat}{Pt:Nat->Value->Prop}{St:Nat->Heap->Prop}
  (W:∀A:Around,A.handled=none->Walks P w A it [it] [it] n Pt St) (hn:xs.length=n)
  (hv:∀i v,i<n->Pt i v->∃x,xs[i]?=some x/\dh x v) (hsc:∀i v,Pt i v->∀a,v≠.ref a)
  (hobj:∀i h,St i h->∃o,h.get? it=some o/\∀v,o.data≠.cell v)
  (hfr:∀i h h',St i h->(∀b∈[it],∀o,h.get? b=some o->h'.get? b=some o)->St i h')
  (hself:∀(A:Around) (i:Nat) (s:Shared) (Q:Value->Shared->Prop) (E:Value->Shared->Prop),St i s.heap->Q (.ref it) s->wpAny (model P w) A (pyIter (.ref it)) Q E s) :
  BU P w K tg (Its xs) [it] it St where
 mem:=by simp
 obj:=fun i h st b hb=>by
  have e:b=it:=by simpa using hb
  subst e
  exact hobj i h st
 keep:=fun i h h' st k=>hfr i h h' st k
 item:=by
  intro X hP hw hK hc i pins s σ H E I hf st hg
  subst hP hw hK
  obtain⟨f0,f1,f2,f3,f4,f5⟩:=hf it (by simp)
  refine (W X.A (I.ok.hd hc)).item i s _ _ (by rw [<- hn];exact hg) st fun v h' tk hp st' kk=>?_
  obtain⟨x,hx,rx⟩:=hv i v (by rw [<- hn];exact hg) hp
  have I1:Inv X pins σ H { s with heap:=h',toks:=tk }:=I.turned (fun b o hb e=>kk b o (by simpa using hb) e) f0 f1 f3 f4 f5
  exact⟨v,rfl,vz (s:={ s with heap:=h',toks:=tk }) (hsc i v hp) ⟨x,H,I1,rx,⟨rfl,hx⟩,st',fun b hb=>(hf b hb).1⟩⟩
 done:=by
  intro X hP hw hK hc i pins s σ H E I hf st hg
  subst hP hw hK
  obtain⟨f0,f1,f2,f3,f4,f5⟩:=hf it (by simp)
  have e:n=i:=hn.symm.trans hg
  subst e
  exact (W X.A (I.ok.hd hc)).done s _ _ st fun h' tk kk=>⟨rfl,I.turned (fun b o hb e=>kk b o (by simpa using hb) e) f0 f1 f3 f4 f5⟩
 self:=hself
section
variable {X:Cx}{tg:Expr}
def gj (l:List Nat):List V:=l.map fun c=>V.str (S [c])
theorem ua {l:List Nat}{i:Nat}{x:V} (h:(gj l)[i]?=some x):∃c,l[i]?=some c/\x=.str (S [c]):=by
 unfold gj at h
 rw [List.getElem?_map] at h
 cases e:l[i]? with
|none=>rw [e] at h;cases h
|some c=>rw [e] at h;exact⟨c,rfl,(Option.some.inj h).symm⟩
theorem ja (l:List Nat):(gj l).length=l.length:=List.length_map _
def ng (i:Int) (n:Nat):List V:=(List.range n).map fun (k:Nat)=>V.int (i - k)
theorem kC (i:Int) (n:Nat):(ng i n).length=n:=by simp [ng]
theorem vA {i:Int}{n k:Nat}{x:V} (h:(ng i n)[k]?=some x):k<n/\x=.int (i - k):=by
 unfold ng at h
 rw [List.getElem?_map] at h
 by_cases hk:k<n
 .rw [List.getElem?_range hk] at h
  exact⟨hk,(Option.some.inj h).symm⟩
 .rw [List.getElem?_eq_none (by simp;omega)] at h
  cases h
def CN (ta:TA):TI:=fun σ H R=>ta σ H fun vs H1=>∃i j:Int,vs=[.int i,.int j,.int (-1)]/\(-(2^60)<=i/\i<2^60/\-(2^60)<=j/\j<2^60)/\R (Its (ng i (i - j).toNat)) H1
theorem gY (i j:Int):Builtin.Range.rangeSize i j (-1)=(((i - j).toNat:Nat):Int):=by
 unfold Builtin.Range.rangeSize
 rw [if_neg (by decide)]
 simp only [Int.neg_neg,Int.ediv_one]
 split <;> omega
theorem oV {a b c:Expr}{ta:TA}{p pos:Pos} (hg:Gl X "range") (hm:X.mg "range"=none) (ha:PA X [a,b,c] ta)
  (hs:starEach [a,b,c] X.env=[(false,eval a X.env),(false,eval b X.env),(false,eval c X.env)]:=by rfl) (hs2:starEach [b,c] X.env=[(false,eval b X.env),(false,eval c X.env)]:=by rfl) :
  PI X tg (.Call (.Name "range" p) [a,b,c] [] pos) (CN ta):=by
 intro pins s σ H R I h
 refine Call_ (gc I hg hm boot_range (PyProof.Rows.callWith_type1 (thn (ha pos pins s σ H _ I h) fun us s1 ⟨vs,H1,I1,r1,q1⟩=>?_) (by rw [hs,hs2]) (by rw [hs2];rfl)))
 obtain⟨i,j,e,⟨q1,q2,q3,q4⟩,q⟩:=q1
 subst e
 cases r1 with
|cons r rr =>
  cases rr with
 |cons r' rr =>
   cases rr with
  |cons r'' rr =>
    cases rr
    obtain⟨t,rfl⟩:=r
    obtain⟨t',rfl⟩:=r'
    obtain⟨t'',rfl⟩:=r''
    refine call_range_3 (by decide) ?_ (.inl (PyProof.noPylong_small (by decide)))
    refine wpAny_pyIter_range (IsRange.new ..) ?_ ?_
    .unfold Builtin.Range.small
     rw [gY]
     simp only [Builtin.Range.rangeFitsLong,Bool.and_eq_true,Bool.or_eq_true,decide_eq_true_eq,beq_iff_eq,show ¬ (-1:Int) > 0 by decide,if_false]
     omega
    have I2:Inv X pins σ H1 { s1 with heap:=s1.heap.push { cls:=.type "range",data:=.fields #[.int i t,.int j t',.int (-1) t''] },toks:=s1.toks }:=I1.kept fun b o e=>Heap.get?_push_of_some _ e
    refine⟨_,[(s1.heap.push { cls:=.type "range",data:=.fields #[.int i t,.int j t',.int (-1) t''] }).objs.size],_,Its (ng i (i - j).toNat),H1,rfl,I2.kept (t':=s1.toks) fun b o e=>Heap.get?_push_of_some _ e,
     kB (fun A hA=>Walks.range hA _ i (-1) (i - j).toNat) (kC _ _) ?_ ?_ ?_ ?_ (fun A i s Q E st q=>wpAny_pyIter_rangeiter st q),?_,fun b hb=>?_,q⟩
    .rintro k v hk ⟨t,rfl⟩
     refine⟨.int (i - k),?_,t,?_⟩
     .unfold ng
      rw [List.getElem?_map,List.getElem?_range hk];rfl
     .have e:i+(k:Int)*(-1)=i - k:=by omega
      rw [e]
    .rintro k v ⟨t,rfl⟩ a z
     cases z
    .exact fun k h st=>⟨_,st,fun v z=>by
      have z':Data.fields _=Data.cell v:=z
      cases z'⟩
    .exact fun k h h' st kk=>kk _ (by simp) _ st
    .show IsRangeIter _ _ (i+((0:Nat):Int)*(-1)) ((((i - j).toNat:Nat):Int) - ((0:Nat):Int)) (-1)
     rw [<- gY]
     simp only [Int.natCast_zero,Int.zero_mul,Int.add_zero,Int.sub_zero]
     exact Heap.get?_push_size _ rfl
    .have e:b=(s1.heap.push { cls:=.type "range",data:=.fields #[.int i t,.int j t',.int (-1) t''] }).objs.size:=by simpa using hb
     subst e
     exact I2.fpOk (Nat.le_refl _) (I2.hok.fresh (Nat.le_refl _))
end
section
variable {X:Cx}
theorem qH:cw X (.builtin "isinstance") (fun xs H Q=>∃x n t b,xs=[x,.ty n]/\oz X.K H x t/\PySem.W.kitOne X.K t (.type n)=some b/\Q (.bl b) H):=by
 intro pins s σ H xs us Q I r h
 obtain⟨x,n,t,b,rfl,ty,e,q⟩:=h
 obtain⟨u,w',rfl,rx,ry⟩:=Ab r
 cases (show w'=Value.type n from ry)
 exact va I rx ty e fun tk=>⟨.bl b,H,I.tok _,rfl,q⟩
mutual
inductive DV (K:PySem.W.Frag) (H:Hp):V->PyData->Prop
|non:DV K H .non .none
|bl (b:Bool):DV K H (.bl b) (.bool b)
|int (i:Int):DV K H (.int i) (.int i)
|str (x:Str):DV K H (.str x) (.str x)
|lst {a:Addr}{xs:List V}{ds:List PyData}:SqL K H a xs->DVs K H xs ds->DV K H (.ref a) (.list ds)
|tup {a:Addr}{xs:List V}{ds:List PyData}:SqT K H a xs->DVs K H xs ds->DV K H (.ref a) (.tuple ds)
inductive DVs (K:PySem.W.Frag) (H:Hp):List V->List PyData->Prop
|nil:DVs K H [] []
|cons {x:V}{d:PyData}{xs:List V}{ds:List PyData}:DV K H x d->DVs K H xs ds->DVs K H (x::xs) (d::ds)
end
mutual
theorem DV.reads {pins:List (Addr×Obj)}{σ:St}{H:Hp}{s:Shared} (I:Inv X pins σ H s):∀{x:V}{d:PyData}{u:Value},DV X.K H x d->dh x u->∃as,Reads s.heap u d as
|_,_,u,.non,r=>by cases (show u=Value.none from r);exact⟨_,.none⟩
|_,_,u,.bl b,r=>by cases (show u=Value.bool b from r);exact⟨_,.bool b⟩
|_,_,u,.int i,r=>by obtain⟨t,e⟩:=(show ∃t,u=Value.int i t from r);subst e;exact⟨_,.int i t⟩
|_,_,u,.str x,r=>by obtain⟨t,e⟩:=(show ∃t,u=Value.str x t from r);subst e;exact⟨_,.str x t⟩
|_,_,u,.lst (a:=a) hq hs,r=>by
  cases (show u=Value.ref a from r)
  obtain⟨its,rv,pl,_⟩:=I.list hq
  obtain⟨o,ho,hc,n,hd⟩:=pl.isList
  obtain⟨as,ra⟩:=DVs.reads I hs rv
  exact⟨_,.list ho hc hd ra⟩
|_,_,u,.tup (a:=a) hq hs,r=>by
  cases (show u=Value.ref a from r)
  obtain⟨its,rv,pl,_⟩:=I.tuple hq
  obtain⟨o,ho,hc,n,hd⟩:=pl
  obtain⟨as,ra⟩:=DVs.reads I hs rv
  exact⟨_,.tuple ho hc hd ra⟩
theorem DVs.reads {pins:List (Addr×Obj)}{σ:St}{H:Hp}{s:Shared} (I:Inv X pins σ H s):∀{xs:List V}{ds:List PyData}{us:List Value},DVs X.K H xs ds->bW xs us->∃as,ReadsAll s.heap us ds as
|_,_,_,.nil,.nil=>⟨_,.nil⟩
|_,_,_,.cons h hs,.cons r rs=>by
  obtain⟨as,ra⟩:=DV.reads I h r
  obtain⟨bs,rb⟩:=DVs.reads I hs rs
  exact⟨_,.cons ra rb⟩
end
def EK (K:PySem.W.Frag) (neg:Bool):R2:=fun x y H Q=>∃da db,DV K H x da/\DV K H y db/\SeqAt.shaped da=true/\SeqAt.shaped db=true/\Q (.bl (if neg then !PyData.eqv da db else PyData.eqv da db)) H
theorem CO (hu:X.A.units+64<cLine):OpR X (compareOp .Eq) (EK X.K false):=by
 intro pins s σ H x y v u Q I rx ry h
 obtain⟨da,db,ha,hb,sa,sb,q⟩:=h
 obtain⟨as,ra⟩:=DV.reads I ha rx
 obtain⟨bs,rb⟩:=DV.reads I hb ry
 exact eq_dataH ra rb sa sb hu ⟨.bl _,H,I,rfl,q⟩
theorem CP (hu:X.A.units+64<cLine):OpR X (compareOp .NotEq) (EK X.K true):=by
 intro pins s σ H x y v u Q I rx ry h
 obtain⟨da,db,ha,hb,sa,sb,q⟩:=h
 obtain⟨as,ra⟩:=DV.reads I ha rx
 obtain⟨bs,rb⟩:=DV.reads I hb ry
 exact ne_dataH ra rb sa sb hu ⟨.bl _,H,I,rfl,q⟩
theorem DVs.ints {K:PySem.W.Frag}{H:Hp}:∀ns:List Int,DVs K H (ns.map V.int) (ns.map PyData.int)
|[]=>.nil
|n::ns=>.cons (.int n) (DVs.ints ns)
theorem kE:∀ns ms:List Int,PyData.eqvAll (ns.map PyData.int) (ms.map PyData.int)=decide (ns=ms)
|[],[]=>by simp [PyData.eqvAll]
|[],_::_=>by simp [PyData.eqvAll]
|_::_,[]=>by simp [PyData.eqvAll]
|a::r,b::t=>by
  simp only [List.map_cons,PyData.eqvAll,PyData.eqv,kE r t]
  by_cases h:a=b <;> by_cases h':r=t <;> simp [h,h']
theorem qI:MtR X "str.endswith" (fun x xs H Q=>∃a b,x=.str (S a)/\xs=[.str (S b)]/\Q (.bl (decide (b <:+ a))) H):=by
 intro pins s σ H x xs v us Q I rx rs h
 obtain⟨a,b,rfl,rfl,q⟩:=h
 obtain⟨t,rfl⟩:=rx
 obtain⟨u,rfl,t',rfl⟩:=gT rs
 have e:Txt.endswith (S a) (S b)=decide (b <:+ a):=by
  unfold Txt.endswith Builtin.Str.subAt
  rw [gU,gU]
  have e1:((S a).cps.extract (a.length - b.length) (a.length - b.length+b.length))=((a.drop (a.length - b.length)).take b.length).toArray:=by
   show a.toArray.extract _ _=_
   rw [List.extract_toArray,List.extract_eq_take_drop]
   have e2:a.length - b.length+b.length - (a.length - b.length)=b.length:=by omega
   rw [e2]
  rw [e1]
  by_cases h:b <:+ a
  .rw [decide_eq_true h]
   have hl:=h.length_le
   have hd:a.drop (a.length - b.length)=b:=(List.suffix_iff_eq_drop.mp h).symm
   rw [hd]
   simp [S,hl]
  .rw [decide_eq_false h]
   by_cases hl:b.length<=a.length
   .have hne:¬ (a.drop (a.length - b.length)).take b.length=b:=fun z=>h (by
     rw [List.take_of_length_le (by rw [List.length_drop];omega)] at z
     exact List.suffix_iff_eq_drop.mpr z.symm)
    simp only [Bool.and_eq_false_imp]
    intro _
    show (((a.drop (a.length - b.length)).take b.length).toArray == b.toArray)=false
    rw [beq_eq_false_iff_ne]
    intro z
    exact hne (by simpa using congrArg Array.toList z)
   .rw [decide_eq_false (by omega)];rfl
 exact SC.endswith ⟨.bl _,H,I,rfl,by rw [e];exact q⟩
end
section
variable {X:Cx}{a b:Expr}{ta tb:TE}{pos:Pos}
theorem dD {x:Str}{l:List Nat}{j:Nat} (h:x=S l):PE X (.Constant (.str x) j pos) (tC (.str (S l))):=by
 subst h
 exact Ca
theorem vB:cw X (.builtin "len") (fun xs H Q=>∃l,xs=[.str (S l)]/\l.length<=sizeLine/\Q (.int l.length) H):=by
 intro pins s σ H xs us Q I r h
 obtain⟨l,rfl,hz,q⟩:=h
 exact oP pins s σ H _ us Q I r ⟨S l,rfl,by rw [gU];exact hz,by rw [gU];exact q⟩
def CQ:R2:=fun x y H Q=>∃l i c,x=.str (S l)/\y=.int i/\l.length<=sizeLine/\atI l i=some c/\Q (.str (S [c])) H
theorem Av:IxR X CQ:=by
 intro value slice pins s σ H x y v u Q I rx ry q hs
 obtain⟨l,i,c,rfl,rfl,hz,ha,q⟩:=q
 exact CC value slice pins s σ H _ _ v u Q I rx ry ⟨S l,i,c,rfl,rfl,by rw [gU];exact hz,ha,q⟩ hs
theorem Aw:OpR X (binaryOp .Add) (fun x y H Q=>∃i j,x=.str (S i)/\y=.str (S j)/\i.length+j.length<=sizeLine/\Q (.str (S (i++j))) H):=by
 intro pins s σ H x y v u Q I rx ry h
 obtain⟨i,j,rfl,rfl,hz,q⟩:=h
 exact tU pins s σ H _ _ v u Q I rx ry ⟨S i,S j,rfl,rfl,by rw [gU,gU];exact hz,by rw [EI];exact q⟩
theorem CS:OpR X (compareOp .Eq) (fun x y H Q=>∃i j,x=.str (S i)/\y=.str (S j)/\Q (.bl (decide (i=j))) H):=by
 intro pins s σ H x y v u Q I rx ry h
 obtain⟨i,j,rfl,rfl,q⟩:=h
 exact Ez pins s σ H _ _ v u Q I rx ry ⟨rfl,by rw [CK];exact q⟩
theorem CT:OpR X (compareOp .NotEq) (fun x y H Q=>∃i j,x=.str (S i)/\y=.str (S j)/\Q (.bl (!decide (i=j))) H):=by
 intro pins s σ H x y v u Q I rx ry h
 obtain⟨i,j,rfl,rfl,q⟩:=h
 exact EA pins s σ H _ _ v u Q I rx ry ⟨rfl,by rw [CK];exact q⟩
theorem CU:OpR X (compareOp .Eq) (rI0 fun i j=>.bl (decide (i=j))):=BV fun _ _ _ _ _ _ _ q=>eq_int (by rw [Bool.beq_eq_decide_eq];exact q)
theorem CV:OpR X (compareOp .NotEq) (rI0 fun i j=>.bl (!decide (i=j))):=BV fun _ _ _ _ _ _ _ q=>ne_int (by rw [bne,Bool.beq_eq_decide_eq];exact q)
theorem vC:cw X (.builtin "len") (fun xs H Q=>∃p ys,xs=[.ref p]/\SqL X.K H p ys/\Q (.int ys.length) H):=by
 intro pins s σ H xs us Q I r h
 obtain⟨p,ys,e,hq,q⟩:=h
 exact jC pins s σ H xs us Q I r ⟨p,ys,e,.inl hq,q⟩
theorem vD:cw X (.builtin "len") (fun xs H Q=>∃p ys,xs=[.ref p]/\SqT X.K H p ys/\Q (.int ys.length) H):=by
 intro pins s σ H xs us Q I r h
 obtain⟨p,ys,e,hq,q⟩:=h
 exact jC pins s σ H xs us Q I r ⟨p,ys,e,.inr hq,q⟩
end
structure Cal (P:Program) (w:World) (K:PySem.W.Frag) (mg:Str->Option Value) (base:Heap) (k:Nat) (x:Str) (ps:List Str) (sp:Sp):Prop where
 ex:∃(f:Addr) (fd:FuncData),m7 P w K mg base CX0 k f fd ps sp/\jY K fd ps []/\PySem.W.keepIn K (.ref f)=true/\mg x=some (.ref f)/\∃oc od osl,K.lookup f=some ⟨oc,od,.func fd,osl⟩
structure cN (K:PySem.W.Frag) (mg:Str->Option Value) (x:Str) (st:Stmt):Prop where
 ex:∃(f:Addr) (fd:FuncData),Fun K x x st f fd/\mg x=some (.ref f)
section
variable {P:Program}{w:World}{K:PySem.W.Frag}{mg:Str->Option Value}{base:Heap}{x:Str}{st:Stmt}{N ps:List Str}{k:Nat}{sp:Sp}
theorem cN.ok (D:cN K mg x st) (S:aO N ps (ar st))
  (hb:∀(kV doc pm:Value) (an:Option Addr) (cdv ct:Value) (us:List Value),us.length=ps.length->bindArgs (PySem.W.fnOf x x (cY st) (ci st) (ar st) .none kV doc pm an cdv ct) ⟨us,[]⟩=pure (ps.zip us))
  (len:∀vs H Q E,sp vs H Q E->vs.length=ps.length)
  (hbody:∀(f:Addr) (cdv:Value) (A:Around) (outer:List Env) (s:Shared) (H:Hp) (vs:List V) (Q:VK) (E:XK),gh k (A.deeper (envOfC x (ar st) s.heap.objs.size f cdv))->sp vs H Q E ->
   ∃t,PSs (xA CX0 P w K mg base N x (ar st) f cdv A outer s H E).nox (ci st) t/\t { nx:=fun _ H'=>Q .non H',rt:=Q } (start N vs) H):Cal P w K mg base (k+1) x ps sp:=by
 obtain⟨f,fd,F,hm⟩:=D.ex
 have lk:∃oc od osl,K.lookup f=some ⟨oc,od,.func fd,osl⟩:=by
  obtain⟨oc,od,kV,doc,pm,an,cdv,ct,osl,rfl,lk,hcd⟩:=F.ex
  exact⟨oc,od,osl,lk⟩
 exact⟨f,fd,F.ok S len fun cdv A outer s H vs Q E hr h=>hbody f cdv A outer s H vs Q E hr h,F.binds hb,F.kp,hm,lk⟩
theorem cN.mk' {K:PySem.W.Frag}{h:Heap}{mg:Str->Option Value}{x:Str}{st:Stmt}{f:Addr}{oc:Value}{od an:Option Addr}{osl:Array (Option Value)}{kV doc pm cdv ct:Value} (X:K.In h) (G:h.Ns mainGlobals mg)
  (a:PySem.W.nsIn K mainGlobals x=some (some (.ref f))) (l:K.lookup f=some ⟨oc,od,.func (PySem.W.fnOf x x (cY st) (ci st) (ar st) .none kV doc pm an cdv ct),osl⟩)
  (c:PySem.W.codeIn K cdv x=true) (k:PySem.W.keepIn K (.ref f)=true):cN K mg x st:=⟨f,_,vq (st:=st) l c k,PySem.W.mg_of X G a⟩
end
section
variable {X:Cx}{k:Nat}{x:Str}{ps:List Str}{sp:Sp}{p pos:Pos}{e:Expr}{es:List Expr}{t:TA}
theorem CW (C:Cal X.prog X.w X.K X.mg X.base k x ps sp) (hr:gh k X.A) (ha:PA X (e::es) t) (hg:Gl X x:=by rfl) (hdb:(x == ("__debug__":Str))=false:=by decide) (he:starEach (e::es) X.env=(false,eval e X.env)::starEach es X.env:=by rfl)
  (hpl:(backTo pos (starEach es X.env)).any (·.1)=false:=by rfl):PE X (.Call (.Name x p) (e::es) [] pos) (eB sp [] E0 t):=by
 obtain⟨f,fd,F,hb,hk,hm,_⟩:=C.ex
 exact vc F hr hg hm hk hb .nil xR ha hdb he hpl
end
def ub (K:PySem.W.Frag):Sp:=fun vs H Q _=>∃(a:Addr) (ns:List Int),vs=[.ref a]/\SqL K H a (ns.map V.int)/\ns.length<=63/\∀H',Q (.bl true) H'
theorem CY {P:Program}{w:World}{K:PySem.W.Frag}{mg:Str->Option Value}{fa:Addr}{st:Stmt}{k:Nat}{x:Str} (hfa:mg "law"=some (.ref fa)) (D:cN K mg "law" st)
  (hbind:∀(kV doc pm:Value) (an:Option Addr) (cdv ct:Value) (s:Shared) (v:Value),BindsTo s (PySem.W.fnOf "law" "law" (cY st) (ci st) (ar st) .none kV doc pm an cdv ct) ⟨[v],[]⟩ [(x,v)])
  (h:∀base:Heap,Cal P w K mg base k "law" [x] (ub K)) :
  ∃fd:FuncData,(∀(s:Shared) (v:Value),BindsTo s fd ⟨[v],[]⟩ [(x,v)])/\∀base:Heap,K.In base->base.Ns mainGlobals mg->m7 P w K mg base CX0 k fa fd [x] (ub K):=by
 obtain⟨f,fd,F,hm⟩:=D.ex
 have e:=hfa.symm.trans hm
 cases e
 obtain⟨oc,od,kV,doc,pm,an,cdv,ct,osl,rfl,lk,hcd⟩:=F.ex
 refine⟨_,fun s v=>hbind kV doc pm an cdv ct s v,fun base kb nb=>?_⟩
 obtain⟨f',fd',F',_,_,hm',oc',od',osl',lk'⟩:=(h base).ex
 have e:=hfa.symm.trans hm'
 cases e
 rw [lk] at lk'
 cases lk'
 exact F'
theorem CZ {l:PySem.W.OpenLaw}{q:Program}{loose:List Str}{XP:(Str->Option Value)->Heap->Prop}{YP:World->Heap->Prop}{d:DefRec}{K:Params->PySem.W.Frag}{k:Nat}{x:Str} (hn:l.most=some 63) (hdf:d.params.defaults=[]) (hr:gh k callerA)
  (hY:∀(w:World) (h:Heap),YP w h->(K w.params).In h)
  (F:∀(w:World) (mg:Str->Option Value) (fa:Addr) (h:Heap),(K w.params).In h->h.Ns mainGlobals mg->mg d.name=some (.ref fa) ->
   ∃fd:FuncData,(∀(s:Shared) (u:Value),BindsTo s fd ⟨[u],[]⟩ [(x,u)])/\∀base:Heap,(K w.params).In base->base.Ns mainGlobals mg->m7 l.prog w (K w.params) mg base CX0 k fa fd [x] (ub (K w.params))) :
  PySem.W.WalkO q loose XP YP l.row.toRowW d [] (fun f vs=>PySem.call f vs) :=
 At (n:=63) (k:=k) (x:=x) (CX:=fun _=>CX0) (sp:=fun w=>ub (K w.params)) hn (by decide) hdf hr hY F (fun _ _ a ns hl _ hS=>⟨a,ns,rfl,hS,hl,fun _=>rfl⟩) fun _ _ _ _ _ z=>z
theorem Ax {α β:Type}{f:α->β}{xs:List α}{i:Int}{v:α} (h:atI xs i=some v):atI (xs.map f) i=some (f v):=by
 unfold atI at h ⊢
 rw [List.length_map]
 cases e:ixN xs.length i with
|none=>rw [e] at h;cases h
|some j =>
  rw [e] at h
  show (xs.map f)[j]?=some (f v)
  have h':xs[j]?=some v:=h
  rw [List.getElem?_map,h'];rfl
theorem iJ {α:Type}{xs:List α}{i:Int}{j:Nat}{v:α} (h:xs[j]?=some v) (e:i=(j:Int)):atI xs i=some v:=by subst e;exact An h
theorem sz (n:Nat) (h:n<=1000000):n<=sizeLine:=by rw [sizeLine_eq];omega
theorem xS {ns:List Int}{i:Nat}{x:V} (h:(ns.map V.int)[i]?=some x):∃z,ns[i]?=some z/\x=.int z:=by
 rw [List.getElem?_map] at h
 cases e:ns[i]? with
|none=>rw [e] at h;cases h
|some z=>rw [e] at h;exact⟨z,rfl,(Option.some.inj h).symm⟩
section
variable {X:Cx}{st:Stmt}{t:TS}
def Ay (t:TS):TS:=fun D σ H=>∃J:St->Hp->Prop,t { D with nx:=J } σ H/\∀σ' H',J σ' H'->D.nx σ' H'
theorem fm (h:PS X st t):PS X st (Ay t):=by
 intro pins s σ H D I q
 obtain⟨J,q1,q2⟩:=q
 refine thn (h pins s σ H _ I q1) fun f s' r=>?_
 cases f with
|next=>obtain⟨σ',H',I',r'⟩:=r;exact⟨σ',H',I',q2 σ' H' r'⟩
|brk=>exact r
|cont=>exact r
|ret u=>exact r
end
theorem xT {α β:Type} (f:α->β) (xs:List α) (lo hi:Option Int):dR (xs.map f) lo hi=(dR xs lo hi).map f:=by
 unfold dR
 rw [List.length_map,List.map_take,List.map_drop]
theorem qJ {α:Type} (l:List α):(dR l none (some (-1))).length=l.length - 1:=by
 unfold dR
 rw [List.length_take,List.length_drop]
 have e:HT.sIx l.length l.length (some (-1))=l.length - 1:=by
  show (if (-1:Int)<0 then (-1+(l.length:Int)).toNat else min (-1:Int).toNat l.length)=l.length - 1
  rw [if_pos (by decide)];omega
 have e0:HT.sIx l.length 0 none=0:=rfl
 rw [e,e0];omega
theorem ei {x:Str}{c:Addr}:∀(names:List (Str×NameKind)) (n:Nat) (acc:List (Str×Addr)),(cellsFrom n names acc).lookup x=some c->(n<=c/\(x,NameKind.cell)∈names)\/acc.lookup x=some c
|[],n,acc,h=>.inr h
 | (y,k)::r,n,acc,h=>by
  unfold cellsFrom at h
  split at h
  .rename_i hk
   have hk':k=.cell:=by simpa using hk
   subst hk'
   rcases ei r (n+1) ((y,n)::acc) h with ⟨h1,h2⟩|h1
   .exact .inl ⟨by omega,List.mem_cons_of_mem _ h2⟩
   .rw [List.lookup_cons] at h1
    cases e:x == y with
   |true =>
     rw [e] at h1
     have:n=c:=Option.some.inj h1
     have ex:x=y:=by simpa using e
     subst ex
     exact .inl ⟨by omega,List.mem_cons_self⟩
   |false=>rw [e] at h1;exact .inr h1
  .rcases ei r n acc h with ⟨h1,h2⟩|h1
   .exact .inl ⟨h1,List.mem_cons_of_mem _ h2⟩
   .exact .inr h1
theorem fo {x:Str}:∀(names:List (Str×NameKind)) (n:Nat) (acc:List (Str×Addr)),(x,NameKind.cell)∉names->(cellsFrom n names acc).lookup x=acc.lookup x
|[],_,_,_=>rfl
 | (y,k)::r,n,acc,h=>by
  unfold cellsFrom
  split
  .rename_i hk
   have hk':k=.cell:=by simpa using hk
   subst hk'
   rw [fo r (n+1) _ (fun z=>h (List.mem_cons_of_mem _ z)),List.lookup_cons]
   have:(x == y)=false:=by
    rw [beq_eq_false_iff_ne]
    intro e;subst e;exact h List.mem_cons_self
   rw [this]
  .exact fo r n acc (fun z=>h (List.mem_cons_of_mem _ z))
theorem ft {x y:Str}{c:Addr}:∀(names:List (Str×NameKind)) (n:Nat) (acc:List (Str×Addr)),(∀z d,acc.lookup z=some d->d<n) ->
  (cellsFrom n names acc).lookup x=some c->(cellsFrom n names acc).lookup y=some c->n<=c->x=y
|[],n,acc,ha,h1,h2,hc=>absurd (ha x c h1) (Nat.not_lt.mpr hc)
 | (z,k)::r,n,acc,ha,h1,h2,hc=>by
  unfold cellsFrom at h1 h2
  split at h1
  .rename_i hk
   rw [if_pos hk] at h2
   have ha':∀w d,((z,n)::acc).lookup w=some d->d<n+1:=fun w d e=>by
    rw [List.lookup_cons] at e
    cases q:w == z with
   |true=>rw [q] at e;cases e;exact Nat.lt_succ_self _
   |false=>rw [q] at e;exact Nat.lt_succ_of_lt (ha w d e)
   by_cases hcn:n+1<=c
   .exact ft r (n+1) _ ha' h1 h2 hcn
   .have e:c=n:=Nat.le_antisymm (Nat.not_lt.mp hcn) hc
    subst e
    have key:∀w:Str,(cellsFrom (c+1) r ((z,c)::acc)).lookup w=some c->w=z:=fun w hw=>by
     rcases ei r (c+1) _ hw with ⟨q,_⟩|q
     .exact absurd q (Nat.not_succ_le_self _)
     .rw [List.lookup_cons] at q
      cases q2:w == z with
     |true=>simpa using q2
     |false=>rw [q2] at q;exact absurd (ha w c q) (Nat.lt_irrefl _)
    rw [key x h1,key y h2]
  .rename_i hk
   rw [if_neg hk] at h2
   exact ft r n acc ha h1 h2 hc
def ir (env:Env):List (Str×NameKind)->List (Str×Addr)->List (Str×Addr)
|[],acc=>acc
 | (n,k)::r,acc=>if (k == .free)=true then ir env r ((n,(env.cells.lookup n).getD 0)::acc) else ir env r acc
theorem fu {env:Env}{x:Str}{c:Addr}:∀(names:List (Str×NameKind)) (acc:List (Str×Addr)),(ir env names acc).lookup x=some c->((x,NameKind.free)∈names/\c=(env.cells.lookup x).getD 0)\/acc.lookup x=some c
|[],acc,h=>.inr h
 | (y,k)::r,acc,h=>by
  unfold ir at h
  split at h
  .rename_i hk
   have hk':k=.free:=by simpa using hk
   subst hk'
   rcases fu r _ h with ⟨h1,h2⟩|h1
   .exact .inl ⟨List.mem_cons_of_mem _ h1,h2⟩
   .rw [List.lookup_cons] at h1
    cases e:x == y with
   |true =>
     rw [e] at h1
     have ex:x=y:=by simpa using e
     subst ex
     exact .inl ⟨List.mem_cons_self,(Option.some.inj h1).symm⟩
   |false=>rw [e] at h1;exact .inr h1
  .rcases fu r acc h with ⟨h1,h2⟩|h1
   .exact .inl ⟨List.mem_cons_of_mem _ h1,h2⟩
   .exact .inr h1
theorem iK {env:Env}{x:Str}:∀(names:List (Str×NameKind)) (acc:List (Str×Addr)),((x,NameKind.free)∈names\/(acc.lookup x).isSome=true)->((ir env names acc).lookup x).isSome=true
|[],acc,h=>h.elim (fun z=>nomatch z) id
 | (y,k)::r,acc,h=>by
  unfold ir
  split
  .rename_i hk
   refine iK r _ ?_
   by_cases e:(x == y)=true
   .exact .inr (by rw [List.lookup_cons,e];rfl)
   .rcases h with h|h
    .rcases List.mem_cons.mp h with z|z
     .cases z;exact absurd (by simp) e
     .exact .inl z
    .exact .inr (by rw [List.lookup_cons];rw [Bool.not_eq_true] at e;rw [e];exact h)
  .rename_i hk
   refine iK r acc ?_
   rcases h with h|h
   .rcases List.mem_cons.mp h with z|z
    .cases z;exact absurd rfl hk
    .exact .inl z
   .exact .inr h
theorem fT {scope:Scope}{env:Env} (h:∀x∈scope.names,x.2=.free->∃c,env.cells.lookup x.1=some c):closureFor scope env=pure (ir env scope.names []):=by
 unfold closureFor
 have key:∀(names:List (Str×NameKind)) (acc:List (Str×Addr)),(∀x∈names,x.2=.free->∃c,env.cells.lookup x.1=some c) ->
   (forIn names acc fun (x:Str×NameKind) (r:List (Str×Addr))=>(if (x.2 == NameKind.free)=true then do let y <- cellOf env x.1;pure (ForInStep.yield ((x.1,y)::r)) else pure (ForInStep.yield r):Sem _))=pure (ir env names acc):=by
  intro names
  induction names with
 |nil=>intro acc _;rfl
 |cons p r ih =>
   intro acc hp
   obtain⟨n,k⟩:=p
   rw [List.forIn_cons]
   have hr:∀x∈r,x.2=.free->∃c,env.cells.lookup x.1=some c:=fun x hx=>hp x (List.mem_cons_of_mem _ hx)
   unfold ir
   by_cases hk:(k == NameKind.free)=true
   .obtain⟨c,hc⟩:=hp (n,k) List.mem_cons_self (by simpa using hk)
    have hc':env.cells.lookup n=some c:=hc
    have e1:cellOf env n=pure c:=by unfold cellOf;rw [hc']
    simp only [hk,if_true]
    rw [e1,hc']
    simp only [pure_bind]
    exact ih _ hr
   .rw [if_neg hk,if_neg hk]
    simp only [pure_bind]
    exact ih _ hr
 have e:=key scope.names [] h
 have e2:∀(m:Sem (List (Str×Addr))),(m >>= fun r=>pure r)=m:=fun m=>bind_pure m
 rw [<- e]
 first
 |rfl
 |exact (e2 _)
def nh (scope:Scope) (C:Addr) (env:Env):Env :=
 { scope:=relabel scope env,locals:=C,globals:=env.globals,cells:=cellsFrom (C+1) scope.names (ir env scope.names []),qual:=env.qual,func:=none,code:=env.code,frame:=env.frame,builtins:=env.builtins }
def br (X:Cx) (N':List Str) (scope:Scope) (s:Shared) (H:Hp) (fp:List Addr) (pins:List (Addr×Obj)):Cx :=
 { X with N:=N',s₀:=s,H₀:=H,env:=nh scope s.heap.objs.size X.env,outer:=X.stack,stack:=X.stack,ex:=fp,fn:=fun x=>decide ((x,NameKind.cell)∈scope.names),pn:=X.pn++pins,xe:=fun _ _=>False }
def kF (sc0:Scope) (N:List Str) (scope:Scope) (N':List Str) (ix:List (Option Nat)):Bool :=
 decide (scope.kind=.function) && scope.names.all (fun y=>(!decide (y.2=.local) || decide (scope.names.lookup y.1=some .local)) &&
  (!decide (y.2=.free) || ((decide (sc0.names.lookup y.1=some .cell) || decide (sc0.names.lookup y.1=some .free)) && !decide ((y.1,NameKind.cell)∈scope.names)))) &&
 decide (N'.length=ix.length) && (N'.zip ix).all (fun p=>match p.2 with|none=>true|some j=>decide (N[j]?=some p.1) && decide (scope.names.lookup p.1=some .free))
structure se (env:Env) (N:List Str) (scope:Scope) (N':List Str) (ix:List (Option Nat)):Prop where
 kind:scope.kind=.function
 loc:∀y∈scope.names,y.2=.local->scope.names.lookup y.1=some .local
 free:∀y∈scope.names,y.2=.free->(env.kindOf y.1=some .cell\/env.kindOf y.1=some .free)/\(y.1,NameKind.cell)∉scope.names
 len:N'.length=ix.length
 slot:∀(i:Nat) (x:Str) (j:Nat),N'[i]?=some x->ix[i]?=some (some j)->N[j]?=some x/\scope.names.lookup x=some .free
theorem kG {env:Env}{N:List Str}{scope:Scope}{N':List Str}{ix:List (Option Nat)} (h:kF env.scope N scope N' ix=true):se env N scope N' ix:=by
 unfold kF at h
 simp only [Bool.and_eq_true,decide_eq_true_eq,List.all_eq_true] at h
 obtain⟨⟨⟨h1,h2⟩,h3⟩,h4⟩:=h
 refine⟨h1,fun y hy e=>?_,fun y hy e=>?_,h3,fun i x j e1 e2=>?_⟩
 .have:=(h2 y hy).1
  rw [e] at this
  simpa using this
 .have:=(h2 y hy).2
  rw [e] at this
  simpa [Env.kindOf] using this
 .have hm:(x,some j)∈N'.zip ix:=by
   refine List.mem_of_getElem? (i:=i) ?_
   rw [List.getElem?_zip_eq_some]
   exact⟨e1,e2⟩
  have:=h4 _ hm
  simpa using this
def rlf (env:Env) (p:Str×NameKind):Str×NameKind:=match p with|(n,k)=>if (k == NameKind.free && env.scope.kind == .function && env.kindOf n == some .cell) then (n,.cell) else (n,k)
theorem vE (env:Env) (n:Str) (k:NameKind):∃k',rlf env (n,k)=(n,k')/\(k'=k\/(k=.free/\k'=.cell)):=by
 unfold rlf
 by_cases c:(k == NameKind.free && env.scope.kind == .function && env.kindOf n == some .cell)=true
 .refine⟨.cell,if_pos c,.inr ⟨?_,rfl⟩⟩
  simp only [Bool.and_eq_true,beq_iff_eq] at c
  exact c.1.1
 .exact⟨k,if_neg c,.inl rfl⟩
theorem sf {env:Env}:∀{names:List (Str×NameKind)}{x:Str},names.lookup x=some .free->(names.map (rlf env)).lookup x=some .cell\/(names.map (rlf env)).lookup x=some .free
|[],_,h=>by simp at h
 | (n,k)::r,x,h=>by
  have ih:=@sf env r x
  obtain⟨k',e,hk'⟩:=vE env n k
  rw [List.map_cons,e]
  cases hx:x == n with
 |true =>
   simp only [List.lookup_cons,hx] at h ⊢
   have hk:k=.free:=Option.some.inj h
   rcases hk' with z|z
   .right;rw [z,hk]
   .left;rw [z.2]
 |false =>
   simp only [List.lookup_cons,hx] at h ⊢
   exact ih h
theorem nj {env:Env}:∀{names:List (Str×NameKind)}{x:Str}{k':NameKind},(names.map (rlf env)).lookup x=some k'->k'=.cell\/k'=.free->names.lookup x=some .cell\/names.lookup x=some .free
|[],_,_,h,_=>by simp at h
 | (n,k)::r,x,k',h,hk'=>by
  have ih:=@nj env r x k'
  obtain⟨k2,e,hk2⟩:=vE env n k
  rw [List.map_cons,e] at h
  cases hx:x == n with
 |true =>
   simp only [List.lookup_cons,hx] at h ⊢
   have:k2=k':=Option.some.inj h
   subst this
   rcases hk2 with z|z
   .rw [<- z]
    rcases hk' with q|q
    .left;rw [q]
    .right;rw [q]
   .right;rw [z.1]
 |false =>
   simp only [List.lookup_cons,hx] at h ⊢
   exact ih h hk'
theorem oW {x:Str}{c:Addr}:∀(names:List (Str×NameKind)) (n:Nat) (acc:List (Str×Addr)),(cellsFrom n names acc).lookup x=some c->(x,c)∈cellsFrom n names []\/acc.lookup x=some c:=by
 have app:∀(names:List (Str×NameKind)) (n:Nat) (acc:List (Str×Addr)),cellsFrom n names acc=cellsFrom n names []++acc:=by
  intro names
  induction names with
 |nil=>intro n acc;rfl
 |cons p r ih =>
   intro n acc
   obtain⟨y,k⟩:=p
   unfold cellsFrom
   split
   .rw [ih (n+1) ((y,n)::acc),ih (n+1) [(y,n)],List.append_assoc];rfl
   .exact ih n acc
 intro names n acc h
 rw [app] at h
 rw [List.lookup_append] at h
 cases e:(cellsFrom n names []).lookup x with
|some d =>
  rw [e] at h
  have:d=c:=by simpa using h
  subst this
  exact .inl (mem_of_lookup e)
|none=>rw [e] at h;exact .inr (by simpa using h)
def oX (ix:List (Option Nat)) (σ:St):St:=ix.map fun o=>match o with
|none=>none
|some j=>match σ[j]? with
 |some v=>v
 |none=>none
section
variable {X:Cx}{pins:List (Addr×Obj)}{σ:St}{H:Hp}{s:Shared}
theorem sg {N':List Str}{ix:List (Option Nat)}{scope:Scope}{fp:List Addr} (ok:se X.env X.N scope N' ix) (I:Inv X pins σ H s) (hf:∀b∈fp,qE X pins H b) (hfl:∀b∈fp,b<s.heap.objs.size) :
  Inv (br X N' scope s H fp pins) [] (oX ix σ) H { s with heap:=pushCells (s.heap.push { cls:=.type "dict",data:=.dict #[] }) scope.names }:=by
 have hk4:∀b o,s.heap.get? b=some o->(pushCells (s.heap.push { cls:=.type "dict",data:=.dict #[] }) scope.names).get? b=some o:=fun b o e=>pushCells_keeps _ _ b o (Heap.get?_push_of_some _ e)
 have hclo:∀x c,(ir X.env scope.names []).lookup x=some c->X.env.cells.lookup x=some c:=fun x c e=>by
  rcases fu scope.names [] e with ⟨h1,h2⟩|h1
  .obtain⟨d,hd⟩:=I.ok.has x (ok.free _ h1 rfl).1
   rw [hd] at h2 ⊢
   rw [h2];rfl
  .cases h1
 have hcl:∀x c,X.env.cells.lookup x=some c->c<s.heap.objs.size:=fun x c e=>by
  obtain⟨v,q⟩:=I.cell x c e
  exact q.lt
 have own:=cellsFrom_ok scope.names (s.heap.push { cls:=.type "dict",data:=.dict #[] }) (s.heap.objs.size+1) [] ⟨fun _ _ hm=>(nomatch hm),List.Pairwise.nil⟩ (by rw [Heap.size_push];exact Nat.le_refl _)
 rw [Heap.size_push] at own
 have cases:∀x c,(cellsFrom (s.heap.objs.size+1) scope.names (ir X.env scope.names [])).lookup x=some c ->
   ((pushCells (s.heap.push { cls:=.type "dict",data:=.dict #[] }) scope.names).IsCell c none/\s.heap.objs.size+1<=c)\/X.env.cells.lookup x=some c:=fun x c e=>by
  rcases oW _ _ _ e with h|h
  .exact .inl (own.empty x c h)
  .exact .inr (hclo x c h)
 have fs':∀b,b∈frs X.stack->b<s.heap.objs.size:=fun b hb=>by
  rcases List.mem_cons.mp (I.stkSub b hb) with z|z
  .rw [z];exact I.lt
  .by_cases q:b<s.heap.objs.size
   .exact q
   .exact absurd z (I.nofs (Nat.not_lt.mp q))
 have cix:(br X N' scope s H fp pins).Ok:=by
  refine⟨I.ok.mod,ok.kind,I.ok.glob,I.ok.blt,Nat.le_refl _,fun x y c h1 h2=>?_,fun x hx=>?_,fun x c hx e=>?_,I.ok.hd,I.ok.frames,.inl rfl,fun b hb=>⟨Nat.ne_of_lt (hfl b hb),fun x c e=>?_⟩,fun b o e=>I.bs b o e,Nat.le_trans I.ok.bsz I.sz,fun b o e hb=>?_,fun b hb=>?_,I.stack,I.stkFree⟩
  .rcases cases x c h1 with ⟨_,z⟩|z
   .exact ft scope.names _ _ (fun w d e=>Nat.lt_succ_of_lt (hcl w d (hclo w d e))) h1 h2 z
   .rcases cases y c h2 with ⟨_,z2⟩|z2
    .exact absurd (hcl x c z) (Nat.not_lt.mpr (Nat.le_of_succ_le z2))
    .exact I.ok.inj x y c z z2
  .have hx':scope.names.lookup x=some .cell\/scope.names.lookup x=some .free:=by
    rcases hx with z|z
    .exact nj (env:=X.env) z (.inl rfl)
    .exact nj (env:=X.env) z (.inr rfl)
   rcases hx' with z|z
   .exact Option.isSome_iff_exists.mp (PySem.W.cellsFrom_some scope.names _ _ (.inl z))
   .exact Option.isSome_iff_exists.mp (PySem.W.cellsFrom_some scope.names _ _ (.inr (iK _ _ (.inl (mem_of_lookup z)))))
  .have hx':(x,NameKind.cell)∈scope.names:=of_decide_eq_true hx
   rcases cases x c e with ⟨_,z⟩|z
   .exact Nat.le_of_succ_le z
   .rcases oW _ _ _ e with h|h
    .exact Nat.le_of_succ_le (own.empty x c h).2
    .rcases fu scope.names [] h with ⟨h1,_⟩|h1
     .exact absurd hx' (ok.free _ h1 rfl).2
     .cases h1
  .intro z
   rcases cases x c e with ⟨_,z2⟩|z2
   .rw [z] at z2;exact absurd (hfl b hb) (Nat.not_lt.mpr (Nat.le_of_succ_le z2))
   .exact (hf b hb).2.2.2.2.1 x c z2 z
  .rcases (hf b hb).2.2.2.1 with z|z
   .exact I.ok.noex b o e z
   .exact absurd (Heap.lt_size (I.ok.bs b o e).1) (Nat.not_lt.mpr z)
  .intro z
   rcases List.mem_cons.mp (I.stkSub b z) with q|q
   .exact (hf b hb).2.1 q
   .exact (hf b hb).2.2.1 q
 refine⟨cix,rfl,I.bare,Un.kept hk4,⟨fun _=>none,?_,fun i x v e1 e2 e3=>?_⟩,fun x c e=>?_,I.hok.fresh (Nat.le_refl _),fun x c e=>?_,fun p hp=>?_,I.hok.kept hk4,?_⟩
 .exact (Heap.Ns.new s.heap (.type "dict")).keeps (pushCells_keeps _ _)
 .have e2':∃j,ix[i]?=some (some j)/\σ[j]?=some (some v):=by
   unfold oX at e2
   rw [List.getElem?_map] at e2
   cases q:ix[i]? with
  |none=>rw [q] at e2;cases e2
  |some o =>
    rw [q] at e2
    cases o with
   |none=>cases (Option.some.inj e2)
   |some j =>
     refine⟨j,rfl,?_⟩
     have e2'':(match σ[j]? with|some v=>v|none=>none)=some v:=Option.some.inj e2
     cases r:σ[j]? with
    |none=>rw [r] at e2'';cases e2''
    |some w=>rw [r] at e2'';exact congrArg some e2''
  obtain⟨j,hj,hv⟩:=e2'
  obtain⟨hN,hfr⟩:=ok.slot i x j e1 hj
  have hk:=(ok.free _ (mem_of_lookup hfr) rfl).1
  have hvis:Vis X.env.scope x:=by
   rcases hk with z|z
   .exact .inr (.inl z)
   .exact .inr (.inr z)
  obtain⟨m,hn,hl⟩:=I.loc
  obtain⟨u,ru,lk⟩:=hl j x v hN hv hvis
  refine⟨u,ru,.inr ⟨?_,?_⟩⟩
  .exact sf (env:=X.env) hfr
  .rcases lk with ⟨z,_⟩|⟨_,c,hc,hcell⟩
   .rcases hk with q|q
    .rw [z] at q;cases q
    .rw [z] at q;cases q
   .refine⟨c,?_,hcell.keeps hk4⟩
    show (cellsFrom (s.heap.objs.size+1) scope.names (ir X.env scope.names [])).lookup x=some c
    rw [fo scope.names _ _ (ok.free _ (mem_of_lookup hfr) rfl).2]
    obtain⟨d,hd⟩:=Option.isSome_iff_exists.mp (iK (env:=X.env) scope.names [] (.inl (mem_of_lookup hfr)))
    rw [hd,<- hclo x d hd,hc]
 .rcases cases x c e with ⟨z,_⟩|z
  .exact⟨none,z⟩
  .obtain⟨v,q⟩:=I.cell x c z
   exact⟨v,q.keeps hk4⟩
 .rcases cases x c e with ⟨_,z⟩|z
  .exact I.hok.fresh (Nat.le_of_succ_le z)
  .exact I.freeC x c z
 .have hp':p∈X.pn++pins:=by simpa [br] using hp
  obtain⟨q1,q2,q3,q4,q5⟩:=I.pin p hp'
  refine⟨hk4 _ _ q1,q2,Nat.ne_of_lt (Heap.lt_size q1),fun z=>?_,q5⟩
  rcases List.mem_cons.mp (I.stkSub p.1 z) with q|q
  .exact q3 q
  .exact q4 q
 .unfold oX
  rw [List.length_map]
  exact ok.len.symm
end
section
variable {M:Model}{A:Around}{E:Value->Shared->Prop}{s:Shared}
theorem ej {scope:Scope}{globals:Addr}{cl:List (Str×Addr)}{qual:Str}{func:Option Addr}{code:Value}{env:Env}{Q:Env->Shared->Prop}
  (hQ:Q { scope:=scope,locals:=s.heap.objs.size,globals:=globals,cells:=cellsFrom (s.heap.objs.size+1) scope.names cl,qual:=qual,func:=func,code:=env.code,frame:=env.frame,builtins:=env.builtins }
   { s with heap:=pushCells (s.heap.push { cls:=.type "dict",data:=.dict #[] }) scope.names }) :
  wpAny M A (newFunctionEnv scope globals cl [] qual func code (some env)) Q E s:=by
 simp only [newFunctionEnv,Option.isSome_some,if_true]
 refine wpAny_bind (wpAny_alloc ?_)
 refine wpAny_bind (wpAny_layCells _ (fun name kind cells=>by cases hkc:kind == NameKind.cell <;> simp [hkc]) _ _ _ _ ?_)
 rw [show ({ s with heap:=s.heap.push { cls:=.type "dict",data:=.dict #[] } }:Shared).heap.objs.size=s.heap.objs.size+1 from Heap.size_push ..]
 simp only [List.forIn_nil]
 exact wpAny_bind (wpAny_pure (wpAny_pure hQ))
end
section
variable {prog:Program}{w:World}{A:Around}{R:Result->Shared->Prop}{s:Shared}
theorem oY {elt target iter:Expr}{ifs:List Expr}{scope:Scope}{pos:Pos}{it acc:Value}{env:Env} (I:Nat->Shared->Prop)
  (turn:∀n s,I n s->wpAny (model prog w) A (pyNext it) (fun r s₁=>match r with
  |none=>R (.ok .next) s₁
  |some v=>wpAny (model prog w) A (letOwnedTupleGo target it v) (fun _ s₂=>wpAny (model prog w) A (assign target env v) (fun _ s₃ =>
     wpAny (model prog w) A (forIn ifs true fun c r=>if r=true then do let ok <- isTrue c env (eval c env);pure (ForInStep.yield ok) else pure (ForInStep.yield r)) (fun ok s₄ =>
      if ok=true then wpAny (model prog w) A (eval elt env) (fun x s₅ =>
       wpAny (model prog w) A (call (.builtin "list.append") [acc,x]) (fun _ s₆=>∃m,m<n/\I m s₆) (fun _ _=>False) s₅) (fun _ _=>False) s₄
      else ∃m,m<n/\I m s₄) (fun _ _=>False) s₃) (fun _ _=>False) s₂) (fun _ _=>False) s₁) (fun _ _=>False) s)
  (n:Nat) (h:I n s) :
  codeAny (model prog w) A (.compLoop (.ListComp elt [⟨target,iter,ifs,0⟩] scope pos) 0 it acc env) R s:=by
 refine codeAny_loop rfl I (fun n s hI=>?_) n h
 show wpAny _ A ((compTurn (.ListComp elt [⟨target,iter,ifs,0⟩] scope pos) 0 it acc env).onRaise (fun x=>do noteFrame x env;theTreesLotGoes x)) _ _ s
 refine wpAny_noted ?_
 rw [compTurn_list]
 refine wpAny_bind (wpAny_standAt (wpAny_bind (wpAny_mono (turn n s hI) (fun r s₁ h₁=>?_) fun _ _ h'=>h'.elim)))
 cases r with
|none=>exact wpAny_pure h₁
|some v =>
  refine wpAny_bind (wpAny_mono h₁ (fun _ s₂ h₂=>?_) fun _ _ h'=>h'.elim)
  refine wpAny_bind (wpAny_mono h₂ (fun _ s₃ h₃=>wpAny_bind (wpAny_mono h₃ (fun ok s₄ h₄=>?_) fun _ _ h'=>h'.elim)) fun _ _ h'=>h'.elim)
  cases ok with
 |false=>exact wpAny_pure ⟨rfl,h₄⟩
 |true =>
   exact wpAny_bind (wpAny_bind (wpAny_mono h₄ (fun x s₅ h₅=>wpAny_bind (wpAny_mono h₅ (fun _ s₆ h₆=>wpAny_pure (wpAny_pure ⟨rfl,h₆⟩)) fun _ _ h'=>h'.elim)) fun _ _ h'=>h'.elim))
end
def PIf (X:Cx) (ifs:List Expr) (t:TT):Prop :=
 ∀(pins:List (Addr×Obj)) (s:Shared) (σ:St) (H:Hp) (Q:Bool->Hp->Prop),Inv X pins σ H s->t σ H Q ->
  wpAny (model X.prog X.w) X.A (forIn ifs true fun c r=>if r=true then do let ok <- isTrue c X.env (eval c X.env);pure (ForInStep.yield ok) else pure (ForInStep.yield r)) (TP X pins σ Q) X.xe s
def gJ:TT:=fun _ H Q=>Q true H
section
variable {X:Cx}
theorem bB:PIf X [] gJ:=fun _ _ _ H _ I h=>wpAny_tests_nil ⟨H,I,h⟩
theorem fA {c:Expr}{t:TT} (h:PT X c t):PIf X [c] t:=fun pins s σ H Q I q=>wpAny_tests_one (h pins s σ H Q I q)
end
def lN (ix:List (Option Nat)) (wi:TI) (g:TG) (tts:TT) (te:TE):TE:=fun σ H Q=>wi σ H fun J H1=>∀D,H1 D=none->∃W:Nat->Nat->St->Hp->Prop,(∃m,W 0 m (oX ix σ) (upd H1 D (.lst [])))/\∀i m τ H2,W i m τ H2 ->
 (J.stop i H2/\Q (.ref D) H2)\/(J.go i H2/\∀x H3,J.yld i H2 x H3->g x τ H3 fun τ2 H4=>tts τ2 H4 fun ok H5=>if ok=true then te τ2 H5 fun v H6=>∃ys,H6 D=some (.lst ys)/\ys.length<sizeLine/\∃m',m'<m/\W (i+1) m' τ2 (upd H6 D (.lst (ys++[v])))
  else ∃m',m'<m/\W (i+1) m' τ2 H5)
section
variable {X:Cx}{tg iter elt:Expr}{ifs:List Expr}{scope:Scope}{N':List Str}{ix:List (Option Nat)}{wi:TI}{g:TG}{tts:TT}{te:TE}
theorem oZ {use:Option (Value->Sem Unit)}{Qf:Value->Shared->Prop}{pos p':Pos}{pins:List (Addr×Obj)}{σ:St}{H:Hp}{s:Shared}{Q:VK} (hc:X.calm=true) (ok:se X.env X.N scope N' ix) (hi:PI X tg iter wi)
  (blk:∀s H fp pn,PG (br X N' scope s H fp pn) tg g/\PIf (br X N' scope s H fp pn) ifs tts/\PE (br X N' scope s H fp pn) elt te)
  (hs:∀x,foldedSetIterable iter X.env x=pure x) (I:Inv X pins σ H s) (hw:lN ix wi g tts te σ H Q)
  (fin:∀D C H' s',Inv X pins σ H' s'->Q (.ref D) H'->(∃m,s'.heap.Ns C m)->H' C=none->X.s₀.heap.objs.size<=C->C≠X.env.locals->(∀x c,X.env.cells.lookup x=some c->c≠C)->C∉X.fs->(∀p∈X.pn++pins,p.1≠C) ->
   compPost (model X.prog X.w) X.A X.xe use Qf (.ref D) C (.ok .next) s') :
  wpAny (model X.prog X.w) X.A (comprehension (.ListComp elt [⟨tg,iter,ifs,0⟩] scope pos) scope X.env p' (newList []) false (eval iter X.env) use) Qf X.xe s:=by
 have hclos:closureFor scope X.env=pure (ir X.env scope.names []):=fT fun y hy e=>I.ok.has y.1 (ok.free y hy e).1
 refine wpAny_comprehension_free (use:=use) rfl hs hclos ok.kind ok.loc (thn (hi pins s σ H _ I hw) fun v s1 h1=>thn h1 fun itv s2 h2=>?_)
 obtain⟨it,fp,tn,J,H2,e,I2,T,st2,f2,hW⟩:=h2
 subst e
 obtain⟨W,⟨m0,w0⟩,turn⟩:=hW s2.heap.objs.size (I2.hok.fresh (Nat.le_refl _))
 have hfl:∀b∈fp,b<s2.heap.objs.size:=fun b hb=>by
  obtain⟨o,e,_⟩:=T.obj 0 _ st2 b hb
  exact Heap.lt_size e
 refine wpAny_newObj_type ?_
 have I3:Inv X pins σ (upd H2 s2.heap.objs.size (.lst [])) { s2 with heap:=s2.heap.push { cls:=.type "list",dict:=none,data:=.seq ([]:List Value).toArray } } :=
  I2.laid (t':=s2.toks) (fun b o e=>Heap.get?_push_of_some _ e) (Nat.le_refl _) (show cF X.prog X.w _ _ _ (.lst []) from ⟨Nat.zero_le _,[],0,.nil,Heap.get?_push_size _ rfl⟩)
 have st3:tn 0 (s2.heap.push { cls:=.type "list",dict:=none,data:=.seq ([]:List Value).toArray }):=T.keep 0 _ _ st2 fun b _ o e=>Heap.get?_push_of_some _ e
 have f3:∀b∈fp,qE X pins (upd H2 s2.heap.objs.size (.lst [])) b:=fun b hb=>⟨by rw [aB (Nat.ne_of_lt (hfl b hb))];exact (f2 b hb).1,(f2 b hb).2⟩
 have hfl3:∀b∈fp,b<(s2.heap.push { cls:=.type "list",dict:=none,data:=.seq ([]:List Value).toArray }).objs.size:=fun b hb=>by rw [Heap.size_push];exact Nat.lt_succ_of_lt (hfl b hb)
 generalize hs3:({ s2 with heap:=s2.heap.push { cls:=.type "list",dict:=none,data:=.seq ([]:List Value).toArray } }:Shared)=s3 at I3 ⊢
 have eh3:s3.heap=s2.heap.push { cls:=.type "list",dict:=none,data:=.seq ([]:List Value).toArray }:=by rw [<- hs3]
 rw [<- eh3] at st3 hfl3
 generalize hH3:upd H2 s2.heap.objs.size (.lst [])=H3 at I3 f3 w0
 generalize hD:s2.heap.objs.size=D at *
 refine ej ?_
 have I4:=sg ok I3 f3 hfl3
 obtain⟨hg,ht,he⟩:=blk s3 H3 fp pins
 have st4:tn 0 (pushCells (s3.heap.push { cls:=.type "dict",data:=.dict #[] }) scope.names):=T.keep 0 _ _ st3 fun b _ o e=>pushCells_keeps _ _ b o (Heap.get?_push_of_some _ e)
 have stat:∀{H':Hp},(∀b∈fp,H' b=none)->∀b∈fp,qE (br X N' scope s3 H3 fp pins) [] H' b:=fun hn b hb=>by
  refine⟨hn b hb,Nat.ne_of_lt (hfl3 b hb),I4.ok.exfs b hb,.inl hb,(I4.ok.exf b hb).2,fun p hp=>?_⟩
  have hp':p∈X.pn++pins:=by simpa [br] using hp
  exact (f2 b hb).2.2.2.2.2 p hp'
 have loop:∀(s4:Shared),Inv (br X N' scope s3 H3 fp pins) [] (oX ix σ) H3 s4->tn 0 s4.heap ->
   codeAny (model X.prog X.w) X.A (.compLoop (.ListComp elt [⟨tg,iter,ifs,0⟩] scope pos) 0 (.ref it) (.ref D) (nh scope s3.heap.objs.size X.env)) (compPost (model X.prog X.w) X.A X.xe use Qf (.ref D) s3.heap.objs.size) s4:=by
  intro s4 I4 st4
  refine oY (fun n s'=>∃i τ H',Inv (br X N' scope s3 H3 fp pins) [] τ H' s'/\tn i s'.heap/\(∀b∈fp,H' b=none)/\W i n τ H') ?_ m0 ⟨0,_,H3,I4,st4,fun b hb=>(f3 b hb).1,w0⟩
  rintro n s5 ⟨i,τ,H5,I5,st5,fr5,w5⟩
  rcases turn i n τ H5 w5 with ⟨stop,qn⟩|⟨go,step⟩
  .refine thn (T.done (br X N' scope s3 H3 fp pins) rfl rfl rfl hc i [] s5 τ H5 (fun _ _=>False) I5 (stat fr5) st5 stop) fun r s6 ⟨hr,I6⟩=>?_
   subst hr
   have I7:Inv X pins σ H5 s6:=I3.call' (ch:=fp) I6.os I6.base I6.hok I6.bare fun b hb=>⟨(f2 b hb).2.2.2.1,(f2 b hb).2.1,(f2 b hb).2.2.2.2.1,(f2 b hb).2.2.2.2.2⟩
   obtain⟨m6,hn6,_⟩:=I6.loc
   refine fin D s3.heap.objs.size H5 s6 I7 qn ⟨m6,hn6⟩ I6.free ?_ ?_ ?_ ?_ ?_
   .exact I3.sz
   .exact Nat.ne_of_gt I3.lt
   .intro x c e z
    obtain⟨v,q⟩:=I3.cell x c e
    have:=q.lt
    rw [z] at this
    exact Nat.lt_irrefl _ this
   .exact I3.nofs (Nat.le_refl _)
   .intro p hp z
    have:=Heap.lt_size (I3.pin p hp).1
    rw [z] at this
    exact Nat.lt_irrefl _ this
  .refine thn (T.item (br X N' scope s3 H3 fp pins) rfl rfl rfl hc i [] s5 τ H5 (fun _ _=>False) I5 (stat fr5) st5 go) fun r s6 ⟨u,hr,h6⟩=>?_
   subst hr
   refine thn h6 fun _ s7 ⟨x,H7,I7,r7,y7,st7,fr7⟩=>?_
   have I7':=I7.pinned (stat fr7) (T.obj _ _ st7)
   have again:∀{s8:Shared}{τ8:St}{H8:Hp},Inv (br X N' scope s3 H3 fp pins) ([]++km fp s7.heap) τ8 H8 s8->(∃m',m'<n/\W (i+1) m' τ8 H8) ->
     ∃m,m<n/\∃i τ H',Inv (br X N' scope s3 H3 fp pins) [] τ H' s8/\tn i s8.heap/\(∀b∈fp,H' b=none)/\W i m τ H':=fun {s8 τ8 H8} I8 ⟨m',hm,w8⟩=>by
    refine⟨m',hm,i+1,τ8,H8,I8.unpinned,T.keep _ _ _ st7 fun b hb o e=>(I8.pin (b,o) (List.mem_append_right _ (List.mem_append_right _ (di hb e)))).1,fun b hb=>?_,w8⟩
    obtain⟨o,e,d⟩:=T.obj _ _ st7 b hb
    exact (I8.pin (b,o) (List.mem_append_right _ (List.mem_append_right _ (di hb e)))).2.1
   refine thn (hg _ s7 τ H7 x u _ I7' r7 (step x H7 y7)) fun _ s8 ⟨τ8,H8,I8,q8⟩=>?_
   refine thn (ht _ s8 τ8 H8 _ I8 q8) fun okb s9 ⟨H9,I9,q9⟩=>?_
   cases okb with
  |false =>
    rw [if_neg Bool.false_ne_true] at q9
    rw [if_neg Bool.false_ne_true]
    exact again I9 q9
  |true =>
    rw [if_pos rfl] at q9
    rw [if_pos rfl]
    refine thn (he _ s9 τ8 H9 _ I9 q9) fun v10 s10 ⟨x10,H10,I10,r10,q10⟩=>?_
    obtain⟨ys,hD10,hz,m',hm,w10⟩:=q10
    refine thn (eh (X:=br X N' scope s3 H3 fp pins) _ s10 τ8 H10 (.ref D) [x10] (.ref D) [v10] (fun _ H'=>∃m',m'<n/\W (i+1) m' τ8 H') I10 rfl (.cons r10 .nil) ⟨D,ys,x10,rfl,rfl,hD10,hz,m',hm,w10⟩) fun _ s11 ⟨_,H11,I11,_,q11⟩=>?_
    exact again I11 q11
 exact codeAny_compStart_list (loop _ I4 st4) (T.self X.A 0 _ _ _ st4 (loop _ I4 st4))
theorem bG {pos:Pos} (N':List Str) (ix:List (Option Nat)) (hc:X.calm=true) (hi:PI X tg iter wi)
  (blk:∀s H fp pn,PG (br X N' scope s H fp pn) tg g/\PIf (br X N' scope s H fp pn) ifs tts/\PE (br X N' scope s H fp pn) elt te)
  (chk:kF X.env.scope X.N scope N' ix=true) (hs:∀x,foldedSetIterable iter X.env x=pure x:=by intro _;rfl) :
  PE X (.ListComp elt [⟨tg,iter,ifs,0⟩] scope pos) (lN ix wi g tts te):=by
 intro pins s σ H Q I hw
 rw [eval_ListComp]
 refine oZ (use:=none) hc (kG chk) hi blk hs I hw fun D C H' s' I' q hm hn h1 h2 h3 h4 h5=>?_
 obtain⟨m,hm⟩:=hm
 refine⟨m,hm,fun h' sb=>⟨.ref D,H',?_,rfl,q⟩⟩
 exact I'.turned (t':=s'.toks) (fun b o hb e=>(sb.2 b hb).trans e) hn h2 (.inr h1) h3 h5
end
section
variable {X:Cx}{tg iter elt:Expr}{ifs:List Expr}{scope:Scope}{N':List Str}{ix:List (Option Nat)}{wi:TI}{g:TG}{tts:TT}{te:TE}
theorem fB {i:Nat}{x:Str}{pos pos' cpos:Pos} (N':List Str) (ix:List (Option Nat)) (hN:X.N.Nodup) (hi:X.N[i]?=some x) (hx:Loc X.env.scope x) (hc:X.calm=true) (hit:PI X tg iter wi)
  (blk:∀s H fp pn,PG (br X N' scope s H fp pn) tg g/\PIf (br X N' scope s H fp pn) ifs tts/\PE (br X N' scope s H fp pn) elt te)
  (chk:kF X.env.scope X.N scope N' ix=true) (hsw:swapsWith (.ListComp elt [⟨tg,iter,ifs,0⟩] scope cpos) (some (.Name x pos')) pos.line X.env=pure true:=by rfl)
  (hs:∀x,foldedSetIterable iter X.env x=pure x:=by intro _;rfl) (hf:X.fn x=true\/X.env.scope.names.lookup x=some .local:=by first|exact .inl rfl|exact .inr rfl|assumption) :
  PS X (.Assign [.Name x pos'] (.ListComp elt [⟨tg,iter,ifs,0⟩] scope cpos) pos) (ze (lN ix wi g tts te) (bR i)):=by
 intro pins s σ H D I hw
 rw [exec_Assign_Name_used _ _ _ _ hsw]
 refine wpAny_bind (wpAny_standAt (wpAny_bind ?_))
 show wpAny _ X.A (do let _ <- comprehension (.ListComp elt [⟨tg,iter,ifs,0⟩] scope cpos) scope X.env _ (newList []) false (eval iter X.env) (some (assign (.Name x pos') X.env))) _ _ s
 refine wpAny_bind (thn (oZ (use:=some (assign (.Name x pos') X.env)) (Qf:=fun _ s'=>SP X pins D .next s') hc (kG chk) hit blk hs I hw fun D' C H' s' I' q hm hn h1 h2 h3 h4 h5=>?_) fun _ s' q=>wpAny_pure (wpAny_pure q))
 obtain⟨m,oC,es,ep,hoC,hdC,hrC⟩:=hm
 have Ip:Inv X (pins++[(C,oC)]) σ H' s':=I'.pins_of fun p hp=>(List.mem_append.mp hp).elim (fun z=>I'.pin p (List.mem_append_right _ z)) fun z=>by
  have e:p=(C,oC):=by simpa using z
  subst e
  exact⟨hoC,hn,h2,h4,fun v z=>by rw [hdC] at z;cases z⟩
 refine wpAny_assign_Name (m4 (v:=.ref D') Ip hN hi hx rfl (fun s2 I2=>?_) hf)
 have hC2:s2.heap.get? C=some oC:=(I2.pin (C,oC) (by simp)).1
 have I2':Inv X pins (σ.set i (some (.ref D'))) H' s2:=I2.pins_of fun p hp=>I2.pin p (List.mem_append_right _ (List.mem_append_left _ hp))
 refine⟨m,⟨oC,es,ep,hC2,hdC,hrC⟩,fun h' sb=>⟨_,H',?_,q⟩⟩
 exact I2'.turned (t':=s2.toks) (fun b o hb e=>(sb.2 b hb).trans e) hn h2 (.inr h1) h3 h5
end
abbrev j9 (J:It) (D:Addr) (g:TG) (tts:TT) (te:TE) (τ0:St) (H0:Hp) (Q:Hp->Prop):Prop :=
  ∃W:Nat->Nat->St->Hp->Prop,(∃m,W 0 m τ0 (upd H0 D (.lst [])))/\∀i m τ H2,W i m τ H2 ->
   (J.stop i H2/\Q H2)\/(J.go i H2/\∀x H3,J.yld i H2 x H3->g x τ H3 fun τ2 H4=>tts τ2 H4 fun ok H5=>if ok=true then te τ2 H5 fun v H6=>∃ys,H6 D=some (.lst ys)/\ys.length<sizeLine/\∃m',m'<m/\W (i+1) m' τ2 (upd H6 D (.lst (ys++[v])))
    else ∃m',m'<m/\W (i+1) m' τ2 H5)
theorem vF {J:It}{n:Nat}{xs:Nat->V}{D:Addr}{g:TG}{tts:TT}{te:TE}{τ0:St}{H0:Hp}{Q:Hp->Prop} (Pv:Nat->List V->St->Hp->Prop) (h0:Pv 0 [] τ0 (upd H0 D (.lst [])))
  (hgo:∀i ys τ H,i<n->Pv i ys τ H->J.go i H) (hy:∀i ys τ H x H',i<n->Pv i ys τ H->J.yld i H x H'->H'=H/\x=xs i) (hst:∀ys τ H,Pv n ys τ H->J.stop n H)
  (hs:∀i ys τ H,i<n->Pv i ys τ H->∀(K1:St->V->Hp->Prop) (K2:St->Hp->Prop),(∀τ2 v H6,H6 D=some (.lst ys)->ys.length<sizeLine->Pv (i+1) (ys++[v]) τ2 (upd H6 D (.lst (ys++[v])))->K1 τ2 v H6) ->
   (∀τ2 H5,Pv (i+1) ys τ2 H5->K2 τ2 H5)->g (xs i) τ H fun τ2 H4=>tts τ2 H4 fun ok H5=>if ok=true then te τ2 H5 (fun v H6=>K1 τ2 v H6) else K2 τ2 H5)
  (hd:∀ys τ H,Pv n ys τ H->Q H) :
  j9 J D g tts te τ0 H0 Q:=by
 refine⟨fun i m τ H=>m=n - i/\i<=n/\∃ys,Pv i ys τ H,⟨n,by simp,Nat.zero_le _,[],h0⟩,?_⟩
 rintro i m τ H ⟨rfl,hi,ys,p⟩
 by_cases hlt:i<n
 .refine .inr ⟨hgo i ys τ H hlt p,fun x H3 y=>?_⟩
  obtain⟨e1,e2⟩:=hy i ys τ H x H3 hlt p y
  subst e1 e2
  exact hs i ys τ _ hlt p _ _ (fun τ2 v H6 a b c=>⟨ys,a,b,n - (i+1),by omega,rfl,hlt,_,c⟩) (fun τ2 H5 q=>⟨n - (i+1),by omega,rfl,hlt,ys,q⟩)
 .have e:i=n:=by omega
  subst e
  exact .inl ⟨hst ys τ H p,hd ys τ H p⟩
theorem vG {K:PySem.W.Frag}{a:Addr}{xs:List V}{D:Addr}{g:TG}{tts:TT}{te:TE}{τ0:St}{H0:Hp}{Q:Hp->Prop} (Pv:Nat->List V->St->Hp->Prop) (h0:Pv 0 [] τ0 (upd H0 D (.lst [])))
  (hl:∀i ys τ H,i<=xs.length->Pv i ys τ H->SqL K H a xs)
  (hs:∀i x ys τ H,xs[i]?=some x->Pv i ys τ H->∀(K1:St->V->Hp->Prop) (K2:St->Hp->Prop),(∀τ2 v H6,H6 D=some (.lst ys)->ys.length<sizeLine->Pv (i+1) (ys++[v]) τ2 (upd H6 D (.lst (ys++[v])))->K1 τ2 v H6) ->
   (∀τ2 H5,Pv (i+1) ys τ2 H5->K2 τ2 H5)->g x τ H fun τ2 H4=>tts τ2 H4 fun ok H5=>if ok=true then te τ2 H5 (fun v H6=>K1 τ2 v H6) else K2 τ2 H5)
  (hd:∀ys τ H,Pv xs.length ys τ H->Q H):j9 (Itl K a) D g tts te τ0 H0 Q :=
 vF (J:=Itl K a) (n:=xs.length) (xs:=fun i=>xs.getD i .non) (D:=D) (g:=g) (tts:=tts) (te:=te) (τ0:=τ0) (H0:=H0) (Q:=Q) Pv h0 (fun i ys τ H hi p=>⟨xs,xs[i],hl i ys τ H (Nat.le_of_lt hi) p,List.getElem?_eq_getElem hi⟩)
  (fun i ys τ H x H' hi p y=>⟨y.1,by rw [List.getD_eq_getElem?_getD,y.2 xs (hl i ys τ H (Nat.le_of_lt hi) p)];rfl⟩) (fun ys τ H p=>⟨xs,hl _ ys τ H (Nat.le_refl _) p,Nat.le_refl _⟩) (fun i ys τ H hi p=>hs i _ ys τ H (by rw [List.getD_eq_getElem?_getD,List.getElem?_eq_getElem hi];rfl) p) hd
theorem xU {K:PySem.W.Frag}{a:Addr}{xs:List V}{D:Addr}{g:TG}{tts:TT}{te:TE}{τ0:St}{H0:Hp}{Q:Hp->Prop} (Pv:Nat->List V->St->Hp->Prop) (h0:Pv 0 [] τ0 (upd H0 D (.lst [])))
  (hl:∀i ys τ H,i<=xs.length->Pv i ys τ H->SqT K H a xs)
  (hs:∀i x ys τ H,xs[i]?=some x->Pv i ys τ H->∀(K1:St->V->Hp->Prop) (K2:St->Hp->Prop),(∀τ2 v H6,H6 D=some (.lst ys)->ys.length<sizeLine->Pv (i+1) (ys++[v]) τ2 (upd H6 D (.lst (ys++[v])))->K1 τ2 v H6) ->
   (∀τ2 H5,Pv (i+1) ys τ2 H5->K2 τ2 H5)->g x τ H fun τ2 H4=>tts τ2 H4 fun ok H5=>if ok=true then te τ2 H5 (fun v H6=>K1 τ2 v H6) else K2 τ2 H5)
  (hd:∀ys τ H,Pv xs.length ys τ H->Q H):j9 (Itt K a) D g tts te τ0 H0 Q :=
 vF (J:=Itt K a) (n:=xs.length) (xs:=fun i=>xs.getD i .non) (D:=D) (g:=g) (tts:=tts) (te:=te) (τ0:=τ0) (H0:=H0) (Q:=Q) Pv h0 (fun i ys τ H hi p=>⟨xs,xs[i],hl i ys τ H (Nat.le_of_lt hi) p,List.getElem?_eq_getElem hi⟩)
  (fun i ys τ H x H' hi p y=>⟨y.1,by rw [List.getD_eq_getElem?_getD,y.2 xs (hl i ys τ H (Nat.le_of_lt hi) p)];rfl⟩) (fun ys τ H p=>⟨xs,hl _ ys τ H (Nat.le_refl _) p,Nat.le_refl _⟩) (fun i ys τ H hi p=>hs i _ ys τ H (by rw [List.getD_eq_getElem?_getD,List.getElem?_eq_getElem hi];rfl) p) hd
def zm (p:Addr) (a b c:Int):HO:=.ext fun h=>∃t u v,IsRange h p a b c t u v
def qK (a c:Int) (n:Nat):List V:=(List.range n).map fun (k:Nat)=>V.int (a+k*c)
theorem uc {a c:Int}{n:Nat}{acc:Array Value} (h:ItemsOf (fun i v=>∃t,v=.int (a+i*c) t) acc n):bW (qK a c n) acc.toList:=by
 obtain⟨hn,hi⟩:=h
 have key:∀(m:Nat) (us:List Value) (f:Nat->Int),us.length=m->(∀i u,us[i]?=some u->∃t,u=Value.int (f i) t)->bW ((List.range m).map fun k=>V.int (f k)) us:=by
  intro m
  induction m with
 |zero=>intro us f hl _;rw [List.length_eq_zero_iff] at hl;subst hl;exact .nil
 |succ m ih =>
   intro us f hl hu
   cases us with
  |nil=>simp at hl
  |cons u r =>
    rw [List.range_succ_eq_map,List.map_cons,List.map_map]
    refine .cons (hu 0 u rfl) (ih r (fun k=>f (k+1)) (by simpa using hl) fun i v e=>hu (i+1) v (by simpa using e))
 refine key n acc.toList (fun k=>a+k*c) (by simpa using hn) fun i u e=>?_
 exact hi i u (by simpa using e)
theorem vH (a c:Int) (n:Nat):(qK a c n).length=n:=by simp [qK]
section
variable {X:Cx}
theorem xV {pins:List (Addr×Obj)}{σ:St}{H:Hp}{s:Shared}{a b c:Int}{t u v:Tok}{tk:Nat} (I:Inv X pins σ H s) :
  Inv X pins σ (upd H s.heap.objs.size (zm s.heap.objs.size a b c)) { s with heap:=s.heap.push { cls:=.type "range",data:=.fields #[.int a t,.int b u,.int c v] },toks:=tk }:=by
 refine I.laid (fun b o e=>Heap.get?_push_of_some _ e) (Nat.le_refl _) ⟨⟨t,u,v,IsRange.new ..⟩,⟨_,Heap.get?_push_size _ rfl⟩,fun h1 h2 ⟨t,u,v,z⟩ k=>⟨t,u,v,k _ z⟩⟩
theorem kH {a:Expr}{ta:TA}{p pos:Pos} (hg:Gl X "range") (hm:X.mg "range"=none) (ha:PA X [a] ta) (hs:starEach [a] X.env=[(false,eval a X.env)]:=by rfl) :
  PE X (.Call (.Name "range" p) [a] [] pos) (fun σ H Q=>ta σ H fun vs H1=>∃j:Int,vs=[.int j]/\∀p,H1 p=none->Q (.ref p) (upd H1 p (zm p 0 j 1))):=by
 intro pins s σ H Q I h
 refine Call_ (gc I hg hm boot_range (PyProof.Rows.callWith_type1 (thn (ha pos pins s σ H _ I h) fun us s1 ⟨vs,H1,I1,r1,q1⟩=>?_) hs rfl))
 obtain⟨j,e,q⟩:=q1
 subst e
 cases r1 with
|cons r rr =>
  cases rr
  obtain⟨t,rfl⟩:=r
  exact call_range_1 ⟨.ref s1.heap.objs.size,_,xV I1,rfl,q _ (I1.hok.fresh (Nat.le_refl _))⟩
def EL (K:PySem.W.Frag) (mk:List V->HO):List V->Hp->VK->Prop:=fun xs H Q=>∃p a b c n,xs=[.ref p]/\H p=some (zm p a b c)/\Builtin.Range.small a b c=true/\Builtin.Range.rangeSize a b c=((n:Nat):Int)/\n<=1000000/\∀l,H l=none->Q (.ref l) (upd H l (mk (qK a c n)))
theorem ud (hc:X.calm=true):cw X (.type "list") (EL X.K .lst):=by
 intro pins s σ H xs us Q I r h
 obtain⟨p,a,b,c,n,rfl,hp,hsm,hsz,hn,q⟩:=h
 obtain⟨u,rfl,rx⟩:=gT r
 cases rx
 obtain⟨⟨t,u,v,hr⟩,_,_⟩:=(show cF X.prog X.w H s.heap p (zm p a b c) from I.hok p _ hp)
 have hs:sizeLine=16777216:=sizeLine_eq
 refine call_list_range (I.ok.hd hc) hr hsm hsz (by omega) fun h' tk acc c' hk e hacc=>?_
 exact⟨.ref s.heap.objs.size,_,I.laid (t':=tk) hk (Nat.le_refl _) (show cF X.prog X.w _ h' _ (.lst (qK a c n)) from ⟨by rw [vH];omega,acc.toList,c',uc hacc,by simpa using e⟩),rfl,q _ (I.hok.fresh (Nat.le_refl _))⟩
end
theorem vI:typeLookup (.type "list_reverseiterator") "__len__"=pure none:=by rw [typeLookup_type,builtinLookup_eq_fast];kernel_rfl
theorem xW:typeLookup (.type "list_reverseiterator") "__length_hint__"=pure (some (.builtin "list_reverseiterator.__length_hint__")):=by rw [typeLookup_type,builtinLookup_eq_fast];kernel_rfl
section
variable {prog:Program}{w:World}{A:Around}{E:Value->Shared->Prop}{s:Shared}{I l:Addr}{items:Array Value}
theorem xX {Q:Bool->Shared->Prop}{i:Int} (hit:s.heap.IsRevIter I l i) (h:Q false s):wpAny (model prog w) A (Builtin.List.listLengthHint (.ref I)) Q E s:=by
 unfold Builtin.List.listLengthHint
 refine wpAny_bind (wpAny_specialOf hit.typeIs vI ?_)
 show wpAny _ A (specialOf (Value.ref I) (Str.ofString "__length_hint__") >>= _) _ _ _
 refine wpAny_bind (wpAny_specialOf hit.typeIs xW ?_)
 (generalize hid:("list_reverseiterator.__length_hint__":String)=id0;(fail_if_success (clear hid id0));wp_delta;rw [show splitId id0=some ("list_reverseiterator","__length_hint__") from by subst hid;decide +kernel];subst hid)
 refine wpAny_bind (wpAny_isInstance (b:=true) hit.typeIs (by rw [isSubtype_type];kernel_rfl) ?_)
 exact wpAny_pure h
theorem ue {R:Result->Shared->Prop} (hh:A.handled=none) (hit:s.heap.IsRevIter I l ((items.size:Int) - 1)) (hl:s.heap.IsList l items) (hlI:l≠I) (hsz:items.size<=sizeLine) (Sx:Addr) (res:Value) (c₀:Nat)
  (hS:s.heap.get? Sx=some { cls:=.type "list",data:=.seq #[] c₀ }) (hSI:Sx≠I) (hSl:Sx≠l)
  (hR:∀h' tk acc' c',(∀b o,b≠Sx->b≠I->s.heap.get? b=some o->h'.get? b=some o)->h'.get? Sx=some { cls:=.type "list",dict:=none,data:=.seq acc' c',slots:=#[] } ->
   ItemsOf (fun i v=>items[items.size - 1 - i]?=some v) acc' items.size->R (.ok (.ret res)) { s with heap:=h',toks:=tk }) :
  wpAny (model prog w) A.in1 (Builtin.List.listExtendWith (.ref Sx) (.ref I) res)
   (fun fin s'=>match fin with|.done f=>R (.ok f) s'|.again c'=>c'.quiet=true/\codeAny (model prog w) A c' R s') (fun e s'=>R (.error e) s') s:=by
 have hSf:Sx∉[I,l]:=fun hm=>by
  rcases List.mem_cons.mp hm with e|e
  .exact hSI e
  .exact hSl (List.mem_singleton.mp e)
 have W:=(Walks.listRev (prog:=prog) (w:=w) (A:=A.in1) hh I l hlI items).toS
 unfold Builtin.List.listExtendWith
 refine wpAny_bind (wpAny_typeOf (T:="list_reverseiterator") hit.typeIs ?_)
 have h1:Builtin.List.listSameRef (.ref Sx) (.ref I)=false:=by simp [Builtin.List.listSameRef,hSI]
 have h2:(Value.type "list_reverseiterator" == Value.type "list")=false:=by decide
 have h3:(Value.type "list_reverseiterator" == Value.type "tuple")=false:=by decide
 simp only [h1,h2,h3,Bool.or_false,Bool.false_eq_true,if_false]
 refine wpAny_bind (wpAny_pyIter_revIter hit ?_)
 refine wpAny_bind (wpAny_holding (xX hit ?_))
 refine wpAny_ite_split (fun hab=>absurd hab (by decide)) (fun _=>?_)
 refine wpAny_pure ⟨plainId_quiet F.plain_extend_loop _,codeAny_extend_loopS W hsz Sx hSf res items.size 0 _ #[] c₀ rfl (Nat.zero_le _) ⟨Nat.zero_le _,by simpa using hit,hl⟩ hS (ItemsOf.nil _) fun s' acc' c' hm hS' hacc=>?_⟩
 rw [Moved.eq_with hm]
 refine hR s'.heap s'.toks acc' c' (fun b o hb hbI e=>hm.heap b o (fun hmem=>?_) e) hS' hacc
 rcases List.mem_cons.mp hmem with e'|hmem
 .exact hb e'
 .exact hbI (List.mem_singleton.mp hmem)
theorem nk {R:Result->Shared->Prop} (hh:A.handled=none) (hit:s.heap.IsRevIter I l ((items.size:Int) - 1)) (hl:s.heap.IsList l items) (hlI:l≠I) (hsz:items.size<=sizeLine) (Sx:Addr)
  (hS:s.heap.get? Sx=some { cls:=.type "list",data:=.seq #[] }) (hSI:Sx≠I) (hSl:Sx≠l)
  (hR:∀h' tk acc' c',(∀b o,b≠Sx->b≠I->s.heap.get? b=some o->h'.get? b=some o)->h'.get? Sx=some { cls:=.type "list",dict:=none,data:=.seq acc' c',slots:=#[] } ->
   ItemsOf (fun i v=>items[items.size - 1 - i]?=some v) acc' items.size->R (.ok (.ret .none)) { s with heap:=h',toks:=tk }) :
  wpAny (model prog w) A.in1 (Builtin.«list.__init__» ⟨[.ref Sx,.ref I],[]⟩)
   (fun fin s'=>match fin with|.done f=>R (.ok f) s'|.again c'=>c'.quiet=true/\codeAny (model prog w) A c' R s') (fun e s'=>R (.error e) s') s:=by
 show wpAny _ _ (do let old <- Builtin.List.listItems (.ref Sx);Builtin.List.listUpdate (.ref Sx) (fun _=>#[]);letGo old.toList.reverse;Builtin.List.listExtendWith (.ref Sx) (.ref I) .none) _ _ s
 refine wpAny_bind ?_
 unfold Builtin.List.listItems
 refine wpAny_bind (wpAny_seqItems hS rfl (wpAny_pure ?_))
 show wpAny _ _ (updateSeq Sx (fun _=>#[]) >>= fun _=>letGo (#[]:Array Value).toList.reverse >>= fun _=>Builtin.List.listExtendWith (.ref Sx) (.ref I) .none) _ _ s
 refine wpAny_bind (wpAny_updateSeq hS rfl ?_)
 have hS₂:=Heap.get?_update_self (Obj.mapSeq (fun _=>(#[]:Array Value))) hS rfl
 have oth:∀b o,b≠Sx->s.heap.get? b=some o->(s.heap.update Sx (Obj.mapSeq (fun _=>(#[]:Array Value)))).get? b=some o :=
  fun b o hb e=>(Heap.get?_update_other _ _ (Ne.symm hb)).trans e
 refine wpAny_bind (wpAny_letGo ?_)
 refine ue hh (hit.at fun o e=>oth I o (Ne.symm hSI) e) (hl.at fun o e=>oth l o (Ne.symm hSl) e) hlI hsz Sx .none _ hS₂ hSI hSl fun h' tk acc' c' hk hS' hacc=>?_
 exact hR h' tk acc' c' (fun b o hb hbI e=>hk b o hb hbI (oth b o hb e)) hS' hacc
theorem nq {Q:Value->Shared->Prop} (hh:A.handled=none) (hit:s.heap.IsRevIter I l ((items.size:Int) - 1)) (hl:s.heap.IsList l items) (hlI:l≠I) (hsz:items.size<=sizeLine)
  (hQ:∀h' tk acc' c',(∀b o,b≠I->s.heap.get? b=some o->h'.get? b=some o) ->
   h'.get? s.heap.objs.size=some { cls:=.type "list",dict:=none,data:=.seq acc' c',slots:=#[] }->ItemsOf (fun i v=>items[items.size - 1 - i]?=some v) acc' items.size->Q (.ref s.heap.objs.size) { s with heap:=h',toks:=tk }) :
  wpAny (model prog w) A (call (.type "list") [.ref I]) Q E s:=by
 refine callType_codes (Q₁:=fun obj s₁=>obj=.ref s.heap.objs.size/\s₁={ s with heap:=s.heap.push { cls:=.type "list",data:=.seq #[] } }) F.called_list (F.typeCall_list_1 _) F.entry_list_init
  (code_list_new _ ⟨rfl,rfl⟩) fun obj s₁ h₁=>?_
 obtain⟨rfl,rfl⟩:=h₁
 have hS:(s.heap.push { cls:=.type "list",data:=.seq #[] }).get? s.heap.objs.size=some { cls:=.type "list",data:=.seq #[] }:=Heap.get?_push_size _ rfl
 have hSI:s.heap.objs.size≠I:=by
  obtain⟨o,ho,_⟩:=hit
  exact Nat.ne_of_gt (Heap.lt_size ho)
 have hSl:s.heap.objs.size≠l:=by
  obtain⟨o,ho,_⟩:=hl
  exact Nat.ne_of_gt (Heap.lt_size ho)
 refine⟨⟨_,hS,rfl⟩,F.args_list_init_2 _ _,nk (A:=A.in1) hh (hit.at fun o e=>Heap.get?_push_of_some _ e) (hl.push _) hlI hsz _ hS hSI hSl fun h' tk acc' c' hk hS' hacc=>?_⟩
 exact⟨rfl,hQ h' tk acc' c' (fun b o hb e=>hk b o (Nat.ne_of_lt (Heap.lt_size e)) hb (Heap.get?_push_of_some _ e)) hS' hacc⟩
end
theorem xY {xs:List V}{its:List Value} (r:bW xs its) {acc:Array Value} (h:ItemsOf (fun i v=>its.toArray[its.toArray.size - 1 - i]?=some v) acc its.toArray.size):bW xs.reverse acc.toList:=by
 have e:acc.toList=its.reverse:=by
  obtain⟨hn,hi⟩:=h
  apply List.ext_getElem?
  intro i
  by_cases hil:i<its.length
  .have hia:i<acc.size:=by rw [hn];simpa using hil
   have:=hi i acc[i] (by simp)
   rw [List.getElem?_reverse hil]
   have e1:acc.toList[i]?=some acc[i]:=by simp
   rw [e1,<- this]
   simp
  .have hna:acc.toList.length=its.length:=by simpa using hn
   rw [List.getElem?_eq_none (by omega),List.getElem?_eq_none (by rw [List.length_reverse];omega)]
 rw [e]
 exact r.reverse
section
variable {X:Cx}{e:Expr}{te:TE}{p p1 p2 pos:Pos}
theorem uf (hc:X.calm=true) (he:PE X e te) (hg1:Gl X "list") (hm1:X.mg "list"=none) (hg2:Gl X "reversed") (hm2:X.mg "reversed"=none)
  (hs:starEach [.Call (.Name "reversed" p1) [e] [] p2] X.env=[(false,eval (.Call (.Name "reversed" p1) [e] [] p2) X.env)]:=by rfl) (hs2:starEach [e] X.env=[(false,eval e X.env)]:=by rfl) :
  PE X (.Call (.Name "list" p) [.Call (.Name "reversed" p1) [e] [] p2] [] pos) (fun σ H Q=>te σ H fun x H1=>∃a xs,x=.ref a/\SqL X.K H1 a xs/\∀l,H1 l=none->Q (.ref l) (upd H1 l (.lst xs.reverse))):=by
 intro pins s σ H Q I h
 refine Call_ (gc I hg1 hm1 boot_list (PyProof.Rows.callWith_type1 ?_ hs rfl))
 rw [hs]
 show wpAny _ _ (spliced ((false,eval (.Call (.Name "reversed" p1) [e] [] p2) X.env)::backTo pos [])) _ _ s
 refine Calls.spliced_cons ?_
 refine Call_ (gc I hg2 hm2 boot_reversed (PyProof.Rows.callWith_type1 ?_ hs2 rfl))
 rw [hs2]
 show wpAny _ _ (spliced ((false,eval e X.env)::backTo p2 [])) _ _ s
 refine Calls.spliced_cons (thn (he pins s σ H _ I h) fun u s1 ⟨x,H1,I1,r1,q1⟩=>Calls.spliced_nil ?_)
 obtain⟨a,xs,rfl,hS,q⟩:=q1
 cases r1
 obtain⟨its,rv,pl,hz⟩:=I1.list hS
 have hlen:=rv.length
 refine call_reversed_list pl.isList ?_
 refine Calls.spliced_nil ?_
 have hal:a<s1.heap.objs.size:=by
  obtain⟨o,ho,_⟩:=pl.isList
  exact Heap.lt_size ho
 have I2:Inv X pins σ H1 { s1 with heap:=s1.heap.push (revObj a ((its.toArray.size:Int) - 1)) }:=I1.kept (t':=s1.toks) fun b o e=>Heap.get?_push_of_some _ e
 refine nq (I1.ok.hd hc) (I:=s1.heap.objs.size) (l:=a) (items:=its.toArray) ⟨_,Heap.get?_push_size _ rfl,rfl,rfl⟩ (pl.isList.push _) (Nat.ne_of_lt hal) (by rw [List.size_toArray];omega) fun h' tk acc' c' hk eL hacc=>?_
 have hfI:=I1.fpOk (H':=H1) (Nat.le_refl s1.heap.objs.size) (I1.hok.fresh (Nat.le_refl _))
 obtain⟨f0,f1,f2,f3,f4,f5⟩:=hfI
 have hLn:H1 (s1.heap.push (revObj a ((its.toArray.size:Int) - 1))).objs.size=none:=I2.hok.fresh (Nat.le_refl _)
 have hLlt:∀b o,(s1.heap.push (revObj a ((its.toArray.size:Int) - 1))).get? b=some o->b≠(s1.heap.push (revObj a ((its.toArray.size:Int) - 1))).objs.size:=fun b o e=>Nat.ne_of_lt (Heap.lt_size e)
 have nit:∀b u,H1 b=some u->b≠s1.heap.objs.size:=fun b u e z=>by rw [z,f0] at e;cases e
 have neL:∀b u,H1 b=some u->b≠(s1.heap.push (revObj a ((its.toArray.size:Int) - 1))).objs.size:=fun b u e z=>by rw [z,hLn] at e;cases e
 have hokT:HOk X.prog X.w H1 h':=fun b u e=>by
  refine (I2.hok b u e).stay (fun c v hc q=>hk c v ?_ q) (fun _ q=>q) fun _ _ q=>q
  rcases hc with z|z
  .rw [z];exact nit b u e
  .exact nit c _ z
 refine⟨.ref _,upd H1 (s1.heap.push (revObj a ((its.toArray.size:Int) - 1))).objs.size (.lst xs.reverse),?_,rfl,q _ hLn⟩
 refine I2.step (g':=s1.gens) (d':=s1.drawn) (t':=tk) (ch:=[s1.heap.objs.size]) (fun b hb=>?_) (fun b o _ _ hc e _=>hk b o (fun z=>hc (by simp [z])) e) (fun b o _ _ hc e _=>⟨o.slots,hk b o (fun z=>hc (by simp [z])) e⟩)
  (fun b o _ e n=>by rw [aB (hLlt b o e)];exact n) (fun b o hc e=>⟨o,hk b o (fun z=>hc (by simp [z])) e⟩) (fun b ys e=>by rw [aB (neL b _ e)];exact e) (fun b o u e=>by rw [aB (neL b _ e)];exact e)
  (fun b ps e=>⟨#[],by rw [aB (neL b _ e),e];simp⟩) (fun m hm=>?_) ?_ I2.bare
 .have e:b=s1.heap.objs.size:=by simpa using hb
  subst e
  exact⟨f3,f1,f4,f5⟩
 .obtain⟨o,es,ep,ho,r⟩:=hm
  exact⟨o,es,ep,hk _ o (Ne.symm f1) ho,r⟩
 .intro b u e
  by_cases hb:b=(s1.heap.push (revObj a ((its.toArray.size:Int) - 1))).objs.size
  .subst hb
   rw [aL] at e
   cases e
   exact⟨by rw [List.length_reverse];exact hz,acc'.toList,c',xY rv hacc,by simpa using eL⟩
  .rw [aB hb] at e
   refine (hokT b u e).stay (fun c v _ q=>q) (fun c q=>?_) fun c ys q=>?_
   .rw [aB (neL c _ q)];exact q
   .rw [aB (neL c _ q)];exact q
end
def kI (k:Bool) (h:Heap) (a:Addr) (its:Array Value):Prop:=∃o,h.get? a=some o/\o.cls=.type (cond k "tuple" "list")/\∃n,o.data=.seq its n
def iL (k:Bool) (h:Heap) (it a:Addr) (i:Nat):Prop:=∃o,h.get? it=some o/\o.cls=.type (cond k "tuple_iterator" "list_iterator")/\o.data=.fields #[.ref a,.int i 0]
theorem kI.mv {k:Bool}{h h':Heap}{a:Addr}{its:Array Value} (r:kI k h a its) (f:∀o,h.get? a=some o->h'.get? a=some o):kI k h' a its:=let ⟨o,e,q⟩:=r;⟨o,f o e,q⟩
theorem iL.mv {k:Bool}{h h':Heap}{it a:Addr}{i:Nat} (r:iL k h it a i) (f:∀o,h.get? it=some o->h'.get? it=some o):iL k h' it a i:=let ⟨o,e,q⟩:=r;⟨o,f o e,q⟩
section
variable {P:Program}{w:World}{A:Around}{E:Value->Shared->Prop}{s:Shared}{k:Bool}{it a:Addr}{i:Nat}{its:Array Value}
theorem o0 {x:Value}{Q:Value->Shared->Prop} (W:s.heap.IsTupleIter it a i) (R:s.heap.IsTuple a its) (hx:its[i]?=some x)
  (hQ:∀h',h'.IsTupleIter it a (i+1)->Heap.SameBut it s.heap h'->Q x { s with heap:=h' }):wpAny (model P w) A (Builtin.SmallTypes.nextOf (.ref it)) Q E s:=by
 have hT:=W.typeIs
 obtain⟨o,ho,c,d⟩:=W
 obtain⟨ol,hol,_,nl,dl⟩:=R
 unfold Builtin.SmallTypes.nextOf
 refine wpAny_bind (wpAny_callSpecial?_slot (name:=Str.ofString "__next__") hT F.slot_tuple_iterator_next (wpAny_call_entry F.slot_tuple_iterator_next hT F.entry_tuple_iterator_next ?_ (F.args_tuple_iterator_next_1 _)))
 refine wpAny_bind (m:=field (.ref it) 0) (wpAny_field ho d (x:=.ref a) rfl ?_)
 have nn:¬ ((Value.ref a == Value.none)=true):=Bool.false_ne_true
 show wpAny _ _ (if (Value.ref a == Value.none)=true then _ else _) _ _ s
 rw [if_neg nn]
 refine wpAny_bind (m:=field (.ref it) 1) (wpAny_field ho d (x:=.int i 0) rfl ?_)
 refine wpAny_bind (m:=seqItems? (.ref a)) (wpAny_seqItems hol dl ?_)
 simp only [Int.toNat_natCast,hx]
 exact wpAny_bind (wpAny_setField ho d (by simp) (wpAny_pure ⟨x,rfl,wpAny_pure (hQ _ ⟨_,Heap.get?_update_self _ ho (Obj.isFreed_of_fields (Obj.data_mapFields d _)),(Obj.cls_mapFields ..).trans c,by rw [Obj.data_mapFields d];simp [rawInt]⟩ (Heap.SameBut.update ..))⟩))
theorem qL {Q:Value->Shared->Prop} (hh:A.handled=none) (W:s.heap.IsTupleIter it a i) (R:s.heap.IsTuple a its) (hx:its[i]?=none)
  (hE:∀h' e,Heap.ExtBut it s.heap h'->(∃o,h'.get? e=some o/\o.cls=.type "StopIteration")->E (.ref e) { s with heap:=h' }):wpAny (model P w) A (Builtin.SmallTypes.nextOf (.ref it)) Q E s:=by
 have hT:=W.typeIs
 obtain⟨o,ho,c,d⟩:=W
 obtain⟨ol,hol,_,nl,dl⟩:=R
 unfold Builtin.SmallTypes.nextOf
 refine wpAny_bind (wpAny_callSpecial?_slot (name:=Str.ofString "__next__") hT F.slot_tuple_iterator_next (wpAny_call_entry F.slot_tuple_iterator_next hT F.entry_tuple_iterator_next ?_ (F.args_tuple_iterator_next_1 _)))
 refine wpAny_bind (m:=field (.ref it) 0) (wpAny_field ho d (x:=.ref a) rfl ?_)
 have nn:¬ ((Value.ref a == Value.none)=true):=Bool.false_ne_true
 show wpAny _ _ (if (Value.ref a == Value.none)=true then _ else _) _ _ s
 rw [if_neg nn]
 refine wpAny_bind (m:=field (.ref it) 1) (wpAny_field ho d (x:=.int i 0) rfl ?_)
 refine wpAny_bind (m:=seqItems? (.ref a)) (wpAny_seqItems hol dl ?_)
 simp only [Int.toNat_natCast,hx]
 refine wpAny_bind (wpAny_rule (wpAny_bind (wpAny_setField ho d (by simp) (wpAny_bind (m:=newExc (.type "StopIteration") []) ?_))))
 simp only [newExc,newTuple]
 refine wpAny_bind (wpAny_newObj_type (wpAny_bind (m:=firstArgMember _ _) (wpAny_of_eq (a:=Value.none) (by first|rfl|(simp only [firstArgMember];rfl)) (wpAny_newObj_type ?_ (by size_fits)))) (by size_fits))
 simp only [raiseNew]
 refine wpAny_bind (wpAny_handled ?_)
 first|rw [show A.in1.handled=none from hh]|rw [hh]
 exact wpAny_bind (wpAny_pure (wpAny_throw (hE _ _ (((Heap.SameBut.update ..).extBut.push _).push _) ⟨_,Heap.get?_push_size _ rfl,rfl⟩)))
theorem o5 {x:Value}{Q:Value->Shared->Prop} (W:iL k s.heap it a i) (R:kI k s.heap a its) (hx:its[i]?=some x)
  (hQ:∀h',iL k h' it a (i+1)->Heap.SameBut it s.heap h'->Q x { s with heap:=h' }):wpAny (model P w) A (Builtin.SmallTypes.nextOf (.ref it)) Q E s:=by
 cases k with
|false=>exact wpAny_nextOf_list_item W R hx hQ
|true=>exact o0 W R hx hQ
theorem kJ {Q:Value->Shared->Prop} (hh:A.handled=none) (W:iL k s.heap it a i) (R:kI k s.heap a its) (hx:its[i]?=none)
  (hE:∀h' e,Heap.ExtBut it s.heap h'->(∃o,h'.get? e=some o/\o.cls=.type "StopIteration")->E (.ref e) { s with heap:=h' }):wpAny (model P w) A (Builtin.SmallTypes.nextOf (.ref it)) Q E s:=by
 cases k with
|false=>exact wpAny_nextOf_list_end hh W R hx hE
|true=>exact qL hh W R hx hE
end
def Sq (k:Bool) (K:PySem.W.Frag) (H:Hp) (a:Addr) (xs:List V):Prop:=cond k (SqT K H a xs) (SqL K H a xs)
section
variable {X:Cx}{pins:List (Addr×Obj)}{σ:St}{H:Hp}{s:Shared}{k l:Bool}{a b c:Addr}{xs ys:List V}
theorem Inv.row (I:Inv X pins σ H s) (h:Sq k X.K H a xs):∃its:List Value,bW xs its/\kI k s.heap a its.toArray/\xs.length<=sizeLine:=by
 cases k with
|false=>obtain⟨its,r,p,z⟩:=I.list h;exact⟨its,r,p.isList,z⟩
|true=>obtain⟨its,r,p,z⟩:=I.tuple h;exact⟨its,r,p,z⟩
theorem Inv.row_inj (I:Inv X pins σ H s) (h:Sq k X.K H a xs) (h':Sq k X.K H a ys):xs=ys:=by
 cases k with
|false=>exact I.list_inj h h'
|true=>exact I.tuple_inj h h'
theorem vJ {u:HO} (r:Rd H a u):∃v,H a=some v:=by
 rcases r with r|⟨o,r⟩ <;> exact⟨_,r⟩
theorem Inv.row_ne (I:Inv X pins σ H s) (h:Sq k X.K H a xs) (f:qE X pins H b):a≠b:=by
 have kk:∀o,X.K.lookup a=some o->a≠b:=fun o e z=>by
  have e1:=I.ok.mod.kin a o e
  rcases f.2.2.2.1 with q|q
  .exact I.ok.noex a o e1 (z ▸ q)
  .exact absurd (Nat.lt_of_lt_of_le (Heap.lt_size (I.ok.bs a o e1).1) (z ▸ q)) (Nat.lt_irrefl _)
 have hh:∀u,H a=some u->a≠b:=fun u e z=>by rw [z,f.1] at e;cases e
 cases k with
|false =>
  rcases h with r|⟨o,its,n,e,_⟩
  .obtain⟨v,e⟩:=vJ r;exact hh v e
  .exact kk o e
|true =>
  rcases h with r|⟨o,its,n,e,_⟩
  .obtain⟨v,e⟩:=vJ r;exact hh v e
  .exact kk o e
theorem Inv.yielded {h':Heap}{T:Addr}{zs:List V}{t':Nat}{ch:List Addr} (I:Inv X pins σ H s) (hf:∀b∈ch,qE X pins H b) (hT:s.heap.objs.size<=T)
  (kp:∀b o,b∉ch->s.heap.get? b=some o->h'.get? b=some o) (new:cF X.prog X.w (upd H T (.tup zs)) h' T (.tup zs)):Inv X pins σ (upd H T (.tup zs)) { s with heap:=h',toks:=t' }:=by
 have hn:H T=none:=I.hok.fresh hT
 have nT:∀b u,H b=some u->b≠T:=fun b u e z=>by rw [z,hn] at e;cases e
 have oT:∀b o,s.heap.get? b=some o->b≠T:=fun b o e z=>absurd (Nat.lt_of_lt_of_le (Heap.lt_size e) (z ▸ hT)) (Nat.lt_irrefl _)
 have nc:∀b u,H b=some u->b∉ch:=fun b u e z=>by rw [(hf b z).1] at e;cases e
 refine I.step (g':=s.gens) (d':=s.drawn) (ch:=ch) (fun b hb=>⟨(hf b hb).2.2.2.1,(hf b hb).2.1,(hf b hb).2.2.2.2.1,(hf b hb).2.2.2.2.2⟩) (fun b o _ _ hc e _=>kp b o hc e) (fun b o _ _ hc e _=>⟨o.slots,kp b o hc e⟩)
  (fun b o _ e n=>by rw [aB (oT b o e)];exact n) (fun b o hc e=>⟨o,kp b o hc e⟩) (fun b xs e=>by rw [aB (nT b _ e)];exact e) (fun b o u e=>by rw [aB (nT b _ e)];exact e)
  (fun b ps e=>⟨#[],by rw [aB (nT b _ e),e];simp⟩) (fun m hm=>?_) (fun b u e=>?_) I.bare
 .obtain⟨o,es,ep,ho,r⟩:=hm
  exact⟨o,es,ep,kp _ o (fun z=>(hf _ z).2.1 rfl) ho,r⟩
 .by_cases hb:b=T
  .subst hb;rw [aL] at e;cases e;exact new
  .rw [aB hb] at e
   refine (I.hok b u e).stay (fun c v hc q=>kp c v ?_ q) (fun c q=>by rw [aB (nT c _ q)];exact q) fun c xs q=>by rw [aB (nT c _ q)];exact q
   rcases hc with z|z
   .rw [z];exact nc b u e
   .exact nc c _ z
end
section
variable {P:Program}{w:World}{A:Around}{E:Value->Shared->Prop}{s:Shared}{k l:Bool}
abbrev qM (k:Bool) (a:Addr):Obj:={ cls:=.type (cond k "tuple_iterator" "list_iterator"),data:=.fields #[.ref a,.int 0 0] }
theorem jb {a:Addr}{its:Array Value}{Q:Value->Shared->Prop} (R:kI k s.heap a its) (hQ:Q (.ref s.heap.objs.size) { s with heap:=s.heap.push (qM k a) }):wpAny (model P w) A (pyIter (.ref a)) Q E s:=by
 cases k with
|false=>exact wpAny_pyIter_list R hQ
|true=>exact wpAny_pyIter_tuple R hQ
end
def stA (a b:List Nat) (i:Nat):Bool:=decide (i+b.length<=a.length/\(a.drop i).take b.length=b)
def fnd (a b:List Nat) (lo:Nat):Int:=match (List.range' lo (a.length+1 - lo)).find? (stA a b) with|some k=>(k:Int)|none=>-1
theorem o7 (s sub:Str) (hi:Nat):∀(l:List Nat) (st:Array Nat×Nat),st.fst.size=1->(forIn l st (StrLaws.occBody s sub hi 1)).run.fst=st.fst
|[],_,_=>rfl
|x::l,st,h=>by
  rw [List.forIn_cons]
  unfold StrLaws.occBody
  rw [if_neg (fun z=>by have:=z.1.1.1;omega)]
  exact o7 s sub hi l (st.fst,st.snd) h
theorem o8 (s sub:Str) (hi:Nat) (p:Nat->Bool) (hp:∀i,p i=true ↔ (i+sub.length<=hi/\Builtin.Str.subAt s sub i=true)):∀(l:List Nat) (free:Nat),(∀i∈l,free<=i) ->
  (forIn l ((#[]:Array Nat),free) (StrLaws.occBody s sub hi 1)).run.fst=(match l.find? p with|some k=>#[k]|none=>#[])
|[],_,_=>rfl
|x::l,free,hf=>by
  rw [List.forIn_cons,List.find?_cons]
  unfold StrLaws.occBody
  have hx:free<=x:=hf x (List.mem_cons_self ..)
  cases c:p x with
 |true =>
   have hc:=(hp x).mp c
   rw [if_pos ⟨⟨⟨by simp,hx⟩,hc.1⟩,hc.2⟩]
   exact o7 s sub hi l (#[x],x+sub.length) rfl
 |false =>
   rw [if_neg (fun z=>by
    have:=(hp x).mpr ⟨z.1.2,z.2⟩
    rw [c] at this;cases this)]
   exact o8 s sub hi p hp l free fun i h=>hf i (List.mem_cons_of_mem _ h)
theorem Az (a b:List Nat) (i:Nat):Builtin.Str.subAt (S a) (S b) i=decide ((a.drop i).take b.length=b):=by
 unfold Builtin.Str.subAt
 rw [gU]
 have e1:((S a).cps.extract i (i+b.length))=((a.drop i).take b.length).toArray:=by
  show a.toArray.extract _ _=_
  rw [List.extract_toArray,List.extract_eq_take_drop]
  congr 2
  omega
 rw [e1]
 show (((a.drop i).take b.length).toArray == b.toArray)=_
 by_cases h:(a.drop i).take b.length=b
 .rw [decide_eq_true h,h];simp
 .rw [decide_eq_false h,beq_eq_false_iff_ne]
  intro z
  exact h (by simpa using congrArg Array.toList z)
theorem vK (a b:List Nat) (lo:Nat):(match Builtin.Str.occurrences (S a) (S b) lo (S a).length 1 with|k::_=>(k:Int)|[]=>-1)=fnd a b lo:=by
 rw [StrLaws.occ_eq,gU,o8 (S a) (S b) a.length (stA a b) (fun i=>?_) _ lo (fun i hi=>(List.mem_range'_1.mp hi).1)]
 .unfold fnd
  cases (List.range' lo (a.length+1 - lo)).find? (stA a b) <;> rfl
 .unfold stA
  rw [Az,gU]
  simp
section
variable {X:Cx}
theorem xZ:MtR X "str.find" (fun x xs H Q=>∃a b,x=.str (S a)/\xs=[.str (S b)]/\Q (.int (fnd a b 0)) H):=by
 intro pins s σ H x xs v us Q I rx rs h
 obtain⟨a,b,rfl,rfl,q⟩:=h
 obtain⟨t,rfl⟩:=rx
 obtain⟨u,rfl,t',rfl⟩:=gT rs
 have e:Txt.find (S a) (S b)=fnd a b 0:=vK a b 0
 exact SC.find ⟨.int _,H,I.tok _,⟨_,rfl⟩,by rw [e];exact q⟩
end
theorem si {a b:List Nat}{lo:Nat} (h:fnd a b lo≠-1):∃k:Nat,fnd a b lo=(k:Int)/\lo<=k/\stA a b k=true/\∀j,lo<=j->j<k->stA a b j=false:=by
 unfold fnd at h ⊢
 cases e:(List.range' lo (a.length+1 - lo)).find? (stA a b) with
|none=>rw [e] at h;exact absurd rfl h
|some k =>
  obtain⟨h1,h2⟩:=List.find?_eq_some_iff_append.mp e
  obtain⟨as,bs,hl,hn⟩:=h2
  have hk:k∈List.range' lo (a.length+1 - lo):=by rw [hl];simp
  refine⟨k,rfl,(List.mem_range'_1.mp hk).1,h1,fun j hj1 hj2=>?_⟩
  have hj:j∈List.range' lo (a.length+1 - lo):=List.mem_range'_1.mpr ⟨hj1,by have:=(List.mem_range'_1.mp hk).2;omega⟩
  have hs:(List.range' lo (a.length+1 - lo)).Pairwise (·<·):=List.pairwise_lt_range'
  rw [hl] at hj hs
  rcases List.mem_append.mp hj with z|z
  .have:=hn j z
   simpa using this
  .rcases List.mem_cons.mp z with z|z
   .omega
   .have:=(List.pairwise_cons.mp (List.pairwise_append.mp hs).2.1).1 j z
    omega
theorem x0 {a b:List Nat}{lo:Nat} (h:fnd a b lo=-1):∀j,lo<=j->stA a b j=false:=by
 unfold fnd at h
 cases e:(List.range' lo (a.length+1 - lo)).find? (stA a b) with
|some k=>rw [e] at h;simp only at h;omega
|none =>
  intro j hj
  by_cases hlt:j<a.length+1
  .have:=List.find?_eq_none.mp e j (List.mem_range'_1.mpr ⟨hj,by omega⟩)
   simpa using this
  .unfold stA
   rw [decide_eq_false (fun z=>by have:=z.1;omega)]
section
variable {X:Cx}{tg:Expr}
def Itk (k:Bool) (K:PySem.W.Frag) (a:Addr):It:=cond k (Itt K a) (Itl K a)
def C1 (K:PySem.W.Frag):R2:=fun x y H Q=>∃l b xs zs,x=.ref l/\y=.ref b/\SqL K H l xs/\SqL K H b zs/\xs.length+zs.length<=sizeLine/\∀p,H p=none->Q (.ref p) (upd H p (.lst (xs++zs)))
theorem AA:OpR X (binaryOp .Add) (C1 X.K):=by
 intro pins s σ H x y v u Q I rx ry h
 obtain⟨l,b,xs,zs,rfl,rfl,hH,hB,hz,q⟩:=h
 cases rx
 cases ry
 obtain⟨its,r,pl,hl⟩:=I.list hH
 obtain⟨its2,r2,pl2,hl2⟩:=I.list hB
 obtain⟨⟨cls,dd,data,sl⟩,ho,hc,n,hd⟩:=pl.isList
 obtain⟨⟨cls2,dd2,data2,sl2⟩,ho2,hc2,n2,hd2⟩:=pl2.isList
 simp only at hc hd hc2 hd2
 subst hc hd hc2 hd2
 have n1:=r.length
 have n2':=r2.length
 have ea:its.toArray++its2.toArray=(its++its2).toArray:=by simp
 have fin:EP X pins σ Q (.ref s.heap.objs.size) { s with heap:=s.heap.push { cls:=.type "list",data:=.seq (its.toArray++its2.toArray) } }:=by
  rw [ea]
  exact⟨.ref _,_,I.lnew (t':=s.toks) (r.append r2) (by rw [List.length_append];omega),rfl,q _ I.fresh⟩
 exact concat_meets ⟨_,ho,rfl⟩ ⟨_,ho2,rfl⟩ noFill_list_add seq_list_add PySem.F.slot_list_add PySem.F.entry_list_add (PySem.F.args_list_add_2 _ _) (list_addW l b its.toArray its2.toArray n n2 dd dd2 sl sl2 (by simp;omega)) ⟨ho,ho2,fin⟩
end
theorem x3 {k:Bool}{K:PySem.W.Frag}{a:Addr}{xs:List V}{D:Addr}{g:TG}{tts:TT}{te:TE}{τ0:St}{H0:Hp}{Q:Hp->Prop} (Pv:Nat->List V->St->Hp->Prop) (h0:Pv 0 [] τ0 (upd H0 D (.lst [])))
  (hl:∀i ys τ H,i<=xs.length->Pv i ys τ H->Sq k K H a xs)
  (hs:∀i x ys τ H,xs[i]?=some x->Pv i ys τ H->∀(K1:St->V->Hp->Prop) (K2:St->Hp->Prop),(∀τ2 v H6,H6 D=some (.lst ys)->ys.length<sizeLine->Pv (i+1) (ys++[v]) τ2 (upd H6 D (.lst (ys++[v])))->K1 τ2 v H6) ->
   (∀τ2 H5,Pv (i+1) ys τ2 H5->K2 τ2 H5)->g x τ H fun τ2 H4=>tts τ2 H4 fun ok H5=>if ok=true then te τ2 H5 (fun v H6=>K1 τ2 v H6) else K2 τ2 H5)
  (hd:∀ys τ H,Pv xs.length ys τ H->Q H):j9 (Itk k K a) D g tts te τ0 H0 Q:=by
 cases k
 .exact vG (K:=K) (a:=a) Pv h0 hl hs hd
 .exact xU (K:=K) (a:=a) Pv h0 hl hs hd
def mD (n:Nat) (d:PyData):Prop:=d.canLay0=true/\d.depth<=n
theorem mD.shaped {n:Nat}{d:PyData} (h:mD n d) (hn:n<=64):SeqAt.shaped d=true:=by
 unfold SeqAt.shaped
 rw [h.1,decide_eq_true (Nat.le_trans h.2 hn)];rfl
theorem vL {n:Nat}:∀{ds:List PyData},(∀d∈ds,mD n d)->PyData.canLayAll0 ds=true/\PyData.depthAll ds<=n
|[],_=>⟨rfl,Nat.zero_le _⟩
|d::ds,h=>by
  obtain⟨a,b⟩:=vL (ds:=ds) fun x hx=>h x (List.mem_cons_of_mem _ hx)
  obtain⟨c,e⟩:=h d List.mem_cons_self
  simp only [PyData.canLayAll0,PyData.depthAll,a,c]
  exact⟨rfl,Nat.max_le.mpr ⟨e,b⟩⟩
theorem mD.list {n:Nat}{ds:List PyData} (h:∀d∈ds,mD n d):mD (n+1) (.list ds):=by
 obtain⟨a,b⟩:=vL h
 exact⟨by simp only [PyData.canLay0];exact a,by simp only [PyData.depth];omega⟩
theorem mD.int (i:Int):mD 0 (.int i):=⟨by simp [PyData.canLay0],by simp [PyData.depth]⟩
def Lts (l:List Nat):Prop:=∀c∈l,97<=c/\c<=122
theorem Lts.nil:Lts []:=fun c h=>nomatch h
theorem Lts.app {a b:List Nat} (x:Lts a) (y:Lts b):Lts (a++b):=fun c h=>(List.mem_append.mp h).elim (x c) (y c)
theorem Lts.one {c:Nat} (h:97<=c/\c<=122):Lts [c]:=fun d hd=>by
 have:d=c:=by simpa using hd
 subst this;exact h
theorem Lts.take {a:List Nat} (x:Lts a) (n:Nat):Lts (a.take n):=fun c h=>x c (List.mem_of_mem_take h)
theorem Lts.drop {a:List Nat} (x:Lts a) (n:Nat):Lts (a.drop n):=fun c h=>x c (List.mem_of_mem_drop h)
theorem Lts.rep {a:List Nat} (x:Lts a) (n:Int):Lts (kA a n):=fun c h=>by
 unfold kA at h
 obtain⟨l,h1,h2⟩:=List.mem_flatten.mp h
 rw [List.eq_of_mem_replicate h1] at h2
 exact x c h2
theorem mD.str {l:List Nat} (h:Lts l):mD 0 (.str (S l)):=by
 refine⟨?_,by simp [PyData.depth]⟩
 simp only [PyData.canLay0,PyData.strOk,S]
 rw [Array.all_eq_true]
 intro i hi
 have:=h l[i] (List.getElem_mem _)
 simp only [List.getElem_toArray,decide_eq_true_eq]
 omega
theorem vM (ns:List Int):∀d∈ns.map PyData.int,mD 0 d:=fun d hd=>by
 obtain⟨i,_,rfl⟩:=List.mem_map.mp hd
 exact mD.int i
theorem ug {ws:List (List Nat)} (h:∀w∈ws,Lts w):∀d∈ws.map (fun w=>PyData.str (S w)),mD 0 d:=fun d hd=>by
 obtain⟨i,hi,rfl⟩:=List.mem_map.mp hd
 exact mD.str (h i hi)
theorem o9 {ws:List (List Nat)} (h:∀w∈ws,Lts w):SeqAt.shaped (.list (ws.map fun w=>PyData.str (S w)))=true:=(mD.list (ug h)).shaped (by decide)
theorem x4 {d:PyData} (h:SeqAt.shaped d=true):PyData.eqv d d=true:=SeqAt.eqv_refl d (SeqAt.canLay_of_shaped h)
theorem kK (p:Nat->Prop) (h0:p 0):∀n,0<n->∃k,k<n/\p k/\∀j,j<n->p j->j<=k
|0,h=>absurd h (by decide)
|1,_=>⟨0,by decide,h0,fun j hj _=>by omega⟩
|n+2,_=>by
  obtain⟨k,h1,h2,h3⟩:=kK p h0 (n+1) (by omega)
  by_cases c:p (n+1)
  .exact⟨n+1,by omega,c,fun j hj _=>by omega⟩
  .refine⟨k,by omega,h2,fun j hj hp=>?_⟩
   by_cases e:j=n+1
   .subst e;exact absurd hp c
   .exact h3 j (by omega) hp
section
variable {κ:Type} [DecidableEq κ]
def vN (kvs:List (κ×V)) (k:κ) (v:V):List (κ×V) :=
 if (kvs.any fun kv=>decide (kv.1=k))=true then kvs.map (fun kv=>if kv.1=k then (kv.1,v) else kv) else kvs++[(k,v)]
theorem qN (kvs:List (κ×V)) (k:κ) (v:V):(vN kvs k v).length<=kvs.length+1:=by
 unfold vN
 split
 .rw [List.length_map];omega
 .rw [List.length_append,List.length_cons,List.length_nil];omega
theorem KV.any {kvs:List (κ×V)}{vs:List (κ×Value)} (r:KV kvs vs) (k:κ):(kvs.any fun kv=>decide (kv.1=k))=vs.any fun kv=>decide (kv.1=k):=by
 unfold KV at r
 induction r with
|nil=>rfl
|cons h t ih=>rw [List.any_cons,List.any_cons,ih,h.1]
theorem KV.repl {kvs:List (κ×V)}{vs:List (κ×Value)} (r:KV kvs vs) (k:κ) {y:V}{u:Value} (ry:dh y u) :
  KV (kvs.map fun kv=>if kv.1=k then (kv.1,y) else kv) (vs.map fun kv=>if kv.1=k then (kv.1,u) else kv):=by
 unfold KV at r ⊢
 induction r with
|nil=>exact .nil
|@cons p q ps qs h t ih =>
  rw [List.map_cons,List.map_cons]
  refine .cons ?_ ih
  obtain⟨h1,h2⟩:=h
  by_cases e:p.1=k
  .rw [if_pos e,if_pos (h1.symm.trans e)];exact⟨h1,ry⟩
  .rw [if_neg e,if_neg (fun z=>e (h1.trans z))];exact⟨h1,h2⟩
theorem KV.put {kvs:List (κ×V)}{vs:List (κ×Value)} (r:KV kvs vs) (k:κ) {y:V}{u:Value} (ry:dh y u):KV (vN kvs k y) (stored vs k u):=by
 unfold vN stored
 rw [r.any k]
 by_cases e:(vs.any fun kv=>decide (kv.1=k))=true
 .rw [if_pos e,if_pos e];exact r.repl k ry
 .rw [if_neg e,if_neg e];exact Paired.snoc r ⟨rfl,ry⟩
theorem KV.length {kvs:List (κ×V)}{vs:List (κ×Value)} (r:KV kvs vs):kvs.length=vs.length:=Paired.length r
end
theorem EM {P:Program}{w:World}{k:Key}{u:Value} (r:dh (kV k) u):(eV P w).is k u=true:=by
 cases k with
|inl i=>obtain⟨t,e⟩:=(show ∃t,u=Value.int i t from r);subst e;exact qB P w i t
|inr x=>obtain⟨t,e⟩:=(show ∃t,u=Value.str x t from r);subst e;exact qC P w x t
section
variable {P:Program}{w:World}{H:Hp}{h:Heap}{a:Addr}
theorem EN {u:HO} (ok:HOk P w H h) (e:Rd H a u):cF P w H h a u:=e.ok ok
theorem C2 {kvs:List (Key×V)} (ok:HOk P w H h) (e:Rd H a (.dK kvs)):kvs.length<=sizeLine/\(a == sysModules)=false/\∃vs,KV kvs vs/\h.DictOf (eV P w) a vs :=
 show cF P w H h a (.dK kvs) from EN ok e
theorem EO {kvs:List (Key×V)} (ok:HOk P w H h) (e:H a=some (.dK kvs)):kvs.length<=sizeLine/\(a == sysModules)=false/\∃vs,KV kvs vs/\h.DictOf (eV P w) a vs:=C2 ok (.inl e)
end
section
variable {X:Cx}{pins:List (Addr×Obj)}{σ:St}{H:Hp}{s:Shared}{a:Addr}{y v:V}{u r:Value}{o:Option V}{A:Around}{E:Value->Shared->Prop}
theorem Inv.big (I:Inv X pins σ H s):sysModules<s.heap.objs.size:=by
 have h:mainGlobals<s.heap.objs.size:=(I.mod.glob.keeps I.bk).lt
 exact Nat.lt_trans (by decide) h
theorem AB {h':Heap}{t':Nat}{ob:HO} (I:Inv X pins σ H s) (mu:Mut (H a)) (hs:Heap.SameBut a s.heap h') (he:∃q,h'.get? a=some q) (new:cF X.prog X.w (upd H a ob) h' a ob) :
  Inv X pins σ (upd H a ob) { s with heap:=h',toks:=t' } :=
 I.write (x:=a) (e:=a) mu (.inl rfl) (fun b q hb z=>(hs.2 b hb).trans z) he new
theorem C3 {P:Program}{w:World}{H':Hp}{h':Heap}{kvs:List (Key×V)}{vs:List (Key×Value)} (z:kvs.length<=sizeLine) (hd:(a == sysModules)=false) (rel:KV kvs vs) (dd:h'.DictOf (eV P w) a vs) :
  cF P w H' h' a (.dK kvs):=⟨z,hd,vs,rel,dd⟩
end
section
variable {X:Cx}{pins:List (Addr×Obj)}{σ:St}{H:Hp}{s:Shared}{a:Addr}{kvs:List (Key×V)}{k:Key}{u:Value}{A:Around}{E:Value->Shared->Prop}
theorem EQ {Q:Value->Shared->Prop} (I:Inv X pins σ H s) (e:Rd H a (.dK kvs)) (h:∀t s',Inv X pins σ H s'->Q (.int kvs.length t) s'):wpAny (model X.prog X.w) A (call (.builtin "len") [.ref a]) Q E s:=by
 obtain⟨z,hd,vs,rel,dd⟩:=C2 I.hok e
 refine call_len_dict hd dd (by rw [<- rel.length];rw [sizeLine_eq] at z;omega) ?_
 rw [<- rel.length]
 exact h _ _ (I.tok _)
end
theorem sj {P:Program}{w:World}{H:Hp} (h:Heap) (hb:sysModules<h.objs.size):cF P w H (h.push { cls:=.type "dict",data:=.dict #[] }) h.objs.size (.dK []) :=
 ⟨Nat.zero_le _,beq_eq_false_iff_ne.mpr (Ne.symm (Nat.ne_of_lt hb)),[],.nil,Heap.DictOf.new h⟩
def zn:TE:=fun _ H Q=>∀p,H p=none->Q (.ref p) (upd H p (.dK []))
section
variable {X:Cx}{pos:Pos}
theorem sk:PE X (.Dict [] [] pos) zn:=fun pins s σ H Q I h =>
 wpAny_Dict_empty ⟨.ref s.heap.objs.size,_,I.laid (a:=s.heap.objs.size) (o:=.dK []) (t':=s.toks) (fun _ _ q=>Heap.get?_push_of_some _ q) (Nat.le_refl _) (sj s.heap I.big),rfl,h _ (I.hok.fresh (Nat.le_refl _))⟩
end
def sm:List (TE×TE)->St->Hp->(List (V×V)->Hp->Prop)->Prop
|[],_,H,Q=>Q [] H
 | (tk,tv)::r,σ,H,Q=>tk σ H fun x H1=>tv σ H1 fun y H2=>sm r σ H2 fun ps H3=>Q ((x,y)::ps) H3
abbrev VV:List (V×V)->List (Value×Value)->Prop:=Paired fun p q=>dh p.1 q.1/\dh p.2 q.2
def PPs (X:Cx) (pos:Pos) (keys:List (Option Expr)) (values:List Expr) (trs:List (TE×TE)):Prop :=
 ∀(pins:List (Addr×Obj)) (s:Shared) (σ:St) (H:Hp) (Q:List (V×V)->Hp->Prop),Inv X pins σ H s->sm trs σ H Q ->
  wpAny (model X.prog X.w) X.A (evalPairs (pairTrees keys values X.env pos)) (fun vs s'=>∃ps H',Inv X pins σ H' s'/\VV ps vs/\Q ps H') X.xe s
theorem vO {X:Cx}{pos:Pos}:PPs X pos [] [] []:=fun pins s σ H Q I h=>pairTrees_nil_walk ⟨[],H,I,.nil,h⟩
theorem ss {X:Cx}{pos:Pos}{k v:Expr}{ks:List (Option Expr)}{vs:List Expr}{tk tv:TE}{trs:List (TE×TE)} (hk:PE X k tk) (hv:PE X v tv) (hr:PPs X pos ks vs trs) :
  PPs X pos (some k::ks) (v::vs) ((tk,tv)::trs):=fun pins s σ H Q I h =>
 pairTrees_cons_walk (thn (hk pins s σ H _ I h) fun u s1 ⟨x,H1,I1,rx,q1⟩=>thn (hv pins s1 σ H1 _ I1 q1) fun w2 s2 ⟨y,H2,I2,ry,q2⟩ =>
  thn (hr pins s2 σ H2 _ I2 q2) fun ws s3 ⟨ps,H3,I3,rel,q3⟩=>⟨(x,y)::ps,H3,I3,.cons ⟨rx,ry⟩ rel,q3⟩)
def jD (kvs more:List (Key×V)):List (Key×V):=more.foldl (fun acc kv=>vN acc kv.1 kv.2) kvs
theorem KV.merge:∀{more:List (Key×V)}{rs:List (Key×Value)}{kvs:List (Key×V)}{vs:List (Key×Value)},KV more rs->KV kvs vs->KV (jD kvs more) (merged vs rs):=by
 intro more rs kvs vs r
 unfold KV at r
 induction r generalizing kvs vs with
|nil=>intro q;exact q
|@cons p q ps qs h t ih =>
  intro r0
  have e:KV (vN kvs p.1 p.2) (stored vs q.1 q.2):=by
   have:=r0.put p.1 h.2
   rw [<- h.1];exact this
  exact ih e
theorem iM:∀(more kvs:List (Key×V)),(jD kvs more).length<=kvs.length+more.length
|[],kvs=>by show kvs.length<=kvs.length+0;omega
|p::r,kvs=>by
  have h1:=iM r (vN kvs p.1 p.2)
  have h2:=qN kvs p.1 p.2
  show (jD (vN kvs p.1 p.2) r).length<=_
  rw [List.length_cons];omega
theorem mE {P:Program}{w:World}:∀{kvs:List (Key×V)}{ws:List (Value×Value)},VV (kvs.map fun kv=>(kV kv.1,kv.2)) ws->∃rs,Carries (eV P w) ws rs/\KV kvs rs
|[],_,r=>by rw [List.map_nil] at r;cases r;exact⟨[],True.intro,.nil⟩
|p::kvs,_,r=>by
  rw [List.map_cons] at r
  cases r with
 |@cons a b as bs h t =>
   obtain⟨rs,c,q⟩:=mE (P:=P) (w:=w) t
   obtain⟨b1,b2⟩:=b
   exact⟨(p.1,b2)::rs,⟨EM h.1,rfl,c⟩,.cons ⟨rfl,h.2⟩ q⟩
def C4 (trs:List (TE×TE)):TE:=fun σ H Q=>∀p,H p=none->sm trs σ (upd H p (.dK [])) fun ps H2=>H2 p=some (.dK [])/\∃kvs:List (Key×V),ps=kvs.map (fun kv=>(kV kv.1,kv.2))/\kvs.length<=15/\Q (.ref p) (upd H2 p (.dK (jD [] kvs)))
theorem vP {X:Cx}{pos:Pos}{keys:List (Option Expr)}{values:List Expr}{trs:List (TE×TE)} (h:PPs X pos keys values trs) (hall:keys.all (·.isSome)=true) (hl:keys.length=values.length) (h0:keys≠[])
  (h15:keys.length<=15):PE X (.Dict keys values pos) (C4 trs):=by
 intro pins s σ H Q I q
 have hn:=I.hok.fresh (Nat.le_refl s.heap.objs.size)
 have I1:=I.laid (a:=s.heap.objs.size) (o:=.dK []) (h':=s.heap.push { cls:=.type "dict",data:=.dict #[] }) (t':=s.toks) (fun _ _ q=>Heap.get?_push_of_some _ q) (Nat.le_refl _) (sj s.heap I.big)
 refine wpAny_Dict_walk (knd:=eV X.prog X.w) hall hl h0 h15 (thn (h pins _ σ _ _ I1 (q _ hn)) fun ws s2 ⟨ps,H2,I2,rel,e,kvs,ep,lk,q2⟩=>?_)
 subst ep
 obtain⟨rs,c,rk⟩:=mE (P:=X.prog) (w:=X.w) rel
 obtain⟨z,hd,vs0,r0,dd⟩:=EO I2.hok e
 cases r0
 refine⟨rs,c,dd,fun h' dd' hs=>⟨.ref s.heap.objs.size,_,?_,rfl,q2⟩⟩
 have hz:(jD [] kvs).length<=sizeLine:=by
  have h1:=iM kvs []
  rw [List.length_nil] at h1
  rw [sizeLine_eq];omega
 have he:∃q,h'.get? s.heap.objs.size=some q:=let ⟨q,_,_,hq,_⟩:=dd';⟨q,hq⟩
 exact AB I2 (by rw [e];exact True.intro) hs he (C3 hz hd (rk.merge .nil) dd')
section
variable {X:Cx}
theorem nr {x:Str}{i:Int}{pos:Pos} (hg:Gl X x) (h:∃t,X.mg x=some (.int i t)) (hd:(x == ("__debug__":Str))=false:=by decide):PE X (.Name x pos) (tC (.int i)):=by
 obtain⟨t,e⟩:=h
 exact zY (u:=.int i t) hg e ⟨t,rfl⟩ hd
end
structure C5 (P:Program) (w:World) (K:PySem.W.Frag) (mg:Str->Option Value) (base:Heap) (k:Nat) (x:Str) (ps:List Str) (dvs:List V) (sp:Sp):Prop where
 ex:∃(f:Addr) (fd:FuncData),m7 P w K mg base CX0 k f fd ps sp/\(∀n,n<=dvs.length->∃ds,bW (dvs.drop n) ds/\jY K fd ps ds)/\PySem.W.keepIn K (.ref f)=true/\mg x=some (.ref f)
structure su (K:PySem.W.Frag) (mg:Str->Option Value) (x:Str) (st:Stmt) (dvs:List V):Prop where
 ex:∃(f dT:Addr) (oc:Value) (od an dd:Option Addr) (kV doc pm cdv ct:Value) (osl sl:Array (Option Value)) (items:List Value) (n:Nat),
  K.lookup f=some ⟨oc,od,.func (PySem.W.fnOf x x (cY st) (ci st) (ar st) (.ref dT) kV doc pm an cdv ct),osl⟩/\PySem.W.codeIn K cdv x=true/\PySem.W.keepIn K (.ref f)=true/\mg x=some (.ref f) /\
  K.lookup dT=some ⟨.type "tuple",dd,.seq items.toArray n,sl⟩/\bW dvs items
section
variable {P:Program}{w:World}{K:PySem.W.Frag}{mg:Str->Option Value}{base:Heap}{x:Str}{st:Stmt}{N ps:List Str}{k:Nat}{sp:Sp}{dvs:List V}
theorem su.ok (D:su K mg x st dvs) (S:aO N ps (ar st))
  (hb:∀(dT:Addr) (kV doc pm:Value) (an:Option Addr) (cdv ct:Value) (items:List Value) (us:List Value) (n:Nat),items.length=dvs.length->n<=dvs.length->(us++items.drop n).length=ps.length ->
   ∃k,bindArgs (PySem.W.fnOf x x (cY st) (ci st) (ar st) (.ref dT) kV doc pm an cdv ct) ⟨us,[]⟩=seqItems? (.ref dT) >>= k/\k (some items.toArray)=pure (ps.zip (us++items.drop n)))
  (len:∀vs H Q E,sp vs H Q E->vs.length=ps.length)
  (hbody:∀(f:Addr) (cdv:Value) (A:Around) (outer:List Env) (s:Shared) (H:Hp) (vs:List V) (Q:VK) (E:XK),gh k (A.deeper (envOfC x (ar st) s.heap.objs.size f cdv))->sp vs H Q E ->
   ∃t,PSs (xA CX0 P w K mg base N x (ar st) f cdv A outer s H E).nox (ci st) t/\t { nx:=fun _ H'=>Q .non H',rt:=Q } (start N vs) H):C5 P w K mg base (k+1) x ps dvs sp:=by
 obtain⟨f,dT,oc,od,an,dd,kV,doc,pm,cdv,ct,osl,sl,items,n,lk,hcd,kp,hm,lt,rv⟩:=D.ex
 have hl:=rv.length
 refine⟨f,_,Cw lk hcd S len fun A outer s H vs Q E hr hsp=>?_,fun j hj=>⟨items.drop j,rv.drop j,fun s us X hlen=>?_⟩,kp,hm⟩
 .obtain⟨t,h,q⟩:=hbody f cdv A outer s H vs Q E hr hsp
  exact⟨t,h.nox,q⟩
 .obtain⟨k,h1,h2⟩:=hb dT kV doc pm an cdv ct items us j hl.symm hj hlen
  exact BindsTo.of_defaults rfl (X dT _ lt) rfl h1 h2
end
section
variable {X:Cx}{k:Nat}{x:Str}{ps:List Str}{sp:Sp}{p pos:Pos}{e:Expr}{es:List Expr}{t:TA}{dvs:List V}
theorem AC (j:Nat) (C:C5 X.prog X.w X.K X.mg X.base k x ps dvs sp) (hr:gh k X.A) (hj:j<=dvs.length) (ha:PA X (e::es) t) (hg:Gl X x:=by rfl) (hdb:(x == ("__debug__":Str))=false:=by decide) (he:starEach (e::es) X.env=(false,eval e X.env)::starEach es X.env:=by rfl)
  (hpl:(backTo pos (starEach es X.env)).any (·.1)=false:=by rfl):PE X (.Call (.Name x p) (e::es) [] pos) (eB sp (dvs.drop j) E0 t):=by
 obtain⟨f,fd,F,hb,hk,hm⟩:=C.ex
 obtain⟨ds,rv,hb⟩:=hb j hj
 exact vc F hr hg hm hk hb rv xR ha hdb he hpl
theorem C6 {pins:List (Addr×Obj)}{σ:St}{H:Hp}{s:Shared}{x:V}{u t:Value} (I:Inv X pins σ H s) (rx:dh x u) (ty:oz X.K H x t) :
  ∃Hq:Heap->Prop,PySem.W.KitX X.K u t Hq/\Hq s.heap/\u≠.builtin "__main__.__loader__#opaque":=by
 cases ty with
|non=>cases (show u=Value.none from rx);exact⟨_,PySem.W.kitx_none,True.intro,fun z=>nomatch z⟩
|bl y=>cases (show u=Value.bool y from rx);exact⟨_,PySem.W.kitx_bool,True.intro,fun z=>nomatch z⟩
|int i=>obtain⟨t,q⟩:=(show ∃t,u=Value.int i t from rx);cases q;exact⟨_,PySem.W.kitx_int,True.intro,fun z=>nomatch z⟩
|str y=>obtain⟨t,q⟩:=(show ∃t,u=Value.str y t from rx);cases q;exact⟨_,PySem.W.kitx_str,True.intro,fun z=>nomatch z⟩
|flt y=>obtain⟨t,q⟩:=(show ∃t,u=Value.float y t from rx);cases q;exact⟨_,PySem.W.kitx_float,True.intro,fun z=>nomatch z⟩
|@lst a xs ea =>
  cases (show u=Value.ref a from rx)
  obtain⟨_,_,n,_,h1⟩:=(show cF X.prog X.w H s.heap a (.lst xs) from I.hok a _ ea)
  exact⟨_,PySem.W.kitx_list,⟨_,h1,rfl⟩,fun z=>nomatch z⟩
|@frz a ob xs ea =>
  cases (show u=Value.ref a from rx)
  obtain⟨_,_,_,n,_,h1⟩:=(show cF X.prog X.w H s.heap a (.frz ob (.lst xs)) from I.hok a _ ea)
  exact⟨_,PySem.W.kitx_list,⟨_,h1,rfl⟩,fun z=>nomatch z⟩
|@tup a xs ea =>
  cases (show u=Value.ref a from rx)
  obtain⟨_,_,_,p⟩:=(show cF X.prog X.w H s.heap a (.tup xs) from I.hok a _ ea)
  obtain⟨o,h1,h2,_⟩:=p
  exact⟨_,PySem.W.kitx_tuple,⟨o,h1,h2⟩,fun z=>nomatch z⟩
|@dK a kvs ea =>
  cases (show u=Value.ref a from rx)
  obtain⟨_,_,vs,_,p⟩:=(show cF X.prog X.w H s.heap a (.dK kvs) from I.hok a _ ea)
  obtain⟨o,es,ep,h1,h2,_⟩:=p
  exact⟨_,PySem.W.kitx_dict,⟨o,h1,h2.1⟩,fun z=>nomatch z⟩
|@dT a kvs ea =>
  cases (show u=Value.ref a from rx)
  obtain⟨_,_,xs,_,o,es,ep,h1,h2,_⟩:=(show cF X.prog X.w H s.heap a (.dT kvs) from I.hok a _ ea)
  exact⟨_,PySem.W.kitx_dict,⟨o,h1,h2.1⟩,fun z=>nomatch z⟩
|@ins a C dx fs ea cl ha hn htk hm =>
  cases (show u=Value.ref a from rx)
  obtain⟨mA,O,_⟩:=ku I.hok ea
  obtain⟨od,J,_⟩:=O.look
  exact⟨_,PySem.W.kitx_own (cl.get _) cl.hd ha hn htk hm,J,fun z=>nomatch z⟩
theorem sv:∀{ts:List String}{us:List Value},bW (ts.map V.ty) us->us=ts.map Value.type
|[],_,.nil=>rfl
|t::ts,_,.cons r rr=>by rw [sv rr,show _=Value.type t from r];rfl
theorem pd:cw X (.builtin "isinstance") (fun xs H Q=>∃(x:V) (p:Addr) (ts:List String) (t:Value) (b:Bool),xs=[x,.ref p]/\oz X.K H x t/\H p=some (.tup (ts.map V.ty))/\PySem.W.kitAny X.K t (ts.map Value.type)=some b/\Q (.bl b) H):=by
 intro pins s σ H xs us Q I r h
 obtain⟨x,p,ts,t,b,rfl,ty,hp,e,q⟩:=h
 obtain⟨u,w',rfl,rx,ry⟩:=Ab r
 cases (show w'=Value.ref p from ry)
 obtain⟨Hq,Z,hq,hx⟩:=C6 I rx ty
 obtain⟨its,rv,⟨⟨cls,dd,data,sl⟩,ho,hc,n,hd⟩,_⟩:=I.tuple (SqT.of hp)
 simp only at hc hd
 subst hc hd
 exact PySem.W.kia_tup Z I.kIn hq ho (by rw [sv rv];exact e) hx fun tk=>⟨.bl b,H,I.tok _,rfl,q⟩
theorem C7:OpR X (compareOp .Is) (fun x y H Q=>∃b c,x=.bl b/\y=.bl c/\Q (.bl (decide (b=c))) H):=by
 intro pins s σ H x y v u Q I rx ry h
 obtain⟨b,c,rfl,rfl,q⟩:=h
 cases (show v=Value.bool b from rx)
 cases (show u=Value.bool c from ry)
 cases b <;> cases c <;> exact wpAny_pure (bA I q (by first|rfl|decide))
theorem vQ:OpR X (compareOp .IsNot) (fun x y H Q=>∃b c,x=.bl b/\y=.bl c/\Q (.bl (!decide (b=c))) H):=by
 intro pins s σ H x y v u Q I rx ry h
 obtain⟨b,c,rfl,rfl,q⟩:=h
 cases (show v=Value.bool b from rx)
 cases (show u=Value.bool c from ry)
 cases b <;> cases c <;> exact wpAny_pure (bA I q (by first|rfl|decide))
theorem nt (bs:List Bool):(List.range bs.length).all (fun i=>bs.getD i false)=bs.all id:=by
 induction bs with
|nil=>rfl
|cons b bs ih=>rw [List.length_cons,List.range_succ_eq_map,List.all_cons,List.all_map,List.all_cons,<- ih];rfl
theorem nu (bs:List Bool):(List.range bs.length).any (fun i=>bs.getD i false)=bs.any id:=by
 induction bs with
|nil=>rfl
|cons b bs ih=>rw [List.length_cons,List.range_succ_eq_map,List.any_cons,List.any_map,List.any_cons,<- ih];rfl
theorem vR {bs:List Bool}{its:List Value} (r:bW (bs.map V.bl) its) {i:Nat}{v:Value} (h:its.toArray[i]?=some v):v=.bool (bs.getD i false):=by
 have h':its[i]?=some v:=by simpa using h
 have hl:=r.length
 rw [List.length_map] at hl
 have hi:i<bs.length:=by have:=(List.getElem?_eq_some_iff.mp h').1;omega
 obtain⟨u,e1,e2⟩:=r.get (i:=i) (x:=V.bl bs[i]) (by rw [List.getElem?_map,List.getElem?_eq_getElem hi];rfl)
 rw [h'] at e1
 cases e1
 rw [show v=Value.bool bs[i] from e2,List.getD_eq_getElem?_getD,List.getElem?_eq_getElem hi];rfl
theorem x5 (hc:X.calm=true):cw X (.builtin "all") (fun xs H Q=>∃(p:Addr) (bs:List Bool),xs=[.ref p]/\SqL X.K H p (bs.map V.bl)/\Q (.bl (bs.all id)) H):=by
 intro pins s σ H xs us Q I r h
 obtain⟨p,bs,rfl,hS,q⟩:=h
 obtain⟨u,rfl,ru⟩:=gT r
 cases (show u=Value.ref p from ru)
 obtain⟨its,rv,pl,hz⟩:=I.list hS
 have hl:=rv.length
 rw [List.length_map] at hl
 have hps:p<s.heap.objs.size:=let ⟨o,ho,_⟩:=pl.isList;Heap.lt_size ho
 obtain⟨f0,f1,f2,f3,f4,f5⟩:=I.fpOk (H':=H) (Nat.le_refl s.heap.objs.size) (I.hok.fresh (Nat.le_refl _))
 refine call_all_walk (wpAny_pyIter_list pl.isList ⟨s.heap.objs.size,_,_,its.toArray.size,_,_,fun i=>bs.getD i false,rfl,Walks.list (by exact I.ok.hd hc) s.heap.objs.size p (Nat.ne_of_lt hps) its.toArray,⟨⟨_,Heap.get?_push_size _ rfl,rfl,rfl⟩,pl.isList.push _⟩,fun i v s Q E hP hQ=>?_,fun h' tk hk=>?_⟩)
 .rw [vR rv hP];exact wpAny_truthy_bool hQ
 .have I1:Inv X pins σ H { s with heap:=s.heap.push { cls:=.type "list_iterator",data:=.fields #[.ref p,.int 0 0] } }:=I.kept (t':=s.toks) fun b o e=>Heap.get?_push_of_some _ e
  have I2:=I1.turned (h':=h') (t':=tk) (it:=s.heap.objs.size) (fun b o hb e=>hk b o (by simpa using hb) e) f0 f1 f3 f4 f5
  refine⟨.bl (bs.all id),H,I2,?_,q⟩
  show Value.bool _=Value.bool _
  rw [List.size_toArray,<- hl,nt]
theorem x6 (hc:X.calm=true):cw X (.builtin "any") (fun xs H Q=>∃(p:Addr) (bs:List Bool),xs=[.ref p]/\SqL X.K H p (bs.map V.bl)/\Q (.bl (bs.any id)) H):=by
 intro pins s σ H xs us Q I r h
 obtain⟨p,bs,rfl,hS,q⟩:=h
 obtain⟨u,rfl,ru⟩:=gT r
 cases (show u=Value.ref p from ru)
 obtain⟨its,rv,pl,hz⟩:=I.list hS
 have hl:=rv.length
 rw [List.length_map] at hl
 have hps:p<s.heap.objs.size:=let ⟨o,ho,_⟩:=pl.isList;Heap.lt_size ho
 obtain⟨f0,f1,f2,f3,f4,f5⟩:=I.fpOk (H':=H) (Nat.le_refl s.heap.objs.size) (I.hok.fresh (Nat.le_refl _))
 refine call_any_walk (wpAny_pyIter_list pl.isList ⟨s.heap.objs.size,_,_,its.toArray.size,_,_,fun i=>bs.getD i false,rfl,Walks.list (by exact I.ok.hd hc) s.heap.objs.size p (Nat.ne_of_lt hps) its.toArray,⟨⟨_,Heap.get?_push_size _ rfl,rfl,rfl⟩,pl.isList.push _⟩,fun i v s Q E hP hQ=>?_,fun h' tk hk=>?_⟩)
 .rw [vR rv hP];exact wpAny_truthy_bool hQ
 .have I1:Inv X pins σ H { s with heap:=s.heap.push { cls:=.type "list_iterator",data:=.fields #[.ref p,.int 0 0] } }:=I.kept (t':=s.toks) fun b o e=>Heap.get?_push_of_some _ e
  have I2:=I1.turned (h':=h') (t':=tk) (it:=s.heap.objs.size) (fun b o hb e=>hk b o (by simpa using hb) e) f0 f1 f3 f4 f5
  refine⟨.bl (bs.any id),H,I2,?_,q⟩
  show Value.bool _=Value.bool _
  rw [List.size_toArray,<- hl,nu]
end
section
variable {X:Cx}{o e f:Expr}{apos cpos:Pos}{td ty tx:TE}
theorem vS:cw X (.builtin "len") (fun xs H Q=>∃p kvs,xs=[.ref p]/\Rd H p (.dK kvs)/\Q (.int kvs.length) H):=by
 intro pins s σ H xs us Q I r h
 obtain⟨p,kvs,rfl,hd,q⟩:=h
 obtain⟨u,rfl,ru⟩:=gT r
 cases (show u=Value.ref p from ru)
 exact EQ I hd fun t s' I'=>⟨.int kvs.length,H,I',⟨t,rfl⟩,q⟩
end
def cC (K:PySem.W.Frag) (x:Str):Addr:=match PySem.W.nsIn K mainGlobals x with
|some (some (.ref C))=>C
|_=>0
theorem x8 {K:PySem.W.Frag}{x:Str}{C:Addr} (h:PySem.W.nsIn K mainGlobals x=some (some (.ref C))):cC K x=C:=by unfold cC;rw [h]
structure C8 (P:Program) (w:World) (K:PySem.W.Frag) (mg:Str->Option Value) (base:Heap) (k:Nat) (C:Addr) (m:Str) (ps:List Str) (sp:Sp):Prop where
 ex:∃(f:Addr) (fd:FuncData),m7 P w K mg base CX0 k f fd ps sp/\jY K fd ps []/\Ei K C m f
structure C9 (P:Program) (w:World) (K:PySem.W.Frag) (mg:Str->Option Value) (base:Heap) (k:Nat) (C:Addr) (x:Str) (ps:List Str) (sp:Sp):Prop where
 ex:∃(f:Addr) (fd:FuncData),m7 P w K mg base CX0 k f fd ps sp/\jY K fd ps []/\Mk K C f/\mg x=some (.ref C)
structure sw (K:PySem.W.Frag) (C:Addr) (m qual:Str) (st:Stmt):Prop where
 ex:∃(f:Addr) (fd:FuncData),Fun K m qual st f fd/\Ei K C m f
structure sy (K:PySem.W.Frag) (mg:Str->Option Value) (C:Addr) (x qual:Str) (st:Stmt):Prop where
 ex:∃(f:Addr) (fd:FuncData),Fun K "__init__" qual st f fd/\Mk K C f/\mg x=some (.ref C)
section
variable {P:Program}{w:World}{K:PySem.W.Frag}{mg:Str->Option Value}{base:Heap}{x m qual:Str}{C:Addr}{st:Stmt}{N ps:List Str}{k:Nat}{sp:Sp}
theorem sw.ok (D:sw K C m qual st) (S:aO N ps (ar st))
  (hb:∀(kV doc pm:Value) (an:Option Addr) (cdv ct:Value) (us:List Value),us.length=ps.length->bindArgs (PySem.W.fnOf m qual (cY st) (ci st) (ar st) .none kV doc pm an cdv ct) ⟨us,[]⟩=pure (ps.zip us))
  (len:∀vs H Q E,sp vs H Q E->vs.length=ps.length)
  (hbody:∀(f:Addr) (cdv:Value) (A:Around) (outer:List Env) (s:Shared) (H:Hp) (vs:List V) (Q:VK) (E:XK),gh k (A.deeper (envOfC qual (ar st) s.heap.objs.size f cdv))->sp vs H Q E ->
   ∃t,PSs (xA CX0 P w K mg base N qual (ar st) f cdv A outer s H E).nox (ci st) t/\t { nx:=fun _ H'=>Q .non H',rt:=Q } (start N vs) H):C8 P w K mg base (k+1) C m ps sp:=by
 obtain⟨f,fd,F,hm⟩:=D.ex
 exact⟨f,fd,F.ok S len fun cdv A outer s H vs Q E hr h=>hbody f cdv A outer s H vs Q E hr h,F.binds hb,hm⟩
theorem sy.ok (D:sy K mg C x qual st) (S:aO N ps (ar st))
  (hb:∀(kV doc pm:Value) (an:Option Addr) (cdv ct:Value) (us:List Value),us.length=ps.length->bindArgs (PySem.W.fnOf "__init__" qual (cY st) (ci st) (ar st) .none kV doc pm an cdv ct) ⟨us,[]⟩=pure (ps.zip us))
  (len:∀vs H Q E,sp vs H Q E->vs.length=ps.length)
  (hbody:∀(f:Addr) (cdv:Value) (A:Around) (outer:List Env) (s:Shared) (H:Hp) (vs:List V) (Q:VK) (E:XK),gh k (A.deeper (envOfC qual (ar st) s.heap.objs.size f cdv))->sp vs H Q E ->
   ∃t,PSs (xA CX0 P w K mg base N qual (ar st) f cdv A outer s H E).nox (ci st) t/\t { nx:=fun _ H'=>Q .non H',rt:=Q } (start N vs) H):C9 P w K mg base (k+1) C x ps sp:=by
 obtain⟨f,fd,F,hm,e⟩:=D.ex
 exact⟨f,fd,F.ok S len fun cdv A outer s H vs Q E hr h=>hbody f cdv A outer s H vs Q E hr h,F.binds hb,hm,e⟩
end
section
variable {X:Cx}{k:Nat}{x m:Str}{C:Addr}{ps:List Str}{sp:Sp}{p pos apos:Pos}{o e:Expr}{es:List Expr}{ta:TE}{t:TA}
theorem AD (M:C9 X.prog X.w X.K X.mg X.base k C x ps sp) (hr:gh (k+1) X.A) (ha:PA X (e::es) t) (hg:Gl X x:=by rfl) (hdb:(x == ("__debug__":Str))=false:=by decide) (he:starEach (e::es) X.env=(false,eval e X.env)::starEach es X.env:=by rfl)
  (hpl:(backTo pos (starEach es X.env)).any (·.1)=false:=by rfl):PE X (.Call (.Name x p) (e::es) [] pos) (xL C sp [] E0 t):=by
 obtain⟨f,fd,F,hb,hk,hm⟩:=M.ex
 exact Ak hk F hr hg hm hb .nil xR ha hdb he hpl
theorem sA {pl:Sem Bool} (he:PE X o ta) (c:Cls X.K C) (M:C8 X.prog X.w X.K X.mg X.base k C m ps sp) (hr:gh k X.A)
  (ht:eval (.Call (.Attribute o m apos) [] [] pos) X.env=(do
   let ov <- eval o X.env
   standAt apos.atName
   let (f,first) <- holding [ov] (getMethod ov m pl)
   callWith pos f first (backTo pos (starEach [] X.env)) (backToKw pos (keywordEach [] X.env))):=by rfl) :
  PE X (.Call (.Attribute o m apos) [] [] pos) (Aj C m sp [] E0 ta dC):=by
 obtain⟨f,fd,F,hb,hm⟩:=M.ex
 exact xM (pl:=pl) he c hm F hr hb .nil xR ht
end
theorem vT {prog:Program}{w:World}{A:Around} (k:Bool) (hh:A.handled=none) (it a:Addr) (hne:a≠it) (its:Array Value) :
  Draws prog w A it [it,a] its.size (fun i v=>its[i]?=some v) (fun i h=>iL k h it a i/\kI k h a its) where
 live:=fun _ _ st=>let ⟨o,ho,_⟩:=st.1;⟨o,ho⟩
 frame:=fun _ _ _ st hk=>⟨st.1.mv fun o e=>hk it (by simp) o e,st.2.mv fun o e=>hk a (by simp) o e⟩
 item:=fun i s Q E hi st hQ=>by
  refine o5 st.1 st.2 (x:=its[i]) (by simp [hi]) fun h' hit' hs'=>?_
  exact hQ _ h' s.toks (by simp [hi]) ⟨hit',st.2.mv fun o e=>hs'.extBut _ o hne e⟩ hs'
 done:=fun s Q E st hE=>kJ hh st.1 st.2 (by simp) hE
def Ite (k:Bool) (K:PySem.W.Frag) (a:Addr):It :=
  ⟨fun i H=>∃xs x,Sq k K H a xs/\xs[i]?=some x,
   fun i H p H'=>∃T x,H T=none/\p=.ref T/\(∀xs,Sq k K H a xs->xs[i]?=some x)/\H'=upd H T (.tup [.int (i:Int),x]),
   fun i H=>∃xs,Sq k K H a xs/\xs.length<=i⟩
theorem vU {P:Program}{w:World}{K:PySem.W.Frag}{es:List Expr}{ct:Nat}{tp:Pos}{k:Bool}{a e it:Addr} (hei:e≠it) :
  BU P w K (.Tuple es ct tp) (Ite k K a) [e,it] e (fun n h=>(∃old,IsEnum h e it ((n:Nat):Int) old)/\iL k h it a n) where
 mem:=by simp
 obj:=fun n h st b hb=>by
  obtain⟨⟨old,he⟩,o1,g1,c1,d1⟩:=st
  simp only [List.mem_cons,List.not_mem_nil,or_false] at hb
  rcases hb with rfl|rfl
  .exact⟨_,he,fun v q=>by cases q⟩
  .exact⟨_,g1,fun v q=>by rw [d1] at q;cases q⟩
 keep:=fun n h h' st kk=>by
  obtain⟨⟨old,he⟩,w1⟩:=st
  exact⟨⟨old,kk e (by simp) _ he⟩,w1.mv fun o q=>kk it (by simp) o q⟩
 item:=by
  intro X hP hw hK hc n pins s σ H E I hf st hg
  subst hP hw hK
  obtain⟨xs,x,q1,hx⟩:=hg
  obtain⟨⟨old,he⟩,w1⟩:=st
  obtain⟨its,rv,p,_⟩:=I.row q1
  obtain⟨ux,hux,rx⟩:=rv.get hx
  have ne:=I.row_ne q1 (hf e (by simp))
  have ni:=I.row_ne q1 (hf it (by simp))
  have hlt:n<its.toArray.size:=by
   have:=(List.getElem?_eq_some_iff.mp hux).1
   simpa using this
  have hhd:X.A.in1.handled=none:=by exact I.ok.hd hc
  refine wpAny_pyNext_enum_itemD (vT k hhd it a ni its.toArray) he ⟨w1,p⟩ hlt hei (by simp [hei,Ne.symm ne]) fun y h' tk hP ho hst ht hsz hk=>?_
  have hy:y=ux:=by
   have h1:its[n]?=some y:=by simpa using hP
   rw [hux] at h1;exact (Option.some.inj h1).symm
  subst hy
  refine⟨_,rfl,wpAny_letOwnedTupleGo_enum ho fun g ge gs=>?_⟩
  have lt:∀{b o},s.heap.get? b=some o->s.heap.objs.size≠b:=fun q=>Nat.ne_of_gt (Heap.lt_size q)
  have kp:∀b o,b∉[e,it]->s.heap.get? b=some o->g.get? b=some o:=fun b o hb q=>by
   simp only [List.mem_cons,List.not_mem_nil,or_false,not_or] at hb
   exact gs.extBut _ _ hb.1 (hk b o hb.1 hb.2 q)
  have I2:Inv X pins σ (upd H s.heap.objs.size (.tup [.int (n:Int),x])) { s with heap:=g,toks:=tk+1 }:=I.yielded (ch:=[e,it]) (fun b hb=>hf b hb) (Nat.le_refl _) kp
   ⟨by show 2<=sizeLine;decide,[.int (n:Int) tk,y],.cons ⟨tk,rfl⟩ (.cons rx .nil),_,gs.extBut _ _ (lt he) ht,rfl,_,rfl⟩
  refine⟨.ref s.heap.objs.size,_,I2,rfl,⟨_,x,I.hok.fresh (Nat.le_refl _),rfl,fun xs' q=>by rw [I.row_inj q q1];exact hx,rfl⟩,⟨⟨y,by simpa using ge⟩,hst.1.mv fun o q=>gs.extBut _ o (Ne.symm hei) q⟩,fun b hb=>?_⟩
  rw [aB ?_]
  .exact (hf b hb).1
  .intro q
   subst q
   simp only [List.mem_cons,List.not_mem_nil,or_false] at hb
   obtain⟨o1,g1,_⟩:=w1
   rcases hb with q|q
   .exact lt he q
   .exact lt g1 q
 done:=by
  intro X hP hw hK hc n pins s σ H E I hf st hg
  subst hP hw hK
  obtain⟨xs,q1,hend⟩:=hg
  obtain⟨⟨old,he⟩,w1⟩:=st
  obtain⟨its,rv,p,_⟩:=I.row q1
  have e1:=rv.length
  have ni:=I.row_ne q1 (hf it (by simp))
  have hhd:X.A.in1.handled=none:=by exact I.ok.hd hc
  obtain⟨f0,f1,f2,f3,f4,f5⟩:=hf it (by simp)
  -- the walk's end is wherever the row has no item
  have hT:s.TypeIs (.ref e) "enumerate":=⟨_,he,rfl⟩
  unfold pyNext
  refine wpAny_bind (wpAny_attempt (wpAny_callSpecial?_slot (name:=Str.ofString "__next__") hT F.slot_enumerate_next
   (wpAny_call_entry F.slot_enumerate_next hT F.entry_enumerate_next ?_ (F.args_enumerate_next_1 _))))
  show wpAny _ _ (field (.ref e) 2 >>= _) _ _ _
  refine wpAny_bind (wpAny_field he rfl (x:=.ref it) rfl ?_)
  refine wpAny_bind (kJ hhd w1 p (by simp;omega) fun h' x he' hx'=>?_)
  obtain⟨o,ho,hcl⟩:=hx'
  refine wpAny_bind (wpAny_isInstance (T:="StopIteration") (b:=true) ⟨o,ho,hcl⟩ isSubtype_stop ?_)
  exact wpAny_pure ⟨rfl,I.turned (t':=s.toks) (fun b o hb q=>he' b o hb q) f0 f1 f3 f4 f5⟩
 self:=fun _ _ _ _ _ st h=>let ⟨⟨_,he⟩,_⟩:=st;wpAny_pyIter_enum he h
section
variable {P:Program}{w:World}{A:Around}{E:Value->Shared->Prop}{s:Shared}{k:Bool}
theorem x9 (k:Bool) (a:Addr) (xs:Array Value):Meets (Builtin.«enumerate.__new__» ⟨[.type "enumerate",.ref a],[]⟩) (fun _ R s=>kI k s.heap a xs /\
   R (.ok (.ret (.ref (s.heap.push (qM k a)).objs.size))) { s with heap:=(s.heap.push (qM k a)).push { cls:=.type "enumerate",data:=.fields #[.none,.bool false,.ref s.heap.objs.size,rawInt 0,.none,.none] } }) :=
 .of_wp fun prog w A R s h=>by
  obtain⟨hp,g,d,tk,os⟩:=s
  obtain⟨r1,h⟩:=h
  have hsub:=sub_enumerate
  have R1:kI k (Shared.heap ⟨hp,g,d,tk,os⟩) a xs:=r1
  obtain⟨⟨cls,dd,data,sl⟩,ho,hc,n,hd⟩:=id r1
  simp only at hc hd
  subst hc hd
  wp_walk using AutoSeq1.wpAny_loadPart' ho
  refine wpAny_stack_any fun st=>wpAny_pure ?_
  split
  .rename_i c _ _ _ _ _
   cases (c == Value.type "enumerate")
   .wp_walk using AutoSeq1.wpAny_loadPart' ho,jb R1
    exact⟨_,rfl,h⟩
   .wp_walk using AutoSeq1.wpAny_loadPart' ho,jb R1
    exact⟨_,rfl,h⟩
  .wp_walk using AutoSeq1.wpAny_loadPart' ho,jb R1
   exact⟨_,rfl,h⟩
theorem ya {a:Addr}{xs:Array Value}{Q:Value->Shared->Prop} (r1:kI k s.heap a xs)
  (h:∀h',IsEnum h' (s.heap.objs.size+1) s.heap.objs.size 0 .none->iL k h' s.heap.objs.size a 0->(∀b o,s.heap.get? b=some o->h'.get? b=some o)->Q (.ref (s.heap.objs.size+1)) { s with heap:=h' }) :
  wpAny (model P w) A (call (.type "enumerate") [.ref a]) Q E s:=by
 refine callType_new F.called_enumerate (by decide) (F.typeCall_enumerate_1 _) (F.newCall_enumerate_1 _) (fun obj=>F.args_object_init_2 obj _) F.entry_enumerate_new (x9 k a xs) ⟨r1,?_⟩
 have z1:(s.heap.push (qM k a)).objs.size=s.heap.objs.size+1:=Heap.size_push ..
 have g2:((s.heap.push (qM k a)).push { cls:=.type "enumerate",data:=.fields #[.none,.bool false,.ref s.heap.objs.size,rawInt 0,.none,.none] }).get? (s.heap.push (qM k a)).objs.size=some _:=Heap.get?_push_size _ rfl
 have g1:=Heap.get?_push_of_some { cls:=.type "enumerate",data:=.fields #[.none,.bool false,.ref s.heap.objs.size,rawInt 0,.none,.none] } (Heap.get?_push_size s.heap (o:=qM k a) rfl)
 show _/\_
 rw [z1] at g2 ⊢
 exact⟨⟨_,g2,rfl⟩,h _ g2 ⟨_,g1,rfl,rfl⟩ fun b o q=>Heap.get?_push_of_some _ (Heap.get?_push_of_some _ q)⟩
end
section
variable {X:Cx}{es:List Expr}{ct:Nat}{tp:Pos}
def AE (K:PySem.W.Frag) (ta:TA):TI:=fun σ H R=>ta σ H fun vs H1=>∃k a,vs=[.ref a]/\(∃xs,Sq k K H1 a xs)/\R (Ite k K a) H1
theorem AF {a:Expr}{ta:TA}{p pos:Pos} (hg:Gl X "enumerate") (hm:X.mg "enumerate"=none) (ha:PA X [a] ta) (hs:starEach [a] X.env=[(false,eval a X.env)]:=by rfl) :
  PI X (.Tuple es ct tp) (.Call (.Name "enumerate" p) [a] [] pos) (AE X.K ta):=by
 intro pins s σ H R I h
 refine Call_ (gc I hg hm boot_enumerate (PyProof.Rows.callWith_type1 (thn (ha pos pins s σ H _ I h) fun us s1 ⟨vs,H1,I1,r1,q1⟩=>?_) hs rfl))
 obtain⟨k,a,e,⟨xs,q1⟩,q⟩:=q1
 subst e
 cases r1 with
|cons r rr =>
  cases rr
  cases r
  obtain⟨its,rv,p,_⟩:=I1.row q1
  refine ya p fun h' g1 g2 kk=>wpAny_pyIter_enum g1 ?_
  have I2:Inv X pins σ H1 { s1 with heap:=h',toks:=s1.toks }:=I1.kept kk
  refine⟨s1.heap.objs.size+1,[s1.heap.objs.size+1,s1.heap.objs.size],_,_,H1,rfl,I2,vU (k:=k) (a:=a) (it:=s1.heap.objs.size) (Nat.ne_of_gt (Nat.lt_succ_self _)),⟨⟨_,g1⟩,g2⟩,fun b hb=>?_,q⟩
  have hle:s1.heap.objs.size<=b:=by
   simp only [List.mem_cons,List.not_mem_nil,or_false] at hb
   rcases hb with e|e
   .rw [e];exact Nat.le_add_right _ _
   .rw [e];exact Nat.le_refl _
  exact I1.fpOk hle (I1.hok.fresh hle)
end
section
variable {X:Cx}
theorem vV (hc:X.calm=true):cw X (.builtin "min") (fun xs H Q=>∃(p:Addr) (ns:List Int),xs=[.ref p]/\SqL X.K H p (ns.map V.int)/\0<ns.length/\∀m:Int,m∈ns->(∀a∈ns,m<=a)->Q (.int m) H):=by
 intro pins s σ H xs us Q I r h
 obtain⟨p,ns,rfl,hS,hne,q⟩:=h
 obtain⟨u,rfl,ru⟩:=gT r
 cases (show u=Value.ref p from ru)
 obtain⟨its,rv,pl,hz⟩:=I.list hS
 have hi:=ef rv
 have hl:=pl.isList
 obtain⟨ys,e⟩:=hi.allInts.items
 have hns:ns=ys.toList.map (·.1):=by rw [<- hi.numsOf,<- nums_intItems,<- e]
 have hsz:0<ys.size:=by
  have h3:=hne;rw [hns,List.length_map,Array.length_toList] at h3;exact h3
 rw [e] at hl
 refine min_intList (by exact I.ok.hd hc) hl hsz fun v h' tk hv hk=>?_
 obtain⟨t,rfl⟩:=intItems_at hv
 obtain⟨h1,h2⟩:=argBest_lt (numAt ys) (ys.size - 1)
 refine⟨.int _,H,I.kept (t':=tk) hk,⟨t,rfl⟩,q _ ?_ fun a ha=>?_⟩
 .rw [hns,numAt_eq];exact getD_mem (by rw [List.length_map,Array.length_toList];omega)
 .rw [hns] at ha
  obtain⟨j,hj,rfl⟩:=mem_getD ha
  rw [List.length_map,Array.length_toList] at hj
  rw [<- numAt_eq];exact h2 j (by omega)
theorem jc (ns:List Int):∀k,k<=ns.length->preSum (fun i=>ns.getD i 0) k=(ns.take k).sum
|0,_=>rfl
|k+1,h=>by
  rw [preSum,jc ns k (by omega),List.take_add_one,List.getElem?_eq_getElem (by omega),List.sum_append,List.getD_eq_getElem?_getD,List.getElem?_eq_getElem (by omega)]
  simp
theorem pf (hc:X.calm=true):cw X (.builtin "sum") (fun xs H Q=>∃(p:Addr) (ns:List Int),xs=[.ref p]/\SqL X.K H p (ns.map V.int)/\Q (.int ns.sum) H):=by
 intro pins s σ H xs us Q I r h
 obtain⟨p,ns,rfl,hS,q⟩:=h
 obtain⟨u,rfl,ru⟩:=gT r
 cases (show u=Value.ref p from ru)
 obtain⟨its,rv,pl,hz⟩:=I.list hS
 have hi:=ef rv
 have hl:=pl.isList
 obtain⟨ys,e⟩:=hi.allInts.items
 have hns:ns=ys.toList.map (·.1):=by rw [<- hi.numsOf,<- nums_intItems,<- e]
 rw [e] at hl
 refine sum_intListG (by exact I.ok.hd hc) hl fun h' tk t' hk=>⟨.int ns.sum,H,I.kept (t':=tk) hk,⟨t',?_⟩,q⟩
 have hlen:ys.size=ns.length:=by rw [hns,List.length_map,Array.length_toList]
 have hnum:numAt ys=fun i=>ns.getD i 0:=by
  funext i
  rw [numAt_eq,hns]
 rw [hnum,hlen,jc ns ns.length (Nat.le_refl _),List.take_length]
end
section
variable {X:Cx}{e:Expr}{ta:TE}{f:Str}{pos:Pos}
theorem dS (K:PySem.W.Frag) (eK:X.K=K) (he:PE X e ta) (hb:attributeBase e f X.env (eval e X.env)=eval e X.env):PE X (.Attribute e f pos) (u8 K ta f):=eK ▸ Cv he hb
def ER (K:PySem.W.Frag):List V->Hp->VK->Prop:=fun xs H Q=>∃p ys,xs=[.ref p]/\SqL K H p ys/\Q (.int ys.length) H
def ES (K:PySem.W.Frag):List V->Hp->VK->Prop:=fun xs H Q=>∃p ys,xs=[.ref p]/\SqT K H p ys/\Q (.int ys.length) H
def FH (K:PySem.W.Frag):List V->Hp->VK->Prop:=fun xs H Q=>∃x n t b,xs=[x,.ty n]/\oz K H x t/\PySem.W.kitOne K t (.type n)=some b/\Q (.bl b) H
def gk (K:PySem.W.Frag):List V->Hp->VK->Prop:=fun xs H Q=>∃p ys,xs=[.ref p]/\(SqL K H p ys\/SqT K H p ys)/\∀l,H l=none->Q (.ref l) (upd H l (.lst ys))
end
section
variable {X:Cx}{o e:Expr}{es:List Expr}{to:TE}{t:TA}{name:Str}{apos cpos:Pos}{T id:String}{r:V->List V->Hp->VK->Prop}
theorem gZ (K:PySem.W.Frag) (eK:X.K=K) (pa:PlainAttrs T) (slot:Slot T name id) (hty:typeOf (.builtin id)=pure (.type "method_descriptor")) (hm:MtR X id r) (ho:PE X o to) (ha:PA X (e::es) t)
  (hbase:attributeBase o name X.env (eval o X.env)=eval o X.env:=by rfl)
  (hfew:((backTo cpos (starEach (e::es) X.env)).all (fun x=>!x.1) && (backToKw cpos (keywordEach [] X.env)).all (fun x=>x.1.isSome)
   && decide ((e::es).length+([]:List Keyword).length+(if ([]:List Keyword).isEmpty then 0 else 1)<30))=true:=by rfl)
  (hline:(apos.endLine == cpos.line)=true:=by rfl) (hs:starEach (e::es) X.env=(false,eval e X.env)::starEach es X.env:=by rfl) (hplain:(backTo cpos (starEach es X.env)).any (·.1)=false:=by rfl) :
  PE X (.Call (.Attribute o name apos) (e::es) [] cpos) (tBM K T r to t):=eK ▸ EG pa slot hty hm ho ha hbase hfew hline hs hplain
end
def fU (c:Bool) (A B:Prop):Prop:=match c with|true=>A|false=>B
theorem yb {c:Bool}{A B:Prop} (h1:c=true->A) (h2:c=false->B):fU c A B:=by
 cases c with
|true=>exact h1 rfl
|false=>exact h2 rfl
theorem dy {p:Prop} [Decidable p] {A B:Prop} (h1:p->A) (h2:¬ p->B):fU (decide p) A B:=yb (fun h=>h1 (of_decide_eq_true h)) (fun h=>h2 (of_decide_eq_false h))
theorem pq {p:Prop} [Decidable p] {A B:Prop} (h1:¬ p->A) (h2:p->B):fU (!decide p) A B:=yb (fun h=>h1 fun z=>by rw [decide_eq_true z] at h;cases h) (fun h=>h2 (by
 by_cases z:p
 .exact z
 .rw [decide_eq_false z] at h;cases h))
theorem ET {p:Prop} [Decidable p] {A B:Prop} (h:p) (hA:A):fU (decide p) A B:=dy (fun _=>hA) (fun z=>absurd h z)
theorem EU {p:Prop} [Decidable p] {A B:Prop} (h:¬ p) (hB:B):fU (decide p) A B:=dy (fun z=>absurd z h) (fun _=>hB)
theorem Db {p:Prop} [Decidable p] {A B:Prop} (h:¬ p) (hA:A):fU (!decide p) A B:=pq (fun _=>hA) (fun z=>absurd z h)
theorem Dc {p:Prop} [Decidable p] {A B:Prop} (h:p) (hB:B):fU (!decide p) A B:=pq (fun z=>absurd h z) (fun _=>hB)
theorem jd {c:Bool}{A B:Prop} (h:fU c B A):fU (!c) A B:=by
 cases c <;> exact h
theorem Gh {c:Bool}{A B:Prop} (h:c=true) (hA:A):fU c A B:=by subst h;exact hA
theorem Gi {c:Bool}{A B:Prop} (h:c=false) (hB:B):fU c A B:=by subst h;exact hB
theorem EV {c:Bool}{A B:Prop} (h:c=false) (hA:A):fU (!c) A B:=by subst h;exact hA
theorem AG {c:Bool}{A B:Prop} (h:c=true) (hB:B):fU (!c) A B:=by subst h;exact hB
inductive D where
|non|bl (b:Bool)|int (i:Int)|str (l:List Nat)|ty (n:String)
|lst (ds:List D)|tup (ds:List D)|scr (ns:List Int)|dic (ks:List Key) (ds:List D)|obj (c:Str) (ns:List Str) (ds:List D)|exc (c:Str) (ns:List Str) (ds:List D)
def XAt (x C:Addr) (dd:Option Addr) (new:Bool) (h:Heap):Prop:=∃o vs,h.get? x=some o/\o.cls=.ref C/\o.dict=dd/\o.data=.fields vs/\1<vs.size/\(new=true->vs[1]?=some .none)
def eG (A:Addr->Prop) (a:Addr):Addr->Prop:=fun b=>A b\/b=a
def BW (K:PySem.W.Frag) (O:Addr->Prop) (H:Hp) (a:Addr) (xs:List V):Prop :=
 (¬ O a/\Rd H a (.lst xs))\/∃(o:Obj) (its:Array Value) (n:Nat),K.lookup a=some o/\o.cls=.type "list"/\o.dict=none/\o.data=.seq its n/\its.size<=sizeLine/\bW xs its.toList
theorem BW.sq {K:PySem.W.Frag}{O:Addr->Prop}{H:Hp}{a:Addr}{xs:List V} (h:BW K O H a xs):SqL K H a xs:=h.elim (fun z=>.inl z.2) .inr
def aM (O:Addr->Prop) (H:Hp) (O':Addr->Prop) (H':Hp):Prop:=∀b o,¬ O b->H b=some o->¬ O' b/\H' b=some o
theorem Rd.keeps {O O':Addr->Prop}{H H':Hp}{a:Addr}{u:HO} (k:aM O H O' H') (n:¬ O a) (r:Rd H a u):¬ O' a/\Rd H' a u:=by
 rcases r with e|⟨o,e⟩
 .exact⟨(k _ _ n e).1,.inl (k _ _ n e).2⟩
 .exact⟨(k _ _ n e).1,.inr ⟨o,(k _ _ n e).2⟩⟩
theorem BW.keeps {K:PySem.W.Frag}{O O':Addr->Prop}{H H':Hp}{a:Addr}{xs:List V} (k:aM O H O' H') (h:BW K O H a xs):BW K O' H' a xs:=by
 rcases h with ⟨n,r⟩|r
 .exact .inl (r.keeps k n)
 .exact .inr r
mutual
inductive FV (K:PySem.W.Frag) (O:Addr->Prop) (H:Hp):V->D->Prop
|non:FV K O H .non .non
|bl (b:Bool):FV K O H (.bl b) (.bl b)
|int (i:Int):FV K O H (.int i) (.int i)
|str (l:List Nat):l.length<=1000000->FV K O H (.str (S l)) (.str l)
|ty (n:String):FV K O H (.ty n) (.ty n)
|scr {a:Addr}{ns:List Int}:BW K O H a (ns.map V.int)->FV K O H (.ref a) (.scr ns)
|lst {a:Addr}{xs:List V}{ds:List D}:¬ O a->H a=some (.lst xs)->FVs K O H xs ds->FV K O H (.ref a) (.lst ds)
|tup {a:Addr}{xs:List V}{ds:List D}:¬ O a->H a=some (.tup xs)->FVs K O H xs ds->FV K O H (.ref a) (.tup ds)
|dic {a:Addr}{kvs:List (Key×V)}{ks:List Key}{ds:List D}:¬ O a->H a=some (.dK kvs)->kvs.map Prod.fst=ks->FVs K O H (kvs.map Prod.snd) ds->FV K O H (.ref a) (.dic ks ds)
|obj {a dx:Addr}{c:Str}{fs:List (Str×V)}{ns:List Str}{ds:List D}:¬ O a->H a=some (.ins (cC K c) dx fs)->fs.map Prod.fst=ns->FVs K O H (fs.map Prod.snd) ds->FV K O H (.ref a) (.obj c ns ds)
|exc0 {a:Addr}{c:Str}{new:Bool}:¬ O a->H a=some (.ext (XAt a (cC K c) none new))->FV K O H (.ref a) (.exc c [] [])
|exc1 {a dx:Addr}{c:Str}{new:Bool}{fs:List (Str×V)}{ns:List Str}{ds:List D}:¬ O a->¬ O dx->H a=some (.ext (XAt a (cC K c) (some dx) new))->H dx=some (.xd fs)->fs.map Prod.fst=ns->FVs K O H (fs.map Prod.snd) ds->FV K O H (.ref a) (.exc c ns ds)
inductive FVs (K:PySem.W.Frag) (O:Addr->Prop) (H:Hp):List V->List D->Prop
|nil:FVs K O H [] []
|cons {x:V}{d:D}{xs:List V}{ds:List D}:FV K O H x d->FVs K O H xs ds->FVs K O H (x::xs) (d::ds)
end
section
variable {K:PySem.W.Frag}{O O':Addr->Prop}{H H':Hp}
mutual
theorem FV.keeps (k:aM O H O' H'):∀{v:V}{d:D},FV K O H v d->FV K O' H' v d
|_,_,.non=>.non
|_,_,.bl b=>.bl b
|_,_,.int i=>.int i
|_,_,.str l h=>.str l h
|_,_,.ty n=>.ty n
|_,_,.scr s=>.scr (s.keeps k)
|_,_,.lst n e f=>.lst (k _ _ n e).1 (k _ _ n e).2 (FVs.keeps k f)
|_,_,.tup n e f=>.tup (k _ _ n e).1 (k _ _ n e).2 (FVs.keeps k f)
|_,_,.dic n e m f=>.dic (k _ _ n e).1 (k _ _ n e).2 m (FVs.keeps k f)
|_,_,.obj n e m f=>.obj (k _ _ n e).1 (k _ _ n e).2 m (FVs.keeps k f)
|_,_,.exc0 n e=>.exc0 (k _ _ n e).1 (k _ _ n e).2
|_,_,.exc1 n n2 e e2 m f=>.exc1 (k _ _ n e).1 (k _ _ n2 e2).1 (k _ _ n e).2 (k _ _ n2 e2).2 m (FVs.keeps k f)
theorem FVs.keeps (k:aM O H O' H'):∀{vs:List V}{ds:List D},FVs K O H vs ds->FVs K O' H' vs ds
|_,_,.nil=>.nil
|_,_,.cons a b=>.cons (FV.keeps k a) (FVs.keeps k b)
end
theorem FVs.length:∀{vs:List V}{ds:List D},FVs K O H vs ds->vs.length=ds.length
|_,_,.nil=>rfl
|_,_,.cons _ b=>by rw [List.length_cons,List.length_cons,b.length]
theorem FVs.get:∀{vs:List V}{ds:List D}{i:Nat}{v:V},FVs K O H vs ds->vs[i]?=some v->∃d,ds[i]?=some d/\FV K O H v d
|_,_,0,_,.cons a _,e=>by simp at e;subst e;exact⟨_,rfl,a⟩
|_,_,i+1,v,.cons _ b,e=>by
  obtain⟨d,h1,h2⟩:=b.get (i:=i) (v:=v) (by simpa using e)
  exact⟨d,by simpa using h1,h2⟩
theorem FVs.getD:∀{vs:List V}{ds:List D}{i:Nat}{d:D},FVs K O H vs ds->ds[i]?=some d->∃v,vs[i]?=some v/\FV K O H v d
|_,_,0,_,.cons a _,e=>by simp at e;subst e;exact⟨_,rfl,a⟩
|_,_,i+1,v,.cons _ b,e=>by
  obtain⟨d,h1,h2⟩:=b.getD (i:=i) (d:=v) (by simpa using e)
  exact⟨d,by simpa using h1,h2⟩
theorem FVs.append:∀{vs ws:List V}{ds es:List D},FVs K O H vs ds->FVs K O H ws es->FVs K O H (vs++ws) (ds++es)
|_,_,_,_,.nil,s=>s
|_,_,_,_,.cons a b,s=>.cons a (b.append s)
theorem FVs.set {v:V}{d:D} (f:FV K O H v d):∀{vs:List V}{ds:List D} (i:Nat),FVs K O H vs ds->FVs K O H (vs.set i v) (ds.set i d)
|_,_,_,.nil=>.nil
|_,_,0,.cons _ t=>.cons f t
|_,_,i+1,.cons q t=>.cons q (FVs.set f i t)
theorem FVs.take:∀{vs:List V}{ds:List D} (n:Nat),FVs K O H vs ds->FVs K O H (vs.take n) (ds.take n)
|_,_,0,_=>.nil
|_,_,_+1,.nil=>.nil
|_,_,n+1,.cons r t=>.cons r (t.take n)
theorem FVs.drop:∀{vs:List V}{ds:List D} (n:Nat),FVs K O H vs ds->FVs K O H (vs.drop n) (ds.drop n)
|_,_,0,r=>r
|_,_,_+1,.nil=>.nil
|_,_,n+1,.cons _ t=>t.drop n
theorem FVs.reverse:∀{vs:List V}{ds:List D},FVs K O H vs ds->FVs K O H vs.reverse ds.reverse
|_,_,.nil=>.nil
|_,_,.cons r t=>by rw [List.reverse_cons,List.reverse_cons];exact t.reverse.append (.cons r .nil)
theorem FVs.ints:∀{vs:List V}{ns:List Int},FVs K O H vs (ns.map D.int)->vs=ns.map V.int
|_,[],.nil=>rfl
|_,n::r,h=>by
  cases h with
 |cons a b=>cases a;rw [FVs.ints b];rfl
theorem FVs.of_ints:∀ns:List Int,FVs K O H (ns.map V.int) (ns.map D.int)
|[]=>.nil
|n::r=>.cons (.int n) (FVs.of_ints r)
theorem FVs.bls:∀{vs:List V}{bs:List Bool},FVs K O H vs (bs.map D.bl)->vs=bs.map V.bl
|_,[],.nil=>rfl
|_,n::r,h=>by
  cases h with
 |cons a b=>cases a;rw [FVs.bls b];rfl
end
inductive PV where
|dat (d:D)|own (ds:List D)|ins (c:Str) (ns:List Str) (ds:List D)
def PV.isOwn:PV->Bool
|.dat _=>false
|_=>true
def PV.d:PV->D
|.dat d=>d
|.own ds=>.lst ds
|.ins c ns ds=>.obj c ns ds
abbrev PSt:=List (Option PV)
def Wr (ρ:PSt) (σ:St) (b:Addr):Prop:=∃(i:Nat) (p:PV),ρ[i]?=some (some p)/\p.isOwn=true/\σ[i]?=some (some (.ref b))
def OO (A:Addr->Prop) (ρ:PSt) (σ:St) (b:Addr):Prop:=A b\/Wr ρ σ b
def RS (K:PySem.W.Frag) (O:Addr->Prop) (H:Hp):PV->V->Prop
|.dat d,v=>FV K O H v d
|.own ds,v=>∃a xs,v=.ref a/\H a=some (.lst xs)/\FVs K O H xs ds
|.ins c ns ds,v=>∃a dx fs,v=.ref a/\H a=some (.ins (cC K c) dx fs)/\fs.map Prod.fst=ns/\FVs K O H (fs.map Prod.snd) ds
structure Rel (K:PySem.W.Frag) (A:Addr->Prop) (ρ:PSt) (σ:St) (H:Hp):Prop where
 len:ρ.length=σ.length
 get:∀(i:Nat) (p:PV),ρ[i]?=some (some p)->∃v,σ[i]?=some (some v)/\RS K (OO A ρ σ) H p v
 dj:∀(i j:Nat) (p q:PV) (v:V),ρ[i]?=some (some p)->ρ[j]?=some (some q)->p.isOwn=true->q.isOwn=true->σ[i]?=some (some v)->σ[j]?=some (some v)->i=j
 dom:∀b,A b->H b≠none
 sep:∀b,A b->¬ Wr ρ σ b
structure Fr (ρ:PSt) (σ:St) (H:Hp) (ρ':PSt) (H':Hp):Prop where
 kp:∀b o,¬ Wr ρ σ b->H b=some o->H' b=some o
 dm:∀b,H b≠none->H' b≠none
 ow:∀b,Wr ρ' σ b->Wr ρ σ b
theorem Fr.refl (ρ:PSt) (σ:St) (H:Hp):Fr ρ σ H ρ H:=⟨fun _ _ _ h=>h,fun _ h=>h,fun _ h=>h⟩
theorem Fr.trans {ρ ρ1 ρ2:PSt}{σ:St}{H H1 H2:Hp} (a:Fr ρ σ H ρ1 H1) (b:Fr ρ1 σ H1 ρ2 H2):Fr ρ σ H ρ2 H2 :=
 ⟨fun c o n h=>b.kp c o (fun z=>n (a.ow c z)) (a.kp c o n h),fun c h=>b.dm c (a.dm c h),fun c h=>a.ow c (b.ow c h)⟩
theorem Fr.keeps {ρ ρ':PSt}{σ:St}{H H':Hp}{A:Addr->Prop} (f:Fr ρ σ H ρ' H'):aM (OO A ρ σ) H (OO A ρ' σ) H':=fun b o n h =>
 ⟨fun z=>z.elim (fun z=>n (.inl z)) (fun z=>n (.inr (f.ow b z))),f.kp b o (fun z=>n (.inr z)) h⟩
theorem Fr.new {ρ:PSt}{σ:St}{H:Hp}{p:Addr}{o:HO} (h:H p=none):Fr ρ σ H ρ (upd H p o) :=
 ⟨fun b u _ e=>by rw [aB (bi e h)];exact e,fun b e=>by
  by_cases z:b=p
  .rw [z,aL];exact nofun
  .rw [aB z];exact e,fun _ h=>h⟩
theorem aM.fresh {O:Addr->Prop}{H:Hp}{p:Addr}{o:HO} (h:H p=none):aM O H (eG O p) (upd H p o):=fun b u n e =>
 ⟨fun z=>z.elim n (fun z=>by rw [z,h] at e;cases e),by rw [aB (bi e h)];exact e⟩
theorem aM.less {O O':Addr->Prop}{H:Hp} (h:∀b,O' b->O b):aM O H O' H:=fun b o n e=>⟨fun z=>n (h b z),e⟩
theorem RS.keeps {K:PySem.W.Frag}{O O':Addr->Prop}{H H':Hp}{p:PV}{v:V} (k:aM O H O' H') (w:p.isOwn=true->∀a,v=.ref a->H' a=H a) (h:RS K O H p v):RS K O' H' p v:=by
 cases p with
|dat d=>exact FV.keeps k h
|own ds =>
  obtain⟨a,xs,e,g,f⟩:=h
  exact⟨a,xs,e,by rw [w rfl a e];exact g,f.keeps k⟩
|ins c ns ds =>
  obtain⟨a,dx,fs,e,g,m,f⟩:=h
  exact⟨a,dx,fs,e,by rw [w rfl a e];exact g,m,f.keeps k⟩
theorem RS.ref {K:PySem.W.Frag}{O:Addr->Prop}{H:Hp}{p:PV}{v:V} (h:RS K O H p v) (o:p.isOwn=true):∃a u,v=.ref a/\H a=some u:=by
 cases p with
|dat d=>cases o
|own ds=>obtain⟨a,xs,e,g,f⟩:=h;exact⟨a,_,e,g⟩
|ins c ns ds=>obtain⟨a,dx,fs,e,g,m,f⟩:=h;exact⟨a,_,e,g⟩
theorem Rel.wr {K:PySem.W.Frag}{A:Addr->Prop}{ρ:PSt}{σ:St}{H:Hp} (R:Rel K A ρ σ H) {b:Addr} (h:Wr ρ σ b):H b≠none:=by
 obtain⟨i,p,e,o,s⟩:=h
 obtain⟨v,s',r⟩:=R.get i p e
 rw [s] at s';cases s'
 obtain⟨a,u,e1,e2⟩:=r.ref o
 cases e1
 rw [e2];exact nofun
theorem Rel.oo {K:PySem.W.Frag}{A:Addr->Prop}{ρ:PSt}{σ:St}{H:Hp} (R:Rel K A ρ σ H) {b:Addr} (h:H b=none):¬ OO A ρ σ b:=fun z=>z.elim (fun z=>R.dom b z h) (fun z=>R.wr z h)
theorem Rel.grow {K:PySem.W.Frag}{A:Addr->Prop}{ρ:PSt}{σ:St}{H:Hp} (R:Rel K A ρ σ H) {p:Addr}{o:HO} (h:H p=none):Rel K A ρ σ (upd H p o):=by
 have k:aM (OO A ρ σ) H (OO A ρ σ) (upd H p o):=Fr.keeps (Fr.new h)
 refine⟨R.len,fun i q e=>?_,R.dj,fun b z=>(Fr.new (ρ:=ρ) (σ:=σ) h).dm b (R.dom b z),R.sep⟩
 obtain⟨v,s,r⟩:=R.get i q e
 refine⟨v,s,r.keeps k fun ow a ea=>?_⟩
 obtain⟨a',u,e1,e2⟩:=r.ref ow
 rw [ea] at e1;cases e1
 rw [aB (bi e2 h)]
theorem Rel.less {K:PySem.W.Frag}{A A':Addr->Prop}{ρ:PSt}{σ:St}{H:Hp} (R:Rel K A ρ σ H) (h:∀b,A' b->A b):Rel K A' ρ σ H:=by
 refine⟨R.len,fun i q e=>?_,R.dj,fun b z=>R.dom b (h b z),fun b z=>R.sep b (h b z)⟩
 obtain⟨v,s,r⟩:=R.get i q e
 exact⟨v,s,r.keeps (aM.less fun b z=>z.imp (h b) id) fun _ _ _=>rfl⟩
theorem Rel.write {K:PySem.W.Frag}{A:Addr->Prop}{ρ:PSt}{σ:St}{H:Hp} (R:Rel K A ρ σ H) {i:Nat}{p q:PV}{a:Addr}{o:HO} (e:ρ[i]?=some (some p)) (ow:p.isOwn=true) (ow':q.isOwn=true) (es:σ[i]?=some (some (.ref a)))
  (new:RS K (OO A ρ σ) (upd H a o) q (.ref a)):Rel K A (ρ.set i (some q)) σ (upd H a o)/\Fr ρ σ H (ρ.set i (some q)) (upd H a o):=by
 have hi:i<ρ.length:=(List.getElem?_eq_some_iff.mp e).1
 have wa:Wr ρ σ a:=⟨i,p,e,ow,es⟩
 have weq:∀b,Wr (ρ.set i (some q)) σ b ↔ Wr ρ σ b:=fun b=>by
  constructor
  .rintro⟨j,r,e1,o1,s1⟩
   by_cases z:i=j
   .subst z;exact⟨i,p,e,ow,s1⟩
   .rw [List.getElem?_set_ne z] at e1;exact⟨j,r,e1,o1,s1⟩
  .rintro⟨j,r,e1,o1,s1⟩
   by_cases z:i=j
   .subst z;exact⟨i,q,List.getElem?_set_self hi,ow',s1⟩
   .exact⟨j,r,by rw [List.getElem?_set_ne z];exact e1,o1,s1⟩
 have oeq:OO A (ρ.set i (some q)) σ=OO A ρ σ:=funext fun b=>propext (or_congr Iff.rfl (weq b))
 have kp:∀b u,¬ Wr ρ σ b->H b=some u->upd H a o b=some u:=fun b u n h=>by rw [aB (fun z=>n (by rw [z];exact wa))];exact h
 have k:aM (OO A ρ σ) H (OO A ρ σ) (upd H a o):=fun b u n h=>⟨n,kp b u (fun z=>n (.inr z)) h⟩
 have dm:∀b,H b≠none->upd H a o b≠none:=fun b n=>by
  by_cases z:b=a
  .rw [z,aL];exact nofun
  .rw [aB z];exact n
 refine⟨⟨by rw [List.length_set];exact R.len,fun j r e1=>?_,fun j l p1 q1 v e1 e2 o1 o2 s1 s2=>?_,fun b z=>dm b (R.dom b z),fun b z w=>R.sep b z ((weq b).mp w)⟩,⟨kp,dm,fun b w=>(weq b).mp w⟩⟩
 .rw [oeq]
  by_cases z:i=j
  .subst z
   rw [List.getElem?_set_self hi] at e1
   cases e1
   exact⟨_,es,new⟩
  .rw [List.getElem?_set_ne z] at e1
   obtain⟨v,s,rr⟩:=R.get j r e1
   refine⟨v,s,rr.keeps k fun ow2 b eb=>?_⟩
   rw [aB]
   intro zz
   subst zz
   rw [eb] at s
   exact z (R.dj i j p r _ e e1 ow ow2 es s)
 .have ex:∀(m:Nat) (x:PV),(ρ.set i (some q))[m]?=some (some x)->x.isOwn=true->∃y:PV,ρ[m]?=some (some y)/\y.isOwn=true:=fun m x em ox=>by
   by_cases z:i=m
   .subst z;exact⟨p,e,ow⟩
   .rw [List.getElem?_set_ne z] at em;exact⟨x,em,ox⟩
  obtain⟨y1,h1,h2⟩:=ex j p1 e1 o1
  obtain⟨y2,h3,h4⟩:=ex l q1 e2 o2
  exact R.dj j l y1 y2 v h1 h3 h2 h4 s1 s2
theorem Rel.frz {K:PySem.W.Frag}{A:Addr->Prop}{ρ:PSt}{σ:St}{H:Hp} (R:Rel K A ρ σ H) {i:Nat}{p:PV} (e:ρ[i]?=some (some p)) :
  Rel K A (ρ.set i (some (.dat p.d))) σ H/\Fr ρ σ H (ρ.set i (some (.dat p.d))) H:=by
 have hi:i<ρ.length:=(List.getElem?_eq_some_iff.mp e).1
 have ex:∀(m:Nat) (x:PV),(ρ.set i (some (.dat p.d)))[m]?=some (some x)->x.isOwn=true->m≠i/\ρ[m]?=some (some x):=fun m x em ox=>by
  by_cases z:i=m
  .subst z;rw [List.getElem?_set_self hi] at em;cases em;cases ox
  .rw [List.getElem?_set_ne z] at em;exact⟨fun q=>z q.symm,em⟩
 have ow:∀b,Wr (ρ.set i (some (.dat p.d))) σ b->Wr ρ σ b:=fun b ⟨j,r,e1,o1,s1⟩=>⟨j,r,(ex j r e1 o1).2,o1,s1⟩
 have k:aM (OO A ρ σ) H (OO A (ρ.set i (some (.dat p.d))) σ) H:=aM.less fun b z=>z.imp id (ow b)
 refine⟨⟨by rw [List.length_set];exact R.len,fun j r e1=>?_,fun j l p1 q1 v e1 e2 o1 o2 s1 s2=>R.dj j l p1 q1 v (ex j p1 e1 o1).2 (ex l q1 e2 o2).2 o1 o2 s1 s2,R.dom,fun b z w=>R.sep b z (ow b w)⟩,⟨fun _ _ _ h=>h,fun _ h=>h,ow⟩⟩
 by_cases z:i=j
 .subst z
  rw [List.getElem?_set_self hi] at e1
  cases e1
  obtain⟨v,s,r⟩:=R.get i p e
  refine⟨v,s,?_⟩
  have na:∀a,v=.ref a->p.isOwn=true->¬ OO A (ρ.set i (some (.dat p.d))) σ a:=fun a ea oo z=>by
   subst ea
   rcases z with z|⟨j,r,e1,o1,s1⟩
   .exact R.sep a z ⟨i,p,e,oo,s⟩
   .obtain⟨n1,n2⟩:=ex j r e1 o1
    exact n1 (R.dj j i r p _ n2 e o1 oo s1 s)
  cases p with
 |dat d=>exact FV.keeps k r
 |own ds =>
   obtain⟨a,xs,rfl,g,f⟩:=r
   exact .lst (na a rfl rfl) g (f.keeps k)
 |ins c ns ds =>
   obtain⟨a,dx,fs,rfl,g,m,f⟩:=r
   exact .obj (na a rfl rfl) g m (f.keeps k)
 .rw [List.getElem?_set_ne z] at e1
  obtain⟨v,s,r⟩:=R.get j _ e1
  exact⟨v,s,r.keeps k fun _ _ _=>rfl⟩
abbrev PKt:=PV->PSt->Prop
abbrev PTE:=PSt->PKt->Prop
abbrev PTT:=PSt->(Bool->PSt->Prop)->Prop
inductive AV where
|v (d:D)|sl (i:Nat)
abbrev PA1:=PSt->(AV->PSt->Prop)->Prop
abbrev PTA:=PSt->(List AV->PSt->Prop)->Prop
def Out (K:PySem.W.Frag) (A:Addr->Prop) (ρ:PSt) (σ:St) (H0 H:Hp):PV->V->Prop
|.dat d,v=>Rel K A ρ σ H/\FV K (OO A ρ σ) H v d
|.own ds,v=>∃a xs,v=.ref a/\¬ A a/\H0 a=none/\H a=some (.lst xs)/\Rel K (eG A a) ρ σ H/\FVs K (OO (eG A a) ρ σ) H xs ds
|.ins c ns ds,v=>∃a dx fs,v=.ref a/\¬ A a/\H0 a=none/\H a=some (.ins (cC K c) dx fs)/\fs.map Prod.fst=ns/\Rel K (eG A a) ρ σ H/\FVs K (OO (eG A a) ρ σ) H (fs.map Prod.snd) ds
def LE (K:PySem.W.Frag) (te:TE) (pe:PTE):Prop:=∀(A:Addr->Prop) (ρ:PSt) (σ:St) (H:Hp) (Q:PKt) (Q':VK),Rel K A ρ σ H->pe ρ Q ->
 (∀v H' p ρ',Q p ρ'->Fr ρ σ H ρ' H'->Out K A ρ' σ H H' p v->Q' v H')->te σ H Q'
def LT (K:PySem.W.Frag) (tt:TT) (pt:PTT):Prop:=∀(A:Addr->Prop) (ρ:PSt) (σ:St) (H:Hp) (Q:Bool->PSt->Prop) (Q':Bool->Hp->Prop),Rel K A ρ σ H->pt ρ Q ->
 (∀b H' ρ',Q b ρ'->Fr ρ σ H ρ' H'->Rel K A ρ' σ H'->Q' b H')->tt σ H Q'
def AOk (K:PySem.W.Frag) (O:Addr->Prop) (σ:St) (H:Hp):AV->V->Prop
|.v d,v=>FV K O H v d
|.sl i,v=>σ[i]?=some (some v)
def LA1 (K:PySem.W.Frag) (te:TE) (pa:PA1):Prop:=∀(A:Addr->Prop) (ρ:PSt) (σ:St) (H:Hp) (Q:AV->PSt->Prop) (Q':VK),Rel K A ρ σ H->pa ρ Q ->
 (∀v H' av ρ',Q av ρ'->Fr ρ σ H ρ' H'->Rel K A ρ' σ H'->AOk K (OO A ρ' σ) σ H' av v->Q' v H')->te σ H Q'
inductive zo (K:PySem.W.Frag) (O:Addr->Prop) (σ:St) (H:Hp):List AV->List V->Prop
|nil:zo K O σ H [] []
|cons {a:AV}{v:V}{as:List AV}{vs:List V}:AOk K O σ H a v->zo K O σ H as vs->zo K O σ H (a::as) (v::vs)
def LAs (K:PySem.W.Frag) (ta:TA) (pa:PTA):Prop:=∀(A:Addr->Prop) (ρ:PSt) (σ:St) (H:Hp) (Q:List AV->PSt->Prop) (Q':List V->Hp->Prop),Rel K A ρ σ H->pa ρ Q ->
 (∀vs H' as ρ',Q as ρ'->Fr ρ σ H ρ' H'->Rel K A ρ' σ H'->zo K (OO A ρ' σ) σ H' as vs->Q' vs H')->ta σ H Q'
section
variable {K:PySem.W.Frag}{A O O':Addr->Prop}{ρ ρ':PSt}{σ:St}{H H' H0:Hp}
theorem AOk.keeps {a:AV}{v:V} (k:aM O H O' H') (h:AOk K O σ H a v):AOk K O' σ H' a v:=by
 cases a with
|v d=>exact FV.keeps k h
|sl i=>exact h
theorem Out.frz {p:PV}{v:V} (h:Out K A ρ σ H0 H p v):Rel K A ρ σ H/\FV K (OO A ρ σ) H v p.d:=by
 cases p with
|dat d=>exact h
|own ds =>
  obtain⟨a,xs,rfl,na,_,e,R,f⟩:=h
  refine⟨R.less fun b z=>.inl z,.lst (fun z=>?_) e (f.keeps (aM.less fun b z=>z.imp .inl id))⟩
  exact z.elim na (fun z=>R.sep a (.inr rfl) z)
|ins c ns ds =>
  obtain⟨a,dx,fs,rfl,na,_,e,m,R,f⟩:=h
  refine⟨R.less fun b z=>.inl z,.obj (fun z=>?_) e m (f.keeps (aM.less fun b z=>z.imp .inl id))⟩
  exact z.elim na (fun z=>R.sep a (.inr rfl) z)
theorem Out.h0 {p:PV}{v:V}{H1:Hp} (h:Out K A ρ σ H0 H p v) (dm:∀b,H1 b≠none->H0 b≠none):Out K A ρ σ H1 H p v:=by
 have k:∀a,H0 a=none->H1 a=none:=fun a e=>by
  cases z:H1 a with
 |none=>rfl
 |some o=>exact absurd e (dm a (by rw [z];exact nofun))
 cases p with
|dat d=>exact h
|own ds=>obtain⟨a,xs,e1,na,e2,r⟩:=h;exact⟨a,xs,e1,na,k a e2,r⟩
|ins c ns ds=>obtain⟨a,dx,fs,e1,na,e2,r⟩:=h;exact⟨a,dx,fs,e1,na,k a e2,r⟩
def Gr (H H':Hp):Prop:=∀b o,H b=some o->H' b=some o
theorem Gr.fr (g:Gr H H'):Fr ρ σ H ρ H':=⟨fun b o _ h=>g b o h,fun b h=>by
 cases e:H b with
|none=>exact absurd e h
|some o=>rw [g b o e];exact nofun,fun _ h=>h⟩
theorem Gr.new {p:Addr}{o:HO} (h:H p=none):Gr H (upd H p o):=fun b u e=>by rw [aB (bi e h)];exact e
theorem Gr.refl (H:Hp):Gr H H:=fun _ _ h=>h
theorem Rel.gr (R:Rel K A ρ σ H) (g:Gr H H'):Rel K A ρ σ H':=by
 refine⟨R.len,fun i q e=>?_,R.dj,fun b z=>(g.fr (ρ:=ρ) (σ:=σ)).dm b (R.dom b z),R.sep⟩
 obtain⟨v,s,r⟩:=R.get i q e
 refine⟨v,s,r.keeps (g.fr (ρ:=ρ) (σ:=σ)).keeps fun ow a ea=>?_⟩
 obtain⟨a',u,e1,e2⟩:=r.ref ow
 rw [ea] at e1;cases e1
 rw [e2];exact g _ _ e2
theorem Rel.grA (R:Rel K A ρ σ H) (g:Gr H H') {p:Addr} (h:H p=none) (h':H' p≠none):Rel K (eG A p) ρ σ H':=by
 have k:aM (OO A ρ σ) H (OO (eG A p) ρ σ) H':=fun b u n e=>by
  refine⟨fun z=>?_,g _ _ e⟩
  rcases z with (z|z)|z
  .exact n (.inl z)
  .rw [z,h] at e;cases e
  .exact n (.inr z)
 refine⟨R.len,fun i q e=>?_,R.dj,fun b z=>?_,fun b z w=>?_⟩
 .obtain⟨v,s,r⟩:=R.get i q e
  refine⟨v,s,r.keeps k fun ow a ea=>?_⟩
  obtain⟨a',u,e1,e2⟩:=r.ref ow
  rw [ea] at e1;cases e1
  rw [e2];exact g _ _ e2
 .rcases z with z|z
  .exact (g.fr (ρ:=ρ) (σ:=σ)).dm b (R.dom b z)
  .rw [z];exact h'
 .rcases z with z|z
  .exact R.sep b z w
  .exact R.wr w (by rw [z];exact h)
def qA (K:PySem.W.Frag) (O:Addr->Prop) (H0 H:Hp):PV->V->Prop
|.dat d,v=>FV K O H v d
|.own ds,v=>∃a xs,v=.ref a/\H0 a=none/\H a=some (.lst xs)/\FVs K (eG O a) H xs ds
|.ins c ns ds,v=>∃a dx fs,v=.ref a/\H0 a=none/\H a=some (.ins (cC K c) dx fs)/\fs.map Prod.fst=ns/\FVs K (eG O a) H (fs.map Prod.snd) ds
theorem qA.out {p:PV}{v:V} (R:Rel K A ρ σ H) (g:Gr H H') (h:qA K (OO A ρ σ) H H' p v):Out K A ρ σ H H' p v:=by
 cases p with
|dat d=>exact⟨R.gr g,h⟩
|own ds =>
  obtain⟨a,xs,rfl,e0,e,f⟩:=h
  refine⟨a,xs,rfl,fun z=>R.dom a z e0,e0,e,R.grA g e0 (by rw [e];exact nofun),f.keeps (aM.less fun b z=>?_)⟩
  rcases z with (z|z)|z
  .exact .inl (.inl z)
  .exact .inr z
  .exact .inl (.inr z)
|ins c ns ds =>
  obtain⟨a,dx,fs,rfl,e0,e,m,f⟩:=h
  refine⟨a,dx,fs,rfl,fun z=>R.dom a z e0,e0,e,m,R.grA g e0 (by rw [e];exact nofun),f.keeps (aM.less fun b z=>?_)⟩
  rcases z with (z|z)|z
  .exact .inl (.inl z)
  .exact .inr z
  .exact .inl (.inr z)
def FVc (K:PySem.W.Frag) (O:Addr->Prop) (H:Hp) (v:V) (d:D):Prop:=FV K O H v d\/(∃a xs ds,v=.ref a/\d=.lst ds/\H a=some (.lst xs)/\FVs K O H xs ds) \/
 ∃a dx c fs ns ds,v=.ref a/\d=.obj c ns ds/\H a=some (.ins (cC K c) dx fs)/\fs.map Prod.fst=ns/\FVs K O H (fs.map Prod.snd) ds
def cont (ρ:PSt):AV->Option D
|.v d=>some d
|.sl i=>match ρ[i]? with|some (some p)=>some p.d|_=>none
theorem Rel.cont {av:AV}{v:V}{d:D} (R:Rel K A ρ σ H) (h:AOk K (OO A ρ σ) σ H av v) (e:L2.cont ρ av=some d):FVc K (OO A ρ σ) H v d:=by
 cases av with
|v d'=>cases e;exact .inl h
|sl i =>
  have h:σ[i]?=some (some v):=h
  simp only [L2.cont] at e
  split at e
  .rename_i p ep
   cases e
   obtain⟨v',s,r⟩:=R.get i p ep
   rw [h] at s;cases s
   cases p with
  |dat d=>exact .inl r
  |own ds=>obtain⟨a,xs,e1,e2,f⟩:=r;exact .inr (.inl ⟨a,xs,ds,e1,rfl,e2,f⟩)
  |ins c ns ds=>obtain⟨a,dx,fs,e1,e2,m,f⟩:=r;exact .inr (.inr ⟨a,dx,c,fs,ns,ds,e1,rfl,e2,m,f⟩)
  .cases e
theorem FVc.lst {v:V}{ds:List D} (h:FVc K O H v (.lst ds)):∃a xs,v=.ref a/\H a=some (.lst xs)/\FVs K O H xs ds:=by
 rcases h with h|⟨a,xs,ds',e1,e2,e3,f⟩|⟨a,dx,c,fs,ns,ds',e1,e2,_⟩
 .cases h with
 |lst n s f=>exact⟨_,_,rfl,s,f⟩
 .cases e2;exact⟨a,xs,e1,e3,f⟩
 .cases e2
theorem FVc.fv {v:V}{d:D} (h:FVc K O H v d) (n:∀ds,d≠.lst ds) (n':∀c ns ds,d≠.obj c ns ds):FV K O H v d:=by
 rcases h with h|⟨a,xs,ds',e1,e2,e3,f⟩|⟨a,dx,c,fs,ns,ds',e1,e2,_⟩
 .exact h
 .exact absurd e2 (n _)
 .exact absurd e2 (n' _ _ _)
theorem FVc.tup {v:V}{ds:List D} (h:FVc K O H v (.tup ds)):∃a xs,v=.ref a/\¬ O a/\H a=some (.tup xs)/\FVs K O H xs ds:=by
 cases h.fv nofun nofun with
|tup n s f=>exact⟨_,_,rfl,n,s,f⟩
theorem FVc.scr {v:V}{ns:List Int} (h:FVc K O H v (.scr ns)):∃a,v=.ref a/\SqL K H a (ns.map V.int):=by
 cases h.fv nofun nofun with
|scr s=>exact⟨_,rfl,s.sq⟩
theorem FVc.int {v:V}{i:Int} (h:FVc K O H v (.int i)):v=.int i:=by cases h.fv nofun nofun;rfl
theorem FVc.bl {v:V}{i:Bool} (h:FVc K O H v (.bl i)):v=.bl i:=by cases h.fv nofun nofun;rfl
theorem FVc.str {v:V}{i:List Nat} (h:FVc K O H v (.str i)):v=.str (S i)/\i.length<=1000000:=by
 cases h.fv nofun nofun with
|str _ z=>exact⟨rfl,z⟩
theorem FVc.non {v:V} (h:FVc K O H v .non):v=.non:=by cases h.fv nofun nofun;rfl
end
def pC (d:D):PTE:=fun ρ Q=>Q (.dat d) ρ
def aZ (i:Nat):PTE:=fun ρ Q=>match ρ[i]? with
|some (some (.dat d))=>Q (.dat d) ρ
|some (some (.own ds))=>Q (.dat (.lst ds)) (ρ.set i (some (.dat (.lst ds))))
|some (some (.ins c ns ds))=>Q (.dat (.obj c ns ds)) (ρ.set i (some (.dat (.obj c ns ds))))
|_=>False
def pSl (i:Nat):PA1:=fun ρ Q=>match ρ[i]? with
|some (some (.dat d))=>Q (.v d) ρ
|some (some (.own _))=>Q (.sl i) ρ
|some (some (.ins _ _ _))=>Q (.sl i) ρ
|_=>False
def pFz (pe:PTE):PA1:=fun ρ Q=>pe ρ fun p ρ1=>Q (.v p.d) ρ1
def al:PTA:=fun ρ Q=>Q [] ρ
def af (pa:PA1) (pr:PTA):PTA:=fun ρ Q=>pa ρ fun a ρ1=>pr ρ1 fun as ρ2=>Q (a::as) ρ2
section
variable {K:PySem.W.Frag}{ta tb tc:TE}{pa pb pc:PA1}{pe pe':PTE}{tr:TA}{pr:PTA}
theorem Ej {v:V}{d:D} (h:∀O H,FV K O H v d):LE K (tC v) (pC d):=fun A ρ σ H Q Q' R q k=>k v H (.dat d) ρ q (Fr.refl _ _ _) ⟨R,h _ _⟩
theorem le_int {i:Int}:LE K (tC (.int i)) (pC (.int i)):=Ej fun _ _=>.int i
theorem px {i:Bool}:LE K (tC (.bl i)) (pC (.bl i)):=Ej fun _ _=>.bl i
theorem hC:LE K (tC .non) (pC .non):=Ej fun _ _=>.non
theorem le_str {l:List Nat} (h:l.length<=1000000:=by decide):LE K (tC (.str (S l))) (pC (.str l)):=Ej fun _ _=>.str l h
theorem ak {i:Nat}:LE K (a9 i) (aZ i):=by
 intro A ρ σ H Q Q' R q k
 unfold aZ at q
 split at q
 .rename_i d e
  obtain⟨v,s,r⟩:=R.get i _ e
  exact⟨v,s,k v H (.dat d) ρ q (Fr.refl _ _ _) ⟨R,r⟩⟩
 .rename_i ds e
  obtain⟨R',f⟩:=R.frz e
  obtain⟨v,s,r⟩:=R'.get i _ (List.getElem?_set_self (List.getElem?_eq_some_iff.mp e).1)
  exact⟨v,s,k v H (.dat (.lst ds)) _ q f ⟨R',r⟩⟩
 .rename_i c ns ds e
  obtain⟨R',f⟩:=R.frz e
  obtain⟨v,s,r⟩:=R'.get i _ (List.getElem?_set_self (List.getElem?_eq_some_iff.mp e).1)
  exact⟨v,s,k v H (.dat (.obj c ns ds)) _ q f ⟨R',r⟩⟩
 .exact q.elim
theorem am {i:Nat}:LA1 K (a9 i) (pSl i):=by
 intro A ρ σ H Q Q' R q k
 unfold pSl at q
 split at q
 .rename_i d e
  obtain⟨v,s,r⟩:=R.get i _ e
  exact⟨v,s,k v H _ ρ q (Fr.refl _ _ _) R r⟩
 .rename_i e
  obtain⟨v,s,r⟩:=R.get i _ e
  exact⟨v,s,k v H _ ρ q (Fr.refl _ _ _) R s⟩
 .rename_i e
  obtain⟨v,s,r⟩:=R.get i _ e
  exact⟨v,s,k v H _ ρ q (Fr.refl _ _ _) R s⟩
 .exact q.elim
theorem ac (h:LE K ta pe):LA1 K ta (pFz pe):=fun A ρ σ H Q Q' R q k=>h A ρ σ H _ Q' R q fun v H' p ρ' q f o=>k v H' _ ρ' q f o.frz.1 o.frz.2
theorem ae:LAs K dC al:=fun A ρ σ H Q Q' R q k=>k [] H [] ρ q (Fr.refl _ _ _) R .nil
theorem aa (h:LA1 K ta pa) (hr:LAs K tr pr):LAs K (aW ta tr) (af pa pr):=fun A ρ σ H Q Q' R q k =>
 h A ρ σ H _ _ R q fun v H1 a ρ1 q1 f1 R1 o1=>hr A ρ1 σ H1 _ _ R1 q1 fun vs H2 as ρ2 q2 f2 R2 o2=>k _ H2 _ ρ2 q2 (f1.trans f2) R2 (.cons (o1.keeps f2.keeps) o2)
def LO (K:PySem.W.Frag) (r:R2) (f:D->D->(PV->Prop)->Prop):Prop:=∀(O:Addr->Prop) (H:Hp) (x y:V) (a b:D) (Q:PV->Prop) (Q':VK),(∀b,O b->H b≠none)->FVc K O H x a->FVc K O H y b->f a b Q ->
 (∀v H' p,Q p->Gr H H'->qA K O H H' p v->Q' v H')->r x y H Q'
def op2 (f:D->D->(PV->Prop)->Prop) (ρ:PSt) (x y:AV) (Q:PKt):Prop:=match cont ρ x,cont ρ y with
|some a,some b=>f a b fun p=>Q p ρ
|_,_=>False
def pOp (f:D->D->(PV->Prop)->Prop) (pa pb:PA1):PTE:=fun ρ Q=>pa ρ fun x ρ1=>pb ρ1 fun y ρ2=>op2 f ρ2 x y Q
theorem Rel.dom2 {A:Addr->Prop}{ρ:PSt}{σ:St}{H:Hp} (R:Rel K A ρ σ H):∀b,OO A ρ σ b->H b≠none:=fun b z=>z.elim (R.dom b) R.wr
theorem aj {r:R2}{f:D->D->(PV->Prop)->Prop} (o:LO K r f) (ha:LA1 K ta pa) (hb:LA1 K tb pb):LE K (tOp r ta tb) (pOp f pa pb):=fun A ρ σ H Q Q' R q k =>
 ha A ρ σ H _ _ R q fun v H1 a ρ1 q1 f1 R1 o1=>hb A ρ1 σ H1 _ _ R1 q1 fun w H2 b ρ2 q2 f2 R2 o2=>by
  unfold op2 at q2
  split at q2
  .rename_i da db e1 e2
   exact o _ H2 v w da db _ _ R2.dom2 (R2.cont (o1.keeps f2.keeps) e1) (R2.cont o2 e2) q2 fun z H3 p q3 g ov=>k z H3 p ρ2 q3 ((f1.trans f2).trans g.fr) ((ov.out R2 g).h0 fun b z=>f2.dm b (f1.dm b z))
  .exact q2.elim
def LU (K:PySem.W.Frag) (r:V->Hp->VK->Prop) (f:D->(PV->Prop)->Prop):Prop:=∀(O:Addr->Prop) (H:Hp) (x:V) (a:D) (Q:PV->Prop) (Q':VK),(∀b,O b->H b≠none)->FVc K O H x a->f a Q ->
 (∀v H' p,Q p->Gr H H'->qA K O H H' p v->Q' v H')->r x H Q'
def op1 (f:D->(PV->Prop)->Prop) (ρ:PSt) (x:AV) (Q:PKt):Prop:=match cont ρ x with
|some a=>f a fun p=>Q p ρ
|_=>False
def pUn (f:D->(PV->Prop)->Prop) (pa:PA1):PTE:=fun ρ Q=>pa ρ fun x ρ1=>op1 f ρ1 x Q
theorem kL {r:V->Hp->VK->Prop}{f:D->(PV->Prop)->Prop} (o:LU K r f) (ha:LA1 K ta pa):LE K (tUn r ta) (pUn f pa):=fun A ρ σ H Q Q' R q k =>
 ha A ρ σ H _ _ R q fun v H1 a ρ1 q1 f1 R1 o1=>by
  unfold op1 at q1
  split at q1
  .rename_i da e1
   exact o _ H1 v da _ _ R1.dom2 (R1.cont o1 e1) q1 fun z H3 p q3 g ov=>k z H3 p ρ1 q3 (f1.trans g.fr) ((ov.out R1 g).h0 fun b z=>f1.dm b z)
  .exact q1.elim
inductive BX (K:PySem.W.Frag) (O:Addr->Prop) (H:Hp):List V->List D->Prop
|nil:BX K O H [] []
|cons {x:V}{d:D}{xs:List V}{ds:List D}:FVc K O H x d->BX K O H xs ds->BX K O H (x::xs) (d::ds)
def conts (ρ:PSt):List AV->Option (List D)
|[]=>some []
|a::r=>match cont ρ a,conts ρ r with
 |some d,some ds=>some (d::ds)
 |_,_=>none
theorem Rel.conts {A:Addr->Prop}{ρ:PSt}{σ:St}{H:Hp} (R:Rel K A ρ σ H):∀{as:List AV}{vs:List V}{ds:List D},zo K (OO A ρ σ) σ H as vs->L2.conts ρ as=some ds->BX K (OO A ρ σ) H vs ds
|_,_,_,.nil,e=>by cases e;exact .nil
|_,_,_,.cons a b,e=>by
  unfold L2.conts at e
  split at e
  .rename_i e1 e2
   cases e
   exact .cons (R.cont a e1) (R.conts b e2)
  .cases e
def LC (K:PySem.W.Frag) (r:List V->Hp->VK->Prop) (f:List D->(PV->Prop)->Prop):Prop:=∀(O:Addr->Prop) (H:Hp) (xs:List V) (as:List D) (Q:PV->Prop) (Q':VK),(∀b,O b->H b≠none)->BX K O H xs as->f as Q ->
 (∀v H' p,Q p->Gr H H'->qA K O H H' p v->Q' v H')->r xs H Q'
def opN (f:List D->(PV->Prop)->Prop) (ρ:PSt) (as:List AV) (Q:PKt):Prop:=match conts ρ as with
|some ds=>f ds fun p=>Q p ρ
|_=>False
def pCB (f:List D->(PV->Prop)->Prop) (pr:PTA):PTE:=fun ρ Q=>pr ρ fun as ρ1=>opN f ρ1 as Q
theorem bu {r:List V->Hp->VK->Prop}{f:List D->(PV->Prop)->Prop} (o:LC K r f) (ha:LAs K tr pr):LE K (tCB r tr) (pCB f pr):=fun A ρ σ H Q Q' R q k =>
 ha A ρ σ H _ _ R q fun vs H1 as ρ1 q1 f1 R1 o1=>by
  unfold opN at q1
  split at q1
  .rename_i ds e1
   exact o _ H1 vs ds _ _ R1.dom2 (R1.conts o1 e1) q1 fun z H3 p q3 g ov=>k z H3 p ρ1 q3 (f1.trans g.fr) ((ov.out R1 g).h0 fun b z=>f1.dm b z)
  .exact q1.elim
def avD:List AV->Option (List D)
|[]=>some []
|.v d::r=>match avD r with|some ds=>some (d::ds)|none=>none
|.sl _::_=>none
theorem zo.avD {O:Addr->Prop}{σ:St}{H:Hp}:∀{as:List AV}{vs:List V}{ds:List D},zo K O σ H as vs->L2.avD as=some ds->FVs K O H vs ds
|_,_,_,.nil,e=>by cases e;exact .nil
|.v d::r,_,_,.cons a b,e=>by
  simp only [L2.avD] at e
  split at e
  .rename_i e1;cases e;exact .cons a (b.avD e1)
  .cases e
|.sl i::r,_,_,.cons a b,e=>by cases e
def fj (pr:PTA):PTE:=fun ρ Q=>pr ρ fun as ρ1=>match avD as with
|some ds=>ds.length<=1000000/\Q (.own ds) ρ1
|_=>False
def xB (pr:PTA):PTE:=fun ρ Q=>pr ρ fun as ρ1=>match avD as with
|some ds=>ds.length<=1000000/\Q (.dat (.tup ds)) ρ1
|_=>False
theorem bj (ha:LAs K tr pr):LE K (Fz tr) (fj pr):=fun A ρ σ H Q Q' R q k =>
 ha A ρ σ H _ _ R q fun vs H1 as ρ1 q1 f1 R1 o1=>by
  split at q1
  .rename_i ds e1
   have fs:=o1.avD e1
   refine⟨sz _ (by rw [fs.length];exact q1.1),fun p hp=>k _ _ (.own ds) ρ1 q1.2 (f1.trans (Fr.new hp)) ?_⟩
   have g:Gr H1 (upd H1 p (.lst vs)):=Gr.new hp
   exact (qA.out (p:=.own ds) R1 g ⟨p,vs,rfl,hp,aL,fs.keeps (aM.fresh hp)⟩).h0 fun b z=>f1.dm b z
  .exact q1.elim
theorem iN (ha:LAs K tr pr):LE K (EF tr) (xB pr):=fun A ρ σ H Q Q' R q k =>
 ha A ρ σ H _ _ R q fun vs H1 as ρ1 q1 f1 R1 o1=>by
  split at q1
  .rename_i ds e1
   have fs:=o1.avD e1
   refine⟨sz _ (by rw [fs.length];exact q1.1),fun p hp=>k _ _ (.dat (.tup ds)) ρ1 q1.2 (f1.trans (Fr.new hp)) ⟨R1.grow hp,?_⟩⟩
   exact .tup (R1.oo hp) aL (fs.keeps (Fr.new hp).keeps)
  .exact q1.elim
def pB (pe:PTE):PTT:=fun ρ Q=>pe ρ fun p ρ1=>match p with
|.dat (.bl b)=>Q b ρ1
|_=>False
theorem vW (h:LE K ta pe):LT K (tB ta) (pB pe):=fun A ρ σ H Q Q' R q k=>h A ρ σ H _ _ R q fun v H1 p ρ1 q1 f1 o1=>by
 split at q1
 .rename_i b
  obtain⟨R1,f⟩:=o1
  cases f
  exact⟨b,rfl,k b H1 ρ1 q1 f1 R1⟩
 .exact q1.elim
theorem eW (h:LE K ta pe):LT K (jX ta) (pB pe):=vW h
def BY (a b:PTT):PTT:=fun ρ Q=>a ρ fun c ρ1=>fU c (b ρ1 Q) (Q false ρ1)
def pOr (a b:PTT):PTT:=fun ρ Q=>a ρ fun c ρ1=>fU c (Q true ρ1) (b ρ1 Q)
def yc (a:PTT):PTT:=fun ρ Q=>a ρ fun c ρ1=>Q (!c) ρ1
variable {tta ttb:TT}{pta ptb:PTT}
theorem pz (ha:LT K tta pta) (hb:LT K ttb ptb):LT K (Es tta ttb) (BY pta ptb):=fun A ρ σ H Q Q' R q k=>ha A ρ σ H _ _ R q fun c H1 ρ1 q1 f1 R1=>by
 cases c with
|true=>exact hb A ρ1 σ H1 _ _ R1 q1 fun b H2 ρ2 q2 f2 R2=>k b H2 ρ2 q2 (f1.trans f2) R2
|false=>exact k false H1 ρ1 q1 f1 R1
theorem uh (ha:LT K tta pta) (hb:LT K ttb ptb):LT K (tOr tta ttb) (pOr pta ptb):=fun A ρ σ H Q Q' R q k=>ha A ρ σ H _ _ R q fun c H1 ρ1 q1 f1 R1=>by
 cases c with
|false=>exact hb A ρ1 σ H1 _ _ R1 q1 fun b H2 ρ2 q2 f2 R2=>k b H2 ρ2 q2 (f1.trans f2) R2
|true=>exact k true H1 ρ1 q1 f1 R1
theorem jE (ha:LT K tta pta):LT K (Fs tta) (yc pta):=fun A ρ σ H Q Q' R q k=>ha A ρ σ H _ _ R q fun c H1 ρ1 q1 f1 R1=>k _ H1 ρ1 q1 f1 R1
def vX (a b:PTE):PTE:=fun ρ Q=>a ρ fun p ρ1=>match p with
|.dat (.bl c)=>fU c (b ρ1 Q) (Q (.dat (.bl false)) ρ1)
|_=>False
def AH (a:PTE):PTE:=fun ρ Q=>a ρ fun p ρ1=>match p with
|.dat (.bl c)=>Q (.dat (.bl (!c))) ρ1
|_=>False
theorem sB (ha:LE K ta pe) (hb:LE K tb pe'):LE K (Cc ta tb) (vX pe pe'):=fun A ρ σ H Q Q' R q k=>ha A ρ σ H _ _ R q fun v H1 p ρ1 q1 f1 o1=>by
 split at q1
 .rename_i c
  obtain⟨R1,f⟩:=o1
  cases f
  refine⟨c,rfl,?_⟩
  cases c with
 |true=>exact hb A ρ1 σ H1 _ _ R1 q1 fun b H2 p2 ρ2 q2 f2 o2=>k b H2 p2 ρ2 q2 (f1.trans f2) (o2.h0 fun b z=>f1.dm b z)
 |false=>exact k _ H1 _ ρ1 q1 f1 ⟨R1,.bl false⟩
 .exact q1.elim
theorem zp (ha:LE K ta pe):LE K (Cd ta) (AH pe):=fun A ρ σ H Q Q' R q k=>ha A ρ σ H _ _ R q fun v H1 p ρ1 q1 f1 o1=>by
 split at q1
 .rename_i c
  obtain⟨R1,f⟩:=o1
  cases f
  exact⟨c,rfl,k _ H1 _ ρ1 q1 f1 ⟨R1,.bl (!c)⟩⟩
 .exact q1.elim
def pIf (t:PTT) (a b:PTE):PTE:=fun ρ Q=>t ρ fun c ρ1=>fU c (a ρ1 Q) (b ρ1 Q)
theorem Dd (ht:LT K tta pta) (ha:LE K ta pe) (hb:LE K tb pe'):LE K (tIf tta ta tb) (pIf pta pe pe'):=fun A ρ σ H Q Q' R q k=>ht A ρ σ H _ _ R q fun c H1 ρ1 q1 f1 R1=>by
 cases c with
|true=>exact ha A ρ1 σ H1 _ _ R1 q1 fun b H2 p2 ρ2 q2 f2 o2=>k b H2 p2 ρ2 q2 (f1.trans f2) (o2.h0 fun b z=>f1.dm b z)
|false=>exact hb A ρ1 σ H1 _ _ R1 q1 fun b H2 p2 ρ2 q2 f2 o2=>k b H2 p2 ρ2 q2 (f1.trans f2) (o2.h0 fun b z=>f1.dm b z)
end
abbrev F2:=D->D->(PV->Prop)->Prop
def fI0 (g:Int->Int->D):F2
|.int i,.int j,Q=>Q (.dat (g i j))
|_,_,_=>False
def fI (C:Int->Int->Prop) (g:Int->Int->D):F2
|.int i,.int j,Q=>C i j/\Q (.dat (g i j))
|_,_,_=>False
section
variable {K:PySem.W.Frag}{X:Cx}
theorem yd {g:Int->Int->V}{g':Int->Int->D} (h:∀i j O H,FV K O H (g i j) (g' i j)):LO K (rI0 g) (fI0 g'):=by
 intro O H x y a b Q Q' dom fx fy q k
 unfold fI0 at q
 split at q
 .rename_i i j;exact⟨i,j,fx.int,fy.int,k _ H _ q (Gr.refl _) (h i j _ _)⟩
 .exact q.elim
theorem De {C:Int->Int->Prop}{g:Int->Int->V}{g':Int->Int->D} (h:∀i j O H,FV K O H (g i j) (g' i j)):LO K (rI C g) (fI C g'):=by
 intro O H x y a b Q Q' dom fx fy q k
 unfold fI at q
 split at q
 .rename_i i j;exact⟨i,j,fx.int,fy.int,q.1,k _ H _ q.2 (Gr.refl _) (h i j _ _)⟩
 .exact q.elim
theorem eX {O:Addr->Prop}{H:Hp}{xs:List V}{ds:List D}{p:Addr} (hp:H p=none) (f:FVs K O H xs ds):qA K O H (upd H p (.lst xs)) (.own ds) (.ref p) :=
 ⟨p,xs,rfl,hp,aL,f.keeps (aM.fresh hp)⟩
theorem kM {O:Addr->Prop}{H:Hp}{xs:List V}{ds:List D}{p:Addr} (dom:∀b,O b->H b≠none) (hp:H p=none) (f:FVs K O H xs ds):qA K O H (upd H p (.tup xs)) (.dat (.tup ds)) (.ref p) :=
 .tup (fun z=>dom p z hp) aL (f.keeps fun b o n e=>⟨n,by rw [aB (bi e hp)];exact e⟩)
def EW:R2:=fun x y H Q=>∃i j,x=.str (S i)/\y=.str (S j)/\i.length+j.length<=sizeLine/\Q (.str (S (i++j))) H
def AI (K:PySem.W.Frag):R2:=fun x y H Q=>rI0 (fun i j=>.int (i+j)) x y H Q\/EW x y H Q\/C1 K x y H Q\/CA K x y H Q
theorem EX (K:PySem.W.Frag) (e:X.K=K):OpR X (binaryOp .Add) (AI K):=by
 subst e
 exact OpR.or Ck (OpR.or Aw (OpR.or AA Am))
def EY:F2
|.int i,.int j,Q=>Q (.dat (.int (i+j)))
|.str a,.str b,Q=>a.length+b.length<=1000000/\Q (.dat (.str (a++b)))
|.lst a,.lst b,Q=>a.length+b.length<=1000000/\Q (.own (a++b))
|.scr a,.lst b,Q=>a.length+b.length<=1000000/\Q (.own (a.map .int++b))
|.tup a,.tup b,Q=>a≠[]/\a.length+b.length<=1000000/\Q (.dat (.tup (a++b)))
|_,_,_=>False
theorem zq:LO K (AI K) EY:=by
 intro O H x y a b Q Q' dom fx fy q k
 unfold EY at q
 split at q
 .rename_i i j;exact .inl ⟨i,j,fx.int,fy.int,k _ H _ q (Gr.refl _) (.int _)⟩
 .rename_i i j;exact .inr (.inl ⟨i,j,fx.str.1,fy.str.1,sz _ q.1,k _ H _ q.2 (Gr.refl _) (.str _ (by rw [List.length_append];exact q.1))⟩)
 .rename_i i j
  obtain⟨a,xs,rfl,e1,f1⟩:=fx.lst
  obtain⟨b,ys,rfl,e2,f2⟩:=fy.lst
  exact .inr (.inr (.inl ⟨a,b,xs,ys,rfl,rfl,SqL.of e1,SqL.of e2,sz _ (by rw [f1.length,f2.length];exact q.1),fun p hp=>k _ _ _ q.2 (Gr.new hp) (eX hp (f1.append f2))⟩))
 .rename_i i j
  obtain⟨a,rfl,e1⟩:=fx.scr
  obtain⟨b,ys,rfl,e2,f2⟩:=fy.lst
  exact .inr (.inr (.inl ⟨a,b,_,ys,rfl,rfl,e1,SqL.of e2,sz _ (by rw [List.length_map,f2.length];exact q.1),fun p hp=>k _ _ _ q.2 (Gr.new hp) (eX hp ((FVs.of_ints i).append f2))⟩))
 .rename_i i j
  obtain⟨a,xs,rfl,n1,e1,f1⟩:=fx.tup
  obtain⟨b,ys,rfl,n2,e2,f2⟩:=fy.tup
  have l1:=f1.length
  have l2:=f2.length
  refine .inr (.inr (.inr ⟨a,b,xs,ys,rfl,rfl,SqT.of e1,SqT.of e2,fun z=>q.1 ?_,sz _ (by rw [l1,l2];exact q.2.1),fun z=>?_,fun _ p hp=>k _ _ _ q.2.2 (Gr.new hp) (kM dom hp (f1.append f2))⟩))
  .exact List.length_eq_zero_iff.mp (by rw [<- l1,z];rfl)
  .have:j=[]:=List.length_eq_zero_iff.mp (by rw [<- l2,z];rfl)
   subst this
   exact k _ H _ q.2.2 (Gr.refl _) (by rw [List.append_nil];exact .tup n1 e1 f1)
 .exact q.elim
theorem iO:LO K (rI0 fun i j=>.int (i - j)) (fI0 fun i j=>.int (i - j)):=yd fun _ _ _ _=>.int _
theorem a8:LO K (rI (fun _ j=>0<j) fun i j=>.int (i % j)) (fI (fun _ j=>0<j) fun i j=>.int (i % j)):=De fun _ _ _ _=>.int _
theorem iu:LO K (rI Ey fun i j=>.int (i / j)) (fI (fun _ j=>0<j/\j<1073741824) fun i j=>.int (i / j)):=De fun _ _ _ _=>.int _
theorem pA:LO K (rI Cj fun i j=>.int (i^j.toNat)) (fI (fun i j=>0<=j/\j<=1000000/\i.natAbs<2^64) fun i j=>.int (i^j.toNat)):=De fun _ _ _ _=>.int _
def EZ:R2:=fun x y H Q=>∃l n,x=.str (S l)/\y=.int n/\-1000000<=n/\n<=1000000/\n.toNat*l.length<=sizeLine/\Q (.str (S (kA l n))) H
def vY:R2:=fun x y H Q=>rI Eh (fun i j=>.int (i*j)) x y H Q\/EZ x y H Q\/FF x y H Q
theorem f9:OpR X (binaryOp .Mult) vY:=OpR.or Cn (OpR.or t9 CH)
def mF:F2
|.int i,.int j,Q=>((-(2^64)<i/\i<2^64)\/(-(2^64)<j/\j<2^64))/\Q (.dat (.int (i*j)))
|.str a,.int n,Q=>(-1000000<=n/\n<=1000000/\n.toNat*a.length<=1000000)/\Q (.dat (.str (kA a n)))
|.lst a,.int n,Q=>(-1000000<=n/\n<=1000000/\a.length*n.toNat<=1000000)/\Q (.own (kA a n))
|_,_,_=>False
theorem FVs.rep {O:Addr->Prop}{H:Hp}{xs:List V}{ds:List D} (f:FVs K O H xs ds):∀n,FVs K O H (List.replicate n xs).flatten (List.replicate n ds).flatten
|0=>.nil
|n+1=>by rw [List.replicate_succ,List.replicate_succ,List.flatten_cons,List.flatten_cons];exact f.append (f.rep n)
theorem dA:LO K vY mF:=by
 intro O H x y a b Q Q' dom fx fy q k
 unfold mF at q
 split at q
 .rename_i i j;exact .inl ⟨i,j,fx.int,fy.int,q.1,k _ H _ q.2 (Gr.refl _) (.int _)⟩
 .rename_i i j;exact .inr (.inl ⟨i,j,fx.str.1,fy.int,q.1.1,q.1.2.1,sz _ q.1.2.2,k _ H _ q.2 (Gr.refl _) (.str _ (by rw [fk];exact q.1.2.2))⟩)
 .rename_i i j
  obtain⟨a,xs,rfl,e1,f1⟩:=fx.lst
  exact .inr (.inr ⟨a,j,xs,rfl,fy.int,e1,by omega,by omega,sz _ (by rw [f1.length];exact q.1.2.2),fun p hp=>k _ _ _ q.2 (Gr.new hp) (eX hp (f1.rep _))⟩)
 .exact q.elim
def E1:R2:=fun x y H Q=>rI0 (fun i j=>.bl (decide (i<j))) x y H Q\/∃i j,x=.str i/\y=.str j/\Q (.bl (decide (i.cps.toList<j.cps.toList))) H
def Ek:R2:=fun x y H Q=>rI0 (fun i j=>.bl (decide (i<=j))) x y H Q\/∃i j,x=.str i/\y=.str j/\Q (.bl (!decide (j.cps.toList<i.cps.toList))) H
theorem AJ:OpR X (compareOp .Lt) E1:=OpR.or EB u4
theorem El:OpR X (compareOp .LtE) Ek:=OpR.or EC vy
def fLt:F2
|.int i,.int j,Q=>Q (.dat (.bl (decide (i<j))))
|.str i,.str j,Q=>Q (.dat (.bl (decide (i<j))))
|_,_,_=>False
def fLe:F2
|.int i,.int j,Q=>Q (.dat (.bl (decide (i<=j))))
|.str i,.str j,Q=>Q (.dat (.bl (!decide (j<i))))
|_,_,_=>False
theorem qO:LO K E1 fLt:=by
 intro O H x y a b Q Q' dom fx fy q k
 unfold fLt at q
 split at q
 .rename_i i j;exact .inl ⟨i,j,fx.int,fy.int,k _ H _ q (Gr.refl _) (.bl _)⟩
 .rename_i i j;exact .inr ⟨_,_,fx.str.1,fy.str.1,k _ H _ q (Gr.refl _) (.bl _)⟩
 .exact q.elim
theorem ye:LO K Ek fLe:=by
 intro O H x y a b Q Q' dom fx fy q k
 unfold fLe at q
 split at q
 .rename_i i j;exact .inl ⟨i,j,fx.int,fy.int,k _ H _ q (Gr.refl _) (.bl _)⟩
 .rename_i i j;exact .inr ⟨_,_,fx.str.1,fy.str.1,k _ H _ q (Gr.refl _) (.bl _)⟩
 .exact q.elim
theorem pD:LO K (rI0 fun i j=>.bl (decide (j<i))) (fI0 fun i j=>.bl (decide (j<i))):=yd fun _ _ _ _=>.bl _
theorem Df:LO K (rI0 fun i j=>.bl (decide (j<=i))) (fI0 fun i j=>.bl (decide (j<=i))):=yd fun _ _ _ _=>.bl _
mutual
def D.py:D->PyData
|.non=>.none|.bl b=>.bool b|.int i=>.int i|.str l=>.str (S l)|.ty _=>.none
|.lst ds=>.list (D.pys ds)|.tup ds=>.tuple (D.pys ds)|.scr ns=>.list (ns.map .int)|.dic _ _=>.none|.obj _ _ _=>.none|.exc _ _ _=>.none
def D.pys:List D->List PyData
|[]=>[]
|d::r=>d.py::D.pys r
end
mutual
def D.plain:D->Bool
|.non=>true|.bl _=>true|.int _=>true|.str _=>true|.ty _=>false
|.lst ds=>D.plains ds|.tup ds=>D.plains ds|.scr _=>true|.dic _ _=>false|.obj _ _ _=>false|.exc _ _ _=>false
def D.plains:List D->Bool
|[]=>true
|d::r=>d.plain && D.plains r
end
mutual
theorem FV.dv {O:Addr->Prop}{H:Hp}:∀{v:V}{d:D},FV K O H v d->d.plain=true->DV K H v d.py
|_,_,.non,_=>.non
|_,_,.bl b,_=>.bl b
|_,_,.int i,_=>.int i
|_,_,.str l h,_=>.str (S l)
|_,_,.ty n,p=>nomatch p
|_,_,.scr s,_=>.lst s.sq (DVs.ints _)
|_,_,.lst n e f,p=>.lst (SqL.of e) (FVs.dvs f p)
|_,_,.tup n e f,p=>.tup (SqT.of e) (FVs.dvs f p)
|_,_,.dic _ _ _ _,p=>nomatch p
|_,_,.obj _ _ _ _,p=>nomatch p
|_,_,.exc0 _ _,p=>nomatch p
|_,_,.exc1 _ _ _ _ _ _,p=>nomatch p
theorem FVs.dvs {O:Addr->Prop}{H:Hp}:∀{vs:List V}{ds:List D},FVs K O H vs ds->D.plains ds=true->DVs K H vs (D.pys ds)
|_,_,.nil,_=>.nil
|_,_,.cons a b,p=>by
  have p:(_ && _)=true:=p
  rw [Bool.and_eq_true] at p
  exact .cons (FV.dv a p.1) (FVs.dvs b p.2)
end
theorem FVc.dv {O:Addr->Prop}{H:Hp}{v:V}{d:D} (h:FVc K O H v d) (p:d.plain=true):DV K H v d.py:=by
 rcases h with h|⟨a,xs,ds',rfl,rfl,e3,f⟩|⟨a,dx,c,fs,ns,ds',e1,rfl,_⟩
 .exact h.dv p
 .exact .lst (SqL.of e3) (f.dvs p)
 .cases p
def Dg (K:PySem.W.Frag) (neg:Bool):R2:=fun x y H Q=>rI0 (fun i j=>.bl (if neg then !decide (i=j) else decide (i=j))) x y H Q\/(∃i j,x=.str (S i)/\y=.str (S j)/\Q (.bl (if neg then !decide (i=j) else decide (i=j))) H)\/EK K neg x y H Q
theorem Gj (K:PySem.W.Frag) (e:X.K=K) (hu:X.A.units+64<cLine):OpR X (compareOp .Eq) (Dg K false):=by
 subst e
 exact OpR.or CU (OpR.or CS (CO hu))
theorem Gk (K:PySem.W.Frag) (e:X.K=K) (hu:X.A.units+64<cLine):OpR X (compareOp .NotEq) (Dg K true):=by
 subst e
 exact OpR.or CV (OpR.or CT (CP hu))
def pE (a b:D):Prop:=a.plain=true/\b.plain=true/\SeqAt.shaped a.py=true/\SeqAt.shaped b.py=true
def deq (a b:D):Bool:=PyData.eqv a.py b.py
def fEq:F2
|.int i,.int j,Q=>Q (.dat (.bl (decide (i=j))))
|.str i,.str j,Q=>Q (.dat (.bl (decide (i=j))))
|a,b,Q=>pE a b/\Q (.dat (.bl (deq a b)))
def fNe:F2
|.int i,.int j,Q=>Q (.dat (.bl (!decide (i=j))))
|.str i,.str j,Q=>Q (.dat (.bl (!decide (i=j))))
|a,b,Q=>pE a b/\Q (.dat (.bl (!deq a b)))
theorem E2:LO K (Dg K false) fEq:=by
 intro O H x y a b Q Q' dom fx fy q k
 unfold fEq at q
 split at q
 .rename_i i j;exact .inl ⟨i,j,fx.int,fy.int,k _ H _ q (Gr.refl _) (.bl _)⟩
 .rename_i i j;exact .inr (.inl ⟨i,j,fx.str.1,fy.str.1,k _ H _ q (Gr.refl _) (.bl _)⟩)
 .exact .inr (.inr ⟨_,_,fx.dv q.1.1,fy.dv q.1.2.1,q.1.2.2.1,q.1.2.2.2,k _ H _ q.2 (Gr.refl _) (.bl _)⟩)
theorem E3:LO K (Dg K true) fNe:=by
 intro O H x y a b Q Q' dom fx fy q k
 unfold fNe at q
 split at q
 .rename_i i j;exact .inl ⟨i,j,fx.int,fy.int,k _ H _ q (Gr.refl _) (.bl _)⟩
 .rename_i i j;exact .inr (.inl ⟨i,j,fx.str.1,fy.str.1,k _ H _ q (Gr.refl _) (.bl _)⟩)
 .exact .inr (.inr ⟨_,_,fx.dv q.1.1,fy.dv q.1.2.1,q.1.2.2.1,q.1.2.2.2,k _ H _ q.2 (Gr.refl _) (.bl _)⟩)
def Em (neg:Bool):R2:=fun x y H Q=>(∃b c,x=.bl b/\y=.bl c/\Q (.bl (if neg then !decide (b=c) else decide (b=c))) H)\/(y=.non/\Q (.bl (if neg then !decide (x=.non) else decide (x=.non))) H)
theorem Gm:OpR X (compareOp .Is) (Em false):=OpR.or C7 Cu
theorem vZ:OpR X (compareOp .IsNot) (Em true):=OpR.or vQ Aa
def D.isNon:D->Bool
|.non=>true
|_=>false
theorem FVc.isNon {O:Addr->Prop}{H:Hp}{v:V}{d:D} (h:FVc K O H v d):decide (v=.non)=d.isNon:=by
 rcases h with h|⟨a,xs,ds',rfl,rfl,e3,f⟩|⟨a,dx,c,fs,ns,ds',rfl,rfl,_⟩
 .cases h <;> rfl
 .rfl
 .rfl
def fIs (neg:Bool):F2
|.bl b,.bl c,Q=>Q (.dat (.bl (if neg then !decide (b=c) else decide (b=c))))
|a,.non,Q=>Q (.dat (.bl (if neg then !a.isNon else a.isNon)))
|_,_,_=>False
theorem AK {neg:Bool}:LO K (Em neg) (fIs neg):=by
 intro O H x y a b Q Q' dom fx fy q k
 unfold fIs at q
 split at q
 .rename_i b c;exact .inl ⟨b,c,fx.bl,fy.bl,k _ H _ q (Gr.refl _) (.bl _)⟩
 .exact .inr ⟨fy.non,by rw [fx.isNon];exact k _ H _ q (Gr.refl _) (.bl _)⟩
 .exact q.elim
def D.fl:D->Bool
|.non=>true|.bl _=>true|.int _=>true|.str _=>true
|_=>false
def eqF:D->D->Bool
|.non,.non=>true
|.bl a,.bl b=>a == b
|.bl a,.int b=>(if a then 1 else 0) == b
|.int a,.bl b=>a == (if b then 1 else 0)
|.int a,.int b=>a == b
|.str a,.str b=>a == b
|_,_=>false
def inD (x:D) (xs:List D):Bool:=xs.any fun y=>eqF y x
theorem FV.fl {O:Addr->Prop}{H:Hp}{v:V}{d:D} (h:FV K O H v d) (f:d.fl=true):lM v=true:=by cases h <;> first|rfl|cases f
theorem Dh (a b:List Nat):(S a == S b)=(a == b):=by
 by_cases h:a=b
 .subst h;rw [beq_self_eq_true,beq_self_eq_true]
 .rw [beq_eq_false_iff_ne.mpr h,beq_eq_false_iff_ne.mpr (Gg h)]
theorem FV.eqF {O:Addr->Prop}{H:Hp}{v w:V}{d e:D} (h:FV K O H v d) (f:d.fl=true) (h':FV K O H w e) (f':e.fl=true):eqV v w=L2.eqF d e:=by
 cases h <;> first|(cases f;done)|(cases h' <;> first|(cases f';done)|rfl|exact Dh _ _)
theorem FVs.inD {O:Addr->Prop}{H:Hp}{v:V}{d:D} (h:FV K O H v d) (f:d.fl=true):∀{xs:List V}{ds:List D},FVs K O H xs ds->ds.all D.fl=true->xs.all lM=true/\inV v xs=L2.inD d ds
|_,_,.nil,_=>⟨rfl,rfl⟩
|_,_,.cons a b,g=>by
  rw [List.all_cons,Bool.and_eq_true] at g
  obtain⟨i1,i2⟩:=b.inD h f g.2
  refine⟨by rw [List.all_cons,a.fl g.1,i1];rfl,?_⟩
  unfold inV L2.inD at i2 ⊢
  rw [List.any_cons,List.any_cons,i2,a.eqF g.1 h f]
def fIn (neg:Bool):F2
|a,.lst ds,Q=>(a.fl=true/\ds.all D.fl=true)/\Q (.dat (.bl (if neg then !inD a ds else inD a ds)))
|a,.tup ds,Q=>(a.fl=true/\ds.all D.fl=true)/\Q (.dat (.bl (if neg then !inD a ds else inD a ds)))
|_,_,_=>False
theorem FVc.fl {O:Addr->Prop}{H:Hp}{v:V}{d:D} (h:FVc K O H v d) (f:d.fl=true):FV K O H v d:=h.fv (fun _ z=>by rw [z] at f;cases f) (fun _ _ _ z=>by rw [z] at f;cases f)
theorem Gn (K:PySem.W.Frag) (e:X.K=K):OpR X (compareOp .In) (rIn K false):=by subst e;exact vg
theorem AL (K:PySem.W.Frag) (e:X.K=K):OpR X (compareOp .NotIn) (rIn K true):=by subst e;exact oO
theorem Di {neg:Bool}:LO K (rIn K neg) (fIn neg):=by
 intro O H x y a b Q Q' dom fx fy q k
 unfold fIn at q
 split at q
 .obtain⟨p,xs,rfl,e1,f1⟩:=fy.lst
  obtain⟨g1,g2⟩:=f1.inD (fx.fl q.1.1) q.1.1 q.1.2
  exact⟨p,xs,rfl,.inl (SqL.of e1),(fx.fl q.1.1).fl q.1.1,g1,by rw [g2];exact k _ H _ q.2 (Gr.refl _) (.bl _)⟩
 .obtain⟨p,xs,rfl,n1,e1,f1⟩:=fy.tup
  obtain⟨g1,g2⟩:=f1.inD (fx.fl q.1.1) q.1.1 q.1.2
  exact⟨p,xs,rfl,.inr (SqT.of e1),(fx.fl q.1.1).fl q.1.1,g1,by rw [g2];exact k _ H _ q.2 (Gr.refl _) (.bl _)⟩
 .exact q.elim
def pF (K:PySem.W.Frag):R2:=fun x y H Q=>FB K x y H Q\/FC K x y H Q\/CQ x y H Q
theorem eH (K:PySem.W.Frag) (e:X.K=K):IxR X (pF K):=by
 subst e
 exact IxR.or Ap (IxR.or CB Av)
def fIx:F2
|.lst ds,.int i,Q=>∃d,atI ds i=some d/\Q (.dat d)
|.tup ds,.int i,Q=>∃d,atI ds i=some d/\Q (.dat d)
|.scr ns,.int i,Q=>∃d,atI ns i=some d/\Q (.dat (.int d))
|.str l,.int i,Q=>∃c,atI l i=some c/\Q (.dat (.str [c]))
|_,_,_=>False
theorem FVs.atI {O:Addr->Prop}{H:Hp}{vs:List V}{ds:List D}{i:Int}{d:D} (f:FVs K O H vs ds) (h:L2.atI ds i=some d):∃v,L2.atI vs i=some v/\FV K O H v d:=by
 unfold L2.atI at h ⊢
 rw [f.length]
 cases e:ixN ds.length i with
|none=>rw [e] at h;cases h
|some j=>rw [e] at h;exact f.getD h
theorem cu:LO K (pF K) fIx:=by
 intro O H x y a b Q Q' dom fx fy q k
 unfold fIx at q
 split at q
 .obtain⟨d,hd,q⟩:=q
  obtain⟨p,xs,rfl,e1,f1⟩:=fx.lst
  obtain⟨v,hv,fv⟩:=f1.atI hd
  exact .inl ⟨p,xs,_,v,rfl,fy.int,SqL.of e1,hv,k _ H _ q (Gr.refl _) fv⟩
 .obtain⟨d,hd,q⟩:=q
  obtain⟨p,xs,rfl,n1,e1,f1⟩:=fx.tup
  obtain⟨v,hv,fv⟩:=f1.atI hd
  exact .inr (.inl ⟨p,xs,_,v,rfl,fy.int,SqT.of e1,hv,k _ H _ q (Gr.refl _) fv⟩)
 .obtain⟨d,hd,q⟩:=q
  obtain⟨p,rfl,e1⟩:=fx.scr
  exact .inl ⟨p,_,_,_,rfl,fy.int,e1,Ax hd,k _ H _ q (Gr.refl _) (.int d)⟩
 .obtain⟨c,hc,q⟩:=q
  exact .inr (.inr ⟨_,_,c,fx.str.1,fy.int,sz _ fx.str.2,hc,k _ H _ q (Gr.refl _) (.str _ (by show 1<=1000000;decide))⟩)
 .exact q.elim
end
end L2
namespace L2
open PySem PySem.Spec PyProof.Rows _root_.HT
section
variable {prog:Program}{w:World}{A:Around}{E:Value->Shared->Prop}{s:Shared}
theorem je {t sl:Addr}{items:Array Value}{vl vu:Value}{lo hi:Option Int}{Q:Value->Shared->Prop} (ht:IsTup s.heap t items) (hs:s.heap.IsSliceOf sl vl vu .none) (pl:IsPart vl lo) (pu:IsPart vu hi)
  (hw:sIx items.size 0 lo=0/\sIx items.size items.size hi=items.size)
  (h:Q (.ref t) s):wpAny (model prog w) A (getItem (.ref t) (.ref sl)) Q E s:=by
 obtain⟨os,hos,hcs,hds⟩:=id hs
 have hTs:s.TypeIs (.ref sl) "slice":=⟨os,hos,hcs⟩
 unfold getItem
 try with_reducible refine wpAny_holding ?_
 first|refine wpAny_bind (wpAny_pure ?_)|skip
 refine wpAny_bind (wpAny_sequenceKey ht.typeIs (by decide) ?_)
 refine wpAny_bind (wpAny_callSpecial?_slot (name:=Str.ofString "__getitem__") ht.typeIs PyProof.Rows.slot_tuple_getitem
  (wpAny_call_entry PyProof.Rows.slot_tuple_getitem ht.typeIs entry_tuple_getitem ?_ (args_tuple_getitem _ _)))
 show wpAny _ _ (Builtin.Tuple.tupleItemsOf (.ref t) >>= _) _ _ s
 refine wpAny_bind (tupleItemsOf_ ht ?_)
 refine wpAny_bind (wpAny_typeOf hTs ?_)
 rw [if_pos (by decide)]
 refine wpAny_bind (fS hs pl pu ?_)
 have hyes:(((sIx items.size 0 lo:Nat):Int) == 0 && (1:Int) == 1 && (sIx items.size items.size hi - sIx items.size 0 lo) == items.size)=true:=by
  rw [hw.1,hw.2,Nat.sub_zero];simp
 show wpAny _ _ (if (((sIx items.size 0 lo:Nat):Int) == 0 && (1:Int) == 1 && (sIx items.size items.size hi - sIx items.size 0 lo) == items.size)=true then _ else _) _ _ s
 rw [if_pos hyes]
 refine wpAny_bind (m:=Builtin.Tuple.tupleIsExact _) (wpAny_bind (wpAny_typeOf ht.typeIs (wpAny_pure ?_)))
 rw [if_pos (by decide)]
 first
 |exact wpAny_bind (m:=rule _) (wpAny_pure (wpAny_pure ⟨_,rfl,wpAny_pure h⟩))
 |exact wpAny_pure ⟨_,rfl,wpAny_pure h⟩
 |exact wpAny_bind (wpAny_rule (wpAny_pure ⟨_,rfl,wpAny_pure h⟩))
def Dj (K:PySem.W.Frag):V->Option Int->Option Int->Hp->VK->Prop:=fun x lo hi H Q=>∃a xs,x=.ref a/\SqT K H a xs/\(sIx xs.length 0 lo=0/\sIx xs.length xs.length hi=xs.length)/\Q (.ref a) H
theorem AM {X:Cx}:SlR X (Dj X.K):=by
 intro pins s σ H x v vl vu lo hi sl Q I rx hs pl pu h
 obtain⟨a,xs,rfl,hx,hw,q⟩:=h
 cases rx
 obtain⟨its,r,ht,hz⟩:=I.tuple hx
 have hlen:its.toArray.size=xs.length:=by rw [List.size_toArray];exact r.length.symm
 refine⟨"tuple",_,PyProof.Rows.slot_tuple_getitem.lookup,ht.typeIs,?_⟩
 exact je ht hs pl pu (by rw [hlen];exact hw) ⟨.ref a,H,I,rfl,q⟩
end
end L2
namespace L2
open PySem PySem.Spec PyProof.Rows
section
variable {K:PySem.W.Frag}{X:Cx}{ta tb tc to:TE}{pa pb pc:PA1}{pe:PTE}{tr:TA}{pr:PTA}
def wb (f f':F2) (pa pb pc:PA1):PTE:=fun ρ Q=>pa ρ fun x ρ1=>pb ρ1 fun y ρ2=>op2 f ρ2 x y fun p ρ3=>match p with
|.dat (.bl k)=>fU k (pc ρ3 fun z ρ4=>op2 f' ρ4 y z Q) (Q (.dat (.bl false)) ρ3)
|_=>False
theorem sC {r r':R2}{f f':F2} (o:LO K r f) (o':LO K r' f') (ha:LA1 K ta pa) (hb:LA1 K tb pb) (hc:LA1 K tc pc):LE K (rY r r' ta tb tc) (wb f f' pa pb pc):=fun A ρ σ H Q Q' R q k =>
 ha A ρ σ H _ _ R q fun v H1 a ρ1 q1 f1 R1 o1=>hb A ρ1 σ H1 _ _ R1 q1 fun w H2 b ρ2 q2 f2 R2 o2=>by
  unfold op2 at q2
  split at q2
  .rename_i da db e1 e2
   refine o _ H2 v w da db _ _ R2.dom2 (R2.cont (o1.keeps f2.keeps) e1) (R2.cont o2 e2) q2 fun z H3 p q3 g ov=>?_
   dsimp only at q3
   split at q3
   .rename_i c
    cases ov
    refine⟨c,rfl,?_⟩
    have R3:=R2.gr g
    cases c with
   |true =>
     refine hc A ρ2 σ H3 _ _ R3 q3 fun u H4 cc ρ4 q4 f4 R4 o4=>?_
     try unfold op2 at q4
     split at q4
     .rename_i dc dd e3 e4
      have o2':AOk K (OO A ρ4 σ) σ H4 b w:=(o2.keeps (g.fr (ρ:=ρ2) (σ:=σ)).keeps).keeps f4.keeps
      exact o' _ H4 w u _ _ _ _ R4.dom2 (R4.cont o2' e3) (R4.cont o4 e4) q4 fun z H5 p q5 g5 ov=>k z H5 p ρ4 q5 ((((f1.trans f2).trans g.fr).trans f4).trans g5.fr) ((ov.out R4 g5).h0 fun b z=>f4.dm b ((g.fr (ρ:=ρ2) (σ:=σ)).dm b (f2.dm b (f1.dm b z))))
     .exact q4.elim
   |false=>exact k _ H3 _ ρ2 q3 ((f1.trans f2).trans g.fr) ⟨R3,.bl false⟩
   .exact q3.elim
  .exact q2.elim
abbrev PTO:=PSt->(Option Int->PSt->Prop)->Prop
def LPo (K:PySem.W.Frag) (t:TO) (p:PTO):Prop:=∀(A:Addr->Prop) (ρ:PSt) (σ:St) (H:Hp) (Q:Option Int->PSt->Prop) (Q':Option Int->Hp->Prop),Rel K A ρ σ H->p ρ Q ->
 (∀b H' ρ',Q b ρ'->Fr ρ σ H ρ' H'->Rel K A ρ' σ H'->Q' b H')->t σ H Q'
def dB:PTO:=fun ρ Q=>Q none ρ
def dk (pe:PTE):PTO:=fun ρ Q=>pe ρ fun p ρ1=>match p with
|.dat (.int i)=>Q (some i) ρ1
|_=>False
theorem b8:LPo K vf dB:=fun A ρ σ H Q Q' R q k=>k none H ρ q (Fr.refl _ _ _) R
theorem bH (h:LE K ta pe):LPo K (Cy ta) (dk pe):=fun A ρ σ H Q Q' R q k=>h A ρ σ H _ _ R q fun v H1 p ρ1 q1 f1 o1=>by
 split at q1
 .rename_i i
  obtain⟨R1,f⟩:=o1
  cases f
  exact⟨i,rfl,k _ H1 ρ1 q1 f1 R1⟩
 .exact q1.elim
def E4 (K:PySem.W.Frag):V->Option Int->Option Int->Hp->VK->Prop:=fun x lo hi H Q=>FD K x lo hi H Q\/FG x lo hi H Q\/FA K x lo hi H Q\/Dj K x lo hi H Q
theorem oA (K:PySem.W.Frag) (e:X.K=K):SlR X (E4 K):=by
 subst e
 exact SlR.or Ar (SlR.or CM (SlR.or Cz AM))
def fSl:D->Option Int->Option Int->(PV->Prop)->Prop
|.lst ds,lo,hi,Q=>Q (.own (dR ds lo hi))
|.scr ns,lo,hi,Q=>Q (.own ((dR ns lo hi).map .int))
|.str l,lo,hi,Q=>Q (.dat (.str (dR l lo hi)))
|.tup ds,lo,hi,Q=>Q (.dat (.tup (dR ds lo hi)))
|_,_,_,_=>False
theorem FVs.cut {O:Addr->Prop}{H:Hp}{xs:List V}{ds:List D} (f:FVs K O H xs ds) (lo hi:Option Int):FVs K O H (dR xs lo hi) (dR ds lo hi):=by
 unfold dR
 rw [f.length]
 exact (f.drop _).take _
def dt (pa:PA1) (pl ph:PTO):PTE:=fun ρ Q=>pa ρ fun x ρ1=>pl ρ1 fun lo ρ2=>ph ρ2 fun hi ρ3=>match cont ρ3 x with
|some d=>fSl d lo hi fun p=>Q p ρ3
|_=>False
theorem AN {α:Type}{ds:List α}{lo hi:Option Int}{n:Nat} (h:n=ds.length) (hw:HT.sIx n 0 lo=0/\HT.sIx n n hi=n):dR ds lo hi=ds:=by
 subst h
 unfold dR
 rw [hw.1,hw.2,List.drop_zero,Nat.sub_zero,List.take_length]
theorem lsl {O:Addr->Prop}{H:Hp}{x:V}{d:D}{lo hi:Option Int}{Q:PV->Prop}{Q':VK} (dom:∀b,O b->H b≠none) (fx:FVc K O H x d) (q:fSl d lo hi Q) (k:∀v H' p,Q p->Gr H H'->qA K O H H' p v->Q' v H'):E4 K x lo hi H Q':=by
 unfold fSl at q
 split at q
 .obtain⟨a,xs,rfl,e1,f1⟩:=fx.lst
  exact .inl ⟨a,xs,rfl,SqL.of e1,fun p hp=>k _ _ _ q (Gr.new hp) (eX hp (f1.cut _ _))⟩
 .obtain⟨a,rfl,e1⟩:=fx.scr
  exact .inl ⟨a,_,rfl,e1,fun p hp=>k _ _ _ q (Gr.new hp) (eX hp (by rw [vt,xT];exact FVs.of_ints _))⟩
 .exact .inr (.inl ⟨_,fx.str.1,sz _ fx.str.2,k _ H _ q (Gr.refl _) (.str _ (Nat.le_trans (dE _ _ _) fx.str.2))⟩)
 .obtain⟨a,xs,rfl,n1,e1,f1⟩:=fx.tup
  by_cases hw:HT.sIx xs.length 0 lo=0/\HT.sIx xs.length xs.length hi=xs.length
  .refine .inr (.inr (.inr ⟨a,xs,rfl,SqT.of e1,hw,k _ H _ q (Gr.refl _) ?_⟩))
   rw [AN f1.length hw]
   exact .tup n1 e1 f1
  .exact .inr (.inr (.inl ⟨a,xs,rfl,SqT.of e1,hw,fun p hp=>k _ _ _ q (Gr.new hp) (kM dom hp (f1.cut _ _))⟩))
 .exact q.elim
theorem bV {tl th:TO}{pl ph:PTO} (ha:LA1 K ta pa) (hl:LPo K tl pl) (hh:LPo K th ph):LE K (tSl (E4 K) ta tl th) (dt pa pl ph):=fun A ρ σ H Q Q' R q k =>
 ha A ρ σ H _ _ R q fun v H1 a ρ1 q1 f1 R1 o1=>hl A ρ1 σ H1 _ _ R1 q1 fun lo H2 ρ2 q2 f2 R2=>hh A ρ2 σ H2 _ _ R2 q2 fun hi H3 ρ3 q3 f3 R3=>by
  split at q3
  .rename_i d e1
   exact lsl R3.dom2 (R3.cont (o1.keeps (f2.trans f3).keeps) e1) q3 fun z H4 p q4 g ov=>k z H4 p ρ3 q4 (((f1.trans f2).trans f3).trans g.fr) ((ov.out R3 g).h0 fun b z=>f3.dm b (f2.dm b (f1.dm b z)))
  .exact q3.elim
abbrev FN:=List D->(PV->Prop)->Prop
def jZ (K:PySem.W.Frag):List V->Hp->VK->Prop:=fun xs H Q=>(∃l,xs=[.str (S l)]/\l.length<=sizeLine/\Q (.int l.length) H)\/ER K xs H Q\/ES K xs H Q\/∃p kvs,xs=[.ref p]/\Rd H p (.dK kvs)/\Q (.int kvs.length) H
theorem c6 (K:PySem.W.Frag) (e:X.K=K):cw X (.builtin "len") (jZ K):=by
 subst e
 exact cw.or vB (cw.or vC (cw.or vD vS))
def gm:FN
|[.str l],Q=>Q (.dat (.int l.length))
|[.lst l],Q=>Q (.dat (.int l.length))
|[.tup l],Q=>Q (.dat (.int l.length))
|[.scr l],Q=>Q (.dat (.int l.length))
|[.dic ks _],Q=>Q (.dat (.int ks.length))
|_,_=>False
theorem bK:LC K (jZ K) gm:=by
 intro O H xs as Q Q' dom fs q k
 unfold gm at q
 split at q
 .cases fs with|cons a b=>cases b;rw [a.str.1];exact .inl ⟨_,rfl,sz _ a.str.2,k _ H _ q (Gr.refl _) (.int _)⟩
 .cases fs with
 |cons a b =>
   cases b
   obtain⟨p,ys,rfl,e1,f1⟩:=a.lst
   exact .inr (.inl ⟨p,ys,rfl,SqL.of e1,by rw [f1.length];exact k _ H _ q (Gr.refl _) (.int _)⟩)
 .cases fs with
 |cons a b =>
   cases b
   obtain⟨p,ys,rfl,n1,e1,f1⟩:=a.tup
   exact .inr (.inr (.inl ⟨p,ys,rfl,SqT.of e1,by rw [f1.length];exact k _ H _ q (Gr.refl _) (.int _)⟩))
 .cases fs with
 |cons a b =>
   cases b
   obtain⟨p,rfl,e1⟩:=a.scr
   exact .inr (.inl ⟨p,_,rfl,e1,by rw [List.length_map];exact k _ H _ q (Gr.refl _) (.int _)⟩)
 .cases fs with
 |cons a b =>
   cases b
   cases a.fv nofun nofun with
  |dic n e m f=>subst m;exact .inr (.inr (.inr ⟨_,_,rfl,.inl e,k _ H _ q (Gr.refl _) (by rw [List.length_map];exact .int _)⟩))
 .exact q.elim
inductive Kd where
|int|bool|str|list|tuple|dict
def Kd.nm:Kd->String
|.int=>"int"|.bool=>"bool"|.str=>"str"|.list=>"list"|.tuple=>"tuple"|.dict=>"dict"
def isK:Kd->D->Bool
|.int,.int _=>true
|.int,.bl _=>true
|.bool,.bl _=>true
|.str,.str _=>true
|.list,.lst _=>true
|.tuple,.tup _=>true
|.dict,.dic _ _=>true
|_,_=>false
def D.sort:D->Bool
|.obj _ _ _=>false
|.exc _ _ _=>false
|.scr _=>false
|.ty _=>false
|_=>true
theorem FVc.ty {O:Addr->Prop}{H:Hp}{v:V}{d:D} (h:FVc K O H v d) (s:d.sort=true):∃t,oz K H v t/\∀k:Kd,PySem.W.kitOne K t (.type k.nm)=some (isK k d):=by
 rcases h with h|⟨a,xs,ds',rfl,rfl,e3,f⟩|⟨a,dx,c,fs,ns,ds',rfl,rfl,_⟩
 .cases h with
 |non=>exact⟨_,.non,fun k=>by cases k <;> rfl⟩
 |bl b=>exact⟨_,.bl b,fun k=>by cases k <;> rfl⟩
 |int i=>exact⟨_,.int i,fun k=>by cases k <;> rfl⟩
 |str l h=>exact⟨_,.str _,fun k=>by cases k <;> rfl⟩
 |ty n=>cases s
 |scr _=>cases s
 |lst n e f=>exact⟨_,.lst e,fun k=>by cases k <;> rfl⟩
 |tup n e f=>exact⟨_,.tup e,fun k=>by cases k <;> rfl⟩
 |dic n e m f=>exact⟨_,.dK e,fun k=>by cases k <;> rfl⟩
 |obj _ _ _ _=>cases s
 |exc0 _ _=>cases s
 |exc1 _ _ _ _ _ _=>cases s
 .exact⟨_,.lst e3,fun k=>by cases k <;> rfl⟩
 .cases s
theorem AO (K:PySem.W.Frag) (e:X.K=K):cw X (.builtin "isinstance") (FH K):=by subst e;exact qH
def En (k:Kd) (pa:PA1):PTE:=fun ρ Q=>pa ρ fun x ρ1=>match cont ρ1 x with
|some d=>fU d.sort (Q (.dat (.bl (isK k d))) ρ1) False
|_=>False
theorem wc (k:Kd) (ha:LA1 K ta pa):LE K (tCB (FH K) (aW ta (aW (tC (.ty k.nm)) dC))) (En k pa):=fun A ρ σ H Q Q' R q kk =>
 ha A ρ σ H _ _ R q fun v H1 a ρ1 q1 f1 R1 o1=>by
  split at q1
  .rename_i d e1
   cases hs:d.sort with
  |false=>rw [hs] at q1;exact q1.elim
  |true =>
    rw [hs] at q1
    obtain⟨t,ty,hk⟩:=(R1.cont o1 e1).ty hs
    exact⟨v,k.nm,t,isK k d,rfl,ty,hk k,kk _ H1 _ ρ1 q1 f1 ⟨R1,.bl _⟩⟩
  .exact q1.elim
def FI (K:PySem.W.Frag):List V->Hp->VK->Prop:=fun xs H Q=>∃(x:V) (p:Addr) (ts:List String) (t:Value) (b:Bool),xs=[x,.ref p]/\oz K H x t/\H p=some (.tup (ts.map V.ty))/\PySem.W.kitAny K t (ts.map Value.type)=some b/\Q (.bl b) H
theorem E5 (K:PySem.W.Frag) (e:X.K=K):cw X (.builtin "isinstance") (FI K):=by subst e;exact pd
def FJ (k l:Kd) (pa:PA1):PTE:=fun ρ Q=>pa ρ fun x ρ1=>match cont ρ1 x with
|some d=>fU d.sort (Q (.dat (.bl (isK k d || isK l d))) ρ1) False
|_=>False
theorem FVc.keeps {O O':Addr->Prop}{H H':Hp}{v:V}{d:D} (k:aM O H O' H') (g:Gr H H') (h:FVc K O H v d):FVc K O' H' v d:=by
 rcases h with h|⟨a,xs,ds',e1,e2,e3,f⟩|⟨a,dx,c,fs,ns,ds',e1,e2,e3,m,f⟩
 .exact .inl (h.keeps k)
 .exact .inr (.inl ⟨a,xs,ds',e1,e2,g _ _ e3,f.keeps k⟩)
 .exact .inr (.inr ⟨a,dx,c,fs,ns,ds',e1,e2,g _ _ e3,m,f.keeps k⟩)
theorem Dl (k l:Kd) (hkl:∀t b c,PySem.W.kitOne K t (.type k.nm)=some b->PySem.W.kitOne K t (.type l.nm)=some c->PySem.W.kitAny K t [.type k.nm,.type l.nm]=some (b || c)) (ha:LA1 K ta pa):LE K (tCB (FI K) (aW ta (aW (EF (aW (tC (.ty k.nm)) (aW (tC (.ty l.nm)) dC))) dC))) (FJ k l pa):=fun A ρ σ H Q Q' R q kk =>
 ha A ρ σ H _ _ R q fun v H1 a ρ1 q1 f1 R1 o1=>by
  split at q1
  .rename_i d e1
   cases hs:d.sort with
  |false=>rw [hs] at q1;exact q1.elim
  |true =>
    rw [hs] at q1
    refine⟨by show 2<=sizeLine;decide,fun p hp=>?_⟩
    have g:Gr H1 (upd H1 p (.tup [V.ty k.nm,V.ty l.nm])):=Gr.new hp
    obtain⟨t,ty,hk⟩:=((R1.cont o1 e1).keeps (g.fr (ρ:=ρ1) (σ:=σ)).keeps g).ty hs
    exact⟨v,p,[k.nm,l.nm],t,_,rfl,ty,aL,hkl _ _ _ (hk k) (hk l),kk _ _ _ ρ1 q1 (f1.trans g.fr) ⟨R1.gr g,.bl _⟩⟩
  .exact q1.elim
end
structure Dm where
 nx:PSt->Prop
 rt:PV->PSt->Prop
 bk:PSt->Prop:=fun _=>False
 ct:PSt->Prop:=fun _=>False
abbrev PTS:=Dm->PSt->Prop
structure ek (fx:List (Nat×V)) (R:Addr->Prop) (H0:Hp) (ρ:PSt) (σ:St) (H:Hp):Prop where
 kp:∀b o,¬ R b->H0 b=some o->H b=some o
 dm:∀b,H0 b≠none->H b≠none
 ow:∀b,Wr ρ σ b->R b\/H0 b=none
 fx:∀p∈fx,σ[p.1]?=some (some p.2)
section
variable {K:PySem.W.Frag}{fx:List (Nat×V)}{A R:Addr->Prop}{H0 H H':Hp}{ρ ρ':PSt}{σ:St}
theorem ek.fr (F:ek fx R H0 ρ σ H) (f:Fr ρ σ H ρ' H'):ek fx R H0 ρ' σ H' :=
 ⟨fun b o n e=>f.kp b o (fun w=>(F.ow b w).elim n (fun z=>by rw [z] at e;cases e)) (F.kp b o n e),fun b z=>f.dm b (F.dm b z),fun b w=>F.ow b (f.ow b w),F.fx⟩
theorem ek.start (hfx:∀p∈fx,σ[p.1]?=some (some p.2)):ek fx (Wr ρ σ) H ρ σ H:=⟨fun _ _ _ h=>h,fun _ h=>h,fun _ h=>.inl h,hfx⟩
theorem ek.keepsR {ρ1:PSt}{σ1:St}{H1:Hp} (F:ek fx R H1 ρ σ H) (hR:∀b,R b->OO A ρ1 σ1 b):aM (OO A ρ1 σ1) H1 (OO A ρ σ) H:=fun b o n e=>by
 refine⟨fun z=>?_,F.kp b o (fun z=>n (hR b z)) e⟩
 rcases z with z|z
 .exact n (.inl z)
 .rcases F.ow b z with z|z
  .exact n (hR b z)
  .rw [z] at e;cases e
theorem ek.keeps {ρ1:PSt}{σ1:St}{H1:Hp} (F:ek fx (Wr ρ1 σ1) H1 ρ σ H):aM (OO A ρ1 σ1) H1 (OO A ρ σ) H:=F.keepsR fun b z=>.inr z
theorem ek.trans {fx':List (Nat×V)}{ρ1:PSt}{σ1:St}{H1:Hp} (F:ek fx R H0 ρ1 σ1 H1) (G:ek fx' (Wr ρ1 σ1) H1 ρ σ H) (hfx:∀p∈fx,σ[p.1]?=some (some p.2)):ek fx R H0 ρ σ H:=by
 refine⟨fun b o n e=>G.kp b o (fun w=>(F.ow b w).elim n (fun z=>by rw [z] at e;cases e)) (F.kp b o n e),fun b z=>G.dm b (F.dm b z),fun b w=>?_,hfx⟩
 rcases G.ow b w with z|z
 .exact F.ow b z
 .refine .inr ?_
  cases e:H0 b with
 |none=>rfl
 |some o=>exact absurd z (F.dm b (by rw [e];exact nofun))
theorem Out.put {p:PV}{v:V}{i:Nat} (h:Out K A ρ σ H0 H p v):Rel K A (ρ.set i (some p)) (σ.set i (some v)) H/\∀b,Wr (ρ.set i (some p)) (σ.set i (some v)) b->Wr ρ σ b\/H0 b=none:=by
 have get:∀(j:Nat) (q:PV),(ρ.set i (some p))[j]?=some (some q)->(j=i/\q=p/\i<ρ.length)\/(j≠i/\ρ[j]?=some (some q)):=fun j q e=>by
  by_cases z:i=j
  .subst z
   by_cases hi:i<ρ.length
   .rw [List.getElem?_set_self hi] at e;cases e;exact .inl ⟨rfl,rfl,hi⟩
   .rw [List.getElem?_eq_none (by rw [List.length_set];omega)] at e;cases e
  .rw [List.getElem?_set_ne z] at e;exact .inr ⟨fun q=>z q.symm,e⟩
 cases p with
|dat d =>
  obtain⟨R1,f⟩:=h
  have ow:∀b,Wr (ρ.set i (some (.dat d))) (σ.set i (some v)) b->Wr ρ σ b:=fun b ⟨j,r,e1,o1,s1⟩=>by
   rcases get j r e1 with ⟨_,rfl,_⟩|⟨n,e⟩
   .cases o1
   .rw [List.getElem?_set_ne (fun z=>n z.symm)] at s1;exact⟨j,r,e,o1,s1⟩
  have k:aM (OO A ρ σ) H (OO A (ρ.set i (some (.dat d))) (σ.set i (some v))) H:=aM.less fun b z=>z.imp id (ow b)
  refine⟨⟨by rw [List.length_set,List.length_set];exact R1.len,fun j r e1=>?_,fun j l p1 q1 v' e1 e2 o1 o2 s1 s2=>?_,R1.dom,fun b z w=>R1.sep b z (ow b w)⟩,fun b w=>.inl (ow b w)⟩
  .rcases get j r e1 with ⟨rfl,rfl,hi⟩|⟨n,e⟩
   .exact⟨v,List.getElem?_set_self (by rw [<- R1.len];exact hi),f.keeps k⟩
   .obtain⟨u,s,r'⟩:=R1.get j r e
    exact⟨u,by rw [List.getElem?_set_ne (fun z=>n z.symm)];exact s,r'.keeps k fun _ _ _=>rfl⟩
  .rcases get j p1 e1 with ⟨_,rfl,_⟩|⟨n1,e1⟩
   .cases o1
   .rcases get l q1 e2 with ⟨_,rfl,_⟩|⟨n2,e2⟩
    .cases o2
    .rw [List.getElem?_set_ne (fun z=>n1 z.symm)] at s1
     rw [List.getElem?_set_ne (fun z=>n2 z.symm)] at s2
     exact R1.dj j l p1 q1 v' e1 e2 o1 o2 s1 s2
|own ds =>
  obtain⟨a,xs,rfl,na,hn,e0,R1,f⟩:=h
  have ow:∀b,Wr (ρ.set i (some (.own ds))) (σ.set i (some (.ref a))) b->Wr ρ σ b\/b=a:=fun b ⟨j,r,e1,o1,s1⟩=>by
   rcases get j r e1 with ⟨rfl,rfl,hi⟩|⟨n,e⟩
   .rw [List.getElem?_set_self (by rw [<- R1.len];exact hi)] at s1;cases s1;exact .inr rfl
   .rw [List.getElem?_set_ne (fun z=>n z.symm)] at s1;exact .inl ⟨j,r,e,o1,s1⟩
  have k:aM (OO (eG A a) ρ σ) H (OO A (ρ.set i (some (.own ds))) (σ.set i (some (.ref a)))) H:=aM.less fun b z=>by
   rcases z with z|z
   .exact .inl (.inl z)
   .rcases ow b z with z|z
    .exact .inr z
    .exact .inl (.inr z)
  refine⟨⟨by rw [List.length_set,List.length_set];exact R1.len,fun j r e1=>?_,fun j l p1 q1 v' e1 e2 o1 o2 s1 s2=>?_,fun b z=>R1.dom b (.inl z),fun b z w=>?_⟩,fun b w=>(ow b w).imp id fun z=>by rw [z];exact hn⟩
  .rcases get j r e1 with ⟨rfl,rfl,hi⟩|⟨n,e⟩
   .exact⟨_,List.getElem?_set_self (by rw [<- R1.len];exact hi),a,xs,rfl,e0,f.keeps k⟩
   .obtain⟨u,s,r'⟩:=R1.get j r e
    exact⟨u,by rw [List.getElem?_set_ne (fun z=>n z.symm)];exact s,r'.keeps k fun _ _ _=>rfl⟩
  .rcases get j p1 e1 with ⟨rfl,rfl,hi⟩|⟨n1,e1'⟩
   .rw [List.getElem?_set_self (by rw [<- R1.len];exact hi)] at s1;cases s1
    rcases get l q1 e2 with ⟨rfl,rfl,_⟩|⟨n2,e2⟩
    .rfl
    .rw [List.getElem?_set_ne (fun z=>n2 z.symm)] at s2
     exact absurd ⟨l,q1,e2,o2,s2⟩ (R1.sep a (.inr rfl))
   .rw [List.getElem?_set_ne (fun z=>n1 z.symm)] at s1
    rcases get l q1 e2 with ⟨rfl,rfl,hi⟩|⟨n2,e2⟩
    .rw [List.getElem?_set_self (by rw [<- R1.len];exact hi)] at s2;cases s2
     exact absurd ⟨j,p1,e1',o1,s1⟩ (R1.sep a (.inr rfl))
    .rw [List.getElem?_set_ne (fun z=>n2 z.symm)] at s2
     exact R1.dj j l p1 q1 v' e1' e2 o1 o2 s1 s2
  .rcases ow b w with w|w
   .exact R1.sep b (.inl z) w
   .rw [w] at z;exact na z
|ins c ns ds =>
  obtain⟨a,dx,fs,rfl,na,hn,e0,m,R1,f⟩:=h
  have ow:∀b,Wr (ρ.set i (some (.ins c ns ds))) (σ.set i (some (.ref a))) b->Wr ρ σ b\/b=a:=fun b ⟨j,r,e1,o1,s1⟩=>by
   rcases get j r e1 with ⟨rfl,rfl,hi⟩|⟨n,e⟩
   .rw [List.getElem?_set_self (by rw [<- R1.len];exact hi)] at s1;cases s1;exact .inr rfl
   .rw [List.getElem?_set_ne (fun z=>n z.symm)] at s1;exact .inl ⟨j,r,e,o1,s1⟩
  have k:aM (OO (eG A a) ρ σ) H (OO A (ρ.set i (some (.ins c ns ds))) (σ.set i (some (.ref a)))) H:=aM.less fun b z=>by
   rcases z with z|z
   .exact .inl (.inl z)
   .rcases ow b z with z|z
    .exact .inr z
    .exact .inl (.inr z)
  refine⟨⟨by rw [List.length_set,List.length_set];exact R1.len,fun j r e1=>?_,fun j l p1 q1 v' e1 e2 o1 o2 s1 s2=>?_,fun b z=>R1.dom b (.inl z),fun b z w=>?_⟩,fun b w=>(ow b w).imp id fun z=>by rw [z];exact hn⟩
  .rcases get j r e1 with ⟨rfl,rfl,hi⟩|⟨n,e⟩
   .exact⟨_,List.getElem?_set_self (by rw [<- R1.len];exact hi),a,dx,fs,rfl,e0,m,f.keeps k⟩
   .obtain⟨u,s,r'⟩:=R1.get j r e
    exact⟨u,by rw [List.getElem?_set_ne (fun z=>n z.symm)];exact s,r'.keeps k fun _ _ _=>rfl⟩
  .rcases get j p1 e1 with ⟨rfl,rfl,hi⟩|⟨n1,e1'⟩
   .rw [List.getElem?_set_self (by rw [<- R1.len];exact hi)] at s1;cases s1
    rcases get l q1 e2 with ⟨rfl,rfl,_⟩|⟨n2,e2⟩
    .rfl
    .rw [List.getElem?_set_ne (fun z=>n2 z.symm)] at s2
     exact absurd ⟨l,q1,e2,o2,s2⟩ (R1.sep a (.inr rfl))
   .rw [List.getElem?_set_ne (fun z=>n1 z.symm)] at s1
    rcases get l q1 e2 with ⟨rfl,rfl,hi⟩|⟨n2,e2⟩
    .rw [List.getElem?_set_self (by rw [<- R1.len];exact hi)] at s2;cases s2
     exact absurd ⟨j,p1,e1',o1,s1⟩ (R1.sep a (.inr rfl))
    .rw [List.getElem?_set_ne (fun z=>n2 z.symm)] at s2
     exact R1.dj j l p1 q1 v' e1' e2 o1 o2 s1 s2
  .rcases ow b w with w|w
   .exact R1.sep b (.inl z) w
   .rw [w] at z;exact na z
end
abbrev PTG:=PV->PSt->(PSt->Prop)->Prop
abbrev AQ:=List D->PSt->(PSt->Prop)->Prop
def LG (K:PySem.W.Frag) (fs:List Nat) (g:TG) (pg:PTG):Prop:=∀(fx:List (Nat×V)) (A R:Addr->Prop) (H0:Hp) (ρ:PSt) (σ:St) (H:Hp) (p:PV) (v:V) (Q:PSt->Prop) (Q':St->Hp->Prop),fx.map Prod.fst=fs->ek fx R H0 ρ σ H->Out K A ρ σ H0 H p v->pg p ρ Q ->
 (∀ρ' σ' H',Q ρ'->Rel K A ρ' σ' H'->ek fx R H0 ρ' σ' H'->Q' σ' H')->g v σ H Q'
def LGs (K:PySem.W.Frag) (fs:List Nat) (g:TGs) (pg:AQ):Prop:=∀(fx:List (Nat×V)) (A R:Addr->Prop) (H0:Hp) (ρ:PSt) (σ:St) (H:Hp) (ds:List D) (vs:List V) (Q:PSt->Prop) (Q':St->Hp->Prop),fx.map Prod.fst=fs->ek fx R H0 ρ σ H->Rel K A ρ σ H->FVs K (OO A ρ σ) H vs ds->pg ds ρ Q ->
 (∀ρ' σ',Q ρ'->Rel K A ρ' σ' H->ek fx R H0 ρ' σ' H->(∀b,Wr ρ' σ' b->Wr ρ σ b)->Q' σ' H)->g vs σ H Q'
def LGd (K:PySem.W.Frag) (fs:List Nat) (g:TG) (pg:PTG):Prop:=∀(fx:List (Nat×V)) (A R:Addr->Prop) (H0:Hp) (ρ:PSt) (σ:St) (H:Hp) (d:D) (v:V) (Q:PSt->Prop) (Q':St->Hp->Prop),fx.map Prod.fst=fs->ek fx R H0 ρ σ H->Rel K A ρ σ H->FV K (OO A ρ σ) H v d->pg (.dat d) ρ Q ->
 (∀ρ' σ',Q ρ'->Rel K A ρ' σ' H->ek fx R H0 ρ' σ' H->(∀b,Wr ρ' σ' b->Wr ρ σ b)->Q' σ' H)->g v σ H Q'
def ap (i:Nat):PTG:=fun p ρ Q=>Q (ρ.set i (some p))
def yf:AQ:=fun ds ρ Q=>match ds with|[]=>Q ρ|_=>False
def mG (g:PTG) (gs:AQ):AQ:=fun ds ρ Q=>match ds with|d::r=>g (.dat d) ρ fun ρ1=>gs r ρ1 Q|[]=>False
section
variable {K:PySem.W.Frag}{fs:List Nat}
theorem ek.put {fx:List (Nat×V)}{R:Addr->Prop}{H0 H:Hp}{ρ:PSt}{σ:St}{i:Nat}{p:PV}{v:V} (hf:fx.map Prod.fst=fs) (hi:fs.contains i=false) (F:ek fx R H0 ρ σ H) (ow:∀b,Wr (ρ.set i (some p)) (σ.set i (some v)) b->Wr ρ σ b\/H0 b=none):ek fx R H0 (ρ.set i (some p)) (σ.set i (some v)) H :=
 ⟨F.kp,F.dm,fun b w=>(ow b w).elim (F.ow b) .inr,fun q hq=>by
  have:q.1≠i:=fun z=>by
   have h1:i∈fs:=by rw [<- hf,<- z];exact List.mem_map_of_mem hq
   rw [List.contains_iff_mem.mpr h1] at hi;cases hi
  rw [List.getElem?_set_ne (fun z=>this z.symm)];exact F.fx q hq⟩
theorem ax {i:Nat} (hi:fs.contains i=false):LG K fs (bR i) (ap i):=fun fx A R H0 ρ σ H p v Q Q' hf F o q k=>k _ _ _ q o.put.1 (F.put hf hi o.put.2)
theorem wd:LGs K fs Fv yf:=fun fx A R H0 ρ σ H ds vs Q Q' hf F r fv q k=>by
 unfold yf at q
 split at q
 .cases fv;exact⟨rfl,k _ _ q r F fun _ h=>h⟩
 .exact q.elim
theorem aE {i:Nat} (hi:fs.contains i=false):LGd K fs (bR i) (ap i):=fun fx A R H0 ρ σ H d v Q Q' hf F r fv q k=>by
 have o:Out K A ρ σ H0 H (.dat d) v:=⟨r,fv⟩
 have ow:∀b,Wr (ρ.set i (some (.dat d))) (σ.set i (some v)) b->Wr ρ σ b:=fun b ⟨j,p,e1,o1,s1⟩=>by
  by_cases z:i=j
  .subst z
   by_cases hl:i<ρ.length
   .rw [List.getElem?_set_self hl] at e1;cases e1;cases o1
   .rw [List.getElem?_eq_none (by rw [List.length_set];omega)] at e1;cases e1
  .rw [List.getElem?_set_ne z] at e1 s1;exact⟨j,p,e1,o1,s1⟩
 exact k _ _ q o.put.1 (F.put hf hi o.put.2) ow
theorem ka {g:TG}{pg:PTG}{gs:TGs}{pgs:AQ} (hg:LGd K fs g pg) (h:LGs K fs gs pgs):LGs K fs (Cg g gs) (mG pg pgs):=fun fx A R H0 ρ σ H ds vs Q Q' hf F r fv q k=>by
 unfold mG at q
 split at q
 .cases fv with
 |cons a b =>
   exact⟨_,_,rfl,hg fx A R H0 ρ σ H _ _ _ _ hf F r a q fun ρ1 σ1 q1 r1 F1 w1=>h fx A R H0 ρ1 σ1 H _ _ _ _ hf F1 r1 (b.keeps (aM.less fun b z=>z.imp id (w1 b))) q1 fun ρ2 σ2 q2 r2 F2 w2=>k ρ2 σ2 q2 r2 F2 fun b z=>w1 b (w2 b z)⟩
 .exact q.elim
end
def LS (K:PySem.W.Frag) (fs:List Nat) (ts:TS) (ps:PTS):Prop:=∀(fx:List (Nat×V)) (A R:Addr->Prop) (H0:Hp) (ρ:PSt) (σ:St) (H:Hp) (D:Dm) (D':zX),fx.map Prod.fst=fs->Rel K A ρ σ H->ek fx R H0 ρ σ H->ps D ρ ->
 (∀ρ' σ' H',D.nx ρ'->Rel K A ρ' σ' H'->ek fx R H0 ρ' σ' H'->D'.nx σ' H') ->
 (∀v p ρ' σ' H',D.rt p ρ'->Out K A ρ' σ' H0 H' p v->ek fx R H0 ρ' σ' H'->D'.rt v H') ->
 (∀ρ' σ' H',D.bk ρ'->Rel K A ρ' σ' H'->ek fx R H0 ρ' σ' H'->D'.bk σ' H') ->
 (∀ρ' σ' H',D.ct ρ'->Rel K A ρ' σ' H'->ek fx R H0 ρ' σ' H'->D'.ct σ' H')->ts D' σ H
def cD:PTS:=fun D ρ=>D.nx ρ
def aG (a b:PTS):PTS:=fun D ρ=>a { D with nx:=b D } ρ
def iP (pe:PTE):PTS:=fun D ρ=>pe ρ fun _ ρ1=>D.nx ρ1
def bY (pe:PTE):PTS:=fun D ρ=>pe ρ D.rt
def jF (t:PTT) (a b:PTS):PTS:=fun D ρ=>t ρ fun c ρ1=>fU c (a D ρ1) (b D ρ1)
def qP:PTS:=fun _ _=>False
def aQ (pe:PTE) (g:PTG):PTS:=fun D ρ=>pe ρ fun p ρ1=>g p ρ1 D.nx
def iQ (a:PTS):PTS:=fun D ρ=>∃J:PSt->Prop,a { D with nx:=J } ρ/\∀ρ',J ρ'->D.nx ρ'
section
variable {K:PySem.W.Frag}{fs:List Nat}{ta tb:TS}{pa pb:PTS}{te:TE}{pe:PTE}{tt:TT}{pt:PTT}
theorem bF:LS K fs Ce cD:=fun fx A R H0 ρ σ H D D' hf r F q k1 k2 k3 k4=>k1 _ _ _ q r F
theorem sD:LS K fs zd qP:=fun fx A R H0 ρ σ H D D' hf r F q k1 k2 k3 k4=>q
theorem ay (ha:LS K fs ta pa) (hb:LS K fs tb pb):LS K fs (Eg ta tb) (aG pa pb):=fun fx A R H0 ρ σ H D D' hf r F q k1 k2 k3 k4 =>
 ha fx A R H0 ρ σ H _ _ hf r F q (fun ρ1 σ1 H1 q1 r1 F1=>hb fx A R H0 ρ1 σ1 H1 _ _ hf r1 F1 q1 k1 k2 k3 k4) k2 k3 k4
theorem gn (h:LE K te pe):LS K fs (Cf te) (iP pe):=fun fx A R H0 ρ σ H D D' hf r F q k1 k2 k3 k4=>h A ρ σ H _ _ r q fun v H1 p ρ1 q1 f1 o1=>k1 _ _ _ q1 o1.frz.1 (F.fr f1)
theorem bc (h:LE K te pe):LS K fs (Ft te) (bY pe):=fun fx A R H0 ρ σ H D D' hf r F q k1 k2 k3 k4=>h A ρ σ H _ _ r q fun v H1 p ρ1 q1 f1 o1=>k2 v p ρ1 σ H1 q1 (o1.h0 F.dm) (F.fr f1)
theorem dU (ht:LT K tt pt) (ha:LS K fs ta pa) (hb:LS K fs tb pb):LS K fs (Et tt ta tb) (jF pt pa pb):=fun fx A R H0 ρ σ H D D' hf r F q k1 k2 k3 k4=>ht A ρ σ H _ _ r q fun c H1 ρ1 q1 f1 r1=>by
 cases c with
|true=>exact ha fx A R H0 ρ1 σ H1 D D' hf r1 (F.fr f1) q1 k1 k2 k3 k4
|false=>exact hb fx A R H0 ρ1 σ H1 D D' hf r1 (F.fr f1) q1 k1 k2 k3 k4
theorem aD {g:TG}{pg:PTG} (h:LE K te pe) (hg:LG K fs g pg):LS K fs (ze te g) (aQ pe pg):=fun fx A R H0 ρ σ H D D' hf r F q k1 k2 k3 k4=>h A ρ σ H _ _ r q fun v H1 p ρ1 q1 f1 o1 =>
 hg fx A R H0 ρ1 σ H1 p v _ _ hf (F.fr f1) (o1.h0 F.dm) q1 k1
theorem gp (h:LS K fs ta pa):LS K fs (Ay ta) (iQ pa):=fun fx A R H0 ρ σ H D D' hf r F q k1 k2 k3 k4=>by
 obtain⟨J,q1,q2⟩:=q
 refine⟨fun σ' H'=>∃ρ',J ρ'/\Rel K A ρ' σ' H'/\ek fx R H0 ρ' σ' H',?_,fun σ' H' ⟨ρ',j,r',F'⟩=>k1 ρ' σ' H' (q2 ρ' j) r' F'⟩
 exact h fx A R H0 ρ σ H _ _ hf r F q1 (fun ρ' σ' H' j r' F'=>⟨ρ',j,r',F'⟩) k2 k3 k4
end
def gK (K:PySem.W.Frag) (tl:TE):TI:=fun σ H R=>tl σ H fun x H1=>(∃k a xs,x=.ref a/\Sq k K H1 a xs/\R (Itk k K a) H1)\/∃l,x=.str (S l)/\R (Its (gj l)) H1
section
variable {X:Cx}{tg:Expr}
theorem AR {l:Expr}{tl:TE} (hl:PE X l tl):PI X tg l (gK X.K tl):=by
 intro pins s σ H R I h
 refine thn (hl pins s σ H _ I h) fun v s1 ⟨x,H1,I1,r1,q1⟩=>?_
 have fin:∀b∈[s1.heap.objs.size],qE X pins H1 b:=fun b hb=>by
  have e:b=s1.heap.objs.size:=by simpa using hb
  subst e
  exact I1.fpOk (Nat.le_refl _) (I1.hok.fresh (Nat.le_refl _))
 rcases q1 with ⟨k,a,xs,e,hq,q⟩|⟨l,e,q⟩
 .subst e
  cases r1
  cases k with
 |false =>
   obtain⟨its,rv,p,hz⟩:=I1.list hq
   refine wpAny_pyIter_list p.isList ?_
   exact⟨s1.heap.objs.size,[s1.heap.objs.size],_,_,H1,rfl,I1.kept (t':=s1.toks) fun b o e=>Heap.get?_push_of_some _ e,uW a _,⟨_,Heap.get?_push_size _ rfl,rfl,rfl⟩,fin,q⟩
 |true =>
   obtain⟨its,rv,p,hz⟩:=I1.tuple hq
   refine wpAny_pyIter_tuple (show s1.heap.IsTuple a its.toArray from p) ?_
   exact⟨s1.heap.objs.size,[s1.heap.objs.size],_,_,H1,rfl,I1.kept (t':=s1.toks) fun b o e=>Heap.get?_push_of_some _ e,tR a _,⟨_,Heap.get?_push_size _ rfl,rfl,rfl⟩,fin,q⟩
 .subst e
  obtain⟨t,rfl⟩:=r1
  have hv:∀i v,i<(S l).cps.size->SignAt (S l) i v->∃x,(gj l)[i]?=some x/\dh x v:=fun i v _ ⟨c,u,hc,e⟩=>by
   subst e
   have hc':l[i]?=some c:=by simpa [S] using hc
   exact⟨.str (S [c]),by unfold gj;rw [List.getElem?_map,hc'];rfl,u,rfl⟩
  have hsc:∀i v,SignAt (S l) i v->∀a,v≠.ref a:=fun i v ⟨c,u,hc,e⟩ a z=>by subst e;cases z
  have hn:(gj l).length=(S l).cps.size:=by rw [ja];simp [S]
  have hobj:∀ty i (h:Heap),h.IsStrIter s1.heap.objs.size ty (S l) t i->∃o,h.get? s1.heap.objs.size=some o/\∀v,o.data≠.cell v:=fun ty i h ⟨o,ho,_,hd⟩=>⟨o,ho,fun v z=>by rw [hd] at z;cases z⟩
  have hfr:∀ty i (h h':Heap),h.IsStrIter s1.heap.objs.size ty (S l) t i->(∀b∈[s1.heap.objs.size],∀o,h.get? b=some o->h'.get? b=some o)->h'.IsStrIter s1.heap.objs.size ty (S l) t i:=fun ty i h h' ⟨o,ho,r⟩ k=>⟨o,k _ (by simp) o ho,r⟩
  cases ha:(S l).cps.all (·<128)
  .refine wpAny_pyIter_wide ha ⟨s1.heap.objs.size,[s1.heap.objs.size],_,Its (gj l),H1,rfl,I1.kept (t':=s1.toks) fun b o e=>Heap.get?_push_of_some _ e,
    kB (fun A hA=>Walks.strWide hA _ (S l) t) hn hv hsc (hobj _) (hfr _) (fun A i s Q E st q=>wpAny_pyIter_striter_wide st q),⟨_,Heap.get?_push_size _ rfl,rfl,rfl⟩,fin,q⟩
  .refine wpAny_pyIter_ascii ha ⟨s1.heap.objs.size,[s1.heap.objs.size],_,Its (gj l),H1,rfl,I1.kept (t':=s1.toks) fun b o e=>Heap.get?_push_of_some _ e,
    kB (fun A hA=>Walks.strAscii hA _ (S l) t) hn hv hsc (hobj _) (hfr _) (fun A i s Q E st q=>wpAny_pyIter_striter_ascii st q),⟨_,Heap.get?_push_size _ rfl,rfl,rfl⟩,fin,q⟩
theorem cr (K:PySem.W.Frag) (e:X.K=K) {l:Expr}{tl:TE} (hl:PE X l tl):PI X tg l (gK K tl):=by subst e;exact AR hl
end
abbrev PTI:=PSt->(Nat->(Nat->D)->PSt->Prop)->Prop
def Wlk (K:PySem.W.Frag) (O:Addr->Prop) (H:Hp) (J:It) (n:Nat) (it:Nat->D):Prop:=∀(O':Addr->Prop) (H':Hp),aM O H O' H'->(∀b,O' b->H' b≠none) ->
 (∀k,k<n->J.go k H'/\∀x H'',J.yld k H' x H''->Gr H' H''/\FV K O' H'' x (it k))/\J.stop n H'
def LI (K:PySem.W.Frag) (wi:TI) (pi:PTI):Prop:=∀(A:Addr->Prop) (ρ:PSt) (σ:St) (H:Hp) (Q:Nat->(Nat->D)->PSt->Prop) (Q':It->Hp->Prop),Rel K A ρ σ H->pi ρ Q ->
 (∀J H' n it ρ',Q n it ρ'->Fr ρ σ H ρ' H'->Rel K A ρ' σ H'->Wlk K (OO A ρ' σ) H' J n it->Q' J H')->wi σ H Q'
def itD (ds:List D) (k:Nat):D:=ds.getD k .non
theorem wf {ds:List D}{k:Nat} (h:k<ds.length):ds[k]?=some (itD ds k):=by unfold itD;rw [List.getD_eq_getElem?_getD,List.getElem?_eq_getElem h];rfl
theorem fV {ds:List D}{k:Nat}{d:D} (h:ds[k]?=some d):itD ds k=d:=by unfold itD;rw [List.getD_eq_getElem?_getD,h];rfl
def FK:D->Option (Nat×(Nat->D))
|.lst ds=>some (ds.length,itD ds)
|.tup ds=>some (ds.length,itD ds)
|.scr ns=>some (ns.length,fun k=>.int (ns.getD k 0))
|.str l=>some (l.length,fun k=>.str [l.getD k 0])
|_=>none
def dz (pe:PTE):PTI:=fun ρ Q=>pe ρ fun p ρ1=>match FK p.d with
|some (n,it)=>Q n it ρ1
|none=>False
section
variable {K:PySem.W.Frag}{te:TE}{pe:PTE}{ta:TA}{pa:PTA}
theorem FV.row {O:Addr->Prop}{H:Hp}{v:V}{d:D}{n:Nat}{it:Nat->D} (h:FV K O H v d) (e:FK d=some (n,it)) :
  (∃k a xs,v=.ref a/\xs.length=n/\(∀O' H',aM O H O' H'->Sq k K H' a xs/\∀j x,xs[j]?=some x->FV K O' H' x (it j)))\/∃l,v=.str (S l)/\l.length=n/\(∀k,it k=.str [l.getD k 0]):=by
 cases h with
|lst nn e0 f =>
  cases e
  refine .inl ⟨false,_,_,rfl,f.length,fun O' H' k=>⟨SqL.of (k _ _ nn e0).2,fun j x hx=>?_⟩⟩
  obtain⟨d,hd,fd⟩:=f.get hx
  rw [fV hd];exact fd.keeps k
|tup nn e0 f =>
  cases e
  refine .inl ⟨true,_,_,rfl,f.length,fun O' H' k=>⟨SqT.of (k _ _ nn e0).2,fun j x hx=>?_⟩⟩
  obtain⟨d,hd,fd⟩:=f.get hx
  rw [fV hd];exact fd.keeps k
|scr s =>
  cases e
  refine .inl ⟨false,_,_,rfl,List.length_map _,fun O' H' k=>⟨(s.keeps k).sq,fun j x hx=>?_⟩⟩
  obtain⟨z,hz,rfl⟩:=xS hx
  show FV K O' H' (V.int z) (D.int (List.getD _ j 0))
  rw [List.getD_eq_getElem?_getD,hz];exact .int z
|str l hl=>cases e;exact .inr ⟨l,rfl,rfl,fun _=>rfl⟩
|non=>cases e
|bl b=>cases e
|int i=>cases e
|ty n=>cases e
|dic _ _ _ _=>cases e
|obj _ _ _ _=>cases e
|exc0 _ _=>cases e
|exc1 _ _ _ _ _ _=>cases e
theorem cz (h:LE K te pe):LI K (gK K te) (dz pe):=fun A ρ σ H Q Q' R q k=>h A ρ σ H _ _ R q fun v H1 p ρ1 q1 f1 o1=>by
 obtain⟨R1,fv⟩:=o1.frz
 split at q1
 .rename_i n it e
  rcases fv.row e with ⟨b,a,xs,rfl,hl,hr⟩|⟨l,rfl,hl,hi⟩
  .refine .inl ⟨b,a,xs,rfl,(hr _ H1 (fun b o n h=>⟨n,h⟩)).1,k _ H1 n it ρ1 q1 f1 R1 fun O' H' kk dom=>?_⟩
   obtain⟨sq,hx⟩:=hr O' H' kk
   cases b with
  |false =>
    refine⟨fun j hj=>⟨⟨xs,_,sq,List.getElem?_eq_getElem (by rw [hl];exact hj)⟩,fun x H'' ⟨e,y⟩=>?_⟩,⟨xs,sq,by rw [hl];exact Nat.le_refl _⟩⟩
    subst e;exact⟨Gr.refl _,hx j x (y xs sq)⟩
  |true =>
    refine⟨fun j hj=>⟨⟨xs,_,sq,List.getElem?_eq_getElem (by rw [hl];exact hj)⟩,fun x H'' ⟨e,y⟩=>?_⟩,⟨xs,sq,by rw [hl];exact Nat.le_refl _⟩⟩
    subst e;exact⟨Gr.refl _,hx j x (y xs sq)⟩
  .refine .inr ⟨l,rfl,k _ H1 n it ρ1 q1 f1 R1 fun O' H' kk dom=>?_⟩
   refine⟨fun j hj=>⟨by show j<(gj l).length;rw [ja,hl];exact hj,fun x H'' ⟨e,y⟩=>?_⟩,by show (gj l).length=n;rw [ja,hl]⟩
   subst e
   obtain⟨c,hc,rfl⟩:=ua y
   rw [hi,List.getD_eq_getElem?_getD,hc]
   exact⟨Gr.refl _,.str _ (by show 1<=1000000;decide)⟩
 .exact q1.elim
def qQ (pa:PTA):PTI:=fun ρ Q=>pa ρ fun as ρ1=>match as with
|[.v (.int j)]=>(-(2^60)<=j/\j<2^60)/\Q j.toNat (fun k=>.int (k:Int)) ρ1
|_=>False
def E6 (pa:PTA):PTI:=fun ρ Q=>pa ρ fun as ρ1=>match as with
|[.v (.int i),.v (.int j),.v (.int (-1))]=>(-(2^60)<=i/\i<2^60/\-(2^60)<=j/\j<2^60)/\Q (i - j).toNat (fun k=>.int (i - (k:Int))) ρ1
|_=>False
theorem E7 {O:Addr->Prop}{H:Hp}{lo:Int}{n:Nat}{it:Nat->D} (h:∀k:Nat,it k=.int (lo+k)):Wlk K O H (Itr lo n) n it:=fun O' H' _ _ =>
 ⟨fun j hj=>⟨hj,fun x H'' ⟨e,y⟩=>by subst e y;rw [h];exact⟨Gr.refl _,.int _⟩⟩,Nat.le_refl _⟩
theorem E8 {O:Addr->Prop}{H:Hp}{lo:Int}{n:Nat}:Wlk K O H (Its (ng lo n)) n (fun k=>.int (lo - (k:Int))):=fun O' H' _ _ =>
 ⟨fun j hj=>⟨by show j<(ng lo n).length;rw [kC];exact hj,fun x H'' ⟨e,y⟩=>by subst e;rw [(vA y).2];exact⟨Gr.refl _,.int _⟩⟩,kC _ _⟩
theorem iR (h:LAs K ta pa):LI K (jW ta) (qQ pa):=fun A ρ σ H Q Q' R q k=>h A ρ σ H _ _ R q fun vs H1 as ρ1 q1 f1 R1 o1=>by
 split at q1
 .rename_i j
  cases o1 with
 |cons a b =>
   cases b
   cases a
   exact⟨j,rfl,by omega,by omega,k _ H1 _ _ ρ1 q1.2 f1 R1 (E7 fun k=>by rw [Int.zero_add])⟩
 .exact q1.elim
theorem Dn (h:LAs K ta pa):LI K (CN ta) (E6 pa):=fun A ρ σ H Q Q' R q k=>h A ρ σ H _ _ R q fun vs H1 as ρ1 q1 f1 R1 o1=>by
 split at q1
 .rename_i i j
  cases o1 with
 |cons a b =>
   cases b with
  |cons c d =>
    cases d with
   |cons e f =>
     cases f
     cases a
     cases c
     cases e
     exact⟨i,j,rfl,q1.1,k _ H1 _ _ ρ1 q1.2 f1 R1 E8⟩
 .exact q1.elim
def rowD:D->Option (List D)
|.lst ds=>some ds
|.tup ds=>some ds
|.scr ns=>some (ns.map .int)
|_=>none
theorem FV.rowD {O:Addr->Prop}{H:Hp}{v:V}{d:D}{ds:List D} (h:FV K O H v d) (e:L2.rowD d=some ds) :
  ∃k a xs,v=.ref a/\xs.length=ds.length/\(∀O' H',aM O H O' H'->Sq k K H' a xs/\FVs K O' H' xs ds):=by
 cases h with
|lst nn e0 f=>cases e;exact⟨false,_,_,rfl,f.length,fun O' H' k=>⟨SqL.of (k _ _ nn e0).2,f.keeps k⟩⟩
|tup nn e0 f=>cases e;exact⟨true,_,_,rfl,f.length,fun O' H' k=>⟨SqT.of (k _ _ nn e0).2,f.keeps k⟩⟩
|scr s=>cases e;exact⟨false,_,_,rfl,by rw [List.length_map,List.length_map],fun O' H' k=>⟨(s.keeps k).sq,FVs.of_ints _⟩⟩
|str l hl=>cases e
|non=>cases e
|bl b=>cases e
|int i=>cases e
|ty n=>cases e
|dic _ _ _ _=>cases e
|obj _ _ _ _=>cases e
|exc0 _ _=>cases e
|exc1 _ _ _ _ _ _=>cases e
def wg (pa:PTA):PTI:=fun ρ Q=>pa ρ fun as ρ1=>match as with
|[.v a]=>(match rowD a with
 |some xs=>Q xs.length (fun k=>.tup [.int (k:Int),itD xs k]) ρ1
 |_=>False)
|_=>False
theorem wj (h:LAs K ta pa):LI K (AE K ta) (wg pa):=fun A ρ σ H Q Q' R q k=>h A ρ σ H _ _ R q fun vs H1 as ρ1 q1 f1 R1 o1=>by
 split at q1
 .rename_i da
  cases o1 with
 |cons o1 o3 =>
   cases o3
   split at q1
   .rename_i xs ex
    obtain⟨b1,a1,us,rfl,l1,w1⟩:=FV.rowD (show FV K _ H1 _ da from o1) ex
    have t1:=w1 _ H1 (fun b o n h=>⟨n,h⟩)
    refine⟨b1,a1,rfl,⟨us,t1.1⟩,k _ H1 _ _ ρ1 q1 f1 R1 fun O' H' kk dom=>?_⟩
    obtain⟨s1,g1⟩:=w1 O' H' kk
    refine⟨fun j hj=>?_,⟨us,s1,by omega⟩⟩
    have h1:j<us.length:=by omega
    refine⟨⟨us,_,s1,List.getElem?_eq_getElem h1⟩,fun x H'' ⟨T,u,hT,e,y1,e2⟩=>?_⟩
    subst e e2
    obtain⟨d1,hd1,fd1⟩:=g1.get (y1 us s1)
    have e1:itD xs j=d1:=by unfold itD;rw [List.getD_eq_getElem?_getD,hd1];rfl
    rw [e1]
    have kk2:aM O' H' O' (upd H' T (.tup [.int (j:Int),u])):=fun b o n e=>⟨n,by rw [aB (bi e hT)];exact e⟩
    exact⟨Gr.new hT,.tup (fun z=>dom T z hT) aL (.cons (.int _) (.cons (fd1.keeps kk2) .nil))⟩
   .exact q1.elim
 .exact q1.elim
end
def j1 (pi:PTI) (g:PTG) (pb:PTS):PTS:=fun D ρ=>pi ρ fun n it ρ1=>∃I:Nat->PSt->Prop,I 0 ρ1/\(∀k ρ d,k<n->d=it k->I k ρ->g (.dat d) ρ fun ρ2=>pb { D with nx:=I (k+1),ct:=I (k+1),bk:=D.nx } ρ2)/\∀ρ,I n ρ->D.nx ρ
def nv (pt:PTT) (pb:PTS):PTS:=fun D ρ=>∃I:Nat->PSt->Prop,(∃m,I m ρ)/\∀m ρ,I m ρ->pt ρ fun b ρ1=>fU b (pb { D with nx:=fun ρ'=>∃m',m'<m/\I m' ρ',ct:=fun ρ'=>∃m',m'<m/\I m' ρ',bk:=D.nx } ρ1) (D.nx ρ1)
section
variable {K:PySem.W.Frag}{fs:List Nat}{wi:TI}{pi:PTI}{g:TG}{pg:PTG}{tb:TS}{pb:PTS}{tt:TT}{pt:PTT}
theorem gu (hi:LI K wi pi) (hg:LGd K fs g pg) (hb:LS K fs tb pb):LS K fs (Fw wi g tb) (j1 pi pg pb):=fun fx A R H0 ρ σ H D D' hf r F q k1 k2 k3 k4=>hi A ρ σ H _ _ r q fun J H1 n it ρ1 q1 f1 r1 W=>by
 obtain⟨I,i0,turn,after⟩:=q1
 have F1:=F.fr f1
 refine⟨fun i m σ' H'=>i+m=n/\∃ρ',I i ρ'/\Rel K A ρ' σ' H'/\ek fx (Wr ρ1 σ) H1 ρ' σ' H',⟨n,Nat.zero_add n,ρ1,i0,r1,ek.start F1.fx⟩,fun i m σ' H' ⟨him,ρ',iv,r',F'⟩=>?_⟩
 obtain⟨go,stop⟩:=W _ H' F'.keeps r'.dom2
 by_cases hk:i<n
 .obtain⟨g1,g2⟩:=go i hk
  refine .inr ⟨g1,fun σ'' H''=>∃ρ'',I (i+1) ρ''/\Rel K A ρ'' σ'' H''/\ek fx (Wr ρ1 σ) H1 ρ'' σ'' H'',fun σ'' H'' z=>⟨m - 1,by omega,by omega,z⟩,fun x H'' y=>?_⟩
  obtain⟨gr,fv⟩:=g2 x H'' y
  refine hg fx A (Wr ρ1 σ) H1 ρ' σ' H'' _ x _ _ hf (F'.fr gr.fr) (r'.gr gr) fv (turn i ρ' _ hk rfl iv) fun ρ2 σ2 q2 r2 F2 _=>?_
  refine hb fx A (Wr ρ1 σ) H1 ρ2 σ2 H'' _ _ hf r2 F2 q2 (fun ρ3 σ3 H3 q3 r3 F3=>⟨ρ3,q3,r3,F3⟩) (fun v p ρ3 σ3 H3 q3 o3 F3=>k2 v p ρ3 σ3 H3 q3 (o3.h0 F1.dm) (F1.trans F3 F3.fx)) (fun ρ3 σ3 H3 q3 r3 F3=>k1 ρ3 σ3 H3 q3 r3 (F1.trans F3 F3.fx)) (fun ρ3 σ3 H3 q3 r3 F3=>⟨ρ3,q3,r3,F3⟩)
 .have e:i=n:=by omega
  subst e
  exact .inl ⟨stop,k1 ρ' σ' H' (after ρ' iv) r' (F1.trans F' F'.fx)⟩
theorem ny (ht:LT K tt pt) (hb:LS K fs tb pb):LS K fs (zf tt tb) (nv pt pb):=fun fx A R H0 ρ σ H D D' hf r F q k1 k2 k3 k4=>by
 obtain⟨I,⟨m0,i0⟩,turn⟩:=q
 refine⟨fun m σ' H'=>∃ρ',I m ρ'/\Rel K A ρ' σ' H'/\ek fx R H0 ρ' σ' H',⟨m0,ρ,i0,r,F⟩,fun m σ' H' ⟨ρ',iv,r',F'⟩=>?_⟩
 refine ht A ρ' σ' H' _ _ r' (turn m ρ' iv) fun b H1 ρ1 q1 f1 r1=>?_
 cases b with
|true =>
  refine⟨fun σ'' H''=>∃ρ'' m',m'<m/\I m' ρ''/\Rel K A ρ'' σ'' H''/\ek fx R H0 ρ'' σ'' H'',fun σ'' H'' ⟨ρ'',m',h1,h2⟩=>⟨m',h1,ρ'',h2⟩,?_⟩
  exact hb fx A R H0 ρ1 σ' H1 _ _ hf r1 (F'.fr f1) q1 (fun ρ3 σ3 H3 ⟨m',h1,h2⟩ r3 F3=>⟨ρ3,m',h1,h2,r3,F3⟩) k2 k1 (fun ρ3 σ3 H3 ⟨m',h1,h2⟩ r3 F3=>⟨ρ3,m',h1,h2,r3,F3⟩)
|false=>exact k1 ρ1 σ' H1 q1 r1 (F'.fr f1)
end
def bX (ix:List (Option Nat)) (ρ:PSt):PSt:=ix.map fun o=>match o with
|none=>none
|some j=>match ρ[j]? with
 |some v=>v
 |none=>none
def eC:List (Option Nat)->PSt->PSt->PSt
|some j::ix,ρ,t::τ=>eC ix (ρ.set j t) τ
|none::ix,ρ,_::τ=>eC ix ρ τ
|_,ρ,_=>ρ
def zr:List (Option Nat)->Bool
|[]=>true
|none::r=>zr r
|some j::r=>!r.contains (some j) && zr r
theorem kc:∀(ix:List (Option Nat)) (ρ τ:PSt),(eC ix ρ τ).length=ρ.length
|[],ρ,τ=>by unfold eC;rfl
|some j::ix,ρ,t::τ=>by show (eC ix (ρ.set j t) τ).length=_;rw [kc ix,List.length_set]
|none::ix,ρ,t::τ=>by show (eC ix ρ τ).length=_;exact kc ix ρ τ
|some j::ix,ρ,[]=>by unfold eC;rfl
|none::ix,ρ,[]=>by unfold eC;rfl
theorem iS:∀(ix:List (Option Nat)) (ρ τ:PSt) (j:Nat),some j∉ix->(eC ix ρ τ)[j]?=ρ[j]?
|[],ρ,τ,j,_=>by unfold eC;rfl
|some i::ix,ρ,t::τ,j,h=>by
  show (eC ix (ρ.set i t) τ)[j]?=_
  rw [iS ix _ τ j (fun z=>h (List.mem_cons_of_mem _ z)),List.getElem?_set_ne (fun z=>h (by rw [z];exact List.mem_cons_self ..))]
|none::ix,ρ,t::τ,j,h=>by show (eC ix ρ τ)[j]?=_;exact iS ix ρ τ j fun z=>h (List.mem_cons_of_mem _ z)
|some i::ix,ρ,[],j,_=>by unfold eC;rfl
|none::ix,ρ,[],j,_=>by unfold eC;rfl
theorem nz:∀(ix:List (Option Nat)) (ρ τ:PSt) (j k:Nat),zr ix=true->ix[k]?=some (some j)->k<τ.length->j<ρ.length->(eC ix ρ τ)[j]?=τ[k]?
|some i::ix,ρ,t::τ,j,k,h,e,hk,hj=>by
  have h:(!ix.contains (some i) && zr ix)=true:=h
  rw [Bool.and_eq_true] at h
  show (eC ix (ρ.set i t) τ)[j]?=_
  cases k with
 |zero =>
   have e:some (some i)=some (some j):=e
   cases e
   have hn:some i∉ix:=fun z=>by
    have:=h.1
    rw [List.contains_iff_mem.mpr z] at this;cases this
   rw [iS ix _ τ i hn,List.getElem?_set_self hj];rfl
 |succ k =>
   have e:ix[k]?=some (some j):=by simpa using e
   rw [nz ix _ τ j k h.2 e (by simpa using hk) (by rw [List.length_set];exact hj)];simp
|none::ix,ρ,t::τ,j,k,h,e,hk,hj=>by
  show (eC ix ρ τ)[j]?=_
  cases k with
 |zero=>cases e
 |succ k =>
   have e:ix[k]?=some (some j):=by simpa using e
   rw [nz ix _ τ j k h e (by simpa using hk) hj];simp
|[],ρ,τ,j,k,h,e,hk,hj=>by simp at e
|some i::ix,ρ,[],j,k,h,e,hk,hj=>absurd hk (Nat.not_lt_zero _)
|none::ix,ρ,[],j,k,h,e,hk,hj=>absurd hk (Nat.not_lt_zero _)
theorem ke:∀{ix:List (Option Nat)}{k l j:Nat},zr ix=true->ix[k]?=some (some j)->ix[l]?=some (some j)->k=l
|some i::ix,k,l,j,h,e1,e2=>by
  have h:(!ix.contains (some i) && zr ix)=true:=h
  rw [Bool.and_eq_true] at h
  have no:∀m,ix[m]?≠some (some i):=fun m z=>by
   have:=h.1
   rw [List.contains_iff_mem.mpr (List.mem_of_getElem? z)] at this;cases this
  cases k with
 |zero =>
   have e1:some (some i)=some (some j):=e1
   cases e1
   cases l with
  |zero=>rfl
  |succ l=>exact absurd (by simpa using e2) (no l)
 |succ k =>
   cases l with
  |zero =>
    have e2:some (some i)=some (some j):=e2
    cases e2
    exact absurd (by simpa using e1) (no k)
  |succ l=>rw [ke (k:=k) (l:=l) h.2 (by simpa using e1) (by simpa using e2)]
|none::ix,k,l,j,h,e1,e2=>by
  cases k with
 |zero=>cases e1
 |succ k =>
   cases l with
  |zero=>cases e2
  |succ l=>rw [ke (ix:=ix) (k:=k) (l:=l) (j:=j) h (by simpa using e1) (by simpa using e2)]
|[],k,l,j,h,e1,e2=>by simp at e1
theorem c8 {ix:List (Option Nat)}{ρ:PSt}{k:Nat}{p:PV} (h:(bX ix ρ)[k]?=some (some p)):∃j,ix[k]?=some (some j)/\ρ[j]?=some (some p):=by
 unfold bX at h
 rw [List.getElem?_map] at h
 cases e:ix[k]? with
|none=>rw [e] at h;cases h
|some o =>
  rw [e] at h
  cases o with
 |none=>cases h
 |some j =>
   refine⟨j,rfl,?_⟩
   have h:some (match ρ[j]? with|some v=>v|none=>none)=some (some p):=h
   cases e2:ρ[j]? with
  |none=>rw [e2] at h;cases h
  |some v=>rw [e2] at h;exact h
theorem de {ix:List (Option Nat)}{σ:St}{k j:Nat}{v:V} (h:ix[k]?=some (some j)) (e:σ[j]?=some (some v)):(oX ix σ)[k]?=some (some v):=by
 unfold oX
 rw [List.getElem?_map,h]
 show some (match σ[j]? with|some v=>v|none=>none)=some (some v)
 rw [e]
theorem Rel.amb {K:PySem.W.Frag}{A:Addr->Prop}{ρ:PSt}{σ:St}{H:Hp}{a:Addr}{o:HO} (R:Rel K A ρ σ H) (ha:A a):Rel K A ρ σ (upd H a o):=by
 have k:aM (OO A ρ σ) H (OO A ρ σ) (upd H a o):=fun b u n e=>⟨n,by rw [aB (fun z=>n (by rw [z];exact .inl ha))];exact e⟩
 refine⟨R.len,fun i q e=>?_,R.dj,fun b z=>?_,R.sep⟩
 .obtain⟨v,s,r⟩:=R.get i q e
  refine⟨v,s,r.keeps k fun ow b eb=>?_⟩
  rw [aB]
  intro z
  subst z eb
  exact R.sep b ha ⟨i,q,e,ow,s⟩
 .by_cases z':b=a
  .rw [z',aL];exact nofun
  .rw [aB z'];exact R.dom b z
def Do (ix:List (Option Nat)) (ρ:PSt):Bool:=ix.all fun o=>match o with|none=>true|some j=>(match ρ[j]? with|some (some _)=>true|_=>false)
structure lO (ix:List (Option Nat)) (ρ1:PSt) (n:Nat) (it:Nat->D) (g:PTG) (pt:PTT) (pe:PTE) (Q:PKt):Prop where
 ex:∃I:Nat->List D->PSt->Prop,I 0 [] (bX ix ρ1) /\
  (∀k ys τ d,k<n->d=it k->I k ys τ->g (.dat d) τ fun τ2=>pt τ2 fun ok τ3=>fU ok (pe τ3 fun p τ4=>I (k+1) (ys++[p.d]) τ4) (I (k+1) ys τ3))/\∀ys τ,I n ys τ->Q (.own ys) (eC ix ρ1 τ)
def cZ (ix:List (Option Nat)) (pi:PTI) (g:PTG) (pt:PTT) (pe:PTE):PTE:=fun ρ Q=>pi ρ fun n it ρ1=>Do ix ρ1=true/\n<=1000000/\lO ix ρ1 n it g pt pe Q
def iH:PTT:=fun ρ Q=>Q true ρ
theorem cO {K:PySem.W.Frag}:LT K gJ iH:=fun A ρ σ H Q Q' R q k=>k true H ρ q (Fr.refl _ _ _) R
def wk (ix:List (Option Nat)):List Nat:=(List.range ix.length).filter fun k=>(ix.getD k none).isSome
theorem bd {K:PySem.W.Frag}{ix:List (Option Nat)}{wi:TI}{pi:PTI}{g:TG}{pg:PTG}{tts:TT}{pt:PTT}{te:TE}{pe:PTE} (hix:zr ix=true) (hi:LI K wi pi) (hg:∀fs:List Nat,(∀k∈fs,k∈wk ix)->LGd K fs g pg) (ht:LT K tts pt) (he:LE K te pe) :
  LE K (lN ix wi g tts te) (cZ ix pi pg pt pe):=fun A ρ σ H Q Q' R q k=>hi A ρ σ H _ _ R q fun J H1 n it ρ1 q1 f1 R1 W D hD=>by
 obtain⟨hcap,hn,⟨I,i0,turn,after⟩⟩:=q1
 let τρ0:=bX ix ρ1
 let τσ0:=oX ix σ
 let Ai:Addr->Prop:=fun b=>A b\/b=D\/(Wr ρ1 σ b/\¬ Wr τρ0 τσ0 b)
 let H0':=upd H1 D (.lst [])
 have wsub:∀b,Wr τρ0 τσ0 b->Wr ρ1 σ b:=fun b ⟨m,p,e,o,s⟩=>by
  obtain⟨j,h1,h2⟩:=c8 e
  obtain⟨v,hv,_⟩:=R1.get j p h2
  have:=de h1 hv
  rw [s] at this
  cases this
  exact⟨j,p,h2,o,hv⟩
 have nD:¬ Wr ρ1 σ D:=fun z=>R1.wr z hD
 have oosub:∀b,OO Ai τρ0 τσ0 b->OO A ρ1 σ b\/b=D:=fun b z=>by
  rcases z with (z|z|z)|z
  .exact .inl (.inl z)
  .exact .inr z
  .exact .inl (.inr z.1)
  .exact .inl (.inr (wsub b z))
 have kD:aM (OO A ρ1 σ) H1 (OO Ai τρ0 τσ0) H0':=fun b o nn e=>by
  refine⟨fun z=>?_,?_⟩
  .rcases oosub b z with z|z
   .exact nn z
   .rw [z,hD] at e;cases e
  .rw [show H0' b=H1 b from aB (bi e hD)];exact e
 have Ri:Rel K Ai τρ0 τσ0 H0':=by
  refine⟨by show (bX ix ρ1).length=(oX ix σ).length;unfold bX oX;rw [List.length_map,List.length_map],fun m p e=>?_,fun m l p q v e1 e2 o1 o2 s1 s2=>?_,fun b z=>?_,fun b z w=>?_⟩
  .obtain⟨j,h1,h2⟩:=c8 e
   obtain⟨v,hv,r⟩:=R1.get j p h2
   refine⟨v,de h1 hv,r.keeps kD fun ow a ea=>?_⟩
   subst ea
   exact aB (fun z=>nD (by rw [<- z];exact⟨j,p,h2,ow,hv⟩))
  .obtain⟨j,h1,h2⟩:=c8 e1
   obtain⟨j',h3,h4⟩:=c8 e2
   obtain⟨v1,hv1,_⟩:=R1.get j p h2
   obtain⟨v2,hv2,_⟩:=R1.get j' q h4
   have t1:=de h1 hv1
   have t2:=de h3 hv2
   rw [s1] at t1
   rw [s2] at t2
   cases t1
   cases t2
   have:=R1.dj j j' p q _ h2 h4 o1 o2 hv1 hv2
   subst this
   exact ke hix h1 h3
  .rcases z with z|z|z
   .intro e
    by_cases zz:b=D
    .exact R1.dom b z (by rw [zz];exact hD)
    .rw [show H0' b=H1 b from aB zz] at e;exact R1.dom b z e
   .rw [z];show upd H1 D _ D≠none;rw [aL];exact nofun
   .intro e
    rw [show H0' b=H1 b from aB (fun zz=>nD (by rw [<- zz];exact z.1))] at e;exact R1.wr z.1 e
  .rcases z with z|z|z
   .exact R1.sep b z (wsub b w)
   .rw [z] at w;exact nD (wsub D w)
   .exact z.2 w
 let fxi:List (Nat×V):=(wk ix).filterMap fun m=>match (τσ0[m]?) with|some (some v)=>some (m,v)|_=>none
 have hfx:∀p∈fxi,τσ0[p.1]?=some (some p.2):=fun p hp=>by
  obtain⟨m,hm,e⟩:=List.mem_filterMap.mp hp
  split at e
  .rename_i v ev;cases e;exact ev
  .cases e
 have hfs:∀m∈fxi.map Prod.fst,m∈wk ix:=fun m hm=>by
  obtain⟨p,hp,rfl⟩:=List.mem_map.mp hm
  obtain⟨m',hm',e⟩:=List.mem_filterMap.mp hp
  split at e
  .cases e;exact hm'
  .cases e
 have hgi:=hg (fxi.map Prod.fst) hfs
 have fxget:∀(m j:Nat) (v:V),ix[m]?=some (some j)->σ[j]?=some (some v)->(m,v)∈fxi:=fun m j v h1 h2=>by
  refine List.mem_filterMap.mpr ⟨m,?_,?_⟩
  .unfold wk
   refine List.mem_filter.mpr ⟨List.mem_range.mpr (List.getElem?_eq_some_iff.mp h1).1,?_⟩
   rw [List.getD_eq_getElem?_getD,h1];rfl
  .show (match (oX ix σ)[m]? with|some (some v)=>some (m,v)|_=>none)=_
   rw [de h1 h2]
 let Rr:Addr->Prop:=fun b=>Wr τρ0 τσ0 b\/b=D
 have hRr:∀b,Rr b->OO Ai τρ0 τσ0 b:=fun b z=>z.elim (fun z=>.inr z) (fun z=>.inl (.inr (.inl z)))
 have F0:ek fxi Rr H0' τρ0 τσ0 H0':=⟨fun _ _ _ h=>h,fun _ h=>h,fun b w=>.inl (.inl w),hfx⟩
 refine⟨fun i m τ H2=>i+m=n/\∃ys τρ xs,I i ys τρ/\ys.length<=i/\Rel K Ai τρ τ H2/\ek fxi Rr H0' τρ τ H2/\H2 D=some (.lst xs)/\FVs K (OO Ai τρ τ) H2 xs ys/\∀b,Wr τρ τ b->Wr τρ0 τσ0 b,
  ⟨n,Nat.zero_add n,[],τρ0,[],i0,Nat.le_refl _,Ri,F0,aL,.nil,fun _ h=>h⟩,fun i m τ H2 ⟨him,ys,τρ,xs,iv,hy,r2,F2,eD,fD,hw⟩=>?_⟩
 have kk:aM (OO A ρ1 σ) H1 (OO Ai τρ τ) H2:=fun b o nn e=>(F2.keepsR hRr) b o (kD b o nn e).1 (kD b o nn e).2
 obtain⟨go,stop⟩:=W _ H2 kk r2.dom2
 by_cases hk:i<n
 .obtain⟨g1,g2⟩:=go i hk
  refine .inr ⟨g1,fun x H3 y=>?_⟩
  obtain⟨gr,fv⟩:=g2 x H3 y
  have AiD:Ai D:=.inr (.inl rfl)
  refine hgi fxi Ai Rr H0' τρ τ H3 _ x _ _ rfl (F2.fr gr.fr) (r2.gr gr) fv (turn i ys τρ _ hk rfl iv) fun τρ2 τ2 q2 r3 F3 w3=>?_
  refine ht Ai τρ2 τ2 H3 _ _ r3 q2 fun ok H5 τρ3 q3 f5 r5=>?_
  have F5:=F3.fr f5
  have fD5:FVs K (OO Ai τρ3 τ2) H5 xs ys:=((fD.keeps (gr.fr (ρ:=τρ) (σ:=τ)).keeps).keeps (aM.less fun b z=>z.imp id (w3 b))).keeps f5.keeps
  have eD5:H5 D=some (.lst xs):=f5.kp D _ (r3.sep D AiD) (gr D _ eD)
  cases ok with
 |true =>
   refine he Ai τρ3 τ2 H5 _ _ r5 q3 fun v H6 p τρ4 q4 f6 o6=>?_
   obtain⟨r6,fv6⟩:=o6.frz
   have F6:=F5.fr f6
   have eD6:H6 D=some (.lst xs):=f6.kp D _ (r5.sep D AiD) eD5
   have kw:aM (OO Ai τρ4 τ2) H6 (OO Ai τρ4 τ2) (upd H6 D (.lst (xs++[v]))):=fun b o nn e=>⟨nn,by rw [aB (fun z=>nn (by rw [z];exact .inl AiD))];exact e⟩
   refine⟨xs,eD6,?_,m - 1,by omega,by omega,ys++[p.d],τρ4,xs++[v],q4,by rw [List.length_append];show _+1<=_;omega,r6.amb AiD,⟨fun b o nn e=>?_,fun b z=>?_,F6.ow,F6.fx⟩,aL,((fD5.keeps f6.keeps).append (.cons fv6 .nil)).keeps kw,fun b z=>hw b (w3 b (f5.ow b (f6.ow b z)))⟩
   .have:xs.length=ys.length:=fD.length
    exact Nat.lt_of_lt_of_le (by omega:xs.length<1000000) (sz _ (Nat.le_refl _))
   .rw [aB (fun z=>nn (.inr z))];exact F6.kp b o nn e
   .by_cases zz:b=D
    .rw [zz,aL];exact nofun
    .rw [aB zz];exact F6.dm b z
 |false=>exact⟨m - 1,by omega,by omega,ys,τρ3,xs,q3,by omega,r5,F5,eD5,fD5,fun b z=>hw b (w3 b (f5.ow b z))⟩
 .have e:i=n:=by omega
  subst e
  refine .inl ⟨stop,?_⟩
  have q':=after ys τρ iv
  have cap:∀(m j:Nat),ix[m]?=some (some j)->∃p v,ρ1[j]?=some (some p)/\σ[j]?=some (some v)/\τ[m]?=some (some v):=fun m j e=>by
   have h1:=List.all_eq_true.mp hcap _ (List.mem_of_getElem? e)
   have h1:(match ρ1[j]? with|some (some _)=>true|_=>false)=true:=h1
   split at h1
   .rename_i p ep
    obtain⟨v,hv,_⟩:=R1.get j p ep
    exact⟨p,v,ep,hv,F2.fx _ (fxget m j v e hv)⟩
   .cases h1
  have get':∀(j:Nat) (p:PV),(eC ix ρ1 τρ)[j]?=some (some p)->(∃m v,ix[m]?=some (some j)/\σ[j]?=some (some v)/\τ[m]?=some (some v)/\τρ[m]?=some (some p))\/(some j∉ix/\ρ1[j]?=some (some p)):=fun j p e=>by
   by_cases hj:some j∈ix
   .obtain⟨m,hm,em⟩:=List.getElem_of_mem hj
    have em':ix[m]?=some (some j):=by rw [List.getElem?_eq_getElem hm,em]
    obtain⟨p0,v,h1,h2,h3⟩:=cap m j em'
    rw [nz ix ρ1 τρ j m hix em' (by rw [r2.len];exact (List.getElem?_eq_some_iff.mp h3).1) (List.getElem?_eq_some_iff.mp h1).1] at e
    exact .inl ⟨m,v,em',h2,h3,e⟩
   .rw [iS ix ρ1 τρ j hj] at e
    exact .inr ⟨hj,e⟩
  have nocap:∀(j:Nat) (p:PV) (b:Addr),some j∉ix->ρ1[j]?=some (some p)->p.isOwn=true->σ[j]?=some (some (.ref b))->¬ Wr τρ0 τσ0 b:=fun j p b hj e o s ⟨m,q,e1,o1,s1⟩=>by
   obtain⟨j',h1,h2⟩:=c8 e1
   obtain⟨v,hv,_⟩:=R1.get j' q h2
   have:=de h1 hv
   rw [s1] at this
   cases this
   have:=R1.dj j j' p q _ e h2 o o1 s hv
   subst this
   exact hj (List.mem_of_getElem? h1)
  have w':∀b,Wr (eC ix ρ1 τρ) σ b->Wr τρ τ b\/(Wr ρ1 σ b/\¬ Wr τρ0 τσ0 b):=fun b ⟨j,p,e,o,s⟩=>by
   rcases get' j p e with ⟨m,v,h1,h2,h3,h4⟩|⟨hj,h1⟩
   .rw [s] at h2;cases h2;exact .inl ⟨m,p,h4,o,h3⟩
   .exact .inr ⟨⟨j,p,h1,o,s⟩,nocap j p b hj h1 o s⟩
  have oo':∀b,OO (eG A D) (eC ix ρ1 τρ) σ b->OO Ai τρ τ b:=fun b z=>by
   rcases z with (z|z)|z
   .exact .inl (.inl z)
   .exact .inl (.inr (.inl z))
   .rcases w' b z with z|z
    .exact .inr z
    .exact .inl (.inr (.inr z))
  have kp1:∀b o,¬ Wr τρ0 τσ0 b->b≠D->H1 b=some o->H2 b=some o:=fun b o n1 n2 e=>F2.kp b o (fun z=>z.elim n1 n2) (by rw [show H0' b=H1 b from aB n2];exact e)
  have k1:aM (OO A ρ1 σ) H1 (OO (eG A D) (eC ix ρ1 τρ) σ) H2:=fun b o nn e=>⟨fun z=>(kk b o nn e).1 (oo' b z),(kk b o nn e).2⟩
  have AiD:Ai D:=.inr (.inl rfl)
  have R':Rel K (eG A D) (eC ix ρ1 τρ) σ H2:=by
   refine⟨by rw [kc];exact R1.len,fun j p e=>?_,fun j l p q v e1 e2 o1 o2 s1 s2=>?_,fun b z=>?_,fun b z w=>?_⟩
   .rcases get' j p e with ⟨m,v,h1,h2,h3,h4⟩|⟨hj,h1⟩
    .obtain⟨v',hv',r⟩:=r2.get m p h4
     rw [h3] at hv';cases hv'
     exact⟨v,h2,r.keeps (aM.less oo') fun _ _ _=>rfl⟩
    .obtain⟨v,hv,r⟩:=R1.get j p h1
     refine⟨v,hv,r.keeps k1 fun ow a ea=>?_⟩
     subst ea
     obtain⟨a',u,e1,e2⟩:=r.ref ow
     cases e1
     rw [e2]
     exact kp1 a u (nocap j p a hj h1 ow hv) (fun z=>by rw [z,hD] at e2;cases e2) e2
   .rcases get' j p e1 with ⟨m,v1,h1,h2,h3,h4⟩|⟨hj,h1⟩
    .rw [s1] at h2;cases h2
     rcases get' l q e2 with ⟨m',v2,g1,g2,g3,g4⟩|⟨hl,g1⟩
     .rw [s2] at g2;cases g2
      have:=r2.dj m m' p q _ h4 g4 o1 o2 h3 g3
      subst this
      rw [h1] at g1;cases g1;rfl
     .exfalso
      obtain⟨v',hv',r⟩:=r2.get m p h4
      rw [h3] at hv';cases hv'
      obtain⟨a,u,ea,_⟩:=r.ref o1
      subst ea
      exact nocap l q a hl g1 o2 s2 (hw a ⟨m,p,h4,o1,h3⟩)
    .rcases get' l q e2 with ⟨m',v2,g1,g2,g3,g4⟩|⟨hl,g1⟩
     .rw [s2] at g2;cases g2
      exfalso
      obtain⟨v',hv',r⟩:=r2.get m' q g4
      rw [g3] at hv';cases hv'
      obtain⟨a,u,ea,_⟩:=r.ref o2
      subst ea
      exact nocap j p a hj h1 o1 s1 (hw a ⟨m',q,g4,o2,g3⟩)
     .exact R1.dj j l p q v h1 g1 o1 o2 s1 s2
   .rcases z with z|z
    .exact r2.dom b (.inl z)
    .rw [z,eD];exact nofun
   .rcases w' b w with w|w
    .rcases z with z|z
     .exact r2.sep b (.inl z) w
     .rw [z] at w;exact r2.sep D AiD w
    .rcases z with z|z
     .exact R1.sep b z w.1
     .rw [z] at w;exact nD w.1
  have f2:Fr ρ1 σ H1 (eC ix ρ1 τρ) H2:=by
   refine⟨fun b o nn e=>kp1 b o (fun z=>nn (wsub b z)) (fun z=>by rw [z,hD] at e;cases e) e,fun b z=>F2.dm b ?_,fun b z=>?_⟩
   .intro e
    by_cases zz:b=D
    .exact z (by rw [zz];exact hD)
    .rw [show H0' b=H1 b from aB zz] at e;exact z e
   .rcases w' b z with z|z
    .exact wsub b (hw b z)
    .exact z.1
  have hD0:H D=none:=by
   cases e:H D with
  |none=>rfl
  |some o=>exact absurd hD (f1.dm D (by rw [e];exact nofun))
  exact k _ H2 (.own ys) _ q' (f1.trans f2) ⟨D,xs,rfl,fun z=>R1.dom D z hD,hD0,eD,R',fD.keeps (aM.less oo')⟩
section
variable {K:PySem.W.Frag}{A A':Addr->Prop}{ρ:PSt}{σ:St}{H H':Hp}
theorem Rel.step (R:Rel K A ρ σ H) {i:Nat}{p q:PV}{a:Addr} (e:ρ[i]?=some (some p)) (ow:p.isOwn=true) (ow':q.isOwn=true) (es:σ[i]?=some (some (.ref a)))
  (kp:∀b o,b≠a->H b=some o->H' b=some o) (ha:H' a≠none) (h1:∀b,A b->A' b) (h2:∀b,A' b->A b\/H b=none) (dom':∀b,A' b->H' b≠none)
  (new:RS K (OO A' ρ σ) H' q (.ref a)):Rel K A' (ρ.set i (some q)) σ H'/\Fr ρ σ H (ρ.set i (some q)) H':=by
 have hi:i<ρ.length:=(List.getElem?_eq_some_iff.mp e).1
 have wa:Wr ρ σ a:=⟨i,p,e,ow,es⟩
 have weq:∀b,Wr (ρ.set i (some q)) σ b ↔ Wr ρ σ b:=fun b=>by
  constructor
  .rintro⟨j,r,e1,o1,s1⟩
   by_cases z:i=j
   .subst z;exact⟨i,p,e,ow,s1⟩
   .rw [List.getElem?_set_ne z] at e1;exact⟨j,r,e1,o1,s1⟩
  .rintro⟨j,r,e1,o1,s1⟩
   by_cases z:i=j
   .subst z;exact⟨i,q,List.getElem?_set_self hi,ow',s1⟩
   .exact⟨j,r,by rw [List.getElem?_set_ne z];exact e1,o1,s1⟩
 have oeq:OO A' (ρ.set i (some q)) σ=OO A' ρ σ:=funext fun b=>propext (or_congr Iff.rfl (weq b))
 have kp1:∀b u,¬ Wr ρ σ b->H b=some u->H' b=some u:=fun b u n h=>kp b u (fun z=>n (by rw [z];exact wa)) h
 have k:aM (OO A ρ σ) H (OO A' ρ σ) H':=fun b u n h=>by
  refine⟨fun z=>?_,kp1 b u (fun z=>n (.inr z)) h⟩
  rcases z with z|z
  .rcases h2 b z with z|z
   .exact n (.inl z)
   .rw [z] at h;cases h
  .exact n (.inr z)
 have dm:∀b,H b≠none->H' b≠none:=fun b n=>by
  by_cases z:b=a
  .rw [z];exact ha
  .cases eb:H b with
  |none=>exact absurd eb n
  |some o=>rw [kp b o z eb];exact nofun
 refine⟨⟨by rw [List.length_set];exact R.len,fun j r e1=>?_,fun j l p1 q1 v e1 e2 o1 o2 s1 s2=>?_,dom',fun b z w=>?_⟩,⟨kp1,dm,fun b w=>(weq b).mp w⟩⟩
 .rw [oeq]
  by_cases z:i=j
  .subst z
   rw [List.getElem?_set_self hi] at e1
   cases e1
   exact⟨_,es,new⟩
  .rw [List.getElem?_set_ne z] at e1
   obtain⟨v,s,rr⟩:=R.get j r e1
   refine⟨v,s,rr.keeps k fun ow2 b eb=>?_⟩
   obtain⟨b',u,e3,e4⟩:=rr.ref ow2
   rw [eb] at e3;cases e3
   rw [e4]
   refine kp b u (fun zz=>?_) e4
   subst zz
   rw [eb] at s
   exact z (R.dj i j p r _ e e1 ow ow2 es s)
 .have ex:∀(m:Nat) (x:PV),(ρ.set i (some q))[m]?=some (some x)->x.isOwn=true->∃y:PV,ρ[m]?=some (some y)/\y.isOwn=true:=fun m x em ox=>by
   by_cases z:i=m
   .subst z;exact⟨p,e,ow⟩
   .rw [List.getElem?_set_ne z] at em;exact⟨x,em,ox⟩
  obtain⟨y1,g1,g2⟩:=ex j p1 e1 o1
  obtain⟨y2,g3,g4⟩:=ex l q1 e2 o2
  exact R.dj j l y1 y2 v g1 g3 g2 g4 s1 s2
 .rcases h2 b z with z|z
  .exact R.sep b z ((weq b).mp w)
  .exact R.wr ((weq b).mp w) z
theorem Rel.lstw (R:Rel K A ρ σ H) {i:Nat}{ds es:List D}{a:Addr}{ys:List V} (e:ρ[i]?=some (some (.own ds))) (es':σ[i]?=some (some (.ref a))) (f:FVs K (OO A ρ σ) H ys es) :
  Rel K A (ρ.set i (some (.own es))) σ (upd H a (.lst ys))/\Fr ρ σ H (ρ.set i (some (.own es))) (upd H a (.lst ys)):=by
 have wa:OO A ρ σ a:=.inr ⟨i,_,e,rfl,es'⟩
 exact R.write (q:=.own es) e rfl rfl es' ⟨a,ys,rfl,aL,f.keeps fun b u n h=>⟨n,by rw [aB (fun z=>n (by rw [z];exact wa))];exact h⟩⟩
theorem Rel.ownAt (R:Rel K A ρ σ H) {i:Nat}{ds:List D} (e:ρ[i]?=some (some (.own ds))):∃a xs,σ[i]?=some (some (.ref a))/\H a=some (.lst xs)/\FVs K (OO A ρ σ) H xs ds:=by
 obtain⟨v,s,a,xs,rfl,g,f⟩:=R.get i _ e
 exact⟨a,xs,s,g,f⟩
end
def AS (i:Nat) (pe:PTE):PTE:=fun ρ Q=>match ρ[i]? with
|some (some (.own _))=>pe ρ fun p ρ1=>(match ρ1[i]? with
 |some (some (.own ds))=>ds.length<1000000/\Q (.dat .non) (ρ1.set i (some (.own (ds++[p.d]))))
 |_=>False)
|_=>False
def E9 (i:Nat):PTE:=fun ρ Q=>match ρ[i]? with
|some (some (.own ds))=>∃d,ds[ds.length - 1]?=some d/\Q (.dat d) (ρ.set i (some (.own ds.dropLast)))
|_=>False
def sE (i:Nat) (pe pk:PTE):PTS:=fun D ρ=>pe ρ fun p ρ1=>(match ρ1[i]? with
|some (some (.own _))=>pk ρ1 fun kp ρ2=>(match ρ2[i]?,kp with
 |some (some (.own ds)),.dat (.int k)=>∃j,ixN ds.length k=some j/\D.nx (ρ2.set i (some (.own (ds.set j p.d))))
 |_,_=>False)
|_=>False)
section
variable {K:PySem.W.Frag}{te tk:TE}{pe pk:PTE}{fs:List Nat}
theorem pG {i:Nat} (h:LE K te pe):LE K (tBM K "list" vh (a9 i) (aW te dC)) (AS i pe):=fun A ρ σ H Q Q' R q k=>by
 unfold AS at q
 split at q
 .rename_i ds0 e0
  obtain⟨a0,xs0,s0,g0,f0⟩:=R.ownAt e0
  refine⟨_,s0,.inl ⟨rfl,xs0,SqL.of g0⟩,h A ρ σ H _ _ R q fun v H1 p ρ1 q1 f1 o1=>?_⟩
  obtain⟨R1,fv⟩:=o1.frz
  split at q1
  .rename_i ds e1
   obtain⟨a,xs,s,g,f⟩:=R1.ownAt e1
   rw [s0] at s;cases s
   obtain⟨R2,f2⟩:=R1.lstw e1 s0 (f.append (.cons fv .nil))
   exact⟨a0,xs,v,rfl,rfl,g,Nat.lt_of_lt_of_le (by rw [f.length];exact q1.1) (sz _ (Nat.le_refl _)),k _ _ _ _ q1.2 (f1.trans f2) ⟨R2,.non⟩⟩
  .exact q1.elim
 .exact q.elim
theorem Dp {i:Nat}:LE K (CF K "list" FE (a9 i)) (E9 i):=fun A ρ σ H Q Q' R q k=>by
 unfold E9 at q
 split at q
 .rename_i ds e
  obtain⟨d,hd,q⟩:=q
  obtain⟨a,xs,s,g,f⟩:=R.ownAt e
  obtain⟨v,hv,fv⟩:=f.getD hd
  obtain⟨R2,f2⟩:=R.lstw (es:=ds.dropLast) (ys:=xs.dropLast) e s (by rw [List.dropLast_eq_take,List.dropLast_eq_take,f.length];exact f.take _)
  exact⟨_,s,.inl ⟨rfl,xs,SqL.of g⟩,a,xs,v,rfl,rfl,g,by rw [f.length];exact hv,k _ _ _ _ q f2 ⟨R2,(fv.keeps f2.keeps)⟩⟩
 .exact q.elim
theorem qR {i:Nat} (h:LE K te pe) (hk:LE K tk pk):LS K fs (ze te (Ev (a9 i) tk Aq)) (sE i pe pk):=fun fx A R H0 ρ σ H D D' hf r F q k1 k2 k3 k4=>h A ρ σ H _ _ r q fun v H1 p ρ1 q1 f1 o1=>by
 obtain⟨R1,fv⟩:=o1.frz
 split at q1
 .rename_i ds0 e0
  obtain⟨a0,xs0,s0,g0,f0⟩:=R1.ownAt e0
  refine⟨_,s0,hk A ρ1 σ H1 _ _ R1 q1 fun w H2 kp ρ2 q2 f2 o2=>?_⟩
  split at q2
  .rename_i ds j e2
   obtain⟨n,hn,q2⟩:=q2
   obtain⟨R2,fw⟩:=o2
   cases fw
   obtain⟨a,xs,s,g,f⟩:=R2.ownAt e2
   rw [s0] at s;cases s
   obtain⟨R3,f3⟩:=R2.lstw e2 s0 (FVs.set (fv.keeps f2.keeps) n f)
   exact⟨a0,xs,j,n,rfl,rfl,g,by rw [f.length];exact hn,k1 _ _ _ q2 R3 (((F.fr f1).fr f2).fr f3)⟩
  .exact q2.elim
 .exact q1.elim
end
def spP (K:PySem.W.Frag) (c:FN):Sp:=fun vs H Q _=>∃(O:Addr->Prop) (ds:List D) (Qc:PV->Prop),(∀b,O b->H b≠none)/\FVs K O H vs ds/\c ds Qc/\∀r,Qc r->∀v H',Gr H H'->qA K O H H' r v->Q v H'
def bL (c:FN) (pr:PTA):PTE:=fun ρ Q=>pr ρ fun as ρ1=>match avD as with
|some ds=>c ds fun r=>Q r ρ1
|none=>False
theorem kN {N:List Str}{vs:List V}{i:Nat}{v:V} (h:vs[i]?=some v):(start N vs)[i]?=some (some v):=by
 unfold start
 rw [List.getElem?_append_left (by rw [List.length_map];exact (List.getElem?_eq_some_iff.mp h).1),List.getElem?_map,h];rfl
def dX (n:Nat) (ps:List PV):PSt:=ps.map some++List.replicate (n - ps.length) none
theorem e7 {n:Nat}{ps:List PV}{i:Nat}{p:PV} (h:(dX n ps)[i]?=some (some p)):ps[i]?=some p:=by
 unfold dX at h
 by_cases hi:i<ps.length
 .rw [List.getElem?_append_left (by rw [List.length_map];exact hi),List.getElem?_map] at h
  cases e:ps[i]? with
 |none=>rw [e] at h;cases h
 |some q=>rw [e] at h;cases h;rfl
 .rw [List.getElem?_append_right (by rw [List.length_map];omega)] at h
  have:=List.mem_of_getElem? h
  rw [List.mem_replicate] at this
  cases this.2
section
variable {K:PySem.W.Frag}{tr:TA}{pr:PTA}{ts:TS}{ps:PTS}
theorem aR {c:FN} (h:LAs K tr pr):LE K (eB (spP K c) [] E0 tr) (bL c pr):=fun A ρ σ H Q Q' R q k=>h A ρ σ H _ _ R q fun vs H1 as ρ1 q1 f1 R1 o1=>by
 split at q1
 .rename_i ds e
  rw [List.append_nil]
  exact⟨OO A ρ1 σ,ds,_,R1.dom2,o1.avD e,q1,fun r qr v H' g ov=>k v H' r ρ1 qr (f1.trans g.fr) ((ov.out R1 g).h0 f1.dm)⟩
 .exact q1.elim
theorem Out.outV {O:Addr->Prop}{ρ:PSt}{σ:St}{H H':Hp}{p:PV}{v:V} (h:Out K O ρ σ H H' p v):qA K O H H' p v:=by
 cases p with
|dat d=>exact h.2.keeps (aM.less fun b z=>.inl z)
|own ds =>
  obtain⟨a,xs,e1,na,e2,e3,R,f⟩:=h
  exact⟨a,xs,e1,e2,e3,f.keeps (aM.less fun b z=>.inl z)⟩
|ins c ns ds =>
  obtain⟨a,dx,fs,e1,na,e2,e3,m,R,f⟩:=h
  exact⟨a,dx,fs,e1,e2,e3,m,f.keeps (aM.less fun b z=>.inl z)⟩
theorem fnP {c:FN}{N:List Str} (hl:LS K [] ts ps) (hn:∀ds Q,c ds Q->ds.length<=N.length) (hc:∀ds Q,c ds Q->ps { nx:=fun _=>Q (.dat .non),rt:=fun p _=>Q p } (dX N.length (ds.map .dat)))
  {vs:List V}{H:Hp}{Q:VK}{E:XK} (h:spP K c vs H Q E):ts { nx:=fun _ H'=>Q .non H',rt:=Q } (start N vs) H:=by
 obtain⟨O,ds,Qc,dom,fv,hq,k⟩:=h
 have nw:∀(ρ:PSt) (b:Addr),ρ=dX N.length (ds.map .dat)->¬ Wr ρ (start N vs) b:=fun ρ b e ⟨i,p,e1,o1,s1⟩=>by
  rw [e] at e1
  have:=e7 e1
  rw [List.getElem?_map] at this
  cases e2:ds[i]? with
 |none=>rw [e2] at this;cases this
 |some d=>rw [e2] at this;cases this;cases o1
 have lenv:=fv.length
 have hle:=hn ds Qc hq
 have R0:Rel K O (dX N.length (ds.map .dat)) (start N vs) H:=by
  refine⟨?_,fun i p e=>?_,fun i j p q v e1 e2 o1 o2 s1 s2=>?_,dom,fun b _ w=>nw _ b rfl w⟩
  .unfold dX start
   rw [List.length_append,List.length_append,List.length_map,List.length_map,List.length_map,List.length_replicate,List.length_replicate,lenv]
  .have:=e7 e
   rw [List.getElem?_map] at this
   cases e2:ds[i]? with
  |none=>rw [e2] at this;cases this
  |some d =>
    rw [e2] at this;cases this
    obtain⟨v,hv,f⟩:=fv.getD e2
    exact⟨v,kN hv,f.keeps (aM.less fun b z=>z.elim id fun w=>absurd w (nw _ b rfl))⟩
  .have:=e7 e1
   rw [List.getElem?_map] at this
   cases e3:ds[i]? with
  |none=>rw [e3] at this;cases this
  |some d=>rw [e3] at this;cases this;cases o1
 refine hl [] O (fun _=>False) H _ _ H _ _ rfl R0 ⟨fun _ _ _ h=>h,fun _ h=>h,fun b w=>absurd w (nw _ b rfl),fun p hp=>nomatch hp⟩ (hc ds Qc hq) (fun ρ' σ' H' q r F=>?_) (fun v p ρ' σ' H' q o F=>?_) (fun _ _ _ z=>z.elim) (fun _ _ _ z=>z.elim)
 .exact k _ q .non H' (fun b o e=>F.kp b o id e) .non
 .exact k _ q v H' (fun b o e=>F.kp b o id e) o.outV
abbrev FR:=PV->List D->(PV->PV->Prop)->Prop
def spR (K:PySem.W.Frag) (c:FR):Sp:=fun vs H Q _=>∃(A:Addr->Prop) (a:Addr) (p:PV) (ws:List V) (ds:List D) (Qc:PV->PV->Prop),vs=.ref a::ws/\p.isOwn=true/\(∀b,A b->H b≠none)/\¬ A a/\RS K (eG A a) H p (.ref a)/\FVs K (eG A a) H ws ds/\c p ds Qc /\
 ∀r p',Qc r p'->p'.isOwn=true->∀v H',(∀b o,b≠a->H b=some o->H' b=some o)->H' a≠none->RS K (eG A a) H' p' (.ref a)->qA K (eG A a) H H' r v->(∀a',v=.ref a'->r.isOwn=true->RS K (eG (eG A a) a') H' p' (.ref a))->Q v H'
def bn (c:FR) (i:Nat) (pr:PTA):PTE:=fun ρ Q=>match ρ[i]? with
|some (some _)=>pr ρ fun as ρ1=>(match ρ1[i]?,avD as with
 |some (some p),some ds=>p.isOwn=true/\c p ds fun r p'=>Q r (ρ1.set i (some p'))
 |_,_=>False)
|_=>False
theorem aI {c:FR}{i:Nat} (h:LAs K tr pr):LE K (eB (spR K c) [] E0 (aW (a9 i) tr)) (bn c i pr):=fun A ρ σ H Q Q' R q k=>by
 unfold bn at q
 split at q
 .rename_i p0 e0
  obtain⟨v0,s0,_⟩:=R.get i p0 e0
  refine⟨v0,s0,h A ρ σ H _ _ R q fun vs H1 as ρ1 q1 f1 R1 o1=>?_⟩
  split at q1
  .rename_i p ds e1 ed
   obtain⟨ow,q1⟩:=q1
   obtain⟨v1,s1,rs⟩:=R1.get i p e1
   rw [s0] at s1;cases s1
   obtain⟨a,u,rfl,ea⟩:=rs.ref ow
   rw [List.append_nil]
   have wa:Wr ρ1 σ a:=⟨i,p,e1,ow,s0⟩
   have oeq:eG (fun b=>(OO A ρ1 σ b)/\b≠a) a=OO A ρ1 σ:=funext fun b=>propext ⟨fun z=>z.elim (fun z=>z.1) (fun z=>by rw [z];exact .inr wa),fun z=>by
    by_cases e:b=a
    .exact .inr e
    .exact .inl ⟨z,e⟩⟩
   refine⟨fun b=>(OO A ρ1 σ b)/\b≠a,a,p,vs,ds,_,rfl,ow,fun b z=>R1.dom2 b z.1,fun z=>z.2 rfl,by rw [oeq];exact rs,by rw [oeq];exact o1.avD ed,q1,fun r p' qr ow' v H' kp ha rs' ov hx=>?_⟩
   rw [oeq] at rs' ov hx
   have domA:∀b,A b->H' b≠none:=fun b z=>by
    have:b≠a:=fun e=>R1.sep b z (by rw [e];exact wa)
    cases eb:H1 b with
   |none=>exact absurd eb (R1.dom b z)
   |some o=>rw [kp b o this eb];exact nofun
   cases r with
  |dat d =>
    obtain⟨R2,f2⟩:=R1.step (A':=A) e1 ow ow' s0 kp ha (fun _ h=>h) (fun _ h=>.inl h) domA rs'
    exact k v H' _ _ qr (f1.trans f2) ⟨R2,FV.keeps (aM.less fun b z=>z.imp id (f2.ow b)) ov⟩
  |own es =>
    obtain⟨a',xs,rfl,n1,e2,f⟩:=ov
    have hx:=hx a' rfl rfl
    have na:a'≠a:=fun e=>by rw [e,ea] at n1;cases n1
    have oo2:∀b,OO (eG A a') ρ1 σ b ↔ eG (OO A ρ1 σ) a' b:=fun b=>⟨fun z=>by
     rcases z with (z|z)|z
     .exact .inl (.inl z)
     .exact .inr z
     .exact .inl (.inr z),fun z=>by
     rcases z with (z|z)|z
     .exact .inl (.inl z)
     .exact .inr z
     .exact .inl (.inr z)⟩
    have oo2':OO (eG A a') ρ1 σ=eG (OO A ρ1 σ) a':=funext fun b=>propext (oo2 b)
    obtain⟨R2,f2⟩:=R1.step (A':=eG A a') e1 ow ow' s0 kp ha (fun _ h=>.inl h) (fun b z=>z.imp id fun z=>by rw [z];exact n1) (fun b z=>z.elim (domA b) fun z=>by rw [z,e2];exact nofun) (by rw [oo2'];exact hx)
    .refine k _ H' (.own es) _ qr (f1.trans f2) ⟨a',xs,rfl,fun z=>R1.dom a' z n1,?_,e2,R2,f.keeps (aM.less fun b z=>?_)⟩
     .cases eb:H a' with
     |none=>rfl
     |some o=>exact absurd n1 (f1.dm a' (by rw [eb];exact nofun))
     .rw [<- oo2'];exact z.imp id (f2.ow b)
  |ins c ns es =>
    obtain⟨a',dx,fs,rfl,n1,e2,m,f⟩:=ov
    have hx:=hx a' rfl rfl
    have oo2':OO (eG A a') ρ1 σ=eG (OO A ρ1 σ) a':=funext fun b=>propext ⟨fun z=>by
     rcases z with (z|z)|z
     .exact .inl (.inl z)
     .exact .inr z
     .exact .inl (.inr z),fun z=>by
     rcases z with (z|z)|z
     .exact .inl (.inl z)
     .exact .inr z
     .exact .inl (.inr z)⟩
    obtain⟨R2,f2⟩:=R1.step (A':=eG A a') e1 ow ow' s0 kp ha (fun _ h=>.inl h) (fun b z=>z.imp id fun z=>by rw [z];exact n1) (fun b z=>z.elim (domA b) fun z=>by rw [z,e2];exact nofun) (by rw [oo2'];exact hx)
    .refine k _ H' (.ins c ns es) _ qr (f1.trans f2) ⟨a',dx,fs,rfl,fun z=>R1.dom a' z n1,?_,e2,m,R2,f.keeps (aM.less fun b z=>?_)⟩
     .cases eb:H a' with
     |none=>rfl
     |some o=>exact absurd n1 (f1.dm a' (by rw [eb];exact nofun))
     .rw [<- oo2'];exact z.imp id (f2.ow b)
  .exact q1.elim
 .exact q.elim
def BZ (Q:PV->PV->Prop) (r:PV) (ρ:PSt):Prop:=match ρ[0]? with
|some (some p)=>p.isOwn=true/\Q r p
|_=>False
theorem fnR {c:FR}{N:List Str} (hl:LS K [0] ts ps) (hn:∀p ds Q,c p ds Q->ds.length+1<=N.length) (hc:∀p ds Q,p.isOwn=true->c p ds Q->ps { nx:=BZ Q (.dat .non),rt:=BZ Q } (dX N.length (p::ds.map .dat)))
  {vs:List V}{H:Hp}{Q:VK}{E:XK} (h:spR K c vs H Q E):ts { nx:=fun _ H'=>Q .non H',rt:=Q } (start N vs) H:=by
 obtain⟨A,a,p,ws,ds,Qc,rfl,ow,dom,na,rs,fv,hq,k⟩:=h
 have s0:(start N (V.ref a::ws))[0]?=some (some (.ref a)):=kN rfl
 have b0:(dX N.length (p::ds.map .dat))[0]?=some (some p):=rfl
 have wr:∀b,Wr (dX N.length (p::ds.map .dat)) (start N (.ref a::ws)) b->b=a:=fun b ⟨i,q,e1,o1,s1⟩=>by
  have:=e7 e1
  cases i with
 |zero=>rw [s0] at s1;cases s1;rfl
 |succ i =>
   rw [List.getElem?_cons_succ,List.getElem?_map] at this
   cases e2:ds[i]? with
  |none=>rw [e2] at this;cases this
  |some d=>rw [e2] at this;cases this;cases o1
 have wa:Wr (dX N.length (p::ds.map .dat)) (start N (.ref a::ws)) a:=⟨0,p,b0,ow,s0⟩
 have oeq:OO A (dX N.length (p::ds.map .dat)) (start N (.ref a::ws))=eG A a:=funext fun b=>propext ⟨fun z=>z.imp id (wr b),fun z=>z.imp id fun z=>by rw [z];exact wa⟩
 have lenv:=fv.length
 have hle:=hn p ds Qc hq
 have R0:Rel K A (dX N.length (p::ds.map .dat)) (start N (.ref a::ws)) H:=by
  refine⟨?_,fun i q e=>?_,fun i j q1 q2 v e1 e2 o1 o2 s1 s2=>?_,dom,fun b z w=>?_⟩
  .unfold dX start
   simp only [List.length_append,List.length_map,List.length_replicate,List.length_cons,lenv]
  .have:=e7 e
   rw [oeq]
   cases i with
  |zero=>cases this;exact⟨_,s0,rs⟩
  |succ i =>
    rw [List.getElem?_cons_succ,List.getElem?_map] at this
    cases e2:ds[i]? with
   |none=>rw [e2] at this;cases this
   |some d =>
     rw [e2] at this;cases this
     obtain⟨v,hv,f⟩:=fv.getD e2
     exact⟨v,kN (by rw [List.getElem?_cons_succ];exact hv),f⟩
  .have own0:∀(i:Nat) (q:PV),(dX N.length (p::ds.map .dat))[i]?=some (some q)->q.isOwn=true->i=0:=fun i q e o=>by
    have:=e7 e
    cases i with
   |zero=>rfl
   |succ i =>
     rw [List.getElem?_cons_succ,List.getElem?_map] at this
     cases e2:ds[i]? with
    |none=>rw [e2] at this;cases this
    |some d=>rw [e2] at this;cases this;cases o
   rw [own0 i q1 e1 o1,own0 j q2 e2 o2]
  .rw [wr b w] at z;exact na z
 have fin:∀(v:V) (r:PV) (ρ':PSt) (σ':St) (H':Hp),BZ Qc r ρ'->Out K A ρ' σ' H H' r v->ek [(0,.ref a)] (fun b=>b=a) H ρ' σ' H'->Q v H':=fun v r ρ' σ' H' q o F=>by
  unfold BZ at q
  split at q
  .rename_i p' e'
   obtain⟨ow',q⟩:=q
   have sa:=F.fx (0,.ref a) (List.mem_singleton.mpr rfl)
   have wa':Wr ρ' σ' a:=⟨0,p',e',ow',sa⟩
   have kpa:∀b o,b≠a->H b=some o->H' b=some o:=fun b o n e=>F.kp b o n e
   cases r with
  |dat d =>
    obtain⟨R1,f1⟩:=o
    obtain⟨v1,s1,rs1⟩:=R1.get 0 p' e'
    rw [sa] at s1;cases s1
    have less:∀b,eG A a b->OO A ρ' σ' b:=fun b z=>z.imp id fun z=>by rw [z];exact wa'
    exact k _ p' q ow' v H' kpa (R1.wr wa') (rs1.keeps (aM.less less) fun _ _ _=>rfl) (f1.keeps (aM.less less)) (fun _ _ z=>nomatch z)
  |own es =>
    obtain⟨a',xs,rfl,n1,n2,e3,R1,f1⟩:=o
    obtain⟨v1,s1,rs1⟩:=R1.get 0 p' e'
    rw [sa] at s1;cases s1
    have less:∀b,eG (eG A a) a' b->OO (eG A a') ρ' σ' b:=fun b z=>by
     rcases z with (z|z)|z
     .exact .inl (.inl z)
     .exact .inr (by rw [z];exact wa')
     .exact .inl (.inr z)
    exact k _ p' q ow' _ H' kpa (R1.wr wa') (rs1.keeps (aM.less fun b z=>less b (.inl z)) fun _ _ _=>rfl) ⟨a',xs,rfl,n2,e3,f1.keeps (aM.less less)⟩ (fun a'' e _=>by cases e;exact rs1.keeps (aM.less less) fun _ _ _=>rfl)
  |ins c ns es =>
    obtain⟨a',dx,fs,rfl,n1,n2,e3,m,R1,f1⟩:=o
    obtain⟨v1,s1,rs1⟩:=R1.get 0 p' e'
    rw [sa] at s1;cases s1
    have less:∀b,eG (eG A a) a' b->OO (eG A a') ρ' σ' b:=fun b z=>by
     rcases z with (z|z)|z
     .exact .inl (.inl z)
     .exact .inr (by rw [z];exact wa')
     .exact .inl (.inr z)
    exact k _ p' q ow' _ H' kpa (R1.wr wa') (rs1.keeps (aM.less fun b z=>less b (.inl z)) fun _ _ _=>rfl) ⟨a',dx,fs,rfl,n2,e3,m,f1.keeps (aM.less less)⟩ (fun a'' e _=>by cases e;exact rs1.keeps (aM.less less) fun _ _ _=>rfl)
  .exact q.elim
 refine hl [(0,.ref a)] A (fun b=>b=a) H _ _ H _ _ rfl R0 ⟨fun _ _ _ h=>h,fun _ h=>h,fun b w=>.inl (wr b w),fun q hq=>by rw [List.mem_singleton.mp hq];exact s0⟩ (hc p ds Qc ow hq) (fun ρ' σ' H' q r F=>fin .non (.dat .non) ρ' σ' H' q ⟨r,.non⟩ F) (fun v p ρ' σ' H' q o F=>fin v p ρ' σ' H' q o F) (fun _ _ _ z=>z.elim) (fun _ _ _ z=>z.elim)
end
def FL:FN:=fun as Q=>∃ns:List Int,as=[.scr ns]/\ns.length<=63/\Q (.dat (.bl true))
theorem AT {K:PySem.W.Frag}{vs:List V}{H:Hp}{Q:VK}{E:XK} (h:ub K vs H Q E):spP K FL vs H Q E:=by
 obtain⟨a,ns,rfl,hS,h63,q⟩:=h
 refine⟨fun _=>False,[.scr ns],fun r=>r=.dat (.bl true),nofun,.cons (.scr ?_) .nil,⟨ns,rfl,h63,rfl⟩,fun r e v H' g o=>?_⟩
 .rcases hS with h|h
  .exact .inl ⟨id,h⟩
  .exact .inr h
 .subst e
  cases o
  exact q H'
section
variable {K:PySem.W.Frag}{X:Cx}
def Dq:List V->Hp->VK->Prop:=fun xs H Q=>∃i j,xs=[.int i,.int j]/\Q (.int (if j<i then j else i)) H
theorem zt (hc:X.calm=true):cw X (.builtin "min") Dq:=u5 hc
def yg:FN
|[.int i,.int j],Q=>Q (.dat (.int (if j<i then j else i)))
|_,_=>False
theorem wl:LC K Dq yg:=by
 intro O H xs as Q Q' dom fs q k
 unfold yg at q
 split at q
 .cases fs with
 |cons a b=>cases b with|cons b c=>cases c;rw [a.int,b.int];exact⟨_,_,rfl,k _ H _ q (Gr.refl _) (.int _)⟩
 .exact q.elim
def Dr (K:PySem.W.Frag):List V->Hp->VK->Prop:=fun xs H Q=>∃(p:Addr) (ns:List Int),xs=[.ref p]/\SqL K H p (ns.map V.int)/\0<ns.length/\∀m:Int,m∈ns->(∀a∈ns,m<=a)->Q (.int m) H
def Ds (K:PySem.W.Frag):List V->Hp->VK->Prop:=fun xs H Q=>∃(p:Addr) (ns:List Int),xs=[.ref p]/\SqL K H p (ns.map V.int)/\Q (.int ns.sum) H
def FO (K:PySem.W.Frag):List V->Hp->VK->Prop:=fun xs H Q=>∃(p:Addr) (bs:List Bool),xs=[.ref p]/\SqL K H p (bs.map V.bl)/\Q (.bl (bs.all id)) H
def FP (K:PySem.W.Frag):List V->Hp->VK->Prop:=fun xs H Q=>∃(p:Addr) (bs:List Bool),xs=[.ref p]/\SqL K H p (bs.map V.bl)/\Q (.bl (bs.any id)) H
theorem Dt (K:PySem.W.Frag) (e:X.K=K) (hc:X.calm=true):cw X (.builtin "min") (Dr K):=by subst e;exact vV hc
theorem Du (K:PySem.W.Frag) (e:X.K=K) (hc:X.calm=true):cw X (.builtin "sum") (Ds K):=by subst e;exact pf hc
theorem yh (K:PySem.W.Frag) (e:X.K=K) (hc:X.calm=true):cw X (.builtin "all") (FO K):=by subst e;exact x5 hc
theorem Fa (K:PySem.W.Frag) (e:X.K=K) (hc:X.calm=true):cw X (.builtin "any") (FP K):=by subst e;exact x6 hc
def AU:FN
|[.lst ds],Q=>∃ns:List Int,ds=ns.map .int/\0<ns.length/\∀m:Int,m∈ns->(∀a∈ns,m<=a)->Q (.dat (.int m))
|_,_=>False
def AW:FN
|[.lst ds],Q=>∃ns:List Int,ds=ns.map .int/\Q (.dat (.int ns.sum))
|_,_=>False
def B0:FN
|[.lst ds],Q=>∃bs:List Bool,ds=bs.map .bl/\Q (.dat (.bl (bs.all id)))
|_,_=>False
def Fb:FN
|[.lst ds],Q=>∃bs:List Bool,ds=bs.map .bl/\Q (.dat (.bl (bs.any id)))
|_,_=>False
theorem AX:LC K (Dr K) AU:=by
 intro O H xs as Q Q' dom fs q k
 unfold AU at q
 split at q
 .obtain⟨ns,rfl,h0,q⟩:=q
  cases fs with
 |cons a b =>
   cases b
   obtain⟨p,ys,rfl,e1,f1⟩:=a.lst
   rw [f1.ints] at e1
   exact⟨p,ns,rfl,SqL.of e1,h0,fun m hm hle=>k _ H _ (q m hm hle) (Gr.refl _) (.int _)⟩
 .exact q.elim
theorem AY:LC K (Ds K) AW:=by
 intro O H xs as Q Q' dom fs q k
 unfold AW at q
 split at q
 .obtain⟨ns,rfl,q⟩:=q
  cases fs with
 |cons a b =>
   cases b
   obtain⟨p,ys,rfl,e1,f1⟩:=a.lst
   rw [f1.ints] at e1
   exact⟨p,ns,rfl,SqL.of e1,k _ H _ q (Gr.refl _) (.int _)⟩
 .exact q.elim
theorem sF:LC K (FO K) B0:=by
 intro O H xs as Q Q' dom fs q k
 unfold B0 at q
 split at q
 .obtain⟨ns,rfl,q⟩:=q
  cases fs with
 |cons a b =>
   cases b
   obtain⟨p,ys,rfl,e1,f1⟩:=a.lst
   rw [f1.bls] at e1
   exact⟨p,ns,rfl,SqL.of e1,k _ H _ q (Gr.refl _) (.bl _)⟩
 .exact q.elim
theorem Dv:LC K (FP K) Fb:=by
 intro O H xs as Q Q' dom fs q k
 unfold Fb at q
 split at q
 .obtain⟨ns,rfl,q⟩:=q
  cases fs with
 |cons a b =>
   cases b
   obtain⟨p,ys,rfl,e1,f1⟩:=a.lst
   rw [f1.bls] at e1
   exact⟨p,ns,rfl,SqL.of e1,k _ H _ q (Gr.refl _) (.bl _)⟩
 .exact q.elim
def yi (K:PySem.W.Frag):List V->Hp->VK->Prop:=fun xs H Q=>∃p ys,xs=[.ref p]/\((SqL K H p ys/\∀l,H l=none->Q (.ref l) (upd H l (.tup ys)))\/(SqT K H p ys/\Q (.ref p) H))
theorem gv (K:PySem.W.Frag) (e:X.K=K):cw X (.type "tuple") (yi K):=by subst e;exact m9
theorem sG (K:PySem.W.Frag) (e:X.K=K):cw X (.type "list") (gk K):=by subst e;exact oQ
def hJ:FN
|[.lst ds],Q=>Q (.dat (.tup ds))
|[.tup ds],Q=>Q (.dat (.tup ds))
|[.scr ns],Q=>Q (.dat (.tup (ns.map .int)))
|_,_=>False
def wm:FN
|[.lst ds],Q=>Q (.own ds)
|[.tup ds],Q=>Q (.own ds)
|[.scr ns],Q=>Q (.own (ns.map .int))
|_,_=>False
theorem eI:LC K (yi K) hJ:=by
 intro O H xs as Q Q' dom fs q k
 unfold hJ at q
 split at q
 .cases fs with
 |cons a b =>
   cases b
   obtain⟨p,ys,rfl,e1,f1⟩:=a.lst
   exact⟨p,ys,rfl,.inl ⟨SqL.of e1,fun l hl=>k _ _ _ q (Gr.new hl) (kM dom hl f1)⟩⟩
 .cases fs with
 |cons a b =>
   cases b
   obtain⟨p,ys,rfl,n1,e1,f1⟩:=a.tup
   exact⟨p,ys,rfl,.inr ⟨SqT.of e1,k _ H _ q (Gr.refl _) (.tup n1 e1 f1)⟩⟩
 .cases fs with
 |cons a b =>
   cases b
   obtain⟨p,rfl,e1⟩:=a.scr
   exact⟨p,_,rfl,.inl ⟨e1,fun l hl=>k _ _ _ q (Gr.new hl) (kM dom hl (FVs.of_ints _))⟩⟩
 .exact q.elim
theorem qS:LC K (gk K) wm:=by
 intro O H xs as Q Q' dom fs q k
 unfold wm at q
 split at q
 .cases fs with
 |cons a b =>
   cases b
   obtain⟨p,ys,rfl,e1,f1⟩:=a.lst
   exact⟨p,ys,rfl,.inl (SqL.of e1),fun l hl=>k _ _ _ q (Gr.new hl) (eX hl f1)⟩
 .cases fs with
 |cons a b =>
   cases b
   obtain⟨p,ys,rfl,n1,e1,f1⟩:=a.tup
   exact⟨p,ys,rfl,.inr (SqT.of e1),fun l hl=>k _ _ _ q (Gr.new hl) (eX hl f1)⟩
 .cases fs with
 |cons a b =>
   cases b
   obtain⟨p,rfl,e1⟩:=a.scr
   exact⟨p,_,rfl,.inl e1,fun l hl=>k _ _ _ q (Gr.new hl) (eX hl (FVs.of_ints _))⟩
 .exact q.elim
variable {ta:TE}{pa:PA1}{tr:TA}{pr:PTA}{pe:PTE}
def oB (i:Int) (n:Nat):List D:=(List.range n).map fun (k:Nat)=>D.int (i+(k:Int))
def mkL (tup:Bool) (ds:List D):PV:=match tup with|true=>.dat (.tup ds)|false=>.own ds
def yj (tup:Bool) (pr:PTA):PTE:=fun ρ Q=>pr ρ fun as ρ1=>match as with
|[.v (.int j)]=>(0<=j/\j<=1000000)/\Q (mkL tup (oB 0 j.toNat)) ρ1
|_=>False
theorem Dw {O:Addr->Prop}{H:Hp} (i:Int) (n:Nat):FVs K O H (qK i 1 n) (oB i n):=by
 have e:∀l:List Nat,FVs K O H (l.map fun (k:Nat)=>V.int (i+k*1)) (l.map fun (k:Nat)=>D.int (i+(k:Int))):=fun l=>by
  induction l with
 |nil=>exact .nil
 |cons a r ih=>exact .cons (by show FV K O H (V.int (i+(a:Int)*1)) (D.int (i+(a:Int)));rw [show i+(a:Int)*1=i+(a:Int) by omega];exact .int _) ih
 exact e _
theorem mH {i j:Int} (h:i<=j):Builtin.Range.rangeSize i j 1=(((j - i).toNat:Nat):Int):=by
 unfold Builtin.Range.rangeSize
 rw [if_pos (by decide)]
 simp only [Int.ediv_one]
 split <;> omega
theorem ui {i j:Int} (h0:-1000000<=i) (h1:i<=j) (h2:j<=1000000):Builtin.Range.small i j 1=true:=by
 unfold Builtin.Range.small
 rw [mH h1]
 simp only [Builtin.Range.rangeFitsLong,Bool.and_eq_true,Bool.or_eq_true,decide_eq_true_eq,beq_iff_eq,show (1:Int) > 0 by decide,if_true]
 omega
def mkO (tup:Bool):List V->HO:=match tup with|true=>.tup|false=>.lst
theorem Dx {O:Addr->Prop}{H:Hp}{xs:List V}{ds:List D}{p:Addr} (tup:Bool) (dom:∀b,O b->H b≠none) (hp:H p=none) (f:FVs K O H xs ds):qA K O H (upd H p (mkO tup xs)) (mkL tup ds) (.ref p):=by
 cases tup with
|true=>exact kM dom hp f
|false=>exact eX hp f
theorem nB (tup:Bool) (h:LAs K tr pr):LE K (tCB (EL K (mkO tup)) (aW (fun σ H Q=>tr σ H fun vs H1=>∃j:Int,vs=[.int j]/\∀p,H1 p=none->Q (.ref p) (upd H1 p (zm p 0 j 1))) dC)) (yj tup pr):=fun A ρ σ H Q Q' R q k=>h A ρ σ H _ _ R q fun vs H1 as ρ1 q1 f1 R1 o1=>by
 split at q1
 .rename_i j
  cases o1 with
 |cons a b =>
   cases b
   cases a
   refine⟨j,rfl,fun p hp=>⟨p,0,j,1,j.toNat,rfl,aL,ui (by decide) q1.1.1 q1.1.2,by rw [mH q1.1.1,Int.sub_zero],by omega,fun l hl=>?_⟩⟩
   have g:Gr H1 (upd H1 p (zm p 0 j 1)):=Gr.new hp
   have R2:=R1.gr g
   have g2:Gr (upd H1 p (zm p 0 j 1)) (upd (upd H1 p (zm p 0 j 1)) l (mkO tup (qK 0 1 j.toNat))):=Gr.new hl
   exact k _ _ _ ρ1 q1.2 (f1.trans (g.fr.trans g2.fr)) ((qA.out R2 g2 (Dx tup R2.dom2 hl (Dw 0 _))).h0 fun b z=>(g.fr (ρ:=ρ1) (σ:=σ)).dm b (f1.dm b z))
 .exact q1.elim
theorem wn (K:PySem.W.Frag) (e:X.K=K) (hc:X.calm=true):cw X (.type "list") (EL K (mkO false)):=by subst e;exact ud hc
def sH (pa:PA1):PTE:=fun ρ Q=>pa ρ fun x ρ1=>match cont ρ1 x with
|some (.lst ds)=>Q (.own ds.reverse) ρ1
|_=>False
def sI (K:PySem.W.Frag) (te:TE):TE:=fun σ H Q=>te σ H fun x H1=>∃a xs,x=.ref a/\SqL K H1 a xs/\∀l,H1 l=none->Q (.ref l) (upd H1 l (.lst xs.reverse))
theorem qT {e:Expr}{te:TE}{p p1 p2 pos:Pos} (K:PySem.W.Frag) (eK:X.K=K) (hc:X.calm=true) (he:PE X e te) (hg1:Gl X "list") (hm1:X.mg "list"=none) (hg2:Gl X "reversed") (hm2:X.mg "reversed"=none)
  (hs:starEach [.Call (.Name "reversed" p1) [e] [] p2] X.env=[(false,eval (.Call (.Name "reversed" p1) [e] [] p2) X.env)]:=by rfl) (hs2:starEach [e] X.env=[(false,eval e X.env)]:=by rfl) :
  PE X (.Call (.Name "list" p) [.Call (.Name "reversed" p1) [e] [] p2] [] pos) (sI K te):=by subst eK;exact uf hc he hg1 hm1 hg2 hm2 hs hs2
theorem uj (h:LA1 K ta pa):LE K (sI K ta) (sH pa):=fun A ρ σ H Q Q' R q k=>h A ρ σ H _ _ R q fun v H1 a ρ1 q1 f1 R1 o1=>by
 split at q1
 .rename_i ds e
  obtain⟨p,xs,rfl,e1,fs⟩:=(R1.cont o1 e).lst
  refine⟨p,xs,rfl,SqL.of e1,fun l hl=>?_⟩
  have g:Gr H1 (upd H1 l (.lst xs.reverse)):=Gr.new hl
  exact k _ _ _ ρ1 q1 (f1.trans g.fr) ((qA.out (p:=.own ds.reverse) R1 g (eX hl fs.reverse)).h0 f1.dm)
 .exact q1.elim
abbrev FM:=List Nat->List D->(PV->Prop)->Prop
def LM (K:PySem.W.Frag) (r:V->List V->Hp->VK->Prop) (f:FM):Prop:=∀(O:Addr->Prop) (H:Hp) (l:List Nat) (xs:List V) (as:List D) (Q:PV->Prop) (Q':VK),(∀b,O b->H b≠none)->l.length<=1000000->BX K O H xs as->f l as Q ->
 (∀v H' p,Q p->Gr H H'->qA K O H H' p v->Q' v H')->r (.str (S l)) xs H Q'
def pSM (f:FM) (pe:PTE) (pr:PTA):PTE:=fun ρ Q=>pe ρ fun p ρ1=>match p with
|.dat (.str l)=>pr ρ1 fun as ρ2=>(match conts ρ2 as with
 |some ds=>f l ds fun r=>Q r ρ2
 |none=>False)
|_=>False
theorem Dy {r:V->List V->Hp->VK->Prop}{f:FM} (o:LM K r f) (he:LE K ta pe) (hr:LAs K tr pr):LE K (tBM K "str" r ta tr) (pSM f pe pr):=fun A ρ σ H Q Q' R q k=>he A ρ σ H _ _ R q fun v H1 p ρ1 q1 f1 o1=>by
 split at q1
 .rename_i l
  obtain⟨R1,fv⟩:=o1
  cases fv with
 |str _ hl =>
   refine⟨rfl,hr A ρ1 σ H1 _ _ R1 q1 fun vs H2 as ρ2 q2 f2 R2 o2=>?_⟩
   split at q2
   .rename_i ds e
    exact o _ H2 l vs ds _ _ R2.dom2 hl (R2.conts o2 e) q2 fun z H3 p q3 g ov=>k z H3 p ρ2 q3 ((f1.trans f2).trans g.fr) ((ov.out R2 g).h0 fun b z=>f2.dm b (f1.dm b z))
   .exact q2.elim
 .exact q1.elim
def Dz:V->List V->Hp->VK->Prop:=fun x xs H Q=>∃a b,x=.str (S a)/\xs=[.str (S b)]/\Q (.bl (decide (b <:+ a))) H
def zu:V->List V->Hp->VK->Prop:=fun x xs H Q=>∃a b,x=.str (S a)/\xs=[.str (S b)]/\Q (.int (fnd a b 0)) H
theorem AZ:MtR X "str.endswith" Dz:=qI
theorem yk:MtR X "str.find" zu:=xZ
def A0:FM
|a,[.str b],Q=>Q (.dat (.bl (decide (b <:+ a))))
|_,_,_=>False
def wo:FM
|a,[.str b],Q=>Q (.dat (.int (fnd a b 0)))
|_,_,_=>False
theorem A1:LM K Dz A0:=by
 intro O H l xs as Q Q' dom hl fs q k
 unfold A0 at q
 split at q
 .cases fs with|cons a b=>cases b;rw [a.str.1];exact⟨_,_,rfl,rfl,k _ H _ q (Gr.refl _) (.bl _)⟩
 .exact q.elim
theorem yl:LM K zu wo:=by
 intro O H l xs as Q Q' dom hl fs q k
 unfold wo at q
 split at q
 .cases fs with|cons a b=>cases b;rw [a.str.1];exact⟨_,_,rfl,rfl,k _ H _ q (Gr.refl _) (.int _)⟩
 .exact q.elim
def eJ (f:Str):List Str->Option Nat
|[]=>none
|n::r=>if n=f then some 0 else (eJ f r).map (·+1)
theorem pH {f:Str}:∀{fs:List (Str×V)}{k:Nat},eJ f (fs.map Prod.fst)=some k->fs.lookup f=(fs.map Prod.snd)[k]?
|[],k,h=>by cases h
 | (n,v)::r,k,h=>by
  unfold eJ at h
  rw [List.map_cons] at h
  simp only at h
  rw [List.lookup_cons]
  by_cases e:n=f
  .rw [if_pos e] at h;cases h
   rw [show (f == n)=true by rw [e];exact beq_self_eq_true _];rfl
  .rw [if_neg e] at h
   rw [show (f == n)=false from beq_eq_false_iff_ne.mpr fun z=>e z.symm]
   cases e2:eJ f (r.map Prod.fst) with
  |none=>rw [e2] at h;cases h
  |some j=>rw [e2] at h;cases h;show List.lookup f r=_;rw [pH e2];simp
theorem kO {f:Str}:∀{fs:List (Str×V)},eJ f (fs.map Prod.fst)=none->fs.lookup f=none
|[],h=>rfl
 | (n,v)::r,h=>by
  unfold eJ at h
  rw [List.map_cons] at h
  simp only at h
  rw [List.lookup_cons]
  by_cases e:n=f
  .rw [if_pos e] at h;cases h
  .rw [if_neg e] at h
   rw [show (f == n)=false from beq_eq_false_iff_ne.mpr fun z=>e z.symm]
   cases e2:eJ f (r.map Prod.fst) with
  |none=>exact kO e2
  |some j=>rw [e2] at h;cases h
theorem nC {f:Str}{v:V}:∀{fs:List (Str×V)},eJ f (fs.map Prod.fst)=none->my f v fs=fs++[(f,v)]
|[],h=>rfl
 | (n,x)::r,h=>by
  unfold eJ at h
  rw [List.map_cons] at h
  simp only at h
  by_cases e:n=f
  .rw [if_pos e] at h;cases h
  .rw [if_neg e] at h
   cases e2:eJ f (r.map Prod.fst) with
  |none=>unfold my;rw [if_neg e,nC e2];rfl
  |some j=>rw [e2] at h;cases h
theorem FVc.obj {O:Addr->Prop}{H:Hp}{v:V}{c:Str}{ns:List Str}{ds:List D} (h:FVc K O H v (.obj c ns ds)):∃a dx fs,v=.ref a/\H a=some (.ins (cC K c) dx fs)/\fs.map Prod.fst=ns/\FVs K O H (fs.map Prod.snd) ds:=by
 rcases h with h|⟨a,xs,ds',e1,e2,e3,f⟩|⟨a,dx,c,fs,ns,ds',e1,e2,e3,m,f⟩
 .cases h with
 |obj n e m f=>exact⟨_,_,_,rfl,e,m,f⟩
 .cases e2
 .cases e2;exact⟨a,dx,fs,e1,e3,m,f⟩
def uk (c0:Str) (ns0:List Str) (k:Nat) (pa:PA1):PTE:=fun ρ Q=>pa ρ fun x ρ1=>match cont ρ1 x with
|some (.obj c ns ds)=>(c=c0/\ns=ns0)/\∃d,ds[k]?=some d/\Q (.dat d) ρ1
|_=>False
theorem fW {c0 f:Str}{ns0:List Str}{i:Nat} (hc:Cls K (cC K c0)) (hn:eE K (cC K c0) f) (hk:eJ f ns0=some i) (h:LA1 K ta pa):LE K (u8 K ta f) (uk c0 ns0 i pa):=fun A ρ σ H Q Q' R q k=>h A ρ σ H _ _ R q fun v H1 a ρ1 q1 f1 R1 o1=>by
 split at q1
 .rename_i c ns ds e
  obtain⟨⟨rfl,rfl⟩,d,hd,q1⟩:=q1
  obtain⟨a,dx,fs,rfl,e1,m,f⟩:=(R1.cont o1 e).obj
  obtain⟨v,hv,fv⟩:=f.getD hd
  exact⟨a,_,dx,fs,v,rfl,e1,hc,hn,by rw [pH (k:=i) (by rw [m];exact hk)];exact hv,k v H1 _ ρ1 q1 f1 ⟨R1,fv⟩⟩
 .exact q1.elim
def kP (c0:Str) (ns0:List Str) (f:Str) (i:Nat) (pe:PTE):PTS:=fun D ρ=>pe ρ fun p ρ1=>match ρ1[i]? with
|some (some (.ins c ns ds))=>(c=c0/\ns=ns0/\ns0.length<1000)/\D.nx (ρ1.set i (some (.ins c0 (ns0++[f]) (ds++[p.d]))))
|_=>False
theorem jf {fs':List Nat}{c0 f:Str}{ns0:List Str}{i:Nat} (hc:Cls K (cC K c0)) (hn:eE K (cC K c0) f) (hk:eJ f ns0=none) (h:LE K ta pe):LS K fs' (Fy K (a9 i) ta f) (kP c0 ns0 f i pe):=fun fx A R H0 ρ σ H D D' hf r F q k1 k2 k3 k4=>h A ρ σ H _ _ r q fun v H1 p ρ1 q1 f1 o1=>by
 obtain⟨R1,fv⟩:=o1.frz
 split at q1
 .rename_i c ns ds e
  obtain⟨⟨rfl,rfl,hl⟩,q1⟩:=q1
  obtain⟨w,s,a,dx,fs,rfl,g,m,ff⟩:=R1.get i _ e
  have hk':eJ f (fs.map Prod.fst)=none:=by rw [m];exact hk
  have wa:OO A ρ1 σ a:=.inr ⟨i,_,e,rfl,s⟩
  have kw:∀o,aM (OO A ρ1 σ) H1 (OO A ρ1 σ) (upd H1 a o):=fun o b u n h=>⟨n,by rw [aB (fun z=>n (by rw [z];exact wa))];exact h⟩
  obtain⟨R2,f2⟩:=R1.write (o:=.ins (cC K c) dx (my f v fs)) (q:=.ins c (ns++[f]) (ds++[p.d])) e rfl rfl s ⟨a,dx,my f v fs,rfl,aL,by rw [nC hk',List.map_append,m];rfl,by rw [nC hk',List.map_append];exact (ff.append (.cons fv .nil)).keeps (kw _)⟩
  refine⟨_,s,a,_,dx,fs,rfl,g,hc,hn,?_,k1 _ _ _ q1 R2 ((F.fr f1).fr f2)⟩
  have:fs.length=ns.length:=by rw [<- m,List.length_map]
  omega
 .exact q1.elim
def A2 (c0:Str) (c:FR) (pr:PTA):PTE:=fun ρ Q=>pr ρ fun as ρ1=>match avD as with
|some ds=>c (.ins c0 [] []) ds fun r p'=>(match r,p' with
 |.dat .non,.ins c1 ns es=>c1=c0/\Q (.ins c1 ns es) ρ1
 |_,_=>False)
|none=>False
theorem wp {c0:Str}{c:FR} (h:LAs K tr pr):LE K (xL (cC K c0) (spR K c) [] E0 tr) (A2 c0 c pr):=fun A ρ σ H Q Q' R q k=>h A ρ σ H _ _ R q fun vs H1 as ρ1 q1 f1 R1 o1=>by
 split at q1
 .rename_i ds e
  intro x dx hx hdx hne
  rw [List.append_nil]
  let H2:=upd (upd H1 dx (.own x)) x (.ins (cC K c0) dx [])
  have g2:Gr H1 H2:=fun b o z=>by
   show upd (upd H1 dx (.own x)) x _ b=_
   rw [aB (bi z hx),aB (bi z hdx)];exact z
  have nx:¬ OO A ρ1 σ x:=R1.oo hx
  have keep2:aM (OO A ρ1 σ) H1 (eG (OO A ρ1 σ) x) H2:=fun b o n z=>by
   refine⟨fun y=>?_,g2 b o z⟩
   rcases y with y|y
   .exact n y
   .rw [y,hx] at z;cases z
  refine⟨OO A ρ1 σ,x,.ins c0 [] [],vs,ds,_,rfl,rfl,fun b z=>(g2.fr (ρ:=ρ1) (σ:=σ)).dm b (R1.dom2 b z),nx,⟨x,dx,[],rfl,aL,rfl,.nil⟩,(o1.avD e).keeps keep2,q1,fun r p' qr ow' v H' kp ha rs ov _=>?_⟩
  split at qr
  .obtain⟨rfl,qr⟩:=qr
   cases ov
   refine⟨rfl,?_⟩
   obtain⟨a',dx',fs,ea,e2,m,f⟩:=rs
   cases ea
   have g:Gr H1 H':=fun b o z=>kp b o (bi z hx) (g2 b o z)
   have hx0:H x=none:=by
    cases eb:H x with
   |none=>rfl
   |some o=>exact absurd hx (f1.dm x (by rw [eb];exact nofun))
   refine k _ H' _ ρ1 qr (f1.trans g.fr) ⟨x,dx',fs,rfl,fun z=>nx (.inl z),hx0,e2,m,R1.grA g hx (by rw [e2];exact nofun),f.keeps (aM.less fun b z=>?_)⟩
   rcases z with (z|z)|z
   .exact .inl (.inl z)
   .exact .inr z
   .exact .inl (.inr z)
  .exact qr.elim
 .exact q1.elim
def wq (c0:Str) (ns0:List Str) (c:FN) (pe:PTE) (pr:PTA):PTE:=fun ρ Q=>pe ρ fun p ρ1=>match p.d with
|.obj c1 ns ds=>(c1=c0/\ns=ns0)/\pr ρ1 fun as ρ2=>(match avD as with
 |some es=>c (.obj c1 ns ds::es) fun r=>Q r ρ2
 |none=>False)
|_=>False
theorem sJ {c0 m:Str}{ns0:List Str}{c:FN} (hm:eJ m ns0=none) (he:LE K ta pe) (hr:LAs K tr pr):LE K (Aj (cC K c0) m (spP K c) [] E0 ta tr) (wq c0 ns0 c pe pr):=fun A ρ σ H Q Q' R q k=>he A ρ σ H _ _ R q fun v H1 p ρ1 q1 f1 o1=>by
 obtain⟨R1,fv⟩:=o1.frz
 split at q1
 .rename_i c1 ns ds e
  rw [e] at fv
  obtain⟨⟨rfl,rfl⟩,q1⟩:=q1
  obtain⟨a,dx,fs,rfl,e1,mm,f⟩:=FVc.obj (.inl fv)
  refine⟨a,dx,fs,rfl,e1,kO (by rw [mm];exact hm),hr A ρ1 σ H1 _ _ R1 q1 fun vs H2 as ρ2 q2 f2 R2 o2=>?_⟩
  split at q2
  .rename_i es e3
   rw [List.append_nil]
   exact⟨OO A ρ2 σ,_::es,_,R2.dom2,.cons (fv.keeps f2.keeps) (o2.avD e3),q2,fun r qr v H' g ov=>k v H' r ρ2 qr ((f1.trans f2).trans g.fr) ((ov.out R2 g).h0 fun b z=>f2.dm b (f1.dm b z))⟩
  .exact q2.elim
 .exact q1.elim
end
abbrev Fc:R2:=rI0 fun i j=>.int (i - j)
abbrev ym:R2:=rI (fun _ j=>0<j) fun i j=>.int (i % j)
abbrev Fd:R2:=rI Ey fun i j=>.int (i / j)
abbrev Fe:R2:=rI Cj fun i j=>.int (i^j.toNat)
abbrev Ff:R2:=rI0 fun i j=>.bl (decide (j<i))
abbrev Go:R2:=rI0 fun i j=>.bl (decide (j<=i))
abbrev A3:V->Hp->VK->Prop:=rU fun i=>.int (-i)
abbrev yn:F2:=fI0 fun i j=>.int (i - j)
abbrev eM:F2:=fI (fun _ j=>0<j) fun i j=>.int (i % j)
abbrev A4:F2:=fI (fun _ j=>0<j/\j<1073741824) fun i j=>.int (i / j)
abbrev Ep:F2:=fI (fun i j=>0<=j/\j<=1000000/\i.natAbs<2^64) fun i j=>.int (i^j.toNat)
abbrev fGt:F2:=fI0 fun i j=>.bl (decide (j<i))
abbrev fGe:F2:=fI0 fun i j=>.bl (decide (j<=i))
def ul:D->(PV->Prop)->Prop
|.int i,Q=>Q (.dat (.int (-i)))
|_,_=>False
section
variable {K:PySem.W.Frag}{X:Cx}{ta:TE}{tr:TA}{pr:PTA}{ts:TS}{ps:PTS}
theorem nE:OpR X (binaryOp .Sub) Fc:=Cm
theorem b9:OpR X (binaryOp .Mod) ym:=Co
theorem kQ:OpR X (binaryOp .FloorDiv) Fd:=z0
theorem yo:OpR X (binaryOp .Pow) Fe:=Cq
theorem zv:OpR X (compareOp .Gt) Ff:=ED
theorem FQ:OpR X (compareOp .GtE) Go:=EE
theorem gw:LU K A3 ul:=by
 intro O H x a Q Q' dom fx q k
 unfold ul at q
 split at q
 .rename_i i;exact⟨i,fx.int,k _ H _ q (Gr.refl _) (.int _)⟩
 .exact q.elim
theorem sK {es:List Expr}{ct:Nat}{tp:Pos} (K:PySem.W.Frag) (e:X.K=K) {a:Expr}{ta:TA}{p pos:Pos} (hg:Gl X "enumerate") (hm:X.mg "enumerate"=none) (ha:PA X [a] ta) (hs:starEach [a] X.env=[(false,eval a X.env)]:=by rfl) :
  PI X (.Tuple es ct tp) (.Call (.Name "enumerate" p) [a] [] pos) (AE K ta):=by subst e;exact AF hg hm ha hs
theorem gL {ix:List (Option Nat)}{fs:List Nat}{i:Nat} (h:∀k∈fs,k∈wk ix) (hi:(wk ix).contains i=false):fs.contains i=false:=by
 cases e:fs.contains i with
|false=>rfl
|true =>
  have:=h i (List.contains_iff_mem.mp e)
  rw [List.contains_iff_mem.mpr this] at hi;cases hi
theorem lP (t:Value) (b c:Bool) (h1:PySem.W.kitOne K t (.type "list")=some b) (h2:PySem.W.kitOne K t (.type "tuple")=some c):PySem.W.kitAny K t [.type "list",.type "tuple"]=some (b || c):=by
 simp only [PySem.W.kitAny,h1,h2]
 cases b <;> cases c <;> rfl
def zw (c:FN) (es:List D) (pr:PTA):PTE:=fun ρ Q=>pr ρ fun as ρ1=>match avD as with
|some ds=>c (ds++es) fun r=>Q r ρ1
|none=>False
theorem yp {c:FN}{vs0:List V}{ds:List D} (hd:∀{O:Addr->Prop}{H:Hp},FVs K O H vs0 ds) (h:LAs K tr pr):LE K (eB (spP K c) vs0 E0 tr) (zw c ds pr):=fun A ρ σ H Q Q' R q k=>h A ρ σ H _ _ R q fun vs H1 as ρ1 q1 f1 R1 o1=>by
 split at q1
 .rename_i es e
  exact⟨OO A ρ1 σ,_,_,R1.dom2,(o1.avD e).append hd,q1,fun r qr v H' g ov=>k v H' r ρ1 qr (f1.trans g.fr) ((ov.out R1 g).h0 f1.dm)⟩
 .exact q1.elim
theorem j2 {c:FN}{n:Nat} (hn:∀ds Q,c ds Q->ds.length=n) {vs:List V}{H:Hp}{Q:VK}{E:XK} (h:spP K c vs H Q E):vs.length=n:=by
 obtain⟨O,ds,Qc,_,f,hq,_⟩:=h
 rw [f.length];exact hn ds Qc hq
theorem xC {c:FR}{n:Nat} (hn:∀p ds Q,c p ds Q->ds.length+1=n) {vs:List V}{H:Hp}{Q:VK}{E:XK} (h:spR K c vs H Q E):vs.length=n:=by
 obtain⟨A,a,p,ws,ds,Qc,rfl,_,_,_,_,f,hq,_⟩:=h
 rw [List.length_cons,f.length];exact hn p ds Qc hq
abbrev dY (pp:PTS) (n:Nat) (ds:List D) (Q:PV->Prop):Prop:=pp { nx:=fun _=>Q (.dat .non),rt:=fun p _=>Q p } (dX n (ds.map .dat))
abbrev mI (pp:PTS) (n:Nat) (p:PV) (ds:List D) (Q:PV->PV->Prop):Prop:=pp { nx:=BZ Q (.dat .non),rt:=BZ Q } (dX n (p::ds.map .dat))
end
end L2
namespace L2
theorem Cal.imp {P:PySem.Program}{w:PySem.World}{K:PySem.W.Frag}{mg:PySem.Str->Option PySem.Value}{base:PySem.Heap}{k:Nat}{x:PySem.Str}{ps:List PySem.Str}{sp sp':Sp} (C:Cal P w K mg base k x ps sp) (h:∀vs H Q E,sp' vs H Q E->sp vs H Q E):Cal P w K mg base k x ps sp':=by
 obtain⟨f,fd,F,r⟩:=C.ex
 exact⟨f,fd,F.imp h,r⟩
end L2
namespace L2
open PySem PySem.Spec PyProof.Rows
theorem cfm {ix:List (Option Nat)}{ρ1:PSt}{n:Nat}{it:Nat->D}{g:PTG}{pt:PTT}{pe:PTE}{Q:PKt} (T:PSt->Prop) (f:Nat->Option D) (h0:T (bX ix ρ1))
  (hs:∀k τ d,k<n->d=it k->T τ->∀(K1:D->PSt->Prop) (K2:PSt->Prop),(∀d τ',f k=some d->T τ'->K1 d τ')->(∀τ',f k=none->T τ'->K2 τ')->g (.dat d) τ fun τ2=>pt τ2 fun ok τ3=>fU ok (pe τ3 fun p τ4=>K1 p.d τ4) (K2 τ3))
  (hq:∀τ,T τ->Q (.own ((List.range n).filterMap f)) (eC ix ρ1 τ)) :
  lO ix ρ1 n it g pt pe Q:=by
 refine⟨fun k ys τ=>ys=(List.range k).filterMap f/\T τ,⟨rfl,h0⟩,fun k ys τ dd hk ed ⟨e,t⟩=>?_,fun ys τ ⟨e,t⟩=>by rw [e];exact hq τ t⟩
 have r:(List.range (k+1)).filterMap f=(List.range k).filterMap f++(f k).toList:=by
  rw [List.range_succ,List.filterMap_append]
  cases e:f k with
 |none=>rw [show [k].filterMap f=[] by simp [e]];rfl
 |some d=>rw [show [k].filterMap f=[d] by simp [e]];rfl
 refine hs k τ dd hk ed t (fun d τ'=>(ys++[d]=(List.range (k+1)).filterMap f/\T τ')) (fun τ'=>(ys=(List.range (k+1)).filterMap f/\T τ')) (fun d τ' h t'=>⟨?_,t'⟩) (fun τ' h t'=>⟨?_,t'⟩)
 .rw [r,e,h];rfl
 .rw [r,e,h];simp
theorem uP {ix:List (Option Nat)}{ρ1:PSt}{n:Nat}{it:Nat->D}{g:PTG}{pe:PTE}{Q:PKt} (T:PSt->Prop) (f:Nat->D) (h0:T (bX ix ρ1))
  (hs:∀k τ d,k<n->d=it k->T τ->∀K1:D->PSt->Prop,(∀τ',T τ'->K1 (f k) τ')->g (.dat d) τ fun τ2=>pe τ2 fun p τ4=>K1 p.d τ4)
  (hq:∀τ,T τ->Q (.own ((List.range n).map f)) (eC ix ρ1 τ)) :
  lO ix ρ1 n it g iH pe Q:=by
 refine cfm T (fun k=>some (f k)) h0 (fun k τ d hk ed t K1 K2 k1 k2=>?_) fun τ t=>?_
 .exact hs k τ d hk ed t K1 fun τ' t'=>k1 _ τ' rfl t'
 .have:(List.range n).filterMap (fun k=>some (f k))=(List.range n).map f:=by rw [<- List.filterMap_eq_map];rfl
  rw [this];exact hq τ t
theorem kR {β:Type} (f:D->β) (ds:List D):(List.range ds.length).map (fun k=>f (itD ds k))=ds.map f:=by
 apply List.ext_getElem?
 intro i
 rw [List.getElem?_map,List.getElem?_map]
 by_cases h:i<ds.length
 .rw [List.getElem?_range h,wf h];rfl
 .rw [List.getElem?_eq_none (by rw [List.length_range];omega),List.getElem?_eq_none (by omega)];rfl
theorem fC {β:Type} (f:Nat->β) (l:List Nat):(List.range l.length).map (fun k=>f (l.getD k 0))=l.map f:=by
 apply List.ext_getElem?
 intro i
 rw [List.getElem?_map,List.getElem?_map]
 by_cases h:i<l.length
 .rw [List.getElem?_range h]
  show some (f (l.getD i 0))=_
  rw [List.getD_eq_getElem?_getD,List.getElem?_eq_getElem h];rfl
 .rw [List.getElem?_eq_none (by rw [List.length_range];omega),List.getElem?_eq_none (by omega)];rfl
def pw (ws:List (List Nat)) (k:Nat):List Nat:=ws.getD k []
theorem hU {ws:List (List Nat)}{k:Nat} (h:k<ws.length):ws[k]?=some (pw ws k):=by unfold pw;rw [List.getD_eq_getElem?_getD,List.getElem?_eq_getElem h];rfl
theorem hV {ws:List (List Nat)}{k:Nat} (h:k<ws.length):pw ws k∈ws:=List.mem_of_getElem? (hU h)
theorem gx {ws:List (List Nat)}{k:Nat} (h:k<(ws.map D.str).length):itD (ws.map D.str) k=.str (pw ws k):=fV (by rw [List.getElem?_map,hU (by rwa [List.length_map] at h)];rfl)
theorem A5 {ns:List Int}{k:Nat} (h:k<(ns.map D.int).length):itD (ns.map D.int) k=.int (ns.getD k 0):=fV (by
 have h:k<ns.length:=by rwa [List.length_map] at h
 rw [List.getElem?_map,List.getD_eq_getElem?_getD,List.getElem?_eq_getElem h];rfl)
theorem gy {ws:List (List Nat)}{i:Int}{k:Nat} (h:k<ws.length) (e:i=(k:Int)):atI (ws.map D.str) i=some (.str (pw ws k)):=iJ (j:=k) (by rw [List.getElem?_map,hU h];rfl) e
def Pc (m:Nat) (w:List Nat):Prop:=0<w.length/\w.length<=m/\Lts w
def Pcs (m:Nat) (ws:List (List Nat)):Prop:=∀w∈ws,Pc m w
def ltB (c:Nat):Bool:=decide (97<=c) && decide (c<=122)
def yq:D->Int->Int->Bool
|.str l,a,b=>(decide (a<=(l.length:Int)) && decide ((l.length:Int)<=b)) && l.all ltB
|_,_,_=>false
theorem nF (l:List Nat) (a b:Int):yq (.str l) a b=((decide (a<=(l.length:Int)) && decide ((l.length:Int)<=b)) && l.all ltB):=rfl
def Fg:D->Nat
|.str l=>l.length
|_=>0
theorem A6 {l:List Nat}:l.all ltB=true ↔ Lts l:=by
 rw [List.all_eq_true]
 unfold Lts ltB
 constructor
 .intro h c hc
  have:=h c hc
  rw [Bool.and_eq_true,decide_eq_true_eq,decide_eq_true_eq] at this
  exact this
 .intro h c hc
  rw [Bool.and_eq_true,decide_eq_true_eq,decide_eq_true_eq]
  exact h c hc
theorem wt {w:List Nat}:yq (.str w) 1 60=true ↔ Pc 60 w:=by
 unfold yq Pc
 rw [Bool.and_eq_true,Bool.and_eq_true,decide_eq_true_eq,decide_eq_true_eq,A6]
 constructor
 .rintro⟨⟨h1,h2⟩,h3⟩;exact⟨by omega,by omega,h3⟩
 .rintro⟨h1,h2,h3⟩;exact⟨⟨by omega,by omega⟩,h3⟩
theorem qU (i j:Nat):(!decide (([j]:List Nat)<[i]))=decide (i<=j):=by
 by_cases h:i<=j
 .rw [decide_eq_true h]
  have:¬ ([j]:List Nat)<[i]:=by
   rw [List.cons_lt_cons_iff]
   rintro (z|⟨_,z⟩)
   .omega
   .exact absurd z (List.lt_irrefl _)
  rw [decide_eq_false this];rfl
 .rw [decide_eq_false h]
  have:([j]:List Nat)<[i]:=by
   rw [List.cons_lt_cons_iff];exact .inl (by omega)
  rw [decide_eq_true this];rfl
theorem qV:∀ws:List (List Nat),D.pys (ws.map .str)=ws.map fun w=>PyData.str (S w)
|[]=>rfl
|w::r=>by rw [List.map_cons,List.map_cons,<- qV r];rfl
theorem mJ:∀ws:List (List Nat),D.plains (ws.map .str)=true
|[]=>rfl
|w::r=>by rw [List.map_cons];show (true && D.plains (r.map .str))=true;rw [mJ r];rfl
theorem nG:∀ns:List Int,D.pys (ns.map .int)=ns.map PyData.int
|[]=>rfl
|n::r=>by rw [List.map_cons,List.map_cons,<- nG r];rfl
theorem mK:∀ns:List Int,D.plains (ns.map .int)=true
|[]=>rfl
|n::r=>by rw [List.map_cons];show (true && D.plains (r.map .int))=true;rw [mK r];rfl
def Sh (d:D):Prop:=d.plain=true/\SeqAt.shaped d.py=true
theorem pE.of {a b:D} (h:Sh a) (h':Sh b):pE a b:=⟨h.1,h'.1,h.2,h'.2⟩
theorem Sh.lstS {ws:List (List Nat)} (h:∀w∈ws,Lts w):Sh (.lst (ws.map .str)):=⟨mJ ws,by show SeqAt.shaped (.list (D.pys _))=true;rw [qV];exact o9 h⟩
theorem Sh.lstI (ns:List Int):Sh (.lst (ns.map .int)):=⟨mK ns,by show SeqAt.shaped (.list (D.pys _))=true;rw [nG];exact (mD.list (vM ns)).shaped (by decide)⟩
theorem nH {d:D} (h:Sh d):deq d d=true:=x4 h.2
theorem A7 {α:Type} (l:List α):dR l none (some (-1))=l.dropLast:=by
 have h:=qJ l
 have e:dR l none (some (-1))=l.take (HT.sIx l.length l.length (some (-1)) - HT.sIx l.length 0 none):=by
  unfold dR
  rw [show HT.sIx l.length 0 none=0 from rfl,List.drop_zero]
 rw [e,List.length_take] at h
 rw [e,List.dropLast_eq_take]
 by_cases z:HT.sIx l.length l.length (some (-1)) - HT.sIx l.length 0 none<=l.length
 .rw [show HT.sIx l.length l.length (some (-1)) - HT.sIx l.length 0 none=l.length - 1 by omega]
 .rw [List.take_of_length_le (by omega),List.take_of_length_le (by omega)]
theorem yr {α:Type} (c:α) (n:Nat):kA [c] (n:Int)=List.replicate n c:=by
 unfold kA
 rw [Int.toNat_natCast]
 induction n with
|zero=>rfl
|succ n ih=>rw [List.replicate_succ,List.flatten_cons,ih];rfl
section
variable {X:Cx}{K:PySem.W.Frag}
def A8:PTE:=fun ρ Q=>Q (.dat (.dic [] [])) ρ
theorem wu:LE K zn A8:=fun A ρ σ H Q Q' R q k=>fun p hp =>
 k _ _ (.dat (.dic [] [])) ρ q (Fr.new hp) ⟨R.grow hp,.dic (R.oo hp) aL rfl .nil⟩
def wv (neg:Bool):R2:=fun x y H Q=>∃a b,x=.ref a/\y=.ref b/\H a=some (.dK [])/\H b=some (.dK [])/\Q (.bl (!neg)) H
theorem yt (hu:X.A.units+64<cLine):OpR X (compareOp .Eq) (wv false):=by
 intro pins s σ H x y v u Q I rx ry ⟨a,b,e1,e2,h1,h2,q⟩
 subst e1 e2
 cases rx
 cases ry
 obtain⟨_,y1,vs,r1,p1⟩:=(show cF X.prog X.w H s.heap a (.dK []) from I.hok a _ h1)
 obtain⟨_,y2,ws,r2,p2⟩:=(show cF X.prog X.w H s.heap b (.dK []) from I.hok b _ h2)
 cases r1
 cases r2
 exact PySem.W.keq_eq (r:=true) y1 y2 p1 p2 (by omega) (fun _=>.nil) ⟨.bl true,H,I,rfl,q⟩
theorem yu (hu:X.A.units+64<cLine):OpR X (compareOp .NotEq) (wv true):=by
 intro pins s σ H x y v u Q I rx ry ⟨a,b,e1,e2,h1,h2,q⟩
 subst e1 e2
 cases rx
 cases ry
 obtain⟨_,y1,vs,r1,p1⟩:=(show cF X.prog X.w H s.heap a (.dK []) from I.hok a _ h1)
 obtain⟨_,y2,ws,r2,p2⟩:=(show cF X.prog X.w H s.heap b (.dK []) from I.hok b _ h2)
 cases r1
 cases r2
 exact PySem.W.keq_ne (r:=true) y1 y2 p1 p2 (by omega) (fun _=>.nil) ⟨.bl false,H,I,rfl,q⟩
def qW (K:PySem.W.Frag) (neg:Bool):R2:=fun x y H Q=>Dg K neg x y H Q\/wv neg x y H Q
theorem gz (K:PySem.W.Frag) (e:X.K=K) (hu:X.A.units+64<cLine):OpR X (compareOp .Eq) (qW K false):=OpR.or (Gj K e hu) (yt hu)
theorem qX (K:PySem.W.Frag) (e:X.K=K) (hu:X.A.units+64<cLine):OpR X (compareOp .NotEq) (qW K true):=OpR.or (Gk K e hu) (yu hu)
def nI:F2
|.dic [] [],.dic [] [],Q=>Q (.dat (.bl true))
|a,b,Q=>fEq a b Q
def yv:F2
|.dic [] [],.dic [] [],Q=>Q (.dat (.bl false))
|a,b,Q=>fNe a b Q
theorem FVc.dic0 {O:Addr->Prop}{H:Hp}{v:V} (h:FVc K O H v (.dic [] [])):∃a,v=.ref a/\H a=some (.dK []):=by
 cases h.fv nofun nofun with
|dic n e m f =>
  rename_i a kvs
  cases kvs with
 |nil=>exact⟨a,rfl,e⟩
 |cons x r=>cases m
theorem dM:LO K (qW K false) nI:=by
 intro O H x y a b Q Q' dom fx fy q k
 unfold nI at q
 split at q
 .obtain⟨a,rfl,e1⟩:=fx.dic0
  obtain⟨b,rfl,e2⟩:=fy.dic0
  exact .inr ⟨a,b,rfl,rfl,e1,e2,k _ H _ q (Gr.refl _) (.bl _)⟩
 .exact .inl (E2 O H x y _ _ Q Q' dom fx fy q k)
theorem kS:LO K (qW K true) yv:=by
 intro O H x y a b Q Q' dom fx fy q k
 unfold yv at q
 split at q
 .obtain⟨a,rfl,e1⟩:=fx.dic0
  obtain⟨b,rfl,e2⟩:=fy.dic0
  exact .inr ⟨a,b,rfl,rfl,e1,e2,k _ H _ q (Gr.refl _) (.bl _)⟩
 .exact .inl (E3 O H x y _ _ Q Q' dom fx fy q k)
end
theorem ww:∀ds:List D,D.pys ds=ds.map D.py
|[]=>rfl
|d::r=>by rw [List.map_cons,<- ww r];rfl
theorem mL:∀ds:List D,D.plains ds=ds.all D.plain
|[]=>rfl
|d::r=>by rw [List.all_cons,<- mL r];rfl
def Fl (n:Nat) (d:D):Prop:=d.plain=true/\mD n d.py
theorem Fl.sh {n:Nat}{d:D} (h:Fl n d) (hn:n<=64):Sh d:=⟨h.1,h.2.shaped hn⟩
theorem Fl.mono {n m:Nat}{d:D} (h:Fl n d) (hn:n<=m):Fl m d:=⟨h.1,h.2.1,Nat.le_trans h.2.2 hn⟩
theorem Fl.int {n:Nat} (i:Int):Fl n (.int i):=(show Fl 0 (.int i) from ⟨rfl,mD.int i⟩).mono (Nat.zero_le _)
theorem Fl.lst {n:Nat}{ds:List D} (h:∀d∈ds,Fl n d):Fl (n+1) (.lst ds):=by
 refine⟨?_,?_⟩
 .show D.plains ds=true
  rw [mL,List.all_eq_true];exact fun d hd=>(h d hd).1
 .show mD (n+1) (.list (D.pys ds))
  rw [ww]
  refine mD.list fun d hd=>?_
  obtain⟨x,hx,rfl⟩:=List.mem_map.mp hd
  exact (h x hx).2
theorem Fl.ints {n:Nat} (zs:List Int):∀d∈zs.map D.int,Fl n d:=fun d hd=>by
 obtain⟨i,_,rfl⟩:=List.mem_map.mp hd
 exact Fl.int i
def kT:D->Bool
|.int _=>true
|_=>false
def nJ:D->Bool
|.lst _=>true
|.tup _=>true
|_=>false
def aV:D->List D
|.lst ds=>ds
|.tup ds=>ds
|_=>[]
def toI:D->Int
|.int i=>i
|_=>0
def bS (d:D) (m:Int):Bool:=nJ d && (decide (((aV d).length:Int)=m) && (aV d).all kT)
def Srt (d:D):Prop:=d.sort=true/\∀x∈aV d,x.sort=true
theorem qY:∀{ds:List D},ds.all kT=true->ds=(ds.map toI).map D.int
|[],_=>rfl
|d::r,h=>by
  rw [List.all_cons,Bool.and_eq_true] at h
  rw [List.map_cons,List.map_cons,<- qY h.2]
  cases d <;> first|rfl|cases h.1
theorem jg {ds:List D}{k:Nat} (h:k<ds.length):itD ds k∈ds:=List.mem_of_getElem? (wf h)
section
variable {X:Cx}{K:PySem.W.Frag}{te:TE}{pe:PTE}
def DA (K:PySem.W.Frag):List V->Hp->VK->Prop:=fun xs H Q=>∃(p:Addr) (ns:List Int),xs=[.ref p]/\SqL K H p (ns.map V.int)/\0<ns.length/\∀m:Int,m∈ns->(∀a∈ns,a<=m)->Q (.int m) H
theorem zx (K:PySem.W.Frag) (e:X.K=K) (hc:X.calm=true):cw X (.builtin "max") (DA K):=by
 subst e
 intro pins s σ H xs us Q I r h
 obtain⟨p,ns,rfl,hS,hne,q⟩:=h
 obtain⟨u,rfl,ru⟩:=gT r
 cases (show u=Value.ref p from ru)
 obtain⟨its,rv,pl,hz⟩:=I.list hS
 have hi:=ef rv
 have hl:=pl.isList
 obtain⟨ys,e⟩:=hi.allInts.items
 have hns:ns=ys.toList.map (·.1):=by rw [<- hi.numsOf,<- nums_intItems,<- e]
 have hsz:0<ys.size:=by
  have h3:=hne;rw [hns,List.length_map,Array.length_toList] at h3;exact h3
 rw [e] at hl
 refine max_intList (by exact I.ok.hd hc) hl hsz fun v h' tk hv hk=>?_
 obtain⟨t,rfl⟩:=intItems_at hv
 obtain⟨h1,h2⟩:=argBest_gt (numAt ys) (ys.size - 1)
 refine⟨.int _,H,I.kept (t':=tk) hk,⟨t,rfl⟩,q _ ?_ fun a ha=>?_⟩
 .rw [hns,numAt_eq];exact getD_mem (by rw [List.length_map,Array.length_toList];omega)
 .rw [hns] at ha
  obtain⟨j,hj,rfl⟩:=mem_getD ha
  rw [List.length_map,Array.length_toList] at hj
  rw [<- numAt_eq];exact h2 j (by omega)
def yw:FN
|[.lst ds],Q=>∃ns:List Int,ds=ns.map .int/\0<ns.length/\∀m:Int,m∈ns->(∀a∈ns,a<=m)->Q (.dat (.int m))
|_,_=>False
theorem wx:LC K (DA K) yw:=by
 intro O H xs as Q Q' dom fs q k
 unfold yw at q
 split at q
 .obtain⟨ns,rfl,h0,q⟩:=q
  cases fs with
 |cons a b =>
   cases b
   obtain⟨p,ys,rfl,e1,f1⟩:=a.lst
   rw [f1.ints] at e1
   exact⟨p,ns,rfl,SqL.of e1,h0,fun m h1 h2=>k _ H _ (q m h1 h2) (Gr.refl _) (.int _)⟩
 .exact q.elim
def sL (i:Nat) (pe:PTE):PTE:=fun ρ Q=>match ρ[i]? with
|some (some (.own _))=>pe ρ fun p ρ1=>(match ρ1[i]?,p with
 |some (some (.own ds)),.dat (.int j)=>∃k d,(ixN ds.length j=some k/\ds.length<=1000000)/\ds[k]?=some d/\Q (.dat d) (ρ1.set i (some (.own (ds.eraseIdx k))))
 |_,_=>False)
|_=>False
theorem FVs.eraseIdx {O:Addr->Prop}{H:Hp}:∀{xs:List V}{ds:List D} (k:Nat),FVs K O H xs ds->FVs K O H (xs.eraseIdx k) (ds.eraseIdx k)
|_,_,_,.nil=>.nil
|_,_,0,.cons a b=>b
|_,_,k+1,.cons a b=>.cons a (FVs.eraseIdx k b)
theorem sM {i:Nat} (h:LE K te pe):LE K (tBM K "list" zl (a9 i) (aW te dC)) (sL i pe):=fun A ρ σ H Q Q' R q k=>by
 unfold sL at q
 split at q
 .rename_i ds0 e0
  obtain⟨a0,xs0,s0,g0,f0⟩:=R.ownAt e0
  refine⟨_,s0,.inl ⟨rfl,xs0,SqL.of g0⟩,h A ρ σ H _ _ R q fun v H1 p ρ1 q1 f1 o1=>?_⟩
  obtain⟨R1,fv⟩:=o1.frz
  split at q1
  .rename_i ds j e1
   obtain⟨a,xs,s,g,f⟩:=R1.ownAt e1
   rw [s0] at s;cases s
   obtain⟨m,d,⟨hm,hl⟩,hd,q1⟩:=q1
   obtain⟨w,hw,fw⟩:=f.getD hd
   cases (show FV K _ H1 v (.int j) from fv)
   obtain⟨t1,t2,t3,t4⟩:=qF hm
   obtain⟨R2,f2⟩:=R1.lstw (es:=ds.eraseIdx m) (ys:=xs.eraseIdx m) e1 s0 (f.eraseIdx m)
   have hx:xs.length=ds.length:=f.length
   exact⟨a0,xs,j,m,w,rfl,rfl,g,by omega,by omega,by rw [hx];exact t1,hw,k _ _ _ _ q1 (f1.trans f2) ⟨R2,(fw.keeps f2.keeps)⟩⟩
  .exact q1.elim
 .exact q.elim
end
abbrev lc2 (elt t1 i1:Expr) (f1:List Expr) (t2 i2:Expr) (f2:List Expr) (scope:Scope) (pos:Pos):Expr:=.ListComp elt [⟨t1,i1,f1,0⟩,⟨t2,i2,f2,0⟩] scope pos
def um (e i2:Expr) (acc:Value) (env:Env):Sem Unit:=do
 let x <- eval i2 env
 standAt i2.pos
 let x <- foldedSetIterable i2 env x
 let _ <- runOwn (.compStart e 1 (<- holding [x] (pyIter x)) acc env) env
def wy (elt:Expr) (acc:Value) (env:Env):Sem Unit:=do let _ <- call (.builtin "list.append") [acc,<- eval elt env]
theorem uo (elt t1 i1:Expr) (f1:List Expr) (t2 i2:Expr) (f2:List Expr) (scope:Scope) (pos:Pos) (it acc:Value) (env:Env) :
  compTurn (lc2 elt t1 i1 f1 t2 i2 f2 scope pos) 0 it acc env=(do
   standAt i1.pos
   match <- pyNext it with
  |none=>pure (.done .next)
  |some v =>
    letOwnedTupleGo t1 it v
    assign t1 env v
    let mut ok:=true
    for c in f1 do
     if ok then ok <- isTrue c env (eval c env)
    if ok then
     let x <- eval i2 env
     standAt i2.pos
     let x <- foldedSetIterable i2 env x
     let _ <- runOwn (.compStart (lc2 elt t1 i1 f1 t2 i2 f2 scope pos) 1 (<- holding [x] (pyIter x)) acc env) env
    again (.compLoop (lc2 elt t1 i1 f1 t2 i2 f2 scope pos) 0 it acc env)):=by rfl
theorem up {α:Type} (e i2:Expr) (acc:Value) (env:Env) (k:Sem α):(eval i2 env >>= fun x=>standAt i2.pos >>= fun _=>foldedSetIterable i2 env x >>= fun x=>holding [x] (pyIter x) >>= fun it=>runOwn (.compStart e 1 it acc env) env >>= fun _=>k)=(um e i2 acc env >>= fun _=>k):=by
 unfold um
 simp only [bind_assoc,pure_bind]
theorem uq (elt t1 i1:Expr) (f1:List Expr) (t2 i2:Expr) (f2:List Expr) (scope:Scope) (pos:Pos) (it acc:Value) (env:Env) :
  compTurn (lc2 elt t1 i1 f1 t2 i2 f2 scope pos) 1 it acc env=(do
   standAt i2.pos
   match <- pyNext it with
  |none=>pure (.done .next)
  |some v =>
    letOwnedTupleGo t2 it v
    assign t2 env v
    let mut ok:=true
    for c in f2 do
     if ok then ok <- isTrue c env (eval c env)
    if ok then
     (wy elt acc env)
    again (.compLoop (lc2 elt t1 i1 f1 t2 i2 f2 scope pos) 1 it acc env)):=by rfl
section
variable {prog:Program}{w:World}{A:Around}{R:Result->Shared->Prop}{s:Shared}
theorem lQ {elt t1 i1 t2 i2:Expr}{f1 f2:List Expr}{scope:Scope}{pos:Pos}{it acc:Value}{env:Env} (I:Nat->Shared->Prop)
  (turn:∀n s,I n s->wpAny (model prog w) A (pyNext it) (fun r s₁=>match r with
  |none=>R (.ok .next) s₁
  |some v=>wpAny (model prog w) A (letOwnedTupleGo t1 it v) (fun _ s₂=>wpAny (model prog w) A (assign t1 env v) (fun _ s₃ =>
     wpAny (model prog w) A (forIn f1 true fun c r=>if r=true then do let ok <- isTrue c env (eval c env);pure (ForInStep.yield ok) else pure (ForInStep.yield r)) (fun ok s₄ =>
      if ok=true then wpAny (model prog w) A (um (lc2 elt t1 i1 f1 t2 i2 f2 scope pos) i2 acc env) (fun _ s₆=>∃m,m<n/\I m s₆) (fun _ _=>False) s₄
      else ∃m,m<n/\I m s₄) (fun _ _=>False) s₃) (fun _ _=>False) s₂) (fun _ _=>False) s₁) (fun _ _=>False) s)
  (n:Nat) (h:I n s) :
  codeAny (model prog w) A (.compLoop (lc2 elt t1 i1 f1 t2 i2 f2 scope pos) 0 it acc env) R s:=by
 refine codeAny_loop rfl I (fun n s hI=>?_) n h
 show wpAny _ A ((compTurn (lc2 elt t1 i1 f1 t2 i2 f2 scope pos) 0 it acc env).onRaise (fun x=>do noteFrame x env;theTreesLotGoes x)) _ _ s
 refine wpAny_noted ?_
 rw [uo]
 refine wpAny_bind (wpAny_standAt (wpAny_bind (wpAny_mono (turn n s hI) (fun r s₁ h₁=>?_) fun _ _ h'=>h'.elim)))
 cases r with
|none=>exact wpAny_pure h₁
|some v =>
  refine wpAny_bind (wpAny_mono h₁ (fun _ s₂ h₂=>?_) fun _ _ h'=>h'.elim)
  refine wpAny_bind (wpAny_mono h₂ (fun _ s₃ h₃=>wpAny_bind (wpAny_mono h₃ (fun ok s₄ h₄=>?_) fun _ _ h'=>h'.elim)) fun _ _ h'=>h'.elim)
  cases ok with
 |false=>exact wpAny_pure ⟨rfl,h₄⟩
 |true =>
   have e:=up (lc2 elt t1 i1 f1 t2 i2 f2 scope pos) i2 acc env (again (.compLoop (lc2 elt t1 i1 f1 t2 i2 f2 scope pos) 0 it acc env))
   show wpAny _ _ (eval i2 env >>= fun x=>standAt i2.pos >>= fun _=>foldedSetIterable i2 env x >>= fun x=>holding [x] (pyIter x) >>= fun it'=>runOwn (.compStart (lc2 elt t1 i1 f1 t2 i2 f2 scope pos) 1 it' acc env) env >>= fun _=>again (.compLoop (lc2 elt t1 i1 f1 t2 i2 f2 scope pos) 0 it acc env)) _ _ _
   rw [e]
   exact wpAny_bind (wpAny_mono h₄ (fun _ s₆ h₆=>wpAny_pure ⟨rfl,h₆⟩) fun _ _ h'=>h'.elim)
theorem lR {elt t1 i1 t2 i2:Expr}{f1 f2:List Expr}{scope:Scope}{pos:Pos}{it acc:Value}{env:Env} (I:Nat->Shared->Prop)
  (turn:∀n s,I n s->wpAny (model prog w) A (pyNext it) (fun r s₁=>match r with
  |none=>R (.ok .next) s₁
  |some v=>wpAny (model prog w) A (letOwnedTupleGo t2 it v) (fun _ s₂=>wpAny (model prog w) A (assign t2 env v) (fun _ s₃ =>
     wpAny (model prog w) A (forIn f2 true fun c r=>if r=true then do let ok <- isTrue c env (eval c env);pure (ForInStep.yield ok) else pure (ForInStep.yield r)) (fun ok s₄ =>
      if ok=true then wpAny (model prog w) A (wy elt acc env) (fun _ s₆=>∃m,m<n/\I m s₆) (fun _ _=>False) s₄
      else ∃m,m<n/\I m s₄) (fun _ _=>False) s₃) (fun _ _=>False) s₂) (fun _ _=>False) s₁) (fun _ _=>False) s)
  (n:Nat) (h:I n s) :
  codeAny (model prog w) A (.compLoop (lc2 elt t1 i1 f1 t2 i2 f2 scope pos) 1 it acc env) R s:=by
 refine codeAny_loop rfl I (fun n s hI=>?_) n h
 show wpAny _ A ((compTurn (lc2 elt t1 i1 f1 t2 i2 f2 scope pos) 1 it acc env).onRaise (fun x=>do noteFrame x env;theTreesLotGoes x)) _ _ s
 refine wpAny_noted ?_
 rw [uq]
 refine wpAny_bind (wpAny_standAt (wpAny_bind (wpAny_mono (turn n s hI) (fun r s₁ h₁=>?_) fun _ _ h'=>h'.elim)))
 cases r with
|none=>exact wpAny_pure h₁
|some v =>
  refine wpAny_bind (wpAny_mono h₁ (fun _ s₂ h₂=>?_) fun _ _ h'=>h'.elim)
  refine wpAny_bind (wpAny_mono h₂ (fun _ s₃ h₃=>wpAny_bind (wpAny_mono h₃ (fun ok s₄ h₄=>?_) fun _ _ h'=>h'.elim)) fun _ _ h'=>h'.elim)
  cases ok with
 |false=>exact wpAny_pure ⟨rfl,h₄⟩
 |true=>exact wpAny_bind (wpAny_mono h₄ (fun _ s₆ h₆=>wpAny_pure ⟨rfl,h₆⟩) fun _ _ h'=>h'.elim)
theorem iT {elt t1 i1 t2 i2:Expr}{f1 f2:List Expr}{scope:Scope}{pos:Pos}{it acc:Value}{env:Env}
  (h0:codeAny (model prog w) A (.compLoop (lc2 elt t1 i1 f1 t2 i2 f2 scope pos) 1 it acc env) R s)
  (h:wpAny (model prog w) A (pyIter it) (fun it' s'=>codeAny (model prog w) A (.compLoop (lc2 elt t1 i1 f1 t2 i2 f2 scope pos) 1 it' acc env) R s')
   (notedBy (model prog w) A env fun x s'=>R (.error x) s') s) :
  codeAny (model prog w) A (.compStart (lc2 elt t1 i1 f1 t2 i2 f2 scope pos) 1 it acc env) R s:=by
 refine codeAny_of_tree ?_
 show wpAny _ _ ((compStart (lc2 elt t1 i1 f1 t2 i2 f2 scope pos) 1 it acc env).onRaise (fun x=>do noteFrame x env;standAt theWindowsPlace)) _ _ s
 refine wpAny_notedAt ?_
 unfold compStart
 show wpAny _ _ (ask >>= _) _ _ s
 refine wpAny_bind (wpAny_askSetting (wpAny_ite ?_))
 split
 .first
  |exact wpAny_bind (wpAny_pure (wpAny_pure (And.intro rfl h0)))
  |exact wpAny_pure (And.intro rfl h0)
 .first
  |exact wpAny_bind (wpAny_rule (wpAny_bind (wpAny_standAt (wpAny_bind (wpAny_mono h (fun it' s' h'=>wpAny_pure (And.intro rfl h')) fun _ _ x=>x)))))
end
abbrev TB:=St->Hp->(St->Hp->Prop)->Prop
def PB (Y:Cx) (emit:Sem Unit) (tb:TB):Prop:=∀(pins:List (Addr×Obj)) (s:Shared) (τ:St) (H:Hp) (N:St->Hp->Prop),Inv Y pins τ H s->tb τ H N ->
 wpAny (model Y.prog Y.w) Y.A emit (fun _ s'=>∃τ' H',Inv Y pins τ' H' s'/\N τ' H') (fun _ _=>False) s
def A9 (te:TE) (D:Addr):TB:=fun τ H N=>te τ H fun v H6=>∃ys,H6 D=some (.lst ys)/\ys.length<sizeLine/\N τ (upd H6 D (.lst (ys++[v])))
def Ba (wi:TI) (g:TG) (tts:TT) (tb:TB):TB:=fun τ H N=>wi τ H fun J H6=>∃W:Nat->Nat->St->Hp->Prop,(∃n,W 0 n τ H6)/\∀j n τ3 H7,W j n τ3 H7 ->
 (J.stop j H7/\N τ3 H7)\/(J.go j H7/\∀y H8,J.yld j H7 y H8->g y τ3 H8 fun τ4 H9=>tts τ4 H9 fun ok H10=>if ok=true then tb τ4 H10 (fun τ5 H11=>∃n',n'<n/\W (j+1) n' τ5 H11) else ∃n',n'<n/\W (j+1) n' τ4 H10)
def wz (ix:List (Option Nat)) (wi:TI) (g:TG) (tts:TT) (tb:Addr->TB):TE:=fun σ H Q=>wi σ H fun J H1=>∀D,H1 D=none->∃W:Nat->Nat->St->Hp->Prop,(∃m,W 0 m (oX ix σ) (upd H1 D (.lst [])))/\∀i m τ H2,W i m τ H2 ->
 (J.stop i H2/\Q (.ref D) H2)\/(J.go i H2/\∀x H3,J.yld i H2 x H3->g x τ H3 fun τ2 H4=>tts τ2 H4 fun ok H5=>if ok=true then tb D τ2 H5 (fun τ6 H6=>∃m',m'<m/\W (i+1) m' τ6 H6)
  else ∃m',m'<m/\W (i+1) m' τ2 H5)
section
variable {Y:Cx}{elt t1 i1 t2 i2:Expr}{f1 f2:List Expr}{scope:Scope}{pos:Pos}{te:TE}{D:Addr}{wi:TI}{g:TG}{tts:TT}{tb:TB}
theorem Bb (hx:Y.xe=fun _ _=>False) (he:PE Y elt te):PB Y (wy elt (.ref D) Y.env) (A9 te D):=by
 intro pins s τ H N I h
 have h1:=he pins s τ H _ I h
 rw [hx] at h1
 unfold wy
 refine wpAny_bind (thn h1 fun v s1 ⟨x,H1,I1,r1,ys,hD,hz,q⟩=>?_)
 have h2:=eh (X:=Y) pins s1 τ H1 (.ref D) [x] (.ref D) [v] (fun _ H'=>N τ H') I1 rfl (.cons r1 .nil) ⟨D,ys,x,rfl,rfl,hD,hz,q⟩
 rw [hx] at h2
 exact wpAny_bind (thn h2 fun _ s2 ⟨_,H2,I2,_,q2⟩=>wpAny_pure ⟨τ,H2,I2,q2⟩)
theorem Bc (hx:Y.xe=fun _ _=>False) (hc:Y.calm=true) (hi:PI Y t2 i2 wi) (hg:PG Y t2 g) (ht:PIf Y f2 tts) (hb:PB Y (wy elt (.ref D) Y.env) tb) (hs:∀x,foldedSetIterable i2 Y.env x=pure x:=by intro _;rfl) :
  PB Y (um (lc2 elt t1 i1 f1 t2 i2 f2 scope pos) i2 (.ref D) Y.env) (Ba wi g tts tb):=by
 intro pins s τ H N I h
 have h1:=hi pins s τ H _ I h
 rw [hx] at h1
 unfold um
 refine wpAny_bind (thn h1 fun v s1 h1=>wpAny_bind (wpAny_standAt (wpAny_bind (wpAny_of_eq (hs v) (wpAny_bind (wpAny_holding (thn h1 fun itv s2 h2=>wpAny_bind (wpAny_runOwn ?_))))))))
 obtain⟨it,fp,tn,J,H2,e,I2,T,st2,f2',W,⟨m0,w0⟩,turn⟩:=h2
 subst e
 have stat:∀{H':Hp},(∀b∈fp,H' b=none)->∀b∈fp,qE Y pins H' b:=fun hn b hb=>⟨hn b hb,(f2' b hb).2⟩
 have loop:∀s3:Shared,Inv Y pins τ H2 s3->tn 0 s3.heap->codeAny (model Y.prog Y.w) Y.A (.compLoop (lc2 elt t1 i1 f1 t2 i2 f2 scope pos) 1 (.ref it) (.ref D) Y.env)
   (fun r s'=>match r with|.ok f=>wpAny (model Y.prog Y.w) Y.A (pure ()) (fun _ s'=>∃τ' H',Inv Y pins τ' H' s'/\N τ' H') (fun _ _=>False) s'|.error e=>cameBackBy (model Y.prog Y.w) Y.A Y.env (fun _ _=>False) e s') s3:=by
  intro s3 I3 st3
  refine lR (fun n s'=>∃i τ' H',Inv Y pins τ' H' s'/\tn i s'.heap/\(∀b∈fp,H' b=none)/\W i n τ' H') ?_ m0 ⟨0,τ,H2,I3,st3,fun b hb=>(f2' b hb).1,w0⟩
  rintro n s5 ⟨i,τ5,H5,I5,st5,fr5,w5⟩
  rcases turn i n τ5 H5 w5 with ⟨stop,qn⟩|⟨go,step⟩
  .refine thn (T.done Y rfl rfl rfl hc i pins s5 τ5 H5 (fun _ _=>False) I5 (stat fr5) st5 stop) fun r s6 ⟨hr,I6⟩=>?_
   subst hr
   exact wpAny_pure ⟨τ5,H5,I6,qn⟩
  .refine thn (T.item Y rfl rfl rfl hc i pins s5 τ5 H5 (fun _ _=>False) I5 (stat fr5) st5 go) fun r s6 ⟨u,hr,h6⟩=>?_
   subst hr
   refine thn h6 fun _ s7 ⟨x,H7,I7,r7,y7,st7,fr7⟩=>?_
   have I7':=I7.pinned (stat fr7) (T.obj _ _ st7)
   have again:∀{s8:Shared}{τ8:St}{H8:Hp},Inv Y (pins++km fp s7.heap) τ8 H8 s8->(∃m',m'<n/\W (i+1) m' τ8 H8) ->
     ∃m,m<n/\∃i τ' H',Inv Y pins τ' H' s8/\tn i s8.heap/\(∀b∈fp,H' b=none)/\W i m τ' H':=fun {s8 τ8 H8} I8 ⟨m',hm,w8⟩=>by
    refine⟨m',hm,i+1,τ8,H8,I8.unpinned,T.keep _ _ _ st7 fun b hb o e=>(I8.pin (b,o) (List.mem_append_right _ (List.mem_append_right _ (di hb e)))).1,fun b hb=>?_,w8⟩
    obtain⟨o,e,d⟩:=T.obj _ _ st7 b hb
    exact (I8.pin (b,o) (List.mem_append_right _ (List.mem_append_right _ (di hb e)))).2.1
   have h8:=hg _ s7 τ5 H7 x u _ I7' r7 (step x H7 y7)
   rw [hx] at h8
   refine thn h8 fun _ s8 ⟨τ8,H8,I8,q8⟩=>?_
   have h9:=ht _ s8 τ8 H8 _ I8 q8
   rw [hx] at h9
   refine thn h9 fun okb s9 ⟨H9,I9,q9⟩=>?_
   cases okb with
  |false =>
    rw [if_neg Bool.false_ne_true] at q9
    rw [if_neg Bool.false_ne_true]
    exact again I9 q9
  |true =>
    rw [if_pos rfl] at q9
    rw [if_pos rfl]
    exact thn (hb _ s9 τ8 H9 _ I9 q9) fun _ s10 ⟨τ10,H10,I10,q10⟩=>again I10 q10
 exact iT (loop _ I2 st2) (T.self Y.A 0 _ _ _ st2 (loop _ I2 st2))
end
section
variable {X:Cx}{elt t1 i1 t2 i2:Expr}{f1 f2:List Expr}{scope:Scope}{N':List Str}{ix:List (Option Nat)}{wi:TI}{g:TG}{tts:TT}{tb:Addr->TB}
theorem ur {use:Option (Value->Sem Unit)}{Qf:Value->Shared->Prop}{pos p':Pos}{pins:List (Addr×Obj)}{σ:St}{H:Hp}{s:Shared}{Q:VK} (hc:X.calm=true) (ok:se X.env X.N scope N' ix) (hi:PI X t1 i1 wi)
  (blk:∀s H fp pn D,PG (br X N' scope s H fp pn) t1 g/\PIf (br X N' scope s H fp pn) f1 tts/\PB (br X N' scope s H fp pn) (um (lc2 elt t1 i1 f1 t2 i2 f2 scope pos) i2 (.ref D) (nh scope s.heap.objs.size X.env)) (tb D))
  (hs:∀x,foldedSetIterable i1 X.env x=pure x) (I:Inv X pins σ H s) (hw:wz ix wi g tts tb σ H Q)
  (fin:∀D C H' s',Inv X pins σ H' s'->Q (.ref D) H'->(∃m,s'.heap.Ns C m)->H' C=none->X.s₀.heap.objs.size<=C->C≠X.env.locals->(∀x c,X.env.cells.lookup x=some c->c≠C)->C∉X.fs->(∀p∈X.pn++pins,p.1≠C) ->
   compPost (model X.prog X.w) X.A X.xe use Qf (.ref D) C (.ok .next) s') :
  wpAny (model X.prog X.w) X.A (comprehension (lc2 elt t1 i1 f1 t2 i2 f2 scope pos) scope X.env p' (newList []) false (eval i1 X.env) use) Qf X.xe s:=by
 have hclos:closureFor scope X.env=pure (ir X.env scope.names []):=fT fun y hy e=>I.ok.has y.1 (ok.free y hy e).1
 refine wpAny_comprehension_free (use:=use) rfl hs hclos ok.kind ok.loc (thn (hi pins s σ H _ I hw) fun v s1 h1=>thn h1 fun itv s2 h2=>?_)
 obtain⟨it,fp,tn,J,H2,e,I2,T,st2,fq2,hW⟩:=h2
 subst e
 obtain⟨W,⟨m0,w0⟩,turn⟩:=hW s2.heap.objs.size (I2.hok.fresh (Nat.le_refl _))
 have hfl:∀b∈fp,b<s2.heap.objs.size:=fun b hb=>by
  obtain⟨o,e,_⟩:=T.obj 0 _ st2 b hb
  exact Heap.lt_size e
 refine wpAny_newObj_type ?_
 have I3:Inv X pins σ (upd H2 s2.heap.objs.size (.lst [])) { s2 with heap:=s2.heap.push { cls:=.type "list",dict:=none,data:=.seq ([]:List Value).toArray } } :=
  I2.laid (t':=s2.toks) (fun b o e=>Heap.get?_push_of_some _ e) (Nat.le_refl _) (show cF X.prog X.w _ _ _ (.lst []) from ⟨Nat.zero_le _,[],0,.nil,Heap.get?_push_size _ rfl⟩)
 have st3:tn 0 (s2.heap.push { cls:=.type "list",dict:=none,data:=.seq ([]:List Value).toArray }):=T.keep 0 _ _ st2 fun b _ o e=>Heap.get?_push_of_some _ e
 have f3:∀b∈fp,qE X pins (upd H2 s2.heap.objs.size (.lst [])) b:=fun b hb=>⟨by rw [aB (Nat.ne_of_lt (hfl b hb))];exact (fq2 b hb).1,(fq2 b hb).2⟩
 have hfl3:∀b∈fp,b<(s2.heap.push { cls:=.type "list",dict:=none,data:=.seq ([]:List Value).toArray }).objs.size:=fun b hb=>by rw [Heap.size_push];exact Nat.lt_succ_of_lt (hfl b hb)
 generalize hs3:({ s2 with heap:=s2.heap.push { cls:=.type "list",dict:=none,data:=.seq ([]:List Value).toArray } }:Shared)=s3 at I3 ⊢
 have eh3:s3.heap=s2.heap.push { cls:=.type "list",dict:=none,data:=.seq ([]:List Value).toArray }:=by rw [<- hs3]
 rw [<- eh3] at st3 hfl3
 generalize hH3:upd H2 s2.heap.objs.size (.lst [])=H3 at I3 f3 w0
 generalize hD:s2.heap.objs.size=D at *
 refine ej ?_
 have I4:=sg ok I3 f3 hfl3
 obtain⟨hg,ht,he⟩:=blk s3 H3 fp pins D
 have st4:tn 0 (pushCells (s3.heap.push { cls:=.type "dict",data:=.dict #[] }) scope.names):=T.keep 0 _ _ st3 fun b _ o e=>pushCells_keeps _ _ b o (Heap.get?_push_of_some _ e)
 have stat:∀{H':Hp},(∀b∈fp,H' b=none)->∀b∈fp,qE (br X N' scope s3 H3 fp pins) [] H' b:=fun hn b hb=>by
  refine⟨hn b hb,Nat.ne_of_lt (hfl3 b hb),I4.ok.exfs b hb,.inl hb,(I4.ok.exf b hb).2,fun p hp=>?_⟩
  have hp':p∈X.pn++pins:=by simpa [br] using hp
  exact (fq2 b hb).2.2.2.2.2 p hp'
 have loop:∀(s4:Shared),Inv (br X N' scope s3 H3 fp pins) [] (oX ix σ) H3 s4->tn 0 s4.heap ->
   codeAny (model X.prog X.w) X.A (.compLoop (lc2 elt t1 i1 f1 t2 i2 f2 scope pos) 0 (.ref it) (.ref D) (nh scope s3.heap.objs.size X.env)) (compPost (model X.prog X.w) X.A X.xe use Qf (.ref D) s3.heap.objs.size) s4:=by
  intro s4 I4 st4
  refine lQ (fun n s'=>∃i τ H',Inv (br X N' scope s3 H3 fp pins) [] τ H' s'/\tn i s'.heap/\(∀b∈fp,H' b=none)/\W i n τ H') ?_ m0 ⟨0,_,H3,I4,st4,fun b hb=>(f3 b hb).1,w0⟩
  rintro n s5 ⟨i,τ,H5,I5,st5,fr5,w5⟩
  rcases turn i n τ H5 w5 with ⟨stop,qn⟩|⟨go,step⟩
  .refine thn (T.done (br X N' scope s3 H3 fp pins) rfl rfl rfl hc i [] s5 τ H5 (fun _ _=>False) I5 (stat fr5) st5 stop) fun r s6 ⟨hr,I6⟩=>?_
   subst hr
   have I7:Inv X pins σ H5 s6:=I3.call' (ch:=fp) I6.os I6.base I6.hok I6.bare fun b hb=>⟨(fq2 b hb).2.2.2.1,(fq2 b hb).2.1,(fq2 b hb).2.2.2.2.1,(fq2 b hb).2.2.2.2.2⟩
   obtain⟨m6,hn6,_⟩:=I6.loc
   refine fin D s3.heap.objs.size H5 s6 I7 qn ⟨m6,hn6⟩ I6.free ?_ ?_ ?_ ?_ ?_
   .exact I3.sz
   .exact Nat.ne_of_gt I3.lt
   .intro x c e z
    obtain⟨v,q⟩:=I3.cell x c e
    have:=q.lt
    rw [z] at this
    exact Nat.lt_irrefl _ this
   .exact I3.nofs (Nat.le_refl _)
   .intro p hp z
    have:=Heap.lt_size (I3.pin p hp).1
    rw [z] at this
    exact Nat.lt_irrefl _ this
  .refine thn (T.item (br X N' scope s3 H3 fp pins) rfl rfl rfl hc i [] s5 τ H5 (fun _ _=>False) I5 (stat fr5) st5 go) fun r s6 ⟨u,hr,h6⟩=>?_
   subst hr
   refine thn h6 fun _ s7 ⟨x,H7,I7,r7,y7,st7,fr7⟩=>?_
   have I7':=I7.pinned (stat fr7) (T.obj _ _ st7)
   have again:∀{s8:Shared}{τ8:St}{H8:Hp},Inv (br X N' scope s3 H3 fp pins) ([]++km fp s7.heap) τ8 H8 s8->(∃m',m'<n/\W (i+1) m' τ8 H8) ->
     ∃m,m<n/\∃i τ H',Inv (br X N' scope s3 H3 fp pins) [] τ H' s8/\tn i s8.heap/\(∀b∈fp,H' b=none)/\W i m τ H':=fun {s8 τ8 H8} I8 ⟨m',hm,w8⟩=>by
    refine⟨m',hm,i+1,τ8,H8,I8.unpinned,T.keep _ _ _ st7 fun b hb o e=>(I8.pin (b,o) (List.mem_append_right _ (List.mem_append_right _ (di hb e)))).1,fun b hb=>?_,w8⟩
    obtain⟨o,e,d⟩:=T.obj _ _ st7 b hb
    exact (I8.pin (b,o) (List.mem_append_right _ (List.mem_append_right _ (di hb e)))).2.1
   refine thn (hg _ s7 τ H7 x u _ I7' r7 (step x H7 y7)) fun _ s8 ⟨τ8,H8,I8,q8⟩=>?_
   refine thn (ht _ s8 τ8 H8 _ I8 q8) fun okb s9 ⟨H9,I9,q9⟩=>?_
   cases okb with
  |false =>
    rw [if_neg Bool.false_ne_true] at q9
    rw [if_neg Bool.false_ne_true]
    exact again I9 q9
  |true =>
    rw [if_pos rfl] at q9
    rw [if_pos rfl]
    refine thn (he _ s9 τ8 H9 _ I9 q9) fun _ s10 ⟨τ10,H10,I10,q10⟩=>?_
    exact again I10 q10
 exact codeAny_compStart_list (loop _ I4 st4) (T.self X.A 0 _ _ _ st4 (loop _ I4 st4))
theorem yx {pos:Pos}{wi2:TI}{g2:TG}{tts2:TT}{te:TE} (N':List Str) (ix:List (Option Nat)) (hc:X.calm=true) (hi:PI X t1 i1 wi)
  (blk:∀s H fp pn,PG (br X N' scope s H fp pn) t1 g/\PIf (br X N' scope s H fp pn) f1 tts/\PI (br X N' scope s H fp pn) t2 i2 wi2/\PG (br X N' scope s H fp pn) t2 g2/\PIf (br X N' scope s H fp pn) f2 tts2/\PE (br X N' scope s H fp pn) elt te)
  (chk:kF X.env.scope X.N scope N' ix=true) (hs:∀x,foldedSetIterable i1 X.env x=pure x:=by intro _;rfl) (hs2:∀(env:Env) x,foldedSetIterable i2 env x=pure x:=by intro _ _;rfl) :
  PE X (.ListComp elt [⟨t1,i1,f1,0⟩,⟨t2,i2,f2,0⟩] scope pos) (wz ix wi g tts fun D=>Ba wi2 g2 tts2 (A9 te D)):=by
 intro pins s σ H Q I hw
 rw [eval_ListComp]
 refine ur (use:=none) hc (kG chk) hi (fun s H fp pn D=>?_) hs I hw fun D C H' s' I' q hm hn h1 h2 h3 h4 h5=>?_
 .obtain⟨b1,b2,b3,b4,b5,b6⟩:=blk s H fp pn
  exact⟨b1,b2,Bc (Y:=br X N' scope s H fp pn) rfl hc b3 b4 b5 (Bb rfl b6) (hs2 _)⟩
 .obtain⟨m,hm⟩:=hm
  refine⟨m,hm,fun h' sb=>⟨.ref D,H',?_,rfl,q⟩⟩
  exact I'.turned (t':=s'.toks) (fun b o hb e=>(sb.2 b hb).trans e) hn h2 (.inr h1) h3 h5
end
theorem kpt {O O1 O2:Addr->Prop}{H H1 H2:Hp} (a:aM O H O1 H1) (b:aM O1 H1 O2 H2):aM O H O2 H2:=fun c o n e=>b c o (a c o n e).1 (a c o n e).2
structure DB (ix:List (Option Nat)) (ρ1:PSt) (n:Nat) (it:Nat->D) (g:PTG) (pt:PTT) (pi2:PTI) (g2:PTG) (pt2:PTT) (pe:PTE) (Q:PKt):Prop where
 ex:∃I:Nat->List D->PSt->Prop,I 0 [] (bX ix ρ1) /\
  (∀k ys τ d,k<n->d=it k->I k ys τ->g (.dat d) τ fun τ2=>pt τ2 fun ok τ3=>fU ok (pi2 τ3 fun n2 it2 τ4=>∃I2:Nat->List D->PSt->Prop,I2 0 ys τ4 /\
   (∀j zs τ d,j<n2->d=it2 j->I2 j zs τ->g2 (.dat d) τ fun τ5=>pt2 τ5 fun ok τ6=>fU ok (pe τ6 fun p τ7=>zs.length<1000000/\I2 (j+1) (zs++[p.d]) τ7) (I2 (j+1) zs τ6))/\∀zs τ,I2 n2 zs τ->I (k+1) zs τ) (I (k+1) ys τ3)) /\
  ∀ys τ,I n ys τ->Q (.own ys) (eC ix ρ1 τ)
def zy (ix:List (Option Nat)) (pi:PTI) (g:PTG) (pt:PTT) (pi2:PTI) (g2:PTG) (pt2:PTT) (pe:PTE):PTE:=fun ρ Q=>pi ρ fun n it ρ1=>Do ix ρ1=true/\DB ix ρ1 n it g pt pi2 g2 pt2 pe Q
theorem yz {K:PySem.W.Frag}{ix:List (Option Nat)}{wi wi2:TI}{pi pi2:PTI}{g g2:TG}{pg pg2:PTG}{tts tts2:TT}{pt pt2:PTT}{te:TE}{pe:PTE} (hix:zr ix=true) (hi:LI K wi pi) (hg:∀fs:List Nat,(∀k∈fs,k∈wk ix)->LGd K fs g pg) (ht:LT K tts pt)
  (hi2:LI K wi2 pi2) (hg2:∀fs:List Nat,(∀k∈fs,k∈wk ix)->LGd K fs g2 pg2) (ht2:LT K tts2 pt2) (he:LE K te pe) :
  LE K (wz ix wi g tts fun D=>Ba wi2 g2 tts2 (A9 te D)) (zy ix pi pg pt pi2 pg2 pt2 pe):=fun A ρ σ H Q Q' R q k=>hi A ρ σ H _ _ R q fun J H1 n it ρ1 q1 f1 R1 W D hD=>by
 obtain⟨hcap,⟨I,i0,turn,after⟩⟩:=q1
 let τρ0:=bX ix ρ1
 let τσ0:=oX ix σ
 let Ai:Addr->Prop:=fun b=>A b\/b=D\/(Wr ρ1 σ b/\¬ Wr τρ0 τσ0 b)
 let H0':=upd H1 D (.lst [])
 have wsub:∀b,Wr τρ0 τσ0 b->Wr ρ1 σ b:=fun b ⟨m,p,e,o,s⟩=>by
  obtain⟨j,h1,h2⟩:=c8 e
  obtain⟨v,hv,_⟩:=R1.get j p h2
  have:=de h1 hv
  rw [s] at this
  cases this
  exact⟨j,p,h2,o,hv⟩
 have nD:¬ Wr ρ1 σ D:=fun z=>R1.wr z hD
 have oosub:∀b,OO Ai τρ0 τσ0 b->OO A ρ1 σ b\/b=D:=fun b z=>by
  rcases z with (z|z|z)|z
  .exact .inl (.inl z)
  .exact .inr z
  .exact .inl (.inr z.1)
  .exact .inl (.inr (wsub b z))
 have kD:aM (OO A ρ1 σ) H1 (OO Ai τρ0 τσ0) H0':=fun b o nn e=>by
  refine⟨fun z=>?_,?_⟩
  .rcases oosub b z with z|z
   .exact nn z
   .rw [z,hD] at e;cases e
  .rw [show H0' b=H1 b from aB (bi e hD)];exact e
 have Ri:Rel K Ai τρ0 τσ0 H0':=by
  refine⟨by show (bX ix ρ1).length=(oX ix σ).length;unfold bX oX;rw [List.length_map,List.length_map],fun m p e=>?_,fun m l p q v e1 e2 o1 o2 s1 s2=>?_,fun b z=>?_,fun b z w=>?_⟩
  .obtain⟨j,h1,h2⟩:=c8 e
   obtain⟨v,hv,r⟩:=R1.get j p h2
   refine⟨v,de h1 hv,r.keeps kD fun ow a ea=>?_⟩
   subst ea
   exact aB (fun z=>nD (by rw [<- z];exact⟨j,p,h2,ow,hv⟩))
  .obtain⟨j,h1,h2⟩:=c8 e1
   obtain⟨j',h3,h4⟩:=c8 e2
   obtain⟨v1,hv1,_⟩:=R1.get j p h2
   obtain⟨v2,hv2,_⟩:=R1.get j' q h4
   have t1:=de h1 hv1
   have t2:=de h3 hv2
   rw [s1] at t1
   rw [s2] at t2
   cases t1
   cases t2
   have:=R1.dj j j' p q _ h2 h4 o1 o2 hv1 hv2
   subst this
   exact ke hix h1 h3
  .rcases z with z|z|z
   .intro e
    by_cases zz:b=D
    .exact R1.dom b z (by rw [zz];exact hD)
    .rw [show H0' b=H1 b from aB zz] at e;exact R1.dom b z e
   .rw [z];show upd H1 D _ D≠none;rw [aL];exact nofun
   .intro e
    rw [show H0' b=H1 b from aB (fun zz=>nD (by rw [<- zz];exact z.1))] at e;exact R1.wr z.1 e
  .rcases z with z|z|z
   .exact R1.sep b z (wsub b w)
   .rw [z] at w;exact nD (wsub D w)
   .exact z.2 w
 let fxi:List (Nat×V):=(wk ix).filterMap fun m=>match (τσ0[m]?) with|some (some v)=>some (m,v)|_=>none
 have hfx:∀p∈fxi,τσ0[p.1]?=some (some p.2):=fun p hp=>by
  obtain⟨m,hm,e⟩:=List.mem_filterMap.mp hp
  split at e
  .rename_i v ev;cases e;exact ev
  .cases e
 have hfs:∀m∈fxi.map Prod.fst,m∈wk ix:=fun m hm=>by
  obtain⟨p,hp,rfl⟩:=List.mem_map.mp hm
  obtain⟨m',hm',e⟩:=List.mem_filterMap.mp hp
  split at e
  .cases e;exact hm'
  .cases e
 have hgi:=hg (fxi.map Prod.fst) hfs
 have hgi2:=hg2 (fxi.map Prod.fst) hfs
 have fxget:∀(m j:Nat) (v:V),ix[m]?=some (some j)->σ[j]?=some (some v)->(m,v)∈fxi:=fun m j v h1 h2=>by
  refine List.mem_filterMap.mpr ⟨m,?_,?_⟩
  .unfold wk
   refine List.mem_filter.mpr ⟨List.mem_range.mpr (List.getElem?_eq_some_iff.mp h1).1,?_⟩
   rw [List.getD_eq_getElem?_getD,h1];rfl
  .show (match (oX ix σ)[m]? with|some (some v)=>some (m,v)|_=>none)=_
   rw [de h1 h2]
 let Rr:Addr->Prop:=fun b=>Wr τρ0 τσ0 b\/b=D
 have hRr:∀b,Rr b->OO Ai τρ0 τσ0 b:=fun b z=>z.elim (fun z=>.inr z) (fun z=>.inl (.inr (.inl z)))
 have F0:ek fxi Rr H0' τρ0 τσ0 H0':=⟨fun _ _ _ h=>h,fun _ h=>h,fun b w=>.inl (.inl w),hfx⟩
 refine⟨fun i m τ H2=>i+m=n/\∃ys τρ xs,I i ys τρ/\Rel K Ai τρ τ H2/\ek fxi Rr H0' τρ τ H2/\H2 D=some (.lst xs)/\FVs K (OO Ai τρ τ) H2 xs ys/\∀b,Wr τρ τ b->Wr τρ0 τσ0 b,
  ⟨n,Nat.zero_add n,[],τρ0,[],i0,Ri,F0,aL,.nil,fun _ h=>h⟩,fun i m τ H2 ⟨him,ys,τρ,xs,iv,r2,F2,eD,fD,hw⟩=>?_⟩
 have kk:aM (OO A ρ1 σ) H1 (OO Ai τρ τ) H2:=fun b o nn e=>(F2.keepsR hRr) b o (kD b o nn e).1 (kD b o nn e).2
 obtain⟨go,stop⟩:=W _ H2 kk r2.dom2
 by_cases hk:i<n
 .obtain⟨g1,g2⟩:=go i hk
  refine .inr ⟨g1,fun x H3 y=>?_⟩
  obtain⟨gr,fv⟩:=g2 x H3 y
  have AiD:Ai D:=.inr (.inl rfl)
  refine hgi fxi Ai Rr H0' τρ τ H3 _ x _ _ rfl (F2.fr gr.fr) (r2.gr gr) fv (turn i ys τρ _ hk rfl iv) fun τρ2 τ2 q2 r3 F3 w3=>?_
  refine ht Ai τρ2 τ2 H3 _ _ r3 q2 fun ok H5 τρ3 q3 f5 r5=>?_
  have F5:=F3.fr f5
  have fD5:FVs K (OO Ai τρ3 τ2) H5 xs ys:=((fD.keeps (gr.fr (ρ:=τρ) (σ:=τ)).keeps).keeps (aM.less fun b z=>z.imp id (w3 b))).keeps f5.keeps
  have eD5:H5 D=some (.lst xs):=f5.kp D _ (r3.sep D AiD) (gr D _ eD)
  cases ok with
 |true =>
   refine hi2 Ai τρ3 τ2 H5 _ _ r5 q3 fun J2 H6 n2 it2 τρ4 q4 f6 r6 W2=>?_
   obtain⟨I2,j0,turn2,after2⟩:=q4
   have F6:=F5.fr f6
   have eD6:H6 D=some (.lst xs):=f6.kp D _ (r5.sep D AiD) eD5
   have fD6:=fD5.keeps (f6.keeps (A:=Ai))
   have hw6:∀b,Wr τρ4 τ2 b->Wr τρ0 τσ0 b:=fun b z=>hw b (w3 b (f5.ow b (f6.ow b z)))
   refine⟨fun j l τ' H'=>j+l=n2/\∃zs τρ' xs',I2 j zs τρ'/\Rel K Ai τρ' τ' H'/\ek fxi Rr H0' τρ' τ' H'/\H' D=some (.lst xs')/\FVs K (OO Ai τρ' τ') H' xs' zs/\(∀b,Wr τρ' τ' b->Wr τρ0 τσ0 b)/\aM (OO Ai τρ4 τ2) H6 (OO Ai τρ' τ') H',
    ⟨n2,Nat.zero_add n2,ys,τρ4,xs,j0,r6,F6,eD6,fD6,hw6,fun b o n e=>⟨n,e⟩⟩,fun j l τ' H7 ⟨hjl,zs,τρ',xs',jv,r7,F7,eD7,fD7,hw7,kk7⟩=>?_⟩
   obtain⟨go2,stop2⟩:=W2 _ H7 kk7 r7.dom2
   by_cases hj:j<n2
   .obtain⟨g1',g2'⟩:=go2 j hj
    refine .inr ⟨g1',fun y H8 yy=>?_⟩
    obtain⟨gr8,fv8⟩:=g2' y H8 yy
    refine hgi2 fxi Ai Rr H0' τρ' τ' H8 _ y _ _ rfl (F7.fr gr8.fr) (r7.gr gr8) fv8 (turn2 j zs τρ' _ hj rfl jv) fun τρ9 τ9 q9 r9 F9 w9=>?_
    refine ht2 Ai τρ9 τ9 H8 _ _ r9 q9 fun ok2 H10 τρ10 q10 f10 r10=>?_
    have F10:=F9.fr f10
    have k1:=(gr8.fr (ρ:=τρ') (σ:=τ')).keeps (A:=Ai)
    have k2:aM (OO Ai τρ' τ') H8 (OO Ai τρ9 τ9) H8:=aM.less fun b z=>z.imp id (w9 b)
    have k3:=f10.keeps (A:=Ai)
    have fD10:FVs K (OO Ai τρ10 τ9) H10 xs' zs:=fD7.keeps (kpt k1 (kpt k2 k3))
    have eD10:H10 D=some (.lst xs'):=f10.kp D _ (r9.sep D AiD) (gr8 D _ eD7)
    cases ok2 with
   |true =>
     refine he Ai τρ10 τ9 H10 _ _ r10 q10 fun v H11 p τρ11 q11 f11 o11=>?_
     obtain⟨r11,fv11⟩:=o11.frz
     have F11:=F10.fr f11
     have eD11:H11 D=some (.lst xs'):=f11.kp D _ (r10.sep D AiD) eD10
     have kw:aM (OO Ai τρ11 τ9) H11 (OO Ai τρ11 τ9) (upd H11 D (.lst (xs'++[v]))):=fun b o nn e=>⟨nn,by rw [aB (fun z=>nn (by rw [z];exact .inl AiD))];exact e⟩
     refine⟨xs',eD11,?_,l - 1,by omega,by omega,zs++[p.d],τρ11,xs'++[v],q11.2,r11.amb AiD,⟨fun b o nn e=>?_,fun b z=>?_,F11.ow,F11.fx⟩,aL,((fD10.keeps f11.keeps).append (.cons fv11 .nil)).keeps kw,fun b z=>hw7 b (w9 b (f10.ow b (f11.ow b z))),kpt kk7 (kpt k1 (kpt k2 (kpt k3 (kpt f11.keeps kw))))⟩
     .have:xs'.length=zs.length:=fD10.length
      have:=q11.1
      exact Nat.lt_of_lt_of_le (by omega:xs'.length<1000000) (sz _ (Nat.le_refl _))
     .rw [aB (fun z=>nn (.inr z))];exact F11.kp b o nn e
     .by_cases zz:b=D
      .rw [zz,aL];exact nofun
      .rw [aB zz];exact F11.dm b z
   |false=>exact⟨l - 1,by omega,by omega,zs,τρ10,xs',q10,r10,F10,eD10,fD10,fun b z=>hw7 b (w9 b (f10.ow b z)),kpt kk7 (kpt k1 (kpt k2 k3))⟩
   .have e:j=n2:=by omega
    subst e
    exact .inl ⟨stop2,m - 1,by omega,by omega,zs,τρ',xs',after2 zs τρ' jv,r7,F7,eD7,fD7,hw7⟩
 |false=>exact⟨m - 1,by omega,by omega,ys,τρ3,xs,q3,r5,F5,eD5,fD5,fun b z=>hw b (w3 b (f5.ow b z))⟩
 .have e:i=n:=by omega
  subst e
  refine .inl ⟨stop,?_⟩
  have q':=after ys τρ iv
  have cap:∀(m j:Nat),ix[m]?=some (some j)->∃p v,ρ1[j]?=some (some p)/\σ[j]?=some (some v)/\τ[m]?=some (some v):=fun m j e=>by
   have h1:=List.all_eq_true.mp hcap _ (List.mem_of_getElem? e)
   have h1:(match ρ1[j]? with|some (some _)=>true|_=>false)=true:=h1
   split at h1
   .rename_i p ep
    obtain⟨v,hv,_⟩:=R1.get j p ep
    exact⟨p,v,ep,hv,F2.fx _ (fxget m j v e hv)⟩
   .cases h1
  have get':∀(j:Nat) (p:PV),(eC ix ρ1 τρ)[j]?=some (some p)->(∃m v,ix[m]?=some (some j)/\σ[j]?=some (some v)/\τ[m]?=some (some v)/\τρ[m]?=some (some p))\/(some j∉ix/\ρ1[j]?=some (some p)):=fun j p e=>by
   by_cases hj:some j∈ix
   .obtain⟨m,hm,em⟩:=List.getElem_of_mem hj
    have em':ix[m]?=some (some j):=by rw [List.getElem?_eq_getElem hm,em]
    obtain⟨p0,v,h1,h2,h3⟩:=cap m j em'
    rw [nz ix ρ1 τρ j m hix em' (by rw [r2.len];exact (List.getElem?_eq_some_iff.mp h3).1) (List.getElem?_eq_some_iff.mp h1).1] at e
    exact .inl ⟨m,v,em',h2,h3,e⟩
   .rw [iS ix ρ1 τρ j hj] at e
    exact .inr ⟨hj,e⟩
  have nocap:∀(j:Nat) (p:PV) (b:Addr),some j∉ix->ρ1[j]?=some (some p)->p.isOwn=true->σ[j]?=some (some (.ref b))->¬ Wr τρ0 τσ0 b:=fun j p b hj e o s ⟨m,q,e1,o1,s1⟩=>by
   obtain⟨j',h1,h2⟩:=c8 e1
   obtain⟨v,hv,_⟩:=R1.get j' q h2
   have:=de h1 hv
   rw [s1] at this
   cases this
   have:=R1.dj j j' p q _ e h2 o o1 s hv
   subst this
   exact hj (List.mem_of_getElem? h1)
  have w':∀b,Wr (eC ix ρ1 τρ) σ b->Wr τρ τ b\/(Wr ρ1 σ b/\¬ Wr τρ0 τσ0 b):=fun b ⟨j,p,e,o,s⟩=>by
   rcases get' j p e with ⟨m,v,h1,h2,h3,h4⟩|⟨hj,h1⟩
   .rw [s] at h2;cases h2;exact .inl ⟨m,p,h4,o,h3⟩
   .exact .inr ⟨⟨j,p,h1,o,s⟩,nocap j p b hj h1 o s⟩
  have oo':∀b,OO (eG A D) (eC ix ρ1 τρ) σ b->OO Ai τρ τ b:=fun b z=>by
   rcases z with (z|z)|z
   .exact .inl (.inl z)
   .exact .inl (.inr (.inl z))
   .rcases w' b z with z|z
    .exact .inr z
    .exact .inl (.inr (.inr z))
  have kp1:∀b o,¬ Wr τρ0 τσ0 b->b≠D->H1 b=some o->H2 b=some o:=fun b o n1 n2 e=>F2.kp b o (fun z=>z.elim n1 n2) (by rw [show H0' b=H1 b from aB n2];exact e)
  have k1:aM (OO A ρ1 σ) H1 (OO (eG A D) (eC ix ρ1 τρ) σ) H2:=fun b o nn e=>⟨fun z=>(kk b o nn e).1 (oo' b z),(kk b o nn e).2⟩
  have AiD:Ai D:=.inr (.inl rfl)
  have R':Rel K (eG A D) (eC ix ρ1 τρ) σ H2:=by
   refine⟨by rw [kc];exact R1.len,fun j p e=>?_,fun j l p q v e1 e2 o1 o2 s1 s2=>?_,fun b z=>?_,fun b z w=>?_⟩
   .rcases get' j p e with ⟨m,v,h1,h2,h3,h4⟩|⟨hj,h1⟩
    .obtain⟨v',hv',r⟩:=r2.get m p h4
     rw [h3] at hv';cases hv'
     exact⟨v,h2,r.keeps (aM.less oo') fun _ _ _=>rfl⟩
    .obtain⟨v,hv,r⟩:=R1.get j p h1
     refine⟨v,hv,r.keeps k1 fun ow a ea=>?_⟩
     subst ea
     obtain⟨a',u,e1,e2⟩:=r.ref ow
     cases e1
     rw [e2]
     exact kp1 a u (nocap j p a hj h1 ow hv) (fun z=>by rw [z,hD] at e2;cases e2) e2
   .rcases get' j p e1 with ⟨m,v1,h1,h2,h3,h4⟩|⟨hj,h1⟩
    .rw [s1] at h2;cases h2
     rcases get' l q e2 with ⟨m',v2,g1,g2,g3,g4⟩|⟨hl,g1⟩
     .rw [s2] at g2;cases g2
      have:=r2.dj m m' p q _ h4 g4 o1 o2 h3 g3
      subst this
      rw [h1] at g1;cases g1;rfl
     .exfalso
      obtain⟨v',hv',r⟩:=r2.get m p h4
      rw [h3] at hv';cases hv'
      obtain⟨a,u,ea,_⟩:=r.ref o1
      subst ea
      exact nocap l q a hl g1 o2 s2 (hw a ⟨m,p,h4,o1,h3⟩)
    .rcases get' l q e2 with ⟨m',v2,g1,g2,g3,g4⟩|⟨hl,g1⟩
     .rw [s2] at g2;cases g2
      exfalso
      obtain⟨v',hv',r⟩:=r2.get m' q g4
      rw [g3] at hv';cases hv'
      obtain⟨a,u,ea,_⟩:=r.ref o2
      subst ea
      exact nocap j p a hj h1 o1 s1 (hw a ⟨m',q,g4,o2,g3⟩)
     .exact R1.dj j l p q v h1 g1 o1 o2 s1 s2
   .rcases z with z|z
    .exact r2.dom b (.inl z)
    .rw [z,eD];exact nofun
   .rcases w' b w with w|w
    .rcases z with z|z
     .exact r2.sep b (.inl z) w
     .rw [z] at w;exact r2.sep D AiD w
    .rcases z with z|z
     .exact R1.sep b z w.1
     .rw [z] at w;exact nD w.1
  have f2:Fr ρ1 σ H1 (eC ix ρ1 τρ) H2:=by
   refine⟨fun b o nn e=>kp1 b o (fun z=>nn (wsub b z)) (fun z=>by rw [z,hD] at e;cases e) e,fun b z=>F2.dm b ?_,fun b z=>?_⟩
   .intro e
    by_cases zz:b=D
    .exact z (by rw [zz];exact hD)
    .rw [show H0' b=H1 b from aB zz] at e;exact z e
   .rcases w' b z with z|z
    .exact wsub b (hw b z)
    .exact z.1
  have hD0:H D=none:=by
   cases e:H D with
  |none=>rfl
  |some o=>exact absurd hD (f1.dm D (by rw [e];exact nofun))
  exact k _ H2 (.own ys) _ q' (f1.trans f2) ⟨D,xs,rfl,fun z=>R1.dom D z hD,hD0,eD,R',fD.keeps (aM.less oo')⟩
section
variable {X:Cx}{K:PySem.W.Frag}{te:TE}{pe:PTE}{fs:List Nat}
abbrev FS:R2:=rI Cj fun i j=>.int (i*2^j.toNat)
abbrev DC:F2:=fI (fun i j=>0<=j/\j<=1000000/\i.natAbs<2^64) fun i j=>.int (i*2^j.toNat)
theorem yA:OpR X (binaryOp .LShift) FS:=Cr
theorem sN:LO K FS DC:=De fun _ _ _ _=>.int _
abbrev B1:R2:=rI (fun _ j=>0<=j) fun i j=>.int (i / 2^j.toNat)
abbrev B2:F2:=fI (fun _ j=>0<=j) fun i j=>.int (i / 2^j.toNat)
theorem wA:OpR X (binaryOp .RShift) B1:=Cs
theorem pI:LO K B1 B2:=De fun _ _ _ _=>.int _
abbrev ut:R2:=rI0 fun i j=>.int (Builtin.bitAnd i j)
abbrev uu:F2:=fI0 fun i j=>.int (Builtin.bitAnd i j)
theorem pJ:OpR X (binaryOp .BitAnd) ut:=Ct
theorem kU:LO K ut uu:=yd fun _ _ _ _=>.int _
end
section
variable {prog:Program}{w:World}{A:Around}{E:Value->Shared->Prop}{s:Shared}
theorem pK {it t:Addr}{items:Array Value} (hne:t≠it):∀(n i:Nat) (s:Shared) (Q:List Value->Shared->Prop),s.heap.IsListIter it t i->s.heap.IsList t items->i+n<=items.size ->
  (∀h',h'.IsListIter it t (i+n)->Heap.SameBut it s.heap h'->Q ((items.toList.drop i).take n) { s with heap:=h' })->wpAny (model prog w) A (draw (.ref it) n) Q E s
|0,i,s,Q,hit,_,_,hQ=>by
  show wpAny _ _ (pure []) Q E s
  exact wpAny_pure (by simpa using hQ s.heap hit (Heap.SameBut.refl ..))
|n+1,i,s,Q,hit,ht,hle,hQ=>by
  have hlt:i<items.size:=by omega
  show wpAny _ _ (pyNext (.ref it) >>= _) Q E s
  refine wpAny_bind (wpAny_pyNext_list_item hit ht (x:=items[i]) (by simp [hlt]) fun h₁ hit₁ hs₁=>?_)
  refine wpAny_bind (wpAny_holding (pK hne n (i+1) _ _ hit₁ (ht.extBut hs₁.extBut hne) (by omega) fun h₂ hit₂ hs₂=>wpAny_pure ?_))
  have hd:items.toList.drop i=items[i]::items.toList.drop (i+1):=by simp [List.drop_eq_getElem_cons,hlt]
  have:=hQ h₂ (by rw [show i+(n+1)=i+1+n by omega];exact hit₂) (hs₁.trans hs₂)
  rw [hd,List.take_succ_cons] at this
  exact this
theorem j3 {t:Addr}{items:Array Value}{Q:List Value->Shared->Prop} (hh:A.handled=none) (ht:s.heap.IsList t items)
  (hQ:∀h',Heap.ExtBut s.heap.objs.size s.heap h'->Q items.toList { s with heap:=h' }):wpAny (model prog w) A (unpackItems (.ref t) items.size none) Q E s:=by
 have hlt:t≠s.heap.objs.size:=by obtain⟨o,ho,_⟩:=ht;exact Nat.ne_of_lt (Heap.lt_size ho)
 unfold unpackItems
 refine wpAny_bind ?_
 .unfold notIterableAtAll
  refine wpAny_bind (wpAny_specialOf ht.typeIs PySem.F.slot_list_iter.lookup ?_)
  refine wpAny_pure ?_
  simp only [Bool.false_eq_true,if_false]
  refine wpAny_bind (wpAny_holding (wpAny_pyIter_list ht ?_))
  refine wpAny_bind (wpAny_holding (pK hlt items.size 0 _ _ ⟨_,Heap.get?_push_size _ rfl,rfl,rfl⟩ (ht.push _) (by omega) fun h₁ hit₁ hs₁=>?_))
  have hall:List.take items.size (List.drop 0 items.toList)=items.toList:=by
   rw [List.drop_zero];exact List.take_of_length_le (by simp)
  rw [hall]
  rw [if_neg (by simp)]
  have ht₁:h₁.IsList t items:=(ht.push _).extBut hs₁.extBut hlt
  refine wpAny_bind (wpAny_holding (wpAny_pyNext_list_end hh hit₁ ht₁ (by simp) fun h₂ he₂=>?_))
  simp only [Option.isSome_none,Bool.false_eq_true,if_false]
  refine wpAny_pure (hQ h₂ fun b o hb e=>he₂ b o hb (hs₁.extBut b o hb (Heap.get?_push_of_some _ e)))
theorem jh {env:Env}{elts:List Expr}{x1}{pos:Pos}{t:Addr}{items:Array Value}{Q:Unit->Shared->Prop} (hh:A.handled=none) (ht:s.heap.IsList t items)
  (hn:(assignEach elts env).length=items.size) (hstar:(assignEach elts env).findIdx? (·.1)=none)
  (h:∀h',Heap.ExtBut s.heap.objs.size s.heap h'->wpAny (model prog w) A (assignInOrder ((assignEach elts env).map (·.2)) items.toList) Q E { s with heap:=h' }) :
  wpAny (model prog w) A (assign (.Tuple elts x1 pos) env (.ref t)) Q E s:=by
 rw [assign_Tuple]
 refine wpAny_bind (wpAny_standAt ?_)
 unfold unpack
 rw [hn,hstar]
 exact wpAny_bind (wpAny_holding (j3 hh ht h))
end
def FT (K:PySem.W.Frag) (n:Nat) (t:TGs):TG:=fun v σ H Q=>∃b a xs,v=.ref a/\Sq b K H a xs/\xs.length=n/\t xs σ H Q
section
variable {X:Cx}
theorem zA (K:PySem.W.Frag) (eK:X.K=K) {es:List Expr}{k:Nat}{t:TGs}{n:Nat}{pos:Pos} (hc:X.calm=true) (h:PGs X es t)
  (hn:(assignEach es X.env).length=n:=by rfl) (hst:(assignEach es X.env).findIdx? (·.1)=none:=by rfl):PG X (.Tuple es k pos) (FT K n t):=by
 subst eK
 intro pins s σ H v u Q I r hw
 obtain⟨b,a,xs,e1,hq,hl,hw⟩:=hw
 cases b with
|true=>exact Ch hc h hn hst pins s σ H v u Q I r ⟨a,xs,e1,hq,hl,hw⟩
|false =>
  subst e1
  cases r
  obtain⟨its,rv,ht,hz⟩:=I.list hq
  refine jh (I.ok.hd hc) ht.isList (by simp [hn,<- hl,rv.length]) hst fun h' hx=>?_
  have I1:Inv X pins σ H { s with heap:=h' }:=I.kept (t':=s.toks) fun b o e=>hx b o (Nat.ne_of_lt (Heap.lt_size e)) e
  exact h pins _ σ H xs _ Q I1 (by simpa using rv) hw
def yB (n:Nat) (gs:AQ):PTG:=fun p ρ Q=>match p with|.dat (.tup ds)=>ds.length=n/\gs ds ρ Q|.dat (.lst ds)=>ds.length=n/\gs ds ρ Q|.own ds=>ds.length=n/\gs ds ρ Q|_=>False
end
section
variable {K:PySem.W.Frag}{fs:List Nat}
theorem wB {n:Nat}{gs:TGs}{pgs:AQ} (h:LGs K fs gs pgs):LGd K fs (FT K n gs) (yB n pgs):=fun fx A R H0 ρ σ H d v Q Q' hf F r fv q k=>by
 unfold yB at q
 split at q
 .rename_i e
  cases e
  cases fv with
 |tup nn e f=>exact⟨true,_,_,rfl,SqT.of e,by rw [f.length];exact q.1,h fx A R H0 ρ σ H _ _ Q Q' hf F r f q.2 k⟩
 .rename_i e
  cases e
  cases fv with
 |lst nn e f=>exact⟨false,_,_,rfl,SqL.of e,by rw [f.length];exact q.1,h fx A R H0 ρ σ H _ _ Q Q' hf F r f q.2 k⟩
 .rename_i e
  cases e
 .exact q.elim
end
def kf (d:D) (xs:List D):Prop:=d=.lst xs\/d=.tup xs
theorem zB {d:D}{xs:List D}{Q:PV->Prop} (h:kf d xs) (q:Q (.dat (.int xs.length))):gm [d] Q:=by
 rcases h with rfl|rfl <;> exact q
theorem qZ {d:D}{xs:List D}{i:Int}{Q:PV->Prop} (h:kf d xs) (q:∃x,atI xs i=some x/\Q (.dat x)):fIx d (.int i) Q:=by
 rcases h with rfl|rfl <;> exact q
theorem kf.lst (xs:List D):kf (.lst xs) xs:=.inl rfl
theorem kf.tup (xs:List D):kf (.tup xs) xs:=.inr rfl
theorem kf.items {d:D}{xs:List D} (h:kf d xs):aV d=xs:=by rcases h with rfl|rfl <;> rfl
def nSt:Expr->Bool
|.Starred _ _=>false
|_=>true
theorem iw {e:Expr}{es:List Expr}{env:Env} (h:nSt e=true):starEach (e::es) env=(false,eval e env)::starEach es env:=by
 cases e <;> first|rfl|cases h
theorem gM {env:Env}{pos:Pos}:∀{es:List Expr},es.all nSt=true->(backTo pos (starEach es env)).any (·.1)=false
|[],_=>rfl
|e::es,h=>by
  rw [List.all_cons,Bool.and_eq_true] at h
  rw [iw h.1]
  show (false || (backTo pos (starEach es env)).any (·.1))=false
  rw [gM h.2];rfl
section
variable {X:Cx}{k:Nat}{x:Str}{ps:List Str}{sp:Sp}{e:Expr}{es:List Expr}{te:TE}{t:TA}{p pos:Pos}{dvs:List V}{C:Addr}{id T:String}{r:List V->Hp->VK->Prop}
theorem paC (ha:PE X e te) (hr:PA X es t) (hn:nSt e=true:=by rfl):PA X (e::es) (aW te t):=Ag ha hr (iw hn)
theorem aA (C:Cal X.prog X.w X.K X.mg X.base k x ps sp) (hr:gh k X.A) (ha:PA X (e::es) t) (hg:Gl X x:=by rfl) (hdb:(x == ("__debug__":Str))=false:=by decide) (hn:nSt e=true:=by rfl) (hp:es.all nSt=true:=by rfl) :
  PE X (.Call (.Name x p) (e::es) [] pos) (eB sp [] E0 t):=CW C hr ha hg hdb (iw hn) (gM hp)
theorem yC (j:Nat) (C:C5 X.prog X.w X.K X.mg X.base k x ps dvs sp) (hr:gh k X.A) (hj:j<=dvs.length) (ha:PA X (e::es) t) (hg:Gl X x:=by rfl) (hdb:(x == ("__debug__":Str))=false:=by decide) (hn:nSt e=true:=by rfl) (hp:es.all nSt=true:=by rfl) :
  PE X (.Call (.Name x p) (e::es) [] pos) (eB sp (dvs.drop j) E0 t):=AC j C hr hj ha hg hdb (iw hn) (gM hp)
theorem sO (M:C9 X.prog X.w X.K X.mg X.base k C x ps sp) (hr:gh (k+1) X.A) (ha:PA X (e::es) t) (hg:Gl X x:=by rfl) (hdb:(x == ("__debug__":Str))=false:=by decide) (hn:nSt e=true:=by rfl) (hp:es.all nSt=true:=by rfl) :
  PE X (.Call (.Name x p) (e::es) [] pos) (xL C sp [] E0 t):=AD M hr ha hg hdb (iw hn) (gM hp)
theorem az (hc:cw X (.builtin id) r) (hg:Gl X x) (hm:X.mg x=none) (hv:bootBuiltins x=some (.builtin id)) (ha:PA X (e::es) t) (hnn:x≠"__name__":=by decide) (hdb:(x == ("__debug__":Str))=false:=by decide) (hn:nSt e=true:=by rfl) (hp:es.all nSt=true:=by rfl) :
  PE X (.Call (.Name x p) (e::es) [] pos) (tCB r t):=xO hc hg hm hv ha hnn hdb (iw hn) (gM hp)
theorem bv (hc:cw X (.type T) r) (hg:Gl X x) (hm:X.mg x=none) (hv:bootBuiltins x=some (.type T)) (ha:PA X (e::es) t) (hnn:x≠"__name__":=by decide) (hdb:(x == ("__debug__":Str))=false:=by decide) (hn:nSt e=true:=by rfl) (hp:es.all nSt=true:=by rfl) :
  PE X (.Call (.Name x p) (e::es) [] pos) (tCB r t):=ve hc hg hm hv ha hnn hdb (iw hn) (gM hp)
end
def plT:Expr->Bool
|.Call _ _ _ _=>true
|.Name _ _=>true
|.Subscript _ _ _=>true
|.Attribute _ _ _=>true
|_=>false
theorem Bd {e:Expr}{env:Env} (h:plT e=true):∀whole,isTrue e env whole=(do let v <- whole;standAt e.pos;holding [v] (truthy v)):=by
 cases e <;> first|(intro _;rfl)|cases h
theorem eY {X:Cx}{e:Expr}{t:TE} (h:PE X e t) (hp:plT e=true:=by rfl):PT X e (tB t):=Cb h (Bd hp)
def ga (a b:List Nat):Bool:=decide (0<=fnd b a 0)
def du (ps:List (List Nat)) (i:Nat):Bool:=!decide (pw ps i∈ps.take i) && !(ps.filter fun o=>decide ((pw ps i).length<o.length)).any fun o=>ga (pw ps i) o
theorem nK {a b:List Nat}:ga a b=true ↔ ∃k,stA b a k=true:=by
 unfold ga
 constructor
 .intro h
  have h0:fnd b a 0≠-1:=fun z=>by rw [z] at h;exact absurd (of_decide_eq_true h) (by decide)
  obtain⟨k,_,_,h1,_⟩:=si h0
  exact⟨k,h1⟩
 .rintro⟨k,hk⟩
  by_cases h0:fnd b a 0=-1
  .rw [x0 h0 k (Nat.zero_le _)] at hk;cases hk
  .obtain⟨j,e,_⟩:=si h0
   rw [e];exact decide_eq_true (by omega)
theorem yD (a:List Nat):ga a a=true:=nK.mpr ⟨0,decide_eq_true ⟨by omega,by rw [List.drop_zero,List.take_length]⟩⟩
theorem wC {a b c:List Nat} (h1:ga a b=true) (h2:ga b c=true):ga a c=true:=by
 obtain⟨k1,e1⟩:=nK.mp h1
 obtain⟨k2,e2⟩:=nK.mp h2
 obtain⟨l1,t1⟩:=of_decide_eq_true e1
 obtain⟨l2,t2⟩:=of_decide_eq_true e2
 refine nK.mpr ⟨k2+k1,decide_eq_true ⟨by omega,?_⟩⟩
 have hb:b.drop k1=(c.drop (k2+k1)).take (b.length - k1):=by
  rw [<- t2,List.drop_take,List.drop_drop,t2]
 have ha:a=((c.drop (k2+k1)).take (b.length - k1)).take a.length:=by rw [<- hb,t1]
 rw [List.take_take,show min a.length (b.length - k1)=a.length by omega] at ha
 exact ha.symm
theorem yE {ps:List (List Nat)}{i:Nat}:du ps i=true ↔ pw ps i∉ps.take i/\∀o∈ps,(pw ps i).length<o.length->ga (pw ps i) o=false:=by
 unfold du
 rw [Bool.and_eq_true,Bool.not_eq_true',Bool.not_eq_true',decide_eq_false_iff_not,List.any_eq_false]
 constructor
 .rintro⟨h1,h2⟩
  refine⟨h1,fun o ho hl=>?_⟩
  have:=h2 o (List.mem_filter.mpr ⟨ho,decide_eq_true hl⟩)
  simpa using this
 .rintro⟨h1,h2⟩
  refine⟨h1,fun o ho=>?_⟩
  obtain⟨m1,m2⟩:=List.mem_filter.mp ho
  rw [h2 o m1 (of_decide_eq_true m2)];decide
theorem wD {ps:List (List Nat)} (hw:∀w∈ps,w.length<=60):∀(m i:Nat),i<ps.length->(61 - (pw ps i).length)*(ps.length+1)+i<=m->∃j,j<ps.length/\du ps j=true/\ga (pw ps i) (pw ps j)=true:=by
 intro m
 induction m with
|zero =>
  intro i hi h
  have hl:=hw _ (List.mem_of_getElem? (hU hi))
  have:0<(61 - (pw ps i).length)*(ps.length+1):=Nat.mul_pos (by omega) (by omega)
  omega
|succ m ih =>
  intro i hi h
  have hl:=hw _ (List.mem_of_getElem? (hU hi))
  by_cases hk:du ps i=true
  .exact⟨i,hi,hk,yD _⟩
  .by_cases h1:pw ps i∈ps.take i
   .obtain⟨i',hi'⟩:=List.mem_iff_getElem?.mp h1
    have hlt:i'<i:=by
     have:=(List.getElem?_eq_some_iff.mp hi').1
     rw [List.length_take] at this;omega
    have he:pw ps i'=pw ps i:=by
     rw [List.getElem?_take,if_pos hlt] at hi'
     have:=hU (ws:=ps) (k:=i') (by omega)
     rw [hi'] at this;exact (Option.some.inj this).symm
    obtain⟨j,a1,a2,a3⟩:=ih i' (by omega) (by rw [he];omega)
    exact⟨j,a1,a2,by rw [<- he];exact a3⟩
   .have h2:∃o∈ps,(pw ps i).length<o.length/\ga (pw ps i) o=true:=by
     apply Classical.byContradiction
     intro z
     refine hk (yE.mpr ⟨h1,fun o ho hlo=>?_⟩)
     cases hs:ga (pw ps i) o with
    |false=>rfl
    |true=>exact absurd ⟨o,ho,hlo,hs⟩ z
    obtain⟨o,ho,hlo,hs⟩:=h2
    obtain⟨i',hi'⟩:=List.mem_iff_getElem?.mp ho
    have hlt:i'<ps.length:=(List.getElem?_eq_some_iff.mp hi').1
    have he:pw ps i'=o:=by
     have:=hU hlt
     rw [hi'] at this;exact (Option.some.inj this).symm
    have hm:(61 - o.length+1)*(ps.length+1)<=(61 - (pw ps i).length)*(ps.length+1):=Nat.mul_le_mul_right _ (by have:=hw o ho;omega)
    rw [Nat.add_mul,Nat.one_mul] at hm
    obtain⟨j,a1,a2,a3⟩:=ih i' hlt (by rw [he];omega)
    rw [he] at a3
    exact⟨j,a1,a2,wC hs a3⟩
def rc (a b:List Nat) (k:Nat):Prop:=k<min a.length b.length/\b.take k <:+ a/\∀j,j<min a.length b.length->b.take j <:+ a->j<=k
theorem rc.uniq {a b:List Nat}{j k:Nat} (x:rc a b j) (y:rc a b k):j=k:=Nat.le_antisymm (y.2.2 j x.1 x.2.1) (x.2.2 k y.1 y.2.1)
def gA (a b:List Nat):Nat:=open Classical in if h:∃k,rc a b k then Classical.choose h else 0
theorem wE {a b:List Nat} (ha:0<a.length) (hb:0<b.length):rc a b (gA a b):=by
 obtain⟨k,h1,h2,h3⟩:=kK (fun k=>b.take k <:+ a) (by rw [List.take_zero];exact List.nil_suffix) (min a.length b.length) (by omega)
 have h:∃k,rc a b k:=⟨k,h1,h2,h3⟩
 unfold gA
 rw [dif_pos h]
 exact Classical.choose_spec h
theorem nL {a b:List Nat}{k:Nat} (h:rc a b k):gA a b=k:=(wE (by have:=h.1;omega) (by have:=h.1;omega)).uniq h
def aP (ps:List (List Nat)):List Nat:=(List.range ps.length).filter (du ps)
def wF (ps:List (List Nat)):List Nat:=(List.range ps.length).filter fun i=>!decide (i∈aP ps)
def ao (ps:List (List Nat)):List (List Nat):=(aP ps).map (pw ps)
theorem gB {ps:List (List Nat)}{i:Nat} (h:i∈aP ps):i<ps.length:=List.mem_range.mp (List.mem_filter.mp h).1
theorem ji (ps:List (List Nat)):(aP ps).length<=ps.length:=Nat.le_trans (List.length_filter_le ..) (by rw [List.length_range];omega)
theorem e8 {m:Nat}{ps:List (List Nat)} (h:Pcs m ps):Pcs m (ao ps):=fun w hw=>by
 obtain⟨i,hi,rfl⟩:=List.mem_map.mp hw
 exact h _ (hV (gB hi))
theorem fb (ps:List (List Nat)):(ao ps).length<=ps.length:=by unfold ao;rw [List.length_map];exact ji ps
def kW (ps:List (List Nat)) (i:Nat):List Nat:=(aP ps).filter fun j=>ga (pw ps i) (pw ps j)
def sP (ps:List (List Nat)) (i:Nat):Nat:=(kW ps i).headD 0
theorem yF {l:List Nat} (h:l.Pairwise (·<·)) {m:Nat} (hm:m∈l) (hle:∀a∈l,m<=a):l.headD 0=m:=by
 cases l with
|nil=>cases hm
|cons x r =>
  show x=m
  have h1:=hle x (List.mem_cons_self ..)
  rcases List.mem_cons.mp hm with e|e
  .exact e.symm
  .have:=(List.pairwise_cons.mp h).1 m e;omega
theorem pL (ps:List (List Nat)):(aP ps).Pairwise (·<·):=List.pairwise_lt_range.filter _
theorem wG {ps:List (List Nat)}{i m:Nat} (hm:m∈kW ps i) (hle:∀a∈kW ps i,m<=a):sP ps i=m:=yF ((pL ps).filter _) hm hle
theorem uv {ps:List (List Nat)} (hw:∀w∈ps,w.length<=60) {i:Nat} (hi:i<ps.length):∃j,j∈kW ps i:=by
 obtain⟨j,h1,h2,h3⟩:=wD hw _ i hi (Nat.le_refl _)
 exact⟨j,List.mem_filter.mpr ⟨List.mem_filter.mpr ⟨List.mem_range.mpr h1,h2⟩,h3⟩⟩
def et (ps:List (List Nat)) (i:Nat):D:=.tup [.int (i:Int),.int (sP ps i:Int),.int (fnd (pw ps (sP ps i)) (pw ps i) 0)]
def DD (ws:List (List Nat)):D:=.tup (ws.map fun w=>.tup (ws.map fun v=>.int (gA w v:Int)))
def re (ps:List (List Nat)):Int:=((ao ps).map fun w=>(w.length:Int)).sum
def nD (k:Nat):D:=.int (k:Int)
def lS:List Str:=["pieces","kept","words","left","laps","total"]
def lT (ps:List (List Nat)):List D:=[.tup (ps.map .str),.tup ((aP ps).map nD),.tup ((ao ps).map .str),.tup ((wF ps).map (et ps)),DD (ao ps),.int (re ps)]
theorem wH {ks:List Nat}{k:Nat} (h:k<(ks.map nD).length):itD (ks.map nD) k=.int ((ks.getD k 0:Nat):Int):=fV (by
 have h:k<ks.length:=by rwa [List.length_map] at h
 rw [List.getElem?_map,List.getD_eq_getElem?_getD,List.getElem?_eq_getElem h];rfl)
theorem nM (w:List Nat):∀ws:List (List Nat),inD (.str w) (ws.map .str)=decide (w∈ws)
|[]=>by simp [inD]
|v::r=>by
  have ih:=nM w r
  unfold inD at ih ⊢
  rw [List.map_cons,List.any_cons,ih]
  show ((v == w) || decide (w∈r))=_
  by_cases h:v=w
  .subst h;simp
  .rw [beq_eq_false_iff_ne.mpr h,Bool.false_or]
   by_cases h2:w∈r
   .rw [decide_eq_true h2,decide_eq_true (List.mem_cons_of_mem _ h2)]
   .rw [decide_eq_false h2,decide_eq_false (fun z=>(List.mem_cons.mp z).elim (fun e=>h e.symm) h2)]
theorem sQ (k:Nat):∀ks:List Nat,inD (.int (k:Int)) (ks.map nD)=decide (k∈ks)
|[]=>by simp [inD]
|v::r=>by
  have ih:=sQ k r
  unfold inD at ih ⊢
  rw [List.map_cons,List.any_cons,ih]
  show (((v:Int) == (k:Int)) || decide (k∈r))=_
  by_cases h:v=k
  .subst h;simp
  .rw [show ((v:Int) == (k:Int))=false from beq_eq_false_iff_ne.mpr (by omega),Bool.false_or]
   by_cases h2:k∈r
   .rw [decide_eq_true h2,decide_eq_true (List.mem_cons_of_mem _ h2)]
   .rw [decide_eq_false h2,decide_eq_false (fun z=>(List.mem_cons.mp z).elim (fun e=>h e.symm) h2)]
theorem wI (ws:List (List Nat)):(ws.map D.str).all D.fl=true:=by rw [List.all_map];exact List.all_eq_true.mpr fun _ _=>rfl
theorem Be (ks:List Nat):(ks.map nD).all D.fl=true:=by rw [List.all_map];exact List.all_eq_true.mpr fun _ _=>rfl
theorem Bf (n:Nat):oB 0 n=(List.range n).map nD:=by
 unfold oB nD
 exact List.map_congr_left fun k _=>by rw [Int.zero_add]
theorem sR (ws:List (List Nat)):(List.range ws.length).map (pw ws)=ws:=by
 apply List.ext_getElem?
 intro k
 rw [List.getElem?_map]
 by_cases hk:k<ws.length
 .rw [List.getElem?_range hk,hU hk];rfl
 .rw [List.getElem?_eq_none (by rw [List.length_range];omega),List.getElem?_eq_none (by omega)];rfl
theorem yG {β:Type} (f:List Nat->Option β) (ws:List (List Nat)):(List.range ws.length).filterMap (fun k=>f (pw ws k))=ws.filterMap f:=by
 conv=>rhs;rw [<- sR ws]
 rw [List.filterMap_map];rfl
theorem c9 {α β:Type} (p:α->Bool) (g:α->β):∀l:List α,l.filterMap (fun a=>if p a=true then some (g a) else none)=(l.filter p).map g
|[]=>rfl
|a::r=>by
  rw [List.filterMap_cons,List.filter_cons]
  cases h:p a with
 |true=>simp [c9 p g r]
 |false=>simp [c9 p g r]
theorem yH {β:Type} (f:Nat->Option β) (ks:List Nat):(List.range ks.length).filterMap (fun k=>f (ks.getD k 0))=ks.filterMap f:=by
 have e:(List.range ks.length).map (fun k=>ks.getD k 0)=ks:=by
  have:=fC (fun k=>k) ks
  rw [List.map_id'] at this;exact this
 conv=>rhs;rw [<- e]
 rw [List.filterMap_map];rfl
theorem iy (n:Nat):(oB 0 n).length=n:=by unfold oB;rw [List.length_map,List.length_range]
theorem kX {n j:Nat} (h:j<(oB 0 n).length):itD (oB 0 n) j=.int (j:Int):=fV (by
 rw [iy] at h
 unfold oB
 rw [List.getElem?_map,List.getElem?_range h]
 show some (D.int (0+(j:Int)))=_
 rw [Int.zero_add])
theorem yI (a b:List Int):deq (.lst (a.map .int)) (.lst (b.map .int))=decide (a=b):=by
 unfold deq
 show PyData.eqv (.list (D.pys _)) (.list (D.pys _))=_
 rw [nG,nG]
 simp only [PyData.eqv]
 exact kE a b
open PySem.Builtin PySem.Builtin.ObjectAttr
open PySem.Builtin PySem.Builtin.ObjectAttr
open PySem.Builtin PySem.Builtin.ObjectAttr
open PySem.Builtin PySem.Builtin.ObjectAttr
theorem wJ (d:D):(PV.dat d).d=d:=rfl
theorem wK (ds:List D):(PV.own ds).d=.lst ds:=rfl
theorem wL (c:Str) (ns:List Str) (ds:List D):(PV.ins c ns ds).d=.obj c ns ds:=rfl
theorem DE (ds:List D):mkL false ds=.own ds:=rfl
theorem DF (ds:List D):mkL true ds=.dat (.tup ds):=rfl
def pkm (ρ:PSt) (j:Nat):Option PV:=match ρ[j]? with
|some v=>v
|none=>none
theorem sS (v:Option PV) (r:PSt):pkm (v::r) 0=v:=rfl
theorem sU (v:Option PV) (r:PSt) (n:Nat):pkm (v::r) (n+1)=pkm r n:=rfl
theorem pM (ρ:PSt):bX [] ρ=[]:=rfl
theorem mM (ix:List (Option Nat)) (ρ:PSt):bX (none::ix) ρ=none::bX ix ρ:=rfl
theorem mN (j:Nat) (ix:List (Option Nat)) (ρ:PSt):bX (some j::ix) ρ=pkm ρ j::bX ix ρ:=rfl
theorem pN (j:Nat) (ix:List (Option Nat)) (ρ:PSt) (t:Option PV) (τ:PSt):eC (some j::ix) ρ (t::τ)=eC ix (ρ.set j t) τ:=rfl
theorem pO (ix:List (Option Nat)) (ρ:PSt) (t:Option PV) (τ:PSt):eC (none::ix) ρ (t::τ)=eC ix ρ τ:=rfl
theorem sV (ρ τ:PSt):eC [] ρ τ=ρ:=rfl
def DG (pe:PTE):PTE:=fun ρ Q=>pe ρ fun p ρ1=>Q (.dat p.d) ρ1
theorem sW {K:PySem.W.Frag}{ta:TE}{pe:PTE} (h:LE K ta pe):LE K ta (DG pe):=fun A ρ σ H Q Q' R q k=>h A ρ σ H _ Q' R q fun v H' p ρ' q f o=>k v H' (.dat p.d) ρ' q f o.frz
theorem Bg {α:Type}{e:α->D}{xs:List α}{k:Nat} (h:k<xs.length):itD (xs.map e) k=e xs[k]:=fV (by rw [List.getElem?_map,List.getElem?_eq_getElem h];rfl)
theorem wM {α β:Type} (f:α->β) (xs:List α) (g:Nat->β) (h:∀k (hk:k<xs.length),g k=f xs[k]):(List.range xs.length).map g=xs.map f:=by
 apply List.ext_getElem?
 intro i
 rw [List.getElem?_map,List.getElem?_map]
 by_cases hi:i<xs.length
 .rw [List.getElem?_range hi,List.getElem?_eq_getElem hi]
  exact congrArg some (h i hi)
 .rw [List.getElem?_eq_none (by rw [List.length_range];omega),List.getElem?_eq_none (by omega)];rfl
section
variable {α:Type}{e:α->D}{xs:List α}{ix:List (Option Nat)}{ρ1:PSt}{g:PTG}{pt:PTT}{pe:PTE}{Q:PKt}
theorem FU (T:PSt->Prop) (f:α->Option D) (h0:T (bX ix ρ1))
  (hs:∀x∈xs,∀τ,T τ->∀(K1:D->PSt->Prop) (K2:PSt->Prop),(∀d τ',f x=some d->T τ'->K1 d τ')->(∀τ',f x=none->T τ'->K2 τ')->g (.dat (e x)) τ fun τ2=>pt τ2 fun ok τ3=>fU ok (pe τ3 fun p τ4=>K1 p.d τ4) (K2 τ3))
  (hq:∀τ,T τ->Q (.own (xs.filterMap f)) (eC ix ρ1 τ)):lO ix ρ1 (xs.map e).length (itD (xs.map e)) g pt pe Q:=by
 refine cfm T (fun k=>(xs[k]?).bind f) h0 (fun k τ d hk ed t K1 K2 k1 k2=>?_) fun τ t=>?_
 .rw [List.length_map] at hk
  rw [Bg hk] at ed
  subst ed
  have eg:(xs[k]?).bind f=f xs[k]:=by rw [List.getElem?_eq_getElem hk];rfl
  rw [eg] at k1 k2
  exact hs _ (List.getElem_mem hk) τ t K1 K2 k1 k2
 .have e1:(List.range (xs.map e).length).filterMap (fun k=>(xs[k]?).bind f)=xs.filterMap f:=by
   rw [List.length_map]
   have h1:(List.range xs.length).map (fun k=>(xs[k]?).bind f)=xs.map f:=wM f xs _ fun k hk=>by rw [List.getElem?_eq_getElem hk];rfl
   have h2:∀l:List Nat,l.filterMap (fun k=>(xs[k]?).bind f)=(l.map fun k=>(xs[k]?).bind f).filterMap id:=fun l=>by rw [List.filterMap_map];rfl
   rw [h2,h1,List.filterMap_map];rfl
  rw [e1];exact hq τ t
theorem Fh (T:PSt->Prop) (f:α->D) (h0:T (bX ix ρ1))
  (hs:∀x∈xs,∀τ,T τ->∀K1:D->PSt->Prop,(∀τ',T τ'->K1 (f x) τ')->g (.dat (e x)) τ fun τ2=>pe τ2 fun p τ4=>K1 p.d τ4)
  (hq:∀τ,T τ->Q (.own (xs.map f)) (eC ix ρ1 τ)):lO ix ρ1 (xs.map e).length (itD (xs.map e)) g iH pe Q:=by
 refine FU T (fun x=>some (f x)) h0 (fun x hx τ t K1 K2 k1 k2=>?_) fun τ t=>?_
 .exact hs x hx τ t K1 fun τ' t'=>k1 _ τ' rfl t'
 .rw [show xs.filterMap (fun x=>some (f x))=xs.map f by rw [<- List.filterMap_eq_map];rfl];exact hq τ t
theorem Fi {β:Type} (p:α->Bool) (f:α->β):∀xs:List α,xs.filterMap (fun x=>if p x=true then some (f x) else none)=(xs.filter p).map f:=c9 p f
theorem cfX (T:PSt->Prop) (p:α->Bool) (f:α->D) (h0:T (bX ix ρ1))
  (hs:∀x∈xs,∀τ,T τ->∀(K1:D->PSt->Prop) (K2:PSt->Prop),(∀τ',p x=true->T τ'->K1 (f x) τ')->(∀τ',p x=false->T τ'->K2 τ')->g (.dat (e x)) τ fun τ2=>pt τ2 fun ok τ3=>fU ok (pe τ3 fun p τ4=>K1 p.d τ4) (K2 τ3))
  (hq:∀τ,T τ->Q (.own ((xs.filter p).map f)) (eC ix ρ1 τ)):lO ix ρ1 (xs.map e).length (itD (xs.map e)) g pt pe Q:=by
 refine FU T (fun x=>if p x=true then some (f x) else none) h0 (fun x hx τ t K1 K2 k1 k2=>hs x hx τ t K1 K2 (fun τ' h t'=>k1 _ τ' (by rw [if_pos h]) t') fun τ' h t'=>k2 τ' (by rw [if_neg (by rw [h];decide)]) t') fun τ t=>?_
 rw [Fi];exact hq τ t
theorem cm1 (f:α->D)
  (hs:∀x∈xs,∀(v:Option PV) (K1:D->PSt->Prop),(∀v',K1 (f x) (v'::(bX ix ρ1).tail))->g (.dat (e x)) (v::(bX ix ρ1).tail) fun τ2=>pe τ2 fun p τ4=>K1 p.d τ4)
  (hq:∀v:Option PV,Q (.own (xs.map f)) (eC ix ρ1 (v::(bX ix ρ1).tail))) (hx:bX ix ρ1=none::(bX ix ρ1).tail:=by rfl):lO ix ρ1 (xs.map e).length (itD (xs.map e)) g iH pe Q:=by
 refine Fh (fun τ=>∃v,τ=v::(bX ix ρ1).tail) f ⟨none,hx⟩ ?_ ?_
 .rintro x hx τ ⟨v,rfl⟩ K1 k1
  exact hs x hx v K1 fun v'=>k1 _ ⟨v',rfl⟩
 .rintro τ ⟨v,rfl⟩
  exact hq v
theorem cf1 (p:α->Bool) (f:α->D)
  (hs:∀x∈xs,∀(v:Option PV) (K1:D->PSt->Prop) (K2:PSt->Prop),(∀v',p x=true->K1 (f x) (v'::(bX ix ρ1).tail))->(∀v',p x=false->K2 (v'::(bX ix ρ1).tail))->g (.dat (e x)) (v::(bX ix ρ1).tail) fun τ2=>pt τ2 fun ok τ3=>fU ok (pe τ3 fun p τ4=>K1 p.d τ4) (K2 τ3))
  (hq:∀v:Option PV,Q (.own ((xs.filter p).map f)) (eC ix ρ1 (v::(bX ix ρ1).tail))) (hx:bX ix ρ1=none::(bX ix ρ1).tail:=by rfl):lO ix ρ1 (xs.map e).length (itD (xs.map e)) g pt pe Q:=by
 refine cfX (fun τ=>∃v,τ=v::(bX ix ρ1).tail) p f ⟨none,hx⟩ ?_ ?_
 .rintro x hx τ ⟨v,rfl⟩ K1 K2 k1 k2
  exact hs x hx v K1 K2 (fun v' h=>k1 _ h ⟨v',rfl⟩) fun v' h=>k2 _ h ⟨v',rfl⟩
 .rintro τ ⟨v,rfl⟩
  exact hq v
end
theorem cmR {ix:List (Option Nat)}{ρ1:PSt}{g:PTG}{pe:PTE}{Q:PKt}{n:Nat}{it:Nat->D} (f:Nat->D)
  (hs:∀k,k<n->∀(v:Option PV) (K1:D->PSt->Prop),(∀v',K1 (f k) (v'::(bX ix ρ1).tail))->g (.dat (it k)) (v::(bX ix ρ1).tail) fun τ2=>pe τ2 fun p τ4=>K1 p.d τ4)
  (hq:∀v:Option PV,Q (.own ((List.range n).map f)) (eC ix ρ1 (v::(bX ix ρ1).tail))) (hx:bX ix ρ1=none::(bX ix ρ1).tail:=by rfl):lO ix ρ1 n it g iH pe Q:=by
 refine uP (fun τ=>∃v,τ=v::(bX ix ρ1).tail) f ⟨none,hx⟩ ?_ ?_
 .rintro k τ d hk rfl ⟨v,rfl⟩ K1 k1
  exact hs k hk v K1 fun v'=>k1 _ ⟨v',rfl⟩
 .rintro τ ⟨v,rfl⟩
  exact hq v
theorem cfR {ix:List (Option Nat)}{ρ1:PSt}{g:PTG}{pt:PTT}{pe:PTE}{Q:PKt}{n:Nat}{it:Nat->D} (p:Nat->Bool) (f:Nat->D)
  (hs:∀k,k<n->∀(v:Option PV) (K1:D->PSt->Prop) (K2:PSt->Prop),(∀v',p k=true->K1 (f k) (v'::(bX ix ρ1).tail))->(∀v',p k=false->K2 (v'::(bX ix ρ1).tail))->g (.dat (it k)) (v::(bX ix ρ1).tail) fun τ2=>pt τ2 fun ok τ3=>fU ok (pe τ3 fun p τ4=>K1 p.d τ4) (K2 τ3))
  (hq:∀v:Option PV,Q (.own (((List.range n).filter p).map f)) (eC ix ρ1 (v::(bX ix ρ1).tail))) (hx:bX ix ρ1=none::(bX ix ρ1).tail:=by rfl):lO ix ρ1 n it g pt pe Q:=by
 refine cfm (fun τ=>∃v,τ=v::(bX ix ρ1).tail) (fun k=>if p k=true then some (f k) else none) ⟨none,hx⟩ ?_ ?_
 .rintro k τ d hk rfl ⟨v,rfl⟩ K1 K2 k1 k2
  exact hs k hk v K1 K2 (fun v' h=>k1 _ _ (by rw [if_pos h]) ⟨v',rfl⟩) fun v' h=>k2 _ (by rw [if_neg (by rw [h];decide)]) ⟨v',rfl⟩
 .rintro τ ⟨v,rfl⟩
  rw [c9]
  exact hq v
theorem pP {α β:Type} (f:α->β) (xs:List α) (i:Nat):(xs.map f).eraseIdx i=(xs.eraseIdx i).map f:=by
 rw [List.eraseIdx_eq_take_drop_succ,List.eraseIdx_eq_take_drop_succ,List.map_append,List.map_take,List.map_drop]
theorem wN {α:Type}{js:List α}{i:Nat} (h:i<js.length):(js.eraseIdx i++[js[i]]).Perm js:=by
 rw [List.eraseIdx_eq_take_drop_succ,List.append_assoc]
 have e:js=js.take i++(js[i]::js.drop (i+1)):=by rw [List.getElem_cons_drop,List.take_append_drop]
 conv=>rhs;rw [e]
 exact List.Perm.append_left _ (List.perm_append_singleton _ _)
theorem Er {n i:Nat} (h:i<n):ixN n (i:Int)=some i:=by
 unfold ixN
 rw [if_pos (by omega),if_pos (by omega),Int.toNat_natCast]
theorem wO (a b:List Nat):(!(Builtin.Str.occurrences (S b) (S a) 0 (S b).length 1).isEmpty)=ga a b:=by
 have e:=vK b a 0
 unfold ga
 rw [<- e]
 cases Builtin.Str.occurrences (S b) (S a) 0 (S b).length 1 with
|nil=>rfl
|cons k r=>exact (decide_eq_true (by omega:(0:Int)<=(k:Int))).symm
section
variable {X:Cx}{K:PySem.W.Frag}
def Fj (neg:Bool):R2:=fun x y H Q=>∃a b,x=.str (S a)/\y=.str (S b)/\Q (.bl (if neg then !ga a b else ga a b)) H
theorem DH:OpR X (compareOp .In) (Fj false):=by
 intro pins s σ H x y v u Q I rx ry h
 obtain⟨a,b,rfl,rfl,q⟩:=h
 obtain⟨t,rfl⟩:=rx
 obtain⟨t',rfl⟩:=ry
 exact P.in_str ⟨.bl _,H,I,rfl,by rw [wO];exact q⟩
theorem wP:OpR X (compareOp .NotIn) (Fj true):=by
 intro pins s σ H x y v u Q I rx ry h
 obtain⟨a,b,rfl,rfl,q⟩:=h
 obtain⟨t,rfl⟩:=rx
 obtain⟨t',rfl⟩:=ry
 exact P.notIn_str ⟨.bl _,H,I,rfl,by rw [wO];exact q⟩
def DI (K:PySem.W.Frag) (neg:Bool):R2:=fun x y H Q=>rIn K neg x y H Q\/Fj neg x y H Q
theorem Fk (K:PySem.W.Frag) (e:X.K=K):OpR X (compareOp .In) (DI K false):=OpR.or (Gn K e) DH
theorem kg (K:PySem.W.Frag) (e:X.K=K):OpR X (compareOp .NotIn) (DI K true):=OpR.or (AL K e) wP
def Bh (neg:Bool):F2
|.str a,.str b,Q=>Q (.dat (.bl (if neg then !ga a b else ga a b)))
|a,.lst ds,Q=>(a.fl=true/\ds.all D.fl=true)/\Q (.dat (.bl (if neg then !inD a ds else inD a ds)))
|a,.tup ds,Q=>(a.fl=true/\ds.all D.fl=true)/\Q (.dat (.bl (if neg then !inD a ds else inD a ds)))
|_,_,_=>False
theorem pQ {neg:Bool}:LO K (DI K neg) (Bh neg):=by
 intro O H x y a b Q Q' dom fx fy q k
 unfold Bh at q
 split at q
 .obtain⟨rfl,_⟩:=fx.str
  obtain⟨rfl,_⟩:=fy.str
  exact .inr ⟨_,_,rfl,rfl,k _ H _ q (Gr.refl _) (.bl _)⟩
 .exact .inl (Di O H x y _ _ Q Q' dom fx fy q k)
 .exact .inl (Di O H x y _ _ Q Q' dom fx fy q k)
 .exact q.elim
end
section
variable {X:Cx}{K:PySem.W.Frag}{ta te:TE}{pa:PA1}{pe:PTE}
def mO (n:Int):Nat:=if n == 0 then 0 else n.natAbs.log2+1
def Bi:V->List V->Hp->VK->Prop:=fun x xs H Q=>∃n,x=.int n/\xs=[]/\Q (.int (mO n:Nat)) H
theorem Bj:MtR X "int.bit_length" Bi:=by
 intro pins s σ H x xs v us Q I rx rs h
 obtain⟨n,rfl,rfl,q⟩:=h
 obtain⟨t,rfl⟩:=rx
 have hus:=rs.zero
 subst hus
 exact call_gives F.slot_int_bit_length (typeIs_int s n t) F.entry_int_bit_length (F.args_int_bit_length_1 _) (AutoIntG2.int_bit_length_int_0 n t) ⟨.int _,H,I.tok _,⟨_,rfl⟩,q⟩
def Bk (pe:PTE):PTE:=fun ρ Q=>pe ρ fun p ρ1=>match p with
|.dat (.int n)=>Q (.dat (.int (mO n:Nat))) ρ1
|_=>False
theorem Bl (he:LE K te pe):LE K (CF K "int" Bi te) (Bk pe):=fun A ρ σ H Q Q' R q k=>he A ρ σ H _ _ R q fun v H1 p ρ1 q1 f1 o1=>by
 unfold Bk at *
 split at q1
 .obtain⟨R1,fv⟩:=o1
  cases fv
  exact⟨rfl,_,rfl,rfl,k _ H1 _ ρ1 q1 f1 ⟨R1,.int _⟩⟩
 .exact q1.elim
theorem Bm {o:Expr}{to:TE}{name:Str}{apos cpos:Pos}{T id:String}{r:V->List V->Hp->VK->Prop} (K:PySem.W.Frag) (eK:X.K=K) (pa:PlainAttrs T) (slot:Slot T name id) (hty:typeOf (.builtin id)=pure (.type "method_descriptor")) (hm:MtR X id r) (ho:PE X o to)
  (hbase:attributeBase o name X.env (eval o X.env)=eval o X.env:=by rfl) (hline:(apos.endLine == cpos.line)=true:=by rfl):PE X (.Call (.Attribute o name apos) [] [] cpos) (CF K T r to):=eK ▸ zk pa slot hty hm ho hbase hline
def LPs (K:PySem.W.Frag) (trs:List (TE×TE)) (ks:List Key) (pr:PTA):Prop:=∀(A:Addr->Prop) (ρ:PSt) (σ:St) (H:Hp) (Q:List AV->PSt->Prop) (Q':List (V×V)->Hp->Prop),Rel K A ρ σ H->pr ρ Q ->
 (∀vs H' as ρ',Q as ρ'->Fr ρ σ H ρ' H'->Rel K A ρ' σ H'->zo K (OO A ρ' σ) σ H' as vs->vs.length=ks.length->Q' ((ks.zip vs).map fun kv=>(kV kv.1,kv.2)) H')->sm trs σ H Q'
theorem wQ:LPs K [] [] al:=fun A ρ σ H Q Q' R q k=>k [] H [] ρ q (Fr.refl _ _ _) R .nil rfl
theorem sX {tv:TE}{pv:PA1}{trs:List (TE×TE)}{ks:List Key}{pr:PTA} (kk:Key) (hv:LA1 K tv pv) (hr:LPs K trs ks pr):LPs K ((tC (kV kk),tv)::trs) (kk::ks) (af pv pr):=fun A ρ σ H Q Q' R q k =>
 hv A ρ σ H _ _ R q fun v H1 a ρ1 q1 f1 R1 o1=>hr A ρ1 σ H1 _ _ R1 q1 fun vs H2 as ρ2 q2 f2 R2 o2 l2=>k (v::vs) H2 _ ρ2 q2 (f1.trans f2) R2 (.cons (o1.keeps f2.keeps) o2) (by rw [List.length_cons,l2];rfl)
theorem Bn {kvs:List (Key×V)}{k:Key}{v:V} (h:k∉kvs.map Prod.fst):vN kvs k v=kvs++[(k,v)]:=by
 unfold vN
 rw [if_neg]
 intro z
 obtain⟨a,m,e⟩:=List.any_eq_true.mp z
 exact h (List.mem_map.mpr ⟨a,m,of_decide_eq_true e⟩)
theorem pR:∀(kvs acc:List (Key×V)),((acc++kvs).map Prod.fst).Nodup->jD acc kvs=acc++kvs
|[],acc,_=>by show acc=_;rw [List.append_nil]
|kv::r,acc,h=>by
  show jD (vN acc kv.1 kv.2) r=_
  have hn:kv.1∉acc.map Prod.fst:=fun m=>by
   rw [List.map_append,List.map_cons] at h
   exact (List.nodup_append.mp h).2.2 _ m _ (List.mem_cons_self ..) rfl
  rw [Bn hn,pR r _ (by rw [List.append_assoc];exact h),List.append_assoc];rfl
def Bo (ks:List Key) (pr:PTA):PTE:=fun ρ Q=>pr ρ fun as ρ1=>match avD as with
|some ds=>Q (.dat (.dic ks ds)) ρ1
|none=>False
theorem wR {trs:List (TE×TE)}{ks:List Key}{pr:PTA} (hn:ks.Nodup) (h15:ks.length<=15) (h:LPs K trs ks pr):LE K (C4 trs) (Bo ks pr):=fun A ρ σ H Q Q' R q k=>fun p hp=>by
 have R1:Rel K (eG A p) ρ σ (upd H p (.dK [])):=R.grA (Gr.new hp) hp (by rw [aL];exact nofun)
 refine h (eG A p) ρ σ _ _ _ R1 q fun vs H2 as ρ2 q2 f2 R2 o2 l2=>?_
 split at q2
 .rename_i ds ed
  have e2:H2 p=some (.dK []):=f2.kp p _ (R1.sep p (.inr rfl)) aL
  have fv:=o2.avD ed
  have m1:(ks.zip vs).map Prod.fst=ks:=List.map_fst_zip (by omega)
  have m2:(ks.zip vs).map Prod.snd=vs:=List.map_snd_zip (by omega)
  have em:jD [] (ks.zip vs)=ks.zip vs:=by
   rw [pR _ _ (by rw [List.nil_append,m1];exact hn),List.nil_append]
  refine⟨e2,ks.zip vs,rfl,by rw [List.length_zip];omega,?_⟩
  rw [em]
  have fr:Fr ρ σ H ρ2 (upd H2 p (.dK (ks.zip vs))):=⟨fun b o n e=>by
   have nb:b≠p:=bi e hp
   rw [aB nb]
   exact f2.kp b o n (by rw [aB nb];exact e),fun b e=>by
   by_cases z:b=p
   .rw [z,aL];exact nofun
   .rw [aB z]
    exact f2.dm b (by rw [aB z];exact e),f2.ow⟩
  have np:¬ OO A ρ2 σ p:=fun z=>z.elim (fun z=>R.dom p z hp) fun z=>R2.sep p (.inr rfl) z
  refine k _ _ (.dat (.dic ks ds)) ρ2 q2 fr ⟨(R2.amb (o:=.dK (ks.zip vs)) (.inr rfl)).less fun b z=>.inl z,.dic np aL m1 ?_⟩
  rw [m2]
  refine fv.keeps fun b o n e=>⟨fun z=>n (z.imp .inl id),?_⟩
  rw [aB fun z=>n (.inl (.inr z))];exact e
 .exact q2.elim
end
section
variable {X:Cx}{K:PySem.W.Frag}
def zC (K:PySem.W.Frag):R2:=fun x y H Q=>∃a b ys,x=.ref a/\y=.ref b/\SqT K H a []/\SqT K H b ys/\Q (.ref b) H
theorem yJ:OpR X (binaryOp .Add) (zC X.K):=by
 intro pins s σ H x y v u Q I rx ry h
 obtain⟨a,b,ys,rfl,rfl,ha,hb,q⟩:=h
 cases rx
 cases ry
 obtain⟨its,r1,p1,_⟩:=I.tuple ha
 obtain⟨its2,r2,p2,_⟩:=I.tuple hb
 have e0:its=[]:=r1.nil_iff.mpr rfl
 subst e0
 obtain⟨⟨cls,dd,data,sl⟩,ho,hc,n,hd⟩:=id p1
 obtain⟨⟨cls2,dd2,data2,sl2⟩,ho2,hc2,n2,hd2⟩:=id p2
 simp only at hc hd hc2 hd2
 subst hc hd hc2 hd2
 exact concat_meets ⟨_,ho,rfl⟩ ⟨_,ho2,rfl⟩ noFill_tuple_add seq_tuple_add PySem.F.slot_tuple_add PySem.F.entry_tuple_add (PySem.F.args_tuple_add_2 _ _) (tuple_addW0 a b _ _ n n2 dd dd2 sl sl2 rfl) ⟨ho,ho2,.ref b,H,I,rfl,q⟩
def pS (K:PySem.W.Frag):R2:=fun x y H Q=>AI K x y H Q\/zC K x y H Q
theorem bx (K:PySem.W.Frag) (e:X.K=K):OpR X (binaryOp .Add) (pS K):=OpR.or (EX K e) (by subst e;exact yJ)
def cP:F2
|.tup a,.tup b,Q=>a.length+b.length<=1000000/\Q (.dat (.tup (a++b)))
|a,b,Q=>EY a b Q
theorem aX:LO K (pS K) cP:=by
 intro O H x y a b Q Q' dom fx fy q k
 unfold cP at q
 split at q
 .rename_i Q ds es
  cases ds with
 |cons d ds=>exact .inl (zq O H x y _ _ _ Q' dom fx fy ⟨nofun,q⟩ k)
 |nil =>
   obtain⟨p1,xs1,rfl,n1,e1,f1⟩:=fx.tup
   obtain⟨p2,xs2,rfl,n2,e2,f2⟩:=fy.tup
   cases f1
   exact .inr ⟨p1,p2,xs2,rfl,rfl,SqT.of e1,SqT.of e2,k _ H _ q.2 (Gr.refl _) (.tup n2 e2 f2)⟩
 .exact .inl (zq O H x y _ _ _ Q' dom fx fy q k)
end
section
variable {X:Cx}
def FW:Expr->Bool
|.ListComp ..|.SetComp ..|.DictComp ..=>false
|_=>true
theorem wS {o i e:Expr}{p:Pos}{l:Nat}{env:Env} (h:FW e=true):swapsWithSole [.Subscript o i p] e l env=pure false:=by
 show swapsWith e (some (.Subscript o i p)) l env=pure false
 cases e <;> first|rfl|cases h
theorem rf {o i e:Expr}{p:Pos}{env:Env}:swappedStores [.Subscript o i p] e env=pure none:=rfl
theorem jj {o i e:Expr}{p:Pos}{te:TE}{g:TG}{pos:Pos} (he:PE X e te) (hg:PG X (.Subscript o i p) g) (hn:FW e=true:=by rfl):PS X (.Assign [.Subscript o i p] e pos) (ze te g) :=
 Ci he hg (wS hn) rf rfl
end
def gN (K:PySem.W.Frag) (x:Str) (st:Stmt):Prop:=∃(f:Addr) (oc kV dc pm cd ct:Value) (od an:Option Addr) (sl:Array (Option Value)),PySem.W.nsIn K mainGlobals x=some (some (.ref f)) /\
 K.lookup f=some ⟨oc,od,.func (PySem.W.fnOf x x (cY st) (ci st) (ar st) .none kV dc pm an cd ct),sl⟩/\PySem.W.codeIn K cd x=true/\PySem.W.keepIn K (.ref f)=true
theorem DJ {K:PySem.W.Frag}{x:Str}{st:Stmt}{f:Addr}{oc kV dc pm cd ct:Value}{od an:Option Addr}{sl:Array (Option Value)} (a:PySem.W.nsIn K mainGlobals x=some (some (.ref f))) (l:K.lookup f=some ⟨oc,od,.func (PySem.W.fnOf x x (cY st) (ci st) (ar st) .none kV dc pm an cd ct),sl⟩)
  (c:PySem.W.codeIn K cd x=true) (k:PySem.W.keepIn K (.ref f)=true):gN K x st:=⟨f,oc,kV,dc,pm,cd,ct,od,an,sl,a,l,c,k⟩
theorem bM {K:PySem.W.Frag}{h:Heap}{mg:Str->Option Value}{x:Str}{st:Stmt} (q:gN K x st) (X:K.In h) (G:h.Ns mainGlobals mg):cN K mg x st:=by
 obtain⟨f,oc,kV,dc,pm,cd,ct,od,an,sl,a,l,c,k⟩:=q
 exact .mk' X G a l c k
section
open PySem.AutoSeq1 (wpAny_loadPart')
open PySem.MeetsSeq PySem.MeetsSeq2 PySem.MeetsSeq3
variable {P:Program}{w:World}{A:Around}
end
def frzA (ρ:PSt):PSt:=ρ.map (Option.map fun p=>PV.dat p.d)
section
variable {K:PySem.W.Frag}{A:Addr->Prop}{ρ:PSt}{σ:St}{H H':Hp}{O O':Addr->Prop}
theorem nN {i:Nat}{p:PV} (e:(frzA ρ)[i]?=some (some p)):∃p0,ρ[i]?=some (some p0)/\p=.dat p0.d:=by
 unfold frzA at e
 rw [List.getElem?_map] at e
 cases h:ρ[i]? with
|none=>rw [h] at e;cases e
|some o =>
  cases o with
 |none=>rw [h] at e;cases e
 |some p0=>rw [h] at e;cases e;exact⟨p0,rfl,rfl⟩
theorem nO {b:Addr}:¬ Wr (frzA ρ) σ b:=fun ⟨i,p,e,o,_⟩=>by
 obtain⟨p0,_,rfl⟩:=nN e
 cases o
theorem Rel.frzA (R:Rel K A ρ σ H):Rel K A (frzA ρ) σ H:=by
 have k:aM (OO A ρ σ) H (OO A (L2.frzA ρ) σ) H:=aM.less fun b z=>z.elim .inl fun z=>(nO z).elim
 refine⟨by unfold L2.frzA;rw [List.length_map];exact R.len,fun i p e=>?_,fun i j p q v e1 e2 o1=>?_,R.dom,fun b _ w=>nO w⟩
 .obtain⟨p0,e0,rfl⟩:=nN e
  obtain⟨v,s,r⟩:=R.get i p0 e0
  refine⟨v,s,?_⟩
  have na:∀a,v=.ref a->p0.isOwn=true->¬ OO A (L2.frzA ρ) σ a:=fun a ea oo z=>by
   subst ea
   rcases z with z|z
   .exact R.sep a z ⟨i,p0,e0,oo,s⟩
   .exact nO z
  cases p0 with
 |dat d=>exact FV.keeps k r
 |own ds =>
   obtain⟨a,xs,rfl,g,f⟩:=r
   exact .lst (na a rfl rfl) g (f.keeps k)
 |ins c ns ds =>
   obtain⟨a,dx,fs,rfl,g,m,f⟩:=r
   exact .obj (na a rfl rfl) g m (f.keeps k)
 .obtain⟨p0,_,rfl⟩:=nN e1
  cases o1
theorem FV.flat {v:V}{d:D} (h:FV K O H v d) (f:d.fl=true):FV K O' H' v d:=by
 cases h with
|non=>exact .non
|bl b=>exact .bl b
|int i=>exact .int i
|str l hl=>exact .str l hl
|ty _=>cases f
|scr _=>cases f
|lst _ _ _=>cases f
|tup _ _ _=>cases f
|dic _ _ _ _=>cases f
|obj _ _ _ _=>cases f
|exc0 _ _=>cases f
|exc1 _ _ _ _ _ _=>cases f
inductive Cp (K:PySem.W.Frag) (O:Addr->Prop) (H0 H:Hp):List Addr->List (List D)->Prop
|nil:Cp K O H0 H [] []
|cons {a:Addr}{xs:List V}{r:List D}{as:List Addr}{rows:List (List D)}:H a=some (.lst xs)->FVs K O H0 xs r->Cp K O H0 H as rows->Cp K O H0 H (a::as) (r::rows)
theorem Cp.length {H0:Hp}:∀{as:List Addr}{rows:List (List D)},Cp K O H0 H as rows->as.length=rows.length
|_,_,.nil=>rfl
|_,_,.cons _ _ t=>by rw [List.length_cons,List.length_cons,t.length]
theorem Cp.app {H0:Hp}{a:Addr}{xs:List V}{r:List D} (h1:H a=some (.lst xs)) (h2:FVs K O H0 xs r):∀{as:List Addr}{rows:List (List D)},Cp K O H0 H as rows->Cp K O H0 H (as++[a]) (rows++[r])
|_,_,.nil=>.cons h1 h2 .nil
|_,_,.cons p q t=>.cons p q (Cp.app h1 h2 t)
theorem Cp.get {H0:Hp}:∀{as:List Addr}{rows:List (List D)}{n:Nat}{r:List D},Cp K O H0 H as rows->rows[n]?=some r->∃a xs,as[n]?=some a/\H a=some (.lst xs)/\FVs K O H0 xs r
|_,_,n,_,.nil,e=>by simp at e
|_,_,0,_,.cons p q t,e=>by simp at e;subst e;exact⟨_,_,rfl,p,q⟩
|_,_,n+1,r,.cons p q t,e=>by
  obtain⟨a,xs,h1,h2,h3⟩:=Cp.get (n:=n) (r:=r) t (by simpa using e)
  exact⟨a,xs,by simpa using h1,h2,h3⟩
theorem Cp.mono {H0:Hp}:∀{as:List Addr}{rows:List (List D)},(∀a∈as,∀o,H a=some o->H' a=some o)->Cp K O H0 H as rows->Cp K O H0 H' as rows
|_,_,_,.nil=>.nil
|_,_,k,.cons p q t=>.cons (k _ List.mem_cons_self _ p) q (t.mono fun a ha=>k a (List.mem_cons_of_mem _ ha))
theorem Cp.dom {H0:Hp}:∀{as:List Addr}{rows:List (List D)},Cp K O H0 H as rows->∀a∈as,∃o,H a=some o
|_,_,.nil,_,h=>nomatch h
|_,_,.cons p q t,a,h=>by
  rcases List.mem_cons.mp h with rfl|h
  .exact⟨_,p⟩
  .exact t.dom a h
theorem Cp.put {H0:Hp}{a:Addr}{xs:List V}{r:List D} (h2:FVs K O H0 xs r):∀{as:List Addr}{rows:List (List D)}{n:Nat},as.Nodup->as[n]?=some a->Cp K O H0 H as rows->Cp K O H0 (upd H a (.lst xs)) as (rows.set n r)
|_,_,n,_,e,.nil=>by simp at e
|_,_,0,nd,e,.cons p q t=>by
  simp at e;subst e
  exact .cons aL h2 (t.mono fun b hb o z=>by rw [aB (fun e=>(List.nodup_cons.mp nd).1 (by rw [<- e];exact hb))];exact z)
|_,_,n+1,nd,e,.cons p q t=>by
  rw [List.getElem?_cons_succ] at e
  exact .cons (by rw [aB (fun z=>(List.nodup_cons.mp nd).1 (by rw [z];exact List.mem_of_getElem? e))];exact p) q (Cp.put h2 (List.nodup_cons.mp nd).2 e t)
theorem Cp.fvs {H0:Hp} (g:Gr H0 H) (ho:∀b,O' b->O b\/H0 b=none):∀{as:List Addr}{rows:List (List D)},(∀a∈as,¬ O' a)->Cp K O H0 H as rows->FVs K O' H (as.map V.ref) (rows.map D.lst)
|_,_,_,.nil=>.nil
|_,_,k,.cons p q t=>.cons (.lst (k _ List.mem_cons_self) p (q.keeps fun b o n e=>⟨fun z=>(ho b z).elim n (fun z=>by rw [z] at e;cases e),g b o e⟩)) (t.fvs g ho fun a ha=>k a (List.mem_cons_of_mem _ ha))
inductive fX:List D->List (List D)->Prop
|nil:fX [] []
|cons {d:D}{r:List D}{ds:List D}{rows:List (List D)}:kf d r->fX ds rows->fX (d::ds) (r::rows)
theorem fX.length:∀{ds:List D}{rows:List (List D)},fX ds rows->ds.length=rows.length
|_,_,.nil=>rfl
|_,_,.cons _ t=>by rw [List.length_cons,List.length_cons,t.length]
theorem fX.get:∀{ds:List D}{rows:List (List D)}{n:Nat}{d:D},fX ds rows->ds[n]?=some d->∃r,rows[n]?=some r/\kf d r
|_,_,n,_,.nil,e=>by simp at e
|_,_,0,_,.cons p t,e=>by simp at e;subst e;exact⟨_,rfl,p⟩
|_,_,n+1,d,.cons p t,e=>by
  obtain⟨r,h1,h2⟩:=fX.get (n:=n) (d:=d) t (by simpa using e)
  exact⟨r,by simpa using h1,h2⟩
theorem FV.sq {v:V}{d:D}{ds:List D} (h:FV K O H v d) (s:kf d ds):∃(k:Bool) (a:Addr) (xs:List V),v=.ref a/\H a=some (if k then .tup xs else .lst xs)/\FVs K O H xs ds:=by
 rcases s with rfl|rfl
 .cases h with
 |lst n e f=>exact⟨false,_,_,rfl,e,f⟩
 .cases h with
 |tup n e f=>exact⟨true,_,_,rfl,e,f⟩
theorem wT {y:Nat}{v:V}{ds:List D}{rows:List (List D)}{Q:VK} (hv:σ[y]?=some (some v)) (fv:∃(k:Bool) (a:Addr) (xs:List V),v=.ref a/\H a=some (if k then .tup xs else .lst xs)/\FVs K O H xs ds) (hr:fX ds rows) (hl:ds.length<=1000)
  (k:∀(D:Addr) (as:List Addr) (H1:Hp),Gr H H1->H D=none->as.Nodup->(∀a∈as,H a=none/\a≠D)->H1 D=some (.lst (as.map V.ref))->Cp K O H H1 as rows->Q (.ref D) H1) :
  lN [none] (gK K (a9 y)) (bR 0) gJ (tCB (gk K) (aW (a9 0) dC)) σ H Q:=by
 obtain⟨kd,p,vs,rfl,ep,fvs⟩:=fv
 have hsq:∀H',Gr H H'->Sq kd K H' p vs:=fun H' g=>by
  have:=g _ _ ep
  cases kd with
 |false=>exact SqL.of this
 |true=>exact SqT.of this
 refine⟨_,hv,.inl ⟨kd,p,vs,rfl,hsq H fun _ _ e=>e,fun D hD=>?_⟩⟩
 refine x3 (k:=kd) (K:=K) (a:=p) (xs:=vs) (fun i ys τ H1=>(∃t0,τ=[t0])/\∃as:List Addr,ys=as.map V.ref/\as.length=i/\Gr H H1/\as.Nodup/\(∀a∈as,H a=none/\a≠D)/\H1 D=some (.lst ys)/\Cp K O H H1 as (rows.take i)) ⟨⟨none,rfl⟩,[],rfl,rfl,Gr.new hD,.nil,(fun a ha=>nomatch ha),aL,.nil⟩ (fun i ys τ H1 _ z=>by obtain⟨_,as,_,_,g,_⟩:=z;exact hsq H1 g) ?_ ?_
 .rintro i x ys τ H1 hi ⟨⟨t0,rfl⟩,as,rfl,ha,g,nd,fr,eD,cp⟩ K1 K2 k1 k2
  obtain⟨dx,hdx,fx⟩:=fvs.get hi
  obtain⟨r,hri,sr⟩:=hr.get hdx
  obtain⟨kr,q,xs,rfl,eq,fq⟩:=fx.sq sr
  have hil:i<ds.length:=(List.getElem?_eq_some_iff.mp hdx).1
  show ∃v,_/\_
  refine⟨.ref q,rfl,q,xs,rfl,?_,fun l hl=>?_⟩
  .cases kr with
  |false=>exact .inl (SqL.of (g _ _ eq))
  |true=>exact .inr (SqT.of (g _ _ eq))
  .have hlD:l≠D:=fun z=>by rw [z,eD] at hl;cases hl
   have hlH:H l=none:=by
    cases e:H l with
   |none=>rfl
   |some o=>rw [g _ _ e] at hl;cases hl
   have hla:l∉as:=fun z=>by
    obtain⟨o,e⟩:=cp.dom l z
    rw [e] at hl;cases hl
   refine k1 _ _ _ (by rw [aB (Ne.symm hlD)];exact eD) (Nat.lt_of_lt_of_le (show _<1000000 by rw [List.length_map];omega) (sz _ (Nat.le_refl _))) ⟨⟨_,rfl⟩,as++[l],by rw [List.map_append];rfl,by rw [List.length_append,ha];rfl,fun b o e=>?_,?_,fun a h=>?_,aL,?_⟩
   .rw [aB (fun z=>by rw [z,hD] at e;cases e),aB (fun z=>by rw [z,hlH] at e;cases e)];exact g b o e
   .rw [List.nodup_append]
    exact⟨nd,List.nodup_cons.mpr ⟨(fun h=>nomatch h),.nil⟩,fun x hx y hy z=>hla (by rw [<- List.mem_singleton.mp hy,<- z];exact hx)⟩
   .rcases List.mem_append.mp h with h|h
    .exact fr a h
    .rw [List.mem_singleton.mp h];exact⟨hlH,hlD⟩
   .rw [List.take_add_one,hri]
    have ne:∀a,a∈as->a≠D:=fun a h=>(fr a h).2
    exact Cp.app (by rw [aB hlD,aL]) fq (cp.mono fun a h o z=>by rw [aB (ne a h),aB (fun z=>hla (by rw [<- z];exact h))];exact z)
 .rintro ys τ H1 ⟨_,as,rfl,ha,g,nd,fr,eD,cp⟩
  rw [List.take_of_length_le (by rw [fvs.length,hr.length];exact Nat.le_refl _)] at cp
  exact k D as H1 g hD nd fr eD cp
structure Opn (K:PySem.W.Frag) (A:Addr->Prop) (ρ:PSt) (σ:St) (H:Hp) (D:Addr) (as:List Addr) (H1:Hp) (rows:List (List L2.D)):Prop where
 gr:Gr H H1
 hD:H D=none
 nd:as.Nodup
 fr:∀a∈as,H a=none/\a≠D
 eD:H1 D=some (.lst (as.map V.ref))
 cp:Cp K (OO A ρ σ) H H1 as rows
theorem Bp {y:Nat}{p:PV}{ds:List D}{rows:List (List D)}{Q:VK} (R:Rel K A ρ σ H) (hy:ρ[y]?=some (some p)) (sq:kf p.d ds) (hr:fX ds rows) (hl:ds.length<=1000) (k:∀Da as H1,Opn K A ρ σ H Da as H1 rows->Q (.ref Da) H1) :
  lN [none] (gK K (a9 y)) (bR 0) gJ (tCB (gk K) (aW (a9 0) dC)) σ H Q:=by
 obtain⟨v,hv,r⟩:=R.get y p hy
 refine wT hv ?_ hr hl fun Da as H1 g hD nd fr eD cp=>k Da as H1 ⟨g,hD,nd,fr,eD,cp⟩
 cases p with
|dat d=>exact FV.sq r sq
|own es =>
  obtain⟨a,xs,rfl,e,f⟩:=r
  rcases sq with sq|sq
  .cases sq;exact⟨false,a,xs,rfl,e,f⟩
  .cases sq
|ins c ns es=>rcases sq with sq|sq <;> cases sq
end
theorem yK {P:Program}{w:World}{A:Around}{z:Shared}{l:Addr}{xs:Array (Int×Tok)}{Q:Value->Shared->Prop}{E:Value->Shared->Prop} (hh:A.handled=none) (hl:z.heap.IsTuple l (intItems xs))
  (h:∀h' tk t',(∀b o,z.heap.get? b=some o->h'.get? b=some o)->Q (.int (preSum (numAt xs) xs.size) t') { z with heap:=h',toks:=tk }):wpAny (model P w) A (call (.builtin "sum") [.ref l]) Q E z:=by
 have hlt:l<z.heap.objs.size:=by obtain⟨_,e,_⟩:=hl;exact Heap.lt_size e
 refine call_sum_walkG (wpAny_pyIter_tuple hl ?_)
 refine⟨z.heap.objs.size,[z.heap.objs.size,l],[z.heap.objs.size],_,_,_,numAt xs,rfl,Walks.tuple (A:=A.in1) hh _ l (Nat.ne_of_lt hlt) (intItems xs),⟨⟨_,Heap.get?_push_size _ rfl,rfl,rfl⟩,hl.push _⟩,fun b hb=>?_,(fun _ _=>intItems_at),fun h' tk t' hk=>?_⟩
 .show b<(z.heap.push _).objs.size
  rw [Heap.size_push]
  rcases List.mem_cons.mp hb with e|hb
  .rw [e];exact Nat.lt_succ_self _
  .rw [List.mem_singleton.mp hb];exact Nat.lt_succ_of_lt hlt
 .have:=h h' tk t' fun b o e=>hk b o (fun m=>by have y:=Heap.lt_size e;rw [List.mem_singleton.mp m] at y;exact absurd y (Nat.lt_irrefl _)) (Heap.get?_push_of_some _ e)
  simpa [intItems] using this
section
variable {X:Cx}{K:PySem.W.Frag}
theorem wU (hc:X.calm=true):cw X (.builtin "sum") (fun xs H Q=>∃(p:Addr) (ns:List Int),xs=[.ref p]/\SqT X.K H p (ns.map V.int)/\Q (.int ns.sum) H):=by
 intro pins s σ H xs us Q I r h
 obtain⟨p,ns,rfl,hS,q⟩:=h
 obtain⟨u,rfl,ru⟩:=gT r
 cases (show u=Value.ref p from ru)
 obtain⟨its,rv,pl,hz⟩:=I.tuple hS
 have hi:=ef rv
 have hl:s.heap.IsTuple p its.toArray:=pl
 obtain⟨ys,e⟩:=hi.allInts.items
 have hns:ns=ys.toList.map (·.1):=by rw [<- hi.numsOf,<- nums_intItems,<- e]
 rw [e] at hl
 refine yK (by exact I.ok.hd hc) hl fun h' tk t' hk=>⟨.int ns.sum,H,I.kept (t':=tk) hk,⟨t',?_⟩,q⟩
 have hlen:ys.size=ns.length:=by rw [hns,List.length_map,Array.length_toList]
 have hnum:numAt ys=fun i=>ns.getD i 0:=by
  funext i
  rw [numAt_eq,hns]
 rw [hnum,hlen,jc ns ns.length (Nat.le_refl _),List.take_length]
def DK (K:PySem.W.Frag):List V->Hp->VK->Prop:=fun xs H Q=>∃(p:Addr) (ns:List Int),xs=[.ref p]/\(SqL K H p (ns.map V.int)\/SqT K H p (ns.map V.int))/\Q (.int ns.sum) H
theorem DL (K:PySem.W.Frag) (e:X.K=K) (hc:X.calm=true):cw X (.builtin "sum") (DK K):=by
 subst e
 intro pins s σ H xs us Q I r ⟨p,ns,e,h,q⟩
 rcases h with h|h
 .exact pf hc pins s σ H xs us Q I r ⟨p,ns,e,h,q⟩
 .exact wU hc pins s σ H xs us Q I r ⟨p,ns,e,h,q⟩
def Bq:FN
|[.lst ds],Q=>∃ns:List Int,ds=ns.map .int/\Q (.dat (.int ns.sum))
|[.tup ds],Q=>∃ns:List Int,ds=ns.map .int/\Q (.dat (.int ns.sum))
|_,_=>False
theorem Br:LC K (DK K) Bq:=by
 intro O H xs as Q Q' dom fs q k
 unfold Bq at q
 split at q
 .obtain⟨ns,rfl,q⟩:=q
  cases fs with
 |cons a b =>
   cases b
   obtain⟨p,ys,rfl,e1,f1⟩:=a.lst
   exact⟨p,ns,rfl,.inl (SqL.of (by rw [e1,f1.ints])),k _ H _ q (Gr.refl _) (.int _)⟩
 .obtain⟨ns,rfl,q⟩:=q
  cases fs with
 |cons a b =>
   cases b
   obtain⟨p,ys,rfl,n1,e1,f1⟩:=a.tup
   exact⟨p,ns,rfl,.inr (SqT.of (by rw [e1,f1.ints])),k _ H _ q (Gr.refl _) (.int _)⟩
 .exact q.elim
end
section
variable {P:Program}{w:World}{A:Around}{R:Result->Shared->Prop}{I:Addr}{fp wr:List Addr}{n:Nat}{Pv:Nat->Value->Prop}{St:Nat->Heap->Prop}{d:Value}
abbrev dfl (d:Value):List (Str×Value):=[((Str.ofString "default"),d)]
theorem mxn:(toString "max"++toString ".loop":String)="max.loop":=by decide
theorem rg (W:Walks P w A.in1 I fp wr n Pv St) (bt:Nat->Nat->Bool) (hcmp:CmpOf P w A.in1 .Gt Pv bt) (B:Addr) (hB:B∉fp):∀(k j:Nat) (z:Shared) (vb:Value) (c:Nat),n=j+1+k->St (j+1) z.heap->Pv (argBest bt j) vb ->
  z.heap.get? B=some { cls:=.type "list",dict:=none,data:=.seq #[vb,vb] c,slots:=#[] } ->
  (∀v h' tk,Pv (argBest bt (n - 1)) v->(∀b o,b∉wr->b≠B->z.heap.get? b=some o->h'.get? b=some o)->R (.ok (.ret v)) { z with heap:=h',toks:=tk }) ->
  codeAny (model P w) A (.builtin "max.loop" ⟨[.ref I,.none,.ref B],dfl d⟩) R z
|0,j,z,vb,c,hn,st,pb,hS,hR=>by
  refine codeAny_builtin F.entry_max_loop ?_
  rw [Around.under_plainId F.plain_max_loop _]
  show wpAny _ A.in1 (seqItems? (.ref B) >>= _) _ _ z
  refine wpAny_bind (wpAny_seqItems hS rfl ?_)
  show wpAny _ A.in1 (tryCatch (pyNext (.ref I)) _ >>= _) _ _ z
  refine wpAny_bind (wpAny_tryCatch (W.done z _ _ (by rw [hn];exact st) fun h' tk old=>?_))
  have hS':=old B _ (fun q=>hB (W.sub _ q)) hS
  show wpAny _ A.in1 (updateSeq B (fun _=>#[]) >>= _) _ _ _
  refine wpAny_bind (wpAny_updateSeq hS' rfl (wpAny_bind (wpAny_letGo (wpAny_pure ?_))))
  exact hR vb _ tk (by rw [hn];exact pb) fun b o h1 h2 e=>(Heap.get?_update_other _ _ (Ne.symm h2)).trans (old b o h1 e)
|k+1,j,z,vb,c,hn,st,pb,hS,hR=>by
  refine codeAny_builtin F.entry_max_loop ?_
  rw [Around.under_plainId F.plain_max_loop _]
  show wpAny _ A.in1 (seqItems? (.ref B) >>= _) _ _ z
  refine wpAny_bind (wpAny_seqItems hS rfl ?_)
  show wpAny _ A.in1 (tryCatch (pyNext (.ref I)) _ >>= _) _ _ z
  refine wpAny_bind (wpAny_tryCatch (W.item (j+1) z _ _ (by omega) st fun v h' tk hv st' old=>?_))
  have hS':=old B _ (fun q=>hB (W.sub _ q)) hS
  show wpAny _ A.in1 (tryCatch (holding [v,v] (richCompare .Gt v vb >>= _)) _ >>= _) _ _ _
  refine wpAny_bind (wpAny_tryCatch (wpAny_holding (wpAny_bind (hcmp (j+1) (argBest bt j) v vb _ _ _ hv pb ?_))))
  refine wpAny_bind (wpAny_holding (wpAny_truthy_bool ?_))
  refine wpAny_bind (wpAny_letGo (wpAny_pure ?_))
  cases hb:bt (j+1) (argBest bt j) with
 |true =>
   simp only [if_true]
   refine wpAny_bind (wpAny_updateSeq hS' rfl (wpAny_bind (wpAny_letGo ?_)))
   rw [mxn]
   refine wpAny_pure ⟨plainId_quiet F.plain_max_loop _,rg W bt hcmp B hB k (j+1) _ v _ (by omega) (W.frame _ _ _ st' fun b hb o e=>(Heap.get?_update_other _ _ (fun q:B=b=>hB (by rw [q];exact hb))).trans e) (by show Pv (if bt (j+1) (argBest bt j) then j+1 else argBest bt j) v;rw [hb];exact hv) (Heap.get?_update_self _ hS' rfl) fun v' h2 t2 p2 o2=>?_⟩
   exact hR v' h2 t2 p2 fun b o h1 h3 e=>o2 b o h1 h3 ((Heap.get?_update_other _ _ (Ne.symm h3)).trans (old b o h1 e))
 |false =>
   simp only [Bool.false_eq_true,if_false]
   refine wpAny_bind (wpAny_letGo ?_)
   rw [mxn]
   refine wpAny_pure ⟨plainId_quiet F.plain_max_loop _,rg W bt hcmp B hB k (j+1) _ vb c (by omega) st' (by show Pv (if bt (j+1) (argBest bt j) then j+1 else argBest bt j) vb;rw [hb];exact pb) hS' fun v' h2 t2 p2 o2=>?_⟩
   exact hR v' h2 t2 p2 fun b o h1 h3 e=>o2 b o h1 h3 (old b o h1 e)
theorem sY (W:Walks P w A.in1 I fp wr n Pv St) (bt:Nat->Nat->Bool) (hcmp:CmpOf P w A.in1 .Gt Pv bt) (B:Addr) (hB:B∉fp) {z:Shared}{c:Nat} (st:St 0 z.heap)
  (hS:z.heap.get? B=some { cls:=.type "list",dict:=none,data:=.seq #[] c,slots:=#[] })
  (hR0:n=0->∀h' tk,(∀b o,b∉wr->b≠B->z.heap.get? b=some o->h'.get? b=some o)->R (.ok (.ret d)) { z with heap:=h',toks:=tk })
  (hR:0<n->∀v h' tk,Pv (argBest bt (n - 1)) v->(∀b o,b∉wr->b≠B->z.heap.get? b=some o->h'.get? b=some o)->R (.ok (.ret v)) { z with heap:=h',toks:=tk }) :
  codeAny (model P w) A (.builtin "max.loop" ⟨[.ref I,.none,.ref B],dfl d⟩) R z:=by
 refine codeAny_builtin F.entry_max_loop ?_
 rw [Around.under_plainId F.plain_max_loop _]
 show wpAny _ A.in1 (seqItems? (.ref B) >>= _) _ _ z
 refine wpAny_bind (wpAny_seqItems hS rfl ?_)
 show wpAny _ A.in1 (tryCatch (pyNext (.ref I)) _ >>= _) _ _ z
 by_cases hn:n=0
 .refine wpAny_bind (wpAny_tryCatch (W.done z _ _ (by rw [hn];exact st) fun h' tk old=>?_))
  show wpAny _ A.in1 (rule _ >>= _) _ _ _
  refine wpAny_bind (wpAny_rule (wpAny_pure ?_))
  exact hR0 hn h' tk fun b o h1 _ e=>old b o h1 e
 .refine wpAny_bind (wpAny_tryCatch (W.item 0 z _ _ (by omega) st fun v h' tk hv st' old=>?_))
  have hS':=old B _ (fun q=>hB (W.sub _ q)) hS
  show wpAny _ A.in1 (updateSeq B (fun _=>#[v,v]) >>= _) _ _ _
  refine wpAny_bind (wpAny_updateSeq hS' rfl ?_)
  rw [mxn]
  refine wpAny_pure ⟨plainId_quiet F.plain_max_loop _,rg W bt hcmp B hB (n - 1) 0 _ v _ (by omega) (W.frame _ _ _ st' fun b hb o e=>(Heap.get?_update_other _ _ (fun q:B=b=>hB (by rw [q];exact hb))).trans e) hv (Heap.get?_update_self _ hS' rfl) fun v' h2 t2 p2 o2=>?_⟩
  exact hR (by omega) v' h2 t2 p2 fun b o h1 h3 e=>o2 b o h1 h3 ((Heap.get?_update_other _ _ (Ne.symm h3)).trans (old b o h1 e))
end
theorem pT (a v:Value):argsOk "max" ⟨[a],dfl v⟩:=by unfold argsOk;kernel_rfl
theorem wV {P:Program}{w:World}{A:Around}{z:Shared}{l:Addr}{xs:Array (Int×Tok)}{d:Value}{Q:Value->Shared->Prop}{E:Value->Shared->Prop} (hh:A.handled=none) (hl:z.heap.IsList l (intItems xs))
  (k0:xs.size=0->∀h' tk,(∀b o,z.heap.get? b=some o->h'.get? b=some o)->Q d { z with heap:=h',toks:=tk })
  (k:0<xs.size->∀v h' tk,(intItems xs)[argBest (fun i j=>decide (numAt xs i > numAt xs j)) (xs.size - 1)]?=some v->(∀b o,z.heap.get? b=some o->h'.get? b=some o)->Q v { z with heap:=h',toks:=tk }) :
  wpAny (model P w) A (call (.builtin "max") [.ref l] (dfl d)) Q E z:=by
 have hsz:(intItems xs).size=xs.size:=by simp [intItems]
 refine kmk_tree F.kind_max F.plain_max F.entry_max (pT _ _) ?_
 show wpAny _ A.in1 (Builtin.Builtins.bindParams "max" ["key","default"] 0 ⟨[],dfl d⟩ >>= _) _ _ z
 refine wpAny_bind (wpAny_of_eq (show Builtin.Builtins.bindParams "max" ["key","default"] 0 ⟨[],dfl d⟩=pure [none,some d] from rfl) ?_)
 refine wpAny_bind (wpAny_pure ?_)
 refine wpAny_bind (iter_intList hl fun s₂ e st hfp hlI=>?_)
 subst e
 refine wpAny_bind (wpAny_newObj_type ?_)
 rw [mxn]
 have W:=Walks.list (prog:=P) (w:=w) (A:=A.in1) hh _ l hlI (intItems xs)
 refine wpAny_pure ⟨plainId_quiet F.plain_max_loop _,sY W _ (CmpOf.ints_gt (numAt xs) (fun _ _=>intItems_at)) _ (fun hm=>Nat.lt_irrefl _ (hfp _ hm)) (W.frame _ _ _ st fun b _ o e=>Heap.get?_push_of_some _ e) (Heap.get?_push_size _ rfl) (fun e0 h' tk old=>?_) fun e0 v h' tk hv old=>?_⟩
 .exact k0 (by omega) h' tk (old_kept fun b o hb e=>old b o hb (Nat.ne_of_lt (Heap.lt_size e)) (Heap.get?_push_of_some _ e))
 .exact k (by omega) v h' tk (by rw [hsz] at hv;exact hv) (old_kept fun b o hb e=>old b o hb (Nat.ne_of_lt (Heap.lt_size e)) (Heap.get?_push_of_some _ e))
section
variable {X:Cx}{K:PySem.W.Frag}{te tf:TE}{pa:PA1}{pe:PTE}
def wW (K:PySem.W.Frag) (x d:V) (H:Hp) (Q:VK):Prop:=∃(p:Addr) (ns:List Int),x=.ref p/\SqL K H p (ns.map V.int)/\(ns=[]->Q d H)/\(0<ns.length->∀m:Int,m∈ns->(∀a∈ns,a<=m)->Q (.int m) H)
def DM (K:PySem.W.Frag) (te tf:TE):TE:=fun σ H Q=>te σ H fun x H1=>tf σ H1 fun d H2=>wW K x d H2 Q
theorem zD (K:PySem.W.Frag) (e:X.K=K) (hc:X.calm=true) {pins:List (Addr×Obj)}{s:Shared}{σ:St}{H:Hp}{x d:V}{u v:Value}{Q:VK} (I:Inv X pins σ H s) (rx:dh x u) (rd:dh d v) (h:wW K x d H Q) :
  wpAny (model X.prog X.w) X.A (call (.builtin "max") [u] (dfl v)) (EP X pins σ Q) X.xe s:=by
 subst e
 obtain⟨p,ns,rfl,hS,q0,q⟩:=h
 cases (show u=Value.ref p from rx)
 obtain⟨its,rv,pl,hz⟩:=I.list hS
 have hi:IntsAre its ns:=ef rv
 have hl:=pl.isList
 obtain⟨ys,e⟩:=hi.allInts.items
 have hns:ns=ys.toList.map (·.1):=by rw [<- hi.numsOf,<- nums_intItems,<- e]
 have hsz:ns.length=ys.size:=by rw [hns,List.length_map,Array.length_toList]
 rw [e] at hl
 refine wV (by exact I.ok.hd hc) hl (fun h0 h' tk hk=>?_) fun h0 v h' tk hv hk=>?_
 .exact⟨d,H,I.kept (t':=tk) hk,rd,q0 (List.eq_nil_of_length_eq_zero (by omega))⟩
 .obtain⟨t,rfl⟩:=intItems_at hv
  obtain⟨h1,h2⟩:=argBest_gt (numAt ys) (ys.size - 1)
  refine⟨.int _,H,I.kept (t':=tk) hk,⟨t,rfl⟩,q (by omega) _ ?_ fun a ha=>?_⟩
  .rw [hns,numAt_eq];exact getD_mem (by rw [List.length_map,Array.length_toList];omega)
  .rw [hns] at ha
   obtain⟨j,hj,rfl⟩:=mem_getD ha
   rw [List.length_map,Array.length_toList] at hj
   rw [<- numAt_eq];exact h2 j (by omega)
theorem Bs {e f:Expr}{p kp pos:Pos} (K:PySem.W.Frag) (eK:X.K=K) (hc:X.calm=true) (hg:Gl X "max") (hm:X.mg "max"=none) (ha:PA X [e] (aW te dC)) (hf:PE X f tf)
  (hs:backTo pos (starEach [e] X.env)=(false,eval e X.env)::backTo pos (starEach [] X.env):=by rfl) (hpl:(backTo pos (starEach [e] X.env)).any (·.1)=false:=by rfl) :
  PE X (.Call (.Name "max" p) [e] [⟨some (Str.ofString "default"),f,kp⟩] pos) (DM K te tf):=by
 intro pins s σ H Q I h
 refine wpAny_Call_Name_kw (gc I hg hm boot_max ?_)
 refine PyProof.Rows.callWith_kw (thn (ha pos pins s σ H (fun vs H1=>match vs with|[x]=>tf σ H1 fun d H2=>wW K x d H2 Q|_=>False) I h) fun us s1 ⟨vs,H1,I1,r1,q1⟩=>?_) hs hpl
 match vs,r1,q1 with
|[x],r1,q1 =>
  obtain⟨u,rfl,ru⟩:=gT r1
  refine PyProof.Rows.kws_cons (thn (hf pins s1 σ H1 _ I1 q1) fun v s2 ⟨d,H2,I2,rd,q2⟩=>PyProof.Rows.kws_nil ?_)
  exact zD K eK hc I2 ru rd q2
def DN (pa:PA1) (pe:PTE):PTE:=fun ρ Q=>pa ρ fun x ρ1=>pe ρ1 fun p ρ2=>match cont ρ2 x,p with
|some (.lst ds),.dat (.int d)=>∃ns:List Int,ds=ns.map .int/\(ns=[]->Q (.dat (.int d)) ρ2)/\(0<ns.length->∀m:Int,m∈ns->(∀a∈ns,a<=m)->Q (.dat (.int m)) ρ2)
|_,_=>False
theorem Bt (ha:LA1 K te pa) (he:LE K tf pe):LE K (DM K te tf) (DN pa pe):=fun A ρ σ H Q Q' R q k =>
 ha A ρ σ H _ _ R q fun v H1 a ρ1 q1 f1 R1 o1=>he A ρ1 σ H1 _ _ R1 q1 fun u H2 p ρ2 q2 f2 o2=>by
  obtain⟨R2,fv⟩:=o2.frz
  split at q2
  .rename_i ds d e2
   obtain⟨ns,rfl,q0,q2⟩:=q2
   cases (show FV K _ H2 u (.int d) from fv)
   obtain⟨a1,xs1,rfl,g1,g2⟩:=(R2.cont (o1.keeps f2.keeps) e2).lst
   rw [g2.ints] at g1
   exact⟨a1,ns,rfl,SqL.of g1,fun e=>k _ H2 _ ρ2 (q0 e) (f1.trans f2) ⟨R2,.int _⟩,fun h m h1 h2=>k _ H2 _ ρ2 (q2 h m h1 h2) (f1.trans f2) ⟨R2,.int _⟩⟩
  .exact q2.elim
end
def Fm (i:Nat) (pe:PTE):PTE:=fun ρ Q=>match ρ[i]? with
|some (some (.own _))=>pe ρ fun p ρ1=>(match ρ1[i]?,p.d with
 |some (some (.own ds)),.lst es=>ds.length+es.length<=1000000/\Q (.dat .non) (ρ1.set i (some (.own (ds++es))))
 |_,_=>False)
|_=>False
section
variable {K:PySem.W.Frag}{te:TE}{pe:PTE}
theorem DO {i:Nat} (h:LE K te pe):LE K (tBM K "list" vk (a9 i) (aW te dC)) (Fm i pe):=fun A ρ σ H Q Q' R q k=>by
 unfold Fm at q
 split at q
 .rename_i ds0 e0
  obtain⟨a0,xs0,s0,g0,f0⟩:=R.ownAt e0
  refine⟨_,s0,.inl ⟨rfl,xs0,SqL.of g0⟩,h A ρ σ H _ _ R q fun v H1 p ρ1 q1 f1 o1=>?_⟩
  obtain⟨R1,fv⟩:=o1.frz
  split at q1
  .rename_i ds es e1 e2
   rw [e2] at fv
   obtain⟨a,xs,s,g,f⟩:=R1.ownAt e1
   rw [s0] at s;cases s
   cases fv with
  |lst no ez fz =>
    obtain⟨R2,f2⟩:=R1.lstw e1 s0 (f.append fz)
    exact⟨a0,_,xs,_,rfl,rfl,g,ez,Nat.le_trans (by rw [f.length,fz.length];exact q1.1) (sz _ (Nat.le_refl _)),k _ _ _ _ q1.2 (f1.trans f2) ⟨R2,.non⟩⟩
  .exact q1.elim
 .exact q.elim
end
theorem uw {P:Program}{w:World}{A:Around}{z:Shared}{l:Addr}{xs:Array (Int×Tok)}{d:Value}{Q:Value->Shared->Prop}{E:Value->Shared->Prop} (hh:A.handled=none) (hl:z.heap.IsTuple l (intItems xs))
  (k0:xs.size=0->∀h' tk,(∀b o,z.heap.get? b=some o->h'.get? b=some o)->Q d { z with heap:=h',toks:=tk })
  (k:0<xs.size->∀v h' tk,(intItems xs)[argBest (fun i j=>decide (numAt xs i > numAt xs j)) (xs.size - 1)]?=some v->(∀b o,z.heap.get? b=some o->h'.get? b=some o)->Q v { z with heap:=h',toks:=tk }) :
  wpAny (model P w) A (call (.builtin "max") [.ref l] (dfl d)) Q E z:=by
 have hsz:(intItems xs).size=xs.size:=by simp [intItems]
 have hlt:l<z.heap.objs.size:=by obtain⟨_,e,_⟩:=hl;exact Heap.lt_size e
 refine kmk_tree F.kind_max F.plain_max F.entry_max (pT _ _) ?_
 show wpAny _ A.in1 (Builtin.Builtins.bindParams "max" ["key","default"] 0 ⟨[],dfl d⟩ >>= _) _ _ z
 refine wpAny_bind (wpAny_of_eq (show Builtin.Builtins.bindParams "max" ["key","default"] 0 ⟨[],dfl d⟩=pure [none,some d] from rfl) ?_)
 refine wpAny_bind (wpAny_pure ?_)
 refine wpAny_bind (wpAny_pyIter_tuple hl ?_)
 have it:(z.heap.push { cls:=.type "tuple_iterator",data:=.fields #[.ref l,.int 0 0] }).IsTupleIter z.heap.objs.size l 0:=⟨_,Heap.get?_push_size _ rfl,rfl,rfl⟩
 have hl2:(z.heap.push { cls:=.type "tuple_iterator",data:=.fields #[.ref l,.int 0 0] }).IsTuple l (intItems xs):=hl.at fun o e=>Heap.get?_push_of_some _ e
 have old:∀b o,z.heap.get? b=some o->(z.heap.push { cls:=.type "tuple_iterator",data:=.fields #[.ref l,.int 0 0] }).get? b=some o:=fun b o e=>Heap.get?_push_of_some _ e
 have sz2:(z.heap.push { cls:=.type "tuple_iterator",data:=.fields #[.ref l,.int 0 0] }).objs.size=z.heap.objs.size+1:=Heap.size_push ..
 generalize z.heap.push { cls:=.type "tuple_iterator",data:=.fields #[.ref l,.int 0 0] }=h2 at it hl2 old sz2 ⊢
 refine wpAny_bind (wpAny_newObj_type ?_)
 rw [mxn]
 have W:=Walks.tuple (prog:=P) (w:=w) (A:=A.in1) hh z.heap.objs.size l (Nat.ne_of_lt hlt) (intItems xs)
 have lt:∀b o,z.heap.get? b=some o->b≠z.heap.objs.size/\b≠h2.objs.size:=fun b o e=>⟨Nat.ne_of_lt (Heap.lt_size e),Nat.ne_of_lt (Nat.lt_trans (Heap.lt_size e) (by omega))⟩
 refine wpAny_pure ⟨plainId_quiet F.plain_max_loop _,sY W _ (CmpOf.ints_gt (numAt xs) (fun _ _=>intItems_at)) h2.objs.size (fun hm=>?_) (W.frame _ _ _ ⟨it,hl2⟩ fun b _ o e=>Heap.get?_push_of_some _ e) (Heap.get?_push_size _ rfl) (fun e0 h' tk ol=>?_) fun e0 v h' tk hv ol=>?_⟩
 .rcases List.mem_cons.mp hm with e|hm
  .have e:h2.objs.size=z.heap.objs.size:=e
   rw [sz2] at e
   exact Nat.succ_ne_self _ e
  .have e:h2.objs.size=l:=List.mem_singleton.mp hm
   rw [sz2] at e
   rw [<- e] at hlt
   exact Nat.lt_irrefl _ (Nat.lt_trans (Nat.lt_succ_self _) hlt)
 .exact k0 (by omega) h' tk fun b o e=>ol b o (by simpa using (lt b o e).1) (lt b o e).2 (Heap.get?_push_of_some _ (old b o e))
 .exact k (by omega) v h' tk (by rw [hsz] at hv;exact hv) fun b o e=>ol b o (by simpa using (lt b o e).1) (lt b o e).2 (Heap.get?_push_of_some _ (old b o e))
section
variable {X:Cx}{K:PySem.W.Frag}{te tf:TE}{pa:PA1}{pe:PTE}
def wX (K:PySem.W.Frag) (x d:V) (H:Hp) (Q:VK):Prop:=∃(p:Addr) (ns:List Int),x=.ref p/\SqT K H p (ns.map V.int)/\(ns=[]->Q d H)/\(0<ns.length->∀m:Int,m∈ns->(∀a∈ns,a<=m)->Q (.int m) H)
def DP (K:PySem.W.Frag) (te tf:TE):TE:=fun σ H Q=>te σ H fun x H1=>tf σ H1 fun d H2=>wW K x d H2 Q\/wX K x d H2 Q
theorem Bu (K:PySem.W.Frag) (e:X.K=K) (hc:X.calm=true) {pins:List (Addr×Obj)}{s:Shared}{σ:St}{H:Hp}{x d:V}{u v:Value}{Q:VK} (I:Inv X pins σ H s) (rx:dh x u) (rd:dh d v) (h:wX K x d H Q) :
  wpAny (model X.prog X.w) X.A (call (.builtin "max") [u] (dfl v)) (EP X pins σ Q) X.xe s:=by
 subst e
 obtain⟨p,ns,rfl,hS,q0,q⟩:=h
 cases (show u=Value.ref p from rx)
 obtain⟨its,rv,pl,hz⟩:=I.tuple hS
 have hi:IntsAre its ns:=ef rv
 have hl:=pl
 obtain⟨ys,e⟩:=hi.allInts.items
 have hns:ns=ys.toList.map (·.1):=by rw [<- hi.numsOf,<- nums_intItems,<- e]
 have hsz:ns.length=ys.size:=by rw [hns,List.length_map,Array.length_toList]
 rw [e] at hl
 refine uw (by exact I.ok.hd hc) hl (fun h0 h' tk hk=>?_) fun h0 v h' tk hv hk=>?_
 .exact⟨d,H,I.kept (t':=tk) hk,rd,q0 (List.eq_nil_of_length_eq_zero (by omega))⟩
 .obtain⟨t,rfl⟩:=intItems_at hv
  obtain⟨h1,h2⟩:=argBest_gt (numAt ys) (ys.size - 1)
  refine⟨.int _,H,I.kept (t':=tk) hk,⟨t,rfl⟩,q (by omega) _ ?_ fun a ha=>?_⟩
  .rw [hns,numAt_eq];exact getD_mem (by rw [List.length_map,Array.length_toList];omega)
  .rw [hns] at ha
   obtain⟨j,hj,rfl⟩:=mem_getD ha
   rw [List.length_map,Array.length_toList] at hj
   rw [<- numAt_eq];exact h2 j (by omega)
theorem Bv {e f:Expr}{p kp pos:Pos} (K:PySem.W.Frag) (eK:X.K=K) (hc:X.calm=true) (hg:Gl X "max") (hm:X.mg "max"=none) (ha:PA X [e] (aW te dC)) (hf:PE X f tf)
  (hs:backTo pos (starEach [e] X.env)=(false,eval e X.env)::backTo pos (starEach [] X.env):=by rfl) (hpl:(backTo pos (starEach [e] X.env)).any (·.1)=false:=by rfl) :
  PE X (.Call (.Name "max" p) [e] [⟨some (Str.ofString "default"),f,kp⟩] pos) (DP K te tf):=by
 intro pins s σ H Q I h
 refine wpAny_Call_Name_kw (gc I hg hm boot_max ?_)
 refine PyProof.Rows.callWith_kw (thn (ha pos pins s σ H (fun vs H1=>match vs with|[x]=>tf σ H1 fun d H2=>wW K x d H2 Q\/wX K x d H2 Q|_=>False) I h) fun us s1 ⟨vs,H1,I1,r1,q1⟩=>?_) hs hpl
 match vs,r1,q1 with
|[x],r1,q1 =>
  obtain⟨u,rfl,ru⟩:=gT r1
  refine PyProof.Rows.kws_cons (thn (hf pins s1 σ H1 _ I1 q1) fun v s2 ⟨d,H2,I2,rd,q2⟩=>PyProof.Rows.kws_nil ?_)
  rcases q2 with q2|q2
  .exact zD K eK hc I2 ru rd q2
  .exact Bu K eK hc I2 ru rd q2
def DQ (pa:PA1) (pe:PTE):PTE:=fun ρ Q=>pa ρ fun x ρ1=>pe ρ1 fun p ρ2=>match cont ρ2 x,p with
|some e,.dat (.int d)=>∃ns:List Int,kf e (ns.map .int)/\(ns=[]->Q (.dat (.int d)) ρ2)/\(0<ns.length->∀m:Int,m∈ns->(∀a∈ns,a<=m)->Q (.dat (.int m)) ρ2)
|_,_=>False
theorem Bw (ha:LA1 K te pa) (he:LE K tf pe):LE K (DP K te tf) (DQ pa pe):=fun A ρ σ H Q Q' R q k =>
 ha A ρ σ H _ _ R q fun v H1 a ρ1 q1 f1 R1 o1=>he A ρ1 σ H1 _ _ R1 q1 fun u H2 p ρ2 q2 f2 o2=>by
  obtain⟨R2,fv⟩:=o2.frz
  split at q2
  .rename_i ds d e2
   obtain⟨ns,sq,q0,q2⟩:=q2
   cases (show FV K _ H2 u (.int d) from fv)
   rcases sq with rfl|rfl
   .obtain⟨a1,xs1,rfl,g1,g2⟩:=(R2.cont (o1.keeps f2.keeps) e2).lst
    rw [g2.ints] at g1
    exact .inl ⟨a1,ns,rfl,SqL.of g1,fun e=>k _ H2 _ ρ2 (q0 e) (f1.trans f2) ⟨R2,.int _⟩,fun h m h1 h2=>k _ H2 _ ρ2 (q2 h m h1 h2) (f1.trans f2) ⟨R2,.int _⟩⟩
   .obtain⟨a1,xs1,rfl,_,g1,g2⟩:=(R2.cont (o1.keeps f2.keeps) e2).tup
    rw [g2.ints] at g1
    exact .inr ⟨a1,ns,rfl,SqT.of g1,fun e=>k _ H2 _ ρ2 (q0 e) (f1.trans f2) ⟨R2,.int _⟩,fun h m h1 h2=>k _ H2 _ ρ2 (q2 h m h1 h2) (f1.trans f2) ⟨R2,.int _⟩⟩
  .exact q2.elim
end
def apart (A:Addr->Prop) (Da:Addr) (as:List Addr):Addr->Prop:=fun b=>A b\/b=Da\/b∈as
section
variable {K:PySem.W.Frag}{A O O':Addr->Prop}{fx:List (Nat×V)}{R:Addr->Prop}{H0 H0' H H':Hp}{ρ ρ':PSt}{σ:St}{x:Nat}{Da:Addr}{as:List Addr}{rows:List (List D)}
theorem Cp.mv:∀{as:List Addr}{rows:List (List D)},(∀a∈as,∀o,H a=some o->H' a=some o)->aM O H0 O' H0'->Cp K O H0 H as rows->Cp K O' H0' H' as rows
|_,_,_,_,.nil=>.nil
|_,_,k,kk,.cons p q t=>.cons (k _ List.mem_cons_self _ p) (q.keeps kk) (t.mv (fun a ha=>k a (List.mem_cons_of_mem _ ha)) kk)
structure Opd (K:PySem.W.Frag) (A R:Addr->Prop) (H0:Hp) (ρ:PSt) (σ:St) (H:Hp) (x:Nat) (Da:Addr) (as:List Addr) (rows:List (List D)):Prop where
 sx:σ[x]?=some (some (.ref Da))
 nA:∀a,a=Da\/a∈as->¬ A a
 h0:∀a,a=Da\/a∈as->R a\/H0 a=none
 nd:as.Nodup
 ne:Da∉as
 eD:H Da=some (.lst (as.map V.ref))
 cp:Cp K (OO (apart A Da as) ρ σ) H H as rows
theorem Opd.keep {σ':St} (o:Opd K A R H0 ρ σ H x Da as rows) (hs:σ'[x]?=some (some (.ref Da))) (kk:aM (OO (apart A Da as) ρ σ) H (OO (apart A Da as) ρ' σ') H') (kp:∀a,a=Da\/a∈as->∀u,H a=some u->H' a=some u):Opd K A R H0 ρ' σ' H' x Da as rows :=
 ⟨hs,o.nA,o.h0,o.nd,o.ne,kp _ (.inl rfl) _ o.eD,o.cp.mv (fun a ha u e=>kp a (.inr ha) u e) kk⟩
theorem Opd.fr (o:Opd K A R H0 ρ σ H x Da as rows) (r:Rel K (apart A Da as) ρ σ H) (f:Fr ρ σ H ρ' H'):Opd K A R H0 ρ' σ H' x Da as rows :=
 o.keep o.sx f.keeps fun a ha u e=>f.kp a u (r.sep a (.inr ha)) e
def cl (x:Nat) (ρ:PSt):Option (List (List D))->PSt
|none=>ρ
|some rows=>ρ.set x (some (.own (rows.map D.lst)))
theorem wY (x:Nat) (ρ:PSt):cl x ρ none=ρ:=rfl
theorem nP (x:Nat) (ρ:PSt) (rows:List (List D)):cl x ρ (some rows)=ρ.set x (some (.own (rows.map D.lst))):=rfl
def InO (K:PySem.W.Frag) (x:Nat) (fx:List (Nat×V)) (A R:Addr->Prop) (H0:Hp) (ρ:PSt) (σ:St) (H:Hp):Option (List (List D))->Prop
|none=>Rel K A ρ σ H/\ek fx R H0 ρ σ H
|some rows=>∃Da as,Rel K (apart A Da as) ρ σ H/\ek fx R H0 ρ σ H/\Opd K A R H0 ρ σ H x Da as rows
theorem sZ {α:Type}:∀{l:List α}{i:Nat}{v:α},l[i]?=some v->l.set i v=l
|[],_,_,e=>by simp at e
|a::l,0,v,e=>by simp at e;rw [e];rfl
|a::l,i+1,v,e=>by rw [List.set_cons_succ,sZ (by simpa using e)]
theorem InO.cl {m:Option (List (List D))} (h:InO K x fx A R H0 ρ σ H m):Rel K A (L2.cl x ρ m) σ H/\ek fx R H0 (L2.cl x ρ m) σ H:=by
 cases m with
|none=>exact h
|some rows =>
  obtain⟨Da,as,r,F,o⟩:=h
  have r1:Rel K (eG A Da) ρ σ H:=r.less fun b z=>z.imp id .inl
  have out:Out K A ρ σ (fun _=>none) H (.own (rows.map D.lst)) (.ref Da):=by
   refine⟨Da,as.map V.ref,rfl,o.nA _ (.inl rfl),rfl,o.eD,r1,o.cp.fvs (Gr.refl H) (fun b z=>.inl ?_) fun a ha z=>?_⟩
   .rcases z with (z|z)|z
    .exact .inl (.inl z)
    .exact .inl (.inr (.inl z))
    .exact .inr z
   .rcases z with (z|z)|z
    .exact o.nA a (.inr ha) z
    .exact o.ne (by rw [<- z];exact ha)
    .exact r.sep a (.inr (.inr ha)) z
  have pt:=(out.put (i:=x)).1
  rw [sZ o.sx] at pt
  refine⟨pt,F.kp,F.dm,fun b w=>?_,F.fx⟩
  obtain⟨j,p,e,ow,s⟩:=w
  by_cases z:x=j
  .subst z
   rw [o.sx] at s;cases s
   exact o.h0 _ (.inl rfl)
  .have e:(ρ.set x (some (.own (rows.map D.lst))))[j]?=some (some p):=e
   rw [List.getElem?_set_ne z] at e
   exact F.ow b ⟨j,p,e,ow,s⟩
theorem Rel.writeA (r:Rel K A ρ σ H) {a:Addr}{o:HO} (ha:A a):Rel K A ρ σ (upd H a o):=by
 have k:aM (OO A ρ σ) H (OO A ρ σ) (upd H a o):=fun b u n e=>⟨n,by rw [aB (fun z=>n (.inl (by rw [z];exact ha)))];exact e⟩
 refine⟨r.len,fun i q e=>?_,r.dj,fun b z=>?_,r.sep⟩
 .obtain⟨v,s,rr⟩:=r.get i q e
  refine⟨v,s,rr.keeps k fun ow b eb=>?_⟩
  subst eb
  rw [aB]
  intro z
  exact r.sep a ha ⟨i,q,e,ow,by rw [<- z];exact s⟩
 .by_cases z':b=a
  .rw [z',aL];exact nofun
  .rw [aB z'];exact r.dom b z
theorem Rel.grB (r:Rel K A ρ σ H) (g:Gr H H') {B:Addr->Prop} (hB:∀b,B b->H b=none/\H' b≠none):Rel K (fun b=>A b\/B b) ρ σ H':=by
 have k:aM (OO A ρ σ) H (OO (fun b=>A b\/B b) ρ σ) H':=fun b u n e=>by
  refine⟨fun z=>?_,g _ _ e⟩
  rcases z with (z|z)|z
  .exact n (.inl z)
  .rw [(hB b z).1] at e;cases e
  .exact n (.inr z)
 refine⟨r.len,fun i q e=>?_,r.dj,fun b z=>?_,fun b z w=>?_⟩
 .obtain⟨v,s,rr⟩:=r.get i q e
  refine⟨v,s,rr.keeps k fun ow a ea=>?_⟩
  obtain⟨a',u,e1,e2⟩:=rr.ref ow
  rw [ea] at e1;cases e1
  rw [e2];exact g _ _ e2
 .rcases z with z|z
  .exact (g.fr (ρ:=ρ) (σ:=σ)).dm b (r.dom b z)
  .exact (hB b z).2
 .rcases z with z|z
  .exact r.sep b z w
  .exact r.wr w (hB b z).1
theorem nQ {i j:Nat}{p:PV} (e:(ρ.set i none)[j]?=some (some p)):j≠i/\ρ[j]?=some (some p):=by
 by_cases z:i=j
 .subst z
  by_cases h:i<ρ.length
  .rw [List.getElem?_set_self h] at e;cases e
  .rw [List.getElem?_eq_none (by rw [List.length_set];omega)] at e;cases e
 .rw [List.getElem?_set_ne z] at e;exact⟨fun q=>z q.symm,e⟩
theorem tm {v:Option V}{b:Addr} (w:Wr (ρ.set x none) (σ.set x v) b):Wr ρ σ b:=by
 obtain⟨j,p,e,o,s⟩:=w
 obtain⟨n,e⟩:=nQ e
 rw [List.getElem?_set_ne (Ne.symm n)] at s
 exact⟨j,p,e,o,s⟩
theorem Rel.clr {v:Option V} (r:Rel K A ρ σ H):Rel K A (ρ.set x none) (σ.set x v) H:=by
 have k:aM (OO A ρ σ) H (OO A (ρ.set x none) (σ.set x v)) H:=aM.less fun b z=>z.imp id tm
 refine⟨by rw [List.length_set,List.length_set];exact r.len,fun j p e=>?_,fun i j p q u e1 e2 o1 o2 s1 s2=>?_,r.dom,fun b z w=>r.sep b z (tm w)⟩
 .obtain⟨n,e⟩:=nQ e
  obtain⟨u,s,rr⟩:=r.get j p e
  exact⟨u,by rw [List.getElem?_set_ne (Ne.symm n)];exact s,rr.keeps k fun _ _ _=>rfl⟩
 .obtain⟨n1,e1⟩:=nQ e1
  obtain⟨n2,e2⟩:=nQ e2
  rw [List.getElem?_set_ne (Ne.symm n1)] at s1
  rw [List.getElem?_set_ne (Ne.symm n2)] at s2
  exact r.dj i j p q u e1 e2 o1 o2 s1 s2
theorem Opn.opd {H1:Hp} (o:Opn K A ρ σ H Da as H1 rows) (r:Rel K A ρ σ H) (F:ek fx R H0 ρ σ H) (hx:x<σ.length):Rel K (apart A Da as) (ρ.set x none) (σ.set x (some (.ref Da))) H1/\Opd K A R H0 (ρ.set x none) (σ.set x (some (.ref Da))) H1 x Da as rows:=by
 have nn:∀a,a=Da\/a∈as->H a=none:=fun a z=>z.elim (fun z=>by rw [z];exact o.hD) fun z=>(o.fr a z).1
 have r1:Rel K (apart A Da as) ρ σ H1:=r.grB o.gr (B:=fun b=>b=Da\/b∈as) fun b z=>⟨nn b z,by
  rcases z with z|z
  .rw [z,o.eD];exact nofun
  .obtain⟨u,e⟩:=o.cp.dom b z
   rw [e];exact nofun⟩
 refine⟨r1.clr,List.getElem?_set_self hx,fun a z w=>r.dom a w (nn a z),fun a z=>.inr ?_,o.nd,fun z=>(o.fr _ z).2 rfl,o.eD,o.cp.mv (fun _ _ _ e=>e) fun b u n e=>⟨fun z=>?_,o.gr b u e⟩⟩
 .cases e:H0 a with
 |none=>rfl
 |some u=>exact absurd (nn a z) (F.dm a (by rw [e];exact nofun))
 .rcases z with z|z
  .rcases z with z|z
   .exact n (.inl z)
   .rw [nn b z] at e;cases e
  .exact n (.inr (tm z))
end
structure PEO where
 nx:PSt->Option (List (List D))->Prop
 rt:PV->PSt->Prop
abbrev POT:=PEO->PSt->Option (List (List D))->Prop
def LSO (K:PySem.W.Frag) (fs:List Nat) (x:Nat) (ts:TS) (po:POT):Prop:=∀(fx:List (Nat×V)) (A R:Addr->Prop) (H0:Hp) (ρ:PSt) (σ:St) (H:Hp) (m:Option (List (List D))) (D:PEO) (D':zX),fx.map Prod.fst=fs->InO K x fx A R H0 ρ σ H m->po D ρ m ->
 (∀ρ' σ' H' m',D.nx ρ' m'->InO K x fx A R H0 ρ' σ' H' m'->D'.nx σ' H') ->
 (∀v p ρ' σ' H',D.rt p ρ'->Out K A ρ' σ' H0 H' p v->ek fx R H0 ρ' σ' H'->D'.rt v H')->ts D' σ H
def Bx (a b:POT):POT:=fun D ρ m=>a { D with nx:=b D } ρ m
def DR (t:PTT) (a b:POT):POT:=fun D ρ m=>t ρ fun c ρ1=>fU c (a D ρ1 m) (b D ρ1 m)
def zE (a:POT):POT:=fun D ρ m=>∃J:PSt->Option (List (List L2.D))->Prop,a { D with nx:=J } ρ m/\∀ρ' m',J ρ' m'->D.nx ρ' m'
def FY (p:PTS):POT:=fun D ρ m=>p ⟨fun ρ'=>D.nx ρ' m,fun _ _=>False,fun _=>False,fun _=>False⟩ ρ
def zF (x:Nat) (p:PTS):POT:=fun D ρ m=>p ⟨fun ρ'=>D.nx ρ' none,D.rt,fun _=>False,fun _=>False⟩ (cl x ρ m)
def yL (pe pi pj:PTE):POT:=fun D ρ m=>match m with
|none=>False
|some rows=>pe ρ fun v ρ1=>pi ρ1 fun vi ρ2=>(match vi with
 |.dat (.int i)=>∃n row,ixN rows.length i=some n/\rows[n]?=some row/\pj ρ2 fun vj ρ3=>(match vj with
  |.dat (.int j)=>∃l,ixN row.length j=some l/\D.nx ρ3 (some (rows.set n (row.set l v.d)))
  |_=>False)
 |_=>False)
section
variable {K:PySem.W.Frag}{fs:List Nat}{x:Nat}{ta tb ts:TS}{pa pb:POT}{tt:TT}{pt:PTT}{p:PTS}{te ti tj:TE}{pe pi pj:PTE}
theorem wZ (ha:LSO K fs x ta pa) (hb:LSO K fs x tb pb):LSO K fs x (Eg ta tb) (Bx pa pb):=fun fx A R H0 ρ σ H m D D' hf r q k1 k2 =>
 ha fx A R H0 ρ σ H m _ _ hf r q (fun ρ1 σ1 H1 m1 q1 r1=>hb fx A R H0 ρ1 σ1 H1 m1 _ _ hf r1 q1 k1 k2) k2
theorem tq (ht:LT K tt pt) (ha:LSO K fs x ta pa) (hb:LSO K fs x tb pb):LSO K fs x (Et tt ta tb) (DR pt pa pb):=fun fx A R H0 ρ σ H m D D' hf r q k1 k2=>by
 cases m with
|none =>
  exact ht A ρ σ H _ _ r.1 q fun c H1 ρ1 q1 f1 r1=>by
   cases c with
  |true=>exact ha fx A R H0 ρ1 σ H1 none D D' hf ⟨r1,r.2.fr f1⟩ q1 k1 k2
  |false=>exact hb fx A R H0 ρ1 σ H1 none D D' hf ⟨r1,r.2.fr f1⟩ q1 k1 k2
|some rows =>
  obtain⟨Da,as,r,F,o⟩:=r
  exact ht _ ρ σ H _ _ r q fun c H1 ρ1 q1 f1 r1=>by
   cases c with
  |true=>exact ha fx A R H0 ρ1 σ H1 (some rows) D D' hf ⟨Da,as,r1,F.fr f1,o.fr r f1⟩ q1 k1 k2
  |false=>exact hb fx A R H0 ρ1 σ H1 (some rows) D D' hf ⟨Da,as,r1,F.fr f1,o.fr r f1⟩ q1 k1 k2
theorem yM (ha:LSO K fs x ta pa):LSO K fs x (Ay ta) (zE pa):=fun fx A R H0 ρ σ H m D D' hf r q k1 k2=>by
 obtain⟨J,q1,q2⟩:=q
 refine⟨fun σ' H'=>∃ρ' m',J ρ' m'/\InO K x fx A R H0 ρ' σ' H' m',?_,fun σ' H' ⟨ρ',m',j,r'⟩=>k1 ρ' σ' H' m' (q2 ρ' m' j) r'⟩
 exact ha fx A R H0 ρ σ H m _ _ hf r q1 (fun ρ' σ' H' m' j r'=>⟨ρ',m',j,r'⟩) k2
theorem xa (h:LS K fs ts p):LSO K fs x ts (zF x p):=fun fx A R H0 ρ σ H m D D' hf r q k1 k2 =>
 h fx A R H0 _ σ H _ D' hf r.cl.1 r.cl.2 q (fun ρ' σ' H' q' r' F'=>k1 ρ' σ' H' none q' ⟨r',F'⟩) k2 (fun _ _ _ z=>(z:False).elim) (fun _ _ _ z=>(z:False).elim)
theorem DS (h:LS K fs ts p) (h':LS K (x::fs) ts p):LSO K fs x ts (FY p):=fun fx A R H0 ρ σ H m D D' hf r q k1 k2=>by
 cases m with
|none=>exact h fx A R H0 ρ σ H _ D' hf r.1 r.2 q (fun ρ' σ' H' q' r' F'=>k1 ρ' σ' H' none q' ⟨r',F'⟩) (fun _ _ _ _ _ z=>(z:False).elim) (fun _ _ _ z=>(z:False).elim) (fun _ _ _ z=>(z:False).elim)
|some rows =>
  obtain⟨Da,as,r,F,o⟩:=r
  have st:ek ((x,V.ref Da)::fx) (Wr ρ σ) H ρ σ H:=ek.start fun p hp=>by
   rcases List.mem_cons.mp hp with rfl|hp
   .exact o.sx
   .exact F.fx p hp
  refine h' ((x,V.ref Da)::fx) (apart A Da as) (Wr ρ σ) H ρ σ H _ D' (by rw [List.map_cons,hf]) r st q (fun ρ' σ' H' q' r' F'=>?_) (fun _ _ _ _ _ z=>(z:False).elim) (fun _ _ _ z=>(z:False).elim) (fun _ _ _ z=>(z:False).elim)
  refine k1 ρ' σ' H' (some rows) q' ⟨Da,as,r',F.trans F' fun p hp=>F'.fx p (List.mem_cons_of_mem _ hp),o.keep (F'.fx _ List.mem_cons_self) F'.keeps fun a ha u e=>F'.kp a u (r.sep a (.inr ha)) e⟩
theorem rh (he:LE K te pe) (hi:LE K ti pi) (hj:LE K tj pj):LSO K fs x (ze te (Ev (tOp (pF K) (a9 x) ti) tj Aq)) (yL pe pi pj):=fun fx A R H0 ρ σ H m D D' hf r q k1 k2=>by
 cases m with
|none=>exact q.elim
|some rows =>
  obtain⟨Da,as,r,F,o⟩:=r
  refine he _ ρ σ H _ _ r q fun v H1 p ρ1 q1 f1 o1=>?_
  have od1:=o.fr r f1
  obtain⟨r1,fv⟩:=o1.frz
  refine⟨.ref Da,o.sx,hi _ ρ1 σ H1 _ _ r1 q1 fun vi H2 p2 ρ2 q2 f2 o2=>?_⟩
  split at q2
  .rename_i i
   obtain⟨n,row,hn,hrow,q2⟩:=q2
   obtain⟨r2,e2⟩:=o2
   cases e2
   have od2:=od1.fr r1 f2
   obtain⟨a,xs,ha,hxs,fxs⟩:=od2.cp.get hrow
   have hl:(as.map V.ref).length=rows.length:=by rw [List.length_map,od2.cp.length]
   refine .inl ⟨Da,as.map V.ref,i,.ref a,rfl,rfl,SqL.of od2.eD,?_,hj _ ρ2 σ H2 _ _ r2 q2 fun vj H3 p3 ρ3 q3 f3 o3=>?_⟩
   .unfold atI;rw [hl,hn];show (as.map V.ref)[n]?=_;rw [List.getElem?_map,ha];rfl
   .split at q3
    .rename_i j
     obtain⟨l,hm,q3⟩:=q3
     obtain⟨r3,e3⟩:=o3
     cases e3
     have od3:=od2.fr r2 f3
     obtain⟨a',xs,ha',hxs,fxs⟩:=od3.cp.get hrow
     rw [ha] at ha';cases ha'
     have hin:a∈as:=List.mem_of_getElem? ha
     have hAa:apart A Da as a:=.inr (.inr hin)
     have fv3:FV K (OO (apart A Da as) ρ3 σ) H3 v p.d:=(fv.keeps f2.keeps).keeps f3.keeps
     have kk:aM (OO (apart A Da as) ρ3 σ) H3 (OO (apart A Da as) ρ3 σ) (upd H3 a (.lst (xs.set l v))):=fun b u n e=>⟨n,by rw [aB (fun z=>n (.inl (by rw [z];exact hAa)))];exact e⟩
     have F3:=((F.fr f1).fr f2).fr f3
     refine⟨a,xs,j,l,rfl,rfl,hxs,by rw [fxs.length];exact hm,k1 ρ3 σ _ _ q3 ⟨Da,as,r3.writeA hAa,⟨fun b u n e=>?_,fun b z=>?_,F3.ow,F3.fx⟩,⟨od3.sx,od3.nA,od3.h0,od3.nd,od3.ne,?_,?_⟩⟩⟩
     .rw [aB (fun z=>(od3.h0 a (.inr hin)).elim (fun h=>n (by rw [z];exact h)) fun h=>by rw [z,h] at e;cases e)];exact F3.kp b u n e
     .by_cases z':b=a
      .rw [z',aL];exact nofun
      .rw [aB z'];exact F3.dm b z
     .rw [aB (fun z=>od3.ne (by rw [z];exact hin))];exact od3.eD
     .exact Cp.put (FVs.set (fv3.keeps kk) l (fxs.keeps kk)) od3.nd ha (od3.cp.mv (fun _ _ _ e=>e) kk)
    .exact q3.elim
  .exact q2.elim
def LOp (K:PySem.W.Frag) (te:TE) (po:PSt->(List (List D)->Prop)->Prop):Prop:=∀(A:Addr->Prop) (ρ:PSt) (σ:St) (H:Hp) (Q:List (List D)->Prop) (Q':VK),Rel K A ρ σ H->po ρ Q->(∀Da as H1 rows,Q rows->Opn K A ρ σ H Da as H1 rows->Q' (.ref Da) H1)->te σ H Q'
def DT (x:Nat) (op:PSt->(List (List D)->Prop)->Prop) (po:POT):PTS:=fun D ρ=>x<ρ.length/\op ρ fun rows=>po ⟨fun ρ' m=>D.nx (cl x ρ' m),D.rt⟩ (ρ.set x none) (some rows)
theorem DU {op:PSt->(List (List D)->Prop)->Prop}{tr:TS}{po:POT} (hx:fs.contains x=false) (h:LOp K te op) (hr:LSO K fs x tr po):LS K fs (Eg (ze te (bR x)) tr) (DT x op po):=fun fx A R H0 ρ σ H D D' hf r F q k1 k2 k3 k4=>by
 obtain⟨hxl,q⟩:=q
 have hxs:x<σ.length:=by rw [<- r.len];exact hxl
 refine h A ρ σ H _ _ r q fun Da as H1 rows q1 o=>?_
 obtain⟨r1,od⟩:=o.opd r F hxs
 have F1:ek fx R H0 (ρ.set x none) (σ.set x (some (.ref Da))) H1:=by
  have F0:=F.fr (o.gr.fr (ρ:=ρ) (σ:=σ))
  refine⟨F0.kp,F0.dm,fun b w=>F0.ow b (tm w),fun p hp=>?_⟩
  have:p.1≠x:=fun z=>by
   have h1:x∈fs:=by rw [<- hf,<- z];exact List.mem_map_of_mem hp
   rw [List.contains_iff_mem.mpr h1] at hx;cases hx
  rw [List.getElem?_set_ne (Ne.symm this)];exact F0.fx p hp
 exact hr fx A R H0 _ _ H1 (some rows) _ _ hf ⟨Da,as,r1,F1,od⟩ q1 (fun ρ' σ' H' m' q' r'=>k1 _ σ' H' q' r'.cl.1 r'.cl.2) k2
def zG (y:Nat):PSt->(List (List D)->Prop)->Prop:=fun ρ Q=>∃p ds rows,ρ[y]?=some (some p)/\kf p.d ds/\fX ds rows/\ds.length<=1000/\Q rows
theorem yN {y:Nat}:LOp K (lN [none] (gK K (a9 y)) (bR 0) gJ (tCB (gk K) (aW (a9 0) dC))) (zG y):=fun A ρ σ H Q Q' r q k=>by
 obtain⟨p,ds,rows,hy,sq,ho,hl,q⟩:=q
 exact Bp r hy sq ho hl fun Da as H1 o=>k Da as H1 rows q o
end
section
variable {K:PySem.W.Frag}{A:Addr->Prop}{fx:List (Nat×V)}{R:Addr->Prop}{H0 H:Hp}{ρ:PSt}{σ:St}
def mvd (ρ:PSt) (g r:Nat) (ds:List D):PSt:=(ρ.set r (some (.own ds))).set g none
theorem zH (ρ:PSt) (g r:Nat) (ds:List D):mvd ρ g r ds=(ρ.set r (some (.own ds))).set g none:=rfl
end
section
variable {X:Cx}{K:PySem.W.Frag}
def tBI (t:TE):TT:=fun σ H Q=>t σ H fun x H1=>∃i,x=.int i/\Q (i != 0) H1
theorem DW {e:Expr}{t:TE} (h:PE X e t) (he:∀whole,isTrue e X.env whole=(do let v <- whole;standAt e.pos;holding [v] (truthy v)):=by intro _;rfl):PT X e (tBI t):=by
 intro pins s σ H Q I hw
 refine isTrue_plain (thn (h pins s σ H _ I hw) fun v s1 ⟨x,H1,I1,r1,q1⟩=>?_) (he _)
 obtain⟨d,rfl,q⟩:=q1
 obtain⟨t,rfl⟩:=r1
 exact truthy_int ⟨H1,I1,q⟩
def pBI (pe:PTE):PTT:=fun ρ Q=>pe ρ fun p ρ1=>match p with
|.dat (.int i)=>Q (i != 0) ρ1
|_=>False
theorem Fn {te:TE}{pe:PTE} (h:LE K te pe):LT K (tBI te) (pBI pe):=fun A ρ σ H Q Q' R q k=>h A ρ σ H _ _ R q fun v H1 p ρ1 q1 f1 o1=>by
 split at q1
 .rename_i b
  obtain⟨R1,f⟩:=o1
  cases f
  exact⟨b,rfl,k _ H1 ρ1 q1 f1 R1⟩
 .exact q1.elim
def DX (pe:PTE):PTE:=fun ρ Q=>pe (frzA ρ) fun p _=>match p with
|.dat d=>d.fl=true/\Q (.dat d) ρ
|_=>False
theorem By {te:TE}{pe:PTE} (h:LE K te pe):LE K te (DX pe):=fun A ρ σ H Q Q' R q k=>h A _ σ H _ _ R.frzA q fun v H1 p ρ1 q1 f1 o1=>by
 split at q1
 .rename_i d
  obtain⟨hf,q1⟩:=q1
  have g:Gr H H1:=fun b o e=>f1.kp b o nO e
  exact k v H1 _ ρ q1 g.fr ⟨R.gr g,FV.flat o1.2 hf⟩
 .exact q1.elim
end
def yO (i:Nat) (p:PTS):PTS:=fun D ρ=>match ρ[i]? with
|some (some q)=>p D (ρ.set i (some (.dat q.d)))
|_=>False
theorem zI {K:PySem.W.Frag}{fs:List Nat}{i:Nat}{t:TS}{p:PTS} (h:LS K fs t p):LS K fs t (yO i p):=fun fx A R H0 ρ σ H D D' hf r F q k1 k2 k3 k4=>by
 unfold yO at q
 split at q
 .rename_i e
  obtain⟨r',f'⟩:=r.frz e
  exact h fx A R H0 _ σ H D D' hf r' (F.fr f') q k1 k2 k3 k4
 .exact q.elim
end L2
namespace K35
open PySem PySem.Spec PyProof.Rows L2
def top (i:Nat):Stmt:=PySem.Challenge.pw_shortglue_k35_whole_table_bound.main.body.getD i (.Pass ⟨0,0,0,0⟩)
abbrev nR:Stmt:=top 5
abbrev iz:Stmt:=top 6
abbrev fE:Stmt:=top 7
abbrev kY:Stmt:=top 10
abbrev gC:Stmt:=top 11
abbrev dW:Stmt:=top 12
abbrev iA:Stmt:=top 13
abbrev fF:Stmt:=top 14
abbrev fc:Stmt:=top 22
abbrev fG:Stmt:=top 23
abbrev Bz:Stmt:=top 16
abbrev jk:Stmt:=top 17
abbrev eZ:Stmt:=top 25
abbrev ey:Stmt:=top 26
abbrev kZ:Stmt:=top 27
abbrev jl:Stmt:=top 28
abbrev cH:Stmt:=vp (top 29) 0
abbrev cI:Stmt:=vp (top 29) 1
abbrev iB:Stmt:=top 31
abbrev jm:Stmt:=top 32
abbrev jn:Stmt:=top 33
abbrev iC:Stmt:=top 34
abbrev gD:Stmt:=top 35
abbrev iD:Stmt:=top 36
abbrev k6:Stmt:=top 37
abbrev jo:Stmt:=top 38
abbrev fH:Stmt:=top 39
abbrev gE:Stmt:=top 40
abbrev iE:Stmt:=top 41
abbrev jp:Stmt:=top 42
abbrev gF:Stmt:=top 43
abbrev jq:Stmt:=top 44
abbrev k8:Stmt:=top 45
abbrev iF:Stmt:=top 46
abbrev yP:Stmt:=top 47
theorem xb:aO ["thing"] ["thing"] (ar nR):=⟨rfl,rfl,rfl,by decide +kernel,rfl,by decide +kernel,by decide +kernel⟩
theorem pU:aO ["thing"] ["thing"] (ar iz):=⟨rfl,rfl,rfl,by decide +kernel,rfl,by decide +kernel,by decide +kernel⟩
theorem lU:aO ["thing","many"] ["thing","many"] (ar fE):=⟨rfl,rfl,rfl,by decide +kernel,rfl,by decide +kernel,by decide +kernel⟩
theorem uy:aO ["mark"] ["mark"] (ar kY):=⟨rfl,rfl,rfl,by decide +kernel,rfl,by decide +kernel,by decide +kernel⟩
theorem iU:aO ["family","table","mark","i","rest"] ["family","table","mark","i"] (ar gC):=⟨rfl,rfl,rfl,by decide +kernel,rfl,by decide +kernel,by decide +kernel⟩
theorem fe:aO ["family","paper","many"] ["family","paper"] (ar dW):=⟨rfl,rfl,rfl,by decide +kernel,rfl,by decide +kernel,by decide +kernel⟩
theorem jG:aO ["family","paper","mark","i","least"] ["family","paper","mark","i"] (ar iA):=⟨rfl,rfl,rfl,by decide +kernel,rfl,by decide +kernel,by decide +kernel⟩
theorem hX:aO ["family","paper","numbers"] ["family","paper"] (ar fF):=⟨rfl,rfl,rfl,by decide +kernel,rfl,by decide +kernel,by decide +kernel⟩
theorem uz:aO ["thing","least","most"] ["thing","least","most"] (ar fc):=⟨rfl,rfl,rfl,by decide +kernel,rfl,by decide +kernel,by decide +kernel⟩
theorem lV:aO ["text","piece"] ["text","piece"] (ar fG):=⟨rfl,rfl,rfl,by decide +kernel,rfl,by decide +kernel,by decide +kernel⟩
theorem zJ:aO ["one","other","k"] ["one","other"] (ar Bz):=⟨rfl,rfl,rfl,by decide +kernel,rfl,by decide +kernel,by decide +kernel⟩
theorem rj:aO ["words"] ["words"] (ar jk):=⟨rfl,rfl,rfl,by decide +kernel,rfl,by decide +kernel,by decide +kernel⟩
theorem eA:aO ["things","at","thing"] ["things"] (ar eZ):=⟨rfl,rfl,rfl,by decide +kernel,rfl,by decide +kernel,by decide +kernel⟩
theorem j4:aO ["piece","other"] ["piece","other"] (ar ey):=⟨rfl,rfl,rfl,by decide +kernel,rfl,by decide +kernel,by decide +kernel⟩
theorem jr:aO ["pieces","at","piece","longer"] ["pieces","at"] (ar kZ):=⟨rfl,rfl,rfl,by decide +kernel,rfl,by decide +kernel,by decide +kernel⟩
theorem k9:aO ["pieces","kept","at","holder"] ["pieces","kept","at"] (ar jl):=⟨rfl,rfl,rfl,by decide +kernel,rfl,by decide +kernel,by decide +kernel⟩
theorem hZ:aO ["self","pieces","indexes"] ["self","pieces"] (ar cH):=⟨rfl,rfl,rfl,by decide +kernel,rfl,by decide +kernel,by decide +kernel⟩
theorem lW:aO ["self"] ["self"] (ar cI):=⟨rfl,rfl,rfl,by decide +kernel,rfl,by decide +kernel,by decide +kernel⟩
theorem dN:aO ["_law_cell","_law_k","_law_number"] ["_law_cell","_law_k"] (ar iB):=⟨rfl,rfl,rfl,by decide +kernel,rfl,by decide +kernel,by decide +kernel⟩
theorem cJ:aO ["_law_script","_law_many","_law_cells","_law_found","_law_turn","_law_cell","_law_rest"] ["_law_script","_law_many"] (ar jm):=⟨rfl,rfl,rfl,by decide +kernel,rfl,by decide +kernel,by decide +kernel⟩
theorem rl:aO ["_law_deck_here"] ["_law_deck_here"] (ar jn):=⟨rfl,rfl,rfl,by decide +kernel,rfl,by decide +kernel,by decide +kernel⟩
theorem eN:aO ["_law_deck_here","_law_letters","_law_many","_law_found","_law_k"] ["_law_deck_here","_law_letters","_law_many"] (ar iC):=⟨rfl,rfl,rfl,by decide +kernel,rfl,by decide +kernel,by decide +kernel⟩
theorem a5:aO ["_law_deck_here","_law_most","_law_first","_law_many","_law_letters","_law_sort","_law_long","_law_text","_law_pieces_here","_law_k","_law_at","_law_piece"] ["_law_deck_here","_law_most"] (ar gD):=⟨rfl,rfl,rfl,by decide +kernel,rfl,by decide +kernel,by decide +kernel⟩
theorem dO:aO ["_law_pieces_here","_law_found","_law_k","_law_piece","_law_longer"] ["_law_pieces_here"] (ar iD):=⟨rfl,rfl,rfl,by decide +kernel,rfl,by decide +kernel,by decide +kernel⟩
theorem mP:aO ["_law_one","_law_other","_law_k"] ["_law_one","_law_other"] (ar k6):=⟨rfl,rfl,rfl,by decide +kernel,rfl,by decide +kernel,by decide +kernel⟩
theorem rm:aO ["_law_words_here"] ["_law_words_here"] (ar jo):=⟨rfl,rfl,rfl,by decide +kernel,rfl,by decide +kernel,by decide +kernel⟩
theorem aY:aO ["_law_deck_here","_law_words_here","_law_left","_law_text","_law_close","_law_earlier","_law_word","_law_shared"] ["_law_deck_here","_law_words_here"] (ar fH):=⟨rfl,rfl,rfl,by decide +kernel,rfl,by decide +kernel,by decide +kernel⟩
theorem fJ:aO ["_law_laps_here","_law_table","_law_mark","_law_i","_law_below","_law_others"] ["_law_laps_here","_law_table","_law_mark","_law_i"] (ar gE):=⟨rfl,rfl,rfl,by decide +kernel,rfl,by decide +kernel,by decide +kernel⟩
theorem dn:aO ["_law_deck_here","_law_first","_law_letters","_law_words_here","_law_one","_law_turn"] ["_law_deck_here"] (ar iE):=⟨rfl,rfl,rfl,by decide +kernel,rfl,by decide +kernel,by decide +kernel⟩
theorem lb:aO ["_law_deck_here","_law_many","_law_turn"] ["_law_deck_here","_law_many","_law_turn"] (ar jp):=⟨rfl,rfl,rfl,by decide +kernel,rfl,by decide +kernel,by decide +kernel⟩
theorem cK:aO ["_law_deck_here","_law_laps_here","_law_many","_law_table","_law_close","_law_mark","_law_row","_law_i"] ["_law_deck_here","_law_laps_here"] (ar gF):=⟨rfl,rfl,rfl,by decide +kernel,rfl,by decide +kernel,by decide +kernel⟩
theorem cU:aO ["_law_deck_here","_law_laps_here","_law_table","_law_many","_law_sort","_law_mark","_law_i","_law_bent_here","_law_less"] ["_law_deck_here","_law_laps_here","_law_table"] (ar jq):=⟨rfl,rfl,rfl,by decide +kernel,rfl,by decide +kernel,by decide +kernel⟩
theorem jt:aO ["_law_laps_here","_law_odd_here"] ["_law_laps_here"] (ar k8):=⟨rfl,rfl,rfl,by decide +kernel,rfl,by decide +kernel,by decide +kernel⟩
theorem pV:aO ["_law_deck_here","_law_table"] ["_law_deck_here","_law_table"] (ar iF):=⟨rfl,rfl,rfl,by decide +kernel,rfl,by decide +kernel,by decide +kernel⟩
theorem dP:aO ["_law_script","_law_deck_here","_law_pieces_here","_law_words_here","_law_laps_here","_law_family","_law_total","_law_texts","_law_k","_law_table","_law_bound","_law_short","_law_shown_here","_law_odd_here","_law_great"] ["_law_script"] (ar yP):=⟨rfl,rfl,rfl,by decide +kernel,rfl,by decide +kernel,by decide +kernel⟩
structure Txt (mg:Str->Option Value):Prop where
 b_all:mg "all"=none
 b_any:mg "any"=none
 b_bool:mg "bool"=none
 b_enumerate:mg "enumerate"=none
 b_int:mg "int"=none
 b_isinstance:mg "isinstance"=none
 b_len:mg "len"=none
 b_list:mg "list"=none
 b_max:mg "max"=none
 b_min:mg "min"=none
 b_range:mg "range"=none
 b_reversed:mg "reversed"=none
 b_str:mg "str"=none
 b_sum:mg "sum"=none
 b_tuple:mg "tuple"=none
 g_MOST_PIECES:∃t,mg "MOST_PIECES"=some (.int 40 t)
 g_MOST_SIGNS:∃t,mg "MOST_SIGNS"=some (.int 60 t)
 g_MOST_TABLE_WORDS:∃t,mg "MOST_TABLE_WORDS"=some (.int 8 t)
structure TxC (K:PySem.W.Frag):Prop where
 cl_Family:Cls K (cC K "Family")
 n_Family_pieces:eE K (cC K "Family") "pieces"
 n_Family_kept:eE K (cC K "Family") "kept"
 n_Family_words:eE K (cC K "Family") "words"
 n_Family_left:eE K (cC K "Family") "left"
 n_Family_laps:eE K (cC K "Family") "laps"
 n_Family_total:eE K (cC K "Family") "total"
local macro_rules | `(tactic| walk_at "s")=>`(tactic| first | (with_reducible omega) | (with_reducible assumption) | (with_reducible rfl) | exact Nat.le_of_ble_eq_true rfl | (simp only [List.length_cons,List.length_nil,List.length_append,List.length_map];(with_reducible omega)) | assumption | rfl | (refine ⟨?_,?_⟩ <;> first | (with_reducible omega) | (with_reducible assumption) | (with_reducible rfl) | exact Nat.le_of_ble_eq_true rfl | assumption | rfl | (refine ⟨?_,?_⟩ <;> first | (with_reducible omega) | (with_reducible assumption) | (with_reducible rfl) | exact Nat.le_of_ble_eq_true rfl | assumption | rfl | (refine ⟨?_,?_⟩ <;> first | (with_reducible omega) | (with_reducible assumption) | (with_reducible rfl) | exact Nat.le_of_ble_eq_true rfl | assumption | rfl | fail) | fail) | fail) | omega | fail)
local macro_rules | `(tactic| walk_at "r")=>`(tactic| ((try dsimp only [List.set_cons_zero,List.set_cons_succ,wJ,wK,wL,DE,DF,pM,mM,mN,sS,sU,List.tail_cons,pN,pO,sV,wY,nP,zH]);(conv=>whnf);(repeat (first | ((with_reducible refine And.intro ?_ ?_);(next=>walk_at "s");(conv=>whnf)) | ((with_reducible refine (show Exists _ from ?_));(first | (refine ⟨_,rfl,?_⟩) | (refine ⟨_,kf.lst _,?_⟩) | (refine ⟨_,kf.tup _,?_⟩));(conv=>whnf)) | ((refine (show fU _ _ _ from ?_));(first | (with_reducible refine Gh (by assumption) ?_) | (with_reducible refine Gi (by assumption) ?_) | (with_reducible refine EV (by assumption) ?_) | (with_reducible refine AG (by assumption) ?_) | ((with_reducible refine ET ?_ ?_);(next=>(first | (with_reducible rfl) | (with_reducible assumption) | (with_reducible omega)))) | ((with_reducible refine EU ?_ ?_);(next=>(first | (with_reducible rfl) | (with_reducible assumption) | (with_reducible omega)))) | ((with_reducible refine Db ?_ ?_);(next=>(first | (with_reducible rfl) | (with_reducible assumption) | (with_reducible omega)))) | ((with_reducible refine Dc ?_ ?_);(next=>(first | (with_reducible rfl) | (with_reducible assumption) | (with_reducible omega)))));(conv=>whnf))));(try refine (show fU _ _ _ from ?_));(try dsimp only [List.set_cons_zero,List.set_cons_succ,wJ,wK,wL,DE,DF,pM,mM,mN,sS,sU,List.tail_cons,pN,pO,sV,wY,nP,zH])))
def pW:Nat:=1
def cA:FN
|[d],Q=>d.sort=true/\Q (.dat (.bl (nJ d)))
|_,_=>False
def jH:Nat:=1
def bC:FN
|[d],Q=>d.sort=true/\Q (.dat (.bl (kT d)))
|_,_=>False
def h7:Nat:=2
def bg:FN
|[d,.int m],Q=>Srt d/\(aV d).length<=1000000/\Q (.dat (.bl (bS d m)))
|_,_=>False
def mQ:Nat:=1
theorem pX (m i:Nat):Builtin.bitAnd ((m:Int) / 2^(i:Int).toNat) 1=if m.testBit i then 1 else 0:=by
 have e:(m:Int) / 2^(i:Int).toNat=((m / 2^i:Nat):Int):=by
  rw [Int.toNat_natCast,Int.natCast_ediv,Int.natCast_pow];rfl
 rw [e]
 generalize hq:m / 2^i=q
 have h:Builtin.bitAnd (q:Int) 1=((q &&& 1:Nat):Int):=by
  unfold Builtin.bitAnd
  simp
 rw [h,Nat.and_one_is_mod]
 have ht:m.testBit i=decide (q % 2=1):=by
  rw [Nat.testBit_eq_decide_div_mod_eq,hq]
 rw [ht]
 by_cases c:q % 2=1
 .rw [decide_eq_true c,if_pos rfl,c];rfl
 .rw [decide_eq_false c,if_neg (by decide),show q % 2=0 by omega];rfl
def mem (m:Nat):List Nat:=(List.range 8).filter m.testBit
theorem yQ:∀m:_root_.Fin 256,(List.range (mO (m.1:Int))).filter m.1.testBit=mem m.1:=by decide +kernel
theorem mem_iff {m j:Nat} (hm:m<256):j∈mem m ↔ m.testBit j=true:=by
 unfold mem
 rw [List.mem_filter,List.mem_range]
 refine⟨fun h=>h.2,fun h=>⟨?_,h⟩⟩
 rcases Nat.lt_or_ge j 8 with h8|h8
 .exact h8
 .rw [Nat.testBit_lt_two_pow (Nat.lt_of_lt_of_le hm (show 2^8<=2^j from Nat.pow_le_pow_right (n:=2) (by decide) h8))] at h;cases h
theorem ju:∀m:_root_.Fin 256,∀i:_root_.Fin 8,m.1.testBit i.1=true->2^i.1<=m.1/\∀j:_root_.Fin 8,(m.1 - 2^i.1).testBit j.1=(decide (j.1≠i.1) && m.1.testBit j.1):=by decide +kernel
theorem BA:∀m:_root_.Fin 256,∀i:_root_.Fin 8,m.1.testBit i.1=false->m.1+2^i.1<256/\∀j:_root_.Fin 8,(m.1+2^i.1).testBit j.1=(decide (j.1=i.1) || m.1.testBit j.1):=by decide +kernel
theorem BB:∀m:_root_.Fin 256,∀n:_root_.Fin 9,(∀j:_root_.Fin 8,m.1.testBit j.1=decide (j.1<n.1))->m.1=2^n.1 - 1:=by decide +kernel
theorem tu {m n i:Nat} (hm:m<2^n) (h:m.testBit i=true):i<n:=by
 rcases Nat.lt_or_ge i n with h2|h2
 .exact h2
 .rw [Nat.testBit_lt_two_pow (Nat.lt_of_lt_of_le hm (Nat.pow_le_pow_right (n:=2) (by decide) h2))] at h;cases h
theorem fK {n:Nat} (h:n<=8):2^n<=256:=Nat.pow_le_pow_right (n:=2) (by decide) h
def tw (l:List Int):Int:=l.foldl max (l.headD 0)
theorem pY:∀(l:List Int) (b:Int),(l.foldl max b=b\/l.foldl max b∈l)/\b<=l.foldl max b/\∀a∈l,a<=l.foldl max b
|[],b=>⟨.inl rfl,Int.le_refl _,fun a h=>nomatch h⟩
|a::l,b=>by
  obtain⟨h1,h2,h3⟩:=pY l (max b a)
  rw [List.foldl_cons]
  refine⟨?_,by omega,fun c hc=>?_⟩
  .rcases h1 with h1|h1
   .rw [h1]
    rcases Int.le_total a b with h|h
    .exact .inl (by omega)
    .exact .inr (by rw [show max b a=a by omega];exact List.mem_cons_self)
   .exact .inr (List.mem_cons_of_mem _ h1)
  .rcases List.mem_cons.mp hc with rfl|hc
   .omega
   .exact h3 c hc
theorem jw {l:List Int} (h:0<l.length):tw l∈l/\∀a∈l,a<=tw l:=by
 cases l with
|nil=>exact absurd h (by decide)
|cons a l =>
  obtain⟨h1,h2,h3⟩:=pY (a::l) a
  refine⟨?_,h3⟩
  rcases h1 with h1|h1
  .show List.foldl max a (a::l)∈_
   rw [h1];exact List.mem_cons_self
  .exact h1
theorem jx {l:List Int}{m:Int} (h:m∈l) (h2:∀a∈l,a<=m):m=tw l:=by
 obtain⟨h3,h4⟩:=jw (List.length_pos_of_mem h)
 have:=h2 _ h3
 have:=h4 _ h
 omega
theorem pZ {l:List Int} (h:∀a∈l,0<=a):tw (0::l)=tw l:=by
 cases l with
|nil=>rfl
|cons a l =>
  obtain⟨h3,h4⟩:=jw (l:=a::l) (Nat.zero_lt_succ _)
  refine (jx (List.mem_cons_of_mem _ h3) fun b hb=>?_).symm
  rcases List.mem_cons.mp hb with rfl|hb
  .exact h _ h3
  .exact h4 b hb
def cell (tb:List (List Int)) (m i:Nat):Int:=(tb.getD m []).getD i 0
def lp (ws:List (List Nat)) (j i:Nat):Int:=(gA (pw ws j) (pw ws i):Int)
def dQ (ws:List (List Nat)) (tb:List (List Int)) (m i:Nat):List Int:=(mem (m - 2^i)).map fun j=>cell tb (m - 2^i) j+lp ws j i
def ms (ws:List (List Nat)) (tb:List (List Int)) (m i:Nat):Int:=if m.testBit i then tw (dQ ws tb m i) else -1
def nd (ws:List (List Nat)) (tb:List (List Int)) (m i:Nat):Int:=tw (0::dQ ws tb m i)
structure Tab (e:D) (tb:List (List Int)) (n:Nat):Prop where
 sq:kf e (aV e)
 len:(aV e).length=tb.length
 row:∀m,m<tb.length->kf (itD (aV e) m) ((tb.getD m []).map .int)
 wid:∀m,m<tb.length->(tb.getD m []).length=n
 all:tb.length=2^n
theorem BC {ds:List D}{m:Nat} (h:m<ds.length):atI ds (m:Int)=some (itD ds m):=iJ (j:=m) (by unfold itD;rw [List.getD_eq_getElem?_getD,List.getElem?_eq_getElem h];rfl) rfl
theorem lc {L:List Int}{i:Nat} (h:i<L.length):atI (L.map D.int) (i:Int)=some (.int (L.getD i 0)):=by
 refine iJ (j:=i) ?_ rfl
 rw [List.getElem?_map,List.getElem?_eq_getElem h,List.getD_eq_getElem?_getD,List.getElem?_eq_getElem h];rfl
abbrev FZ (ws:List (List Nat)) (w:List Nat):D:=.tup (ws.map fun v=>.int (gA w v:Int))
theorem BD {ws:List (List Nat)}{i:Nat} (h:i<ws.length):atI (ws.map (FZ ws)) (i:Int)=some (FZ ws (pw ws i)):=by
 refine iJ (j:=i) ?_ rfl
 rw [List.getElem?_map,List.getElem?_eq_getElem h]
 unfold pw
 rw [List.getD_eq_getElem?_getD,List.getElem?_eq_getElem h];rfl
theorem zK {ws:List (List Nat)}{w:List Nat}{i:Nat} (h:i<ws.length):atI (ws.map fun v=>D.int (gA w v:Int)) (i:Int)=some (.int (gA w (pw ws i):Int)):=by
 refine iJ (j:=i) ?_ rfl
 rw [List.getElem?_map,List.getElem?_eq_getElem h]
 unfold pw
 rw [List.getD_eq_getElem?_getD,List.getElem?_eq_getElem h];rfl
theorem xc (m:Nat):((mem m).map nD).length<=8:=by
 rw [List.length_map]
 exact Nat.le_trans (List.length_filter_le ..) (by rw [List.length_range];exact Nat.le_refl _)
theorem BE:∀m:_root_.Fin 256,mO (m.1:Int)<=8:=by decide +kernel
def bQ:FN
|[.int m],Q=>∃k:Nat,m=(k:Int)/\k<256/\Q (.own ((mem k).map nD))
|_,_=>False
def iV:Nat:=5
def bz:FN
|[.obj c ns fs,e,.int m,.int i],Q=>c="Family"/\ns=lS/\∃ps:List (List Nat),fs=lT ps/\∃k:Nat,m=(k:Int)/\∃j:Nat,i=(j:Int)/\∃tb:List (List Int),(Tab e tb (ao ps).length/\(ao ps).length<=8/\k<tb.length/\j<(ao ps).length)/\Q (.dat (.int (ms (ao ps) tb k j)))
|_,_=>False
def fg:Nat:=3
def dq (e:D):Prop:=e.sort=true/\(aV e).length<=1000/\∀r∈aV e,Srt r/\(aV r).length<=1000
def gb (e:D) (n:Nat):Bool:=nJ e && (decide ((aV e).length=2^n) && (aV e).all fun r=>bS r n)
theorem zL {d:D} (h:nJ d=true):kf d (aV d):=by
 cases d with
|lst ds=>exact .inl rfl
|tup ds=>exact .inr rfl
|_=>cases h
theorem F4 (n:Nat):(1:Int)*2^(n:Int).toNat=((2^n:Nat):Int):=by rw [Int.toNat_natCast,Int.one_mul,Int.natCast_pow];rfl
def aS:FN
|[.obj c ns fs,e],Q=>c="Family"/\ns=lS/\∃ps:List (List Nat),fs=lT ps/\(dq e/\(ao ps).length<=40)/\Q (.dat (.bl (decide ((ao ps).length<=8) && gb e (ao ps).length)))
|_,_=>False
def jI:Nat:=5
def enB (ws:List (List Nat)) (tb:List (List Int)) (m i:Nat):Bool:=if ms ws tb m i=-1 then decide (cell tb m i=-1) else decide (ms ws tb m i<=cell tb m i)
def bD:FN
|[.obj c ns fs,e,.int m,.int i],Q=>c="Family"/\ns=lS/\∃ps:List (List Nat),fs=lT ps/\∃k:Nat,m=(k:Int)/\∃j:Nat,i=(j:Int)/\∃tb:List (List Int),(Tab e tb (ao ps).length/\(ao ps).length<=8/\k<tb.length/\j<(ao ps).length)/\Q (.dat (.bl (enB (ao ps) tb k j)))
|_,_=>False
def ia:Nat:=3
theorem yR {d:D}{m:Int} (c:bS d m=true):∃zs:List Int,kf d (zs.map .int)/\(zs.length:Int)=m:=by
 unfold bS at c
 rw [Bool.and_eq_true,Bool.and_eq_true] at c
 obtain⟨c1,c2,c3⟩:=c
 cases d with
|lst ds=>exact⟨ds.map toI,.inl (congrArg _ (qY c3)),by rw [List.length_map];exact of_decide_eq_true c2⟩
|tup ds=>exact⟨ds.map toI,.inr (congrArg _ (qY c3)),by rw [List.length_map];exact of_decide_eq_true c2⟩
|_=>cases c1
def uA (ws:List (List Nat)) (tb:List (List Int)) (n:Nat):Prop:=∀m,m<2^n->∀i,i<n->enB ws tb m i=true
theorem kh (zs:List Int):(zs.map D.int).map toI=zs:=by rw [List.map_map];exact List.map_id' _
theorem DY {e:D}{n:Nat} (h:gb e n=true):∃tb,Tab e tb n:=by
 unfold gb at h
 rw [Bool.and_eq_true,Bool.and_eq_true,decide_eq_true_eq] at h
 obtain⟨h1,h2,h3⟩:=h
 have hm:∀m,m<(aV e).length->((aV e).map fun r=>(aV r).map toI).getD m []=(aV (itD (aV e) m)).map toI:=fun m hm=>by
  rw [List.getD_eq_getElem?_getD,List.getElem?_map,List.getElem?_eq_getElem hm]
  unfold itD
  rw [List.getD_eq_getElem?_getD,List.getElem?_eq_getElem hm];rfl
 have hz:∀m,m<(aV e).length->∃zs:List Int,kf (itD (aV e) m) (zs.map .int)/\(zs.length:Int)=n:=fun m hm=>yR (List.all_eq_true.mp h3 _ (jg hm))
 refine⟨(aV e).map fun r=>(aV r).map toI,zL h1,by rw [List.length_map],fun m hk=>?_,fun m hk=>?_,by rw [List.length_map];exact h2⟩
 .rw [List.length_map] at hk
  obtain⟨zs,s,_⟩:=hz m hk
  rw [hm m hk,s.items,kh];exact s
 .rw [List.length_map] at hk
  obtain⟨zs,s,l⟩:=hz m hk
  rw [hm m hk,s.items,kh];omega
def prs (n k:Nat):List (Nat×Nat):=(List.range k).flatMap fun m=>(List.range n).map fun i=>(m,i)
theorem xf (n:Nat):∀k,(prs n k).length=k*n
|0=>by simp [prs]
|k+1=>by
  have ih:=xf n k
  unfold prs at ih ⊢
  rw [List.range_succ,List.flatMap_append,List.length_append,ih,List.flatMap_cons,List.flatMap_nil,List.append_nil,List.length_map,List.length_range,Nat.succ_mul]
theorem yS (n k:Nat):prs n (k+1)=prs n k++(List.range n).map fun i=>(k,i):=by
 unfold prs
 rw [List.range_succ,List.flatMap_append,List.flatMap_cons,List.flatMap_nil,List.append_nil]
theorem rn {n k:Nat}{p:Nat×Nat}:p∈prs n k ↔ p.1<k/\p.2<n:=by
 unfold prs
 rw [List.mem_flatMap]
 constructor
 .rintro⟨m,hm,h⟩
  obtain⟨i,hi,rfl⟩:=List.mem_map.mp h
  exact⟨List.mem_range.mp hm,List.mem_range.mp hi⟩
 .rintro⟨h1,h2⟩
  exact⟨p.1,List.mem_range.mpr h1,List.mem_map.mpr ⟨p.2,List.mem_range.mpr h2,rfl⟩⟩
theorem tz {ds:List D} (h:0<ds.length):atI ds (-1)=some (itD ds (ds.length - 1)):=by
 unfold atI ixN
 rw [if_neg (by decide),if_pos (by omega),show ((-1:Int)+(ds.length:Int)).toNat=ds.length - 1 by omega]
 unfold itD
 show ds[ds.length - 1]?=_
 rw [List.getD_eq_getElem?_getD,List.getElem?_eq_getElem (by omega)];rfl
def aJ:FN
|[.obj c ns fs,e],Q=>c="Family"/\ns=lS/\∃ps:List (List Nat),fs=lT ps/\(dq e/\(ao ps).length<=40)/\((decide ((ao ps).length<=8) && gb e (ao ps).length)=false->Q (.dat .non))/\(∀tb:List (List Int),(ao ps).length<=8->Tab e tb (ao ps).length->(uA (ao ps) tb (ao ps).length->Q (.dat (.int (re ps - tw (tb.getD (2^(ao ps).length - 1) [])))))/\(¬ uA (ao ps) tb (ao ps).length->Q (.dat .non)))
|_,_=>False
def mR:Nat:=3
def cV:FN
|[d,.int a,.int b],Q=>d.sort=true/\Fg d<=1000000/\Q (.dat (.bl (yq d a b)))
|_,_=>False
def ib:Nat:=2
def aT:FN
|[.str a,.str b],Q=>Q (.dat (.int (fnd a b 0)))
|_,_=>False
def zM:Nat:=3
def fY:FN
|[.str a,.str b],Q=>(0<a.length/\a.length<=10000)/\(0<b.length/\b.length<=10000)/\Q (.dat (.int (gA a b:Int)))
|_,_=>False
def lf:Nat:=1
def cj:FN
|[.tup ds],Q=>∃ws:List (List Nat),ds=ws.map .str/\(ws.length<=1000/\∀w∈ws,0<w.length/\w.length<=10000)/\Q (.dat (DD ws))
|_,_=>False
def gG:Nat:=3
def bh:FN
|[d],Q=>∃ws:List (List Nat),kf d (ws.map .str)/\(ws.length<=40/\Pcs 60 ws)/\Q (.dat .non)
|_,_=>False
def fZ:Nat:=2
def aH:FN
|[.str a,.str b],Q=>Q (.dat (.bl (ga a b)))
|_,_=>False
def mS:Nat:=4
def cB:FN
|[.tup ds,.int i],Q=>∃ws:List (List Nat),ds=ws.map .str/\(ws.length<=1000/\∀w∈ws,w.length<=10000)/\(0<=i/\i<(ws.length:Int))/\Q (.dat (.bl (du ws i.toNat)))
|_,_=>False
def lg:Nat:=4
def bT:FN
|[.tup ds,.tup ks,.int i],Q=>∃ws:List (List Nat),ds=ws.map .str/\ks=(aP ws).map nD/\(ws.length<=1000/\∀w∈ws,w.length<=60)/\(0<=i/\i<(ws.length:Int))/\Q (.dat (et ws i.toNat))
|_,_=>False
def ic:Nat:=3
def bo:FR
|.ins "Family" [] [],[d],Q=>∃ws:List (List Nat),kf d (ws.map .str)/\(ws.length<=40/\Pcs 60 ws)/\Q (.dat .non) (.ins "Family" lS (lT ws))
|_,_,_=>False
def ie:Nat:=1
def aU:FN
|[.obj c ns fs],Q=>c="Family"/\ns=lS/\∃ws:List (List Nat),fs=lT ws/\Q (.dat (.int ((ao ws).length:Int)))
|_,_=>False
def jJ:Nat:=3
def Dk (zs:List Int):Prop:=∀x∈zs,0<=x/\x<1000
def bN:FN
|[.int c,.int k],Q=>(0<=k/\k<=100000)/\∀z:Int,0<=z->Q (.dat (.int z))
|_,_=>False
def lh:Nat:=7
def ck:FN
|[.scr ns,.int mo],Q=>(ns.length<=64/\0<=mo/\mo<=2000)/\∀zs:List Int,Dk zs->zs.length=mo.toNat->Q (.own (zs.map .int))
|_,_=>False
def li:Nat:=1
def aq:FR
|.own ds,[],Q=>∃zs:List Int,ds=zs.map .int/\(Dk zs/\0<zs.length/\zs.length<=100000)/\∀(z:Int) (ys:List Int),0<=z->z<1000->Dk ys->ys.length+1=zs.length->Q (.dat (.int z)) (.own (ys.map .int))
|_,_,_=>False
def jK:Nat:=5
def bO:FR
|.own ds,[.lst es,.int n],Q=>∃zs:List Int,ds=zs.map .int/\∃ls:List Nat,es=ls.map (fun c=>.str [c])/\(0<ls.length/\ls.length<=26/\Lts ls)/\(Dk zs/\zs.length<=100000)/\(0<=n/\n<=(zs.length:Int))/\∀(w:List Nat) (ys:List Int),w.length=n.toNat->Lts w->(∀c∈w,c∈ls)->Dk ys->ys.length+n.toNat=zs.length->Q (.dat (.str w)) (.own (ys.map .int))
|_,_,_=>False
def iW:Nat:=12
def uB (n f:Nat):List Nat:=(List.range n).map fun k=>97+(f+7*k) % 26
theorem xg (n f:Nat):Lts (uB n f):=fun c hc=>by
 obtain⟨k,_,rfl⟩:=List.mem_map.mp hc
 have:=Nat.mod_lt (f+7*k) (show 0<26 by decide)
 exact⟨by omega,by omega⟩
theorem xh {j:Nat} (h:j<26):atI [97,98,99,100,101,102,103,104,105,106,107,108,109,110,111,112,113,114,115,116,117,118,119,120,121,122] (j:Int)=some (97+j):=by
 have:∀j:Fin 26,atI [97,98,99,100,101,102,103,104,105,106,107,108,109,110,111,112,113,114,115,116,117,118,119,120,121,122] (j.1:Int)=some (97+j.1):=by decide +kernel
 exact this ⟨j,h⟩
theorem tD {ls:List Nat}{j:Nat} (h:j<ls.length):atI (ls.map fun c=>D.str [c]) (j:Int)=some (.str [ls.getD j 0]) :=
 iJ (j:=j) (by rw [List.getElem?_map,List.getElem?_eq_getElem h,List.getD_eq_getElem?_getD,List.getElem?_eq_getElem h];rfl) rfl
theorem zN {ls:List Nat} (hL:Lts ls) {j:Nat} (h:j<ls.length):Lts [ls.getD j 0]:=by
 rw [List.getD_eq_getElem?_getD,List.getElem?_eq_getElem h]
 exact Lts.one (hL _ (List.getElem_mem h))
def bI:FR
|.own ds,[.int mo],Q=>∃zs:List Int,ds=zs.map .int/\(Dk zs/\zs.length<=10000)/\(0<=mo/\mo<=39/\16+7*mo<=(zs.length:Int))/\∀(ps:List (List Nat)) (ys:List Int),(ps.length:Int)<=mo->Pcs 60 ps->Dk ys->(zs.length:Int)<=ys.length+16+7*mo->ys.length<=zs.length->Q (.dat (.lst (ps.map .str))) (.own (ys.map .int))
|_,_,_=>False
def jL:Nat:=5
theorem BF {ps:List (List Nat)}{k:Nat}:du ps k=(decide ((ps.filter fun o=>decide ((pw ps k).length<o.length) && ga (pw ps k) o)=[]) && !decide (pw ps k∈ps.take k)):=by
 unfold du
 rw [Bool.and_comm]
 congr 1
 cases hf:(ps.filter fun o=>decide ((pw ps k).length<o.length) && ga (pw ps k) o) with
|nil =>
  rw [decide_eq_true rfl,Bool.not_eq_true',List.any_eq_false]
  intro o ho z
  obtain⟨m1,m2⟩:=List.mem_filter.mp ho
  have:o∈ps.filter fun o=>decide ((pw ps k).length<o.length) && ga (pw ps k) o:=List.mem_filter.mpr ⟨m1,by rw [m2];exact z⟩
  rw [hf] at this;cases this
|cons o r =>
  rw [decide_eq_false (fun z=>nomatch z)]
  have:o∈ps.filter fun o=>decide ((pw ps k).length<o.length) && ga (pw ps k) o:=by rw [hf];exact List.mem_cons_self ..
  obtain⟨m1,m2⟩:=List.mem_filter.mp this
  rw [Bool.and_eq_true] at m2
  rw [Bool.not_eq_false',List.any_eq_true]
  exact⟨o,List.mem_filter.mpr ⟨m1,m2.1⟩,m2.2⟩
theorem lj {ws:List (List Nat)} (h:∀w∈ws,Lts w):pE (.lst (ws.map .str)) (.lst []):=pE.of (Sh.lstS h) (Sh.lstI [])
theorem jM (ws:List (List Nat)):deq (.lst (ws.map .str)) (.lst [])=decide (ws=[]):=by
 show PyData.eqv (.list (D.pys (ws.map .str))) (.list [])=_
 rw [qV]
 cases ws <;> simp [PyData.eqv,PyData.eqvAll]
def bP:FN
|[.lst ds],Q=>∃ps:List (List Nat),ds=ps.map .str/\(ps.length<=40/\∀w∈ps,w.length<=60/\Lts w)/\Q (.dat (.lst ((ao ps).map .str)))
|_,_=>False
def mT:Nat:=3
def bw:FN
|[.str a,.str b],Q=>a.length<=10000/\(0<b.length/\b.length<=10000)/\Q (.dat (.int (gA a b:Int)))
|_,_=>False
def ll:Nat:=1
abbrev cS (r:List Int):D:=.lst (r.map .int)
abbrev Fo (ws:List (List Nat)) (w:List Nat):D:=.lst (ws.map fun v=>.int (gA w v:Int))
abbrev dZ (ws:List (List Nat)):List D:=ws.map (Fo ws)
theorem yT {ws:List (List Nat)}{i:Nat} (h:i<ws.length):atI (dZ ws) (i:Int)=some (Fo ws (pw ws i)):=by
 refine iJ (j:=i) ?_ rfl
 rw [List.getElem?_map,List.getElem?_eq_getElem h]
 unfold pw
 rw [List.getD_eq_getElem?_getD,List.getElem?_eq_getElem h];rfl
def glL (ws:List (List Nat)) (js:List Nat):Nat->Int
|0=>0
|k+1=>glL ws js k+(pw ws (js.getD k 0)).length - (if k=0 then 0 else (gA (pw ws (js.getD (k - 1) 0)) (pw ws (js.getD k 0)):Int))
theorem DZ {a b:List Nat} (ha:0<a.length) (hb:0<b.length):gA a b<b.length:=by
 have:=(wE ha hb).1
 omega
def B3 (ws:List (List Nat)):Prop:=ws.length<=40/\∀w∈ws,0<w.length/\w.length<=60
theorem B3.at {ws:List (List Nat)} (h:B3 ws) {i:Nat} (hi:i<ws.length):0<(pw ws i).length/\(pw ws i).length<=60:=h.2 _ (hV hi)
theorem lm {α:Type}{l:List α}{k:Nat}{d:α} (h:k<l.length):l.getD k d∈l:=List.mem_of_getElem? (show l[k]?=some (l.getD k d) by rw [List.getD_eq_getElem?_getD,List.getElem?_eq_getElem h];rfl)
theorem zO {α:Type}{l:List α}{d x:α} (h:x∈l):∃i,i<l.length/\l.getD i d=x:=by
 obtain⟨i,hi,e⟩:=List.mem_iff_getElem.mp h
 exact⟨i,hi,by rw [List.getD_eq_getElem?_getD,List.getElem?_eq_getElem hi];exact e⟩
theorem yU (f:Nat->Int) {a b:List Nat} (h:a.Perm b):(a.map f).sum=(b.map f).sum:=by
 induction h with
|nil=>rfl
|cons x _ ih=>rw [List.map_cons,List.map_cons,List.sum_cons,List.sum_cons,ih]
|swap x y l=>simp only [List.map_cons,List.sum_cons];omega
|trans _ _ h1 h2=>rw [h1,h2]
theorem D0 (ws:List (List Nat)):(List.range ws.length).map (fun i=>((pw ws i).length:Int))=ws.map fun w=>(w.length:Int):=by
 refine List.ext_getElem (by rw [List.length_map,List.length_map,List.length_range]) fun i h1 h2=>?_
 rw [List.length_map,List.length_range] at h1
 rw [List.getElem_map,List.getElem_map,List.getElem_range]
 unfold pw
 rw [List.getD_eq_getElem?_getD,List.getElem?_eq_getElem h1];rfl
theorem Gp {ps:List (List Nat)} (hl:ps.length<=40) (h:Pcs 60 ps):B3 (ao ps):=⟨Nat.le_trans (fb ps) hl,fun w hw=>⟨(e8 h w hw).1,(e8 h w hw).2.1⟩⟩
def cm:FN
|[.lst ds],Q=>∃ws:List (List Nat),ds=ws.map .str/\B3 ws/\Q (.dat (.lst (dZ ws)))
|_,_=>False
def ig:Nat:=8
theorem xi (js:List Nat):js.map nD=(js.map fun j=>((j:Nat):Int)).map D.int:=by rw [List.map_map];rfl
theorem xj (rs:List Nat):pE (.lst (rs.map nD)) (.lst []):=by rw [xi];exact pE.of (Sh.lstI _) (Sh.lstI [])
theorem BG (rs:List Nat):deq (.lst (rs.map nD)) (.lst [])=decide (rs=[]):=by
 rw [xi,show (D.lst [])=D.lst (([]:List Int).map D.int) from rfl,yI]
 exact decide_eq_decide.mpr ⟨fun z=>by simpa using z,fun z=>by rw [z];rfl⟩
theorem tE (ws:List (List Nat)) (js l:List Nat):∀k,k<=js.length->glL ws (js++l) k=glL ws js k
|0,_=>rfl
|k+1,h=>by
  have ih:=tE ws js l k (by omega)
  have g:∀i,i<js.length->(js++l).getD i 0=js.getD i 0:=fun i hi=>by rw [List.getD_eq_getElem?_getD,List.getElem?_append_left hi,List.getD_eq_getElem?_getD]
  unfold glL
  rw [ih,g k (by omega)]
  by_cases c:k=0
  .rw [if_pos c,if_pos c]
  .rw [if_neg c,if_neg c,g (k - 1) (by omega)]
theorem D1 (ws:List (List Nat)) (js:List Nat) (j:Nat):glL ws (js++[j]) (js.length+1)=glL ws js js.length+(pw ws j).length - (if js.length=0 then 0 else (gA (pw ws (js.getD (js.length - 1) 0)) (pw ws j):Int)):=by
 have h0:=tE ws js [j] js.length (Nat.le_refl _)
 have h1:(js++[j]).getD js.length 0=j:=by rw [List.getD_eq_getElem?_getD,List.getElem?_append_right (Nat.le_refl _),Nat.sub_self];rfl
 show glL ws (js++[j]) js.length+_ - _=_
 rw [h0,h1]
 by_cases c:js.length=0
 .rw [if_pos c,if_pos c]
 .rw [if_neg c,if_neg c,List.getD_eq_getElem?_getD,List.getElem?_append_left (by omega),<- List.getD_eq_getElem?_getD]
def tF (ws:List (List Nat)) (js:List Nat):List Nat:=if js.length=0 then [] else pw ws (js.getD (js.length - 1) 0)
theorem yV (ws:List (List Nat)) (js:List Nat) (j:Nat):tF ws (js++[j])=pw ws j:=by
 unfold tF
 rw [List.length_append,if_neg (by show ¬ (js.length+1=0);omega),show js.length+[j].length - 1=js.length from rfl,List.getD_eq_getElem?_getD,List.getElem?_append_right (Nat.le_refl _),Nat.sub_self];rfl
theorem xk (b:List Nat):gA [] b=0:=by
 unfold gA
 rw [dif_neg]
 rintro⟨k,hk⟩
 have:=hk.1
 simp at this
def bp:FR
|.own ds,[.lst es],Q=>∃zs:List Int,ds=zs.map .int/\∃ws:List (List Nat),es=ws.map .str/\(B3 ws/\Dk zs/\3*ws.length+3<=zs.length/\zs.length<=10000)/\∀(js t:List Nat) (ys:List Int),js.Perm (List.range ws.length)->glL ws js ws.length<=t.length->t.length<=4000->Dk ys->zs.length<=ys.length+3*ws.length+3->ys.length<=zs.length->Q (.dat (.str t)) (.own (ys.map .int))
|_,_,_=>False
def iX:Nat:=6
theorem rp {tb:List (List Int)}{m:Nat} (h:m<tb.length):atI (tb.map cS) (m:Int)=some (cS (tb.getD m [])):=by
 refine iJ (j:=m) ?_ rfl
 rw [List.getElem?_map,List.getElem?_eq_getElem h,List.getD_eq_getElem?_getD,List.getElem?_eq_getElem h];rfl
def a6:FN
|[.lst ls,.lst td,.int m,.int i],Q=>∃ws:List (List Nat),ls=dZ ws/\∃tb:List (List Int),td=tb.map cS/\∃k:Nat,m=(k:Int)/\∃j:Nat,i=(j:Int)/\(ws.length<=8/\k<2^ws.length/\j<ws.length/\k.testBit j=true/\k - 2^j<tb.length/\∀r,r<tb.length->(tb.getD r []).length=ws.length)/\Q (.dat (.int (nd ws tb k j)))
|_,_=>False
def jN:Nat:=6
def l5 (f k:Nat):Nat:=97+(f+5*k) % 26
def w9 (f k:Nat):List (List Nat):=(List.range k).flatMap fun a=>(List.range 3).map fun b=>[l5 f a,l5 f b]
theorem xl (f k:Nat):w9 f (k+1)=w9 f k++(List.range 3).map fun b=>[l5 f k,l5 f b]:=by
 unfold w9
 rw [show List.range (k+1)=List.range k++[k] from List.range_succ,List.flatMap_append,List.flatMap_cons,List.flatMap_nil,List.append_nil]
theorem Fp:∀f:_root_.Fin 26,(w9 f.1 3).Nodup:=by decide +kernel
theorem xm (f:Nat):∀k,(w9 f k).length=3*k
|0=>rfl
|k+1=>by rw [xl,List.length_append,xm f k,List.length_map,List.length_range];omega
theorem D2 {f k:Nat}{w:List Nat} (h:w∈w9 f k):w.length=2/\Lts w:=by
 unfold w9 at h
 obtain⟨a,_,h⟩:=List.mem_flatMap.mp h
 obtain⟨b,_,rfl⟩:=List.mem_map.mp h
 have:=Nat.mod_lt (f+5*a) (show 0<26 by decide)
 have:=Nat.mod_lt (f+5*b) (show 0<26 by decide)
 refine⟨rfl,fun c hc=>?_⟩
 rcases List.mem_cons.mp hc with rfl|hc
 .unfold l5;omega
 .rw [List.mem_singleton.mp hc];unfold l5;omega
theorem yW {ps:List (List Nat)} (nd:ps.Nodup) (h2:∀w∈ps,w.length=2):(ao ps).length=ps.length:=by
 have hk:∀k,k<ps.length->du ps k=true:=fun k hk=>by
  unfold du
  rw [Bool.and_eq_true]
  constructor
  .rw [Bool.not_eq_true',decide_eq_false_iff_not]
   intro z
   obtain⟨i,hi,e⟩:=List.mem_iff_getElem.mp z
   rw [List.length_take] at hi
   rw [List.getElem_take] at e
   have e2:pw ps k=ps[k]:=by unfold pw;rw [List.getD_eq_getElem?_getD,List.getElem?_eq_getElem hk];rfl
   rw [e2] at e
   have:=(List.getElem_inj (h₀:=by omega) (h₁:=hk) nd).mp e
   omega
  .rw [Bool.not_eq_true',List.any_eq_false]
   intro o ho
   obtain⟨m1,m2⟩:=List.mem_filter.mp ho
   rw [decide_eq_true_eq,h2 _ (hV hk),h2 o m1] at m2
   omega
 unfold ao aP
 rw [List.length_map,List.filter_eq_self.mpr fun k hk'=>hk k (List.mem_range.mp hk'),List.length_range]
def cf:FR
|.own ds,[],Q=>∃zs:List Int,ds=zs.map .int/\(Dk zs/\3<=zs.length/\zs.length<=10000)/\∀(ps:List (List Nat)) (ys:List Int),ps.length=8->Pcs 60 ps->(ao ps).length=8->Dk ys->ys.length+3=zs.length->Q (.dat (.lst (ps.map .str))) (.own (ys.map .int))
|_,_,_=>False
def ln:Nat:=3
def cL:FR
|.own ds,[.int n,.int t],Q=>∃zs:List Int,ds=zs.map .int/\(Dk zs/\(n<7->0<zs.length)/\zs.length<=100000)/\∀(z:Int) (ys:List Int),0<=z->Dk ys->(n<7->ys.length+1=zs.length)->(¬ n<7->ys.length=zs.length)->Q (.dat (.int z)) (.own (ys.map .int))
|_,_,_=>False
def iY:Nat:=8
structure oE (ws:List (List Nat)) (tb:List (List Int)):Prop where
 wid:∀r,r<tb.length->(tb.getD r []).length=ws.length
 on:∀m,m<tb.length->∀i,i<ws.length->m.testBit i=true->nd ws tb m i<=cell tb m i
 off:∀m,m<tb.length->∀i,i<ws.length->m.testBit i=false->cell tb m i=-1
def pcn (k i:Nat):Nat:=((List.range i).filter k.testBit).length
theorem tG (k i:Nat):pcn k (i+1)=pcn k i+if k.testBit i then 1 else 0:=by
 unfold pcn
 rw [List.range_succ,List.filter_append,List.length_append,List.filter_cons]
 cases k.testBit i <;> rfl
theorem yX (k:Nat) {i j:Nat} (h:i<=j):pcn k i<=pcn k j:=by
 induction h with
|refl=>exact Nat.le_refl _
|step _ ih=>rw [tG];omega
def usd (n:Nat):Nat->Nat
|0=>0
|k+1=>usd n k+pcn k n
theorem yY (n:Nat) {i j:Nat} (h:i<=j):usd n i<=usd n j:=by
 induction h with
|refl=>exact Nat.le_refl _
|step _ ih=>show _<=usd n _+_;omega
theorem D3:∀n:_root_.Fin 6,usd n.1 (2^n.1)<=80:=by decide +kernel
theorem xn {α:Type}{a b:List α}{m:Nat}{d:α} (h:m<a.length):(a++b).getD m d=a.getD m d:=by
 rw [List.getD_eq_getElem?_getD,List.getElem?_append_left h,<- List.getD_eq_getElem?_getD]
theorem xo {α:Type} (a:List α) (x d:α):(a++[x]).getD a.length d=x:=by
 rw [List.getD_eq_getElem?_getD,List.getElem?_append_right (Nat.le_refl _),Nat.sub_self];rfl
theorem nS {tb:List (List Int)}{r:List Int}{m:Nat} (h:m<tb.length) (i:Nat):cell (tb++[r]) m i=cell tb m i:=by
 unfold cell
 rw [xn h]
theorem p4 (tb:List (List Int)) (r:List Int) (i:Nat):cell (tb++[r]) tb.length i=r.getD i 0:=by
 unfold cell
 rw [xo]
theorem D4 {ws:List (List Nat)}{tb:List (List Int)}{r:List Int}{m i:Nat} (h:m<=tb.length) (hm:m<256) (hi:i<8) (hb:m.testBit i=true):nd ws (tb++[r]) m i=nd ws tb m i:=by
 have h1:=(ju ⟨m,hm⟩ ⟨i,hi⟩ hb).1
 have h1:2^i<=m:=h1
 have h2:0<2^i:=Nat.pow_pos (by decide)
 unfold nd dQ
 congr 2
 exact List.map_congr_left fun j _=>by rw [nS (by omega)]
structure Row (ws:List (List Nat)) (tb:List (List Int)) (k i:Nat) (r:List Int):Prop where
 len:r.length=ws.length
 on:∀j,j<i->k.testBit j=true->nd ws tb k j<=r.getD j 0
 off:∀j,j<ws.length->(i<=j\/k.testBit j=false)->r.getD j 0=-1
theorem yZ {ws:List (List Nat)}{tb:List (List Int)}{k i:Nat}{r:List Int} (h:Row ws tb k i r) (hb:k.testBit i=false):Row ws tb k (i+1) r :=
 ⟨h.len,fun j hj hbj=>by
  by_cases e:j=i
  .subst e;rw [hb] at hbj;cases hbj
  .exact h.on j (by omega) hbj,fun j hj o=>h.off j hj (o.imp (fun z=>by omega) id)⟩
theorem xp {ws:List (List Nat)}{tb:List (List Int)}{k i:Nat}{r:List Int}{v:Int} (h:Row ws tb k i r) (hi:i<ws.length) (hb:k.testBit i=true) (hv:nd ws tb k i<=v):Row ws tb k (i+1) (r.set i v):=by
 have g:∀j,(r.set i v).getD j 0=if j=i then v else r.getD j 0:=fun j=>by
  by_cases e:j=i
  .subst e;rw [if_pos rfl,List.getD_eq_getElem?_getD,List.getElem?_set_self (by rw [h.len];exact hi)];rfl
  .rw [if_neg e,List.getD_eq_getElem?_getD,List.getElem?_set_ne (Ne.symm e),<- List.getD_eq_getElem?_getD]
 refine⟨by rw [List.length_set];exact h.len,fun j hj hbj=>?_,fun j hj o=>?_⟩
 .rw [g]
  by_cases e:j=i
  .rw [if_pos e,e];exact hv
  .rw [if_neg e];exact h.on j (by omega) hbj
 .have e:j≠i:=fun e=>by
   rcases o with o|o
   .omega
   .rw [e,hb] at o;cases o
  rw [g,if_neg e]
  exact h.off j hj (o.imp (fun z=>by omega) id)
theorem y0 {ws:List (List Nat)}{tb:List (List Int)}{r:List Int} (hn:ws.length<=8) (hk:tb.length<2^ws.length) (h:oE ws tb) (hr:Row ws tb tb.length ws.length r):oE ws (tb++[r]):=by
 have h256:=fK hn
 have hl:(tb++[r]).length=tb.length+1:=by rw [List.length_append];rfl
 refine⟨fun m hm=>?_,fun m hm i hi hb=>?_,fun m hm i hi hb=>?_⟩
 .rw [hl] at hm
  by_cases e:m<tb.length
  .rw [xn e];exact h.wid m e
  .rw [show m=tb.length by omega,xo];exact hr.len
 .rw [hl] at hm
  rw [D4 (by omega) (by omega) (by omega) hb]
  by_cases e:m<tb.length
  .rw [nS e];exact h.on m e i hi hb
  .have e:m=tb.length:=by omega
   subst e
   rw [p4];exact hr.on i hi hb
 .rw [hl] at hm
  by_cases e:m<tb.length
  .rw [nS e];exact h.off m e i hi hb
  .have e:m=tb.length:=by omega
   subst e
   rw [p4];exact hr.off i hi (.inr hb)
theorem xq (ws:List (List Nat)) (tb:List (List Int)) (k:Nat):Row ws tb k 0 (List.replicate ws.length (-1)) :=
 ⟨List.length_replicate,fun j hj=>absurd hj (Nat.not_lt_zero j),fun j hj _=>by rw [List.getD_eq_getElem?_getD,List.getElem?_replicate,if_pos hj];rfl⟩
theorem BH (n:Nat):kA [D.int (-1)] (n:Int)=(List.replicate n (-1:Int)).map D.int:=by rw [yr,List.map_replicate]
def bJ:FR
|.own ds,[.lst ls],Q=>∃zs:List Int,ds=zs.map .int/\∃ws:List (List Nat),ls=dZ ws/\(ws.length<=8/\(ws.length<=5\/7<=ws.length)/\Dk zs/\81<=zs.length/\zs.length<=10000)/\∀(tb:List (List Int)) (ys:List Int),oE ws tb->tb.length=2^ws.length->Dk ys->zs.length<=ys.length+81->ys.length<=zs.length->Q (.dat (.lst (tb.map cS))) (.own (ys.map .int))
|_,_,_=>False
def lr:Nat:=9
theorem xr {ws:List (List Nat)}{tb:List (List Int)} (hw:∀r,r<tb.length->(tb.getD r []).length=ws.length) (hl:tb.length=2^ws.length):Tab (.lst (tb.map cS)) tb ws.length :=
 ⟨.inl rfl,List.length_map _,fun m hm=>.inl (fV (by rw [show aV (.lst (tb.map cS))=tb.map cS from rfl,List.getElem?_map,List.getElem?_eq_getElem hm,List.getD_eq_getElem?_getD,List.getElem?_eq_getElem hm];rfl)),hw,hl⟩
theorem BI {ws:List (List Nat)}{tb:List (List Int)} (hw:∀r,r<tb.length->(tb.getD r []).length=ws.length) (hl:tb.length=2^ws.length):Tab (.tup (tb.map fun r=>.tup (r.map .int))) tb ws.length :=
 ⟨.inr rfl,List.length_map _,fun m hm=>.inr (fV (by rw [show aV (.tup (tb.map fun r=>D.tup (r.map .int)))=tb.map fun r=>D.tup (r.map .int) from rfl,List.getElem?_map,List.getElem?_eq_getElem hm,List.getD_eq_getElem?_getD,List.getElem?_eq_getElem hm];rfl)),hw,hl⟩
theorem nU (zs:List Int):∀x∈zs.map D.int,x.sort=true:=fun x hx=>by
 obtain⟨i,_,rfl⟩:=List.mem_map.mp hx;rfl
theorem cW {ds:List D} (hl:ds.length<=1000) (h:∀r∈ds,Srt r/\(aV r).length<=1000):dq (.lst ds):=⟨rfl,hl,h⟩
theorem p5 {r:List Int} (h:r.length<=1000):Srt (cS r)/\(aV (cS r)).length<=1000:=⟨⟨rfl,nU r⟩,by show (r.map D.int).length<=1000;rw [List.length_map];exact h⟩
theorem nV {tb:List (List Int)} (hw:∀r∈tb,r.length<=8):∀d∈tb.map cS,Srt d/\(aV d).length<=1000:=fun d hd=>by
 obtain⟨r,hr,rfl⟩:=List.mem_map.mp hd
 exact p5 (Nat.le_trans (hw r hr) (by decide))
theorem df {e:D}{n:Nat} (h:(aV e).length≠2^n):gb e n=false:=by
 unfold gb;rw [decide_eq_false h,Bool.false_and,Bool.and_false]
theorem cR {e:D}{n:Nat} (h:nJ e=false):gb e n=false:=by unfold gb;rw [h,Bool.false_and]
theorem nW {e r:D}{n:Nat} (h:r∈aV e) (hr:bS r n=false):gb e n=false:=by
 unfold gb
 have:((aV e).all fun r=>bS r n)=false:=by rw [List.all_eq_false];exact⟨r,h,by rw [hr];decide⟩
 rw [this,Bool.and_false,Bool.and_false]
theorem BJ {r x:D}{n:Int} (h:x∈aV r) (hx:kT x=false):bS r n=false:=by
 unfold bS
 have:(aV r).all kT=false:=by rw [List.all_eq_false];exact⟨x,h,by rw [hx];decide⟩
 rw [this,Bool.and_false,Bool.and_false]
theorem ki {r:D}{n:Int} (h:((aV r).length:Int)≠n):bS r n=false:=by
 unfold bS;rw [decide_eq_false h,Bool.false_and,Bool.and_false]
theorem tH {r:D}{n:Int} (h:nJ r=false):bS r n=false:=by unfold bS;rw [h,Bool.false_and]
def uC (ws:List (List Nat)) (e:D):Prop:=gb e ws.length=false\/∃tb,Tab e tb ws.length/\¬ uA ws tb ws.length
theorem Tab.uniq {e:D}{tb tb':List (List Int)}{n:Nat} (h:Tab e tb n) (h':Tab e tb' n):tb=tb':=by
 refine List.ext_getElem (by rw [h.all,h'.all]) fun m h1 h2=>?_
 have e1:=h.row m h1
 have e2:=h'.row m h2
 have e3:=e1.items.symm.trans e2.items
 have g1:tb.getD m []=tb[m]:=by rw [List.getD_eq_getElem?_getD,List.getElem?_eq_getElem h1];rfl
 have g2:tb'.getD m []=tb'[m]:=by rw [List.getD_eq_getElem?_getD,List.getElem?_eq_getElem h2];rfl
 rw [g1,g2] at e3
 have:=congrArg (List.map toI) e3
 rw [kh,kh] at this
 exact this
theorem iZ {e:D}{tb:List (List Int)}{n:Nat} (h:Tab e tb n):gb e n=true:=by
 unfold gb
 rw [Bool.and_eq_true,Bool.and_eq_true,decide_eq_true_eq,List.all_eq_true]
 refine⟨by rcases h.sq with e|e <;> rw [e] <;> rfl,by rw [h.len,h.all],fun r hr=>?_⟩
 obtain⟨m,hm,rfl⟩:=List.mem_iff_getElem.mp hr
 have hm':m<tb.length:=by rw [<- h.len];exact hm
 have s:=h.row m hm'
 have hi:itD (aV e) m=(aV e)[m]:=by unfold itD;rw [List.getD_eq_getElem?_getD,List.getElem?_eq_getElem hm];rfl
 rw [hi] at s
 unfold bS
 rw [s.items,List.length_map,h.wid m hm',decide_eq_true rfl,Bool.true_and,Bool.and_eq_true]
 refine⟨by rcases s with e|e <;> rw [e] <;> rfl,?_⟩
 rw [List.all_map];exact List.all_eq_true.mpr fun _ _=>rfl
theorem oE.nn {ws:List (List Nat)}{tb:List (List Int)} (h:oE ws tb) {m i:Nat} (hm:m<tb.length) (hi:i<ws.length) (hb:m.testBit i=true):0<=cell tb m i:=by
 have h1:=h.on m hm i hi hb
 have h2:=(jw (l:=0::dQ ws tb m i) (Nat.zero_lt_succ _)).2 0 List.mem_cons_self
 unfold nd at h1
 omega
theorem Fq (ws:List (List Nat)) (j i:Nat):0<=lp ws j i:=Int.natCast_nonneg _
theorem oE.ms {ws:List (List Nat)}{tb:List (List Int)} (h:oE ws tb) (hn:ws.length<=8) (hl:tb.length=2^ws.length) {m i:Nat} (hm:m<tb.length) (hi:i<ws.length) (hb:m.testBit i=true):L2.D.non=.non/\K35.ms ws tb m i=nd ws tb m i/\0<=nd ws tb m i:=by
 have h256:=fK hn
 refine⟨rfl,?_,(jw (l:=0::dQ ws tb m i) (Nat.zero_lt_succ _)).2 0 List.mem_cons_self⟩
 unfold K35.ms nd
 rw [if_pos hb]
 refine (pZ fun a ha=>?_).symm
 unfold dQ at ha
 obtain⟨j,hj,rfl⟩:=List.mem_map.mp ha
 have hr:m - 2^i<tb.length:=Nat.lt_of_le_of_lt (Nat.sub_le _ _) hm
 have hjb:=(mem_iff (by omega)).mp hj
 have hjn:j<ws.length:=tu (Nat.lt_of_lt_of_eq hr hl) hjb
 have:=h.nn hr hjn hjb
 have:=Fq ws j i
 omega
theorem oE.all {ws:List (List Nat)}{tb:List (List Int)} (h:oE ws tb) (hn:ws.length<=8) (hl:tb.length=2^ws.length):uA ws tb ws.length:=fun m hm i hi=>by
 rw [<- hl] at hm
 unfold enB
 cases hb:m.testBit i with
|true =>
  obtain⟨_,e,e0⟩:=h.ms hn hl hm hi hb
  rw [e,if_neg (by omega)]
  exact decide_eq_true (h.on m hm i hi hb)
|false =>
  have e:K35.ms ws tb m i=-1:=by unfold K35.ms;rw [if_neg (by rw [hb];decide)]
  rw [if_pos e]
  exact decide_eq_true (h.off m hm i hi hb)
def tI (tb:List (List Int)) (m i:Nat) (v:Int):List (List Int):=tb.set m ((tb.getD m []).set i v)
theorem lu {tb:List (List Int)}{m i:Nat}{v:Int} (hm:m<tb.length) (r:Nat):(tI tb m i v).getD r []=if r=m then (tb.getD m []).set i v else tb.getD r []:=by
 unfold tI
 by_cases e:r=m
 .subst e;rw [if_pos rfl,List.getD_eq_getElem?_getD,List.getElem?_set_self hm];rfl
 .rw [if_neg e,List.getD_eq_getElem?_getD,List.getElem?_set_ne (Ne.symm e),<- List.getD_eq_getElem?_getD]
theorem za {ws:List (List Nat)}{tb:List (List Int)} (h:oE ws tb) (hn:ws.length<=8) (hl:tb.length=2^ws.length) {m i:Nat}{v:Int} (hm:m<tb.length) (hi:i<ws.length) (hv:(m.testBit i=true/\v<nd ws tb m i)\/(m.testBit i=false/\v≠-1)):uC ws (.lst ((tI tb m i v).map cS)):=by
 have h256:=fK hn
 have hsl:(tI tb m i v).length=tb.length:=List.length_set
 refine .inr ⟨tI tb m i v,xr (fun r hr=>?_) (by rw [hsl,hl]),fun z=>?_⟩
 .rw [hsl] at hr
  rw [lu hm]
  split
  .rw [List.length_set];exact h.wid m hm
  .exact h.wid r hr
 .have hz:=z m (by rw [<- hl];exact hm) i hi
  have hc:cell (tI tb m i v) m i=v:=by
   unfold cell
   rw [lu hm,if_pos rfl,List.getD_eq_getElem?_getD,List.getElem?_set_self (by rw [h.wid m hm];exact hi)];rfl
  unfold enB at hz
  rcases hv with ⟨hb,hv⟩|⟨hb,hv⟩
  .obtain⟨_,e,e0⟩:=h.ms hn hl hm hi hb
   have hp:0<2^i:=Nat.pow_pos (by decide)
   have hle:2^i<=m:=(ju ⟨m,by omega⟩ ⟨i,by omega⟩ hb).1
   have eo:dQ ws (tI tb m i v) m i=dQ ws tb m i:=by
    unfold dQ
    refine List.map_congr_left fun j _=>?_
    unfold cell
    rw [lu hm,if_neg (by omega)]
   have e2:K35.ms ws (tI tb m i v) m i=nd ws tb m i:=by
    rw [<- e];unfold K35.ms;rw [eo]
   rw [e2,hc,if_neg (by omega),decide_eq_true_eq] at hz
   omega
  .have e:K35.ms ws (tI tb m i v) m i=-1:=by unfold K35.ms;rw [if_neg (by rw [hb];decide)]
   rw [if_pos e,hc,decide_eq_true_eq] at hz
   exact hv hz
theorem iG {n i:Nat} (h:i<n):ixN n (i:Int)=some i:=by
 unfold ixN
 rw [if_pos (by omega)]
 simp;omega
theorem D5 (M:List (List Int)):fX (M.map cS) (M.map fun r=>r.map D.int):=by
 induction M with
|nil=>exact .nil
|cons r M ih=>exact .cons (.inl rfl) ih
theorem tJ (M:List (List Int)):(M.map fun r=>r.map D.int).map D.lst=M.map cS:=by rw [List.map_map];rfl
theorem nX {M:List (List Int)}{i:Nat} (h:i<M.length):(M.map fun r=>r.map D.int)[i]?=some ((M.getD i []).map D.int):=by
 rw [List.getElem?_map,List.getElem?_eq_getElem h,List.getD_eq_getElem?_getD,List.getElem?_eq_getElem h];rfl
theorem tK (M:List (List Int)) (i j:Nat) (z:Int):((M.map fun r=>r.map D.int).set i (((M.getD i []).map D.int).set j (.int z))).map D.lst=(tI M i j z).map cS:=by
 unfold tI
 rw [<- tJ,List.map_set,List.map_set,List.map_set,List.map_set]
theorem tL {M:List (List Int)} (hw:∀r∈M,r.length<=8) {i:Nat}{d:D} (hd:Srt d/\(aV d).length<=1000):∀x∈(M.map cS).set i d,Srt x/\(aV x).length<=1000:=fun x hx=>by
 rcases List.mem_or_eq_of_mem_set hx with h|h
 .exact nV hw x h
 .rw [h];exact hd
theorem zP {ws:List (List Nat)}{tb:List (List Int)} (h:oE ws tb) (hn:ws.length<=8):∀r∈tb,r.length<=8:=fun r hr=>by
 obtain⟨i,hi,e⟩:=zO (d:=[]) hr
 rw [<- e,h.wid i hi];exact hn
theorem D6 {tb:List (List Int)}{m i:Nat}{v:Int} (hw:∀r∈tb,r.length<=8) (hm:m<tb.length):∀r∈tI tb m i v,r.length<=8:=fun r hr=>by
 rcases List.mem_or_eq_of_mem_set hr with h|h
 .exact hw r h
 .rw [h,List.length_set];exact hw _ (lm hm)
theorem xt {ws:List (List Nat)}{tb:List (List Int)}{m:Nat}{d:D} (hm:m<tb.length) (hd:bS d ws.length=false):uC ws (.lst ((tb.map cS).set m d)) :=
 .inl (nW (r:=d) (List.mem_set (by rw [List.length_map];exact hm) d) hd)
theorem BK (z:Int):∃r:Int,atI [D.int 1,D.int 1,D.int 2,D.int 100000000000000000000] (z % 4)=some (.int r)/\0<r:=by
 rcases (show z % 4=0\/z % 4=1\/z % 4=2\/z % 4=3 by omega) with h|h|h|h <;> rw [h]
 all_goals exact⟨_,rfl,by decide⟩
theorem BL (z:Int):∃r:Int,atI [D.int 0,D.int (-2),D.int 1,D.int 100000000000000000000] (z % 4)=some (.int r)/\r≠-1:=by
 rcases (show z % 4=0\/z % 4=1\/z % 4=2\/z % 4=3 by omega) with h|h|h|h <;> rw [h]
 all_goals exact⟨_,rfl,by decide⟩
theorem BM (z:Int):∃v:D,atI [D.bl true,D.bl false,D.non,D.str [49]] (z % 4)=some v/\v.sort=true/\kT v=false:=by
 rcases (show z % 4=0\/z % 4=1\/z % 4=2\/z % 4=3 by omega) with h|h|h|h <;> rw [h]
 all_goals exact⟨_,rfl,rfl,rfl⟩
theorem BN {n:Nat}{zs:List Int} (hl:zs.length=n) (hn:n<=8) (h0:0<n) (z:Int):∃v:D,atI [D.lst (zs.map .int++[.int 0]),D.lst (dR (zs.map .int) (some 1) none),D.non,D.dic [] []] (z % 4)=some v/\(Srt v/\(aV v).length<=1000)/\bS v n=false:=by
 have hc:dR (zs.map D.int) (some 1) none=(zs.drop 1).map D.int:=by rw [List.map_drop];exact gi _ 1
 rw [hc]
 rcases (show z % 4=0\/z % 4=1\/z % 4=2\/z % 4=3 by omega) with h|h|h|h <;> rw [h]
 .refine⟨_,rfl,?_,ki ?_⟩
  .rw [show zs.map D.int++[D.int 0]=(zs++[0]).map D.int by rw [List.map_append];rfl]
   exact p5 (by rw [List.length_append];show _+1<=_;omega)
  .show ((zs.map D.int++[D.int 0]).length:Int)≠n
   rw [List.length_append,List.length_map]
   show ((zs.length+1:Nat):Int)≠n
   omega
 .refine⟨_,rfl,p5 (by rw [List.length_drop];omega),ki ?_⟩
  show (((zs.drop 1).map D.int).length:Int)≠n
  rw [List.length_map,List.length_drop]
  omega
 .exact⟨_,rfl,⟨⟨rfl,fun x hx=>nomatch hx⟩,Nat.zero_le _⟩,tH rfl⟩
 .exact⟨_,rfl,⟨⟨rfl,fun x hx=>nomatch hx⟩,Nat.zero_le _⟩,tH rfl⟩
theorem BO {ws:List (List Nat)}{tb:List (List Int)} (hw:∀r∈tb,r.length<=8) (hl:tb.length=2^ws.length) (h2:2<=tb.length) (h256:tb.length<=256) (d:D) (hd:Srt d/\(aV d).length<=1000) (z:Int):∃v:D,atI [D.lst (dR (tb.map cS) (some 1) none),D.lst (tb.map cS++[d]),D.lst [D.lst (tb.map cS)],D.lst (dR (tb.map cS) none (some (-1))),D.lst (dR (tb.map cS) none (some 1))] (z % 5)=some v/\dq v/\uC ws v:=by
 have ro:=nV hw
 have hm:(tb.map cS).length=tb.length:=List.length_map _
 have c1:dR (tb.map cS) (some 1) none=(tb.map cS).drop 1:=gi _ 1
 have c2:dR (tb.map cS) none (some (-1))=(tb.map cS).dropLast:=A7 _
 have c3:dR (tb.map cS) none (some 1)=(tb.map cS).take 1:=iq _ 1
 rw [c1,c2,c3]
 rcases (show z % 5=0\/z % 5=1\/z % 5=2\/z % 5=3\/z % 5=4 by omega) with h|h|h|h|h <;> rw [h]
 .exact⟨_,rfl,cW (by rw [List.length_drop];omega) (fun r hr=>ro r (List.mem_of_mem_drop hr)),.inl (df (by show ((tb.map cS).drop 1).length≠_;rw [List.length_drop];omega))⟩
 .refine⟨_,rfl,cW (by rw [List.length_append];show _+1<=_;omega) (fun r hr=>(List.mem_append.mp hr).elim (ro r) fun e=>by rw [List.mem_singleton.mp e];exact hd),.inl (df ?_)⟩
  show (tb.map cS++[d]).length≠_
  rw [List.length_append]
  show (tb.map cS).length+1≠_
  omega
 .refine⟨_,rfl,cW (by show 1<=1000;decide) (fun r hr=>?_),.inl (df (by show 1≠_;omega))⟩
  rw [List.mem_singleton.mp hr]
  exact⟨⟨rfl,fun x hx=>(ro x hx).1.1⟩,by show (tb.map cS).length<=1000;omega⟩
 .exact⟨_,rfl,cW (by rw [List.length_dropLast];omega) (fun r hr=>ro r ((List.dropLast_sublist _).subset hr)),.inl (df (by show ((tb.map cS).dropLast).length≠_;rw [List.length_dropLast];omega))⟩
 .exact⟨_,rfl,cW (by rw [List.length_take];omega) (fun r hr=>ro r (List.mem_of_mem_take hr)),.inl (df (by show ((tb.map cS).take 1).length≠_;rw [List.length_take];omega))⟩
def cM:FR
|.own ds,[.lst ls,.lst td],Q=>∃zs:List Int,ds=zs.map .int/\∃ws:List (List Nat),ls=dZ ws/\∃tb:List (List Int),td=tb.map cS/\(oE ws tb/\tb.length=2^ws.length/\0<ws.length/\ws.length<=8)/\(Dk zs/\4<=zs.length/\zs.length<=10000)/\∀(e:D) (ys:List Int),dq e->uC ws e->Dk ys->zs.length<=ys.length+4->ys.length<=zs.length->Q (.dat e) (.own (ys.map .int))
|_,_,_=>False
def mU:Nat:=2
abbrev O1:List D:=[.non,.int 0,.bl true,.str [],.str [97,98],.dic [] [],.tup [],.lst [.lst []],.lst (kA [.tup []] 3),.tup [.tup [.int 0,.int 0]],.dic [.inl 0] [.lst [.int 0]],.lst [.lst [],.non]]
abbrev O2:List D:=[.non,.int 0,.bl true,.str [],.str [97,98],.dic [] [],.tup [],.lst (kA [.tup []] 3),.tup [.tup [.int 0,.int 0]],.dic [.inl 0] [.lst [.int 0]],.lst [.lst [],.non]]
theorem no3:∀n:_root_.Fin 9,3≠2^n.1:=by decide +kernel
theorem r3:kA [D.tup []] 3=[D.tup [],D.tup [],D.tup []]:=rfl
theorem cv {d:D} (h:d.sort=true) (hi:aV d=[]):dq d:=⟨h,by rw [hi];exact Nat.zero_le _,fun r hr=>by rw [hi] at hr;cases hr⟩
theorem p6:Srt (.lst [])/\(aV (.lst [])).length<=1000:=⟨⟨rfl,fun x hx=>nomatch hx⟩,Nat.zero_le _⟩
theorem xu:Srt (.tup [])/\(aV (.tup [])).length<=1000:=⟨⟨rfl,fun x hx=>nomatch hx⟩,Nat.zero_le _⟩
theorem F8:dq (.lst (kA [D.tup []] 3)):=by
 rw [r3]
 refine cW (by show 3<=1000;decide) fun r hr=>?_
 simp only [List.mem_cons,List.not_mem_nil,or_false,or_self] at hr
 rw [hr];exact xu
theorem D7:dq (.tup [.tup [.int 0,.int 0]]):=⟨rfl,by show 1<=1000;decide,fun r hr=>by
 have hr:r∈[D.tup [.int 0,.int 0]]:=hr
 rw [List.mem_singleton.mp hr]
 exact⟨⟨rfl,nU [0,0]⟩,by show 2<=1000;decide⟩⟩
theorem Ga:dq (.lst [.lst [],.non]):=cW (by show 2<=1000;decide) fun r hr=>by
 rcases List.mem_cons.mp hr with rfl|hr
 .exact p6
 .rw [List.mem_singleton.mp hr];exact⟨⟨rfl,fun x hx=>nomatch hx⟩,Nat.zero_le _⟩
theorem Gq:dq (.lst [.lst []]):=cW (by show 1<=1000;decide) fun r hr=>by rw [List.mem_singleton.mp hr];exact p6
theorem Gs {n:Nat} (h0:0<n) (h8:n<=8) {d:D} (h:d∈O1):dq d/\gb d n=false:=by
 have h2:2<=2^n:=Nat.le_trans (show 2<=2^1 by decide) (Nat.pow_le_pow_right (n:=2) (by decide) h0)
 simp only [O1,List.mem_cons,List.not_mem_nil,or_false] at h
 rcases h with rfl|rfl|rfl|rfl|rfl|rfl|rfl|rfl|rfl|rfl|rfl|rfl
 .exact⟨cv rfl rfl,cR rfl⟩
 .exact⟨cv rfl rfl,cR rfl⟩
 .exact⟨cv rfl rfl,cR rfl⟩
 .exact⟨cv rfl rfl,cR rfl⟩
 .exact⟨cv rfl rfl,cR rfl⟩
 .exact⟨cv rfl rfl,cR rfl⟩
 .exact⟨cv rfl rfl,df (by show 0≠_;omega)⟩
 .exact⟨Gq,df (by show 1≠_;omega)⟩
 .exact⟨F8,df (no3 ⟨n,by omega⟩)⟩
 .exact⟨D7,df (by show 1≠_;omega)⟩
 .exact⟨cv rfl rfl,cR rfl⟩
 .exact⟨Ga,nW (r:=.lst []) List.mem_cons_self (ki (by show ((0:Nat):Int)≠n;omega))⟩
theorem Gu {d:D} (h:d∈O2):dq d/\gb d 0=false:=by
 simp only [O2,List.mem_cons,List.not_mem_nil,or_false] at h
 rcases h with rfl|rfl|rfl|rfl|rfl|rfl|rfl|rfl|rfl|rfl|rfl
 .exact⟨cv rfl rfl,cR rfl⟩
 .exact⟨cv rfl rfl,cR rfl⟩
 .exact⟨cv rfl rfl,cR rfl⟩
 .exact⟨cv rfl rfl,cR rfl⟩
 .exact⟨cv rfl rfl,cR rfl⟩
 .exact⟨cv rfl rfl,cR rfl⟩
 .exact⟨cv rfl rfl,df (by decide)⟩
 .exact⟨F8,df (by decide)⟩
 .exact⟨D7,nW (r:=.tup [.int 0,.int 0]) List.mem_cons_self (ki (by decide))⟩
 .exact⟨cv rfl rfl,cR rfl⟩
 .exact⟨Ga,df (by decide)⟩
theorem BP (ws:List (List Nat)):Fl 2 (.lst (dZ ws)):=Fl.lst fun d hd=>by
 obtain⟨w,_,rfl⟩:=List.mem_map.mp hd
 refine Fl.lst fun e he=>?_
 obtain⟨u,_,rfl⟩:=List.mem_map.mp he
 exact Fl.int _
theorem lv (ws:List (List Nat)):pE (.lst (dZ ws)) (.lst []):=pE.of ((BP ws).sh (by decide)) (Sh.lstI [])
theorem p7 (ws:List (List Nat)):deq (.lst (dZ ws)) (.lst [])=decide (ws=[]):=by
 cases ws with
|nil=>rfl
|cons w r=>rw [decide_eq_false (fun z=>nomatch z)];rfl
def cQ:FN
|[.lst ls],Q=>∃ws:List (List Nat),ls=dZ ws/\ws.length<=8/\∀es:List D,(∀d∈es,dq d/\gb d ws.length=false)->es.length<=12->Q (.dat (.lst es))
|_,_=>False
def jO:Nat:=2
def mk (L:List Nat):Nat:=(L.map fun j=>2^j).sum
theorem zQ (L:List Nat) (j:Nat):mk (L++[j])=mk L+2^j:=by
 unfold mk
 rw [List.map_append,List.sum_append];simp
theorem fh {js:List Nat}{k:Nat} (h:k<js.length):js.take (k+1)=js.take k++[js.getD k 0]:=by
 rw [List.take_add_one,List.getElem?_eq_getElem h,List.getD_eq_getElem?_getD,List.getElem?_eq_getElem h];rfl
theorem lw {js:List Nat}{n:Nat} (h8:n<=8) (nd:js.Nodup) (hr:∀j∈js,j<n):∀k,k<=js.length->mk (js.take k)<256/\∀j,j<8->(mk (js.take k)).testBit j=decide (j∈js.take k)
|0,_=>⟨by show 0<256;decide,fun j _=>by rw [List.take_zero];show Nat.testBit 0 j=_;rw [Nat.zero_testBit];rfl⟩
|k+1,hk=>by
  obtain⟨h1,h2⟩:=lw h8 nd hr k (by omega)
  have hm:js.getD k 0∈js:=lm (by omega)
  have hn:=hr _ hm
  have hni:js.getD k 0∉js.take k:=fun z=>by
   have:=nd.sublist (List.take_sublist (k+1) js)
   rw [fh (by omega),List.nodup_append] at this
   exact this.2.2 _ z _ (List.mem_singleton.mpr rfl) rfl
  have hb:(mk (js.take k)).testBit (js.getD k 0)=false:=by rw [h2 _ (by omega)];exact decide_eq_false hni
  obtain⟨h3,h4⟩:=BA ⟨_,h1⟩ ⟨js.getD k 0,by omega⟩ hb
  rw [fh (by omega),zQ]
  refine⟨h3,fun j hj=>?_⟩
  have h4:(mk (js.take k)+2^js.getD k 0).testBit j=(decide (j=js.getD k 0) || (mk (js.take k)).testBit j):=h4 ⟨j,hj⟩
  rw [h4,h2 j hj,Bool.eq_iff_iff]
  simp only [Bool.or_eq_true,decide_eq_true_eq,List.mem_append,List.mem_singleton]
  exact Or.comm
theorem uD {m n:Nat} (hm:m<256) (h:∀j,j<8->m.testBit j=true->j<n):m<2^n:=Nat.lt_pow_two_of_testBit m fun i hi=>by
 rcases Nat.lt_or_ge i 8 with h8|h8
 .cases hb:m.testBit i with
 |false=>rfl
 |true=>exact absurd (h i h8 hb) (by omega)
 .exact Nat.testBit_lt_two_pow (Nat.lt_of_lt_of_le hm (show 2^8<=2^i from Nat.pow_le_pow_right (n:=2) (by decide) h8))
theorem D8 {ws:List (List Nat)}{tb:List (List Int)}{js:List Nat} (h:oE ws tb) (h8:ws.length<=8) (hl:tb.length=2^ws.length) (nd:js.Nodup) (hr:∀j∈js,j<ws.length):∀k,k<js.length ->
  ((js.take (k+1)).map fun i=>((pw ws i).length:Int)).sum - cell tb (mk (js.take (k+1))) (js.getD k 0)<=glL ws js (k+1):=by
 have hlt:∀k,k<=js.length->mk (js.take k)<tb.length:=fun k hk=>by
  rw [hl]
  obtain⟨h1,h2⟩:=lw h8 nd hr k hk
  exact uD h1 fun j hj hb=>by
   rw [h2 j hj,decide_eq_true_eq] at hb
   exact hr j (List.mem_of_mem_take hb)
 have hbk:∀k,k<js.length->js.getD k 0<ws.length/\(mk (js.take (k+1))).testBit (js.getD k 0)=true:=fun k hk=>by
  have hm:=hr _ (lm (d:=0) hk)
  refine⟨hm,?_⟩
  rw [(lw h8 nd hr (k+1) (by omega)).2 _ (by omega),decide_eq_true_eq,fh hk]
  exact List.mem_append_right _ (List.mem_singleton.mpr rfl)
 intro k
 induction k with
|zero =>
  intro hk
  have hc:=h.nn (hlt 1 (by omega)) (hbk 0 hk).1 (hbk 0 hk).2
  have e:((js.take (0+1)).map fun i=>((pw ws i).length:Int)).sum=((pw ws (js.getD 0 0)).length:Int):=by
   rw [fh hk];simp
  rw [e]
  rw [show glL ws js (0+1)=glL ws js 0+((pw ws (js.getD 0 0)).length:Int) - (if (0:Nat)=0 then 0 else (gA (pw ws (js.getD (0 - 1) 0)) (pw ws (js.getD 0 0)):Int)) from rfl,if_pos rfl,show glL ws js 0=0 from rfl]
  have hc:0<=cell tb (mk (js.take (0+1))) (js.getD 0 0):=hc
  omega
|succ k ih =>
  intro hk
  have ih:=ih (by omega)
  obtain⟨hn1,hb1⟩:=hbk (k+1) hk
  obtain⟨hn0,hb0⟩:=hbk k (by omega)
  have ho:=h.on _ (hlt (k+1+1) (by omega)) _ hn1 hb1
  have hrest:mk (js.take (k+1+1)) - 2^js.getD (k+1) 0=mk (js.take (k+1)):=by
   rw [fh hk,zQ,Nat.add_sub_cancel]
  have hm256:=(lw h8 nd hr (k+1) (by omega)).1
  have hle:cell tb (mk (js.take (k+1))) (js.getD k 0)+lp ws (js.getD k 0) (js.getD (k+1) 0)<=K35.nd ws tb (mk (js.take (k+1+1))) (js.getD (k+1) 0):=by
   refine (jw (l:=0::dQ ws tb _ _) (Nat.zero_lt_succ _)).2 _ (List.mem_cons_of_mem _ ?_)
   unfold dQ
   rw [hrest]
   exact List.mem_map.mpr ⟨js.getD k 0,(mem_iff hm256).mpr hb0,rfl⟩
  have e:((js.take (k+1+1)).map fun i=>((pw ws i).length:Int)).sum=((js.take (k+1)).map fun i=>((pw ws i).length:Int)).sum+((pw ws (js.getD (k+1) 0)).length:Int):=by
   rw [fh hk,List.map_append,List.sum_append];simp
  rw [e,show glL ws js (k+1+1)=glL ws js (k+1)+(pw ws (js.getD (k+1) 0)).length - (gA (pw ws (js.getD k 0)) (pw ws (js.getD (k+1) 0)):Int) from rfl]
  unfold lp at hle
  omega
theorem xv {ws:List (List Nat)}{tb:List (List Int)}{js:List Nat} (h:oE ws tb) (h8:ws.length<=8) (hl:tb.length=2^ws.length) (hp:js.Perm (List.range ws.length)):(ws.map fun w=>(w.length:Int)).sum - tw (0::tb.getD (2^ws.length - 1) [])<=glL ws js ws.length:=by
 have hjl:js.length=ws.length:=by rw [hp.length_eq,List.length_range]
 have nd:js.Nodup:=hp.nodup_iff.mpr List.nodup_range
 have hr:∀j∈js,j<ws.length:=fun j hj=>List.mem_range.mp (hp.mem_iff.mp hj)
 have e1:=yU (fun i=>((pw ws i).length:Int)) hp
 rw [D0] at e1
 have hp2:0<2^ws.length:=Nat.pow_pos (by decide)
 have hmx:=(jw (l:=0::tb.getD (2^ws.length - 1) []) (Nat.zero_lt_succ _)).2
 cases hn:ws.length with
|zero =>
  have hz:ws=[]:=List.eq_nil_of_length_eq_zero hn
  have:=hmx 0 List.mem_cons_self
  rw [hz] at this ⊢
  show (0:Int) - _<=0
  have:0<=tw (0::tb.getD (2^([]:List (List Nat)).length - 1) []):=this
  rw [show ([]:List (List Nat)).length=0 from rfl] at this
  omega
|succ k =>
  have hk:=D8 h h8 hl nd hr k (by omega)
  rw [show js.take (k+1)=js by rw [<- hn,<- hjl,List.take_length],e1] at hk
  have hb:=lw h8 nd hr js.length (Nat.le_refl _)
  rw [List.take_length] at hb
  have hmk:mk js=2^ws.length - 1:=BB ⟨mk js,hb.1⟩ ⟨ws.length,by omega⟩ fun j=>by
   show (mk js).testBit j.1=_
   rw [hb.2 j.1 j.2]
   exact decide_eq_decide.mpr ⟨fun z=>hr _ z,fun z=>hp.mem_iff.mpr (List.mem_range.mpr z)⟩
  rw [hmk] at hk
  have hjk:=hr _ (lm (l:=js) (k:=k) (d:=0) (by omega))
  have hw:=h.wid (2^ws.length - 1) (by omega)
  have hc:cell tb (2^ws.length - 1) (js.getD k 0)∈tb.getD (2^ws.length - 1) []:=lm (by omega)
  have:=hmx _ (List.mem_cons_of_mem _ hc)
  rw [hn] at this hk
  omega
theorem BQ {ws:List (List Nat)}{tb:List (List Int)} (h:oE ws tb) (h8:ws.length<=8) (hl:tb.length=2^ws.length):tw (0::tb.getD (2^ws.length - 1) [])=tw (tb.getD (2^ws.length - 1) []):=by
 have hp2:0<2^ws.length:=Nat.pow_pos (by decide)
 have hw:=h.wid (2^ws.length - 1) (by omega)
 refine pZ fun a ha=>?_
 obtain⟨i,hi,rfl⟩:=zO (d:=0) ha
 refine h.nn (by omega) (by omega) ?_
 rw [Nat.testBit_two_pow_sub_one]
 exact decide_eq_true (by omega)
theorem xw (tb:List (List Int)):Fl 2 (.lst (tb.map cS)):=Fl.lst fun d hd=>by
 obtain⟨r,_,rfl⟩:=List.mem_map.mp hd
 exact Fl.lst (Fl.ints r)
def gq (n:Nat):List (List Nat):=(List.range 9).map fun k=>[97+(3*k+n) % 26]
theorem D9:∀n:_root_.Fin 9,(ao (gq n.1)).length=9:=by decide +kernel
theorem Ea (n:Nat):Pcs 60 (gq n):=fun w hw=>by
 obtain⟨k,_,rfl⟩:=List.mem_map.mp hw
 have:=Nat.mod_lt (3*k+n) (show 0<26 by decide)
 exact⟨by show 0<1;decide,by show 1<=60;decide,Lts.one ⟨by omega,by omega⟩⟩
def cg:FR
|.own ds,[.lst td],Q=>∃zs:List Int,ds=zs.map .int/\∃tb:List (List Int),td=tb.map cS/\(tb.length<=256/\(∀r∈tb,r.length<=8)/\Dk zs/\0<zs.length/\zs.length<=10000)/\∀(e:D) (ys:List Int),(e=.lst (tb.map cS)\/e=.tup (tb.map fun r=>.tup (r.map .int)))->Dk ys->ys.length+1=zs.length->Q (.dat e) (.own (ys.map .int))
|_,_,_=>False
def zR:Nat:=15
abbrev tM:FN:=FL
def i3:PTS:=(bY (FJ .list .tuple (pSl 0)))
theorem uE (d:D) (Q:PV->Prop) (h:cA ([d]) Q):dY i3 pW ([d]) Q:=by
 show i3 _ [some (.dat (d))]
 obtain⟨hd,q⟩:=h
 cases d <;> first|(cases hd;done)|(walk_at "r";exact q)
theorem xx:∀ds Q,cA ds Q->dY i3 pW ds Q:=fun ds Q h=>by
 unfold cA at h
 split at h
 .exact uE _ _ h
 .exact h.elim
def eO:PTS:=(bY (vX (En .int (pSl 0)) (AH (En .bool (pSl 0)))))
theorem nY (d:D) (Q:PV->Prop) (h:bC ([d]) Q):dY eO jH ([d]) Q:=by
 show eO _ [some (.dat (d))]
 obtain⟨hd,q⟩:=h
 cases d <;> first|(cases hd;done)|(walk_at "r";exact q)
theorem p8:∀ds Q,bC ds Q->dY eO jH ds Q:=fun ds Q h=>by
 unfold bC at h
 split at h
 .exact nY _ _ h
 .exact h.elim
def dF:PTS:=(bY (vX (bL cA (af (pFz (aZ 0)) al)) (vX (pOp nI (pFz (pCB gm (af (pSl 0) al))) (pSl 1)) (pCB B0 (af (pFz (cZ [none] (dz (aZ 0)) (ap 0) iH (bL bC (af (pFz (aZ 0)) al)))) al)))))
theorem lx (d:D) (m:Int) (Q:PV->Prop) (h:bg ([d,.int m]) Q):dY dF h7 ([d,.int m]) Q:=by
 show dF _ [some (.dat (d)),some (.dat (.int m))]
 obtain⟨⟨hd,hs⟩,hl,q⟩:=h
 have body:∀ds:List D,aV d=ds->nJ d=true->(ds.length:Int)=m->bS d m=(ds.map kT).all id:=fun ds e1 e2 e3=>by
  unfold bS
  rw [e1,e2,decide_eq_true e3,Bool.true_and,Bool.true_and,List.all_map];rfl
 have no:∀ds:List D,aV d=ds->¬ (ds.length:Int)=m->bS d m=false:=fun ds e1 e3=>by
  unfold bS
  rw [e1,decide_eq_false e3,Bool.false_and,Bool.and_false]
 cases d with
|lst ds =>
  have hl:ds.length<=1000000:=hl
  walk_at "r"
  refine dy (fun c=>?_) (fun c=>?_)
  .walk_at "r"
   refine uP (fun τ=>∃v,τ=[v]) (fun k=>.bl (kT (itD ds k))) ?_ ?_ ?_
   .exact⟨_,rfl⟩
   .rintro k τ _ hk rfl ⟨v,rfl⟩ K1 k1
    walk_at "r"
    exact⟨hs _ (jg hk),k1 _ ⟨_,rfl⟩⟩
   .rintro τ ⟨v,rfl⟩
    walk_at "r"
    refine⟨(List.range ds.length).map fun k=>kT (itD ds k),by rw [List.map_map];rfl,?_⟩
    rw [body ds rfl rfl c] at q
    rw [kR]
    exact q
  .walk_at "r"
   rw [no ds rfl c] at q
   exact q
|tup ds =>
  have hl:ds.length<=1000000:=hl
  walk_at "r"
  refine dy (fun c=>?_) (fun c=>?_)
  .walk_at "r"
   refine uP (fun τ=>∃v,τ=[v]) (fun k=>.bl (kT (itD ds k))) ?_ ?_ ?_
   .exact⟨_,rfl⟩
   .rintro k τ _ hk rfl ⟨v,rfl⟩ K1 k1
    walk_at "r"
    exact⟨hs _ (jg hk),k1 _ ⟨_,rfl⟩⟩
   .rintro τ ⟨v,rfl⟩
    walk_at "r"
    refine⟨(List.range ds.length).map fun k=>kT (itD ds k),by rw [List.map_map];rfl,?_⟩
    rw [body ds rfl rfl c] at q
    rw [kR]
    exact q
  .walk_at "r"
   rw [no ds rfl c] at q
   exact q
|str l=>walk_at "r";exact q
|non=>walk_at "r";exact q
|bl b=>walk_at "r";exact q
|int i=>walk_at "r";exact q
|ty n=>cases hd
|scr ns=>cases hd
|dic ks ds=>walk_at "r";exact q
|obj c ns ds=>cases hd
|exc c ns ds=>cases hd
theorem lX:∀ds Q,bg ds Q->dY dF h7 ds Q:=fun ds Q h=>by
 unfold bg at h
 split at h
 .exact lx _ _ _ h
 .exact h.elim
def gO:PTS:=(bY (cZ [none,some 0] (qQ (af (pFz (Bk (aZ 0))) al)) (ap 0) (pBI (pOp uu (pFz (pOp B2 (pSl 1) (pSl 0))) (pFz (pC (.int 1))))) (aZ 0)))
theorem rq (m:Int) (Q:PV->Prop) (h:bQ ([.int m]) Q):dY gO mQ ([.int m]) Q:=by
 show gO _ [some (.dat (.int m))]
 obtain⟨k,rfl,hk,q⟩:=h
 have hb:=yQ ⟨k,hk⟩
 have hb8:mO (k:Int)<=8:=BE ⟨k,hk⟩
 have hb:(List.range (mO (k:Int))).filter k.testBit=mem k:=hb
 walk_at "r"
 refine cfR (fun j=>k.testBit j) (fun j=>nD j) (fun j hj v K1 K2 k1 k2=>?_) (fun v=>?_)
 .have e:=pX k j
  show (0:Int)<=(j:Int)/\fU (Builtin.bitAnd ((k:Int) / 2^(j:Int).toNat) 1 != 0) _ _
  refine⟨by omega,?_⟩
  rw [e]
  cases h:k.testBit j with
 |true=>exact k1 _ h
 |false=>exact k2 _ h
 .rw [Int.toNat_natCast,hb]
  exact q
theorem uF:∀ds Q,bQ ds Q->dY gO mQ ds Q:=fun ds Q h=>by
 unfold bQ at h
 split at h
 .exact rq _ _ h
 .exact h.elim
def d0:PTS:=(aG (jF (pB (pOp (Bh true) (pSl 3) (pFz (bL bQ (af (pFz (aZ 2)) al))))) (bY (pUn ul (pFz (pC (.int 1))))) cD) (aG (aQ (pOp yn (pSl 2) (pFz (pOp DC (pFz (pC (.int 1))) (pSl 3)))) (ap 4)) (bY (DN (pFz (cZ [none,some 3,some 1,some 4,some 0] (dz (bL bQ (af (pFz (aZ 4)) al))) (ap 0) iH (pOp cP (pFz (pOp fIx (pFz (pOp fIx (pSl 2) (pSl 3))) (pSl 0))) (pFz (pOp fIx (pFz (pOp fIx (pFz (uk "Family" ["pieces","kept","words","left","laps","total"] 4 (pSl 4))) (pSl 0))) (pSl 1)))))) (pC (.int 0))))))
theorem lY (c:Str) (ns:List Str) (fs:List D) (e:D) (m i:Int) (Q:PV->Prop) (h:bz ([.obj c ns fs,e,.int m,.int i]) Q):dY d0 iV ([.obj c ns fs,e,.int m,.int i]) Q:=by
 show d0 _ [some (.dat (.obj c ns fs)),some (.dat (e)),some (.dat (.int m)),some (.dat (.int i)),none]
 obtain⟨rfl,rfl,ps,rfl,k,rfl,j,rfl,tb,⟨ht,hn,hk,hj⟩,q⟩:=h
 have h256:=fK hn
 have hta:=ht.all
 have hkk:k<256:=by omega
 have hfl:=Be (mem k)
 have hin:=sQ j (mem k)
 unfold ms at q
 walk_at "r"
 rw [hin]
 by_cases hb:k.testBit j=true
 .have hmem:=(mem_iff hkk).mpr hb
  rw [if_pos hb] at q
  rw [decide_eq_true hmem]
  obtain⟨hle,hsub⟩:=ju ⟨k,hkk⟩ ⟨j,by omega⟩ hb
  have hle:2^j<=k:=hle
  have er:(k:Int) - 1*2^(j:Int).toNat=((k - 2^j:Nat):Int):=by
   rw [Int.toNat_natCast,Int.one_mul,Int.natCast_sub hle,Int.natCast_pow];rfl
  have hml:=xc (k - 2^j)
  have hrl:k - 2^j<tb.length:=Nat.lt_of_le_of_lt (Nat.sub_le _ _) hk
  have hrk:k - 2^j<256:=Nat.lt_of_le_of_lt (Nat.sub_le _ _) hkk
  walk_at "r"
  rw [er]
  walk_at "r"
  refine cm1 (e:=nD) (xs:=mem (k - 2^j)) (fun x=>.int (cell tb (k - 2^j) x+lp (ao ps) x j)) (fun x hx v K1 k1=>?_) (fun v=>?_)
  .have hxb:=(mem_iff hrk).mp hx
   have hxn:x<(ao ps).length:=tu (Nat.lt_of_lt_of_eq hrl hta) hxb
   have hw:=ht.wid _ hrl
   walk_at "r"
   refine qZ ht.sq ⟨_,BC (by rw [ht.len];exact hrl),?_⟩
   walk_at "r"
   refine qZ (ht.row _ hrl) ⟨_,lc (by omega),?_⟩
   walk_at "r"
   refine⟨_,BD hxn,?_⟩
   walk_at "r"
   refine⟨_,zK hj,?_⟩
   walk_at "r"
   exact k1 _
  walk_at "r"
  refine⟨dQ (ao ps) tb k j,by unfold dQ;rw [List.map_map];rfl,?_,?_⟩
  .intro h0
   rw [h0] at q
   exact q
  .intro h0 mx hm1 hm2
   rw [<- jx hm1 hm2] at q
   exact q
 .have hmem:¬ j∈mem k:=fun z=>hb ((mem_iff hkk).mp z)
  rw [if_neg hb] at q
  rw [decide_eq_false hmem]
  walk_at "r"
  exact q
theorem nZ:∀ds Q,bz ds Q->dY d0 iV ds Q:=fun ds Q h=>by
 unfold bz at h
 split at h
 .exact lY _ _ _ _ _ _ _ h
 .exact h.elim
def cX:PTS:=(aG (aQ (wq "Family" ["pieces","kept","words","left","laps","total"] aU (aZ 0) al) (ap 2)) (aG (jF (pOr (pB (pOp fGt (pSl 2) (pFz (pC (.int 8))))) (pOr (yc (pB (bL cA (af (pFz (aZ 1)) al)))) (pB (pOp yv (pFz (pCB gm (af (pSl 1) al))) (pFz (pOp DC (pFz (pC (.int 1))) (pSl 2))))))) (bY (pC (.bl false))) cD) (bY (pCB B0 (af (pFz (cZ [none,some 2] (dz (aZ 1)) (ap 0) iH (bL bg (af (pFz (aZ 0)) (af (pFz (aZ 1)) al))))) al)))))
theorem i4 (c:Str) (ns:List Str) (fs:List D) (e:D) (Q:PV->Prop) (h:aS ([.obj c ns fs,e]) Q):dY cX fg ([.obj c ns fs,e]) Q:=by
 show cX _ [some (.dat (.obj c ns fs)),some (.dat (e)),none]
 obtain⟨rfl,rfl,ps,rfl,⟨⟨hs,hl,hr⟩,hn⟩,q⟩:=h
 generalize hw:(ao ps).length=n at q hn
 have hM:0<=(n:Int)/\(n:Int)<=1000000/\(1:Int).natAbs<2^64:=⟨by omega,by omega,by decide⟩
 walk_at "r"
 rw [hw]
 refine dy (fun c=>?_) (fun c=>?_)
 .rw [decide_eq_false (by omega),Bool.false_and] at q
  walk_at "r"
  exact q
 .rw [decide_eq_true (by omega),Bool.true_and] at q
  unfold gb at q
  walk_at "r"
  refine jd (yb (fun c1=>?_) (fun c1=>?_))
  .have c1:nJ e=true:=c1
   have sq:=zL c1
   rw [c1,Bool.true_and] at q
   walk_at "r"
   refine zB sq ?_
   walk_at "r"
   rw [F4]
   refine pq (fun c2=>?_) (fun c2=>?_)
   .rw [decide_eq_false (by omega),Bool.false_and] at q
    walk_at "r"
    exact q
   .rw [decide_eq_true (by omega),Bool.true_and] at q
    walk_at "r"
    generalize hds:aV e=ds at hr hl q sq
    have fin:∀v:Option PV,True:=fun _=>trivial
    rcases sq with rfl|rfl <;> (
     walk_at "r"
     refine uP (fun τ=>∃v,τ=[v,some (.dat (.int (n:Int)))]) (fun k=>.bl (bS (itD ds k) n)) ?_ ?_ ?_
     .exact⟨_,rfl⟩
     .rintro k τ _ hk rfl ⟨v,rfl⟩ K1 k1
      have h1:Srt (itD ds k):=(hr _ (jg hk)).1
      have h2:(aV (itD ds k)).length<=1000000:=Nat.le_trans (hr _ (jg hk)).2 (by decide)
      walk_at "r"
      exact k1 _ ⟨_,rfl⟩
     .rintro τ ⟨v,rfl⟩
      walk_at "r"
      refine⟨(List.range ds.length).map fun k=>bS (itD ds k) n,by rw [List.map_map];rfl,?_⟩
      rw [kR (fun r=>bS r n) ds,List.all_map]
      exact q)
  .rw [show nJ e=false from c1,Bool.false_and] at q
   walk_at "r"
   exact q
theorem jy:∀ds Q,aS ds Q->dY cX fg ds Q:=fun ds Q h=>by
 unfold aS at h
 split at h
 .exact i4 _ _ _ _ _ h
 .exact h.elim
def eP:PTS:=(aG (aQ (bL bz (af (pFz (aZ 0)) (af (pFz (aZ 1)) (af (pFz (aZ 2)) (af (pFz (aZ 3)) al))))) (ap 4)) (bY (pIf (pB (pOp nI (pSl 4) (pFz (pUn ul (pFz (pC (.int 1))))))) (pOp nI (pFz (pOp fIx (pFz (pOp fIx (pSl 1) (pSl 2))) (pSl 3))) (pFz (pUn ul (pFz (pC (.int 1)))))) (pOp fGe (pFz (pOp fIx (pFz (pOp fIx (pSl 1) (pSl 2))) (pSl 3))) (pSl 4)))))
theorem n5 (c:Str) (ns:List Str) (fs:List D) (e:D) (m i:Int) (Q:PV->Prop) (h:bD ([.obj c ns fs,e,.int m,.int i]) Q):dY eP jI ([.obj c ns fs,e,.int m,.int i]) Q:=by
 show eP _ [some (.dat (.obj c ns fs)),some (.dat (e)),some (.dat (.int m)),some (.dat (.int i)),none]
 obtain⟨rfl,rfl,ps,rfl,k,rfl,j,rfl,tb,⟨ht,hn,hk,hj⟩,q⟩:=h
 have hw:=ht.wid _ hk
 unfold enB at q
 walk_at "r"
 refine⟨tb,⟨ht,hn,hk,hj⟩,?_⟩
 generalize ms (ao ps) tb k j=v at q
 walk_at "r"
 refine dy (fun c=>?_) (fun c=>?_)
 .rw [if_pos c] at q
  walk_at "r"
  refine qZ ht.sq ⟨_,BC (by rw [ht.len];exact hk),?_⟩
  walk_at "r"
  refine qZ (ht.row _ hk) ⟨_,lc (by omega),?_⟩
  walk_at "r"
  exact q
 .rw [if_neg c] at q
  walk_at "r"
  refine qZ ht.sq ⟨_,BC (by rw [ht.len];exact hk),?_⟩
  walk_at "r"
  refine qZ (ht.row _ hk) ⟨_,lc (by omega),?_⟩
  walk_at "r"
  exact q
theorem qc:∀ds Q,bD ds Q->dY eP jI ds Q:=fun ds Q h=>by
 unfold bD at h
 split at h
 .exact n5 _ _ _ _ _ _ _ h
 .exact h.elim
def dG:PTS:=(aG (jF (yc (pB (bL aS (af (pFz (aZ 0)) (af (pFz (aZ 1)) al))))) (bY (pC .non)) cD) (aG (aQ (yj false (af (pFz (wq "Family" ["pieces","kept","words","left","laps","total"] aU (aZ 0) al)) al)) (ap 2)) (aG (jF (yc (pB (pCB B0 (af (pFz (zy [none,none,some 0,some 1,some 2] (qQ (af (pFz (pCB gm (af (pSl 1) al))) al)) (ap 0) iH (dz (aZ 4)) (ap 1) iH (bL bD (af (pFz (aZ 2)) (af (pFz (aZ 3)) (af (pFz (aZ 0)) (af (pFz (aZ 1)) al))))))) al)))) (bY (pC .non)) cD) (bY (pOp yn (pFz (uk "Family" ["pieces","kept","words","left","laps","total"] 5 (pSl 0))) (pFz (DQ (pFz (pOp fIx (pSl 1) (pFz (pUn ul (pFz (pC (.int 1))))))) (pC (.int 0)))))))))
theorem ly (c:Str) (ns:List Str) (fs:List D) (e:D) (Q:PV->Prop) (h:aJ ([.obj c ns fs,e]) Q):dY dG ia ([.obj c ns fs,e]) Q:=by
 show dG _ [some (.dat (.obj c ns fs)),some (.dat (e)),none]
 obtain⟨rfl,rfl,ps,rfl,⟨oe,hn⟩,q1,q2⟩:=h
 walk_at "r"
 refine jd (yb (fun c=>?_) (fun c=>?_))
 .have c:(decide ((ao ps).length<=8) && gb e (ao ps).length)=true:=c
  rw [Bool.and_eq_true,decide_eq_true_eq] at c
  obtain⟨tb,ht⟩:=DY c.2
  obtain⟨qa,qb⟩:=q2 tb c.1 ht
  have h8:=c.1
  clear q1 q2
  have hta:=ht.all
  have h256:=fK h8
  generalize hws:ao ps=ws at ht qa qb h8 hta h256
  have hwl:(ao ps).length=ws.length:=by rw [hws]
  have hp0:0<2^ws.length:=Nat.pow_pos (by decide)
  generalize hN:2^ws.length=N at hta h256 hp0 qa
  have hrl:(oB 0 ws.length).length=ws.length:=iy _
  have hle:=ht.len
  walk_at "r"
  refine zB ht.sq ?_
  walk_at "r"
  rw [hle,hta,Int.toNat_natCast,hwl,Int.toNat_natCast]
  refine⟨⟨fun k ys τ=>ys=(prs ws.length k).map (fun p=>D.bl (enB ws tb p.1 p.2))/\∃v w x,(x=some (.own (oB 0 ws.length))\/x=some (.dat (.lst (oB 0 ws.length))))/\τ=[v,w,some (.dat (.obj "Family" lS (lT ps))),some (.dat e),x],⟨rfl,_,_,_,.inl rfl,rfl⟩,?_,?_⟩⟩
  .rintro k ys τ _ hk rfl ⟨rfl,v,w,x,hx,rfl⟩
   have hpl:=xf ws.length k
   have hkn:k*ws.length<=256*8:=Nat.mul_le_mul (by omega) h8
   rcases hx with rfl|rfl <;> (
    walk_at "r"
    rw [hrl]
    refine⟨fun j zs τ=>zs=(prs ws.length k).map (fun p=>D.bl (enB ws tb p.1 p.2))++((List.range j).map fun i=>(k,i)).map (fun p=>D.bl (enB ws tb p.1 p.2))/\∃w,τ=[some (.dat (.int (k:Int))),w,some (.dat (.obj "Family" lS (lT ps))),some (.dat e),some (.dat (.lst (oB 0 ws.length)))],⟨(List.append_nil _).symm,w,rfl⟩,?_,?_⟩
    .rintro j zs τ _ hj rfl ⟨rfl,w,rfl⟩
     rw [kX (by rw [hrl];exact hj)]
     walk_at "r"
     refine⟨tb,⟨by rw [hws];exact ht,by rw [hws];exact h8,by rw [hta];exact hk,by rw [hws];exact hj⟩,?_⟩
     walk_at "r"
     refine⟨?_,?_,_,rfl⟩
     .rw [List.length_append,List.length_map,List.length_map,List.length_map,List.length_range,hpl]
      omega
     .rw [List.range_succ,List.map_append,List.map_append,<- List.append_assoc,hws];rfl
    .rintro zs τ ⟨rfl,w,rfl⟩
     exact⟨by rw [yS,List.map_append],_,_,_,.inr rfl,rfl⟩)
  .rintro ys τ ⟨rfl,v,w,x,hx,rfl⟩
   have key:∀b:Bool,((prs ws.length N).map fun p=>enB ws tb p.1 p.2).all id=b->(b=true ↔ uA ws tb ws.length):=fun b hb=>by
    rw [<- hb,List.all_map,List.all_eq_true]
    unfold uA
    rw [hN]
    constructor
    .intro h m hm i hi;exact h (m,i) (rn.mpr ⟨hm,hi⟩)
    .intro h p hp;exact h p.1 (rn.mp hp).1 p.2 (rn.mp hp).2
   have hlast:=tz (ds:=aV e) (by omega)
   rw [hle,hta] at hlast
   have hrow:=ht.row (N - 1) (by omega)
   rcases hx with rfl|rfl <;> (
    walk_at "r"
    refine⟨(prs ws.length N).map fun p=>enB ws tb p.1 p.2,by rw [List.map_map];rfl,?_⟩
    cases hb:((prs ws.length N).map fun p=>enB ws tb p.1 p.2).all id with
   |true =>
     have qa:=qa ((key _ hb).mp rfl)
     walk_at "r"
     refine qZ ht.sq ⟨_,hlast,?_⟩
     walk_at "r"
     refine⟨_,hrow,?_,?_⟩
     .intro h0
      rw [h0] at qa
      exact qa
     .intro h0 mx hm1 hm2
      rw [<- jx hm1 hm2] at qa
      exact qa
   |false =>
     have qb:=qb (fun z=>by have:=(key _ hb).mpr z;cases this)
     walk_at "r"
     exact qb)
 .walk_at "r"
  exact q1 c
theorem lZ:∀ds Q,aJ ds Q->dY dG ia ds Q:=fun ds Q h=>by
 unfold aJ at h
 split at h
 .exact ly _ _ _ _ _ h
 .exact h.elim
def gP:PTS:=(aG (jF (pOr (yc (pB (En .str (pSl 0)))) (yc (pB (wb fLe fLe (pSl 1) (pFz (pCB gm (af (pSl 0) al))) (pSl 2))))) (bY (pC (.bl false))) cD) (bY (pCB B0 (af (pFz (cZ [none] (dz (aZ 0)) (ap 0) iH (wb fLe fLe (pFz (pC (.str [97]))) (pSl 0) (pFz (pC (.str [122])))))) al))))
theorem rz (d:D) (a b:Int) (Q:PV->Prop) (h:cV ([d,.int a,.int b]) Q):dY gP mR ([d,.int a,.int b]) Q:=by
 show gP _ [some (.dat (d)),some (.dat (.int a)),some (.dat (.int b))]
 obtain⟨hd,hl,q⟩:=h
 cases d with
|str l =>
  have hl:l.length<=1000000:=hl
  walk_at "r"
  refine dy (fun c1=>?_) (fun c1=>?_)
  .walk_at "r"
   refine pq (fun c2=>?_) (fun c2=>?_)
   .walk_at "r"
    rw [show yq (.str l) a b=false by rw [nF,decide_eq_false c2,Bool.and_false];rfl] at q
    exact q
   .walk_at "r"
    refine uP (fun τ=>∃v,τ=[v]) (fun k=>.bl (ltB (l.getD k 0))) ?_ ?_ ?_
    .exact⟨_,rfl⟩
    .rintro k τ _ hk rfl ⟨v,rfl⟩ K1 k1
     walk_at "r"
     refine pq (fun c=>?_) (fun c=>?_)
     .have hc:97<=l.getD k 0:=of_decide_eq_true (by rw [<- qU];rw [decide_eq_false c];rfl)
      walk_at "r"
      show K1 (.bl (!decide (([122]:List Nat)<[l.getD k 0]))) _
      rw [qU]
      rw [show ltB (l.getD k 0)=decide (l.getD k 0<=122) by unfold ltB;rw [decide_eq_true hc];rfl] at k1
      exact k1 _ ⟨_,rfl⟩
     .have hc:¬ 97<=l.getD k 0:=of_decide_eq_false (by rw [<- qU,decide_eq_true c];rfl)
      walk_at "r"
      rw [show ltB (l.getD k 0)=false by unfold ltB;rw [decide_eq_false hc];rfl] at k1
      exact k1 _ ⟨_,rfl⟩
    .rintro τ ⟨v,rfl⟩
     walk_at "r"
     refine⟨(List.range l.length).map fun k=>ltB (l.getD k 0),by rw [List.map_map];rfl,?_⟩
     have e:yq (.str l) a b=(((List.range l.length).map fun k=>ltB (l.getD k 0)).all id):=by
      rw [nF,decide_eq_true c1,decide_eq_true c2,Bool.and_self,Bool.true_and,fC]
      rw [List.all_map];rfl
     rw [e] at q
     exact q
  .walk_at "r"
   rw [show yq (.str l) a b=false by rw [nF,decide_eq_false c1,Bool.false_and];rfl] at q
   exact q
|non=>walk_at "r";exact q
|bl b=>walk_at "r";exact q
|int i=>walk_at "r";exact q
|ty n=>cases hd
|lst ds=>walk_at "r";exact q
|tup ds=>walk_at "r";exact q
|scr ns=>cases hd
|dic ks ds=>walk_at "r";exact q
|obj c ns ds=>cases hd
|exc c ns ds=>cases hd
theorem uG:∀ds Q,cV ds Q->dY gP mR ds Q:=fun ds Q h=>by
 unfold cV at h
 split at h
 .exact rz _ _ _ _ h
 .exact h.elim
def dH:PTS:=(bY (pSM wo (aZ 0) (af (pSl 1) al)))
theorem lz (a b:List Nat) (Q:PV->Prop) (h:aT ([.str a,.str b]) Q):dY dH ib ([.str a,.str b]) Q:=by
 show dH _ [some (.dat (.str a)),some (.dat (.str b))]
 walk_at "r"
 exact h
theorem l6:∀ds Q,aT ds Q->dY dH ib ds Q:=fun ds Q h=>by
 unfold aT at h
 split at h
 .exact lz _ _ _ h
 .exact h.elim
def tN:PTS:=(aG (j1 (E6 (af (pFz (pOp yn (pFz (pCB yg (af (pFz (pCB gm (af (pSl 0) al))) (af (pFz (pCB gm (af (pSl 1) al))) al)))) (pFz (pC (.int 1))))) (af (pFz (pC (.int 0))) (af (pFz (pUn ul (pFz (pC (.int 1))))) al)))) (ap 2) (jF (pB (pSM A0 (aZ 0) (af (pFz (dt (pSl 1) dB (dk (aZ 2)))) al))) (bY (aZ 2)) cD)) (bY (pC (.int 0))))
theorem BR (a b:List Nat) (Q:PV->Prop) (h:fY ([.str a,.str b]) Q):dY tN zM ([.str a,.str b]) Q:=by
 show tN _ [some (.dat (.str a)),some (.dat (.str b)),none]
 obtain⟨⟨a0,a1⟩,⟨b0,b1⟩,q⟩:=h
 have hm:(if (b.length:Int)<(a.length:Int) then (b.length:Int) else (a.length:Int))=((min a.length b.length:Nat):Int):=by split <;> omega
 walk_at "r"
 refine⟨fun i ρ=>(∃v2:Option PV,ρ=[some (.dat (.str a)),some (.dat (.str b)),v2])/\∀j,min a.length b.length - i<=j->j<min a.length b.length->¬ b.take j <:+ a,⟨⟨_,rfl⟩,fun j h1 h2=>by omega⟩,?_,?_⟩
 .rintro i ρ d hi ed ⟨⟨v2,rfl⟩,ih⟩
  have hi:i<(((if (b.length:Int)<(a.length:Int) then (b.length:Int) else (a.length:Int)) - 1) - 0).toNat:=hi
  have ed:d=.int (((if (b.length:Int)<(a.length:Int) then (b.length:Int) else (a.length:Int)) - 1) - (i:Int)):=ed
  rw [hm] at hi ed
  obtain⟨k,hk,hk2⟩:∃k:Nat,(((min a.length b.length:Nat):Int) - 1) - (i:Int)=(k:Int)/\k=min a.length b.length - 1 - i:=⟨min a.length b.length - 1 - i,by omega,rfl⟩
  rw [hk] at ed
  subst ed
  walk_at "r"
  rw [iq]
  refine dy (fun c=>?_) (fun c=>?_)
  .walk_at "r"
   rw [show gA a b=k from nL ⟨by omega,c,fun j h1 h2=>by
    rcases Nat.lt_or_ge k j with h|h
    .exact absurd h2 (ih j (by omega) h1)
    .exact h⟩] at q
   exact q
  .refine⟨⟨_,rfl⟩,fun j h1 h2=>?_⟩
   by_cases hj:j=k
   .rw [hj];exact c
   .exact ih j (by omega) h2
 .rintro ρ ⟨⟨v2,rfl⟩,ih⟩
  rw [hm] at ih
  walk_at "r"
  rw [show gA a b=0 from nL ⟨by omega,by rw [List.take_zero];exact List.nil_suffix,fun j h1 h2=>by
   rcases Nat.eq_zero_or_pos j with h|h
   .omega
   .exact absurd h2 (ih j (by omega) h1)⟩] at q
  exact q
theorem Eb:∀ds Q,fY ds Q->dY tN zM ds Q:=fun ds Q h=>by
 unfold fY at h
 split at h
 .exact BR _ _ _ h
 .exact h.elim
def fL:PTS:=(bY (pCB hJ (af (pFz (cZ [none,some 0] (dz (aZ 0)) (ap 0) iH (pCB hJ (af (pFz (cZ [none,some 0] (dz (aZ 1)) (ap 0) iH (bL fY (af (pFz (aZ 1)) (af (pFz (aZ 0)) al))))) al)))) al)))
theorem qd (ds:List D) (Q:PV->Prop) (h:cj ([.tup ds]) Q):dY fL lf ([.tup ds]) Q:=by
 show fL _ [some (.dat (.tup ds))]
 obtain⟨ws,rfl,⟨hn,hw⟩,q⟩:=h
 have hlm:(ws.map D.str).length=ws.length:=List.length_map _
 have rr:∀f:List Nat->D,(List.range (ws.map D.str).length).map (fun k=>f (pw ws k))=ws.map f:=fun f=>by
  rw [hlm]
  apply List.ext_getElem?
  intro k
  rw [List.getElem?_map,List.getElem?_map]
  by_cases hk:k<ws.length
  .rw [List.getElem?_range hk,hU hk];rfl
  .rw [List.getElem?_eq_none (by rw [List.length_range];omega),List.getElem?_eq_none (by omega)];rfl
 walk_at "r"
 refine uP (fun τ=>∃v,τ=[v,some (.dat (.tup (ws.map .str)))]) (fun k=>.tup (ws.map fun v=>.int (gA (pw ws k) v:Int))) ?_ ?_ ?_
 .exact⟨_,rfl⟩
 .rintro k τ d hk ed ⟨v,rfl⟩ K1 k1
  rw [gx hk] at ed
  subst ed
  have w1:=hw _ (hV (show k<ws.length by omega))
  walk_at "r"
  refine uP (fun τ=>∃v,τ=[v,some (.dat (.str (pw ws k)))]) (fun j=>.int (gA (pw ws k) (pw ws j):Int)) ?_ ?_ ?_
  .exact⟨_,rfl⟩
  .rintro j τ d hj ed ⟨v,rfl⟩ K2 k2
   rw [gx hj] at ed
   subst ed
   have w2:=hw _ (hV (show j<ws.length by omega))
   walk_at "r"
   exact k2 _ ⟨_,rfl⟩
  .rintro τ ⟨v,rfl⟩
   rw [rr (fun w=>D.int (gA (pw ws k) w:Int))]
   walk_at "r"
   exact k1 _ ⟨_,rfl⟩
 .rintro τ ⟨v,rfl⟩
  rw [rr (fun w=>D.tup (ws.map fun v=>.int (gA w v:Int)))]
  walk_at "r"
  exact q
theorem rA:∀ds Q,cj ds Q->dY fL lf ds Q:=fun ds Q h=>by
 unfold cj at h
 split at h
 .exact qd _ _ h
 .exact h.elim
def dw:PTS:=(aG (jF (pB (pOp fGt (pFz (pCB gm (af (pSl 0) al))) (pFz (pC (.int 40))))) qP cD) (j1 (wg (af (pFz (aZ 0)) al)) (yB 2 (mG (ap 1) (mG (ap 2) yf))) (jF (yc (pB (zw cV [] (af (pFz (aZ 2)) (af (pFz (pC (.int 1))) (af (pFz (pC (.int 60))) al)))))) qP cD)))
theorem j5 (d:D) (Q:PV->Prop) (h:bh ([d]) Q):dY dw gG ([d]) Q:=by
 show dw _ [some (.dat (d)),none,none]
 obtain⟨ws,hd,⟨hn,hp⟩,q⟩:=h
 have hlm:(ws.map D.str).length=ws.length:=List.length_map _
 rcases hd with rfl|rfl
 .walk_at "r"
  refine⟨fun k ρ=>∃v1 v2:Option PV,ρ=[some (.dat (.lst (ws.map .str))),v1,v2],⟨_,_,rfl⟩,?_,?_⟩
  .rintro k ρ d hk ed ⟨v1,v2,rfl⟩
   have ed:d=.tup [.int k,itD (ws.map D.str) k]:=ed
   rw [gx hk] at ed
   subst ed
   have hw:=hp _ (hV (show k<ws.length by omega))
   have ht:yq (.str (pw ws k)) 1 60=true:=wt.mpr hw
   have h1:(pw ws k).length<=1000000:=by have:=hw.2.1;omega
   walk_at "r"
   refine AG ht ?_
   exact⟨_,_,rfl⟩
  .rintro ρ ⟨v1,v2,rfl⟩
   exact q
 .walk_at "r"
  refine⟨fun k ρ=>∃v1 v2:Option PV,ρ=[some (.dat (.tup (ws.map .str))),v1,v2],⟨_,_,rfl⟩,?_,?_⟩
  .rintro k ρ d hk ed ⟨v1,v2,rfl⟩
   have ed:d=.tup [.int k,itD (ws.map D.str) k]:=ed
   rw [gx hk] at ed
   subst ed
   have hw:=hp _ (hV (show k<ws.length by omega))
   have ht:yq (.str (pw ws k)) 1 60=true:=wt.mpr hw
   have h1:(pw ws k).length<=1000000:=by have:=hw.2.1;omega
   walk_at "r"
   refine AG ht ?_
   exact⟨_,_,rfl⟩
  .rintro ρ ⟨v1,v2,rfl⟩
   exact q
theorem lA:∀ds Q,bh ds Q->dY dw gG ds Q:=fun ds Q h=>by
 unfold bh at h
 split at h
 .exact j5 _ _ h
 .exact h.elim
def dg:PTS:=(bY (pOp fGe (pFz (bL aT (af (pFz (aZ 1)) (af (pFz (aZ 0)) al)))) (pFz (pC (.int 0)))))
theorem jz (a b:List Nat) (Q:PV->Prop) (h:aH ([.str a,.str b]) Q):dY dg fZ ([.str a,.str b]) Q:=by
 show dg _ [some (.dat (.str a)),some (.dat (.str b))]
 walk_at "r"
 exact h
theorem j6:∀ds Q,aH ds Q->dY dg fZ ds Q:=fun ds Q h=>by
 unfold aH at h
 split at h
 .exact jz _ _ _ h
 .exact h.elim
def gQ:PTS:=(aG (aQ (pOp fIx (pSl 0) (pSl 1)) (ap 2)) (aG (aQ (cZ [none,some 2] (dz (aZ 0)) (ap 0) (pB (pOp fGt (pFz (pCB gm (af (pSl 0) al))) (pFz (pCB gm (af (pSl 1) al))))) (aZ 0)) (ap 3)) (bY (vX (pOp (Bh true) (pSl 2) (pFz (dt (pSl 0) dB (dk (aZ 1))))) (AH (pCB Fb (af (pFz (cZ [none,some 2] (dz (aZ 3)) (ap 0) iH (bL aH (af (pFz (aZ 1)) (af (pFz (aZ 0)) al))))) al)))))))
theorem rB (ds:List D) (i:Int) (Q:PV->Prop) (h:cB ([.tup ds,.int i]) Q):dY gQ mS ([.tup ds,.int i]) Q:=by
 show gQ _ [some (.dat (.tup ds)),some (.dat (.int i)),none,none]
 obtain⟨ws,rfl,⟨hn,hw⟩,hi,q⟩:=h
 obtain⟨k,rfl⟩:∃k:Nat,i=(k:Int):=⟨i.toNat,by omega⟩
 have hk:k<ws.length:=by omega
 have hlm:(ws.map D.str).length=ws.length:=List.length_map _
 have w1:=hw _ (hV hk)
 walk_at "r"
 refine⟨_,gy hk rfl,?_⟩
 walk_at "r"
 refine cfm (fun τ=>∃v,τ=[v,some (.dat (.str (pw ws k)))]) (fun j=>if (pw ws k).length<(pw ws j).length then some (.str (pw ws j)) else none) ?_ ?_ ?_
 .exact⟨_,rfl⟩
 .rintro j τ d hj ed ⟨v,rfl⟩ K1 K2 k1 k2
  rw [gx hj] at ed
  subst ed
  have w2:=hw _ (hV (show j<ws.length by omega))
  walk_at "r"
  refine dy (fun c=>?_) (fun c=>?_)
  .walk_at "r"
   exact k1 _ _ (by rw [if_pos (by omega)]) ⟨_,rfl⟩
  .exact k2 _ (by rw [if_neg (by omega)]) ⟨_,rfl⟩
 .rintro τ ⟨v,rfl⟩
  have e1:(List.range (ws.map D.str).length).filterMap (fun j=>if (pw ws k).length<(pw ws j).length then some (D.str (pw ws j)) else none)=(ws.filter fun o=>decide ((pw ws k).length<o.length)).map D.str:=by
   rw [hlm,yG (fun w=>if (pw ws k).length<w.length then some (D.str w) else none) ws,<- c9]
   congr 1
   funext w
   by_cases h:(pw ws k).length<w.length
   .rw [if_pos h,if_pos (decide_eq_true h)]
   .rw [if_neg h,if_neg (by rw [decide_eq_false h];decide)]
  rw [e1]
  have hll:(ws.filter fun o=>decide ((pw ws k).length<o.length)).length<=ws.length:=List.length_filter_le ..
  generalize hL:(ws.filter fun o=>decide ((pw ws k).length<o.length))=ls at hll ⊢
  have hlm2:(ls.map D.str).length=ls.length:=List.length_map _
  have c1:dR (ws.map D.str) none (some (k:Int))=(ws.take k).map D.str:=by rw [iq,List.map_take]
  have hfl:(dR (ws.map D.str) none (some (k:Int))).all D.fl=true:=by rw [c1];exact wI _
  have hin:inD (.str (pw ws k)) (dR (ws.map D.str) none (some (k:Int)))=decide (pw ws k∈ws.take k):=by rw [c1];exact nM _ _
  have hkb:du ws k=(!inD (.str (pw ws k)) (dR (ws.map D.str) none (some (k:Int))) && !ls.any fun o=>ga (pw ws k) o):=by
   unfold du;rw [hin,hL]
  rw [Int.toNat_natCast,hkb] at q
  walk_at "r"
  refine jd (yb (fun c=>?_) (fun c=>?_))
  .walk_at "r"
   have c:inD (.str (pw ws k)) (dR (ws.map D.str) none (some (k:Int)))=true:=c
   rw [c] at q
   exact q
  .have c:inD (.str (pw ws k)) (dR (ws.map D.str) none (some (k:Int)))=false:=c
   rw [c,Bool.not_false,Bool.true_and] at q
   walk_at "r"
   refine uP (fun τ=>∃v,τ=[v,some (.dat (.str (pw ws k)))]) (fun j=>.bl (ga (pw ws k) (pw ls j))) ?_ ?_ ?_
   .exact⟨_,rfl⟩
   .rintro j τ d hj ed ⟨v,rfl⟩ K1 k1
    rw [gx hj] at ed
    subst ed
    walk_at "r"
    exact k1 _ ⟨_,rfl⟩
   .rintro τ ⟨v,rfl⟩
    walk_at "r"
    refine⟨ls.map fun o=>ga (pw ws k) o,?_,?_⟩
    .rw [hlm2,List.map_map]
     conv=>rhs;rw [<- sR ls,List.map_map]
     rfl
    .rw [show ((ls.map fun o=>ga (pw ws k) o).any id)=ls.any (fun o=>ga (pw ws k) o) by rw [List.any_map];rfl]
     walk_at "r"
     exact q
theorem uH:∀ds Q,cB ds Q->dY gQ mS ds Q:=fun ds Q h=>by
 unfold cB at h
 split at h
 .exact rB _ _ _ h
 .exact h.elim
def fM:PTS:=(aG (aQ (pCB AU (af (pFz (cZ [none,some 0,some 2] (dz (aZ 1)) (ap 0) (pB (bL aH (af (pFz (pOp fIx (pSl 1) (pSl 2))) (af (pFz (pOp fIx (pSl 1) (pSl 0))) al)))) (aZ 0))) al)) (ap 3)) (bY (xB (af (pFz (aZ 2)) (af (pFz (aZ 3)) (af (pFz (bL aT (af (pFz (pOp fIx (pSl 0) (pSl 3))) (af (pFz (pOp fIx (pSl 0) (pSl 2))) al)))) al))))))
theorem qe (ds ks:List D) (i:Int) (Q:PV->Prop) (h:bT ([.tup ds,.tup ks,.int i]) Q):dY fM lg ([.tup ds,.tup ks,.int i]) Q:=by
 show fM _ [some (.dat (.tup ds)),some (.dat (.tup ks)),some (.dat (.int i)),none]
 obtain⟨ws,rfl,rfl,⟨hn,hw⟩,hi,q⟩:=h
 obtain⟨k,rfl⟩:∃k:Nat,i=(k:Int):=⟨i.toNat,by omega⟩
 have hk:k<ws.length:=by omega
 rw [Int.toNat_natCast] at q
 have hkl:=ji ws
 have hkm:((aP ws).map nD).length=(aP ws).length:=List.length_map _
 walk_at "r"
 refine cfm (fun τ=>∃v,τ=[v,some (.dat (.tup (ws.map .str))),some (.dat (.int (k:Int)))]) (fun j=>if ga (pw ws k) (pw ws ((aP ws).getD j 0))=true then some (nD ((aP ws).getD j 0)) else none) ?_ ?_ ?_
 .exact⟨_,rfl⟩
 .rintro j τ d hj ed ⟨v,rfl⟩ K1 K2 k1 k2
  have hj2:(aP ws).getD j 0<ws.length:=gB (List.mem_of_getElem? (by rw [List.getD_eq_getElem?_getD,List.getElem?_eq_getElem (show j<(aP ws).length by omega)];rfl))
  rw [wH hj] at ed
  subst ed
  generalize (aP ws).getD j 0=z at hj2 k1 k2 ⊢
  walk_at "r"
  refine⟨_,gy hk rfl,?_⟩
  walk_at "r"
  refine⟨_,gy hj2 rfl,?_⟩
  walk_at "r"
  cases hc:ga (pw ws k) (pw ws z) with
 |true=>walk_at "r";exact k1 _ _ (by rw [if_pos hc];rfl) ⟨_,rfl⟩
 |false=>walk_at "r";exact k2 _ (by rw [if_neg (by rw [hc];decide)]) ⟨_,rfl⟩
 .rintro τ ⟨v,rfl⟩
  have e1:(List.range ((aP ws).map nD).length).filterMap (fun j=>if ga (pw ws k) (pw ws ((aP ws).getD j 0))=true then some (nD ((aP ws).getD j 0)) else none)=((kW ws k).map fun j=>((j:Nat):Int)).map D.int:=by
   rw [hkm,yH (fun j=>if ga (pw ws k) (pw ws j)=true then some (nD j) else none) (aP ws),c9 (fun j=>ga (pw ws k) (pw ws j)) nD,List.map_map]
   rfl
  rw [e1]
  obtain⟨h0,hh0⟩:=uv hw hk
  walk_at "r"
  refine⟨by rw [List.length_map];exact List.length_pos_of_mem hh0,fun m hm hle=>?_⟩
  obtain⟨z,hz,rfl⟩:=List.mem_map.mp hm
  have hz2:z<ws.length:=gB (List.mem_filter.mp hz).1
  have hho:sP ws k=z:=wG hz fun a ha=>by have:=hle _ (List.mem_map_of_mem ha);omega
  walk_at "r"
  refine⟨_,gy hz2 rfl,?_⟩
  walk_at "r"
  refine⟨_,gy hk rfl,?_⟩
  walk_at "r"
  unfold et at q
  rw [hho] at q
  exact q
theorem rC:∀ds Q,bT ds Q->dY fM lg ds Q:=fun ds Q h=>by
 unfold bT at h
 split at h
 .exact qe _ _ _ _ h
 .exact h.elim
def dI:PTS:=(aG (iP (bL bh (af (pFz (aZ 1)) al))) (aG (kP "Family" [] "pieces" 0 (pCB hJ (af (pSl 1) al))) (aG (aQ (yj false (af (pFz (pCB gm (af (pFz (uk "Family" ["pieces"] 0 (pSl 0))) al))) al)) (ap 2)) (aG (kP "Family" ["pieces"] "kept" 0 (pCB hJ (af (pFz (cZ [none,some 0] (dz (aZ 2)) (ap 0) (pB (bL cB (af (pFz (uk "Family" ["pieces"] 0 (pSl 1))) (af (pFz (aZ 0)) al)))) (aZ 0))) al))) (aG (kP "Family" ["pieces","kept"] "words" 0 (pCB hJ (af (pFz (cZ [none,some 0] (dz (uk "Family" ["pieces","kept"] 1 (pSl 0))) (ap 0) iH (pOp fIx (pFz (uk "Family" ["pieces","kept"] 0 (pSl 1))) (pSl 0)))) al))) (aG (kP "Family" ["pieces","kept","words"] "left" 0 (pCB hJ (af (pFz (cZ [none,some 0] (dz (aZ 2)) (ap 0) (pB (pOp (Bh true) (pSl 0) (pFz (uk "Family" ["pieces","kept","words"] 1 (pSl 1))))) (bL bT (af (pFz (uk "Family" ["pieces","kept","words"] 0 (pSl 1))) (af (pFz (uk "Family" ["pieces","kept","words"] 1 (pSl 1))) (af (pFz (aZ 0)) al)))))) al))) (aG (kP "Family" ["pieces","kept","words","left"] "laps" 0 (bL cj (af (pFz (uk "Family" ["pieces","kept","words","left"] 2 (pSl 0))) al))) (kP "Family" ["pieces","kept","words","left","laps"] "total" 0 (pCB AW (af (pFz (cZ [none] (dz (uk "Family" ["pieces","kept","words","left","laps"] 2 (pSl 0))) (ap 0) iH (pCB gm (af (pSl 0) al)))) al))))))))))
theorem lB (d:D) (Q:PV->PV->Prop) (h:bo (.ins "Family" [] []) ([d]) Q):mI dI ic (.ins "Family" [] []) ([d]) Q:=by
 show dI _ [some (.ins "Family" [] []),some (.dat (d)),none]
 obtain⟨ws,hd,⟨hn,hp⟩,q⟩:=h
 have hlm:(ws.map D.str).length=ws.length:=List.length_map _
 have hkl:=ji ws
 have hkm:((aP ws).map nD).length=(aP ws).length:=List.length_map _
 have hrl:(oB 0 (((ws.map D.str).length:Nat):Int).toNat).length=ws.length:=by rw [iy];omega
 have hk1:ws.length<=1000/\∀w∈ws,w.length<=10000:=⟨by omega,fun w hw=>by have:=(hp w hw).2.1;omega⟩
 have hk2:ws.length<=1000/\∀w∈ws,w.length<=60:=⟨by omega,fun w hw=>(hp w hw).2.1⟩
 walk_at "r"
 refine⟨ws,hd,⟨hn,hp⟩,?_⟩
 rcases hd with rfl|rfl
 .walk_at "r"
  refine cfm (fun τ=>∃v,τ=[v,some (.ins "Family" ["pieces"] [.tup (ws.map .str)])]) (fun j=>if du ws j=true then some (nD j) else none) ?_ ?_ ?_
  .exact⟨_,rfl⟩
  .rintro j τ d hj ed ⟨v,rfl⟩ K1 K2 k1 k2
   have hj2:j<ws.length:=by rw [iy] at hj;omega
   rw [kX hj] at ed
   subst ed
   walk_at "r"
   rw [Int.toNat_natCast]
   cases hc:du ws j with
  |true=>walk_at "r";exact k1 _ _ (by rw [if_pos hc];rfl) ⟨_,rfl⟩
  |false=>walk_at "r";exact k2 _ (by rw [if_neg (by rw [hc];decide)]) ⟨_,rfl⟩
  .rintro τ ⟨v,rfl⟩
   have e1:(List.range (oB 0 (((ws.map D.str).length:Nat):Int).toNat).length).filterMap (fun j=>if du ws j=true then some (nD j) else none)=(aP ws).map nD:=by
    rw [iy,hlm,Int.toNat_natCast,c9 (du ws) nD];rfl
   rw [e1]
   walk_at "r"
   refine uP (fun τ=>∃v,τ=[v,some (.ins "Family" ["pieces","kept"] [.tup (ws.map .str),.tup ((aP ws).map nD)])]) (fun k=>.str (pw ws ((aP ws).getD k 0))) ?_ ?_ ?_
   .exact⟨_,rfl⟩
   .rintro j τ d hj ed ⟨v,rfl⟩ K1 k1
    have hj2:(aP ws).getD j 0<ws.length:=gB (List.mem_of_getElem? (by rw [List.getD_eq_getElem?_getD,List.getElem?_eq_getElem (show j<(aP ws).length by omega)];rfl))
    rw [wH hj] at ed
    subst ed
    walk_at "r"
    refine⟨_,gy hj2 rfl,?_⟩
    walk_at "r"
    exact k1 _ ⟨_,rfl⟩
   .rintro τ ⟨v,rfl⟩
    have e2:(List.range ((aP ws).map nD).length).map (fun k=>D.str (pw ws ((aP ws).getD k 0)))=(ao ws).map D.str:=by
     rw [hkm,fC (fun j=>D.str (pw ws j)) (aP ws)]
     unfold ao
     rw [List.map_map];rfl
    rw [e2]
    have hwl:=fb ws
    have hwm:((ao ws).map D.str).length=(ao ws).length:=List.length_map _
    have hwp:=e8 hp
    have hwq:(ao ws).length<=1000/\∀w∈ao ws,0<w.length/\w.length<=10000:=⟨by omega,fun w hw=>⟨(hwp w hw).1,by have:=(hwp w hw).2.1;omega⟩⟩
    have hfl:((aP ws).map nD).all D.fl=true:=Be _
    walk_at "r"
    refine cfm (fun τ=>∃v,τ=[v,some (.ins "Family" ["pieces","kept","words"] [.tup (ws.map .str),.tup ((aP ws).map nD),.tup ((ao ws).map .str)])]) (fun j=>if (!decide (j∈aP ws))=true then some (et ws j) else none) ?_ ?_ ?_
    .exact⟨_,rfl⟩
    .rintro j τ d hj ed ⟨v,rfl⟩ K1 K2 k1 k2
     have hj2:j<ws.length:=by omega
     rw [kX hj] at ed
     subst ed
     have hin:=sQ j (aP ws)
     walk_at "r"
     refine jd (yb (fun c=>?_) (fun c=>?_))
     .have c:inD (.int (j:Int)) ((aP ws).map nD)=true:=c
      rw [hin] at c
      exact k2 _ (by rw [c];rfl) ⟨_,rfl⟩
     .have c:inD (.int (j:Int)) ((aP ws).map nD)=false:=c
      rw [hin] at c
      walk_at "r"
      rw [Int.toNat_natCast]
      exact k1 _ _ (by rw [c];rfl) ⟨_,rfl⟩
    .rintro τ ⟨v,rfl⟩
     have e3:(List.range (oB 0 (((ws.map D.str).length:Nat):Int).toNat).length).filterMap (fun j=>if (!decide (j∈aP ws))=true then some (et ws j) else none)=(wF ws).map (et ws):=by
      rw [hrl,c9 (fun j=>!decide (j∈aP ws)) (et ws)];rfl
     rw [e3]
     walk_at "r"
     refine uP (fun τ=>∃v,τ=[v]) (fun k=>.int ((pw (ao ws) k).length:Int)) ?_ ?_ ?_
     .exact⟨_,rfl⟩
     .rintro j τ d hj ed ⟨v,rfl⟩ K1 k1
      rw [gx hj] at ed
      subst ed
      walk_at "r"
      exact k1 _ ⟨_,rfl⟩
     .rintro τ ⟨v,rfl⟩
      have e4:(List.range ((ao ws).map D.str).length).map (fun k=>D.int ((pw (ao ws) k).length:Int))=((ao ws).map fun w=>(w.length:Int)).map D.int:=by
       rw [hwm,List.map_map]
       conv=>rhs;rw [<- sR (ao ws),List.map_map]
       rfl
      rw [e4]
      walk_at "r"
      exact q
 .walk_at "r"
  refine cfm (fun τ=>∃v,τ=[v,some (.ins "Family" ["pieces"] [.tup (ws.map .str)])]) (fun j=>if du ws j=true then some (nD j) else none) ?_ ?_ ?_
  .exact⟨_,rfl⟩
  .rintro j τ d hj ed ⟨v,rfl⟩ K1 K2 k1 k2
   have hj2:j<ws.length:=by rw [iy] at hj;omega
   rw [kX hj] at ed
   subst ed
   walk_at "r"
   rw [Int.toNat_natCast]
   cases hc:du ws j with
  |true=>walk_at "r";exact k1 _ _ (by rw [if_pos hc];rfl) ⟨_,rfl⟩
  |false=>walk_at "r";exact k2 _ (by rw [if_neg (by rw [hc];decide)]) ⟨_,rfl⟩
  .rintro τ ⟨v,rfl⟩
   have e1:(List.range (oB 0 (((ws.map D.str).length:Nat):Int).toNat).length).filterMap (fun j=>if du ws j=true then some (nD j) else none)=(aP ws).map nD:=by
    rw [iy,hlm,Int.toNat_natCast,c9 (du ws) nD];rfl
   rw [e1]
   walk_at "r"
   refine uP (fun τ=>∃v,τ=[v,some (.ins "Family" ["pieces","kept"] [.tup (ws.map .str),.tup ((aP ws).map nD)])]) (fun k=>.str (pw ws ((aP ws).getD k 0))) ?_ ?_ ?_
   .exact⟨_,rfl⟩
   .rintro j τ d hj ed ⟨v,rfl⟩ K1 k1
    have hj2:(aP ws).getD j 0<ws.length:=gB (List.mem_of_getElem? (by rw [List.getD_eq_getElem?_getD,List.getElem?_eq_getElem (show j<(aP ws).length by omega)];rfl))
    rw [wH hj] at ed
    subst ed
    walk_at "r"
    refine⟨_,gy hj2 rfl,?_⟩
    walk_at "r"
    exact k1 _ ⟨_,rfl⟩
   .rintro τ ⟨v,rfl⟩
    have e2:(List.range ((aP ws).map nD).length).map (fun k=>D.str (pw ws ((aP ws).getD k 0)))=(ao ws).map D.str:=by
     rw [hkm,fC (fun j=>D.str (pw ws j)) (aP ws)]
     unfold ao
     rw [List.map_map];rfl
    rw [e2]
    have hwl:=fb ws
    have hwm:((ao ws).map D.str).length=(ao ws).length:=List.length_map _
    have hwp:=e8 hp
    have hwq:(ao ws).length<=1000/\∀w∈ao ws,0<w.length/\w.length<=10000:=⟨by omega,fun w hw=>⟨(hwp w hw).1,by have:=(hwp w hw).2.1;omega⟩⟩
    have hfl:((aP ws).map nD).all D.fl=true:=Be _
    walk_at "r"
    refine cfm (fun τ=>∃v,τ=[v,some (.ins "Family" ["pieces","kept","words"] [.tup (ws.map .str),.tup ((aP ws).map nD),.tup ((ao ws).map .str)])]) (fun j=>if (!decide (j∈aP ws))=true then some (et ws j) else none) ?_ ?_ ?_
    .exact⟨_,rfl⟩
    .rintro j τ d hj ed ⟨v,rfl⟩ K1 K2 k1 k2
     have hj2:j<ws.length:=by omega
     rw [kX hj] at ed
     subst ed
     have hin:=sQ j (aP ws)
     walk_at "r"
     refine jd (yb (fun c=>?_) (fun c=>?_))
     .have c:inD (.int (j:Int)) ((aP ws).map nD)=true:=c
      rw [hin] at c
      exact k2 _ (by rw [c];rfl) ⟨_,rfl⟩
     .have c:inD (.int (j:Int)) ((aP ws).map nD)=false:=c
      rw [hin] at c
      walk_at "r"
      rw [Int.toNat_natCast]
      exact k1 _ _ (by rw [c];rfl) ⟨_,rfl⟩
    .rintro τ ⟨v,rfl⟩
     have e3:(List.range (oB 0 (((ws.map D.str).length:Nat):Int).toNat).length).filterMap (fun j=>if (!decide (j∈aP ws))=true then some (et ws j) else none)=(wF ws).map (et ws):=by
      rw [hrl,c9 (fun j=>!decide (j∈aP ws)) (et ws)];rfl
     rw [e3]
     walk_at "r"
     refine uP (fun τ=>∃v,τ=[v]) (fun k=>.int ((pw (ao ws) k).length:Int)) ?_ ?_ ?_
     .exact⟨_,rfl⟩
     .rintro j τ d hj ed ⟨v,rfl⟩ K1 k1
      rw [gx hj] at ed
      subst ed
      walk_at "r"
      exact k1 _ ⟨_,rfl⟩
     .rintro τ ⟨v,rfl⟩
      have e4:(List.range ((ao ws).map D.str).length).map (fun k=>D.int ((pw (ao ws) k).length:Int))=((ao ws).map fun w=>(w.length:Int)).map D.int:=by
       rw [hwm,List.map_map]
       conv=>rhs;rw [<- sR (ao ws),List.map_map]
       rfl
      rw [e4]
      walk_at "r"
      exact q
theorem l8:∀p ds Q,p.isOwn=true->bo p ds Q->mI dI ic p ds Q:=fun p ds Q _ h=>by
 unfold bo at h
 split at h
 .exact lB _ _ h
 .exact h.elim
def dJ:PTS:=(bY (pCB gm (af (pFz (uk "Family" ["pieces","kept","words","left","laps","total"] 2 (pSl 0))) al)))
theorem lC (c:Str) (ns:List Str) (fs:List D) (Q:PV->Prop) (h:aU ([.obj c ns fs]) Q):dY dJ ie ([.obj c ns fs]) Q:=by
 show dJ _ [some (.dat (.obj c ns fs))]
 obtain⟨rfl,rfl,ws,rfl,q⟩:=h
 walk_at "r"
 rw [List.length_map]
 exact q
theorem l9:∀ds Q,aU ds Q->dY dJ ie ds Q:=fun ds Q h=>by
 unfold aU at h
 split at h
 .exact lC _ _ _ _ h
 .exact h.elim
def eQ:PTS:=(aG (aQ (pOp cP (pFz (pOp cP (pFz (pOp cP (pFz (pOp eM (pSl 0) (pFz (pC (.int 2305843009213693951))))) (pFz (pOp mF (pFz (pOp mF (pSl 1) (pSl 1))) (pFz (pC (.int 48271))))))) (pFz (pOp mF (pSl 1) (pFz (pC (.int 9973))))))) (pFz (pC (.int 20021)))) (ap 2)) (aG (aQ (pOp eM (pSl 2) (pFz (pC (.int 2305843009213693951)))) (ap 2)) (aG (aQ (pOp eM (pFz (pOp mF (pSl 2) (pSl 2))) (pFz (pC (.int 2305843009213693951)))) (ap 2)) (aG (aQ (pOp eM (pFz (pOp mF (pFz (pOp cP (pFz (pOp cP (pSl 2) (pFz (pOp mF (pSl 1) (pFz (pC (.int 16807))))))) (pFz (pC (.int 11))))) (pFz (pC (.int 69621))))) (pFz (pC (.int 2305843009213693951)))) (ap 2)) (bY (pOp A4 (pFz (pOp eM (pFz (pOp mF (pSl 2) (pSl 2))) (pFz (pC (.int 2305843009213693951))))) (pFz (pC (.int 4096)))))))))
theorem n6 (c k:Int) (Q:PV->Prop) (h:bN ([.int c,.int k]) Q):dY eQ jJ ([.int c,.int k]) Q:=by
 show eQ _ [some (.dat (.int c)),some (.dat (.int k)),none]
 obtain⟨⟨h0,h1⟩,q⟩:=h
 walk_at "r"
 exact q _ (Int.ediv_nonneg (Int.emod_nonneg _ (by decide)) (by decide))
theorem qf:∀ds Q,bN ds Q->dY eQ jJ ds Q:=fun ds Q h=>by
 unfold bN at h
 split at h
 .exact n6 _ _ _ h
 .exact h.elim
def fN:PTS:=(aG (aQ (pOp cP (pFz (pCB wm (af (pSl 0) al))) (pFz (fj (af (pFz (pCB gm (af (pSl 0) al))) al)))) (ap 2)) (aG (aQ (fj al) (ap 3)) (aG (aQ (pC (.int 0)) (ap 4)) (aG (nv (pB (pOp fLt (pFz (pCB gm (af (pSl 3) al))) (pSl 1))) (aG (j1 (dz (aZ 2)) (ap 5) (aG (aQ (aZ 5) (ap 6)) (aG (iQ (jF (pOr (pB (pOp fGt (pSl 4) (pFz (pC (.int 0))))) (pB (pOp fLt (pSl 5) (pFz (pOp Ep (pFz (pC (.int 10))) (pFz (pC (.int 18)))))))) (aG (iP (AS 3 (pOp eM (pFz (bL bN (af (pFz (aZ 5)) (af (pFz (pOp cP (pFz (pCB gm (af (pSl 3) al))) (pFz (pC (.int 1))))) al)))) (pFz (pC (.int 1000)))))) (aQ (pC (.int 0)) (ap 6))) cD)) (nv (BY (pB (pOp fGt (pSl 6) (pFz (pC (.int 0))))) (pB (pOp fLt (pFz (pCB gm (af (pSl 3) al))) (pSl 1)))) (aG (iP (AS 3 (pOp eM (pSl 6) (pFz (pC (.int 1000)))))) (aQ (pOp A4 (pSl 6) (pFz (pC (.int 1000)))) (ap 6))))))) (aQ (pOp cP (pSl 4) (pFz (pC (.int 1)))) (ap 4)))) (bY (sH (pFz (dt (pSl 3) dB (dk (aZ 1))))))))))
theorem qg (ns:List Int) (mo:Int) (Q:PV->Prop) (h:ck ([.scr ns,.int mo]) Q):dY fN lh ([.scr ns,.int mo]) Q:=by
 show fN _ [some (.dat (.scr ns)),some (.dat (.int mo)),none,none,none,none,none]
 obtain⟨⟨hn,h0,h1⟩,q⟩:=h
 obtain⟨n,rfl⟩:∃n:Nat,mo=(n:Int):=⟨mo.toNat,by omega⟩
 have ecs:ns.map D.int++[D.int (ns.length:Int)]=(ns++[(ns.length:Int)]).map D.int:=by rw [List.map_append];rfl
 have hnm:(ns.map D.int).length=ns.length:=List.length_map _
 walk_at "r"
 rw [ecs]
 generalize hcs:ns++[(ns.length:Int)]=cs
 have hcl:cs.length=ns.length+1:=by rw [<- hcs,List.length_append];rfl
 have hcm:(cs.map D.int).length=cs.length:=List.length_map _
 refine⟨fun m ρ=>∃(x:Option PV) (zs:List Int) (tn:Nat) (v5 v6:Option PV),(x=some (.own (cs.map .int))\/x=some (.dat (.lst (cs.map .int))))/\Dk zs/\zs.length<=n+65/\tn<=zs.length/\m=n - zs.length/\ρ=[some (.dat (.scr ns)),some (.dat (.int (n:Int))),x,some (.own (zs.map .int)),some (.dat (.int (tn:Int))),v5,v6],⟨n,_,[],0,_,_,.inl rfl,nofun,Nat.zero_le _,Nat.zero_le _,rfl,rfl⟩,?_⟩
 rintro m ρ ⟨x,zs,tn,v5,v6,hx,hz,hzl,htn,hm,rfl⟩
 have hzm:(zs.map D.int).length=zs.length:=List.length_map _
 have fin:∀zs:List Int,Dk zs->n<=zs.length->Q (.own ((zs.take n).map D.int).reverse):=fun zs hz hl=>by
  rw [<- List.map_reverse]
  refine q _ (fun x hx=>hz x (List.mem_of_mem_take (List.mem_reverse.mp hx))) ?_
  rw [List.length_reverse,List.length_take,Int.toNat_natCast];omega
 have p18:((10:Int)^(18:Nat))=1000000000000000000:=by decide
 rcases hx with rfl|rfl <;> (
  walk_at "r"
  refine dy (fun c0=>?_) (fun c0=>?_)
  .have c0:zs.length<n:=by omega
   walk_at "r"
   refine⟨fun k ρ=>∃(ys:List Int) (w5 w6:Option PV),Dk ys/\ys.length<=n+k/\zs.length<=ys.length/\(0<k->zs.length<ys.length)/\ρ=[some (.dat (.scr ns)),some (.dat (.int (n:Int))),some (.dat (.lst (cs.map .int))),some (.own (ys.map .int)),some (.dat (.int (tn:Int))),w5,w6],⟨zs,_,_,hz,by omega,Nat.le_refl _,fun z=>absurd z (Nat.lt_irrefl _),rfl⟩,?_,?_⟩
   .rintro k ρ d hk ed ⟨ys,w5,w6,hy,hyl,hzy,hpr,rfl⟩
    have hk:k<cs.length:=by rw [hcm] at hk;exact hk
    have ed:d=.int (cs.getD k 0):=by rw [ed];exact A5 (by rw [hcm];exact hk)
    subst ed
    generalize cs.getD k 0=c
    have hym:(ys.map D.int).length=ys.length:=List.length_map _
    walk_at "r"
    refine⟨fun ρ=>∃(us:List Int) (r:Int),Dk us/\0<=r/\((us.length=ys.length+1/\r=0)\/(us.length=ys.length/\0<r))/\ρ=[some (.dat (.scr ns)),some (.dat (.int (n:Int))),some (.dat (.lst (cs.map .int))),some (.own (us.map .int)),some (.dat (.int (tn:Int))),some (.dat (.int c)),some (.dat (.int r))],?_,?_⟩
    .have dm:∀(us:List Int) (z:Int),Dk us->Dk (us++[z % 1000]):=fun us z hu x hx=>by
      rcases List.mem_append.mp hx with w|w
      .exact hu x w
      .rw [List.mem_singleton.mp w];exact⟨Int.emod_nonneg _ (by decide),Int.emod_lt_of_pos _ (by decide)⟩
     have app:∀(us:List Int) (z:Int),us.map D.int++[D.int (z % 1000)]=(us++[z % 1000]).map D.int:=fun us z=>by rw [List.map_append];rfl
     walk_at "r"
     refine dy (fun c1=>?_) (fun c1=>?_)
     .walk_at "r"
      rintro z hz0
      walk_at "r"
      exact⟨ys++[z % 1000],0,dm ys z hy,by decide,.inl ⟨by rw [List.length_append];rfl,rfl⟩,by rw [<- app]⟩
     .walk_at "r"
      refine dy (fun c2=>?_) (fun c2=>?_)
      .walk_at "r"
       rintro z hz0
       walk_at "r"
       exact⟨ys++[z % 1000],0,dm ys z hy,by decide,.inl ⟨by rw [List.length_append];rfl,rfl⟩,by rw [<- app]⟩
      .have c3:¬ (c<1000000000000000000):=c2
       walk_at "r"
       exact⟨ys,c,hy,by omega,.inr ⟨rfl,by omega⟩,rfl⟩
    .rintro ρ ⟨us,r,hu,hr,hc,rfl⟩
     have dm:∀(us:List Int) (z:Int),Dk us->Dk (us++[z % 1000]):=fun us z hu x hx=>by
      rcases List.mem_append.mp hx with w|w
      .exact hu x w
      .rw [List.mem_singleton.mp w];exact⟨Int.emod_nonneg _ (by decide),Int.emod_lt_of_pos _ (by decide)⟩
     have app:∀(us:List Int) (z:Int),us.map D.int++[D.int (z % 1000)]=(us++[z % 1000]).map D.int:=fun us z=>by rw [List.map_append];rfl
     walk_at "r"
     refine⟨fun m ρ=>∃(vs:List Int) (r:Int),Dk vs/\0<=r/\us.length<=vs.length/\(vs.length<=n\/vs.length=us.length)/\(vs.length=us.length->us.length=ys.length->0<r)/\m=n - vs.length/\ρ=[some (.dat (.scr ns)),some (.dat (.int (n:Int))),some (.dat (.lst (cs.map .int))),some (.own (vs.map .int)),some (.dat (.int (tn:Int))),some (.dat (.int c)),some (.dat (.int r))],⟨_,us,r,hu,hr,Nat.le_refl _,.inr rfl,fun _ e=>by omega,rfl,rfl⟩,?_⟩
     rintro m ρ ⟨vs,r,hv,hr0,huv,hvn,hrp,hm2,rfl⟩
     have hvm:(vs.map D.int).length=vs.length:=List.length_map _
     have done:¬ (0<r/\vs.length<n)->∃(ys:List Int) (w5 w6:Option PV),Dk ys/\ys.length<=n+(k+1)/\zs.length<=ys.length/\(0<k+1->zs.length<ys.length)/\[some (.dat (.scr ns)),some (.dat (.int (n:Int))),some (.dat (.lst (cs.map .int))),some (.own (vs.map .int)),some (.dat (.int (tn:Int))),some (.dat (.int c)),some (.dat (.int r))]=[some (PV.dat (.scr ns)),some (.dat (.int (n:Int))),some (.dat (.lst (cs.map .int))),some (.own (ys.map .int)),some (.dat (.int (tn:Int))),w5,w6]:=fun hd=>by
      refine⟨vs,_,_,hv,by omega,by omega,fun _=>?_,rfl⟩
      rcases hc with ⟨e1,e2⟩|⟨e1,e2⟩
      .omega
      .by_cases g:vs.length=us.length
       .have:=hrp g e1
        by_cases k0:0<k
        .have:=hpr k0;omega
        .omega
       .omega
     walk_at "r"
     refine dy (fun c3=>?_) (fun c3=>?_)
     .walk_at "r"
      refine dy (fun c4=>?_) (fun c4=>?_)
      .walk_at "r"
       refine⟨_,?_,vs++[r % 1000],r / 1000,dm vs r hv,Int.ediv_nonneg hr0 (by decide),?_,?_,?_,rfl,by rw [<- app]⟩
       .rw [List.length_append];show n - (vs.length+1)<m;omega
       .rw [List.length_append];omega
       .rw [List.length_append];show vs.length+1<=n\/_;omega
       .rw [List.length_append];intro e;exfalso;have e:vs.length+1=us.length:=e;omega
      .exact done (by omega)
     .exact done (by omega)
   .rintro ρ ⟨ys,w5,w6,hy,hyl,hzy,hpr,rfl⟩
    rw [hcm] at hyl hpr
    walk_at "r"
    exact⟨_,by omega,_,ys,tn+1,_,_,.inr rfl,hy,by omega,by have:=hpr (by omega);omega,rfl,by rw [show ((tn:Int)+1)=((tn+1:Nat):Int) by omega]⟩
  .have c0:n<=zs.length:=by omega
   walk_at "r"
   rw [iq,<- List.map_take]
   exact fin zs hz c0)
theorem rD:∀ds Q,ck ds Q->dY fN lh ds Q:=fun ds Q h=>by
 unfold ck at h
 split at h
 .exact qg _ _ _ h
 .exact h.elim
def fO:PTS:=(bY (E9 0))
theorem qh (ds:List D) (Q:PV->PV->Prop) (h:aq (.own ds) ([]) Q):mI fO li (.own ds) ([]) Q:=by
 show fO _ [some (.own ds)]
 obtain⟨zs,rfl,⟨hz,h0,h1⟩,q⟩:=h
 obtain⟨ys,z,rfl⟩:∃ys z,zs=ys++[z]:=⟨zs.dropLast,zs.getLast (List.ne_nil_of_length_pos h0),(List.dropLast_concat_getLast _).symm⟩
 have hm:((ys++[z]).map D.int)=ys.map D.int++[D.int z]:=by rw [List.map_append];rfl
 have hl:(ys.map D.int++[D.int z]).length - 1=(ys.map D.int).length:=by rw [List.length_append];rfl
 rw [hm]
 walk_at "r"
 refine⟨.int z,by rw [hl,List.getElem?_append_right (Nat.le_refl _),Nat.sub_self];rfl,?_⟩
 walk_at "r"
 rw [List.dropLast_concat]
 have hzz:=hz z (List.mem_append_right _ (List.mem_singleton.mpr rfl))
 exact q z ys hzz.1 hzz.2 (fun x hx=>hz x (List.mem_append_left _ hx)) (by rw [List.length_append];rfl)
theorem rE:∀p ds Q,p.isOwn=true->aq p ds Q->mI fO li p ds Q:=fun p ds Q _ h=>by
 unfold aq at h
 split at h
 .exact qh _ _ h
 .exact h.elim
def eR:PTS:=(aG (aQ (pC (.str [])) (ap 3)) (aG (j1 (qQ (af (pFz (aZ 2)) al)) (ap 4) (aQ (pOp cP (pSl 3) (pFz (pOp fIx (pSl 1) (pFz (pOp eM (pFz (bn aq 0 al)) (pFz (pCB gm (af (pSl 1) al)))))))) (ap 3))) (bY (aZ 3))))
theorem n9 (ds es:List D) (n:Int) (Q:PV->PV->Prop) (h:bO (.own ds) ([.lst es,.int n]) Q):mI eR jK (.own ds) ([.lst es,.int n]) Q:=by
 show eR _ [some (.own ds),some (.dat (.lst es)),some (.dat (.int n)),none,none]
 obtain⟨zs,rfl,ls,rfl,⟨hl0,hl1,hL⟩,⟨hz,h1⟩,⟨hn0,hn1⟩,q⟩:=h
 have hlm:(ls.map fun c=>D.str [c]).length=ls.length:=List.length_map _
 walk_at "r"
 refine⟨fun k ρ=>∃(w:List Nat) (ys:List Int) (v4:Option PV),w.length=k/\Lts w/\(∀c∈w,c∈ls)/\Dk ys/\ys.length+k=zs.length/\ρ=[some (.own (ys.map .int)),some (.dat (.lst (ls.map fun c=>.str [c]))),some (.dat (.int n)),some (.dat (.str w)),v4],⟨[],zs,_,rfl,Lts.nil,(fun c hc=>nomatch hc),hz,rfl,rfl⟩,?_,?_⟩
 .rintro k ρ _ hk rfl ⟨w,ys,v4,hw,hwL,hwc,hy,hyl,rfl⟩
  have hk2:(k:Int)<n:=by omega
  have g1:Dk ys/\0<ys.length/\ys.length<=100000:=⟨hy,by omega,by omega⟩
  walk_at "r"
  rintro z y2 hz0 hz1 hd2 hl2
  obtain⟨j,hj⟩:∃j:Nat,z % (ls.length:Int)=(j:Int):=⟨(z % (ls.length:Int)).toNat,by have:=Int.emod_nonneg z (show (ls.length:Int)≠0 by omega);omega⟩
  have hj2:j<ls.length:=by have:=Int.emod_lt_of_pos z (show 0<(ls.length:Int) by omega);omega
  walk_at "r"
  rw [hlm,hj]
  refine⟨_,iJ (j:=j) (by rw [List.getElem?_map,List.getElem?_eq_getElem hj2];rfl) rfl,?_⟩
  walk_at "r"
  refine⟨w++[ls[j]],y2,_,by rw [List.length_append,hw];rfl,hwL.app (Lts.one (hL _ (List.getElem_mem hj2))),fun c hc=>?_,hd2,by omega,rfl⟩
  rcases List.mem_append.mp hc with x|x
  .exact hwc c x
  .rw [List.mem_singleton.mp x];exact List.getElem_mem hj2
 .rintro ρ ⟨w,ys,v4,hw,hwL,hwc,hy,hyl,rfl⟩
  walk_at "r"
  exact q w ys hw hwL hwc hy hyl
theorem qi:∀p ds Q,p.isOwn=true->bO p ds Q->mI eR jK p ds Q:=fun p ds Q _ h=>by
 unfold bO at h
 split at h
 .exact n9 _ _ _ _ h
 .exact h.elim
def d4:PTS:=(aG (aQ (pOp eM (pFz (bn aq 0 al)) (pFz (pC (.int 26)))) (ap 2)) (aG (aQ (pOp fIx (pFz (fj (af (pFz (pC (.int 2))) (af (pFz (pC (.int 2))) (af (pFz (pC (.int 3))) (af (pFz (pC (.int 26))) al)))))) (pFz (pOp eM (pFz (bn aq 0 al)) (pFz (pC (.int 4)))))) (ap 3)) (aG (aQ (cZ [none,some 2] (qQ (af (pFz (aZ 3)) al)) (ap 0) iH (pOp fIx (pFz (pC (.str [97,98,99,100,101,102,103,104,105,106,107,108,109,110,111,112,113,114,115,116,117,118,119,120,121,122]))) (pFz (pOp eM (pFz (pOp cP (pSl 1) (pFz (pOp mF (pFz (pC (.int 7))) (pSl 0))))) (pFz (pC (.int 26))))))) (ap 4)) (aG (aQ (pOp eM (pFz (bn aq 0 al)) (pFz (pC (.int 4)))) (ap 5)) (aG (aQ (pOp cP (pFz (pC (.int 1))) (pFz (pOp eM (pFz (bn aq 0 al)) (pFz (pC (.int 6)))))) (ap 6)) (aG (aQ (pOp mF (pFz (bn bO 0 (af (pFz (aZ 4)) (af (pFz (pOp cP (pFz (pC (.int 2))) (pFz (pOp eM (pFz (bn aq 0 al)) (pFz (pC (.int 9))))))) al)))) (pFz (pC (.int 9)))) (ap 7)) (aG (aQ (fj al) (ap 8)) (aG (j1 (qQ (af (pFz (pOp eM (pFz (bn aq 0 al)) (pFz (pOp cP (pSl 1) (pFz (pC (.int 1))))))) al)) (ap 9) (aG (aQ (bn aq 0 al) (ap 10)) (aG (aQ (dt (pSl 7) (dk (pOp eM (pSl 10) (pFz (pC (.int 9))))) (dk (pOp cP (pFz (pOp cP (pFz (pOp eM (pSl 10) (pFz (pC (.int 9))))) (pSl 6))) (pFz (pOp A4 (pFz (pOp eM (pFz (pOp A4 (pSl 10) (pFz (pC (.int 9))))) (pFz (pC (.int 5))))) (pFz (pC (.int 3)))))))) (ap 11)) (aG (iQ (jF (pB (pOp nI (pSl 5) (pFz (pC (.int 2))))) (aQ (bn bO 0 (af (pFz (aZ 4)) (af (pFz (pOp cP (pFz (pC (.int 1))) (pFz (pOp eM (pSl 10) (pFz (pC (.int 6))))))) al))) (ap 11)) cD)) (aG (iQ (jF (pB (pOp nI (pSl 5) (pFz (pC (.int 3))))) (aQ (pOp cP (pFz (pOp cP (pFz (pOp mF (pFz (pOp fIx (pSl 4) (pFz (pC (.int 0))))) (pFz (pOp eM (pSl 10) (pFz (pC (.int 4))))))) (pFz (pOp fIx (pSl 4) (pFz (pC (.int 1))))))) (pFz (pOp mF (pFz (pOp fIx (pSl 4) (pFz (pC (.int 0))))) (pFz (pOp eM (pFz (pOp A4 (pSl 10) (pFz (pC (.int 4))))) (pFz (pC (.int 4)))))))) (ap 11)) cD)) (iP (AS 8 (aZ 11)))))))) (bY (aZ 8))))))))))
theorem ma (ds:List D) (mo:Int) (Q:PV->PV->Prop) (h:bI (.own ds) ([.int mo]) Q):mI d4 iW (.own ds) ([.int mo]) Q:=by
 show d4 _ [some (.own ds),some (.dat (.int mo)),none,none,none,none,none,none,none,none,none,none]
 obtain⟨zs,rfl,⟨hz,h1⟩,⟨hm0,hm1,hm2⟩,q⟩:=h
 have g0:Dk zs/\0<zs.length/\zs.length<=100000:=⟨hz,by omega,by omega⟩
 walk_at "r"
 rintro a y1 ha0 ha1 hd1 hl1
 have g1:Dk y1/\0<y1.length/\y1.length<=100000:=⟨hd1,by omega,by omega⟩
 obtain⟨f,hf⟩:∃f:Nat,a % 26=(f:Int):=⟨(a % 26).toNat,by omega⟩
 have hf26:f<26:=by omega
 walk_at "r"
 rintro b y2 hb0 hb1 hd2 hl2
 rw [hf]
 have hm:∃n:Nat,atI [D.int 2,D.int 2,D.int 3,D.int 26] (b % 4)=some (.int (n:Int))/\(n=2\/n=3\/n=26):=by
  rcases (show b % 4=0\/b % 4=1\/b % 4=2\/b % 4=3 by omega) with e|e|e|e <;> rw [e]
  .exact⟨2,rfl,.inl rfl⟩
  .exact⟨2,rfl,.inl rfl⟩
  .exact⟨3,rfl,.inr (.inl rfl)⟩
  .exact⟨26,rfl,.inr (.inr rfl)⟩
 obtain⟨n,en,hn⟩:=hm
 have hn26:n<=26:=by omega
 walk_at "r"
 refine⟨_,en,?_⟩
 walk_at "r"
 refine cmR (fun k=>.str [97+(f+7*k) % 26]) (fun k hk v K1 k1=>?_) (fun v=>?_)
 .have hk:k<n:=by rw [Int.toNat_natCast] at hk;exact hk
  have hk26:k<26:=by omega
  walk_at "r"
  rw [show ((f:Int)+7*(k:Int)) % 26=(((f+7*k) % 26:Nat):Int) by omega]
  exact⟨_,xh (Nat.mod_lt _ (by decide)),k1 _⟩
 rw [Int.toNat_natCast,show (List.range n).map (fun k=>D.str [97+(f+7*k) % 26])=(uB n f).map fun c=>.str [c] by unfold uB;rw [List.map_map];rfl]
 have hll:(uB n f).length=n:=by unfold uB;rw [List.length_map,List.length_range]
 have hL:=xg n f
 generalize uB n f=ls at hll hL
 have gl:0<ls.length/\ls.length<=26/\Lts ls:=⟨by omega,by omega,hL⟩
 have hlm:(ls.map fun c=>D.str [c]).length=ls.length:=List.length_map _
 have g2:Dk y2/\0<y2.length/\y2.length<=100000:=⟨hd2,by omega,by omega⟩
 walk_at "r"
 rintro c y3 hc0 hc1 hd3 hl3
 have g3:Dk y3/\0<y3.length/\y3.length<=100000:=⟨hd3,by omega,by omega⟩
 walk_at "r"
 rintro e y4 he0 he1 hd4 hl4
 have g4:Dk y4/\0<y4.length/\y4.length<=100000:=⟨hd4,by omega,by omega⟩
 obtain⟨lo,hlo,hlo6⟩:∃lo:Nat,1+e % 6=(lo:Int)/\1<=lo/\lo<=6:=⟨(1+e % 6).toNat,by omega,by omega,by omega⟩
 walk_at "r"
 rintro u y5 hu0 hu1 hd5 hl5
 rw [hlo]
 generalize c % 4=so
 have g5:Dk y5/\y5.length<=100000:=⟨hd5,by omega⟩
 have g6:0<=2+u % 9/\2+u % 9<=(y5.length:Int):=⟨by omega,by omega⟩
 have u9:0<=u % 9/\u % 9<9:=by omega
 walk_at "r"
 rintro b0 y6 hb0l hb0L _ hd6 hl6
 have w2:(-1000000:Int)<=9/\(9:Int)<=1000000/\Int.toNat 9*b0.length<=1000000:=⟨by decide,by decide,by show 9*_<=_;omega⟩
 walk_at "r"
 have hbl:(kA b0 9).length=9*b0.length:=fk ..
 have hbL:Lts (kA b0 9):=hb0L.rep _
 generalize kA b0 9=bs at hbl hbL
 have g7:Dk y6/\0<y6.length/\y6.length<=100000:=⟨hd6,by omega,by omega⟩
 walk_at "r"
 rintro r y7 hr0 hr1 hd7 hl7
 obtain⟨m,hm,hmm⟩:∃m:Nat,r % (mo+1)=(m:Int)/\(m:Int)<=mo:=⟨(r % (mo+1)).toNat,by have:=Int.emod_nonneg r (show mo+1≠0 by omega);omega,by have:=Int.emod_lt_of_pos r (show 0<mo+1 by omega);have:=Int.emod_nonneg r (show mo+1≠0 by omega);omega⟩
 walk_at "r"
 rw [hm]
 rw [Int.toNat_natCast]
 refine⟨fun k ρ=>∃(ps:List (List Nat)) (ys:List Int) (v9 v10 v11:Option PV),ps.length=k/\Pcs 60 ps/\Dk ys/\y7.length<=ys.length+7*k/\ys.length<=y7.length/\ρ=[some (.own (ys.map .int)),some (.dat (.int mo)),some (.dat (.int (f:Int))),some (.dat (.int (n:Int))),some (.dat (.lst (ls.map fun c=>.str [c]))),some (.dat (.int so)),some (.dat (.int (lo:Int))),some (.dat (.str bs)),some (.own (ps.map .str)),v9,v10,v11],⟨[],y7,_,_,_,rfl,(fun w hw=>nomatch hw),hd7,Nat.le_refl _,Nat.le_refl _,rfl⟩,?_,?_⟩
 .rintro k ρ _ hk rfl ⟨ps,ys,v9,v10,v11,hpl,hps,hdy,hyl,hyl',rfl⟩
  have hpm:(ps.map D.str).length=ps.length:=List.length_map _
  have g8:Dk ys/\0<ys.length/\ys.length<=100000:=⟨hdy,by omega,by omega⟩
  walk_at "r"
  rintro t y8 ht0 ht1 hd8 hl8
  obtain⟨p9,hp9,hp9'⟩:∃p9:Nat,t % 9=(p9:Int)/\p9<9:=⟨(t % 9).toNat,by omega,by omega⟩
  obtain⟨x1,hx1,hx1'⟩:∃x1:Nat,t / 9 % 5 / 3=(x1:Int)/\x1<=1:=⟨(t / 9 % 5 / 3).toNat,by omega,by omega⟩
  walk_at "r"
  rw [hp9,hx1]
  have cb:dR bs (some (p9:Int)) (some ((p9:Int)+(lo:Int)+(x1:Int)))=(bs.drop p9).take (lo+x1):=by
   rw [show (p9:Int)+(lo:Int)+(x1:Int)=((p9+lo+x1:Nat):Int) by omega,vw,show p9+lo+x1 - p9=lo+x1 by omega]
  rw [cb]
  have w0:Pc 60 ((bs.drop p9).take (lo+x1)):=⟨by rw [List.length_take,List.length_drop];omega,by rw [List.length_take];omega,(hbL.drop _).take _⟩
  generalize (bs.drop p9).take (lo+x1)=w at w0
  refine⟨fun ρ=>∃(p:List Nat) (yy:List Int),Pc 60 p/\Dk yy/\y8.length<=yy.length+6/\yy.length<=y8.length/\ρ=[some (.own (yy.map .int)),some (.dat (.int mo)),some (.dat (.int (f:Int))),some (.dat (.int (n:Int))),some (.dat (.lst (ls.map fun c=>.str [c]))),some (.dat (.int so)),some (.dat (.int (lo:Int))),some (.dat (.str bs)),some (.own (ps.map .str)),some (.dat (.int (k:Int))),some (.dat (.int t)),some (.dat (.str p))],?_,?_⟩
  .walk_at "r"
   refine dy (fun c=>?_) (fun c=>?_)
   .have g9:Dk y8/\y8.length<=100000:=⟨hd8,by omega⟩
    have g10:0<=1+t % 6/\1+t % 6<=(y8.length:Int):=⟨by omega,by omega⟩
    walk_at "r"
    rintro w' y9 hw hwL _ hd9 hl9
    walk_at "r"
    exact⟨w',y9,⟨by omega,by omega,hwL⟩,hd9,by omega,by omega,rfl⟩
   .exact⟨w,y8,w0,hd8,by omega,by omega,rfl⟩
  rintro ρ ⟨p,y9,pc,hd9,hl9,hl9',rfl⟩
  walk_at "r"
  refine⟨fun ρ=>∃(p:List Nat),Pc 60 p/\ρ=[some (.own (y9.map .int)),some (.dat (.int mo)),some (.dat (.int (f:Int))),some (.dat (.int (n:Int))),some (.dat (.lst (ls.map fun c=>.str [c]))),some (.dat (.int so)),some (.dat (.int (lo:Int))),some (.dat (.str bs)),some (.own (ps.map .str)),some (.dat (.int (k:Int))),some (.dat (.int t)),some (.dat (.str p))],?_,?_⟩
  .walk_at "r"
   refine dy (fun c=>?_) (fun c=>?_)
   .have s0:=tD (ls:=ls) (j:=0) (by omega)
    have s1:=tD (ls:=ls) (j:=1) (by omega)
    have l0:=zN hL (j:=0) (by omega)
    have l1:=zN hL (j:=1) (by omega)
    generalize ls.getD 0 0=c0 at s0 l0
    generalize ls.getD 1 0=c1 at s1 l1
    have w3:(-1000000:Int)<=t % 4/\t % 4<=1000000/\(t % 4).toNat*[c0].length<=1000000:=⟨by omega,by omega,by show _*1<=_;omega⟩
    have w4:(-1000000:Int)<=t / 4 % 4/\t / 4 % 4<=1000000/\(t / 4 % 4).toNat*[c0].length<=1000000:=⟨by omega,by omega,by show _*1<=_;omega⟩
    have r3:(kA [c0] (t % 4)).length=(t % 4).toNat*1:=fk ..
    have r4:(kA [c0] (t / 4 % 4)).length=(t / 4 % 4).toNat*1:=fk ..
    walk_at "r"
    refine⟨_,s0,?_⟩
    walk_at "r"
    refine⟨_,s1,?_⟩
    walk_at "r"
    refine⟨_,s0,?_⟩
    walk_at "r"
    exact⟨_,⟨by rw [List.length_append,List.length_append];show 0<_+1+_;omega,by rw [List.length_append,List.length_append];show _+1+_<=60;omega,((l0.rep _).app l1).app (l0.rep _)⟩,rfl⟩
   .exact⟨p,pc,rfl⟩
  clear pc p
  rintro ρ ⟨p,pc,rfl⟩
  walk_at "r"
  refine⟨ps++[p],y9,_,_,_,by rw [List.length_append,hpl];rfl,fun w hw=>?_,hd9,by omega,by omega,by rw [List.map_append];rfl⟩
  rcases List.mem_append.mp hw with h|h
  .exact hps w h
  .rw [List.mem_singleton.mp h];exact pc
 .rintro ρ ⟨ps,ys,v9,v10,v11,hpl,hps,hdy,hyl,hyl',rfl⟩
  walk_at "r"
  exact q ps ys (by omega) hps hdy (by omega) (by omega)
theorem oa:∀p ds Q,p.isOwn=true->bI p ds Q->mI d4 iW p ds Q:=fun p ds Q _ h=>by
 unfold bI at h
 split at h
 .exact ma _ _ _ h
 .exact h.elim
def eS:PTS:=(aG (aQ (fj al) (ap 1)) (aG (j1 (wg (af (pFz (aZ 0)) al)) (yB 2 (mG (ap 2) (mG (ap 3) yf))) (aG (aQ (cZ [none,some 3] (dz (aZ 0)) (ap 0) (BY (pB (pOp fGt (pFz (pCB gm (af (pSl 0) al))) (pFz (pCB gm (af (pSl 1) al))))) (pB (pOp (Bh false) (pSl 1) (pSl 0)))) (aZ 0)) (ap 4)) (jF (BY (pB (pOp nI (pSl 4) (pFz (fj al)))) (pB (pOp (Bh true) (pSl 3) (pFz (dt (pSl 0) dB (dk (aZ 2))))))) (iP (AS 1 (aZ 3))) cD))) (bY (aZ 1))))
theorem og (ds:List D) (Q:PV->Prop) (h:bP ([.lst ds]) Q):dY eS jL ([.lst ds]) Q:=by
 show eS _ [some (.dat (.lst ds)),none,none,none,none]
 obtain⟨ps,rfl,⟨hn,hw⟩,q⟩:=h
 have hlm:(ps.map D.str).length=ps.length:=List.length_map _
 walk_at "r"
 refine⟨fun k ρ=>∃v2 v3 v4:Option PV,ρ=[some (.dat (.lst (ps.map .str))),some (.own ((((List.range k).filter (du ps)).map (pw ps)).map .str)),v2,v3,v4],⟨_,_,_,rfl⟩,?_,?_⟩
 .rintro k ρ d hk ed ⟨v2,v3,v4,rfl⟩
  have hk:k<ps.length:=by rw [hlm] at hk;exact hk
  subst ed
  rw [show itD (ps.map D.str) k=.str (pw ps k) from fV (by rw [List.getElem?_map,hU hk];rfl)]
  have hpm:=hV hk
  obtain⟨hpl,hpL⟩:=hw _ hpm
  have hml:((((List.range k).filter (du ps)).map (pw ps)).map D.str).length<=40:=by
   rw [List.length_map,List.length_map]
   refine Nat.le_trans (List.length_filter_le ..) ?_
   rw [List.length_range];omega
  walk_at "r"
  refine cf1 (fun o=>decide ((pw ps k).length<o.length) && ga (pw ps k) o) (fun o=>.str o) (fun o ho v K1 K2 k1 k2=>?_) (fun v=>?_)
  .walk_at "r"
   refine dy (fun c=>?_) (fun c=>?_)
   .walk_at "r"
    cases hs:ga (pw ps k) o with
   |true=>exact k1 _ (by rw [decide_eq_true (by omega:(pw ps k).length<o.length)];exact hs)
   |false=>exact k2 _ (by rw [hs,Bool.and_false])
   .exact k2 _ (by rw [decide_eq_false (by omega:¬ (pw ps k).length<o.length),Bool.false_and])
  .have c1:dR (ps.map D.str) none (some (k:Int))=(ps.take k).map D.str:=by rw [iq,List.map_take]
   have hfl:(dR (ps.map D.str) none (some (k:Int))).all D.fl=true:=by rw [c1];exact wI _
   have hin:inD (.str (pw ps k)) (dR (ps.map D.str) none (some (k:Int)))=decide (pw ps k∈ps.take k):=by rw [c1];exact nM _ _
   have eF:=lj (ws:=ps.filter fun o=>decide ((pw ps k).length<o.length) && ga (pw ps k) o) fun w h=>(hw w (List.mem_filter.mp h).1).2
   have eD:=jM (ps.filter fun o=>decide ((pw ps k).length<o.length) && ga (pw ps k) o)
   have hkb:=BF (ps:=ps) (k:=k)
   have hrs:((List.range (k+1)).filter (du ps)).map (pw ps)=((List.range k).filter (du ps)).map (pw ps)++(if du ps k=true then [pw ps k] else []):=by
    rw [List.range_succ,List.filter_append,List.map_append]
    congr 1
    rw [List.filter_cons]
    split <;> rfl
   rw [hrs]
   generalize ((List.range k).filter (du ps)).map (pw ps)=ks at hml ⊢
   have hk1:(ks.map D.str).length<=40:=hml
   walk_at "r"
   rw [eD]
   refine dy (fun c=>?_) (fun c=>?_)
   .walk_at "r"
    rw [hin]
    refine jd (yb (fun c2=>?_) (fun c2=>?_))
    .walk_at "r"
     have e:du ps k=false:=by rw [hkb,c2,Bool.not_true,Bool.and_false]
     exact⟨_,_,_,by rw [e,if_neg (by decide),List.append_nil]⟩
    .walk_at "r"
     have e:du ps k=true:=by rw [hkb,c2,decide_eq_true c];rfl
     exact⟨_,_,_,by rw [e,if_pos rfl,List.map_append];rfl⟩
   .walk_at "r"
    have e:du ps k=false:=by rw [hkb,decide_eq_false c,Bool.false_and]
    exact⟨_,_,_,by rw [e,if_neg (by decide),List.append_nil]⟩
 .rintro ρ ⟨v2,v3,v4,rfl⟩
  rw [hlm]
  walk_at "r"
  exact q
theorem qj:∀ds Q,bP ds Q->dY eS jL ds Q:=fun ds Q h=>by
 unfold bP at h
 split at h
 .exact og _ _ h
 .exact h.elim
def gR:PTS:=(aG (j1 (E6 (af (pFz (pOp yn (pFz (pCB yg (af (pFz (pCB gm (af (pSl 0) al))) (af (pFz (pCB gm (af (pSl 1) al))) al)))) (pFz (pC (.int 1))))) (af (pFz (pC (.int 0))) (af (pFz (pUn ul (pFz (pC (.int 1))))) al)))) (ap 2) (jF (pB (pOp nI (pFz (dt (pSl 0) (dk (pOp yn (pFz (pCB gm (af (pSl 0) al))) (pSl 2))) dB)) (pFz (dt (pSl 1) dB (dk (aZ 2)))))) (bY (aZ 2)) cD)) (bY (pC (.int 0))))
theorem rF (a b:List Nat) (Q:PV->Prop) (h:bw ([.str a,.str b]) Q):dY gR mT ([.str a,.str b]) Q:=by
 show gR _ [some (.dat (.str a)),some (.dat (.str b)),none]
 obtain⟨a1,⟨b0,b1⟩,q⟩:=h
 have hm:(if (b.length:Int)<(a.length:Int) then (b.length:Int) else (a.length:Int))=((min a.length b.length:Nat):Int):=by split <;> omega
 walk_at "r"
 rw [hm]
 refine⟨fun i ρ=>(∃v2:Option PV,ρ=[some (.dat (.str a)),some (.dat (.str b)),v2])/\∀j,min a.length b.length - i<=j->j<min a.length b.length->¬ b.take j <:+ a,⟨⟨_,rfl⟩,fun j h1 h2=>by omega⟩,?_,?_⟩
 .rintro i ρ d hi ed ⟨⟨v2,rfl⟩,ih⟩
  obtain⟨k,hk,hk2⟩:∃k:Nat,(((min a.length b.length:Nat):Int) - 1) - (i:Int)=(k:Int)/\k=min a.length b.length - 1 - i:=⟨min a.length b.length - 1 - i,by omega,rfl⟩
  have hk0:0<k:=by omega
  rw [hk] at ed
  subst ed
  have cd:dR a (some ((a.length:Int) - (k:Int))) none=a.drop (a.length - k):=by rw [show (a.length:Int) - (k:Int)=((a.length - k:Nat):Int) by omega,gi]
  have ct:=iq b k
  walk_at "r"
  rw [cd,ct]
  refine dy (fun c=>?_) (fun c=>?_)
  .walk_at "r"
   rw [show gA a b=k from nL ⟨by omega,by rw [<- c];exact List.drop_suffix ..,fun j h1 h2=>by
    rcases Nat.lt_or_ge k j with h|h
    .exact absurd h2 (ih j (by omega) h1)
    .exact h⟩] at q
   exact q
  .refine⟨⟨_,rfl⟩,fun j h1 h2=>?_⟩
   by_cases hj:j=k
   .subst hj
    intro z
    refine c ?_
    obtain⟨t,ht⟩:=z
    have hl:=congrArg List.length ht
    rw [List.length_append,List.length_take] at hl
    rw [<- ht,show (t++b.take j).length - j=t.length by rw [List.length_append,List.length_take];omega,List.drop_left]
   .exact ih j (by omega) h2
 .rintro ρ ⟨⟨v2,rfl⟩,ih⟩
  walk_at "r"
  by_cases a0:0<a.length
  .rw [show gA a b=0 from nL ⟨by omega,by rw [List.take_zero];exact List.nil_suffix,fun j h1 h2=>by
    rcases Nat.lt_or_ge 0 j with h|h
    .exact absurd h2 (ih j (by omega) h1)
    .exact h⟩] at q
   exact q
  .rw [show gA a b=0 by
    unfold gA
    rw [dif_neg]
    rintro⟨k,hk⟩
    have:=hk.1
    omega] at q
   exact q
theorem uI:∀ds Q,bw ds Q->dY gR mT ds Q:=fun ds Q h=>by
 unfold bw at h
 split at h
 .exact rF _ _ _ h
 .exact h.elim
def fP:PTS:=(bY (DG (cZ [none,some 0] (dz (aZ 0)) (ap 0) iH (cZ [none,some 0] (dz (aZ 1)) (ap 0) iH (bL bw (af (pFz (aZ 1)) (af (pFz (aZ 0)) al)))))))
theorem qk (ds:List D) (Q:PV->Prop) (h:cm ([.lst ds]) Q):dY fP ll ([.lst ds]) Q:=by
 show fP _ [some (.dat (.lst ds))]
 obtain⟨ws,rfl,hwo,q⟩:=h
 have hwm:(ws.map D.str).length=ws.length:=List.length_map _
 have hn40:=hwo.1
 walk_at "r"
 
 refine cm1 (e:=D.str) (xs:=ws) (fun w=>Fo ws w) (fun w hw v K1 k1=>?_) (fun v=>?_)
 .have w1:=hwo.2 w hw
  walk_at "r"
  refine cm1 (e:=D.str) (xs:=ws) (fun u=>.int (gA w u:Int)) (fun u hu v K1 k1=>?_) (fun v=>?_)
  .have u1:=hwo.2 u hu
   have w2:w.length<=10000:=by omega
   walk_at "r"
   exact k1 _
  .exact k1 _
 .exact q
theorem rG:∀ds Q,cm ds Q->dY fP ll ds Q:=fun ds Q h=>by
 unfold cm at h
 split at h
 .exact qk _ _ h
 .exact h.elim
def dL:PTS:=(aG (aQ (yj false (af (pFz (pCB gm (af (pSl 1) al))) al)) (ap 2)) (aG (aQ (dt (pFz (pC (.str [112,113]))) dB (dk (pOp eM (pFz (bn aq 0 al)) (pFz (pC (.int 3)))))) (ap 3)) (aG (aQ (pOp fGt (pFz (pOp eM (pFz (bn aq 0 al)) (pFz (pC (.int 3))))) (pFz (pC (.int 0)))) (ap 4)) (aG (aQ (pC (.str [])) (ap 5)) (aG (nv (pB (pOp yv (pSl 2) (pFz (fj al)))) (aG (aQ (pOp fIx (pSl 1) (pFz (sL 2 (pOp eM (pFz (bn aq 0 al)) (pFz (pCB gm (af (pSl 2) al))))))) (ap 6)) (aG (aQ (bL bw (af (pFz (aZ 5)) (af (pFz (aZ 6)) al))) (ap 7)) (aG (iQ (jF (yc (pB (aZ 4))) (aG (aQ (pOp fIx (pFz (fj (af (pFz (aZ 7)) (af (pFz (pC (.int 0))) al)))) (pFz (pOp eM (pFz (bn aq 0 al)) (pFz (pC (.int 2)))))) (ap 7)) (jF (pB (pOp nI (pSl 7) (pFz (pC (.int 0))))) (aQ (pOp cP (pSl 3) (pFz (dt (pFz (pC (.str [113,97]))) dB (dk (pOp eM (pFz (bn aq 0 al)) (pFz (pC (.int 3)))))))) (ap 3)) cD)) cD)) (aG (aQ (pOp cP (pSl 3) (pFz (dt (pSl 6) (dk (aZ 7)) dB))) (ap 3)) (aQ (aZ 6) (ap 5))))))) (aG (iQ (jF (yc (pB (aZ 4))) (aQ (pOp cP (pSl 3) (pFz (dt (pFz (pC (.str [112,113]))) dB (dk (pOp eM (pFz (bn aq 0 al)) (pFz (pC (.int 3)))))))) (ap 3)) cD)) (bY (aZ 3))))))))
theorem lD (ds es:List D) (Q:PV->PV->Prop) (h:bp (.own ds) ([.lst es]) Q):mI dL ig (.own ds) ([.lst es]) Q:=by
 show dL _ [some (.own ds),some (.dat (.lst es)),none,none,none,none,none,none]
 obtain⟨zs,rfl,ws,rfl,⟨hw,hz,h0,h1⟩,q⟩:=h
 have hw40:=hw.1
 have hlm:(ws.map D.str).length=ws.length:=List.length_map _
 have g0:Dk zs/\0<zs.length/\zs.length<=100000:=⟨hz,by omega,by omega⟩
 walk_at "r"
 rintro z1 y1 hz10 hz11 hd1 hl1
 have g1:Dk y1/\0<y1.length/\y1.length<=100000:=⟨hd1,by omega,by omega⟩
 have ca:=dE [112,113] none (some (z1 % 3))
 have la:[112,113].length=2:=rfl
 walk_at "r"
 rintro z2 y2 hz20 hz21 hd2 hl2
 rw [hlm,Int.toNat_natCast]
 generalize dR [112,113] none (some (z1 % 3))=t0 at ca
 walk_at "r"
 generalize hcl:decide (z2 % 3 > 0)=cl
 refine⟨fun k ρ=>∃(rs js t:List Nat) (ys:List Int) (v6 v7:Option PV),(js++rs).Perm (List.range ws.length)/\Dk ys/\y2.length<=ys.length+3*js.length/\ys.length<=y2.length/\k=rs.length/\glL ws js js.length<=t.length/\t.length<=2+64*js.length/\ρ=[some (.own (ys.map .int)),some (.dat (.lst (ws.map .str))),some (.own (rs.map nD)),some (.dat (.str t)),some (.dat (.bl cl)),some (.dat (.str (tF ws js))),v6,v7],⟨ws.length,List.range ws.length,[],t0,y2,_,_,List.Perm.refl _,hd2,Nat.le_refl _,Nat.le_refl _,by rw [List.length_range],by show (0:Int)<=_;omega,by show _<=2+0;omega,by rw [<- Bf];rfl⟩,?_⟩
 rintro k ρ ⟨rs,js,t,ys,v6,v7,hp,hy,hyl,hyl',rfl,hgl,htl,rfl⟩
 have hpl:=hp.length_eq
 rw [List.length_append,List.length_range] at hpl
 have e1:=xj rs
 have e2:=BG rs
 walk_at "r"
 rw [e2]
 refine pq (fun c=>?_) (fun c=>?_)
 .have hrl:0<rs.length:=List.length_pos_iff.mpr c
  have g2:Dk ys/\0<ys.length/\ys.length<=100000:=⟨hy,by omega,by omega⟩
  have hrm:(rs.map nD).length=rs.length:=List.length_map _
  walk_at "r"
  rintro z y3 hz0 hz1 hd3 hy3
  obtain⟨i,hi⟩:∃i:Nat,z % (rs.length:Int)=(i:Int):=⟨(z % (rs.length:Int)).toNat,by have:=Int.emod_nonneg z (show (rs.length:Int)≠0 by omega);omega⟩
  have hir:i<rs.length:=by have:=Int.emod_lt_of_pos z (show 0<(rs.length:Int) by omega);omega
  have hrw:rs[i]<ws.length:=List.mem_range.mp (hp.mem_iff.mp (List.mem_append_right _ (List.getElem_mem hir)))
  have hwk:=hw.at hrw
  have hpm:(js++[rs[i]]++rs.eraseIdx i).Perm (List.range ws.length):=by
   rw [List.append_assoc]
   exact ((List.perm_append_comm.trans (wN hir)).append_left js).trans hp
  have hgj:=D1 ws js rs[i]
  have hbj:=yV ws js rs[i]
  have hlap:(gA (tF ws js) (pw ws rs[i]):Int)=if js.length=0 then 0 else (gA (pw ws (js.getD (js.length - 1) 0)) (pw ws rs[i]):Int):=by
   unfold tF
   split
   .rw [xk];rfl
   .rfl
  have hbl:(tF ws js).length<=60:=by
   unfold tF
   split
   .exact Nat.zero_le _
   .rename_i h
    exact (hw.at (List.mem_range.mp (hp.mem_iff.mp (List.mem_append_left _ (lm (show js.length - 1<js.length by omega)))))).2
  have hle:gA (tF ws js) (pw ws rs[i])<=(pw ws rs[i]).length:=by
   by_cases h:js.length=0
   .have:tF ws js=[]:=by unfold tF;rw [if_pos h]
    rw [this,xk];exact Nat.zero_le _
   .have:0<(tF ws js).length:=by
     unfold tF
     rw [if_neg h]
     exact (hw.at (List.mem_range.mp (hp.mem_iff.mp (List.mem_append_left _ (lm (show js.length - 1<js.length by omega)))))).1
    exact Nat.le_of_lt (DZ this hwk.1)
  rw [<- hlap] at hgj
  generalize tF ws js=bf at hlap hbl hle hgj
  have g3:bf.length<=10000:=by omega
  have g4:0<(pw ws rs[i]).length/\(pw ws rs[i]).length<=10000:=⟨hwk.1,by omega⟩
  have aw:atI (ws.map D.str) ((rs[i]:Nat):Int)=some (.str (pw ws rs[i])):=gy hrw rfl
  walk_at "r"
  rw [hrm,hi]
  refine⟨i,nD rs[i],⟨Er hir,by omega⟩,by rw [List.getElem?_map,List.getElem?_eq_getElem hir];rfl,?_⟩
  walk_at "r"
  refine⟨_,aw,?_⟩
  walk_at "r"
  rw [pP]
  refine⟨fun ρ=>∃(o:Nat) (u:List Nat) (y5:List Int),(o:Int)<=(gA bf (pw ws rs[i]):Int)/\t.length<=u.length/\u.length<=t.length+2/\Dk y5/\y3.length<=y5.length+2/\y5.length<=y3.length/\ρ=[some (.own (y5.map .int)),some (.dat (.lst (ws.map .str))),some (.own ((rs.eraseIdx i).map nD)),some (.dat (.str u)),some (.dat (.bl cl)),some (.dat (.str bf)),some (.dat (.str (pw ws rs[i]))),some (.dat (.int (o:Int)))],?_,?_⟩
  .walk_at "r"
   cases cl with
  |true =>
    walk_at "r"
    exact⟨_,t,y3,Int.le_refl _,Nat.le_refl _,by omega,hd3,by omega,Nat.le_refl _,rfl⟩
  |false =>
    have g5:Dk y3/\0<y3.length/\y3.length<=100000:=⟨hd3,by omega,by omega⟩
    walk_at "r"
    rintro x y4 hx0 hx1 hd4 hy4
    obtain⟨o,ho,hol⟩:∃o:Nat,atI [D.int (gA bf (pw ws rs[i]):Int),D.int 0] (x % 2)=some (.int (o:Int))/\(o:Int)<=(gA bf (pw ws rs[i]):Int):=by
     rcases (show x % 2=0\/x % 2=1 by omega) with h|h <;> rw [h]
     .exact⟨_,rfl,Int.le_refl _⟩
     .exact⟨0,rfl,by omega⟩
    have g6:Dk y4/\0<y4.length/\y4.length<=100000:=⟨hd4,by omega,by omega⟩
    walk_at "r"
    refine⟨_,ho,?_⟩
    walk_at "r"
    refine dy (fun c2=>?_) (fun c2=>?_)
    .walk_at "r"
     rintro x2 y5 hx20 hx21 hd5 hy5
     have cq:=dE [113,97] none (some (x2 % 3))
     have lq:[113,97].length=2:=rfl
     walk_at "r"
     exact⟨_,_,y5,hol,by rw [List.length_append];omega,by rw [List.length_append];omega,hd5,by omega,by omega,rfl⟩
    .exact⟨_,t,y4,hol,Nat.le_refl _,by omega,hd4,by omega,by omega,rfl⟩
  .rintro ρ ⟨o,u,y5,ho,hu1,hu2,hd5,hy5,hy5',rfl⟩
   have co:dR (pw ws rs[i]) (some (o:Int)) none=(pw ws rs[i]).drop o:=gi _ _
   have cll:((pw ws rs[i]).drop o).length=(pw ws rs[i]).length - o:=List.length_drop
   walk_at "r"
   rw [co]
   refine⟨by omega,?_⟩
   walk_at "r"
   refine⟨rs.length - 1,by omega,rs.eraseIdx i,js++[rs[i]],u++(pw ws rs[i]).drop o,y5,_,_,hpm,hd5,by rw [List.length_append];show _<=_+3*(js.length+1);omega,by omega,by rw [List.length_eraseIdx,if_pos hir],?_,?_,by rw [hbj]⟩
   .rw [show (js++[rs[i]]).length=js.length+1 by rw [List.length_append];rfl,hgj,List.length_append,cll]
    omega
   .rw [List.length_append,List.length_append,cll]
    show _<=2+64*(js.length+1)
    omega
 .have c:rs=[]:=c
  subst c
  rw [List.append_nil] at hp
  have hjl:js.length=ws.length:=by rw [hp.length_eq,List.length_range]
  rw [hjl] at hgl
  cases cl with
 |true =>
   walk_at "r"
   rintro ρ rfl
   walk_at "r"
   exact q js t ys hp hgl (by omega) hy (by omega) (by omega)
 |false =>
   have g5:Dk ys/\0<ys.length/\ys.length<=100000:=⟨hy,by omega,by omega⟩
   walk_at "r"
   refine⟨fun ρ=>∃(u:List Nat) (y5:List Int),t.length<=u.length/\u.length<=t.length+2/\Dk y5/\ys.length<=y5.length+1/\y5.length<=ys.length/\ρ=[some (.own (y5.map .int)),some (.dat (.lst (ws.map .str))),some (.own (([]:List Nat).map nD)),some (.dat (.str u)),some (.dat (.bl false)),some (.dat (.str (tF ws js))),v6,v7],?_,?_⟩
   .walk_at "r"
    rintro x y4 hx0 hx1 hd4 hy4
    have cq:=dE [112,113] none (some (x % 3))
    have lq:[112,113].length=2:=rfl
    walk_at "r"
    exact⟨_,y4,by rw [List.length_append];omega,by rw [List.length_append];omega,hd4,by omega,by omega,rfl⟩
   .rintro ρ ⟨u,y5,hu1,hu2,hd5,hy5,hy5',rfl⟩
    walk_at "r"
    exact q js u y5 hp (by omega) (by omega) hd5 (by omega) (by omega)
theorem md:∀p ds Q,p.isOwn=true->bp p ds Q->mI dL ig p ds Q:=fun p ds Q _ h=>by
 unfold bp at h
 split at h
 .exact lD _ _ _ h
 .exact h.elim
def d7:PTS:=(aG (aQ (pOp yn (pSl 2) (pFz (pOp DC (pFz (pC (.int 1))) (pSl 3)))) (ap 4)) (aG (aQ (cZ [none,some 4] (qQ (af (pFz (pCB gm (af (pSl 0) al))) al)) (ap 0) (pB (pOp nI (pFz (pOp uu (pFz (pOp B2 (pSl 1) (pSl 0))) (pFz (pC (.int 1))))) (pFz (pC (.int 1))))) (aZ 0)) (ap 5)) (bY (pCB yw (af (pFz (pOp cP (pFz (fj (af (pFz (pC (.int 0))) al))) (pFz (cZ [none,some 3,some 1,some 4,some 0] (dz (aZ 5)) (ap 0) iH (pOp cP (pFz (pOp fIx (pFz (pOp fIx (pSl 2) (pSl 3))) (pSl 0))) (pFz (pOp fIx (pFz (pOp fIx (pSl 4) (pSl 0))) (pSl 1)))))))) al)))))
theorem me (ls td:List D) (m i:Int) (Q:PV->Prop) (h:a6 ([.lst ls,.lst td,.int m,.int i]) Q):dY d7 iX ([.lst ls,.lst td,.int m,.int i]) Q:=by
 show d7 _ [some (.dat (.lst ls)),some (.dat (.lst td)),some (.dat (.int m)),some (.dat (.int i)),none,none]
 obtain⟨ws,rfl,tb,rfl,k,rfl,j,rfl,⟨hn,hk,hj,hb,hr,hw⟩,q⟩:=h
 have h256:=fK hn
 have hkk:k<256:=by omega
 obtain⟨hle,hsub⟩:=ju ⟨k,hkk⟩ ⟨j,by omega⟩ hb
 have hle:2^j<=k:=hle
 have er:(k:Int) - 1*2^(j:Int).toNat=((k - 2^j:Nat):Int):=by
  rw [Int.toNat_natCast,Int.one_mul,Int.natCast_sub hle,Int.natCast_pow];rfl
 have hrk:k - 2^j<256:=Nat.lt_of_le_of_lt (Nat.sub_le _ _) hkk
 have hr2:k - 2^j<2^ws.length:=Nat.lt_of_le_of_lt (Nat.sub_le _ _) hk
 have hwr:=hw _ hr
 unfold nd at q
 have eo:dQ ws tb k j=(mem (k - 2^j)).map fun x=>cell tb (k - 2^j) x+lp ws x j:=rfl
 generalize hR:k - 2^j=r at er hrk hr2 hr hwr eo
 have hlm:(dZ ws).length=ws.length:=List.length_map _
 have hM:0<=(j:Int)/\(j:Int)<=1000000/\(1:Int).natAbs<2^64:=⟨by omega,by omega,by decide⟩
 have mem_eq:(List.range ws.length).filter r.testBit=mem r:=by
  unfold mem
  obtain⟨d,hd⟩:∃d,8=ws.length+d:=⟨8 - ws.length,by omega⟩
  have:∀d,(List.range (ws.length+d)).filter r.testBit=(List.range ws.length).filter r.testBit:=fun d=>by
   induction d with
  |zero=>rfl
  |succ d ih =>
    rw [<- Nat.add_assoc,List.range_succ,List.filter_append,ih,List.filter_cons,if_neg]
    .simp
    .intro z
     have:=tu hr2 z
     omega
  rw [hd,this d]
 walk_at "r"
 rw [er,hlm]
 walk_at "r"
 refine cfR (fun x=>r.testBit x) nD (fun x hx v K1 K2 k1 k2=>?_) (fun v=>?_)
 .have e:=pX r x
  show (0:Int)<=(x:Int)/\fU (decide (Builtin.bitAnd ((r:Int) / 2^(x:Int).toNat) 1=1)) _ _
  refine⟨by omega,?_⟩
  rw [e]
  cases h:r.testBit x with
 |true=>exact k1 _ h
 |false=>exact k2 _ h
 rw [Int.toNat_natCast,mem_eq]
 have hml:=xc r
 walk_at "r"
 refine cm1 (e:=nD) (xs:=mem r) (fun x=>.int (cell tb r x+lp ws x j)) (fun x hx v K1 k1=>?_) (fun v=>?_)
 .have hxn:x<ws.length:=tu hr2 ((mem_iff hrk).mp hx)
  walk_at "r"
  refine⟨_,rp hr,?_⟩
  walk_at "r"
  refine⟨_,lc (by omega),?_⟩
  walk_at "r"
  refine⟨_,yT hxn,?_⟩
  walk_at "r"
  refine⟨_,zK hj,?_⟩
  walk_at "r"
  exact k1 _
 rw [show (mem r).map (fun x=>D.int (cell tb r x+lp ws x j))=(dQ ws tb k j).map D.int by rw [eo,List.map_map];rfl]
 have hol:[D.int 0].length+((dQ ws tb k j).map D.int).length<=1000000:=by
  rw [eo,List.length_map,List.length_map]
  rw [List.length_map] at hml
  show 1+_<=_
  omega
 walk_at "r"
 refine⟨0::dQ ws tb k j,rfl,Nat.zero_lt_succ _,fun mx hm1 hm2=>?_⟩
 rw [<- jx hm1 hm2] at q
 exact q
theorem oh:∀ds Q,a6 ds Q->dY d7 iX ds Q:=fun ds Q h=>by
 unfold a6 at h
 split at h
 .exact me _ _ _ _ _ h
 .exact h.elim
def eT:PTS:=(aG (aQ (pOp eM (pFz (bn aq 0 al)) (pFz (pC (.int 26)))) (ap 1)) (aG (aQ (cZ [none,some 1] (qQ (af (pFz (pC (.int 3))) al)) (ap 0) iH (pOp fIx (pFz (pC (.str [97,98,99,100,101,102,103,104,105,106,107,108,109,110,111,112,113,114,115,116,117,118,119,120,121,122]))) (pFz (pOp eM (pFz (pOp cP (pSl 1) (pFz (pOp mF (pFz (pC (.int 5))) (pSl 0))))) (pFz (pC (.int 26))))))) (ap 2)) (aG (aQ (fj al) (ap 3)) (aG (j1 (dz (aZ 2)) (ap 4) (iP (Fm 3 (cZ [none,some 4] (dz (aZ 2)) (ap 0) iH (pOp cP (pSl 1) (pSl 0)))))) (aG (iP (sL 3 (pOp eM (pFz (bn aq 0 al)) (pFz (pC (.int 9)))))) (aG (aQ (pOp eM (pFz (bn aq 0 al)) (pFz (pC (.int 8)))) (ap 5)) (bY (DG (pOp cP (pFz (dt (pSl 3) (dk (aZ 5)) dB)) (pFz (dt (pSl 3) dB (dk (aZ 5)))))))))))))
theorem oi (ds:List D) (Q:PV->PV->Prop) (h:cf (.own ds) ([]) Q):mI eT jN (.own ds) ([]) Q:=by
 show eT _ [some (.own ds),none,none,none,none,none]
 obtain⟨zs,rfl,⟨hz,h3,hzu⟩,q⟩:=h
 have g0:Dk zs/\0<zs.length/\zs.length<=100000:=⟨hz,by omega,by omega⟩
 walk_at "r"
 rintro a y1 ha0 ha1 hd1 hl1
 obtain⟨f,hf⟩:∃f:Nat,a % 26=(f:Int):=⟨(a % 26).toNat,by omega⟩
 have hf26:f<26:=by omega
 walk_at "r"
 rw [hf]
 refine cmR (fun k=>.str [l5 f k]) (fun k hk v K1 k1=>?_) (fun v=>?_)
 .have hk:k<3:=hk
  walk_at "r"
  rw [show ((f:Int)+5*(k:Int)) % 26=(((f+5*k) % 26:Nat):Int) by omega]
  exact⟨_,xh (Nat.mod_lt _ (by decide)),k1 _⟩
 have e3:(List.range (Int.toNat 3)).map (fun k=>D.str [l5 f k])=(List.range 3).map fun k=>D.str [l5 f k]:=rfl
 rw [e3]
 have l3:((List.range 3).map fun k=>D.str [l5 f k]).length=3:=rfl
 walk_at "r"
 refine⟨fun k ρ=>∃v4:Option PV,ρ=[some (.own (y1.map .int)),some (.dat (.int (f:Int))),some (.dat (.lst ((List.range 3).map fun k=>.str [l5 f k]))),some (.own ((w9 f k).map .str)),v4,none],⟨_,rfl⟩,?_,?_⟩
 .rintro k ρ d hk ed ⟨v4,rfl⟩
  have hk:k<3:=hk
  have hwl:=xm f k
  subst ed
  rw [show itD ((List.range 3).map fun k=>D.str [l5 f k]) k=.str [l5 f k] from fV (by rw [List.getElem?_map,List.getElem?_range hk];rfl)]
  have hwm:((w9 f k).map D.str).length=(w9 f k).length:=List.length_map _
  walk_at "r"
  refine cm1 (e:=fun k=>D.str [l5 f k]) (xs:=List.range 3) (fun b=>.str [l5 f k,l5 f b]) (fun b hb v K1 k1=>?_) (fun v=>?_)
  .walk_at "r"
   exact k1 _
  have hml:((List.range 3).map fun b=>D.str [l5 f k,l5 f b]).length=3:=rfl
  walk_at "r"
  exact⟨_,by rw [xl,List.map_append,List.map_map];rfl⟩
 rintro ρ ⟨v4,rfl⟩
 rw [l3]
 have hwl:=xm f 3
 have hwm:((w9 f 3).map D.str).length=(w9 f 3).length:=List.length_map _
 have hnd:(w9 f 3).Nodup:=Fp ⟨f,hf26⟩
 have h2:∀w∈w9 f 3,w.length=2/\Lts w:=fun w hw=>D2 hw
 generalize w9 f 3=W at hwl hwm hnd h2
 have hwl:W.length=9:=hwl
 have g1:Dk y1/\0<y1.length/\y1.length<=100000:=⟨hd1,by omega,by omega⟩
 walk_at "r"
 rintro b y2 hb0 hb1 hd2 hl2
 obtain⟨i,hi,hi9⟩:∃i:Nat,b % 9=(i:Int)/\i<9:=⟨(b % 9).toNat,by omega,by omega⟩
 have g2:Dk y2/\0<y2.length/\y2.length<=100000:=⟨hd2,by omega,by omega⟩
 walk_at "r"
 rw [hi]
 refine⟨i,.str W[i],⟨Er (by omega),by omega⟩,by rw [List.getElem?_map,List.getElem?_eq_getElem (by omega)];rfl,?_⟩
 rw [pP]
 have hVl:(W.eraseIdx i).length=8:=by rw [List.length_eraseIdx,if_pos (by omega)];omega
 have hVn:(W.eraseIdx i).Nodup:=hnd.sublist (List.eraseIdx_sublist ..)
 have hV2:∀w∈W.eraseIdx i,w.length=2/\Lts w:=fun w hw=>h2 w (List.mem_of_mem_eraseIdx hw)
 generalize W.eraseIdx i=V at hVl hVn hV2
 have hVm:(V.map D.str).length=V.length:=List.length_map _
 walk_at "r"
 rintro c y3 hc0 hc1 hd3 hl3
 obtain⟨t,ht,ht8⟩:∃t:Nat,c % 8=(t:Int)/\t<8:=⟨(c % 8).toNat,by omega,by omega⟩
 walk_at "r"
 rw [ht,gi,iq,<- List.map_drop,<- List.map_take,<- List.map_append]
 have hpm:(V.drop t++V.take t).Perm V:=List.perm_append_comm.trans (by rw [List.take_append_drop])
 have hmm:∀w∈V.drop t++V.take t,w∈V:=fun w hw=>hpm.mem_iff.mp hw
 refine⟨by rw [List.length_map,List.length_map,List.length_drop,List.length_take];omega,?_⟩
 walk_at "r"
 refine q (V.drop t++V.take t) y3 (by rw [hpm.length_eq];exact hVl) (fun w hw=>?_) ?_ hd3 (by omega)
 .have:=hV2 w (hmm w hw)
  exact⟨by omega,by omega,this.2⟩
 .rw [yW (hpm.nodup_iff.mpr hVn) fun w hw=>(hV2 w (hmm w hw)).1,hpm.length_eq];exact hVl
theorem ql:∀p ds Q,p.isOwn=true->cf p ds Q->mI eT jN p ds Q:=fun p ds Q _ h=>by
 unfold cf at h
 split at h
 .exact oi _ _ h
 .exact h.elim
def fQ:PTS:=(aG (iQ (jF (pB (pOp fLt (pSl 1) (pFz (pC (.int 7))))) (aQ (bn aq 0 al) (ap 2)) cD)) (bY (pOp fIx (pFz (fj (af (pFz (pC (.int 0))) (af (pFz (pC (.int 0))) (af (pFz (pC (.int 0))) (af (pFz (pC (.int 1))) (af (pFz (pC (.int 1))) (af (pFz (pC (.int 2))) (af (pFz (pC (.int 7))) (af (pFz (pOp Ep (pFz (pC (.int 10))) (pFz (pC (.int 20))))) al)))))))))) (pFz (pOp eM (pSl 2) (pFz (pC (.int 8))))))))
theorem qm (ds:List D) (n t:Int) (Q:PV->PV->Prop) (h:cL (.own ds) ([.int n,.int t]) Q):mI fQ ln (.own ds) ([.int n,.int t]) Q:=by
 show fQ _ [some (.own ds),some (.dat (.int n)),some (.dat (.int t))]
 obtain⟨zs,rfl,⟨hz,h0,h1⟩,q⟩:=h
 have p20:((10:Int)^(20:Nat))=100000000000000000000:=by decide
 have pick:∀t:Int,∃z:Int,atI [D.int 0,D.int 0,D.int 0,D.int 1,D.int 1,D.int 2,D.int 7,D.int 100000000000000000000] (t % 8)=some (.int z)/\0<=z:=fun t=>by
  rcases (show t % 8=0\/t % 8=1\/t % 8=2\/t % 8=3\/t % 8=4\/t % 8=5\/t % 8=6\/t % 8=7 by omega) with h|h|h|h|h|h|h|h <;> rw [h]
  all_goals exact⟨_,rfl,by decide⟩
 walk_at "r"
 refine⟨fun ρ=>∃(t:Int) (ys:List Int),Dk ys/\(n<7->ys.length+1=zs.length)/\(¬ n<7->ys.length=zs.length)/\ρ=[some (.own (ys.map .int)),some (.dat (.int n)),some (.dat (.int t))],?_,?_⟩
 .walk_at "r"
  refine dy (fun c=>?_) (fun c=>?_)
  .have g0:Dk zs/\0<zs.length/\zs.length<=100000:=⟨hz,h0 c,h1⟩
   walk_at "r"
   rintro a y1 ha0 ha1 hd1 hl1
   walk_at "r"
   exact⟨a,y1,hd1,fun _=>hl1,fun z=>absurd c z,rfl⟩
  .exact⟨t,zs,hz,fun z=>absurd z c,fun _=>rfl,rfl⟩
 .rintro ρ ⟨t,ys,hd,e1,e2,rfl⟩
  obtain⟨z,hz,hz0⟩:=pick t
  walk_at "r"
  refine⟨_,hz,?_⟩
  walk_at "r"
  exact q z ys hz0 hd e1 e2
theorem rH:∀p ds Q,p.isOwn=true->cL p ds Q->mI fQ ln p ds Q:=fun p ds Q _ h=>by
 unfold cL at h
 split at h
 .exact qm _ _ _ _ h
 .exact h.elim
def ee:PTS:=(aG (aQ (pCB gm (af (pSl 1) al)) (ap 2)) (aG (aQ (fj al) (ap 3)) (aG (aQ (bn aq 0 al) (ap 4)) (aG (j1 (qQ (af (pFz (pOp DC (pFz (pC (.int 1))) (pSl 2))) al)) (ap 5) (aG (aQ (pOp mF (pFz (fj (af (pFz (pUn ul (pFz (pC (.int 1))))) al))) (pSl 2)) (ap 6)) (aG (j1 (qQ (af (pFz (aZ 2)) al)) (ap 7) (jF (pB (pOp nI (pFz (pOp uu (pFz (pOp B2 (pSl 5) (pSl 7))) (pFz (pC (.int 1))))) (pFz (pC (.int 1))))) (aG (sE 6 (DX (bL a6 (af (pFz (aZ 1)) (af (pFz (aZ 3)) (af (pFz (aZ 5)) (af (pFz (aZ 7)) al)))))) (aZ 7)) (jF (pB (pOp fGt (pFz (pOp eM (pSl 4) (pFz (pC (.int 3))))) (pFz (pC (.int 0))))) (sE 6 (pOp cP (pFz (pOp fIx (pSl 6) (pSl 7))) (pFz (bn cL 0 (af (pFz (aZ 2)) (af (pFz (pOp cP (pFz (pOp cP (pFz (pOp A4 (pSl 4) (pFz (pC (.int 3))))) (pFz (pOp mF (pSl 5) (pFz (pC (.int 5))))))) (pFz (pOp mF (pSl 7) (pFz (pC (.int 3))))))) al))))) (aZ 7)) cD)) cD)) (iP (AS 3 (aZ 6)))))) (bY (aZ 3))))))
theorem mf (ds ls:List D) (Q:PV->PV->Prop) (h:bJ (.own ds) ([.lst ls]) Q):mI ee iY (.own ds) ([.lst ls]) Q:=by
 show ee _ [some (.own ds),some (.dat (.lst ls)),none,none,none,none,none,none]
 obtain⟨zs,rfl,ws,rfl,⟨hn,hn5,hz,h81,hzu⟩,q⟩:=h
 have hlm:(dZ ws).length=ws.length:=List.length_map _
 have h256:=fK hn
 have g0:Dk zs/\0<zs.length/\zs.length<=100000:=⟨hz,by omega,by omega⟩
 walk_at "r"
 rintro a y1 ha0 ha1 hd1 hl1
 have hM:0<=(ws.length:Int)/\(ws.length:Int)<=1000000/\(1:Int).natAbs<2^64:=⟨by omega,by omega,by decide⟩
 have e1:=F4 ws.length
 have hr2:(-1000000:Int)<=1*2^(ws.length:Int).toNat:=by rw [e1];exact Int.le_trans (show (-1000000:Int)<=0 by decide) (Int.natCast_nonneg _)
 have hr3:(1:Int)*2^(ws.length:Int).toNat<=1000000:=by rw [e1];exact Int.le_trans (Int.ofNat_le.mpr h256) (by decide)
 rw [hlm]
 walk_at "r"
 rw [e1,Int.toNat_natCast]
 have hus:ws.length<7->usd ws.length (2^ws.length)<=80:=fun h=>D3 ⟨ws.length,by omega⟩
 generalize hN:2^ws.length=N at hus h256 q
 refine⟨fun k ρ=>∃(tb:List (List Int)) (ys:List Int) (v5 v6 v7:Option PV),oE ws tb/\tb.length=k/\Dk ys/\y1.length<=ys.length+(if ws.length<7 then usd ws.length k else 0)/\ys.length<=y1.length/\ρ=[some (.own (ys.map .int)),some (.dat (.lst (dZ ws))),some (.dat (.int (ws.length:Int))),some (.own (tb.map cS)),some (.dat (.int a)),v5,v6,v7],⟨[],y1,_,_,_,⟨fun r hr=>absurd hr (Nat.not_lt_zero r),fun r hr=>absurd hr (Nat.not_lt_zero r),fun r hr=>absurd hr (Nat.not_lt_zero r)⟩,rfl,hd1,by omega,Nat.le_refl _,rfl⟩,?_,?_⟩
 .rintro k ρ _ hk rfl ⟨tb,ys,v5,v6,v7,hG,htl,hdy,hyl,hyl',rfl⟩
  have htm:(tb.map cS).length=tb.length:=List.length_map _
  have w2:(-1000000:Int)<=(ws.length:Int)/\(ws.length:Int)<=1000000/\(ws.length:Int).toNat*[D.int (-1)].length<=1000000:=⟨by omega,by omega,by show _*1<=_;omega⟩
  have er:=BH ws.length
  have hum:ws.length<7->usd ws.length (k+1)<=80:=fun h=>Nat.le_trans (yY _ (by omega)) (hus h)
  have huk:usd ws.length (k+1)=usd ws.length k+pcn k ws.length:=rfl
  walk_at "r"
  rw [er,Int.toNat_natCast]
  refine⟨fun i ρ=>∃(r:List Int) (yy:List Int) (v7:Option PV),Row ws tb k i r/\Dk yy/\ys.length<=yy.length+(if ws.length<7 then pcn k i else 0)/\yy.length<=ys.length/\ρ=[some (.own (yy.map .int)),some (.dat (.lst (dZ ws))),some (.dat (.int (ws.length:Int))),some (.own (tb.map cS)),some (.dat (.int a)),some (.dat (.int (k:Int))),some (.own (r.map .int)),v7],⟨_,ys,_,xq ws tb k,hdy,by omega,Nat.le_refl _,rfl⟩,?_,?_⟩
  .rintro i ρ _ hi rfl ⟨r,yy,v7,hR,hyy,hyl2,hyl2',rfl⟩
   have hrl:=hR.len
   have hrm:(r.map D.int).length=r.length:=List.length_map _
   have eb:=pX k i
   have hpm:=yX k (show i+1<=ws.length by omega)
   have hps:=tG k i
   walk_at "r"
   refine (show fU (decide (Builtin.bitAnd ((k:Int) / 2^(i:Int).toNat) 1=1)) _ _ from ?_)
   rw [eb]
   cases hb:k.testBit i with
  |false =>
    rw [hb,if_neg (by decide)] at hps
    exact⟨r,yy,_,yZ hR hb,hyy,by rw [hps];exact hyl2,hyl2',rfl⟩
  |true =>
    rw [hb,if_pos rfl] at hps
    have hpw:0<2^i:=Nat.pow_pos (by decide)
    have hki:2^i<=k:=(ju ⟨k,by omega⟩ ⟨i,by omega⟩ hb).1
    have cond:ws.length<=8/\k<2^ws.length/\i<ws.length/\k.testBit i=true/\k - 2^i<tb.length/\∀r,r<tb.length->(tb.getD r []).length=ws.length:=⟨hn,by omega,hi,hb,by omega,hG.wid⟩
    walk_at "r"
    refine⟨i,Er (by rw [hrm,hrl];exact hi),?_⟩
    have hR2:=xp hR hi hb (Int.le_refl _)
    have hsm:(r.map D.int).set i (D.int (nd ws tb k i))=(r.set i (nd ws tb k i)).map D.int:=by rw [List.map_set]
    have hsl:(r.set i (nd ws tb k i)).length=ws.length:=by rw [List.length_set];exact hrl
    have hsg:(r.set i (nd ws tb k i)).getD i 0=nd ws tb k i:=by rw [List.getD_eq_getElem?_getD,List.getElem?_set_self (by omega)];rfl
    have hss:∀v,(r.set i (nd ws tb k i)).set i v=r.set i v:=fun v=>List.set_set ..
    have hRv:∀v,nd ws tb k i<=v->Row ws tb k (i+1) (r.set i v):=fun v hv=>xp hR hi hb hv
    generalize hv0:nd ws tb k i=v0 at hsm hsl hsg hss hRv hR2
    walk_at "r"
    rw [hsm]
    refine dy (fun c=>?_) (fun c=>?_)
    .have hyp:ws.length<7->0<yy.length:=fun c7=>by
      have:=hum c7
      rw [if_pos c7] at hyl hyl2
      omega
     have g5:Dk yy/\((ws.length:Int)<7->0<yy.length)/\yy.length<=100000:=⟨hyy,fun z=>hyp (by omega),by omega⟩
     walk_at "r"
     refine⟨_,lc (by omega),?_⟩
     rw [hsg]
     walk_at "r"
     rintro z y4 hz0 hd4 hl4 hl4'
     walk_at "r"
     refine⟨i,Er (by rw [List.length_map];omega),?_⟩
     rw [<- List.map_set (f:=D.int),hss]
     refine⟨_,y4,_,hRv _ (by omega),hd4,?_,?_,rfl⟩
     .by_cases c7:ws.length<7
      .have:=hl4 (by omega)
       rw [if_pos c7] at hyl2 ⊢
       omega
      .have:=hl4' (by omega)
       rw [if_neg c7] at hyl2 ⊢
       omega
     .by_cases c7:ws.length<7
      .have:=hl4 (by omega);omega
      .have:=hl4' (by omega);omega
    .refine⟨_,yy,_,hR2,hyy,?_,hyl2',rfl⟩
     by_cases c7:ws.length<7
     .rw [if_pos c7] at hyl2 ⊢;omega
     .rw [if_neg c7] at hyl2 ⊢;omega
  .rintro ρ ⟨r,yy,v7,hR,hyy,hyl2,hyl2',rfl⟩
   walk_at "r"
   refine⟨tb++[r],yy,_,_,_,y0 hn (by omega) hG (by rw [htl];exact hR),by rw [List.length_append,htl];rfl,hyy,?_,by omega,by rw [List.map_append];rfl⟩
   rw [huk]
   by_cases c7:ws.length<7
   .rw [if_pos c7] at hyl hyl2 ⊢;omega
   .rw [if_neg c7] at hyl hyl2 ⊢;omega
 .rintro ρ ⟨tb,ys,v5,v6,v7,hG,htl,hdy,hyl,hyl',rfl⟩
  walk_at "r"
  refine q tb ys hG htl hdy ?_ (by omega)
  split at hyl
  .have:=hus (by assumption);omega
  .omega
theorem oj:∀p ds Q,p.isOwn=true->bJ p ds Q->mI ee iY p ds Q:=fun p ds Q _ h=>by
 unfold bJ at h
 split at h
 .exact mf _ _ _ h
 .exact h.elim
def fR:PTS:=(aG (aQ (pCB gm (af (pSl 1) al)) (ap 3)) (aG (aQ (pOp eM (pFz (bn aq 0 al)) (pFz (pC (.int 6)))) (ap 4)) (aG (aQ (pOp cP (pFz (pC (.int 1))) (pFz (pOp eM (pFz (bn aq 0 al)) (pFz (pOp yn (pFz (pCB gm (af (pSl 2) al))) (pFz (pC (.int 1)))))))) (ap 5)) (aG (aQ (pOp eM (pFz (bn aq 0 al)) (pSl 3)) (ap 6)) (DT 7 (zG 2) (Bx (zE (DR (BY (pB (pOp fLt (pSl 4) (pFz (pC (.int 3))))) (pB (pOp nI (pFz (pOp uu (pFz (pOp B2 (pSl 5) (pSl 6))) (pFz (pC (.int 1))))) (pFz (pC (.int 1)))))) (Bx (FY (aQ (pOp fIx (pFz (fj (af (pFz (pC (.int 1))) (af (pFz (pC (.int 1))) (af (pFz (pC (.int 2))) (af (pFz (pOp Ep (pFz (pC (.int 10))) (pFz (pC (.int 20))))) al)))))) (pFz (pOp eM (pFz (bn aq 0 al)) (pFz (pC (.int 4)))))) (ap 8))) (yL (pOp yn (pFz (bL a6 (af (pFz (aZ 1)) (af (pFz (aZ 2)) (af (pFz (aZ 5)) (af (pFz (aZ 6)) al)))))) (pSl 8)) (aZ 5) (aZ 6))) (DR (pB (pOp fLt (pSl 4) (pFz (pC (.int 3))))) (yL (pOp fIx (pFz (fj (af (pFz (pC (.int 0))) (af (pFz (pUn ul (pFz (pC (.int 2))))) (af (pFz (pC (.int 1))) (af (pFz (pOp Ep (pFz (pC (.int 10))) (pFz (pC (.int 20))))) al)))))) (pFz (pOp eM (pFz (bn aq 0 al)) (pFz (pC (.int 4)))))) (aZ 5) (aZ 6)) (DR (pB (pOp nI (pSl 4) (pFz (pC (.int 3))))) (yL (pOp fIx (pFz (fj (af (pFz (pC (.bl true))) (af (pFz (pC (.bl false))) (af (pFz (pC .non)) (af (pFz (pC (.str [49]))) al)))))) (pFz (pOp eM (pFz (bn aq 0 al)) (pFz (pC (.int 4)))))) (aZ 5) (aZ 6)) (DR (pB (pOp nI (pSl 4) (pFz (pC (.int 4))))) (zF 7 (sE 7 (pOp fIx (pFz (fj (af (pFz (pOp cP (pFz (pOp fIx (pSl 7) (pSl 5))) (pFz (fj (af (pFz (pC (.int 0))) al))))) (af (pFz (dt (pFz (pOp fIx (pSl 7) (pSl 5))) (dk (pC (.int 1))) dB)) (af (pFz (pC .non)) (af (pFz A8) al)))))) (pFz (pOp eM (pFz (bn aq 0 al)) (pFz (pC (.int 4)))))) (aZ 5))) (zF 7 (aQ (pOp fIx (pFz (fj (af (pFz (dt (pSl 7) (dk (pC (.int 1))) dB)) (af (pFz (pOp cP (pSl 7) (pFz (fj (af (pFz (pOp fIx (pSl 7) (pFz (pC (.int 0))))) al))))) (af (pFz (fj (af (pFz (aZ 7)) al))) (af (pFz (dt (pSl 7) dB (dk (pUn ul (pFz (pC (.int 1))))))) (af (pFz (dt (pSl 7) dB (dk (pC (.int 1))))) al))))))) (pFz (pOp eM (pFz (bn aq 0 al)) (pFz (pC (.int 5)))))) (ap 7)))))))) (zF 7 (bY (aZ 7)))))))))
theorem qo (ds ls td:List D) (Q:PV->PV->Prop) (h:cM (.own ds) ([.lst ls,.lst td]) Q):mI fR lr (.own ds) ([.lst ls,.lst td]) Q:=by
 show fR _ [some (.own ds),some (.dat (.lst ls)),some (.dat (.lst td)),none,none,none,none,none,none]
 obtain⟨zs,rfl,ws,rfl,tb,rfl,⟨hG,hl,n0,n8⟩,⟨hz,h4,hzu⟩,q⟩:=h
 have hlm:(dZ ws).length=ws.length:=List.length_map _
 have htm:(tb.map cS).length=tb.length:=List.length_map _
 have h256:=fK n8
 have h2:2<=2^ws.length:=Nat.le_trans (show 2<=2^1 by decide) (Nat.pow_le_pow_right (n:=2) (by decide) n0)
 have hw8:=zP hG n8
 have g0:Dk zs/\0<zs.length/\zs.length<=100000:=⟨hz,by omega,by omega⟩
 walk_at "r"
 rintro a y1 ha0 ha1 hd1 hl1
 have g1:Dk y1/\0<y1.length/\y1.length<=100000:=⟨hd1,by omega,by omega⟩
 walk_at "r"
 rintro b y2 hb0 hb1 hd2 hl2
 obtain⟨m,hm,hm2⟩:∃m:Nat,1+b % (((tb.map cS).length:Int) - 1)=(m:Int)/\m<tb.length:=by
  have e0:=Int.emod_nonneg b (show ((tb.map cS).length:Int) - 1≠0 by omega)
  have e1:=Int.emod_lt_of_pos b (show 0<((tb.map cS).length:Int) - 1 by omega)
  exact⟨(1+b % (((tb.map cS).length:Int) - 1)).toNat,by omega,by omega⟩
 have g2:Dk y2/\0<y2.length/\y2.length<=100000:=⟨hd2,by omega,by omega⟩
 walk_at "r"
 rintro c y3 hc0 hc1 hd3 hl3
 obtain⟨i,hi,hi2⟩:∃i:Nat,c % ((dZ ws).length:Int)=(i:Int)/\i<ws.length:=by
  have e0:=Int.emod_nonneg c (show ((dZ ws).length:Int)≠0 by omega)
  have e1:=Int.emod_lt_of_pos c (show 0<((dZ ws).length:Int) by omega)
  exact⟨(c % ((dZ ws).length:Int)).toNat,by omega,by omega⟩
 have g3:Dk y3/\0<y3.length/\y3.length<=100000:=⟨hd3,by omega,by omega⟩
 rw [hm]
 walk_at "r"
 rw [hi]
 refine⟨_,_,_,rfl,kf.lst _,D5 tb,by omega,?_⟩
 have hwid:=hG.wid m hm2
 have eb:=pX m i
 walk_at "r"
 refine⟨fun ρ mo=>∃(w:PV) (yy:List Int) (v8:Option PV),((∃xs,w=.own xs)\/(∃d,w=.dat d))/\dq w.d/\uC ws w.d/\Dk yy/\y3.length<=yy.length+1/\yy.length<=y3.length/\cl 7 ρ mo=[some (.own (yy.map .int)),some (.dat (.lst (dZ ws))),some (.dat (.lst (tb.map cS))),some (.dat (.int ((dZ ws).length:Int))),some (.dat (.int (a % 6))),some (.dat (.int (m:Int))),some (.dat (.int (i:Int))),some w,v8],?_,?_⟩
 .have hset:∀(v:Int) (y4:List Int),(m.testBit i=true/\v<nd ws tb m i)\/(m.testBit i=false/\v≠-1)->dq (.lst ((tI tb m i v).map cS))/\uC ws (.lst ((tI tb m i v).map cS)):=fun v y4 hv=>⟨cW (by rw [List.length_map];show (tb.set m _).length<=_;rw [List.length_set];omega) (nV (D6 hw8 hm2)),za hG n8 hl hm2 hi2 hv⟩
  have hrl:(tb.map fun r=>r.map D.int).length=tb.length:=List.length_map _
  have hil:((tb.getD m []).map D.int).length=ws.length:=by rw [List.length_map];exact hwid
  walk_at "r"
  refine dy (fun c3=>?_) (fun c3=>?_)
  .walk_at "r"
   refine (show fU (decide (Builtin.bitAnd ((m:Int) / 2^(i:Int).toNat) 1=1)) _ _ from ?_)
   rw [eb]
   cases hb:m.testBit i with
  |true =>
    have hle:2^i<=m:=(ju ⟨m,by omega⟩ ⟨i,by omega⟩ hb).1
    have cond:ws.length<=8/\m<2^ws.length/\i<ws.length/\m.testBit i=true/\m - 2^i<tb.length/\∀r,r<tb.length->(tb.getD r []).length=ws.length:=⟨n8,by omega,hi2,hb,Nat.lt_of_le_of_lt (Nat.sub_le _ _) hm2,hG.wid⟩
    walk_at "r"
    rintro d y4 hd0 hd1' hd4 hl4
    obtain⟨le,hle1,hle2⟩:=BK d
    walk_at "r"
    refine⟨_,hle1,?_⟩
    walk_at "r"
    refine⟨m,_,by rw [hrl];exact iG hm2,nX hm2,?_⟩
    walk_at "r"
    refine⟨i,by rw [hil];exact iG hi2,?_⟩
    rw [tK]
    have hs:=hset (nd ws tb m i - le) y4 (.inl ⟨hb,by omega⟩)
    exact⟨_,y4,_,.inl ⟨_,rfl⟩,hs.1,hs.2,hd4,by omega,by omega,rfl⟩
  |false =>
    walk_at "r"
    rintro d y4 hd0 hd1' hd4 hl4
    obtain⟨ce,hce1,hce2⟩:=BL d
    walk_at "r"
    refine⟨_,hce1,?_⟩
    walk_at "r"
    refine⟨m,_,by rw [hrl];exact iG hm2,nX hm2,?_⟩
    walk_at "r"
    refine⟨i,by rw [hil];exact iG hi2,?_⟩
    rw [tK]
    have hs:=hset ce y4 (.inr ⟨hb,hce2⟩)
    exact⟨_,y4,_,.inl ⟨_,rfl⟩,hs.1,hs.2,hd4,by omega,by omega,rfl⟩
  .walk_at "r"
   refine dy (fun c4=>?_) (fun c4=>?_)
   .walk_at "r"
    rintro d y4 hd0 hd1' hd4 hl4
    obtain⟨v,hv1,hv2,hv3⟩:=BM d
    walk_at "r"
    refine⟨_,hv1,?_⟩
    walk_at "r"
    refine⟨m,_,by rw [hrl];exact iG hm2,nX hm2,?_⟩
    walk_at "r"
    refine⟨i,by rw [hil];exact iG hi2,?_⟩
    have hd:Srt (.lst (((tb.getD m []).map D.int).set i v))/\(aV (.lst (((tb.getD m []).map D.int).set i v))).length<=1000:=⟨⟨rfl,fun x hx=>(List.mem_or_eq_of_mem_set hx).elim (nU _ x) fun e=>by rw [e];exact hv2⟩,by show (((tb.getD m []).map D.int).set i v).length<=1000;rw [List.length_set];omega⟩
    have hno:bS (.lst (((tb.getD m []).map D.int).set i v)) ws.length=false:=BJ (x:=v) (List.mem_set (by rw [hil];exact hi2) v) hv3
    rw [List.map_set,tJ]
    exact⟨_,y4,_,.inl ⟨_,rfl⟩,cW (by rw [List.length_set];omega) (tL hw8 hd),xt hm2 hno,hd4,by omega,by omega,rfl⟩
   .walk_at "r"
    refine dy (fun c5=>?_) (fun c5=>?_)
    .have hat:=rp (tb:=tb) hm2
     have l1:((tb.getD m []).map D.int).length+[D.int 0].length<=1000000:=by show _+1<=_;omega
     unfold zF
     rw [nP,tJ]
     walk_at "r"
     refine⟨_,hat,?_⟩
     walk_at "r"
     refine⟨_,hat,?_⟩
     walk_at "r"
     rintro d y4 hd0 hd1' hd4 hl4
     obtain⟨v,hv1,hv2,hv3⟩:=BN hwid n8 n0 d
     walk_at "r"
     refine⟨_,hv1,?_⟩
     walk_at "r"
     refine⟨m,by rw [htm];exact iG hm2,?_⟩
     exact⟨_,y4,_,.inl ⟨_,rfl⟩,cW (by rw [List.length_set];omega) (tL hw8 hv2),xt hm2 hv3,hd4,by omega,by omega,rfl⟩
    .have hat:=rp (tb:=tb) (m:=0) (by omega)
     have l1:(tb.map cS).length+[cS (tb.getD 0 [])].length<=1000000:=by show _+1<=_;omega
     unfold zF
     rw [nP,tJ]
     walk_at "r"
     refine⟨_,hat,?_⟩
     walk_at "r"
     rintro d y4 hd0 hd1' hd4 hl4
     obtain⟨v,hv1,hv2,hv3⟩:=BO (ws:=ws) hw8 hl (by omega) (by omega) (cS (tb.getD 0 [])) (p5 (by rw [hG.wid 0 (by omega)];omega)) d
     walk_at "r"
     refine⟨_,hv1,?_⟩
     exact⟨_,y4,_,.inr ⟨_,rfl⟩,hv2,hv3,hd4,by omega,by omega,rfl⟩
 .rintro ρ mo ⟨w,yy,v8,hw,ho,hno,hdy,hy1,hy2,e⟩
  show zF 7 _ _ ρ mo
  unfold zF
  rw [e]
  rcases hw with ⟨xs,rfl⟩|⟨d,rfl⟩
  .walk_at "r"
   exact q _ yy ho hno hdy (by omega) (by omega)
  .walk_at "r"
   exact q _ yy ho hno hdy (by omega) (by omega)
theorem rJ:∀p ds Q,p.isOwn=true->cM p ds Q->mI fR lr p ds Q:=fun p ds Q _ h=>by
 unfold cM at h
 split at h
 .exact qo _ _ _ _ h
 .exact h.elim
def gS:PTS:=(aG (aQ (fj (af (pFz (pC .non)) (af (pFz (pC (.int 0))) (af (pFz (pC (.bl true))) (af (pFz (pC (.str []))) (af (pFz (pC (.str [97,98]))) (af (pFz A8) (af (pFz (xB al)) (af (pFz (fj (af (pFz (fj al)) al))) (af (pFz (pOp mF (pFz (fj (af (pFz (xB al)) al))) (pFz (pC (.int 3))))) (af (pFz (xB (af (pFz (xB (af (pFz (pC (.int 0))) (af (pFz (pC (.int 0))) al)))) al))) (af (pFz (Bo [(Sum.inl 0)] (af (pFz (fj (af (pFz (pC (.int 0))) al))) al))) (af (pFz (fj (af (pFz (fj al)) (af (pFz (pC .non)) al)))) al))))))))))))) (ap 1)) (aG (iQ (jF (pB (pOp nI (pSl 0) (pFz (fj al)))) (aQ (pOp cP (pFz (dt (pSl 1) dB (dk (pC (.int 6))))) (pFz (fj (af (pFz (xB al)) (af (pFz (pOp mF (pFz (fj (af (pFz (xB al)) al))) (pFz (pC (.int 3))))) (af (pFz (xB (af (pFz (xB (af (pFz (pC (.int 0))) (af (pFz (pC (.int 0))) al)))) al))) (af (pFz (Bo [(Sum.inl 0)] (af (pFz (fj (af (pFz (pC (.int 0))) al))) al))) (af (pFz (fj (af (pFz (fj al)) (af (pFz (pC .non)) al)))) al)))))))) (ap 1)) cD)) (bY (aZ 1))))
theorem rK (ls:List D) (Q:PV->Prop) (h:cQ ([.lst ls]) Q):dY gS mU ([.lst ls]) Q:=by
 show gS _ [some (.dat (.lst ls)),none]
 obtain⟨ws,rfl,h8,q⟩:=h
 have e1:=lv ws
 have e2:=p7 ws
 have w2:(-1000000:Int)<=3/\(3:Int)<=1000000/\Int.toNat 3*[D.tup []].length<=1000000:=⟨by decide,by decide,by decide⟩
 walk_at "r"
 refine⟨fun ρ=>(ws≠[]/\ρ=[some (.dat (.lst (dZ ws))),some (.own O1)])\/(ws=[]/\ρ=[some (.dat (.lst (dZ ws))),some (.own O2)]),?_,?_⟩
 .walk_at "r"
  rw [e2]
  refine dy (fun c=>?_) (fun c=>?_)
  .walk_at "r"
   exact .inr ⟨c,rfl⟩
  .exact .inl ⟨c,rfl⟩
 .rintro ρ (⟨c,rfl⟩|⟨c,rfl⟩)
  .walk_at "r"
   exact q O1 (fun d hd=>Gs (List.length_pos_iff.mpr c) h8 hd) (by decide)
  .walk_at "r"
   subst c
   exact q O2 (fun d hd=>Gu hd) (by decide)
theorem uJ:∀ds Q,cQ ds Q->dY gS mU ds Q:=fun ds Q h=>by
 unfold cQ at h
 split at h
 .exact rK _ _ h
 .exact h.elim
def eU:PTS:=(aG (jF (pB (pOp nI (pFz (pOp eM (pFz (bn aq 0 al)) (pFz (pC (.int 2))))) (pFz (pC (.int 0))))) (bY (DG (cZ [none] (dz (aZ 1)) (ap 0) iH (pCB wm (af (pSl 0) al))))) cD) (bY (DG (pCB hJ (af (pFz (cZ [none] (dz (aZ 1)) (ap 0) iH (pCB hJ (af (pSl 0) al)))) al)))))
theorem om (ds td:List D) (Q:PV->PV->Prop) (h:cg (.own ds) ([.lst td]) Q):mI eU jO (.own ds) ([.lst td]) Q:=by
 show eU _ [some (.own ds),some (.dat (.lst td))]
 obtain⟨zs,rfl,tb,rfl,⟨hl,hw,hz,h0,hzu⟩,q⟩:=h
 have g0:Dk zs/\0<zs.length/\zs.length<=100000:=⟨hz,by omega,by omega⟩
 have htm:(tb.map cS).length=tb.length:=List.length_map _
 walk_at "r"
 rintro a y1 ha0 ha1 hd1 hl1
 walk_at "r"
 refine dy (fun c=>?_) (fun c=>?_)
 .walk_at "r"
  refine cm1 (e:=cS) (xs:=tb) cS (fun r hr v K1 k1=>?_) (fun v=>?_)
  .have hrl:=hw r hr
   have hrm:(r.map D.int).length=r.length:=List.length_map _
   walk_at "r"
   exact k1 _
  walk_at "r"
  exact q _ y1 (.inl rfl) hd1 hl1
 .walk_at "r"
  refine cm1 (e:=cS) (xs:=tb) (fun r=>.tup (r.map .int)) (fun r hr v K1 k1=>?_) (fun v=>?_)
  .have hrl:=hw r hr
   have hrm:(r.map D.int).length=r.length:=List.length_map _
   walk_at "r"
   exact k1 _
  have hml:(tb.map fun r=>D.tup (r.map .int)).length=tb.length:=List.length_map _
  walk_at "r"
  exact q _ y1 (.inr rfl) hd1 hl1
theorem qp:∀p ds Q,p.isOwn=true->cg p ds Q->mI eU jO p ds Q:=fun p ds Q _ h=>by
 unfold cg at h
 split at h
 .exact om _ _ _ h
 .exact h.elim
def tO:PTS:=(aG (aQ (bL ck (af (pFz (aZ 0)) (af (pFz (pC (.int 520))) al))) (ap 1)) (aG (aQ (bn bI 1 (af (pFz (pC (.int 5))) al)) (ap 2)) (aG (iQ (jF (pB (pOp nI (pFz (pOp eM (pFz (bn aq 1 al)) (pFz (pC (.int 8))))) (pFz (pC (.int 1))))) (aQ (bn cf 1 al) (ap 2)) cD)) (aG (aQ (bL bP (af (pFz (aZ 2)) al)) (ap 3)) (aG (aQ (bL cm (af (pFz (aZ 3)) al)) (ap 4)) (aG (aQ (A2 "Family" bo (af (pFz (aZ 2)) al)) (ap 5)) (aG (aQ (pCB Bq (af (pFz (cZ [none] (dz (aZ 3)) (ap 0) iH (pCB gm (af (pSl 0) al)))) al)) (ap 6)) (aG (aQ (cZ [none,some 1,some 3] (qQ (af (pFz (pC (.int 3))) al)) (ap 0) iH (bn bp 1 (af (pFz (aZ 2)) al))) (ap 7)) (aG (yO 7 (yO 5 (j1 (qQ (af (pFz (pOp fIx (pFz (fj (af (pFz (pC (.int 4))) (af (pFz (pC (.int 1))) al)))) (pFz (pOp A4 (pFz (pCB gm (af (pSl 3) al))) (pFz (pC (.int 7))))))) al)) (ap 8) (aG (aQ (bn bJ 1 (af (pFz (aZ 4)) al)) (ap 9)) (aG (aQ (pOp yn (pSl 6) (pFz (pCB yw (af (pFz (pOp cP (pFz (fj (af (pFz (pC (.int 0))) al))) (pFz (pOp fIx (pSl 9) (pFz (pUn ul (pFz (pC (.int 1))))))))) al)))) (ap 10)) (aG (aQ (cZ [none,some 10] (dz (aZ 7)) (ap 0) (pB (pOp fLt (pFz (pCB gm (af (pSl 0) al))) (pSl 1))) (aZ 0)) (ap 11)) (aG (aQ (bn cg 1 (af (pFz (aZ 9)) al)) (ap 12)) (aG (jF (pOr (pB (pOp yv (pFz (bL aJ (af (pFz (aZ 5)) (af (pFz (aZ 12)) al)))) (pSl 10))) (pOr (pB (pOp yv (pSl 11) (pFz (fj al)))) (pB (pOp yv (pFz (cZ [none] (dz (aZ 12)) (ap 0) iH (pCB wm (af (pSl 0) al)))) (pSl 9))))) (bY (pC (.bl false))) cD) (jF (BY (pB (pOp yv (pSl 3) (pFz (fj al)))) (pB (pOp (fIs true) (pFz (bL aJ (af (pFz (aZ 5)) (af (pFz (bn cM 1 (af (pFz (aZ 4)) (af (pFz (aZ 9)) al)))) al)))) (pFz (pC .non))))) (bY (pC (.bl false))) cD))))))))) (aG (aQ (bL cQ (af (pFz (aZ 4)) al)) (ap 13)) (aG (jF (pB (pOp yv (pFz (cZ [none,some 5] (dz (aZ 13)) (ap 0) (pB (pOp (fIs true) (pFz (bL aJ (af (pFz (aZ 1)) (af (pFz (aZ 0)) al)))) (pFz (pC .non)))) (aZ 0))) (pFz (fj al)))) (bY (pC (.bl false))) cD) (aG (aQ (A2 "Family" bo (af (pFz (cZ [none,some 3] (qQ (af (pFz (pC (.int 9))) al)) (ap 0) iH (pOp fIx (pFz (pC (.str [97,98,99,100,101,102,103,104,105,106,107,108,109,110,111,112,113,114,115,116,117,118,119,120,121,122]))) (pFz (pOp eM (pFz (pOp cP (pFz (pOp mF (pFz (pC (.int 3))) (pSl 0))) (pFz (pCB gm (af (pSl 1) al))))) (pFz (pC (.int 26)))))))) al)) (ap 14)) (aG (aQ (cZ [none] (qQ (af (pFz (pC (.int 512))) al)) (ap 0) iH (cZ [none,some 0] (qQ (af (pFz (pC (.int 9))) al)) (ap 0) iH (pIf (pB (pOp nI (pFz (pOp uu (pFz (pOp B2 (pSl 1) (pSl 0))) (pFz (pC (.int 1))))) (pFz (pC (.int 1))))) (pC (.int 0)) (pUn ul (pFz (pC (.int 1))))))) (ap 9)) (bY (pOp (fIs false) (pFz (bL aJ (af (pFz (aZ 14)) (af (pFz (aZ 9)) al)))) (pFz (pC .non)))))))))))))))))
theorem BS (ns:List Int) (h63:ns.length<=63) (Q:PV->Prop) (q:Q (.dat (.bl true))):dY tO zR [.scr ns] Q:=by
 show tO _ [some (.dat (.scr ns)),none,none,none,none,none,none,none,none,none,none,none,none,none,none]
 walk_at "r"
 rintro z1 hz1 hl1
 have hl1:z1.length=520:=hl1
 have g1:Dk z1/\z1.length<=10000:=⟨hz1,by omega⟩
 walk_at "r"
 rintro ps0 z2 hp0 hps0 hz2 hl2 hl2'
 have hp0:ps0.length<=5:=by omega
 walk_at "r"
 refine⟨fun ρ=>∃(ps:List (List Nat)) (yy:List Int),ps.length<=8/\Pcs 60 ps/\((ao ps).length<=5\/(ao ps).length=8)/\Dk yy/\465<=yy.length/\yy.length<=520/\ρ=[some (.dat (.scr ns)),some (.own (yy.map .int)),some (.dat (.lst (ps.map .str))),none,none,none,none,none,none,none,none,none,none,none,none],?_,?_⟩
 .have g2:Dk z2/\0<z2.length/\z2.length<=100000:=⟨hz2,by omega,by omega⟩
  walk_at "r"
  rintro a y1 ha0 ha1 hd1 hy1
  walk_at "r"
  refine dy (fun c=>?_) (fun c=>?_)
  .have g3:Dk y1/\3<=y1.length/\y1.length<=10000:=⟨hd1,by omega,by omega⟩
   walk_at "r"
   rintro ps y2 hpl hpc hpw hd2 hy2
   walk_at "r"
   exact⟨ps,y2,by omega,hpc,.inr hpw,hd2,by omega,by omega,rfl⟩
  .exact⟨ps0,y1,by omega,hps0,.inl (Nat.le_trans (fb ps0) hp0),hd1,by omega,by omega,rfl⟩
 rintro ρ ⟨ps,yy,hp,hps,hwc,hdy,hyl,hyu,rfl⟩
 have hk:ps.length<=40/\∀w∈ps,w.length<=60/\Lts w:=⟨by omega,fun w hw=>⟨(hps w hw).2.1,(hps w hw).2.2⟩⟩
 have hk2:ps.length<=40/\Pcs 60 ps:=⟨by omega,hps⟩
 have hwn:=fb ps
 have hwo:=Gp hk.1 hps
 have hwm:((ao ps).map D.str).length=(ao ps).length:=List.length_map _
 have hlm:(dZ (ao ps)).length=(ao ps).length:=List.length_map _
 have h8:(ao ps).length<=8:=by omega
 have e1:pE (.lst ((ao ps).map .str)) (.lst []):=lj fun w hw=>(e8 hps w hw).2.2
 have e2:=jM (ao ps)
 have hsum:re ps=((ao ps).map fun w=>(w.length:Int)).sum:=rfl
 have el:=lv (ao ps)
 have h256:=fK h8
 walk_at "r"
 refine cm1 (e:=D.str) (xs:=ao ps) (fun w=>.int (w.length:Int)) (fun w hw v K1 k1=>?_) (fun v=>?_)
 .walk_at "r"
  exact k1 _
 walk_at "r"
 refine⟨(ao ps).map fun w=>(w.length:Int),by rw [List.map_map];rfl,?_⟩
 walk_at "r"
 refine⟨fun k xs τ=>∃(v:Option PV) (y:List Int) (tx:List (List Nat)),τ=[v,some (.own (y.map .int)),some (.dat (.lst ((ao ps).map .str)))]/\Dk y/\yy.length<=y.length+(3*(ao ps).length+3)*k/\y.length<=yy.length/\xs=tx.map .str/\tx.length=k/\∀t∈tx,∃js:List Nat,js.Perm (List.range (ao ps).length)/\glL (ao ps) js (ao ps).length<=t.length,⟨none,yy,[],rfl,hdy,by omega,Nat.le_refl _,rfl,rfl,fun t ht=>nomatch ht⟩,?_,?_⟩
 .rintro k xs τ _ hk rfl ⟨v,y,tx,rfl,hy,hyl2,hyl3,rfl,htl,htx⟩
  have hk:k<3:=hk
  have hk3:(3*(ao ps).length+3)*k<=27*2:=Nat.mul_le_mul (by omega) (by omega)
  have g4:B3 (ao ps)/\Dk y/\3*(ao ps).length+3<=y.length/\y.length<=10000:=⟨hwo,hy,by omega,by omega⟩
  walk_at "r"
  rintro js t y4 hjp hjg htl4 hd4 hy4 hy4'
  exact⟨_,y4,tx++[t],rfl,hd4,by rw [Nat.mul_succ];omega,by omega,by rw [List.map_append];rfl,by rw [List.length_append,htl];rfl,fun u hu=>by
   rcases List.mem_append.mp hu with h|h
   .exact htx u h
   .rw [List.mem_singleton.mp h];exact⟨js,hjp,hjg⟩⟩
 rintro xs τ ⟨v,y,tx,rfl,hy,hyl2,hyl3,rfl,htl,htx⟩
 have htl:tx.length=3:=htl
 have hy3:yy.length<=y.length+3*(3*(ao ps).length+3):=by rw [Nat.mul_comm 3];exact hyl2
 have htm:(tx.map D.str).length=tx.length:=List.length_map _
 clear hyl2
 obtain⟨T,hT,hT2⟩:∃T:Nat,atI [D.int 4,D.int 1] (((ao ps).length:Int) / 7)=some (.int (T:Int))/\86*T<=y.length:=by
  rcases hwc with h|h
  .rw [show ((ao ps).length:Int) / 7=0 by omega];exact⟨4,rfl,by omega⟩
  .rw [show ((ao ps).length:Int) / 7=1 by omega];exact⟨1,rfl,by omega⟩
 walk_at "r"
 rw [hwm]
 refine⟨_,hT,?_⟩
 walk_at "r"
 rw [Int.toNat_natCast]
 refine⟨fun k ρ=>∃(y5:List Int) (v8 v9 v10 v11 v12:Option PV),Dk y5/\y.length<=y5.length+86*k/\y5.length<=y.length/\ρ=[some (.dat (.scr ns)),some (.own (y5.map .int)),some (.dat (.lst (ps.map .str))),some (.dat (.lst ((ao ps).map .str))),some (.dat (.lst (dZ (ao ps)))),some (.dat (.obj "Family" lS (lT ps))),some (.dat (.int ((ao ps).map fun w=>(w.length:Int)).sum)),some (.dat (.lst (tx.map .str))),v8,v9,v10,v11,v12,none,none],⟨y,_,_,_,_,_,hy,by omega,Nat.le_refl _,rfl⟩,?_,?_⟩
 .rintro k ρ _ hk rfl ⟨y5,v8,v9,v10,v11,v12,hd5,hy5,hy5',rfl⟩
  have hkT:86*k+86<=86*T:=by omega
  have g5:(ao ps).length<=8/\((ao ps).length<=5\/7<=(ao ps).length)/\Dk y5/\81<=y5.length/\y5.length<=10000:=⟨h8,by omega,hd5,by omega,by omega⟩
  walk_at "r"
  rintro tb y6 hG htb hd6 hy6 hy6'
  have hp2:0<2^(ao ps).length:=Nat.pow_pos (by decide)
  have hlast:atI (tb.map cS) (-1)=some (cS (tb.getD (2^(ao ps).length - 1) [])):=by
   have:=tz (ds:=tb.map cS) (by rw [List.length_map];omega)
   rw [this,List.length_map,htb,fV (show (tb.map cS)[2^(ao ps).length - 1]?=some (cS (tb.getD (2^(ao ps).length - 1) [])) by rw [List.getElem?_map,List.getElem?_eq_getElem (by omega),List.getD_eq_getElem?_getD,List.getElem?_eq_getElem (by omega)];rfl)]
  have hwl:=hG.wid (2^(ao ps).length - 1) (by omega)
  have hbd:=fun (js:List Nat) hjp=>xv (js:=js) hG h8 htb hjp
  have hnn:=BQ hG h8 htb
  have hAll:=hG.all h8 htb
  have hw8:=zP hG h8
  generalize hLR:tb.getD (2^(ao ps).length - 1) []=LR at hlast hwl hbd hnn
  have hl1':[D.int 0].length+(LR.map D.int).length<=1000000:=by rw [List.length_map];show 1+_<=_;omega
  walk_at "r"
  refine⟨_,hlast,?_⟩
  walk_at "r"
  refine⟨0::LR,rfl,Nat.zero_lt_succ _,fun mx hm1 hm2=>?_⟩
  have hmx:mx=tw LR:=by rw [<- hnn];exact jx hm1 hm2
  have hmx0:mx=tw (0::LR):=jx hm1 hm2
  generalize hB:((ao ps).map fun w=>(w.length:Int)).sum - mx=B
  have hBt:∀t∈tx,B<=(t.length:Int):=fun t ht=>by
   obtain⟨js,h1,h2⟩:=htx t ht
   have:=hbd js h1
   rw [<- hmx0,hB] at this
   exact Int.le_trans this h2
  have e3:pE (.lst []) (.lst []):=pE.of (Sh.lstI []) (Sh.lstI [])
  have e4:deq (.lst []) (.lst [])=true:=nH (Sh.lstI [])
  have e5:pE (.lst (tb.map cS)) (.lst (tb.map cS)):=pE.of ((xw tb).sh (by decide)) ((xw tb).sh (by decide))
  have e6:deq (.lst (tb.map cS)) (.lst (tb.map cS))=true:=nH ((xw tb).sh (by decide))
  have hll:tb.length<=256:=by omega
  have htbm:(tb.map cS).length=tb.length:=List.length_map _
  have g6:tb.length<=256/\(∀r∈tb,r.length<=8)/\Dk y6/\0<y6.length/\y6.length<=10000:=⟨hll,hw8,hd6,by omega,by omega⟩
  have hfil:(tx.filter fun t=>decide ((t.length:Int)<B))=[]:=List.filter_eq_nil_iff.mpr fun t h=>by have:=hBt t h;rw [decide_eq_true_eq];omega
  walk_at "r"
  rw [hB]
  refine cf1 (e:=D.str) (xs:=tx) (fun t=>decide ((t.length:Int)<B)) (fun t=>.str t) (fun t ht v K1 K2 k1 k2=>?_) (fun v=>?_)
  .walk_at "r"
   refine yb (fun c=>?_) (fun c=>?_)
   .walk_at "r"
    exact k1 _ c
   .exact k2 _ c
  rw [hfil]
  walk_at "r"
  rintro e y7 he hd7 hy7
  have hTab:Tab e tb (ao ps).length:=by
   rcases he with rfl|rfl
   .exact xr hG.wid htb
   .exact BI hG.wid htb
  have hFo:dq e/\(ao ps).length<=40:=⟨by
   rcases he with rfl|rfl
   .exact cW (by omega) (nV hw8)
   .refine⟨rfl,by show (tb.map fun r=>D.tup (r.map .int)).length<=1000;rw [List.length_map];omega,fun d hd=>?_⟩
    obtain⟨r,hr,rfl⟩:=List.mem_map.mp hd
    exact⟨⟨rfl,nU r⟩,by show (r.map D.int).length<=1000;rw [List.length_map];have:=hw8 r hr;omega⟩,by omega⟩
  walk_at "r"
  refine⟨fun h=>absurd h (by rw [decide_eq_true h8,iZ hTab];decide),fun tb' _ ht'=>⟨fun _=>?_,fun hna=>absurd hAll (by rw [<- ht'.uniq hTab];exact hna)⟩⟩
  rw [ht'.uniq hTab,hLR,<- hmx,hsum,hB]
  walk_at "r"
  have goOn:True:=trivial
  rcases he with rfl|rfl
  .walk_at "r"
   refine cm1 (e:=cS) (xs:=tb) cS (fun r hr v K1 k1=>?_) (fun v=>?_)
   .have hrl:=hw8 r hr
    have hrm:(r.map D.int).length=r.length:=List.length_map _
    walk_at "r"
    exact k1 _
   walk_at "r"
   rw [e2]
   refine pq (fun c=>?_) (fun c=>?_)
   .have hn0:0<(ao ps).length:=List.length_pos_iff.mpr c
    have g7:oE (ao ps) tb/\tb.length=2^(ao ps).length/\0<(ao ps).length/\(ao ps).length<=8:=⟨hG,htb,hn0,h8⟩
    have g8:Dk y7/\4<=y7.length/\y7.length<=10000:=⟨hd7,by omega,by omega⟩
    walk_at "r"
    rintro e' y8 hfo hno hd8 hy8 hy8'
    have hFo':dq e'/\(ao ps).length<=40:=⟨hfo,by omega⟩
    walk_at "r"
    refine⟨fun h=>?_,fun tb' _ ht'=>⟨fun ha=>?_,fun hna=>?_⟩⟩
    .walk_at "r"
     exact⟨y8,_,_,_,_,_,hd8,by omega,by omega,rfl⟩
    .exfalso
     rcases hno with h|⟨tb0,h1,h2⟩
     .rw [iZ ht'] at h;cases h
     .exact h2 (by rw [<- ht'.uniq h1];exact ha)
    .walk_at "r"
     exact⟨y8,_,_,_,_,_,hd8,by omega,by omega,rfl⟩
   .exact⟨y7,_,_,_,_,_,hd7,by omega,by omega,rfl⟩
  .have hml:(tb.map fun r=>D.tup (r.map .int)).length=tb.length:=List.length_map _
   walk_at "r"
   refine cm1 (e:=fun r:List Int=>D.tup (r.map .int)) (xs:=tb) cS (fun r hr v K1 k1=>?_) (fun v=>?_)
   .have hrl:=hw8 r hr
    have hrm:(r.map D.int).length=r.length:=List.length_map _
    walk_at "r"
    exact k1 _
   walk_at "r"
   rw [e2]
   refine pq (fun c=>?_) (fun c=>?_)
   .have hn0:0<(ao ps).length:=List.length_pos_iff.mpr c
    have g7:oE (ao ps) tb/\tb.length=2^(ao ps).length/\0<(ao ps).length/\(ao ps).length<=8:=⟨hG,htb,hn0,h8⟩
    have g8:Dk y7/\4<=y7.length/\y7.length<=10000:=⟨hd7,by omega,by omega⟩
    walk_at "r"
    rintro e' y8 hfo hno hd8 hy8 hy8'
    have hFo':dq e'/\(ao ps).length<=40:=⟨hfo,by omega⟩
    walk_at "r"
    refine⟨fun h=>?_,fun tb' _ ht'=>⟨fun ha=>?_,fun hna=>?_⟩⟩
    .walk_at "r"
     exact⟨y8,_,_,_,_,_,hd8,by omega,by omega,rfl⟩
    .exfalso
     rcases hno with h|⟨tb0,h1,h2⟩
     .rw [iZ ht'] at h;cases h
     .exact h2 (by rw [<- ht'.uniq h1];exact ha)
    .walk_at "r"
     exact⟨y8,_,_,_,_,_,hd8,by omega,by omega,rfl⟩
   .exact⟨y7,_,_,_,_,_,hd7,by omega,by omega,rfl⟩
 rintro ρ ⟨y5,v8,v9,v10,v11,v12,hd5,hy5,hy5',rfl⟩
 have e3:pE (.lst []) (.lst []):=pE.of (Sh.lstI []) (Sh.lstI [])
 have e4:deq (.lst []) (.lst [])=true:=nH (Sh.lstI [])
 walk_at "r"
 intro es hes hel
 walk_at "r"
 refine cfm (fun τ=>∃v,τ=[v,some (.dat (.obj "Family" lS (lT ps)))]) (fun j=>none) ?_ ?_ ?_
 .exact⟨_,rfl⟩
 .rintro j τ d hj ed ⟨v,rfl⟩ K1 K2 k1 k2
  have hd:=hes d (by rw [ed];exact jg hj)
  have hFo:dq d/\(ao ps).length<=40:=⟨hd.1,by omega⟩
  clear ed
  walk_at "r"
  refine⟨fun _=>?_,fun tb' _ ht'=>absurd (iZ ht') (by rw [hd.2];decide)⟩
  walk_at "r"
  exact k2 _ rfl ⟨_,rfl⟩
 rintro τ ⟨v,rfl⟩
 rw [show (List.range es.length).filterMap (fun _=>(none:Option D))=[] from List.filterMap_eq_nil_iff.mpr fun _ _=>rfl]
 walk_at "r"
 refine cmR (fun j=>.str [97+(3*j+(ao ps).length) % 26]) (fun j hj v K1 k1=>?_) (fun v=>?_)
 .have hj:j<9:=hj
  walk_at "r"
  rw [hwm,show (3*(j:Int)+((ao ps).length:Int)) % 26=(((3*j+(ao ps).length) % 26:Nat):Int) by omega]
  exact⟨_,xh (Nat.mod_lt _ (by decide)),k1 _⟩
 rw [show (List.range (Int.toNat 9)).map (fun j=>D.str [97+(3*j+(ao ps).length) % 26])=(gq (ao ps).length).map D.str by unfold gq;rw [List.map_map];rfl]
 have gl9:(ao (gq (ao ps).length)).length=9:=D9 ⟨(ao ps).length,by omega⟩
 have gpc:=Ea (ao ps).length
 have gpl:(gq (ao ps).length).length=9:=by unfold gq;rw [List.length_map,List.length_range]
 generalize gq (ao ps).length=gs at gl9 gpc gpl
 have g7:gs.length<=40/\Pcs 60 gs:=⟨by omega,gpc⟩
 walk_at "r"
 refine cmR (fun j=>cS ((List.range 9).map fun i=>if j.testBit i then 0 else -1)) (fun j hj v K1 k1=>?_) (fun v=>?_)
 .walk_at "r"
  refine cmR (fun i=>.int (if j.testBit i then 0 else -1)) (fun i hi v K2 k2=>?_) (fun v=>?_)
  .have eb:=pX j i
   show (0:Int)<=(i:Int)/\fU (decide (Builtin.bitAnd ((j:Int) / 2^(i:Int).toNat) 1=1)) _ _
   refine⟨by omega,?_⟩
   rw [eb]
   cases hb:j.testBit i with
  |true =>
    simp only [hb,if_true] at k2
    exact k2 _
  |false =>
    simp only [hb] at k2
    exact k2 _
  .have e9:((List.range (Int.toNat 9)).map fun i=>D.int (if j.testBit i then 0 else -1))=((List.range 9).map fun i=>if j.testBit i then (0:Int) else -1).map D.int:=by rw [List.map_map];rfl
   rw [e9]
   exact k1 _
 have hFo:dq (.lst ((List.range (Int.toNat 512)).map fun j=>cS ((List.range 9).map fun i=>if j.testBit i then 0 else -1)))/\(ao gs).length<=40:=⟨cW (by rw [List.length_map,List.length_range];decide) (fun r hr=>by
  obtain⟨j,_,rfl⟩:=List.mem_map.mp hr
  exact p5 (by rw [List.length_map,List.length_range];decide)),by omega⟩
 generalize ((List.range (Int.toNat 512)).map fun j=>cS ((List.range 9).map fun i=>if j.testBit i then (0:Int) else -1))=big at hFo
 walk_at "r"
 refine⟨fun _=>?_,fun tb' h _=>absurd h (by omega)⟩
 walk_at "r"
 exact q
theorem Ec:∀ds Q,tM ds Q->dY tO zR ds Q:=fun ds Q h=>by
 obtain⟨ns,rfl,h63,q⟩:=h
 exact BS ns h63 Q q
section
variable {P:Program}{w:World}{K:PySem.W.Frag}{mg:Str->Option Value}{base:Heap}
theorem qq:∀ds Q,cA ds Q->ds.length=1:=fun ds Q h=>by unfold cA at h;split at h;(first|rfl|exact h.elim);(first|rfl|exact h.elim)
theorem xy (D:cN K mg "is_row" nR) (T:Txt mg) (TC:TxC K):Cal P w K mg base 1 "is_row" ["thing"] (spP K cA):=by
 refine D.ok xb (fun _ _ _ _ _ _ us hl=>match us,hl with|[_],_=>rfl) (fun vs H Q E h=>?_) (fun f cdv A outer s H vs Q E hr h=>?_)
 .exact j2 qq h
 .have hu:=hr.units
  exact⟨_,(au (ba (az (E5 K rfl) rfl T.b_isinstance boot_isinstance (paC (pv 0) (paC (gX (paC (kj (v:=.ty "list") rfl T.b_list boot_list rfl) (paC (kj (v:=.ty "tuple") rfl T.b_tuple boot_tuple rfl) ag))) ag))))),fnP (K:=K) (c:=cA) (ps:=i3) (N:=["thing"]) (bc (Dl .list .tuple lP (am (i:=0)))) (fun ds Q h=>Nat.le_trans (Nat.le_of_eq (qq ds Q h)) (by decide)) xx h⟩
theorem jP:∀ds Q,bC ds Q->ds.length=1:=fun ds Q h=>by unfold bC at h;split at h;(first|rfl|exact h.elim);(first|rfl|exact h.elim)
theorem qt (D:cN K mg "is_number" iz) (T:Txt mg) (TC:TxC K):Cal P w K mg base 1 "is_number" ["thing"] (spP K bC):=by
 refine D.ok pU (fun _ _ _ _ _ _ us hl=>match us,hl with|[_],_=>rfl) (fun vs H Q E h=>?_) (fun f cdv A outer s H vs Q E hr h=>?_)
 .exact j2 jP h
 .have hu:=hr.units
  exact⟨_,(au (ba (rV (az (AO K rfl) rfl T.b_isinstance boot_isinstance (paC (pv 0) (paC (kj (v:=.ty "int") rfl T.b_int boot_int rfl) ag))) (uU (zc (az (AO K rfl) rfl T.b_isinstance boot_isinstance (paC (pv 0) (paC (kj (v:=.ty "bool") rfl T.b_bool boot_bool rfl) ag)))))))),fnP (K:=K) (c:=bC) (ps:=eO) (N:=["thing"]) (bc (sB (wc .int (am (i:=0))) (zp (wc .bool (am (i:=0)))))) (fun ds Q h=>Nat.le_trans (Nat.le_of_eq (jP ds Q h)) (by decide)) p8 h⟩
theorem ii:∀ds Q,bg ds Q->ds.length=2:=fun ds Q h=>by unfold bg at h;split at h;(first|rfl|exact h.elim);(first|rfl|exact h.elim)
theorem mh (D:cN K mg "are_numbers" fE) (T:Txt mg) (TC:TxC K) (C_is_number:Cal P w K mg base 1 "is_number" ["thing"] (spP K bC)) (C_is_row:Cal P w K mg base 1 "is_row" ["thing"] (spP K cA)):Cal P w K mg base 2 "are_numbers" ["thing","many"] (spP K bg):=by
 refine D.ok lU (fun _ _ _ _ _ _ us hl=>match us,hl with|[_,_],_=>rfl) (fun vs H Q E h=>?_) (fun f cdv A outer s H vs Q E hr h=>?_)
 .exact j2 ii h
 .have hu:=hr.units
  exact⟨_,(au (ba (rV (aA C_is_row (hr.mono (by decide)) (paC (pv 0) ag)) (rV (ip (gz K rfl hu) (az (c6 K rfl) rfl T.b_len PySem.boot_len (paC (pv 0) ag)) (pv 1) (bb _)) (uU (az (yh K rfl rfl) rfl T.b_all boot_all (paC (bG (wi:=(gK K (a9 0))) (g:=(bR 0)) (tts:=gJ) (te:=(eB (spP K bC) [] E0 (aW (a9 0) dC))) ["item"] [none] rfl (cr K rfl (pv 0)) (fun _ _ _ _=>⟨(aK (i:=0) (by show List.Nodup (["item"]:List Str);decide +kernel) rfl (by first|exact Or.inl rfl|exact Or.inr rfl)),bB,(aA C_is_number (hr.mono (by decide)) (paC (pv 0) ag))⟩) (by kernel_rfl)) ag))))))),fnP (K:=K) (c:=bg) (ps:=dF) (N:=["thing","many"]) (bc (sB (aR (c:=cA) (aa (ac (ak (i:=0))) ae)) (sB (aj dM (ac (bu bK (aa (am (i:=0)) ae))) (am (i:=1))) (bu sF (aa (ac (bd (ix:=[none]) rfl (cz (ak (i:=0))) (fun fs hc=>(aE (i:=0) (gL hc (by decide)))) cO (aR (c:=bC) (aa (ac (ak (i:=0))) ae)))) ae))))) (fun ds Q h=>Nat.le_trans (Nat.le_of_eq (ii ds Q h)) (by decide)) lX h⟩
theorem mV:∀ds Q,bQ ds Q->ds.length=1:=fun ds Q h=>by unfold bQ at h;split at h;(first|rfl|exact h.elim);(first|rfl|exact h.elim)
theorem uK (D:cN K mg "members" kY) (T:Txt mg) (TC:TxC K):Cal P w K mg base 1 "members" ["mark"] (spP K bQ):=by
 refine D.ok uy (fun _ _ _ _ _ _ us hl=>match us,hl with|[_],_=>rfl) (fun vs H Q E h=>?_) (fun f cdv A outer s H vs Q E hr h=>?_)
 .exact j2 mV h
 .have hu:=hr.units
  exact⟨_,(au (ba (bG (wi:=(jW (aW (CF K "int" Bi (a9 0)) dC))) (g:=(bR 0)) (tts:=(tBI (tOp ut (tOp B1 (a9 1) (a9 0)) (tC (V.int 1))))) (te:=(a9 0)) ["i","mark"] [none,some 0] rfl (bZ rfl T.b_range (paC (Bm K rfl PySem.F.plainAttrs_int PySem.F.slot_int_bit_length PySem.F.type_int_bit_length Bj (pv 0)) ag)) (fun _ _ _ _=>⟨(aK (i:=0) (by show List.Nodup (["i","mark"]:List Str);decide +kernel) rfl (by first|exact Or.inl rfl|exact Or.inr rfl)),(fA (DW (aC pJ (aC wA (pv 1) (pv 0)) ai))),(pv 0)⟩) (by kernel_rfl)))),fnP (K:=K) (c:=bQ) (ps:=gO) (N:=["mark"]) (bc (bd (ix:=[none,some 0]) rfl (iR (aa (ac (Bl (ak (i:=0)))) ae)) (fun fs hc=>(aE (i:=0) (gL hc (by decide)))) (Fn (aj kU (ac (aj pI (am (i:=1)) (am (i:=0)))) (ac le_int))) (ak (i:=0)))) (fun ds Q h=>Nat.le_trans (Nat.le_of_eq (mV ds Q h)) (by decide)) uF h⟩
theorem i5:∀ds Q,bz ds Q->ds.length=4:=fun ds Q h=>by unfold bz at h;split at h;(first|rfl|exact h.elim);(first|rfl|exact h.elim)
theorem oq (D:cN K mg "most_saved" gC) (T:Txt mg) (TC:TxC K) (C_members:Cal P w K mg base 1 "members" ["mark"] (spP K bQ)):Cal P w K mg base 2 "most_saved" ["family","table","mark","i"] (spP K bz):=by
 refine D.ok iU (fun _ _ _ _ _ _ us hl=>match us,hl with|[_,_,_,_],_=>rfl) (fun vs H Q E h=>?_) (fun f cdv A outer s H vs Q E hr h=>?_)
 .exact j2 i5 h
 .have hu:=hr.units
  exact⟨_,(ah (dr (aN (kg K rfl) (pv 3) (aA C_members (hr.mono (by decide)) (paC (pv 2) ag)) (by with_unfolding_all rfl)) (au (ba (kn gg ai))) bE) (ah (aF (i:=4) iU.nd rfl (by first|exact Or.inl rfl|exact Or.inr rfl) (aC nE (pv 2) (aC yA ai (pv 3)))) (au (ba (Bs K rfl rfl rfl T.b_max (paC (bG (wi:=(gK K (eB (spP K bQ) [] E0 (aW (a9 4) dC)))) (g:=(bR 0)) (tts:=gJ) (te:=(tOp (pS K) (tOp (pF K) (tOp (pF K) (a9 2) (a9 3)) (a9 0)) (tOp (pF K) (tOp (pF K) (u8 K (a9 4) "laps") (a9 0)) (a9 1)))) ["j","i","table","rest","family"] [none,some 3,some 1,some 4,some 0] rfl (cr K rfl (aA C_members (hr.mono (by decide)) (paC (pv 4) ag))) (fun _ _ _ _=>⟨(aK (i:=0) (by show List.Nodup (["j","i","table","rest","family"]:List Str);decide +kernel) rfl (by first|exact Or.inl rfl|exact Or.inr rfl)),bB,(aC (bx K rfl) (b7 (eH K rfl) (b7 (eH K rfl) (pv 2) (pv 3) (fun _ _=>rfl)) (pv 0) (fun _ _=>rfl)) (b7 (eH K rfl) (b7 (eH K rfl) (dS K rfl (pv 4) rfl) (pv 0) (fun _ _=>rfl)) (pv 1) (fun _ _=>rfl)))⟩) (by kernel_rfl)) ag) ai))))),fnP (K:=K) (c:=bz) (ps:=d0) (N:=["family","table","mark","i","rest"]) (ay (dU (eW (aj pQ (am (i:=3)) (ac (aR (c:=bQ) (aa (ac (ak (i:=2))) ae))))) (bc (kL gw (ac le_int))) bF) (ay (aD (aj iO (am (i:=2)) (ac (aj sN (ac le_int) (am (i:=3))))) (ax (i:=4) rfl)) (bc (Bt (ac (bd (ix:=[none,some 3,some 1,some 4,some 0]) rfl (cz (aR (c:=bQ) (aa (ac (ak (i:=4))) ae))) (fun fs hc=>(aE (i:=0) (gL hc (by decide)))) cO (aj aX (ac (aj cu (ac (aj cu (am (i:=2)) (am (i:=3)))) (am (i:=0)))) (ac (aj cu (ac (aj cu (ac (fW (ns0:=["pieces","kept","words","left","laps","total"]) TC.cl_Family TC.n_Family_laps (i:=4) (by decide +kernel) (am (i:=4)))) (am (i:=0)))) (am (i:=1))))))) le_int)))) (fun ds Q h=>Nat.le_trans (Nat.le_of_eq (i5 ds Q h)) (by decide)) nZ h⟩
theorem fi:∀ds Q,aS ds Q->ds.length=2:=fun ds Q h=>by unfold aS at h;split at h;(first|rfl|exact h.elim);(first|rfl|exact h.elim)
theorem jA (D:cN K mg "has_table_form" dW) (T:Txt mg) (TC:TxC K) (C_Family_many:C8 P w K mg base 1 (cC K "Family") "many" ["self"] (spP K aU)) (C_are_numbers:Cal P w K mg base 2 "are_numbers" ["thing","many"] (spP K bg)) (C_is_row:Cal P w K mg base 1 "is_row" ["thing"] (spP K cA)):Cal P w K mg base 3 "has_table_form" ["family","paper"] (spP K aS):=by
 refine D.ok fe (fun _ _ _ _ _ _ us hl=>match us,hl with|[_,_],_=>rfl) (fun vs H Q E h=>?_) (fun f cdv A outer s H vs Q E hr h=>?_)
 .exact j2 fi h
 .have hu:=hr.units
  exact⟨_,(ah (aF (i:=2) fe.nd rfl (by first|exact Or.inl rfl|exact Or.inr rfl) (sA (pv 0) TC.cl_Family C_Family_many (hr.mono (by decide)))) (ah (dr (PW.pt (tQ (aN zv (pv 2) (nr rfl T.g_MOST_TABLE_WORDS) (bb _)) (tQ (jB (eY (aA C_is_row (hr.mono (by decide)) (paC (pv 1) ag)))) (rT (aN (qX K rfl hu) (az (c6 K rfl) rfl T.b_len PySem.boot_len (paC (pv 1) ag)) (aC yA ai (pv 2)) (bb _)))))) (au (ba oG)) bE) (au (ba (az (yh K rfl rfl) rfl T.b_all boot_all (paC (bG (wi:=(gK K (a9 1))) (g:=(bR 0)) (tts:=gJ) (te:=(eB (spP K bg) [] E0 (aW (a9 0) (aW (a9 1) dC)))) ["row","many"] [none,some 2] rfl (cr K rfl (pv 1)) (fun _ _ _ _=>⟨(aK (i:=0) (by show List.Nodup (["row","many"]:List Str);decide +kernel) rfl (by first|exact Or.inl rfl|exact Or.inr rfl)),bB,(aA C_are_numbers (hr.mono (by decide)) (paC (pv 0) (paC (pv 1) ag)))⟩) (by kernel_rfl)) ag)))))),fnP (K:=K) (c:=aS) (ps:=cX) (N:=["family","paper","many"]) (ay (aD (sJ (c0:="Family") (m:="many") (ns0:=["pieces","kept","words","left","laps","total"]) (c:=aU) (by decide +kernel) (ak (i:=0)) ae) (ax (i:=2) rfl)) (ay (dU (uh (eW (aj pD (am (i:=2)) (ac (le_int (i:=8))))) (uh (jE (vW (aR (c:=cA) (aa (ac (ak (i:=1))) ae)))) (eW (aj kS (ac (bu bK (aa (am (i:=1)) ae))) (ac (aj sN (ac le_int) (am (i:=2)))))))) (bc px) bF) (bc (bu sF (aa (ac (bd (ix:=[none,some 2]) rfl (cz (ak (i:=1))) (fun fs hc=>(aE (i:=0) (gL hc (by decide)))) cO (aR (c:=bg) (aa (ac (ak (i:=0))) (aa (ac (ak (i:=1))) ae))))) ae))))) (fun ds Q h=>Nat.le_trans (Nat.le_of_eq (fi ds Q h)) (by decide)) jy h⟩
theorem jQ:∀ds Q,bD ds Q->ds.length=4:=fun ds Q h=>by unfold bD at h;split at h;(first|rfl|exact h.elim);(first|rfl|exact h.elim)
theorem qu (D:cN K mg "is_enough" iA) (T:Txt mg) (TC:TxC K) (C_most_saved:Cal P w K mg base 2 "most_saved" ["family","table","mark","i"] (spP K bz)):Cal P w K mg base 3 "is_enough" ["family","paper","mark","i"] (spP K bD):=by
 refine D.ok jG (fun _ _ _ _ _ _ us hl=>match us,hl with|[_,_,_,_],_=>rfl) (fun vs H Q E h=>?_) (fun f cdv A outer s H vs Q E hr h=>?_)
 .exact j2 jQ h
 .have hu:=hr.units
  exact⟨_,(ah (aF (i:=4) jG.nd rfl (by first|exact Or.inl rfl|exact Or.inr rfl) (aA C_most_saved (hr.mono (by decide)) (paC (pv 0) (paC (pv 1) (paC (pv 2) (paC (pv 3) ag)))))) (au (ba (rW (aN (gz K rfl hu) (pv 4) (kn gg ai) (bb _)) (ip (gz K rfl hu) (b7 (eH K rfl) (b7 (eH K rfl) (pv 1) (pv 2) (fun _ _=>rfl)) (pv 3) (fun _ _=>rfl)) (kn gg ai) (bb _)) (ip FQ (b7 (eH K rfl) (b7 (eH K rfl) (pv 1) (pv 2) (fun _ _=>rfl)) (pv 3) (fun _ _=>rfl)) (pv 4) (bb _)))))),fnP (K:=K) (c:=bD) (ps:=eP) (N:=["family","paper","mark","i","least"]) (ay (aD (aR (c:=bz) (aa (ac (ak (i:=0))) (aa (ac (ak (i:=1))) (aa (ac (ak (i:=2))) (aa (ac (ak (i:=3))) ae))))) (ax (i:=4) rfl)) (bc (Dd (eW (aj dM (am (i:=4)) (ac (kL gw (ac le_int))))) (aj dM (ac (aj cu (ac (aj cu (am (i:=1)) (am (i:=2)))) (am (i:=3)))) (ac (kL gw (ac le_int)))) (aj Df (ac (aj cu (ac (aj cu (am (i:=1)) (am (i:=2)))) (am (i:=3)))) (am (i:=4)))))) (fun ds Q h=>Nat.le_trans (Nat.le_of_eq (jQ ds Q h)) (by decide)) qc h⟩
theorem ij:∀ds Q,aJ ds Q->ds.length=2:=fun ds Q h=>by unfold aJ at h;split at h;(first|rfl|exact h.elim);(first|rfl|exact h.elim)
theorem mi (D:cN K mg "table_bound" fF) (T:Txt mg) (TC:TxC K) (C_Family_many:C8 P w K mg base 1 (cC K "Family") "many" ["self"] (spP K aU)) (C_has_table_form:Cal P w K mg base 3 "has_table_form" ["family","paper"] (spP K aS)) (C_is_enough:Cal P w K mg base 3 "is_enough" ["family","paper","mark","i"] (spP K bD)):Cal P w K mg base 4 "table_bound" ["family","paper"] (spP K aJ):=by
 refine D.ok hX (fun _ _ _ _ _ _ us hl=>match us,hl with|[_,_],_=>rfl) (fun vs H Q E h=>?_) (fun f cdv A outer s H vs Q E hr h=>?_)
 .exact j2 ij h
 .have hu:=hr.units
  exact⟨_,(ah (dr (jB (eY (aA C_has_table_form (hr.mono (by decide)) (paC (pv 0) (paC (pv 1) ag))))) (au (ba gW)) bE) (ah (aF (i:=2) hX.nd rfl (by first|exact Or.inl rfl|exact Or.inr rfl) (bv (wn K rfl rfl) rfl T.b_list boot_list (paC (kH rfl T.b_range (paC (sA (pv 0) TC.cl_Family C_Family_many (hr.mono (by decide))) ag)) ag))) (ah (dr (jB (eY (az (yh K rfl rfl) rfl T.b_all boot_all (paC (yx (wi:=(jW (aW (tCB (jZ K) (aW (a9 1) dC)) dC))) (g:=(bR 0)) (tts:=gJ) (wi2:=(gK K (a9 4))) (g2:=(bR 1)) (tts2:=gJ) (te:=(eB (spP K bD) [] E0 (aW (a9 2) (aW (a9 3) (aW (a9 0) (aW (a9 1) dC)))))) ["mark","i","family","paper","numbers"] [none,none,some 0,some 1,some 2] rfl (bZ rfl T.b_range (paC (az (c6 K rfl) rfl T.b_len PySem.boot_len (paC (pv 1) ag)) ag)) (fun _ _ _ _=>⟨(aK (i:=0) (by show List.Nodup (["mark","i","family","paper","numbers"]:List Str);decide +kernel) rfl (by first|exact Or.inl rfl|exact Or.inr rfl)),bB,(cr K rfl (pv 4)),(aK (i:=1) (by show List.Nodup (["mark","i","family","paper","numbers"]:List Str);decide +kernel) rfl (by first|exact Or.inl rfl|exact Or.inr rfl)),bB,(aA C_is_enough (hr.mono (by decide)) (paC (pv 2) (paC (pv 3) (paC (pv 0) (paC (pv 1) ag)))))⟩) (by kernel_rfl)) ag)))) (au (ba gW)) bE) (au (ba (aC nE (dS K rfl (pv 0) rfl) (Bv K rfl rfl rfl T.b_max (paC (b7 (eH K rfl) (pv 1) (kn gg ai) (fun _ _=>rfl)) ag) ai))))))),fnP (K:=K) (c:=aJ) (ps:=dG) (N:=["family","paper","numbers"]) (ay (dU (jE (vW (aR (c:=aS) (aa (ac (ak (i:=0))) (aa (ac (ak (i:=1))) ae))))) (bc hC) bF) (ay (aD (nB false (aa (ac (sJ (c0:="Family") (m:="many") (ns0:=["pieces","kept","words","left","laps","total"]) (c:=aU) (by decide +kernel) (ak (i:=0)) ae)) ae)) (ax (i:=2) rfl)) (ay (dU (jE (vW (bu sF (aa (ac (yz (ix:=[none,none,some 0,some 1,some 2]) rfl (iR (aa (ac (bu bK (aa (am (i:=1)) ae))) ae)) (fun fs hc=>(aE (i:=0) (gL hc (by decide)))) cO (cz (ak (i:=4))) (fun fs hc=>(aE (i:=1) (gL hc (by decide)))) cO (aR (c:=bD) (aa (ac (ak (i:=2))) (aa (ac (ak (i:=3))) (aa (ac (ak (i:=0))) (aa (ac (ak (i:=1))) ae))))))) ae)))) (bc hC) bF) (bc (aj iO (ac (fW (ns0:=["pieces","kept","words","left","laps","total"]) TC.cl_Family TC.n_Family_total (i:=5) (by decide +kernel) (am (i:=0)))) (ac (Bw (ac (aj cu (am (i:=1)) (ac (kL gw (ac le_int))))) le_int))))))) (fun ds Q h=>Nat.le_trans (Nat.le_of_eq (ij ds Q h)) (by decide)) lZ h⟩
theorem mW:∀ds Q,cV ds Q->ds.length=3:=fun ds Q h=>by unfold cV at h;split at h;(first|rfl|exact h.elim);(first|rfl|exact h.elim)
theorem uL (D:su K mg "is_text" fc [.int 0,.int 4000]) (T:Txt mg) (TC:TxC K):C5 P w K mg base 1 "is_text" ["thing","least","most"] [.int 0,.int 4000] (spP K cV):=by
 refine D.ok uz (fun dT kV doc pm an cdv ct items us n hi hn hl=>?_) (fun vs H Q E h=>?_) (fun f cdv A outer s H vs Q E hr h=>?_)
 .obtain⟨i0,i1,rfl⟩:∃i0 i1,items=[i0,i1]:=match items,hi with|[i0,i1],_=>⟨i0,i1,rfl⟩
  have hn':n=0\/n=1\/n=2:=by (have:n<=2:=hn);omega
  rcases hn' with rfl|rfl|rfl
  .have hl2:us.length=1:=by (simp at hl;omega)
   match us,hl2 with
  |[_],_=>exact⟨_,rfl,rfl⟩
  .have hl2:us.length=2:=by (simp at hl;omega)
   match us,hl2 with
  |[_,_],_=>exact⟨_,rfl,rfl⟩
  .have hl2:us.length=3:=by (simp at hl;omega)
   match us,hl2 with
  |[_,_,_],_=>exact⟨_,rfl,rfl⟩
 .exact j2 mW h
 .have hu:=hr.units
  exact⟨_,(ah (dr (PW.pt (tQ (jB (eY (az (AO K rfl) rfl T.b_isinstance boot_isinstance (paC (pv 0) (paC (kj (v:=.ty "str") rfl T.b_str boot_str rfl) ag))))) (rT (jB (xI El El (pv 1) (az (c6 K rfl) rfl T.b_len PySem.boot_len (paC (pv 0) ag)) (pv 2)))))) (au (ba oG)) bE) (au (ba (az (yh K rfl rfl) rfl T.b_all boot_all (paC (bG (wi:=(gK K (a9 0))) (g:=(bR 0)) (tts:=gJ) (te:=(rY Ek Ek (tC (V.str (S [97]))) (a9 0) (tC (V.str (S [122]))))) ["sign"] [none] rfl (cr K rfl (pv 0)) (fun _ _ _ _=>⟨(aK (i:=0) (by show List.Nodup (["sign"]:List Str);decide +kernel) rfl (by first|exact Or.inl rfl|exact Or.inr rfl)),bB,(xH El El (dD (l:=[97]) (by decide +kernel)) (pv 0) (dD (l:=[122]) (by decide +kernel)))⟩) (by kernel_rfl)) ag))))),fnP (K:=K) (c:=cV) (ps:=gP) (N:=["thing","least","most"]) (ay (dU (uh (jE (vW (wc .str (am (i:=0))))) (jE (eW (sC ye ye (am (i:=1)) (ac (bu bK (aa (am (i:=0)) ae))) (am (i:=2)))))) (bc px) bF) (bc (bu sF (aa (ac (bd (ix:=[none]) rfl (cz (ak (i:=0))) (fun fs hc=>(aE (i:=0) (gL hc (by decide)))) cO (sC ye ye (ac (le_str (l:=[97]))) (am (i:=0)) (ac (le_str (l:=[122])))))) ae)))) (fun ds Q h=>Nat.le_trans (Nat.le_of_eq (mW ds Q h)) (by decide)) uG h⟩
theorem ik:∀ds Q,aT ds Q->ds.length=2:=fun ds Q h=>by unfold aT at h;split at h;(first|rfl|exact h.elim);(first|rfl|exact h.elim)
theorem mj (D:cN K mg "first_place" fG) (T:Txt mg) (TC:TxC K):Cal P w K mg base 1 "first_place" ["text","piece"] (spP K aT):=by
 refine D.ok lV (fun _ _ _ _ _ _ us hl=>match us,hl with|[_,_],_=>rfl) (fun vs H Q E h=>?_) (fun f cdv A outer s H vs Q E hr h=>?_)
 .exact j2 ik h
 .have hu:=hr.units
  exact⟨_,(au (ba (gZ K rfl PySem.F.plainAttrs_str PySem.F.slot_str_find PySem.F.type_str_find yk (pv 0) (paC (pv 1) ag)))),fnP (K:=K) (c:=aT) (ps:=dH) (N:=["text","piece"]) (bc (Dy yl (ak (i:=0)) (aa (am (i:=1)) ae))) (fun ds Q h=>Nat.le_trans (Nat.le_of_eq (ik ds Q h)) (by decide)) l6 h⟩
theorem zS:∀ds Q,fY ds Q->ds.length=2:=fun ds Q h=>by unfold fY at h;split at h;(first|rfl|exact h.elim);(first|rfl|exact h.elim)
theorem Ed (D:cN K mg "lap" Bz) (T:Txt mg) (TC:TxC K):Cal P w K mg base 1 "lap" ["one","other"] (spP K fY):=by
 refine D.ok zJ (fun _ _ _ _ _ _ us hl=>match us,hl with|[_,_],_=>rfl) (fun vs H Q E h=>?_) (fun f cdv A outer s H vs Q E hr h=>?_)
 .exact j2 zS h
 .have hu:=hr.units
  exact⟨_,(ah (gf PassesOwn.never rfl (oV rfl T.b_range (paC (aC nE (az (zt rfl) rfl T.b_min boot_min (paC (az (c6 K rfl) rfl T.b_len PySem.boot_len (paC (pv 0) ag)) (paC (az (c6 K rfl) rfl T.b_len PySem.boot_len (paC (pv 1) ag)) ag))) ai) (paC ai (paC (kn gg ai) ag)))) (aK (i:=2) zJ.nd rfl (by first|exact Or.inl rfl|exact Or.inr rfl)) (au (dr (eY (gZ K rfl PySem.F.plainAttrs_str PySem.F.slot_str_endswith PySem.F.type_str_endswith AZ (pv 0) (paC (bU (oA K rfl) (pv 1) cT (cG (pv 2))) ag))) (au (ba (pv 2))) bE))) (au (ba ai))),fnP (K:=K) (c:=fY) (ps:=tN) (N:=["one","other","k"]) (ay (gu (Dn (aa (ac (aj iO (ac (bu wl (aa (ac (bu bK (aa (am (i:=0)) ae))) (aa (ac (bu bK (aa (am (i:=1)) ae))) ae)))) (ac le_int))) (aa (ac le_int) (aa (ac (kL gw (ac le_int))) ae)))) (aE (i:=2) rfl) (dU (vW (Dy A1 (ak (i:=0)) (aa (ac (bV (am (i:=1)) b8 (bH (ak (i:=2))))) ae))) (bc (ak (i:=2))) bF)) (bc le_int)) (fun ds Q h=>Nat.le_trans (Nat.le_of_eq (zS ds Q h)) (by decide)) Eb h⟩
theorem lE:∀ds Q,cj ds Q->ds.length=1:=fun ds Q h=>by unfold cj at h;split at h;(first|rfl|exact h.elim);(first|rfl|exact h.elim)
theorem rL (D:cN K mg "all_laps" jk) (T:Txt mg) (TC:TxC K) (C_lap:Cal P w K mg base 1 "lap" ["one","other"] (spP K fY)):Cal P w K mg base 2 "all_laps" ["words"] (spP K cj):=by
 refine D.ok rj (fun _ _ _ _ _ _ us hl=>match us,hl with|[_],_=>rfl) (fun vs H Q E h=>?_) (fun f cdv A outer s H vs Q E hr h=>?_)
 .exact j2 lE h
 .have hu:=hr.units
  exact⟨_,(au (ba (bv (gv K rfl) rfl T.b_tuple boot_tuple (paC (bG (wi:=(gK K (a9 0))) (g:=(bR 0)) (tts:=gJ) (te:=(tCB (yi K) (aW (lN [none,some 0] (gK K (a9 1)) (bR 0) gJ (eB (spP K fY) [] E0 (aW (a9 1) (aW (a9 0) dC)))) dC))) ["one","words"] [none,some 0] rfl (cr K rfl (pv 0)) (fun _ _ _ _=>⟨(aK (i:=0) (by show List.Nodup (["one","words"]:List Str);decide +kernel) rfl (by first|exact Or.inl rfl|exact Or.inr rfl)),bB,(bv (gv K rfl) rfl T.b_tuple boot_tuple (paC (bG (wi:=(gK K (a9 1))) (g:=(bR 0)) (tts:=gJ) (te:=(eB (spP K fY) [] E0 (aW (a9 1) (aW (a9 0) dC)))) ["other","one"] [none,some 0] rfl (cr K rfl (pv 1)) (fun _ _ _ _=>⟨(aK (i:=0) (by show List.Nodup (["other","one"]:List Str);decide +kernel) rfl (by first|exact Or.inl rfl|exact Or.inr rfl)),bB,(aA C_lap (hr.mono (by decide)) (paC (pv 1) (paC (pv 0) ag)))⟩) (by kernel_rfl)) ag))⟩) (by kernel_rfl)) ag)))),fnP (K:=K) (c:=cj) (ps:=fL) (N:=["words"]) (bc (bu eI (aa (ac (bd (ix:=[none,some 0]) rfl (cz (ak (i:=0))) (fun fs hc=>(aE (i:=0) (gL hc (by decide)))) cO (bu eI (aa (ac (bd (ix:=[none,some 0]) rfl (cz (ak (i:=1))) (fun fs hc=>(aE (i:=0) (gL hc (by decide)))) cO (aR (c:=fY) (aa (ac (ak (i:=1))) (aa (ac (ak (i:=0))) ae))))) ae)))) ae))) (fun ds Q h=>Nat.le_trans (Nat.le_of_eq (lE ds Q h)) (by decide)) rA h⟩
theorem gH:∀ds Q,bh ds Q->ds.length=1:=fun ds Q h=>by unfold bh at h;split at h;(first|rfl|exact h.elim);(first|rfl|exact h.elim)
theorem lF (D:cN K mg "check_pieces" eZ) (T:Txt mg) (TC:TxC K) (C_is_text:C5 P w K mg base 1 "is_text" ["thing","least","most"] [.int 0,.int 4000] (spP K cV)):Cal P w K mg base 2 "check_pieces" ["things"] (spP K bh):=by
 refine D.ok eA (fun _ _ _ _ _ _ us hl=>match us,hl with|[_],_=>rfl) (fun vs H Q E h=>?_) (fun f cdv A outer s H vs Q E hr h=>?_)
 .exact j2 gH h
 .have hu:=hr.units
  exact⟨_,(ah (dr (aN zv (az (c6 K rfl) rfl T.b_len PySem.boot_len (paC (pv 0) ag)) (nr rfl T.g_MOST_PIECES) (bb _)) (au rX) bE) (au (gf PassesOwn.never rfl (sK K rfl rfl T.b_enumerate (paC (pv 0) ag)) (zA K rfl (n:=2) rfl (j8 (aK (i:=1) eA.nd rfl (by first|exact Or.inl rfl|exact Or.inr rfl)) (j8 (aK (i:=2) eA.nd rfl (by first|exact Or.inl rfl|exact Or.inr rfl)) uV))) (au (dr (jB (eY (yC 2 C_is_text (hr.mono (by decide)) (by decide) (paC (pv 2) (paC ai (paC (nr rfl T.g_MOST_SIGNS) ag)))))) (au rX) bE))))),fnP (K:=K) (c:=bh) (ps:=dw) (N:=["things","at","thing"]) (ay (dU (eW (aj pD (ac (bu bK (aa (am (i:=0)) ae))) (ac (le_int (i:=40))))) sD bF) (gu (wj (aa (ac (ak (i:=0))) ae)) (wB (ka (aE (i:=1) rfl) (ka (aE (i:=2) rfl) wd))) (dU (jE (vW (yp (ds:=[]) (by repeat (first|exact .nil|exact .cons (.int _) .nil|refine .cons (.int _) ?_)) (aa (ac (ak (i:=2))) (aa (ac le_int) (aa (ac (le_int (i:=60))) ae)))))) sD bF))) (fun ds Q h=>Nat.le_trans (Nat.le_of_eq (gH ds Q h)) (by decide)) lA h⟩
theorem f8:∀ds Q,aH ds Q->ds.length=2:=fun ds Q h=>by unfold aH at h;split at h;(first|rfl|exact h.elim);(first|rfl|exact h.elim)
theorem j7 (D:cN K mg "stands_within" ey) (T:Txt mg) (TC:TxC K) (C_first_place:Cal P w K mg base 1 "first_place" ["text","piece"] (spP K aT)):Cal P w K mg base 2 "stands_within" ["piece","other"] (spP K aH):=by
 refine D.ok j4 (fun _ _ _ _ _ _ us hl=>match us,hl with|[_,_],_=>rfl) (fun vs H Q E h=>?_) (fun f cdv A outer s H vs Q E hr h=>?_)
 .exact j2 f8 h
 .have hu:=hr.units
  exact⟨_,(au (ba (ip FQ (aA C_first_place (hr.mono (by decide)) (paC (pv 1) (paC (pv 0) ag))) ai (bb _)))),fnP (K:=K) (c:=aH) (ps:=dg) (N:=["piece","other"]) (bc (aj Df (ac (aR (c:=aT) (aa (ac (ak (i:=1))) (aa (ac (ak (i:=0))) ae)))) (ac le_int))) (fun ds Q h=>Nat.le_trans (Nat.le_of_eq (f8 ds Q h)) (by decide)) j6 h⟩
theorem mX:∀ds Q,cB ds Q->ds.length=2:=fun ds Q h=>by unfold cB at h;split at h;(first|rfl|exact h.elim);(first|rfl|exact h.elim)
theorem uM (D:cN K mg "is_kept" kZ) (T:Txt mg) (TC:TxC K) (C_stands_within:Cal P w K mg base 2 "stands_within" ["piece","other"] (spP K aH)):Cal P w K mg base 3 "is_kept" ["pieces","at"] (spP K cB):=by
 refine D.ok jr (fun _ _ _ _ _ _ us hl=>match us,hl with|[_,_],_=>rfl) (fun vs H Q E h=>?_) (fun f cdv A outer s H vs Q E hr h=>?_)
 .exact j2 mX h
 .have hu:=hr.units
  exact⟨_,(ah (aF (i:=2) jr.nd rfl (by first|exact Or.inl rfl|exact Or.inr rfl) (b7 (eH K rfl) (pv 0) (pv 1) (fun _ _=>rfl))) (ah (fB (wi:=(gK K (a9 0))) (g:=(bR 0)) (tts:=(jX (tOp Ff (tCB (jZ K) (aW (a9 0) dC)) (tCB (jZ K) (aW (a9 1) dC))))) (te:=(a9 0)) (i:=3) ["other","piece"] [none,some 2] jr.nd rfl (Or.inl rfl) rfl (cr K rfl (pv 0)) (fun _ _ _ _=>⟨(aK (i:=0) (by show List.Nodup (["other","piece"]:List Str);decide +kernel) rfl (by first|exact Or.inl rfl|exact Or.inr rfl)),(fA (aN zv (az (c6 K rfl) rfl T.b_len PySem.boot_len (paC (pv 0) ag)) (az (c6 K rfl) rfl T.b_len PySem.boot_len (paC (pv 1) ag)) (bb _))),(pv 0)⟩) (by kernel_rfl)) (au (ba (rV (ip (kg K rfl) (pv 2) (bU (oA K rfl) (pv 0) cT (cG (pv 1))) (by with_unfolding_all rfl)) (uU (zc (az (Fa K rfl rfl) rfl T.b_any boot_any (paC (bG (wi:=(gK K (a9 3))) (g:=(bR 0)) (tts:=gJ) (te:=(eB (spP K aH) [] E0 (aW (a9 1) (aW (a9 0) dC)))) ["other","piece"] [none,some 2] rfl (cr K rfl (pv 3)) (fun _ _ _ _=>⟨(aK (i:=0) (by show List.Nodup (["other","piece"]:List Str);decide +kernel) rfl (by first|exact Or.inl rfl|exact Or.inr rfl)),bB,(aA C_stands_within (hr.mono (by decide)) (paC (pv 1) (paC (pv 0) ag)))⟩) (by kernel_rfl)) ag))))))))),fnP (K:=K) (c:=cB) (ps:=gQ) (N:=["pieces","at","piece","longer"]) (ay (aD (aj cu (am (i:=0)) (am (i:=1))) (ax (i:=2) rfl)) (ay (aD (bd (ix:=[none,some 2]) rfl (cz (ak (i:=0))) (fun fs hc=>(aE (i:=0) (gL hc (by decide)))) (eW (aj pD (ac (bu bK (aa (am (i:=0)) ae))) (ac (bu bK (aa (am (i:=1)) ae))))) (ak (i:=0))) (ax (i:=3) rfl)) (bc (sB (aj pQ (am (i:=2)) (ac (bV (am (i:=0)) b8 (bH (ak (i:=1)))))) (zp (bu Dv (aa (ac (bd (ix:=[none,some 2]) rfl (cz (ak (i:=3))) (fun fs hc=>(aE (i:=0) (gL hc (by decide)))) cO (aR (c:=aH) (aa (ac (ak (i:=1))) (aa (ac (ak (i:=0))) ae))))) ae))))))) (fun ds Q h=>Nat.le_trans (Nat.le_of_eq (mX ds Q h)) (by decide)) uH h⟩
theorem lG:∀ds Q,bT ds Q->ds.length=3:=fun ds Q h=>by unfold bT at h;split at h;(first|rfl|exact h.elim);(first|rfl|exact h.elim)
theorem rM (D:cN K mg "left_row" jl) (T:Txt mg) (TC:TxC K) (C_first_place:Cal P w K mg base 1 "first_place" ["text","piece"] (spP K aT)) (C_stands_within:Cal P w K mg base 2 "stands_within" ["piece","other"] (spP K aH)):Cal P w K mg base 3 "left_row" ["pieces","kept","at"] (spP K bT):=by
 refine D.ok k9 (fun _ _ _ _ _ _ us hl=>match us,hl with|[_,_,_],_=>rfl) (fun vs H Q E h=>?_) (fun f cdv A outer s H vs Q E hr h=>?_)
 .exact j2 lG h
 .have hu:=hr.units
  exact⟨_,(ah (aF (i:=3) k9.nd rfl (by first|exact Or.inl rfl|exact Or.inr rfl) (az (Dt K rfl rfl) rfl T.b_min boot_min (paC (bG (wi:=(gK K (a9 1))) (g:=(bR 0)) (tts:=(tB (eB (spP K aH) [] E0 (aW (tOp (pF K) (a9 1) (a9 2)) (aW (tOp (pF K) (a9 1) (a9 0)) dC))))) (te:=(a9 0)) ["one","pieces","at"] [none,some 0,some 2] rfl (cr K rfl (pv 1)) (fun _ _ _ _=>⟨(aK (i:=0) (by show List.Nodup (["one","pieces","at"]:List Str);decide +kernel) rfl (by first|exact Or.inl rfl|exact Or.inr rfl)),(fA (eY (aA C_stands_within (hr.mono (by decide)) (paC (b7 (eH K rfl) (pv 1) (pv 2) (fun _ _=>rfl)) (paC (b7 (eH K rfl) (pv 1) (pv 0) (fun _ _=>rfl)) ag))))),(pv 0)⟩) (by kernel_rfl)) ag))) (au (ba (gX (paC (pv 2) (paC (pv 3) (paC (aA C_first_place (hr.mono (by decide)) (paC (b7 (eH K rfl) (pv 0) (pv 3) (fun _ _=>rfl)) (paC (b7 (eH K rfl) (pv 0) (pv 2) (fun _ _=>rfl)) ag))) ag))))))),fnP (K:=K) (c:=bT) (ps:=fM) (N:=["pieces","kept","at","holder"]) (ay (aD (bu AX (aa (ac (bd (ix:=[none,some 0,some 2]) rfl (cz (ak (i:=1))) (fun fs hc=>(aE (i:=0) (gL hc (by decide)))) (vW (aR (c:=aH) (aa (ac (aj cu (am (i:=1)) (am (i:=2)))) (aa (ac (aj cu (am (i:=1)) (am (i:=0)))) ae)))) (ak (i:=0)))) ae)) (ax (i:=3) rfl)) (bc (iN (aa (ac (ak (i:=2))) (aa (ac (ak (i:=3))) (aa (ac (aR (c:=aT) (aa (ac (aj cu (am (i:=0)) (am (i:=3)))) (aa (ac (aj cu (am (i:=0)) (am (i:=2)))) ae)))) ae)))))) (fun ds Q h=>Nat.le_trans (Nat.le_of_eq (lG ds Q h)) (by decide)) rC h⟩
theorem il:∀p ds Q,bo p ds Q->ds.length+1=2:=fun p ds Q h=>by unfold bo at h;split at h;(first|rfl|exact h.elim);(first|rfl|exact h.elim)
theorem ml (D:sy K mg (cC K "Family") "Family" "Family.__init__" cH) (T:Txt mg) (TC:TxC K) (C_all_laps:Cal P w K mg base 2 "all_laps" ["words"] (spP K cj)) (C_check_pieces:Cal P w K mg base 2 "check_pieces" ["things"] (spP K bh)) (C_is_kept:Cal P w K mg base 3 "is_kept" ["pieces","at"] (spP K cB)) (C_left_row:Cal P w K mg base 3 "left_row" ["pieces","kept","at"] (spP K bT)):C9 P w K mg base 4 (cC K "Family") "Family" ["self","pieces"] (spR K bo):=by
 refine D.ok hZ (fun _ _ _ _ _ _ us hl=>match us,hl with|[_,_],_=>rfl) (fun vs H Q E h=>?_) (fun f cdv A outer s H vs Q E hr h=>?_)
 .exact xC il h
 .have hu:=hr.units
  exact⟨_,(ah (gd (aA C_check_pieces (hr.mono (by decide)) (paC (pv 1) ag))) (ah (mz (pv 0) (bv (gv K rfl) rfl T.b_tuple boot_tuple (paC (pv 1) ag)) rfl) (ah (aF (i:=2) hZ.nd rfl (by first|exact Or.inl rfl|exact Or.inr rfl) (bv (wn K rfl rfl) rfl T.b_list boot_list (paC (kH rfl T.b_range (paC (az (c6 K rfl) rfl T.b_len PySem.boot_len (paC (dS K rfl (pv 0) rfl) ag)) ag)) ag))) (ah (mz (pv 0) (bv (gv K rfl) rfl T.b_tuple boot_tuple (paC (bG (wi:=(gK K (a9 2))) (g:=(bR 0)) (tts:=(tB (eB (spP K cB) [] E0 (aW (u8 K (a9 1) "pieces") (aW (a9 0) dC))))) (te:=(a9 0)) ["at","self"] [none,some 0] rfl (cr K rfl (pv 2)) (fun _ _ _ _=>⟨(aK (i:=0) (by show List.Nodup (["at","self"]:List Str);decide +kernel) rfl (by first|exact Or.inl rfl|exact Or.inr rfl)),(fA (eY (aA C_is_kept (hr.mono (by decide)) (paC (dS K rfl (pv 1) rfl) (paC (pv 0) ag))))),(pv 0)⟩) (by kernel_rfl)) ag)) rfl) (ah (mz (pv 0) (bv (gv K rfl) rfl T.b_tuple boot_tuple (paC (bG (wi:=(gK K (u8 K (a9 0) "kept"))) (g:=(bR 0)) (tts:=gJ) (te:=(tOp (pF K) (u8 K (a9 1) "pieces") (a9 0))) ["at","self"] [none,some 0] rfl (cr K rfl (dS K rfl (pv 0) rfl)) (fun _ _ _ _=>⟨(aK (i:=0) (by show List.Nodup (["at","self"]:List Str);decide +kernel) rfl (by first|exact Or.inl rfl|exact Or.inr rfl)),bB,(b7 (eH K rfl) (dS K rfl (pv 1) rfl) (pv 0) (fun _ _=>rfl))⟩) (by kernel_rfl)) ag)) rfl) (ah (mz (pv 0) (bv (gv K rfl) rfl T.b_tuple boot_tuple (paC (bG (wi:=(gK K (a9 2))) (g:=(bR 0)) (tts:=(jX (tOp (DI K true) (a9 0) (u8 K (a9 1) "kept")))) (te:=(eB (spP K bT) [] E0 (aW (u8 K (a9 1) "pieces") (aW (u8 K (a9 1) "kept") (aW (a9 0) dC))))) ["at","self"] [none,some 0] rfl (cr K rfl (pv 2)) (fun _ _ _ _=>⟨(aK (i:=0) (by show List.Nodup (["at","self"]:List Str);decide +kernel) rfl (by first|exact Or.inl rfl|exact Or.inr rfl)),(fA (aN (kg K rfl) (pv 0) (dS K rfl (pv 1) rfl) (by with_unfolding_all rfl))),(aA C_left_row (hr.mono (by decide)) (paC (dS K rfl (pv 1) rfl) (paC (dS K rfl (pv 1) rfl) (paC (pv 0) ag))))⟩) (by kernel_rfl)) ag)) rfl) (ah (mz (pv 0) (aA C_all_laps (hr.mono (by decide)) (paC (dS K rfl (pv 0) rfl) ag)) rfl) (au (mz (pv 0) (az (Du K rfl rfl) rfl T.b_sum boot_sum (paC (bG (wi:=(gK K (u8 K (a9 0) "words"))) (g:=(bR 0)) (tts:=gJ) (te:=(tCB (jZ K) (aW (a9 0) dC))) ["word"] [none] rfl (cr K rfl (dS K rfl (pv 0) rfl)) (fun _ _ _ _=>⟨(aK (i:=0) (by show List.Nodup (["word"]:List Str);decide +kernel) rfl (by first|exact Or.inl rfl|exact Or.inr rfl)),bB,(az (c6 K rfl) rfl T.b_len PySem.boot_len (paC (pv 0) ag))⟩) (by kernel_rfl)) ag)) rfl))))))))),fnR (K:=K) (c:=bo) (ps:=dI) (N:=["self","pieces","indexes"]) (ay (gn (aR (c:=bh) (aa (ac (ak (i:=1))) ae))) (ay (jf (c0:="Family") (ns0:=[]) (i:=0) TC.cl_Family TC.n_Family_pieces (by decide +kernel) (bu eI (aa (am (i:=1)) ae))) (ay (aD (nB false (aa (ac (bu bK (aa (ac (fW (ns0:=["pieces"]) TC.cl_Family TC.n_Family_pieces (i:=0) (by decide +kernel) (am (i:=0)))) ae))) ae)) (ax (i:=2) rfl)) (ay (jf (c0:="Family") (ns0:=["pieces"]) (i:=0) TC.cl_Family TC.n_Family_kept (by decide +kernel) (bu eI (aa (ac (bd (ix:=[none,some 0]) rfl (cz (ak (i:=2))) (fun fs hc=>(aE (i:=0) (gL hc (by decide)))) (vW (aR (c:=cB) (aa (ac (fW (ns0:=["pieces"]) TC.cl_Family TC.n_Family_pieces (i:=0) (by decide +kernel) (am (i:=1)))) (aa (ac (ak (i:=0))) ae)))) (ak (i:=0)))) ae))) (ay (jf (c0:="Family") (ns0:=["pieces","kept"]) (i:=0) TC.cl_Family TC.n_Family_words (by decide +kernel) (bu eI (aa (ac (bd (ix:=[none,some 0]) rfl (cz (fW (ns0:=["pieces","kept"]) TC.cl_Family TC.n_Family_kept (i:=1) (by decide +kernel) (am (i:=0)))) (fun fs hc=>(aE (i:=0) (gL hc (by decide)))) cO (aj cu (ac (fW (ns0:=["pieces","kept"]) TC.cl_Family TC.n_Family_pieces (i:=0) (by decide +kernel) (am (i:=1)))) (am (i:=0))))) ae))) (ay (jf (c0:="Family") (ns0:=["pieces","kept","words"]) (i:=0) TC.cl_Family TC.n_Family_left (by decide +kernel) (bu eI (aa (ac (bd (ix:=[none,some 0]) rfl (cz (ak (i:=2))) (fun fs hc=>(aE (i:=0) (gL hc (by decide)))) (eW (aj pQ (am (i:=0)) (ac (fW (ns0:=["pieces","kept","words"]) TC.cl_Family TC.n_Family_kept (i:=1) (by decide +kernel) (am (i:=1)))))) (aR (c:=bT) (aa (ac (fW (ns0:=["pieces","kept","words"]) TC.cl_Family TC.n_Family_pieces (i:=0) (by decide +kernel) (am (i:=1)))) (aa (ac (fW (ns0:=["pieces","kept","words"]) TC.cl_Family TC.n_Family_kept (i:=1) (by decide +kernel) (am (i:=1)))) (aa (ac (ak (i:=0))) ae)))))) ae))) (ay (jf (c0:="Family") (ns0:=["pieces","kept","words","left"]) (i:=0) TC.cl_Family TC.n_Family_laps (by decide +kernel) (aR (c:=cj) (aa (ac (fW (ns0:=["pieces","kept","words","left"]) TC.cl_Family TC.n_Family_words (i:=2) (by decide +kernel) (am (i:=0)))) ae))) (jf (c0:="Family") (ns0:=["pieces","kept","words","left","laps"]) (i:=0) TC.cl_Family TC.n_Family_total (by decide +kernel) (bu AY (aa (ac (bd (ix:=[none]) rfl (cz (fW (ns0:=["pieces","kept","words","left","laps"]) TC.cl_Family TC.n_Family_words (i:=2) (by decide +kernel) (am (i:=0)))) (fun fs hc=>(aE (i:=0) (gL hc (by decide)))) cO (bu bK (aa (am (i:=0)) ae)))) ae)))))))))) (fun p ds Q h=>Nat.le_trans (Nat.le_of_eq (il p ds Q h)) (by decide)) l8 h⟩
theorem im:∀ds Q,aU ds Q->ds.length=1:=fun ds Q h=>by unfold aU at h;split at h;(first|rfl|exact h.elim);(first|rfl|exact h.elim)
theorem mn (D:sw K (cC K "Family") "many" "Family.many" cI) (T:Txt mg) (TC:TxC K):C8 P w K mg base 1 (cC K "Family") "many" ["self"] (spP K aU):=by
 refine D.ok lW (fun _ _ _ _ _ _ us hl=>match us,hl with|[_],_=>rfl) (fun vs H Q E h=>?_) (fun f cdv A outer s H vs Q E hr h=>?_)
 .exact j2 im h
 .have hu:=hr.units
  exact⟨_,(au (ba (az (c6 K rfl) rfl T.b_len PySem.boot_len (paC (dS K rfl (pv 0) rfl) ag)))),fnP (K:=K) (c:=aU) (ps:=dJ) (N:=["self"]) (bc (bu bK (aa (ac (fW (ns0:=["pieces","kept","words","left","laps","total"]) TC.cl_Family TC.n_Family_words (i:=2) (by decide +kernel) (am (i:=0)))) ae))) (fun ds Q h=>Nat.le_trans (Nat.le_of_eq (im ds Q h)) (by decide)) l9 h⟩
theorem jR:∀ds Q,bN ds Q->ds.length=2:=fun ds Q h=>by unfold bN at h;split at h;(first|rfl|exact h.elim);(first|rfl|exact h.elim)
theorem qv (D:cN K mg "_law_mixed" iB) (T:Txt mg) (TC:TxC K):Cal P w K mg base 1 "_law_mixed" ["_law_cell","_law_k"] (spP K bN):=by
 refine D.ok dN (fun _ _ _ _ _ _ us hl=>match us,hl with|[_,_],_=>rfl) (fun vs H Q E h=>?_) (fun f cdv A outer s H vs Q E hr h=>?_)
 .exact j2 jR h
 .have hu:=hr.units
  exact⟨_,(ah (aF (i:=2) dN.nd rfl (by first|exact Or.inl rfl|exact Or.inr rfl) (aC (bx K rfl) (aC (bx K rfl) (aC (bx K rfl) (aC b9 (pv 0) ai) (aC f9 (aC f9 (pv 1) (pv 1)) ai)) (aC f9 (pv 1) ai)) ai)) (ah (aF (i:=2) dN.nd rfl (by first|exact Or.inl rfl|exact Or.inr rfl) (aC b9 (pv 2) ai)) (ah (aF (i:=2) dN.nd rfl (by first|exact Or.inl rfl|exact Or.inr rfl) (aC b9 (aC f9 (pv 2) (pv 2)) ai)) (ah (aF (i:=2) dN.nd rfl (by first|exact Or.inl rfl|exact Or.inr rfl) (aC b9 (aC f9 (aC (bx K rfl) (aC (bx K rfl) (pv 2) (aC f9 (pv 1) ai)) ai) ai) ai)) (au (ba (aC kQ (aC b9 (aC f9 (pv 2) (pv 2)) ai) ai))))))),fnP (K:=K) (c:=bN) (ps:=eQ) (N:=["_law_cell","_law_k","_law_number"]) (ay (aD (aj aX (ac (aj aX (ac (aj aX (ac (aj a8 (am (i:=0)) (ac le_int))) (ac (aj dA (ac (aj dA (am (i:=1)) (am (i:=1)))) (ac le_int))))) (ac (aj dA (am (i:=1)) (ac le_int))))) (ac le_int)) (ax (i:=2) rfl)) (ay (aD (aj a8 (am (i:=2)) (ac le_int)) (ax (i:=2) rfl)) (ay (aD (aj a8 (ac (aj dA (am (i:=2)) (am (i:=2)))) (ac le_int)) (ax (i:=2) rfl)) (ay (aD (aj a8 (ac (aj dA (ac (aj aX (ac (aj aX (am (i:=2)) (ac (aj dA (am (i:=1)) (ac le_int))))) (ac le_int))) (ac le_int))) (ac le_int)) (ax (i:=2) rfl)) (bc (aj iu (ac (aj a8 (ac (aj dA (am (i:=2)) (am (i:=2)))) (ac le_int))) (ac le_int))))))) (fun ds Q h=>Nat.le_trans (Nat.le_of_eq (jR ds Q h)) (by decide)) qf h⟩
theorem lH:∀ds Q,ck ds Q->ds.length=2:=fun ds Q h=>by unfold ck at h;split at h;(first|rfl|exact h.elim);(first|rfl|exact h.elim)
theorem rN (D:cN K mg "_law_deck" jm) (T:Txt mg) (TC:TxC K) (C_law_mixed:Cal P w K mg base 1 "_law_mixed" ["_law_cell","_law_k"] (spP K bN)):Cal P w K mg base 2 "_law_deck" ["_law_script","_law_many"] (spP K ck):=by
 refine D.ok cJ (fun _ _ _ _ _ _ us hl=>match us,hl with|[_,_],_=>rfl) (fun vs H Q E h=>?_) (fun f cdv A outer s H vs Q E hr h=>?_)
 .exact j2 lH h
 .have hu:=hr.units
  exact⟨_,(ah (aF (i:=2) cJ.nd rfl (by first|exact Or.inl rfl|exact Or.inr rfl) (aC (bx K rfl) (bv (sG K rfl) rfl T.b_list boot_list (paC (pv 0) ag)) (bq (paC (az (c6 K rfl) rfl T.b_len PySem.boot_len (paC (pv 0) ag)) ag)))) (ah (aF (i:=3) cJ.nd rfl (by first|exact Or.inl rfl|exact Or.inr rfl) (bq ag)) (ah (aF (i:=4) cJ.nd rfl (by first|exact Or.inl rfl|exact Or.inr rfl) ai) (ah (m5 PassesOwn.never (aN AJ (az (c6 K rfl) rfl T.b_len PySem.boot_len (paC (pv 3) ag)) (pv 1) (bb _)) (ah (gf PassesOwn.never rfl (cr K rfl (pv 2)) (aK (i:=5) cJ.nd rfl (by first|exact Or.inl rfl|exact Or.inr rfl)) (ah (aF (i:=6) cJ.nd rfl (by first|exact Or.inl rfl|exact Or.inr rfl) (pv 5)) (ah (fm (dr (PW.pt (tQ (aN zv (pv 4) ai (bb _)) (rT (aN AJ (pv 5) (aC yo ai ai) (bb _))))) (ah (gd (gZ K rfl PySem.F.plainAttrs_list PySem.F.slot_list_append PySem.F.type_list_append eh (pv 3) (paC (aC b9 (aA C_law_mixed (hr.mono (by decide)) (paC (pv 5) (paC (aC (bx K rfl) (az (c6 K rfl) rfl T.b_len PySem.boot_len (paC (pv 3) ag)) ai) ag))) ai) ag))) (au (aF (i:=6) cJ.nd rfl (by first|exact Or.inl rfl|exact Or.inr rfl) ai))) bE)) (au (m5 PassesOwn.never (PW.pt (oH (aN zv (pv 6) ai (bb _)) (kl (aN AJ (az (c6 K rfl) rfl T.b_len PySem.boot_len (paC (pv 3) ag)) (pv 1) (bb _))))) (ah (gd (gZ K rfl PySem.F.plainAttrs_list PySem.F.slot_list_append PySem.F.type_list_append eh (pv 3) (paC (aC b9 (pv 6) ai) ag))) (au (aF (i:=6) cJ.nd rfl (by first|exact Or.inl rfl|exact Or.inr rfl) (aC kQ (pv 6) ai))))))))) (au (aF (i:=4) cJ.nd rfl (by first|exact Or.inl rfl|exact Or.inr rfl) (aC (bx K rfl) (pv 4) ai))))) (au (ba (qT K rfl rfl (bU (oA K rfl) (pv 3) cT (cG (pv 1))) rfl T.b_list rfl T.b_reversed))))))),fnP (K:=K) (c:=ck) (ps:=fN) (N:=["_law_script","_law_many","_law_cells","_law_found","_law_turn","_law_cell","_law_rest"]) (ay (aD (aj aX (ac (bu qS (aa (am (i:=0)) ae))) (ac (bj (aa (ac (bu bK (aa (am (i:=0)) ae))) ae)))) (ax (i:=2) rfl)) (ay (aD (bj ae) (ax (i:=3) rfl)) (ay (aD le_int (ax (i:=4) rfl)) (ay (ny (eW (aj qO (ac (bu bK (aa (am (i:=3)) ae))) (am (i:=1)))) (ay (gu (cz (ak (i:=2))) (aE (i:=5) rfl) (ay (aD (ak (i:=5)) (ax (i:=6) rfl)) (ay (gp (dU (uh (eW (aj pD (am (i:=4)) (ac le_int))) (eW (aj qO (am (i:=5)) (ac (aj pA (ac le_int) (ac le_int)))))) (ay (gn (pG (i:=3) (aj a8 (ac (aR (c:=bN) (aa (ac (ak (i:=5))) (aa (ac (aj aX (ac (bu bK (aa (am (i:=3)) ae))) (ac le_int))) ae)))) (ac le_int)))) (aD le_int (ax (i:=6) rfl))) bF)) (ny (pz (eW (aj pD (am (i:=6)) (ac le_int))) (eW (aj qO (ac (bu bK (aa (am (i:=3)) ae))) (am (i:=1))))) (ay (gn (pG (i:=3) (aj a8 (am (i:=6)) (ac le_int)))) (aD (aj iu (am (i:=6)) (ac le_int)) (ax (i:=6) rfl))))))) (aD (aj aX (am (i:=4)) (ac le_int)) (ax (i:=4) rfl)))) (bc (uj (ac (bV (am (i:=3)) b8 (bH (ak (i:=1))))))))))) (fun ds Q h=>Nat.le_trans (Nat.le_of_eq (lH ds Q h)) (by decide)) rD h⟩
theorem lI:∀p ds Q,aq p ds Q->ds.length+1=1:=fun p ds Q h=>by unfold aq at h;split at h;(first|rfl|exact h.elim);(first|rfl|exact h.elim)
theorem rO (D:cN K mg "_law_next" jn) (T:Txt mg) (TC:TxC K):Cal P w K mg base 1 "_law_next" ["_law_deck_here"] (spR K aq):=by
 refine D.ok rl (fun _ _ _ _ _ _ us hl=>match us,hl with|[_],_=>rfl) (fun vs H Q E h=>?_) (fun f cdv A outer s H vs Q E hr h=>?_)
 .exact xC lI h
 .have hu:=hr.units
  exact⟨_,(au (ba (zk PySem.F.plainAttrs_list PySem.F.slot_list_pop PySem.F.type_list_pop CG (pv 0)))),fnR (K:=K) (c:=aq) (ps:=fO) (N:=["_law_deck_here"]) (bc (Dp (i:=0))) (fun p ds Q h=>Nat.le_trans (Nat.le_of_eq (lI p ds Q h)) (by decide)) rE h⟩
theorem jS:∀p ds Q,bO p ds Q->ds.length+1=3:=fun p ds Q h=>by unfold bO at h;split at h;(first|rfl|exact h.elim);(first|rfl|exact h.elim)
theorem qw (D:cN K mg "_law_signs" iC) (T:Txt mg) (TC:TxC K) (C_law_next:Cal P w K mg base 1 "_law_next" ["_law_deck_here"] (spR K aq)):Cal P w K mg base 2 "_law_signs" ["_law_deck_here","_law_letters","_law_many"] (spR K bO):=by
 refine D.ok eN (fun _ _ _ _ _ _ us hl=>match us,hl with|[_,_,_],_=>rfl) (fun vs H Q E h=>?_) (fun f cdv A outer s H vs Q E hr h=>?_)
 .exact xC jS h
 .have hu:=hr.units
  exact⟨_,(ah (aF (i:=3) eN.nd rfl (by first|exact Or.inl rfl|exact Or.inr rfl) (dD (l:=[]) (by decide +kernel))) (ah (gf PassesOwn.never rfl (bZ rfl T.b_range (paC (pv 2) ag)) (aK (i:=4) eN.nd rfl (by first|exact Or.inl rfl|exact Or.inr rfl)) (au (aF (i:=3) eN.nd rfl (by first|exact Or.inl rfl|exact Or.inr rfl) (aC (bx K rfl) (pv 3) (b7 (eH K rfl) (pv 1) (aC b9 (aA C_law_next (hr.mono (by decide)) (paC (pv 0) ag)) (az (c6 K rfl) rfl T.b_len PySem.boot_len (paC (pv 1) ag))) (fun _ _=>rfl)))))) (au (ba (pv 3))))),fnR (K:=K) (c:=bO) (ps:=eR) (N:=["_law_deck_here","_law_letters","_law_many","_law_found","_law_k"]) (ay (aD (le_str (l:=[])) (ax (i:=3) rfl)) (ay (gu (iR (aa (ac (ak (i:=2))) ae)) (aE (i:=4) rfl) (aD (aj aX (am (i:=3)) (ac (aj cu (am (i:=1)) (ac (aj a8 (ac (aI (i:=0) ae)) (ac (bu bK (aa (am (i:=1)) ae)))))))) (ax (i:=3) rfl))) (bc (ak (i:=3))))) (fun p ds Q h=>Nat.le_trans (Nat.le_of_eq (jS p ds Q h)) (by decide)) qi h⟩
theorem i6:∀p ds Q,bI p ds Q->ds.length+1=2:=fun p ds Q h=>by unfold bI at h;split at h;(first|rfl|exact h.elim);(first|rfl|exact h.elim)
theorem ot (D:cN K mg "_law_pieces" gD) (T:Txt mg) (TC:TxC K) (C_law_next:Cal P w K mg base 1 "_law_next" ["_law_deck_here"] (spR K aq)) (C_law_signs:Cal P w K mg base 2 "_law_signs" ["_law_deck_here","_law_letters","_law_many"] (spR K bO)):Cal P w K mg base 3 "_law_pieces" ["_law_deck_here","_law_most"] (spR K bI):=by
 refine D.ok a5 (fun _ _ _ _ _ _ us hl=>match us,hl with|[_,_],_=>rfl) (fun vs H Q E h=>?_) (fun f cdv A outer s H vs Q E hr h=>?_)
 .exact xC i6 h
 .have hu:=hr.units
  exact⟨_,(ah (aF (i:=2) a5.nd rfl (by first|exact Or.inl rfl|exact Or.inr rfl) (aC b9 (aA C_law_next (hr.mono (by decide)) (paC (pv 0) ag)) ai)) (ah (aF (i:=3) a5.nd rfl (by first|exact Or.inl rfl|exact Or.inr rfl) (b7 (eH K rfl) (bq (paC ai (paC ai (paC ai (paC ai ag))))) (aC b9 (aA C_law_next (hr.mono (by decide)) (paC (pv 0) ag)) ai) (fun _ _=>rfl))) (ah (fB (wi:=(jW (aW (a9 3) dC))) (g:=(bR 0)) (tts:=gJ) (te:=(tOp (pF K) (tC (V.str (S [97,98,99,100,101,102,103,104,105,106,107,108,109,110,111,112,113,114,115,116,117,118,119,120,121,122]))) (tOp ym (tOp (pS K) (a9 1) (tOp vY (tC (V.int 7)) (a9 0))) (tC (V.int 26))))) (i:=4) ["_law_k","_law_first"] [none,some 2] a5.nd rfl (Or.inl rfl) rfl (bZ rfl T.b_range (paC (pv 3) ag)) (fun _ _ _ _=>⟨(aK (i:=0) (by show List.Nodup (["_law_k","_law_first"]:List Str);decide +kernel) rfl (by first|exact Or.inl rfl|exact Or.inr rfl)),bB,(b7 (eH K rfl) (dD (l:=[97,98,99,100,101,102,103,104,105,106,107,108,109,110,111,112,113,114,115,116,117,118,119,120,121,122]) (by decide +kernel)) (aC b9 (aC (bx K rfl) (pv 1) (aC f9 ai (pv 0))) ai) (fun _ _=>rfl))⟩) (by kernel_rfl)) (ah (aF (i:=5) a5.nd rfl (by first|exact Or.inl rfl|exact Or.inr rfl) (aC b9 (aA C_law_next (hr.mono (by decide)) (paC (pv 0) ag)) ai)) (ah (aF (i:=6) a5.nd rfl (by first|exact Or.inl rfl|exact Or.inr rfl) (aC (bx K rfl) ai (aC b9 (aA C_law_next (hr.mono (by decide)) (paC (pv 0) ag)) ai))) (ah (aF (i:=7) a5.nd rfl (by first|exact Or.inl rfl|exact Or.inr rfl) (aC f9 (aA C_law_signs (hr.mono (by decide)) (paC (pv 0) (paC (pv 4) (paC (aC (bx K rfl) ai (aC b9 (aA C_law_next (hr.mono (by decide)) (paC (pv 0) ag)) ai)) ag)))) ai)) (ah (aF (i:=8) a5.nd rfl (by first|exact Or.inl rfl|exact Or.inr rfl) (bq ag)) (ah (gf PassesOwn.never rfl (bZ rfl T.b_range (paC (aC b9 (aA C_law_next (hr.mono (by decide)) (paC (pv 0) ag)) (aC (bx K rfl) (pv 1) ai)) ag)) (aK (i:=9) a5.nd rfl (by first|exact Or.inl rfl|exact Or.inr rfl)) (ah (aF (i:=10) a5.nd rfl (by first|exact Or.inl rfl|exact Or.inr rfl) (aA C_law_next (hr.mono (by decide)) (paC (pv 0) ag))) (ah (aF (i:=11) a5.nd rfl (by first|exact Or.inl rfl|exact Or.inr rfl) (bU (oA K rfl) (pv 7) (cG (aC b9 (pv 10) ai)) (cG (aC (bx K rfl) (aC (bx K rfl) (aC b9 (pv 10) ai) (pv 6)) (aC kQ (aC b9 (aC kQ (pv 10) ai) ai) ai))))) (ah (fm (dr (aN (gz K rfl hu) (pv 5) ai (bb _)) (au (aF (i:=11) a5.nd rfl (by first|exact Or.inl rfl|exact Or.inr rfl) (aA C_law_signs (hr.mono (by decide)) (paC (pv 0) (paC (pv 4) (paC (aC (bx K rfl) ai (aC b9 (pv 10) ai)) ag)))))) bE)) (ah (fm (dr (aN (gz K rfl hu) (pv 5) ai (bb _)) (au (aF (i:=11) a5.nd rfl (by first|exact Or.inl rfl|exact Or.inr rfl) (aC (bx K rfl) (aC (bx K rfl) (aC f9 (b7 (eH K rfl) (pv 4) ai (fun _ _=>rfl)) (aC b9 (pv 10) ai)) (b7 (eH K rfl) (pv 4) ai (fun _ _=>rfl))) (aC f9 (b7 (eH K rfl) (pv 4) ai (fun _ _=>rfl)) (aC b9 (aC kQ (pv 10) ai) ai))))) bE)) (au (gd (gZ K rfl PySem.F.plainAttrs_list PySem.F.slot_list_append PySem.F.type_list_append eh (pv 8) (paC (pv 11) ag))))))))) (au (ba (pv 8))))))))))),fnR (K:=K) (c:=bI) (ps:=d4) (N:=["_law_deck_here","_law_most","_law_first","_law_many","_law_letters","_law_sort","_law_long","_law_text","_law_pieces_here","_law_k","_law_at","_law_piece"]) (ay (aD (aj a8 (ac (aI (i:=0) ae)) (ac le_int)) (ax (i:=2) rfl)) (ay (aD (aj cu (ac (bj (aa (ac le_int) (aa (ac le_int) (aa (ac le_int) (aa (ac le_int) ae)))))) (ac (aj a8 (ac (aI (i:=0) ae)) (ac le_int)))) (ax (i:=3) rfl)) (ay (aD (bd (ix:=[none,some 2]) rfl (iR (aa (ac (ak (i:=3))) ae)) (fun fs hc=>(aE (i:=0) (gL hc (by decide)))) cO (aj cu (ac (le_str (l:=[97,98,99,100,101,102,103,104,105,106,107,108,109,110,111,112,113,114,115,116,117,118,119,120,121,122]))) (ac (aj a8 (ac (aj aX (am (i:=1)) (ac (aj dA (ac le_int) (am (i:=0)))))) (ac le_int))))) (ax (i:=4) rfl)) (ay (aD (aj a8 (ac (aI (i:=0) ae)) (ac le_int)) (ax (i:=5) rfl)) (ay (aD (aj aX (ac le_int) (ac (aj a8 (ac (aI (i:=0) ae)) (ac le_int)))) (ax (i:=6) rfl)) (ay (aD (aj dA (ac (aI (i:=0) (aa (ac (ak (i:=4))) (aa (ac (aj aX (ac le_int) (ac (aj a8 (ac (aI (i:=0) ae)) (ac le_int))))) ae)))) (ac le_int)) (ax (i:=7) rfl)) (ay (aD (bj ae) (ax (i:=8) rfl)) (ay (gu (iR (aa (ac (aj a8 (ac (aI (i:=0) ae)) (ac (aj aX (am (i:=1)) (ac le_int))))) ae)) (aE (i:=9) rfl) (ay (aD (aI (i:=0) ae) (ax (i:=10) rfl)) (ay (aD (bV (am (i:=7)) (bH (aj a8 (am (i:=10)) (ac le_int))) (bH (aj aX (ac (aj aX (ac (aj a8 (am (i:=10)) (ac le_int))) (am (i:=6)))) (ac (aj iu (ac (aj a8 (ac (aj iu (am (i:=10)) (ac le_int))) (ac le_int))) (ac le_int)))))) (ax (i:=11) rfl)) (ay (gp (dU (eW (aj dM (am (i:=5)) (ac le_int))) (aD (aI (i:=0) (aa (ac (ak (i:=4))) (aa (ac (aj aX (ac le_int) (ac (aj a8 (am (i:=10)) (ac le_int))))) ae))) (ax (i:=11) rfl)) bF)) (ay (gp (dU (eW (aj dM (am (i:=5)) (ac le_int))) (aD (aj aX (ac (aj aX (ac (aj dA (ac (aj cu (am (i:=4)) (ac le_int))) (ac (aj a8 (am (i:=10)) (ac le_int))))) (ac (aj cu (am (i:=4)) (ac le_int))))) (ac (aj dA (ac (aj cu (am (i:=4)) (ac le_int))) (ac (aj a8 (ac (aj iu (am (i:=10)) (ac le_int))) (ac le_int)))))) (ax (i:=11) rfl)) bF)) (gn (pG (i:=8) (ak (i:=11))))))))) (bc (ak (i:=8))))))))))) (fun p ds Q h=>Nat.le_trans (Nat.le_of_eq (i6 p ds Q h)) (by decide)) oa h⟩
theorem jT:∀ds Q,bP ds Q->ds.length=1:=fun ds Q h=>by unfold bP at h;split at h;(first|rfl|exact h.elim);(first|rfl|exact h.elim)
theorem qx (D:cN K mg "_law_words" iD) (T:Txt mg) (TC:TxC K):Cal P w K mg base 1 "_law_words" ["_law_pieces_here"] (spP K bP):=by
 refine D.ok dO (fun _ _ _ _ _ _ us hl=>match us,hl with|[_],_=>rfl) (fun vs H Q E h=>?_) (fun f cdv A outer s H vs Q E hr h=>?_)
 .exact j2 jT h
 .have hu:=hr.units
  exact⟨_,(ah (aF (i:=1) dO.nd rfl (by first|exact Or.inl rfl|exact Or.inr rfl) (bq ag)) (ah (gf PassesOwn.never rfl (sK K rfl rfl T.b_enumerate (paC (pv 0) ag)) (zA K rfl (n:=2) rfl (j8 (aK (i:=2) dO.nd rfl (by first|exact Or.inl rfl|exact Or.inr rfl)) (j8 (aK (i:=3) dO.nd rfl (by first|exact Or.inl rfl|exact Or.inr rfl)) uV))) (ah (fB (wi:=(gK K (a9 0))) (g:=(bR 0)) (tts:=(Es (jX (tOp Ff (tCB (jZ K) (aW (a9 0) dC)) (tCB (jZ K) (aW (a9 1) dC)))) (jX (tOp (DI K false) (a9 1) (a9 0))))) (te:=(a9 0)) (i:=4) ["_law_other","_law_piece"] [none,some 3] dO.nd rfl (Or.inl rfl) rfl (cr K rfl (pv 0)) (fun _ _ _ _=>⟨(aK (i:=0) (by show List.Nodup (["_law_other","_law_piece"]:List Str);decide +kernel) rfl (by first|exact Or.inl rfl|exact Or.inr rfl)),(fA (PW.pt (oH (aN zv (az (c6 K rfl) rfl T.b_len PySem.boot_len (paC (pv 0) ag)) (az (c6 K rfl) rfl T.b_len PySem.boot_len (paC (pv 1) ag)) (bb _)) (kl (aN (Fk K rfl) (pv 1) (pv 0) (by with_unfolding_all rfl)))))),(pv 0)⟩) (by kernel_rfl)) (au (dr (PW.pt (oH (aN (gz K rfl hu) (pv 4) (bq ag) (bb _)) (kl (aN (kg K rfl) (pv 3) (bU (oA K rfl) (pv 0) cT (cG (pv 2))) (by with_unfolding_all rfl))))) (au (gd (gZ K rfl PySem.F.plainAttrs_list PySem.F.slot_list_append PySem.F.type_list_append eh (pv 1) (paC (pv 3) ag)))) bE)))) (au (ba (pv 1))))),fnP (K:=K) (c:=bP) (ps:=eS) (N:=["_law_pieces_here","_law_found","_law_k","_law_piece","_law_longer"]) (ay (aD (bj ae) (ax (i:=1) rfl)) (ay (gu (wj (aa (ac (ak (i:=0))) ae)) (wB (ka (aE (i:=2) rfl) (ka (aE (i:=3) rfl) wd))) (ay (aD (bd (ix:=[none,some 3]) rfl (cz (ak (i:=0))) (fun fs hc=>(aE (i:=0) (gL hc (by decide)))) (pz (eW (aj pD (ac (bu bK (aa (am (i:=0)) ae))) (ac (bu bK (aa (am (i:=1)) ae))))) (eW (aj pQ (am (i:=1)) (am (i:=0))))) (ak (i:=0))) (ax (i:=4) rfl)) (dU (pz (eW (aj dM (am (i:=4)) (ac (bj ae)))) (eW (aj pQ (am (i:=3)) (ac (bV (am (i:=0)) b8 (bH (ak (i:=2)))))))) (gn (pG (i:=1) (ak (i:=3)))) bF))) (bc (ak (i:=1))))) (fun ds Q h=>Nat.le_trans (Nat.le_of_eq (jT ds Q h)) (by decide)) qj h⟩
theorem mY:∀ds Q,bw ds Q->ds.length=2:=fun ds Q h=>by unfold bw at h;split at h;(first|rfl|exact h.elim);(first|rfl|exact h.elim)
theorem uN (D:cN K mg "_law_lap" k6) (T:Txt mg) (TC:TxC K):Cal P w K mg base 1 "_law_lap" ["_law_one","_law_other"] (spP K bw):=by
 refine D.ok mP (fun _ _ _ _ _ _ us hl=>match us,hl with|[_,_],_=>rfl) (fun vs H Q E h=>?_) (fun f cdv A outer s H vs Q E hr h=>?_)
 .exact j2 mY h
 .have hu:=hr.units
  exact⟨_,(ah (gf PassesOwn.never rfl (oV rfl T.b_range (paC (aC nE (az (zt rfl) rfl T.b_min boot_min (paC (az (c6 K rfl) rfl T.b_len PySem.boot_len (paC (pv 0) ag)) (paC (az (c6 K rfl) rfl T.b_len PySem.boot_len (paC (pv 1) ag)) ag))) ai) (paC ai (paC (kn gg ai) ag)))) (aK (i:=2) mP.nd rfl (by first|exact Or.inl rfl|exact Or.inr rfl)) (au (dr (aN (gz K rfl hu) (bU (oA K rfl) (pv 0) (cG (aC nE (az (c6 K rfl) rfl T.b_len PySem.boot_len (paC (pv 0) ag)) (pv 2))) cT) (bU (oA K rfl) (pv 1) cT (cG (pv 2))) (bb _)) (au (ba (pv 2))) bE))) (au (ba ai))),fnP (K:=K) (c:=bw) (ps:=gR) (N:=["_law_one","_law_other","_law_k"]) (ay (gu (Dn (aa (ac (aj iO (ac (bu wl (aa (ac (bu bK (aa (am (i:=0)) ae))) (aa (ac (bu bK (aa (am (i:=1)) ae))) ae)))) (ac le_int))) (aa (ac le_int) (aa (ac (kL gw (ac le_int))) ae)))) (aE (i:=2) rfl) (dU (eW (aj dM (ac (bV (am (i:=0)) (bH (aj iO (ac (bu bK (aa (am (i:=0)) ae))) (am (i:=2)))) b8)) (ac (bV (am (i:=1)) b8 (bH (ak (i:=2))))))) (bc (ak (i:=2))) bF)) (bc le_int)) (fun ds Q h=>Nat.le_trans (Nat.le_of_eq (mY ds Q h)) (by decide)) uI h⟩
theorem lJ:∀ds Q,cm ds Q->ds.length=1:=fun ds Q h=>by unfold cm at h;split at h;(first|rfl|exact h.elim);(first|rfl|exact h.elim)
theorem rP (D:cN K mg "_law_laps" jo) (T:Txt mg) (TC:TxC K) (C_law_lap:Cal P w K mg base 1 "_law_lap" ["_law_one","_law_other"] (spP K bw)):Cal P w K mg base 2 "_law_laps" ["_law_words_here"] (spP K cm):=by
 refine D.ok rm (fun _ _ _ _ _ _ us hl=>match us,hl with|[_],_=>rfl) (fun vs H Q E h=>?_) (fun f cdv A outer s H vs Q E hr h=>?_)
 .exact j2 lJ h
 .have hu:=hr.units
  exact⟨_,(au (ba (bG (wi:=(gK K (a9 0))) (g:=(bR 0)) (tts:=gJ) (te:=(lN [none,some 0] (gK K (a9 1)) (bR 0) gJ (eB (spP K bw) [] E0 (aW (a9 1) (aW (a9 0) dC))))) ["_law_one","_law_words_here"] [none,some 0] rfl (cr K rfl (pv 0)) (fun _ _ _ _=>⟨(aK (i:=0) (by show List.Nodup (["_law_one","_law_words_here"]:List Str);decide +kernel) rfl (by first|exact Or.inl rfl|exact Or.inr rfl)),bB,(bG (wi:=(gK K (a9 1))) (g:=(bR 0)) (tts:=gJ) (te:=(eB (spP K bw) [] E0 (aW (a9 1) (aW (a9 0) dC)))) ["_law_other","_law_one"] [none,some 0] rfl (cr K rfl (pv 1)) (fun _ _ _ _=>⟨(aK (i:=0) (by show List.Nodup (["_law_other","_law_one"]:List Str);decide +kernel) rfl (by first|exact Or.inl rfl|exact Or.inr rfl)),bB,(aA C_law_lap (hr.mono (by decide)) (paC (pv 1) (paC (pv 0) ag)))⟩) (by kernel_rfl))⟩) (by kernel_rfl)))),fnP (K:=K) (c:=cm) (ps:=fP) (N:=["_law_words_here"]) (bc (sW (bd (ix:=[none,some 0]) rfl (cz (ak (i:=0))) (fun fs hc=>(aE (i:=0) (gL hc (by decide)))) cO (bd (ix:=[none,some 0]) rfl (cz (ak (i:=1))) (fun fs hc=>(aE (i:=0) (gL hc (by decide)))) cO (aR (c:=bw) (aa (ac (ak (i:=1))) (aa (ac (ak (i:=0))) ae))))))) (fun ds Q h=>Nat.le_trans (Nat.le_of_eq (lJ ds Q h)) (by decide)) rG h⟩
theorem io:∀p ds Q,bp p ds Q->ds.length+1=2:=fun p ds Q h=>by unfold bp at h;split at h;(first|rfl|exact h.elim);(first|rfl|exact h.elim)
theorem mq (D:cN K mg "_law_holding" fH) (T:Txt mg) (TC:TxC K) (C_law_lap:Cal P w K mg base 1 "_law_lap" ["_law_one","_law_other"] (spP K bw)) (C_law_next:Cal P w K mg base 1 "_law_next" ["_law_deck_here"] (spR K aq)):Cal P w K mg base 2 "_law_holding" ["_law_deck_here","_law_words_here"] (spR K bp):=by
 refine D.ok aY (fun _ _ _ _ _ _ us hl=>match us,hl with|[_,_],_=>rfl) (fun vs H Q E h=>?_) (fun f cdv A outer s H vs Q E hr h=>?_)
 .exact xC io h
 .have hu:=hr.units
  exact⟨_,(@ah _ _ _ _ _ (@aF _ _ 2 _ _ _ _ aY.nd rfl (by first|exact Or.inl rfl|exact Or.inr rfl) (@bv _ _ _ _ _ _ _ _ _ (wn K rfl rfl) rfl T.b_list boot_list (@paC _ _ _ _ _ (@kH _ _ _ _ _ rfl T.b_range (@paC _ _ _ _ _ (@az _ _ _ _ _ _ _ _ _ (c6 K rfl) rfl T.b_len PySem.boot_len (@paC _ _ _ _ _ (@pv _ 1 _ _ rfl (by first|exact Or.inl rfl|exact Or.inr (Or.inl rfl)|exact Or.inr (Or.inr rfl)) (by decide) (by decide)) ag rfl) (by decide) (by decide) rfl rfl) ag rfl) rfl) ag rfl) (by decide) (by decide) rfl rfl) rfl (by first|exact .inl rfl|exact .inr rfl|assumption)) (@ah _ _ _ _ _ (@aF _ _ 3 _ _ _ _ aY.nd rfl (by first|exact Or.inl rfl|exact Or.inr rfl) (@bU _ _ _ _ _ _ _ _ _ _ (oA K rfl) (@dD _ _ _ ([112,113]) _ (by decide +kernel)) cT (@cG _ _ _ (@aC _ _ _ _ _ _ _ _ b9 (@aA _ _ _ _ _ _ _ _ _ _ C_law_next (hr.mono (by decide)) (@paC _ _ _ _ _ (@pv _ 0 _ _ rfl (by first|exact Or.inl rfl|exact Or.inr (Or.inl rfl)|exact Or.inr (Or.inr rfl)) (by decide) (by decide)) ag rfl) rfl (by decide) rfl rfl) ai))) rfl (by first|exact .inl rfl|exact .inr rfl|assumption)) (@ah _ _ _ _ _ (@aF _ _ 4 _ _ _ _ aY.nd rfl (by first|exact Or.inl rfl|exact Or.inr rfl) (@ip _ _ _ _ _ _ _ _ zv (@aC _ _ _ _ _ _ _ _ b9 (@aA _ _ _ _ _ _ _ _ _ _ C_law_next (hr.mono (by decide)) (@paC _ _ _ _ _ (@pv _ 0 _ _ rfl (by first|exact Or.inl rfl|exact Or.inr (Or.inl rfl)|exact Or.inr (Or.inr rfl)) (by decide) (by decide)) ag rfl) rfl (by decide) rfl rfl) ai) ai (bb _)) rfl (by first|exact .inl rfl|exact .inr rfl|assumption)) (@ah _ _ _ _ _ (@aF _ _ 5 _ _ _ _ aY.nd rfl (by first|exact Or.inl rfl|exact Or.inr rfl) (@dD _ _ _ [] _ (by decide +kernel)) rfl (by first|exact .inl rfl|exact .inr rfl|assumption)) (@ah _ _ _ _ _ (@m5 _ _ _ _ _ _ PassesOwn.never (@aN _ _ _ _ _ _ _ _ (qX K rfl hu) (@pv _ 2 _ _ rfl (by first|exact Or.inl rfl|exact Or.inr (Or.inl rfl)|exact Or.inr (Or.inr rfl)) (by decide) (by decide)) (@bq _ _ _ _ ag) (bb _)) (@ah _ _ _ _ _ (@aF _ _ 6 _ _ _ _ aY.nd rfl (by first|exact Or.inl rfl|exact Or.inr rfl) (@b7 _ _ _ _ _ _ _ (eH K rfl) (@pv _ 1 _ _ rfl (by first|exact Or.inl rfl|exact Or.inr (Or.inl rfl)|exact Or.inr (Or.inr rfl)) (by decide) (by decide)) (@gZ _ _ _ _ _ _ _ _ _ _ _ _ K rfl PySem.F.plainAttrs_list PySem.F.slot_list_pop PySem.F.type_list_pop sd (@pv _ 2 _ _ rfl (by first|exact Or.inl rfl|exact Or.inr (Or.inl rfl)|exact Or.inr (Or.inr rfl)) (by decide) (by decide)) (@paC _ _ _ _ _ (@aC _ _ _ _ _ _ _ _ b9 (@aA _ _ _ _ _ _ _ _ _ _ C_law_next (hr.mono (by decide)) (@paC _ _ _ _ _ (@pv _ 0 _ _ rfl (by first|exact Or.inl rfl|exact Or.inr (Or.inl rfl)|exact Or.inr (Or.inr rfl)) (by decide) (by decide)) ag rfl) rfl (by decide) rfl rfl) (@az _ _ _ _ _ _ _ _ _ (c6 K rfl) rfl T.b_len PySem.boot_len (@paC _ _ _ _ _ (@pv _ 2 _ _ rfl (by first|exact Or.inl rfl|exact Or.inr (Or.inl rfl)|exact Or.inr (Or.inr rfl)) (by decide) (by decide)) ag rfl) (by decide) (by decide) rfl rfl)) ag rfl) rfl rfl rfl rfl rfl) (fun _ _=>rfl)) rfl (by first|exact .inl rfl|exact .inr rfl|assumption)) (@ah _ _ _ _ _ (@aF _ _ 7 _ _ _ _ aY.nd rfl (by first|exact Or.inl rfl|exact Or.inr rfl) (@aA _ _ _ _ _ _ _ _ _ _ C_law_lap (hr.mono (by decide)) (@paC _ _ _ _ _ (@pv _ 5 _ _ rfl (by first|exact Or.inl rfl|exact Or.inr (Or.inl rfl)|exact Or.inr (Or.inr rfl)) (by decide) (by decide)) (@paC _ _ _ _ _ (@pv _ 6 _ _ rfl (by first|exact Or.inl rfl|exact Or.inr (Or.inl rfl)|exact Or.inr (Or.inr rfl)) (by decide) (by decide)) ag rfl) rfl) rfl (by decide) rfl rfl) rfl (by first|exact .inl rfl|exact .inr rfl|assumption)) (@ah _ _ _ _ _ (@fm _ _ _ (@dr _ _ _ _ _ _ _ _ (@jB _ _ _ _ (@eY _ _ _ (@pv _ 4 _ _ rfl (by first|exact Or.inl rfl|exact Or.inr (Or.inl rfl)|exact Or.inr (Or.inr rfl)) (by decide) (by decide)) rfl)) (@ah _ _ _ _ _ (@aF _ _ 7 _ _ _ _ aY.nd rfl (by first|exact Or.inl rfl|exact Or.inr rfl) (@b7 _ _ _ _ _ _ _ (eH K rfl) (@bq _ _ _ _ (@paC _ _ _ _ _ (@pv _ 7 _ _ rfl (by first|exact Or.inl rfl|exact Or.inr (Or.inl rfl)|exact Or.inr (Or.inr rfl)) (by decide) (by decide)) (@paC _ _ _ _ _ ai ag rfl) rfl)) (@aC _ _ _ _ _ _ _ _ b9 (@aA _ _ _ _ _ _ _ _ _ _ C_law_next (hr.mono (by decide)) (@paC _ _ _ _ _ (@pv _ 0 _ _ rfl (by first|exact Or.inl rfl|exact Or.inr (Or.inl rfl)|exact Or.inr (Or.inr rfl)) (by decide) (by decide)) ag rfl) rfl (by decide) rfl rfl) ai) (fun _ _=>rfl)) rfl (by first|exact .inl rfl|exact .inr rfl|assumption)) (@au _ _ _ (@dr _ _ _ _ _ _ _ _ (@aN _ _ _ _ _ _ _ _ (gz K rfl hu) (@pv _ 7 _ _ rfl (by first|exact Or.inl rfl|exact Or.inr (Or.inl rfl)|exact Or.inr (Or.inr rfl)) (by decide) (by decide)) ai (bb _)) (@au _ _ _ (@aF _ _ 3 _ _ _ _ aY.nd rfl (by first|exact Or.inl rfl|exact Or.inr rfl) (@aC _ _ _ _ _ _ _ _ (bx K rfl) (@pv _ 3 _ _ rfl (by first|exact Or.inl rfl|exact Or.inr (Or.inl rfl)|exact Or.inr (Or.inr rfl)) (by decide) (by decide)) (@bU _ _ _ _ _ _ _ _ _ _ (oA K rfl) (@dD _ _ _ ([113,97]) _ (by decide +kernel)) cT (@cG _ _ _ (@aC _ _ _ _ _ _ _ _ b9 (@aA _ _ _ _ _ _ _ _ _ _ C_law_next (hr.mono (by decide)) (@paC _ _ _ _ _ (@pv _ 0 _ _ rfl (by first|exact Or.inl rfl|exact Or.inr (Or.inl rfl)|exact Or.inr (Or.inr rfl)) (by decide) (by decide)) ag rfl) rfl (by decide) rfl rfl) ai)))) rfl (by first|exact .inl rfl|exact .inr rfl|assumption))) bE))) bE)) (@ah _ _ _ _ _ (@aF _ _ 3 _ _ _ _ aY.nd rfl (by first|exact Or.inl rfl|exact Or.inr rfl) (@aC _ _ _ _ _ _ _ _ (bx K rfl) (@pv _ 3 _ _ rfl (by first|exact Or.inl rfl|exact Or.inr (Or.inl rfl)|exact Or.inr (Or.inr rfl)) (by decide) (by decide)) (@bU _ _ _ _ _ _ _ _ _ _ (oA K rfl) (@pv _ 6 _ _ rfl (by first|exact Or.inl rfl|exact Or.inr (Or.inl rfl)|exact Or.inr (Or.inr rfl)) (by decide) (by decide)) (@cG _ _ _ (@pv _ 7 _ _ rfl (by first|exact Or.inl rfl|exact Or.inr (Or.inl rfl)|exact Or.inr (Or.inr rfl)) (by decide) (by decide))) cT)) rfl (by first|exact .inl rfl|exact .inr rfl|assumption)) (@au _ _ _ (@aF _ _ 5 _ _ _ _ aY.nd rfl (by first|exact Or.inl rfl|exact Or.inr rfl) (@pv _ 6 _ _ rfl (by first|exact Or.inl rfl|exact Or.inr (Or.inl rfl)|exact Or.inr (Or.inr rfl)) (by decide) (by decide)) rfl (by first|exact .inl rfl|exact .inr rfl|assumption)))))))) (@ah _ _ _ _ _ (@fm _ _ _ (@dr _ _ _ _ _ _ _ _ (@jB _ _ _ _ (@eY _ _ _ (@pv _ 4 _ _ rfl (by first|exact Or.inl rfl|exact Or.inr (Or.inl rfl)|exact Or.inr (Or.inr rfl)) (by decide) (by decide)) rfl)) (@au _ _ _ (@aF _ _ 3 _ _ _ _ aY.nd rfl (by first|exact Or.inl rfl|exact Or.inr rfl) (@aC _ _ _ _ _ _ _ _ (bx K rfl) (@pv _ 3 _ _ rfl (by first|exact Or.inl rfl|exact Or.inr (Or.inl rfl)|exact Or.inr (Or.inr rfl)) (by decide) (by decide)) (@bU _ _ _ _ _ _ _ _ _ _ (oA K rfl) (@dD _ _ _ ([112,113]) _ (by decide +kernel)) cT (@cG _ _ _ (@aC _ _ _ _ _ _ _ _ b9 (@aA _ _ _ _ _ _ _ _ _ _ C_law_next (hr.mono (by decide)) (@paC _ _ _ _ _ (@pv _ 0 _ _ rfl (by first|exact Or.inl rfl|exact Or.inr (Or.inl rfl)|exact Or.inr (Or.inr rfl)) (by decide) (by decide)) ag rfl) rfl (by decide) rfl rfl) ai)))) rfl (by first|exact .inl rfl|exact .inr rfl|assumption))) bE)) (@au _ _ _ (@ba _ _ _ _ (@pv _ 3 _ _ rfl (by first|exact Or.inl rfl|exact Or.inr (Or.inl rfl)|exact Or.inr (Or.inr rfl)) (by decide) (by decide)))))))))),fnR (K:=K) (c:=bp) (ps:=dL) (N:=["_law_deck_here","_law_words_here","_law_left","_law_text","_law_close","_law_earlier","_law_word","_law_shared"]) (ay (aD (nB false (aa (ac (bu bK (aa (am (i:=1)) ae))) ae)) (ax (i:=2) rfl)) (ay (aD (bV (ac (le_str (l:=[112,113]))) b8 (bH (aj a8 (ac (aI (i:=0) ae)) (ac le_int)))) (ax (i:=3) rfl)) (ay (aD (aj pD (ac (aj a8 (ac (aI (i:=0) ae)) (ac le_int))) (ac le_int)) (ax (i:=4) rfl)) (ay (aD (le_str (l:=[])) (ax (i:=5) rfl)) (ay (ny (eW (aj kS (am (i:=2)) (ac (bj ae)))) (ay (aD (aj cu (am (i:=1)) (ac (sM (i:=2) (aj a8 (ac (aI (i:=0) ae)) (ac (bu bK (aa (am (i:=2)) ae))))))) (ax (i:=6) rfl)) (ay (aD (aR (c:=bw) (aa (ac (ak (i:=5))) (aa (ac (ak (i:=6))) ae))) (ax (i:=7) rfl)) (ay (gp (dU (jE (vW (ak (i:=4)))) (ay (aD (aj cu (ac (bj (aa (ac (ak (i:=7))) (aa (ac le_int) ae)))) (ac (aj a8 (ac (aI (i:=0) ae)) (ac le_int)))) (ax (i:=7) rfl)) (dU (eW (aj dM (am (i:=7)) (ac le_int))) (aD (aj aX (am (i:=3)) (ac (bV (ac (le_str (l:=[113,97]))) b8 (bH (aj a8 (ac (aI (i:=0) ae)) (ac le_int)))))) (ax (i:=3) rfl)) bF)) bF)) (ay (aD (aj aX (am (i:=3)) (ac (bV (am (i:=6)) (bH (ak (i:=7))) b8))) (ax (i:=3) rfl)) (aD (ak (i:=6)) (ax (i:=5) rfl))))))) (ay (gp (dU (jE (vW (ak (i:=4)))) (aD (aj aX (am (i:=3)) (ac (bV (ac (le_str (l:=[112,113]))) b8 (bH (aj a8 (ac (aI (i:=0) ae)) (ac le_int)))))) (ax (i:=3) rfl)) bF)) (bc (ak (i:=3))))))))) (fun p ds Q h=>Nat.le_trans (Nat.le_of_eq (io p ds Q h)) (by decide)) md h⟩
theorem i8:∀ds Q,a6 ds Q->ds.length=4:=fun ds Q h=>by unfold a6 at h;split at h;(first|rfl|exact h.elim);(first|rfl|exact h.elim)
theorem ou (D:cN K mg "_law_needed" gE) (T:Txt mg) (TC:TxC K):Cal P w K mg base 1 "_law_needed" ["_law_laps_here","_law_table","_law_mark","_law_i"] (spP K a6):=by
 refine D.ok fJ (fun _ _ _ _ _ _ us hl=>match us,hl with|[_,_,_,_],_=>rfl) (fun vs H Q E h=>?_) (fun f cdv A outer s H vs Q E hr h=>?_)
 .exact j2 i8 h
 .have hu:=hr.units
  exact⟨_,(ah (aF (i:=4) fJ.nd rfl (by first|exact Or.inl rfl|exact Or.inr rfl) (aC nE (pv 2) (aC yA ai (pv 3)))) (ah (fB (wi:=(jW (aW (tCB (jZ K) (aW (a9 0) dC)) dC))) (g:=(bR 0)) (tts:=(jX (tOp (qW K false) (tOp ut (tOp B1 (a9 1) (a9 0)) (tC (V.int 1))) (tC (V.int 1))))) (te:=(a9 0)) (i:=5) ["_law_j","_law_below"] [none,some 4] fJ.nd rfl (Or.inl rfl) rfl (bZ rfl T.b_range (paC (az (c6 K rfl) rfl T.b_len PySem.boot_len (paC (pv 0) ag)) ag)) (fun _ _ _ _=>⟨(aK (i:=0) (by show List.Nodup (["_law_j","_law_below"]:List Str);decide +kernel) rfl (by first|exact Or.inl rfl|exact Or.inr rfl)),(fA (aN (gz K rfl hu) (aC pJ (aC wA (pv 1) (pv 0)) ai) ai (bb _))),(pv 0)⟩) (by kernel_rfl)) (au (ba (az (zx K rfl rfl) rfl T.b_max boot_max (paC (aC (bx K rfl) (bq (paC ai ag)) (bG (wi:=(gK K (a9 5))) (g:=(bR 0)) (tts:=gJ) (te:=(tOp (pS K) (tOp (pF K) (tOp (pF K) (a9 2) (a9 3)) (a9 0)) (tOp (pF K) (tOp (pF K) (a9 4) (a9 0)) (a9 1)))) ["_law_j","_law_i","_law_table","_law_below","_law_laps_here"] [none,some 3,some 1,some 4,some 0] rfl (cr K rfl (pv 5)) (fun _ _ _ _=>⟨(aK (i:=0) (by show List.Nodup (["_law_j","_law_i","_law_table","_law_below","_law_laps_here"]:List Str);decide +kernel) rfl (by first|exact Or.inl rfl|exact Or.inr rfl)),bB,(aC (bx K rfl) (b7 (eH K rfl) (b7 (eH K rfl) (pv 2) (pv 3) (fun _ _=>rfl)) (pv 0) (fun _ _=>rfl)) (b7 (eH K rfl) (b7 (eH K rfl) (pv 4) (pv 0) (fun _ _=>rfl)) (pv 1) (fun _ _=>rfl)))⟩) (by kernel_rfl))) ag)))))),fnP (K:=K) (c:=a6) (ps:=d7) (N:=["_law_laps_here","_law_table","_law_mark","_law_i","_law_below","_law_others"]) (ay (aD (aj iO (am (i:=2)) (ac (aj sN (ac le_int) (am (i:=3))))) (ax (i:=4) rfl)) (ay (aD (bd (ix:=[none,some 4]) rfl (iR (aa (ac (bu bK (aa (am (i:=0)) ae))) ae)) (fun fs hc=>(aE (i:=0) (gL hc (by decide)))) (eW (aj dM (ac (aj kU (ac (aj pI (am (i:=1)) (am (i:=0)))) (ac le_int))) (ac le_int))) (ak (i:=0))) (ax (i:=5) rfl)) (bc (bu wx (aa (ac (aj aX (ac (bj (aa (ac le_int) ae))) (ac (bd (ix:=[none,some 3,some 1,some 4,some 0]) rfl (cz (ak (i:=5))) (fun fs hc=>(aE (i:=0) (gL hc (by decide)))) cO (aj aX (ac (aj cu (ac (aj cu (am (i:=2)) (am (i:=3)))) (am (i:=0)))) (ac (aj cu (ac (aj cu (am (i:=4)) (am (i:=0)))) (am (i:=1))))))))) ae))))) (fun ds Q h=>Nat.le_trans (Nat.le_of_eq (i8 ds Q h)) (by decide)) oh h⟩
theorem jU:∀p ds Q,cf p ds Q->ds.length+1=1:=fun p ds Q h=>by unfold cf at h;split at h;(first|rfl|exact h.elim);(first|rfl|exact h.elim)
theorem qy (D:cN K mg "_law_eight" iE) (T:Txt mg) (TC:TxC K) (C_law_next:Cal P w K mg base 1 "_law_next" ["_law_deck_here"] (spR K aq)):Cal P w K mg base 2 "_law_eight" ["_law_deck_here"] (spR K cf):=by
 refine D.ok dn (fun _ _ _ _ _ _ us hl=>match us,hl with|[_],_=>rfl) (fun vs H Q E h=>?_) (fun f cdv A outer s H vs Q E hr h=>?_)
 .exact xC jU h
 .have hu:=hr.units
  exact⟨_,(ah (aF (i:=1) dn.nd rfl (by first|exact Or.inl rfl|exact Or.inr rfl) (aC b9 (aA C_law_next (hr.mono (by decide)) (paC (pv 0) ag)) ai)) (ah (fB (wi:=(jW (aW (tC (V.int 3)) dC))) (g:=(bR 0)) (tts:=gJ) (te:=(tOp (pF K) (tC (V.str (S [97,98,99,100,101,102,103,104,105,106,107,108,109,110,111,112,113,114,115,116,117,118,119,120,121,122]))) (tOp ym (tOp (pS K) (a9 1) (tOp vY (tC (V.int 5)) (a9 0))) (tC (V.int 26))))) (i:=2) ["_law_k","_law_first"] [none,some 1] dn.nd rfl (Or.inl rfl) rfl (bZ rfl T.b_range (paC ai ag)) (fun _ _ _ _=>⟨(aK (i:=0) (by show List.Nodup (["_law_k","_law_first"]:List Str);decide +kernel) rfl (by first|exact Or.inl rfl|exact Or.inr rfl)),bB,(b7 (eH K rfl) (dD (l:=[97,98,99,100,101,102,103,104,105,106,107,108,109,110,111,112,113,114,115,116,117,118,119,120,121,122]) (by decide +kernel)) (aC b9 (aC (bx K rfl) (pv 1) (aC f9 ai (pv 0))) ai) (fun _ _=>rfl))⟩) (by kernel_rfl)) (ah (aF (i:=3) dn.nd rfl (by first|exact Or.inl rfl|exact Or.inr rfl) (bq ag)) (ah (gf PassesOwn.never rfl (cr K rfl (pv 2)) (aK (i:=4) dn.nd rfl (by first|exact Or.inl rfl|exact Or.inr rfl)) (au (gd (gZ K rfl PySem.F.plainAttrs_list PySem.F.slot_list_extend PySem.F.type_list_extend vm (pv 3) (paC (bG (wi:=(gK K (a9 2))) (g:=(bR 0)) (tts:=gJ) (te:=(tOp (pS K) (a9 1) (a9 0))) ["_law_other","_law_one"] [none,some 4] rfl (cr K rfl (pv 2)) (fun _ _ _ _=>⟨(aK (i:=0) (by show List.Nodup (["_law_other","_law_one"]:List Str);decide +kernel) rfl (by first|exact Or.inl rfl|exact Or.inr rfl)),bB,(aC (bx K rfl) (pv 1) (pv 0))⟩) (by kernel_rfl)) ag))))) (ah (gd (gZ K rfl PySem.F.plainAttrs_list PySem.F.slot_list_pop PySem.F.type_list_pop sd (pv 3) (paC (aC b9 (aA C_law_next (hr.mono (by decide)) (paC (pv 0) ag)) ai) ag))) (ah (aF (i:=5) dn.nd rfl (by first|exact Or.inl rfl|exact Or.inr rfl) (aC b9 (aA C_law_next (hr.mono (by decide)) (paC (pv 0) ag)) ai)) (au (ba (aC (bx K rfl) (bU (oA K rfl) (pv 3) (cG (pv 5)) cT) (bU (oA K rfl) (pv 3) cT (cG (pv 5)))))))))))),fnR (K:=K) (c:=cf) (ps:=eT) (N:=["_law_deck_here","_law_first","_law_letters","_law_words_here","_law_one","_law_turn"]) (ay (aD (aj a8 (ac (aI (i:=0) ae)) (ac le_int)) (ax (i:=1) rfl)) (ay (aD (bd (ix:=[none,some 1]) rfl (iR (aa (ac le_int) ae)) (fun fs hc=>(aE (i:=0) (gL hc (by decide)))) cO (aj cu (ac (le_str (l:=[97,98,99,100,101,102,103,104,105,106,107,108,109,110,111,112,113,114,115,116,117,118,119,120,121,122]))) (ac (aj a8 (ac (aj aX (am (i:=1)) (ac (aj dA (ac le_int) (am (i:=0)))))) (ac le_int))))) (ax (i:=2) rfl)) (ay (aD (bj ae) (ax (i:=3) rfl)) (ay (gu (cz (ak (i:=2))) (aE (i:=4) rfl) (gn (DO (i:=3) (bd (ix:=[none,some 4]) rfl (cz (ak (i:=2))) (fun fs hc=>(aE (i:=0) (gL hc (by decide)))) cO (aj aX (am (i:=1)) (am (i:=0))))))) (ay (gn (sM (i:=3) (aj a8 (ac (aI (i:=0) ae)) (ac le_int)))) (ay (aD (aj a8 (ac (aI (i:=0) ae)) (ac le_int)) (ax (i:=5) rfl)) (bc (sW (aj aX (ac (bV (am (i:=3)) (bH (ak (i:=5))) b8)) (ac (bV (am (i:=3)) b8 (bH (ak (i:=5)))))))))))))) (fun p ds Q h=>Nat.le_trans (Nat.le_of_eq (jU p ds Q h)) (by decide)) ql h⟩
theorem lK:∀p ds Q,cL p ds Q->ds.length+1=3:=fun p ds Q h=>by unfold cL at h;split at h;(first|rfl|exact h.elim);(first|rfl|exact h.elim)
theorem rQ (D:cN K mg "_law_more" jp) (T:Txt mg) (TC:TxC K) (C_law_next:Cal P w K mg base 1 "_law_next" ["_law_deck_here"] (spR K aq)):Cal P w K mg base 2 "_law_more" ["_law_deck_here","_law_many","_law_turn"] (spR K cL):=by
 refine D.ok lb (fun _ _ _ _ _ _ us hl=>match us,hl with|[_,_,_],_=>rfl) (fun vs H Q E h=>?_) (fun f cdv A outer s H vs Q E hr h=>?_)
 .exact xC lK h
 .have hu:=hr.units
  exact⟨_,(@ah _ _ _ _ _ (@fm _ _ _ (@dr _ _ _ _ _ _ _ _ (@aN _ _ _ _ _ _ _ _ AJ (@pv _ 1 _ _ rfl (by first|exact Or.inl rfl|exact Or.inr (Or.inl rfl)|exact Or.inr (Or.inr rfl)) (by decide) (by decide)) ai (bb _)) (@au _ _ _ (@aF _ _ 2 _ _ _ _ lb.nd rfl (by first|exact Or.inl rfl|exact Or.inr rfl) (@aA _ _ _ _ _ _ _ _ _ _ C_law_next (hr.mono (by decide)) (@paC _ _ _ _ _ (@pv _ 0 _ _ rfl (by first|exact Or.inl rfl|exact Or.inr (Or.inl rfl)|exact Or.inr (Or.inr rfl)) (by decide) (by decide)) ag rfl) rfl (by decide) rfl rfl) rfl (by first|exact .inl rfl|exact .inr rfl|assumption))) bE)) (@au _ _ _ (@ba _ _ _ _ (@b7 _ _ _ _ _ _ _ (eH K rfl) (@bq _ _ _ _ (@paC _ _ _ _ _ ai (@paC _ _ _ _ _ ai (@paC _ _ _ _ _ ai (@paC _ _ _ _ _ ai (@paC _ _ _ _ _ ai (@paC _ _ _ _ _ ai (@paC _ _ _ _ _ ai (@paC _ _ _ _ _ (@aC _ _ _ _ _ _ _ _ yo ai ai) ag rfl) rfl) rfl) rfl) rfl) rfl) rfl) rfl)) (@aC _ _ _ _ _ _ _ _ b9 (@pv _ 2 _ _ rfl (by first|exact Or.inl rfl|exact Or.inr (Or.inl rfl)|exact Or.inr (Or.inr rfl)) (by decide) (by decide)) ai) (fun _ _=>rfl))))),fnR (K:=K) (c:=cL) (ps:=fQ) (N:=["_law_deck_here","_law_many","_law_turn"]) (ay (gp (dU (eW (aj qO (am (i:=1)) (ac le_int))) (aD (aI (i:=0) ae) (ax (i:=2) rfl)) bF)) (bc (aj cu (ac (bj (aa (ac le_int) (aa (ac le_int) (aa (ac le_int) (aa (ac le_int) (aa (ac le_int) (aa (ac le_int) (aa (ac le_int) (aa (ac (aj pA (ac le_int) (ac le_int))) ae)))))))))) (ac (aj a8 (am (i:=2)) (ac le_int)))))) (fun p ds Q h=>Nat.le_trans (Nat.le_of_eq (lK p ds Q h)) (by decide)) rH h⟩
theorem i9:∀p ds Q,bJ p ds Q->ds.length+1=2:=fun p ds Q h=>by unfold bJ at h;split at h;(first|rfl|exact h.elim);(first|rfl|exact h.elim)
theorem oy (D:cN K mg "_law_raised" gF) (T:Txt mg) (TC:TxC K) (C_law_more:Cal P w K mg base 2 "_law_more" ["_law_deck_here","_law_many","_law_turn"] (spR K cL)) (C_law_needed:Cal P w K mg base 1 "_law_needed" ["_law_laps_here","_law_table","_law_mark","_law_i"] (spP K a6)) (C_law_next:Cal P w K mg base 1 "_law_next" ["_law_deck_here"] (spR K aq)):Cal P w K mg base 3 "_law_raised" ["_law_deck_here","_law_laps_here"] (spR K bJ):=by
 refine D.ok cK (fun _ _ _ _ _ _ us hl=>match us,hl with|[_,_],_=>rfl) (fun vs H Q E h=>?_) (fun f cdv A outer s H vs Q E hr h=>?_)
 .exact xC i9 h
 .have hu:=hr.units
  exact⟨_,(@ah _ _ _ _ _ (@aF _ _ 2 _ _ _ _ cK.nd rfl (by first|exact Or.inl rfl|exact Or.inr rfl) (@az _ _ _ _ _ _ _ _ _ (c6 K rfl) rfl T.b_len PySem.boot_len (@paC _ _ _ _ _ (@pv _ 1 _ _ rfl (by first|exact Or.inl rfl|exact Or.inr (Or.inl rfl)|exact Or.inr (Or.inr rfl)) (by decide) (by decide)) ag rfl) (by decide) (by decide) rfl rfl) rfl (by first|exact .inl rfl|exact .inr rfl|assumption)) (@ah _ _ _ _ _ (@aF _ _ 3 _ _ _ _ cK.nd rfl (by first|exact Or.inl rfl|exact Or.inr rfl) (@bq _ _ _ _ ag) rfl (by first|exact .inl rfl|exact .inr rfl|assumption)) (@ah _ _ _ _ _ (@aF _ _ 4 _ _ _ _ cK.nd rfl (by first|exact Or.inl rfl|exact Or.inr rfl) (@aA _ _ _ _ _ _ _ _ _ _ C_law_next (hr.mono (by decide)) (@paC _ _ _ _ _ (@pv _ 0 _ _ rfl (by first|exact Or.inl rfl|exact Or.inr (Or.inl rfl)|exact Or.inr (Or.inr rfl)) (by decide) (by decide)) ag rfl) rfl (by decide) rfl rfl) rfl (by first|exact .inl rfl|exact .inr rfl|assumption)) (@ah _ _ _ _ _ (@gf _ _ _ _ _ _ _ _ PassesOwn.never rfl (@bZ _ _ _ _ _ _ rfl T.b_range (@paC _ _ _ _ _ (@aC _ _ _ _ _ _ _ _ yA ai (@pv _ 2 _ _ rfl (by first|exact Or.inl rfl|exact Or.inr (Or.inl rfl)|exact Or.inr (Or.inr rfl)) (by decide) (by decide))) ag rfl) rfl) (@aK _ _ 5 _ cK.nd rfl (by first|exact Or.inl rfl|exact Or.inr rfl) (by first|exact .inl rfl|exact .inr rfl|assumption)) (@ah _ _ _ _ _ (@aF _ _ 6 _ _ _ _ cK.nd rfl (by first|exact Or.inl rfl|exact Or.inr rfl) (@aC _ _ _ _ _ _ _ _ f9 (@bq _ _ _ _ (@paC _ _ _ _ _ (@kn _ _ _ _ _ _ gg ai) ag rfl)) (@pv _ 2 _ _ rfl (by first|exact Or.inl rfl|exact Or.inr (Or.inl rfl)|exact Or.inr (Or.inr rfl)) (by decide) (by decide))) rfl (by first|exact .inl rfl|exact .inr rfl|assumption)) (@ah _ _ _ _ _ (@gf _ _ _ _ _ _ _ _ PassesOwn.never rfl (@bZ _ _ _ _ _ _ rfl T.b_range (@paC _ _ _ _ _ (@pv _ 2 _ _ rfl (by first|exact Or.inl rfl|exact Or.inr (Or.inl rfl)|exact Or.inr (Or.inr rfl)) (by decide) (by decide)) ag rfl) rfl) (@aK _ _ 7 _ cK.nd rfl (by first|exact Or.inl rfl|exact Or.inr rfl) (by first|exact .inl rfl|exact .inr rfl|assumption)) (@au _ _ _ (@dr _ _ _ _ _ _ _ _ (@aN _ _ _ _ _ _ _ _ (gz K rfl hu) (@aC _ _ _ _ _ _ _ _ pJ (@aC _ _ _ _ _ _ _ _ wA (@pv _ 5 _ _ rfl (by first|exact Or.inl rfl|exact Or.inr (Or.inl rfl)|exact Or.inr (Or.inr rfl)) (by decide) (by decide)) (@pv _ 7 _ _ rfl (by first|exact Or.inl rfl|exact Or.inr (Or.inl rfl)|exact Or.inr (Or.inr rfl)) (by decide) (by decide))) ai) ai (bb _)) (@ah _ _ _ _ _ (@jj _ _ _ _ _ _ _ _ (@aA _ _ _ _ _ _ _ _ _ _ C_law_needed (hr.mono (by decide)) (@paC _ _ _ _ _ (@pv _ 1 _ _ rfl (by first|exact Or.inl rfl|exact Or.inr (Or.inl rfl)|exact Or.inr (Or.inr rfl)) (by decide) (by decide)) (@paC _ _ _ _ _ (@pv _ 3 _ _ rfl (by first|exact Or.inl rfl|exact Or.inr (Or.inl rfl)|exact Or.inr (Or.inr rfl)) (by decide) (by decide)) (@paC _ _ _ _ _ (@pv _ 5 _ _ rfl (by first|exact Or.inl rfl|exact Or.inr (Or.inl rfl)|exact Or.inr (Or.inr rfl)) (by decide) (by decide)) (@paC _ _ _ _ _ (@pv _ 7 _ _ rfl (by first|exact Or.inl rfl|exact Or.inr (Or.inl rfl)|exact Or.inr (Or.inr rfl)) (by decide) (by decide)) ag rfl) rfl) rfl) rfl) rfl (by decide) rfl rfl) (@mr _ _ _ _ _ _ _ (@pv _ 6 _ _ rfl (by first|exact Or.inl rfl|exact Or.inr (Or.inl rfl)|exact Or.inr (Or.inr rfl)) (by decide) (by decide)) (@pv _ 7 _ _ rfl (by first|exact Or.inl rfl|exact Or.inr (Or.inl rfl)|exact Or.inr (Or.inr rfl)) (by decide) (by decide)) gI (fun _=>rfl)) rfl) (@au _ _ _ (@dr _ _ _ _ _ _ _ _ (@aN _ _ _ _ _ _ _ _ zv (@aC _ _ _ _ _ _ _ _ b9 (@pv _ 4 _ _ rfl (by first|exact Or.inl rfl|exact Or.inr (Or.inl rfl)|exact Or.inr (Or.inr rfl)) (by decide) (by decide)) ai) ai (bb _)) (@au _ _ _ (@jj _ _ _ _ _ _ _ _ (@aC _ _ _ _ _ _ _ _ (bx K rfl) (@b7 _ _ _ _ _ _ _ (eH K rfl) (@pv _ 6 _ _ rfl (by first|exact Or.inl rfl|exact Or.inr (Or.inl rfl)|exact Or.inr (Or.inr rfl)) (by decide) (by decide)) (@pv _ 7 _ _ rfl (by first|exact Or.inl rfl|exact Or.inr (Or.inl rfl)|exact Or.inr (Or.inr rfl)) (by decide) (by decide)) (fun _ _=>rfl)) (@aA _ _ _ _ _ _ _ _ _ _ C_law_more (hr.mono (by decide)) (@paC _ _ _ _ _ (@pv _ 0 _ _ rfl (by first|exact Or.inl rfl|exact Or.inr (Or.inl rfl)|exact Or.inr (Or.inr rfl)) (by decide) (by decide)) (@paC _ _ _ _ _ (@pv _ 2 _ _ rfl (by first|exact Or.inl rfl|exact Or.inr (Or.inl rfl)|exact Or.inr (Or.inr rfl)) (by decide) (by decide)) (@paC _ _ _ _ _ (@aC _ _ _ _ _ _ _ _ (bx K rfl) (@aC _ _ _ _ _ _ _ _ (bx K rfl) (@aC _ _ _ _ _ _ _ _ kQ (@pv _ 4 _ _ rfl (by first|exact Or.inl rfl|exact Or.inr (Or.inl rfl)|exact Or.inr (Or.inr rfl)) (by decide) (by decide)) ai) (@aC _ _ _ _ _ _ _ _ f9 (@pv _ 5 _ _ rfl (by first|exact Or.inl rfl|exact Or.inr (Or.inl rfl)|exact Or.inr (Or.inr rfl)) (by decide) (by decide)) ai)) (@aC _ _ _ _ _ _ _ _ f9 (@pv _ 7 _ _ rfl (by first|exact Or.inl rfl|exact Or.inr (Or.inl rfl)|exact Or.inr (Or.inr rfl)) (by decide) (by decide)) ai)) ag rfl) rfl) rfl) rfl (by decide) rfl rfl)) (@mr _ _ _ _ _ _ _ (@pv _ 6 _ _ rfl (by first|exact Or.inl rfl|exact Or.inr (Or.inl rfl)|exact Or.inr (Or.inr rfl)) (by decide) (by decide)) (@pv _ 7 _ _ rfl (by first|exact Or.inl rfl|exact Or.inr (Or.inl rfl)|exact Or.inr (Or.inr rfl)) (by decide) (by decide)) gI (fun _=>rfl)) rfl)) bE))) bE)) (fun _=>rfl)) (@au _ _ _ (@gd _ _ _ _ (@gZ _ _ _ _ _ _ _ _ _ _ _ _ K rfl PySem.F.plainAttrs_list PySem.F.slot_list_append PySem.F.type_list_append eh (@pv _ 3 _ _ rfl (by first|exact Or.inl rfl|exact Or.inr (Or.inl rfl)|exact Or.inr (Or.inr rfl)) (by decide) (by decide)) (@paC _ _ _ _ _ (@pv _ 6 _ _ rfl (by first|exact Or.inl rfl|exact Or.inr (Or.inl rfl)|exact Or.inr (Or.inr rfl)) (by decide) (by decide)) ag rfl) rfl rfl rfl rfl rfl) rfl)))) (fun _=>rfl)) (@au _ _ _ (@ba _ _ _ _ (@pv _ 3 _ _ rfl (by first|exact Or.inl rfl|exact Or.inr (Or.inl rfl)|exact Or.inr (Or.inr rfl)) (by decide) (by decide)))))))),fnR (K:=K) (c:=bJ) (ps:=ee) (N:=["_law_deck_here","_law_laps_here","_law_many","_law_table","_law_close","_law_mark","_law_row","_law_i"]) (ay (aD (bu bK (aa (am (i:=1)) ae)) (ax (i:=2) rfl)) (ay (aD (bj ae) (ax (i:=3) rfl)) (ay (aD (aI (i:=0) ae) (ax (i:=4) rfl)) (ay (gu (iR (aa (ac (aj sN (ac le_int) (am (i:=2)))) ae)) (aE (i:=5) rfl) (ay (aD (aj dA (ac (bj (aa (ac (kL gw (ac le_int))) ae))) (am (i:=2))) (ax (i:=6) rfl)) (ay (gu (iR (aa (ac (ak (i:=2))) ae)) (aE (i:=7) rfl) (dU (eW (aj dM (ac (aj kU (ac (aj pI (am (i:=5)) (am (i:=7)))) (ac le_int))) (ac le_int))) (ay (qR (i:=6) (By (aR (c:=a6) (aa (ac (ak (i:=1))) (aa (ac (ak (i:=3))) (aa (ac (ak (i:=5))) (aa (ac (ak (i:=7))) ae)))))) (ak (i:=7))) (dU (eW (aj pD (ac (aj a8 (am (i:=4)) (ac le_int))) (ac le_int))) (qR (i:=6) (aj aX (ac (aj cu (am (i:=6)) (am (i:=7)))) (ac (aI (i:=0) (aa (ac (ak (i:=2))) (aa (ac (aj aX (ac (aj aX (ac (aj iu (am (i:=4)) (ac le_int))) (ac (aj dA (am (i:=5)) (ac le_int))))) (ac (aj dA (am (i:=7)) (ac le_int))))) ae))))) (ak (i:=7))) bF)) bF)) (gn (pG (i:=3) (ak (i:=6))))))) (bc (ak (i:=3))))))) (fun p ds Q h=>Nat.le_trans (Nat.le_of_eq (i9 p ds Q h)) (by decide)) oj h⟩
theorem lL:∀p ds Q,cM p ds Q->ds.length+1=3:=fun p ds Q h=>by unfold cM at h;split at h;(first|rfl|exact h.elim);(first|rfl|exact h.elim)
theorem rR (D:cN K mg "_law_bent" jq) (T:Txt mg) (TC:TxC K) (C_law_needed:Cal P w K mg base 1 "_law_needed" ["_law_laps_here","_law_table","_law_mark","_law_i"] (spP K a6)) (C_law_next:Cal P w K mg base 1 "_law_next" ["_law_deck_here"] (spR K aq)):Cal P w K mg base 2 "_law_bent" ["_law_deck_here","_law_laps_here","_law_table"] (spR K cM):=by
 refine D.ok cU (fun _ _ _ _ _ _ us hl=>match us,hl with|[_,_,_],_=>rfl) (fun vs H Q E h=>?_) (fun f cdv A outer s H vs Q E hr h=>?_)
 .exact xC lL h
 .have hu:=hr.units
  exact⟨_,(@ah _ _ _ _ _ (@aF _ _ 3 _ _ _ _ cU.nd rfl (by first|exact Or.inl rfl|exact Or.inr rfl) (@az _ _ _ _ _ _ _ _ _ (c6 K rfl) rfl T.b_len PySem.boot_len (@paC _ _ _ _ _ (@pv _ 1 _ _ rfl (by first|exact Or.inl rfl|exact Or.inr (Or.inl rfl)|exact Or.inr (Or.inr rfl)) (by decide) (by decide)) ag rfl) (by decide) (by decide) rfl rfl) rfl (by first|exact .inl rfl|exact .inr rfl|assumption)) (@ah _ _ _ _ _ (@aF _ _ 4 _ _ _ _ cU.nd rfl (by first|exact Or.inl rfl|exact Or.inr rfl) (@aC _ _ _ _ _ _ _ _ b9 (@aA _ _ _ _ _ _ _ _ _ _ C_law_next (hr.mono (by decide)) (@paC _ _ _ _ _ (@pv _ 0 _ _ rfl (by first|exact Or.inl rfl|exact Or.inr (Or.inl rfl)|exact Or.inr (Or.inr rfl)) (by decide) (by decide)) ag rfl) rfl (by decide) rfl rfl) ai) rfl (by first|exact .inl rfl|exact .inr rfl|assumption)) (@ah _ _ _ _ _ (@aF _ _ 5 _ _ _ _ cU.nd rfl (by first|exact Or.inl rfl|exact Or.inr rfl) (@aC _ _ _ _ _ _ _ _ (bx K rfl) ai (@aC _ _ _ _ _ _ _ _ b9 (@aA _ _ _ _ _ _ _ _ _ _ C_law_next (hr.mono (by decide)) (@paC _ _ _ _ _ (@pv _ 0 _ _ rfl (by first|exact Or.inl rfl|exact Or.inr (Or.inl rfl)|exact Or.inr (Or.inr rfl)) (by decide) (by decide)) ag rfl) rfl (by decide) rfl rfl) (@aC _ _ _ _ _ _ _ _ nE (@az _ _ _ _ _ _ _ _ _ (c6 K rfl) rfl T.b_len PySem.boot_len (@paC _ _ _ _ _ (@pv _ 2 _ _ rfl (by first|exact Or.inl rfl|exact Or.inr (Or.inl rfl)|exact Or.inr (Or.inr rfl)) (by decide) (by decide)) ag rfl) (by decide) (by decide) rfl rfl) ai))) rfl (by first|exact .inl rfl|exact .inr rfl|assumption)) (@ah _ _ _ _ _ (@aF _ _ 6 _ _ _ _ cU.nd rfl (by first|exact Or.inl rfl|exact Or.inr rfl) (@aC _ _ _ _ _ _ _ _ b9 (@aA _ _ _ _ _ _ _ _ _ _ C_law_next (hr.mono (by decide)) (@paC _ _ _ _ _ (@pv _ 0 _ _ rfl (by first|exact Or.inl rfl|exact Or.inr (Or.inl rfl)|exact Or.inr (Or.inr rfl)) (by decide) (by decide)) ag rfl) rfl (by decide) rfl rfl) (@pv _ 3 _ _ rfl (by first|exact Or.inl rfl|exact Or.inr (Or.inl rfl)|exact Or.inr (Or.inr rfl)) (by decide) (by decide))) rfl (by first|exact .inl rfl|exact .inr rfl|assumption)) (@ah _ _ _ _ _ (@fB _ _ _ _ _ _ ((gK K (a9 2))) ((bR 0)) gJ ((tCB (gk K) (aW (a9 0) dC))) 7 _ _ _ _ ["_law_row"] [none] cU.nd rfl (Or.inl rfl) rfl (@cr _ _ K rfl _ _ (@pv _ 2 _ _ rfl (by first|exact Or.inl rfl|exact Or.inr (Or.inl rfl)|exact Or.inr (Or.inr rfl)) (by decide) (by decide))) (fun _ _ _ _=>⟨(aK (i:=0) (by show List.Nodup (["_law_row"]:List Str);decide +kernel) rfl (by first|exact Or.inl rfl|exact Or.inr rfl)),bB,(bv (sG K rfl) rfl T.b_list boot_list (paC (pv 0) ag))⟩) (by kernel_rfl) rfl (fun _=>rfl) (by first|exact .inl rfl|exact .inr rfl|assumption)) (@ah _ _ _ _ _ (@fm _ _ _ (@dr _ _ _ _ _ _ _ _ (PW.pt (@oH _ _ _ _ _ _ _ (@aN _ _ _ _ _ _ _ _ AJ (@pv _ 4 _ _ rfl (by first|exact Or.inl rfl|exact Or.inr (Or.inl rfl)|exact Or.inr (Or.inr rfl)) (by decide) (by decide)) ai (bb _)) (@kl _ _ _ _ (@aN _ _ _ _ _ _ _ _ (gz K rfl hu) (@aC _ _ _ _ _ _ _ _ pJ (@aC _ _ _ _ _ _ _ _ wA (@pv _ 5 _ _ rfl (by first|exact Or.inl rfl|exact Or.inr (Or.inl rfl)|exact Or.inr (Or.inr rfl)) (by decide) (by decide)) (@pv _ 6 _ _ rfl (by first|exact Or.inl rfl|exact Or.inr (Or.inl rfl)|exact Or.inr (Or.inr rfl)) (by decide) (by decide))) ai) ai (bb _))))) (@ah _ _ _ _ _ (@aF _ _ 8 _ _ _ _ cU.nd rfl (by first|exact Or.inl rfl|exact Or.inr rfl) (@b7 _ _ _ _ _ _ _ (eH K rfl) (@bq _ _ _ _ (@paC _ _ _ _ _ ai (@paC _ _ _ _ _ ai (@paC _ _ _ _ _ ai (@paC _ _ _ _ _ (@aC _ _ _ _ _ _ _ _ yo ai ai) ag rfl) rfl) rfl) rfl)) (@aC _ _ _ _ _ _ _ _ b9 (@aA _ _ _ _ _ _ _ _ _ _ C_law_next (hr.mono (by decide)) (@paC _ _ _ _ _ (@pv _ 0 _ _ rfl (by first|exact Or.inl rfl|exact Or.inr (Or.inl rfl)|exact Or.inr (Or.inr rfl)) (by decide) (by decide)) ag rfl) rfl (by decide) rfl rfl) ai) (fun _ _=>rfl)) rfl (by first|exact .inl rfl|exact .inr rfl|assumption)) (@au _ _ _ (@jj _ _ _ _ _ _ _ _ (@aC _ _ _ _ _ _ _ _ nE (@aA _ _ _ _ _ _ _ _ _ _ C_law_needed (hr.mono (by decide)) (@paC _ _ _ _ _ (@pv _ 1 _ _ rfl (by first|exact Or.inl rfl|exact Or.inr (Or.inl rfl)|exact Or.inr (Or.inr rfl)) (by decide) (by decide)) (@paC _ _ _ _ _ (@pv _ 2 _ _ rfl (by first|exact Or.inl rfl|exact Or.inr (Or.inl rfl)|exact Or.inr (Or.inr rfl)) (by decide) (by decide)) (@paC _ _ _ _ _ (@pv _ 5 _ _ rfl (by first|exact Or.inl rfl|exact Or.inr (Or.inl rfl)|exact Or.inr (Or.inr rfl)) (by decide) (by decide)) (@paC _ _ _ _ _ (@pv _ 6 _ _ rfl (by first|exact Or.inl rfl|exact Or.inr (Or.inl rfl)|exact Or.inr (Or.inr rfl)) (by decide) (by decide)) ag rfl) rfl) rfl) rfl) rfl (by decide) rfl rfl) (@pv _ 8 _ _ rfl (by first|exact Or.inl rfl|exact Or.inr (Or.inl rfl)|exact Or.inr (Or.inr rfl)) (by decide) (by decide))) (@mr _ _ _ _ _ _ _ (@b7 _ _ _ _ _ _ _ (eH K rfl) (@pv _ 7 _ _ rfl (by first|exact Or.inl rfl|exact Or.inr (Or.inl rfl)|exact Or.inr (Or.inr rfl)) (by decide) (by decide)) (@pv _ 5 _ _ rfl (by first|exact Or.inl rfl|exact Or.inr (Or.inl rfl)|exact Or.inr (Or.inr rfl)) (by decide) (by decide)) (fun _ _=>rfl)) (@pv _ 6 _ _ rfl (by first|exact Or.inl rfl|exact Or.inr (Or.inl rfl)|exact Or.inr (Or.inr rfl)) (by decide) (by decide)) gI (fun _=>rfl)) rfl))) (@au _ _ _ (@dr _ _ _ _ _ _ _ _ (@aN _ _ _ _ _ _ _ _ AJ (@pv _ 4 _ _ rfl (by first|exact Or.inl rfl|exact Or.inr (Or.inl rfl)|exact Or.inr (Or.inr rfl)) (by decide) (by decide)) ai (bb _)) (@au _ _ _ (@jj _ _ _ _ _ _ _ _ (@b7 _ _ _ _ _ _ _ (eH K rfl) (@bq _ _ _ _ (@paC _ _ _ _ _ ai (@paC _ _ _ _ _ (@kn _ _ _ _ _ _ gg ai) (@paC _ _ _ _ _ ai (@paC _ _ _ _ _ (@aC _ _ _ _ _ _ _ _ yo ai ai) ag rfl) rfl) rfl) rfl)) (@aC _ _ _ _ _ _ _ _ b9 (@aA _ _ _ _ _ _ _ _ _ _ C_law_next (hr.mono (by decide)) (@paC _ _ _ _ _ (@pv _ 0 _ _ rfl (by first|exact Or.inl rfl|exact Or.inr (Or.inl rfl)|exact Or.inr (Or.inr rfl)) (by decide) (by decide)) ag rfl) rfl (by decide) rfl rfl) ai) (fun _ _=>rfl)) (@mr _ _ _ _ _ _ _ (@b7 _ _ _ _ _ _ _ (eH K rfl) (@pv _ 7 _ _ rfl (by first|exact Or.inl rfl|exact Or.inr (Or.inl rfl)|exact Or.inr (Or.inr rfl)) (by decide) (by decide)) (@pv _ 5 _ _ rfl (by first|exact Or.inl rfl|exact Or.inr (Or.inl rfl)|exact Or.inr (Or.inr rfl)) (by decide) (by decide)) (fun _ _=>rfl)) (@pv _ 6 _ _ rfl (by first|exact Or.inl rfl|exact Or.inr (Or.inl rfl)|exact Or.inr (Or.inr rfl)) (by decide) (by decide)) gI (fun _=>rfl)) rfl)) (@au _ _ _ (@dr _ _ _ _ _ _ _ _ (@aN _ _ _ _ _ _ _ _ (gz K rfl hu) (@pv _ 4 _ _ rfl (by first|exact Or.inl rfl|exact Or.inr (Or.inl rfl)|exact Or.inr (Or.inr rfl)) (by decide) (by decide)) ai (bb _)) (@au _ _ _ (@jj _ _ _ _ _ _ _ _ (@b7 _ _ _ _ _ _ _ (eH K rfl) (@bq _ _ _ _ (@paC _ _ _ _ _ oG (@paC _ _ _ _ _ oG (@paC _ _ _ _ _ gW (@paC _ _ _ _ _ (@dD _ _ _ [49] _ (by decide +kernel)) ag rfl) rfl) rfl) rfl)) (@aC _ _ _ _ _ _ _ _ b9 (@aA _ _ _ _ _ _ _ _ _ _ C_law_next (hr.mono (by decide)) (@paC _ _ _ _ _ (@pv _ 0 _ _ rfl (by first|exact Or.inl rfl|exact Or.inr (Or.inl rfl)|exact Or.inr (Or.inr rfl)) (by decide) (by decide)) ag rfl) rfl (by decide) rfl rfl) ai) (fun _ _=>rfl)) (@mr _ _ _ _ _ _ _ (@b7 _ _ _ _ _ _ _ (eH K rfl) (@pv _ 7 _ _ rfl (by first|exact Or.inl rfl|exact Or.inr (Or.inl rfl)|exact Or.inr (Or.inr rfl)) (by decide) (by decide)) (@pv _ 5 _ _ rfl (by first|exact Or.inl rfl|exact Or.inr (Or.inl rfl)|exact Or.inr (Or.inr rfl)) (by decide) (by decide)) (fun _ _=>rfl)) (@pv _ 6 _ _ rfl (by first|exact Or.inl rfl|exact Or.inr (Or.inl rfl)|exact Or.inr (Or.inr rfl)) (by decide) (by decide)) gI (fun _=>rfl)) rfl)) (@au _ _ _ (@dr _ _ _ _ _ _ _ _ (@aN _ _ _ _ _ _ _ _ (gz K rfl hu) (@pv _ 4 _ _ rfl (by first|exact Or.inl rfl|exact Or.inr (Or.inl rfl)|exact Or.inr (Or.inr rfl)) (by decide) (by decide)) ai (bb _)) (@au _ _ _ (@jj _ _ _ _ _ _ _ _ (@b7 _ _ _ _ _ _ _ (eH K rfl) (@bq _ _ _ _ (@paC _ _ _ _ _ (@aC _ _ _ _ _ _ _ _ (bx K rfl) (@b7 _ _ _ _ _ _ _ (eH K rfl) (@pv _ 7 _ _ rfl (by first|exact Or.inl rfl|exact Or.inr (Or.inl rfl)|exact Or.inr (Or.inr rfl)) (by decide) (by decide)) (@pv _ 5 _ _ rfl (by first|exact Or.inl rfl|exact Or.inr (Or.inl rfl)|exact Or.inr (Or.inr rfl)) (by decide) (by decide)) (fun _ _=>rfl)) (@bq _ _ _ _ (@paC _ _ _ _ _ ai ag rfl))) (@paC _ _ _ _ _ (@bU _ _ _ _ _ _ _ _ _ _ (oA K rfl) (@b7 _ _ _ _ _ _ _ (eH K rfl) (@pv _ 7 _ _ rfl (by first|exact Or.inl rfl|exact Or.inr (Or.inl rfl)|exact Or.inr (Or.inr rfl)) (by decide) (by decide)) (@pv _ 5 _ _ rfl (by first|exact Or.inl rfl|exact Or.inr (Or.inl rfl)|exact Or.inr (Or.inr rfl)) (by decide) (by decide)) (fun _ _=>rfl)) (@cG _ _ _ ai) cT) (@paC _ _ _ _ _ gW (@paC _ _ _ _ _ sk ag rfl) rfl) rfl) rfl)) (@aC _ _ _ _ _ _ _ _ b9 (@aA _ _ _ _ _ _ _ _ _ _ C_law_next (hr.mono (by decide)) (@paC _ _ _ _ _ (@pv _ 0 _ _ rfl (by first|exact Or.inl rfl|exact Or.inr (Or.inl rfl)|exact Or.inr (Or.inr rfl)) (by decide) (by decide)) ag rfl) rfl (by decide) rfl rfl) ai) (fun _ _=>rfl)) (@mr _ _ _ _ _ _ _ (@pv _ 7 _ _ rfl (by first|exact Or.inl rfl|exact Or.inr (Or.inl rfl)|exact Or.inr (Or.inr rfl)) (by decide) (by decide)) (@pv _ 5 _ _ rfl (by first|exact Or.inl rfl|exact Or.inr (Or.inl rfl)|exact Or.inr (Or.inr rfl)) (by decide) (by decide)) gI (fun _=>rfl)) rfl)) (@au _ _ _ (@aF _ _ 7 _ _ _ _ cU.nd rfl (by first|exact Or.inl rfl|exact Or.inr rfl) (@b7 _ _ _ _ _ _ _ (eH K rfl) (@bq _ _ _ _ (@paC _ _ _ _ _ (@bU _ _ _ _ _ _ _ _ _ _ (oA K rfl) (@pv _ 7 _ _ rfl (by first|exact Or.inl rfl|exact Or.inr (Or.inl rfl)|exact Or.inr (Or.inr rfl)) (by decide) (by decide)) (@cG _ _ _ ai) cT) (@paC _ _ _ _ _ (@aC _ _ _ _ _ _ _ _ (bx K rfl) (@pv _ 7 _ _ rfl (by first|exact Or.inl rfl|exact Or.inr (Or.inl rfl)|exact Or.inr (Or.inr rfl)) (by decide) (by decide)) (@bq _ _ _ _ (@paC _ _ _ _ _ (@b7 _ _ _ _ _ _ _ (eH K rfl) (@pv _ 7 _ _ rfl (by first|exact Or.inl rfl|exact Or.inr (Or.inl rfl)|exact Or.inr (Or.inr rfl)) (by decide) (by decide)) ai (fun _ _=>rfl)) ag rfl))) (@paC _ _ _ _ _ (@bq _ _ _ _ (@paC _ _ _ _ _ (@pv _ 7 _ _ rfl (by first|exact Or.inl rfl|exact Or.inr (Or.inl rfl)|exact Or.inr (Or.inr rfl)) (by decide) (by decide)) ag rfl)) (@paC _ _ _ _ _ (@bU _ _ _ _ _ _ _ _ _ _ (oA K rfl) (@pv _ 7 _ _ rfl (by first|exact Or.inl rfl|exact Or.inr (Or.inl rfl)|exact Or.inr (Or.inr rfl)) (by decide) (by decide)) cT (@cG _ _ _ (@kn _ _ _ _ _ _ gg ai))) (@paC _ _ _ _ _ (@bU _ _ _ _ _ _ _ _ _ _ (oA K rfl) (@pv _ 7 _ _ rfl (by first|exact Or.inl rfl|exact Or.inr (Or.inl rfl)|exact Or.inr (Or.inr rfl)) (by decide) (by decide)) cT (@cG _ _ _ ai)) ag rfl) rfl) rfl) rfl) rfl)) (@aC _ _ _ _ _ _ _ _ b9 (@aA _ _ _ _ _ _ _ _ _ _ C_law_next (hr.mono (by decide)) (@paC _ _ _ _ _ (@pv _ 0 _ _ rfl (by first|exact Or.inl rfl|exact Or.inr (Or.inl rfl)|exact Or.inr (Or.inr rfl)) (by decide) (by decide)) ag rfl) rfl (by decide) rfl rfl) ai) (fun _ _=>rfl)) rfl (by first|exact .inl rfl|exact .inr rfl|assumption))))))))))) (@au _ _ _ (@ba _ _ _ _ (@pv _ 7 _ _ rfl (by first|exact Or.inl rfl|exact Or.inr (Or.inl rfl)|exact Or.inr (Or.inr rfl)) (by decide) (by decide)))))))))),fnR (K:=K) (c:=cM) (ps:=fR) (N:=["_law_deck_here","_law_laps_here","_law_table","_law_many","_law_sort","_law_mark","_law_i","_law_bent_here","_law_less"]) (ay (aD (bu bK (aa (am (i:=1)) ae)) (ax (i:=3) rfl)) (ay (aD (aj a8 (ac (aI (i:=0) ae)) (ac le_int)) (ax (i:=4) rfl)) (ay (aD (aj aX (ac le_int) (ac (aj a8 (ac (aI (i:=0) ae)) (ac (aj iO (ac (bu bK (aa (am (i:=2)) ae))) (ac le_int)))))) (ax (i:=5) rfl)) (ay (aD (aj a8 (ac (aI (i:=0) ae)) (am (i:=3))) (ax (i:=6) rfl)) (DU (x:=7) rfl yN (wZ (yM (tq (pz (eW (aj qO (am (i:=4)) (ac le_int))) (eW (aj dM (ac (aj kU (ac (aj pI (am (i:=5)) (am (i:=6)))) (ac le_int))) (ac le_int)))) (wZ (DS (aD (aj cu (ac (bj (aa (ac le_int) (aa (ac le_int) (aa (ac le_int) (aa (ac (aj pA (ac le_int) (ac le_int))) ae)))))) (ac (aj a8 (ac (aI (i:=0) ae)) (ac le_int)))) (ax (i:=8) rfl)) (aD (aj cu (ac (bj (aa (ac le_int) (aa (ac le_int) (aa (ac le_int) (aa (ac (aj pA (ac le_int) (ac le_int))) ae)))))) (ac (aj a8 (ac (aI (i:=0) ae)) (ac le_int)))) (ax (i:=8) rfl))) (rh (aj iO (ac (aR (c:=a6) (aa (ac (ak (i:=1))) (aa (ac (ak (i:=2))) (aa (ac (ak (i:=5))) (aa (ac (ak (i:=6))) ae)))))) (am (i:=8))) (ak (i:=5)) (ak (i:=6)))) (tq (eW (aj qO (am (i:=4)) (ac le_int))) (rh (aj cu (ac (bj (aa (ac le_int) (aa (ac (kL gw (ac le_int))) (aa (ac le_int) (aa (ac (aj pA (ac le_int) (ac le_int))) ae)))))) (ac (aj a8 (ac (aI (i:=0) ae)) (ac le_int)))) (ak (i:=5)) (ak (i:=6))) (tq (eW (aj dM (am (i:=4)) (ac le_int))) (rh (aj cu (ac (bj (aa (ac px) (aa (ac px) (aa (ac hC) (aa (ac (le_str (l:=[49]))) ae)))))) (ac (aj a8 (ac (aI (i:=0) ae)) (ac le_int)))) (ak (i:=5)) (ak (i:=6))) (tq (eW (aj dM (am (i:=4)) (ac le_int))) (xa (x:=7) (qR (i:=7) (aj cu (ac (bj (aa (ac (aj aX (ac (aj cu (am (i:=7)) (am (i:=5)))) (ac (bj (aa (ac le_int) ae))))) (aa (ac (bV (ac (aj cu (am (i:=7)) (am (i:=5)))) (bH le_int) b8)) (aa (ac hC) (aa (ac wu) ae)))))) (ac (aj a8 (ac (aI (i:=0) ae)) (ac le_int)))) (ak (i:=5)))) (xa (x:=7) (aD (aj cu (ac (bj (aa (ac (bV (am (i:=7)) (bH le_int) b8)) (aa (ac (aj aX (am (i:=7)) (ac (bj (aa (ac (aj cu (am (i:=7)) (ac le_int))) ae))))) (aa (ac (bj (aa (ac (ak (i:=7))) ae))) (aa (ac (bV (am (i:=7)) b8 (bH (kL gw (ac le_int))))) (aa (ac (bV (am (i:=7)) b8 (bH le_int))) ae))))))) (ac (aj a8 (ac (aI (i:=0) ae)) (ac le_int)))) (ax (i:=7) rfl)))))))) (xa (x:=7) (bc (ak (i:=7)))))))))) (fun p ds Q h=>Nat.le_trans (Nat.le_of_eq (lL p ds Q h)) (by decide)) rJ h⟩
theorem mZ:∀ds Q,cQ ds Q->ds.length=1:=fun ds Q h=>by unfold cQ at h;split at h;(first|rfl|exact h.elim);(first|rfl|exact h.elim)
theorem uO (D:cN K mg "_law_odd" k8) (T:Txt mg) (TC:TxC K):Cal P w K mg base 1 "_law_odd" ["_law_laps_here"] (spP K cQ):=by
 refine D.ok jt (fun _ _ _ _ _ _ us hl=>match us,hl with|[_],_=>rfl) (fun vs H Q E h=>?_) (fun f cdv A outer s H vs Q E hr h=>?_)
 .exact j2 mZ h
 .have hu:=hr.units
  exact⟨_,(@ah _ _ _ _ _ (@aF _ _ 1 _ _ _ _ jt.nd rfl (by first|exact Or.inl rfl|exact Or.inr rfl) (@bq _ _ _ _ (@paC _ _ _ _ _ gW (@paC _ _ _ _ _ ai (@paC _ _ _ _ _ oG (@paC _ _ _ _ _ (@dD _ _ _ [] _ (by decide +kernel)) (@paC _ _ _ _ _ (@dD _ _ _ ([97,98]) _ (by decide +kernel)) (@paC _ _ _ _ _ sk (@paC _ _ _ _ _ (@gX _ _ _ _ _ ag) (@paC _ _ _ _ _ (@bq _ _ _ _ (@paC _ _ _ _ _ (@bq _ _ _ _ ag) ag rfl)) (@paC _ _ _ _ _ (@aC _ _ _ _ _ _ _ _ f9 (@bq _ _ _ _ (@paC _ _ _ _ _ (@gX _ _ _ _ _ ag) ag rfl)) ai) (@paC _ _ _ _ _ (@gX _ _ _ _ _ (@paC _ _ _ _ _ (@gX _ _ _ _ _ (@paC _ _ _ _ _ ai (@paC _ _ _ _ _ ai ag rfl) rfl)) ag rfl)) (@paC _ _ _ _ _ (@vP _ _ _ _ _ (@ss _ _ _ _ _ _ (tC (kV (Sum.inl 0))) _ _ ai (@bq _ _ _ _ (@paC _ _ _ _ _ ai ag rfl)) vO) rfl rfl (by intro z;cases z) (by decide)) (@paC _ _ _ _ _ (@bq _ _ _ _ (@paC _ _ _ _ _ (@bq _ _ _ _ ag) (@paC _ _ _ _ _ gW ag rfl) rfl)) ag rfl) rfl) rfl) rfl) rfl) rfl) rfl) rfl) rfl) rfl) rfl) rfl)) rfl (by first|exact .inl rfl|exact .inr rfl|assumption)) (@ah _ _ _ _ _ (@fm _ _ _ (@dr _ _ _ _ _ _ _ _ (@aN _ _ _ _ _ _ _ _ (gz K rfl hu) (@pv _ 0 _ _ rfl (by first|exact Or.inl rfl|exact Or.inr (Or.inl rfl)|exact Or.inr (Or.inr rfl)) (by decide) (by decide)) (@bq _ _ _ _ ag) (bb _)) (@au _ _ _ (@aF _ _ 1 _ _ _ _ jt.nd rfl (by first|exact Or.inl rfl|exact Or.inr rfl) (@aC _ _ _ _ _ _ _ _ (bx K rfl) (@bU _ _ _ _ _ _ _ _ _ _ (oA K rfl) (@pv _ 1 _ _ rfl (by first|exact Or.inl rfl|exact Or.inr (Or.inl rfl)|exact Or.inr (Or.inr rfl)) (by decide) (by decide)) cT (@cG _ _ _ ai)) (@bq _ _ _ _ (@paC _ _ _ _ _ (@gX _ _ _ _ _ ag) (@paC _ _ _ _ _ (@aC _ _ _ _ _ _ _ _ f9 (@bq _ _ _ _ (@paC _ _ _ _ _ (@gX _ _ _ _ _ ag) ag rfl)) ai) (@paC _ _ _ _ _ (@gX _ _ _ _ _ (@paC _ _ _ _ _ (@gX _ _ _ _ _ (@paC _ _ _ _ _ ai (@paC _ _ _ _ _ ai ag rfl) rfl)) ag rfl)) (@paC _ _ _ _ _ (@vP _ _ _ _ _ (@ss _ _ _ _ _ _ (tC (kV (Sum.inl 0))) _ _ ai (@bq _ _ _ _ (@paC _ _ _ _ _ ai ag rfl)) vO) rfl rfl (by intro z;cases z) (by decide)) (@paC _ _ _ _ _ (@bq _ _ _ _ (@paC _ _ _ _ _ (@bq _ _ _ _ ag) (@paC _ _ _ _ _ gW ag rfl) rfl)) ag rfl) rfl) rfl) rfl) rfl))) rfl (by first|exact .inl rfl|exact .inr rfl|assumption))) bE)) (@au _ _ _ (@ba _ _ _ _ (@pv _ 1 _ _ rfl (by first|exact Or.inl rfl|exact Or.inr (Or.inl rfl)|exact Or.inr (Or.inr rfl)) (by decide) (by decide)))))),fnP (K:=K) (c:=cQ) (ps:=gS) (N:=["_law_laps_here","_law_odd_here"]) (ay (aD (bj (aa (ac hC) (aa (ac le_int) (aa (ac px) (aa (ac (le_str (l:=[]))) (aa (ac (le_str (l:=[97,98]))) (aa (ac wu) (aa (ac (iN ae)) (aa (ac (bj (aa (ac (bj ae)) ae))) (aa (ac (aj dA (ac (bj (aa (ac (iN ae)) ae))) (ac le_int))) (aa (ac (iN (aa (ac (iN (aa (ac le_int) (aa (ac le_int) ae)))) ae))) (aa (ac (wR (by first|exact List.nodup_singleton _|decide) (by decide) (sX (Sum.inl 0) (ac (bj (aa (ac le_int) ae))) wQ))) (aa (ac (bj (aa (ac (bj ae)) (aa (ac hC) ae)))) ae))))))))))))) (ax (i:=1) rfl)) (ay (gp (dU (eW (aj dM (am (i:=0)) (ac (bj ae)))) (aD (aj aX (ac (bV (am (i:=1)) b8 (bH le_int))) (ac (bj (aa (ac (iN ae)) (aa (ac (aj dA (ac (bj (aa (ac (iN ae)) ae))) (ac le_int))) (aa (ac (iN (aa (ac (iN (aa (ac le_int) (aa (ac le_int) ae)))) ae))) (aa (ac (wR (by first|exact List.nodup_singleton _|decide) (by decide) (sX (Sum.inl 0) (ac (bj (aa (ac le_int) ae))) wQ))) (aa (ac (bj (aa (ac (bj ae)) (aa (ac hC) ae)))) ae)))))))) (ax (i:=1) rfl)) bF)) (bc (ak (i:=1))))) (fun ds Q h=>Nat.le_trans (Nat.le_of_eq (mZ ds Q h)) (by decide)) uJ h⟩
theorem jV:∀p ds Q,cg p ds Q->ds.length+1=2:=fun p ds Q h=>by unfold cg at h;split at h;(first|rfl|exact h.elim);(first|rfl|exact h.elim)
theorem qz (D:cN K mg "_law_shown" iF) (T:Txt mg) (TC:TxC K) (C_law_next:Cal P w K mg base 1 "_law_next" ["_law_deck_here"] (spR K aq)):Cal P w K mg base 2 "_law_shown" ["_law_deck_here","_law_table"] (spR K cg):=by
 refine D.ok pV (fun _ _ _ _ _ _ us hl=>match us,hl with|[_,_],_=>rfl) (fun vs H Q E h=>?_) (fun f cdv A outer s H vs Q E hr h=>?_)
 .exact xC jV h
 .have hu:=hr.units
  exact⟨_,(ah (dr (aN (gz K rfl hu) (aC b9 (aA C_law_next (hr.mono (by decide)) (paC (pv 0) ag)) ai) ai (bb _)) (au (ba (bG (wi:=(gK K (a9 1))) (g:=(bR 0)) (tts:=gJ) (te:=(tCB (gk K) (aW (a9 0) dC))) ["_law_row"] [none] rfl (cr K rfl (pv 1)) (fun _ _ _ _=>⟨(aK (i:=0) (by show List.Nodup (["_law_row"]:List Str);decide +kernel) rfl (by first|exact Or.inl rfl|exact Or.inr rfl)),bB,(bv (sG K rfl) rfl T.b_list boot_list (paC (pv 0) ag))⟩) (by kernel_rfl)))) bE) (au (ba (bv (gv K rfl) rfl T.b_tuple boot_tuple (paC (bG (wi:=(gK K (a9 1))) (g:=(bR 0)) (tts:=gJ) (te:=(tCB (yi K) (aW (a9 0) dC))) ["_law_row"] [none] rfl (cr K rfl (pv 1)) (fun _ _ _ _=>⟨(aK (i:=0) (by show List.Nodup (["_law_row"]:List Str);decide +kernel) rfl (by first|exact Or.inl rfl|exact Or.inr rfl)),bB,(bv (gv K rfl) rfl T.b_tuple boot_tuple (paC (pv 0) ag))⟩) (by kernel_rfl)) ag))))),fnR (K:=K) (c:=cg) (ps:=eU) (N:=["_law_deck_here","_law_table"]) (ay (dU (eW (aj dM (ac (aj a8 (ac (aI (i:=0) ae)) (ac le_int))) (ac le_int))) (bc (sW (bd (ix:=[none]) rfl (cz (ak (i:=1))) (fun fs hc=>(aE (i:=0) (gL hc (by decide)))) cO (bu qS (aa (am (i:=0)) ae))))) bF) (bc (sW (bu eI (aa (ac (bd (ix:=[none]) rfl (cz (ak (i:=1))) (fun fs hc=>(aE (i:=0) (gL hc (by decide)))) cO (bu eI (aa (am (i:=0)) ae)))) ae))))) (fun p ds Q h=>Nat.le_trans (Nat.le_of_eq (jV p ds Q h)) (by decide)) qp h⟩
theorem zT:∀ds Q,tM ds Q->ds.length=1:=fun ds Q h=>by obtain⟨_,rfl,_⟩:=h;rfl
theorem Ee (D:cN K mg "law" yP) (T:Txt mg) (TC:TxC K) (C_Family_init:C9 P w K mg base 4 (cC K "Family") "Family" ["self","pieces"] (spR K bo)) (C_law_bent:Cal P w K mg base 2 "_law_bent" ["_law_deck_here","_law_laps_here","_law_table"] (spR K cM)) (C_law_deck:Cal P w K mg base 2 "_law_deck" ["_law_script","_law_many"] (spP K ck)) (C_law_eight:Cal P w K mg base 2 "_law_eight" ["_law_deck_here"] (spR K cf)) (C_law_holding:Cal P w K mg base 2 "_law_holding" ["_law_deck_here","_law_words_here"] (spR K bp)) (C_law_laps:Cal P w K mg base 2 "_law_laps" ["_law_words_here"] (spP K cm)) (C_law_next:Cal P w K mg base 1 "_law_next" ["_law_deck_here"] (spR K aq)) (C_law_odd:Cal P w K mg base 1 "_law_odd" ["_law_laps_here"] (spP K cQ)) (C_law_pieces:Cal P w K mg base 3 "_law_pieces" ["_law_deck_here","_law_most"] (spR K bI)) (C_law_raised:Cal P w K mg base 3 "_law_raised" ["_law_deck_here","_law_laps_here"] (spR K bJ)) (C_law_shown:Cal P w K mg base 2 "_law_shown" ["_law_deck_here","_law_table"] (spR K cg)) (C_law_words:Cal P w K mg base 1 "_law_words" ["_law_pieces_here"] (spP K bP)) (C_table_bound:Cal P w K mg base 4 "table_bound" ["family","paper"] (spP K aJ)):Cal P w K mg base 6 "law" ["_law_script"] (spP K tM):=by
 refine D.ok dP (fun _ _ _ _ _ _ us hl=>match us,hl with|[_],_=>rfl) (fun vs H Q E h=>?_) (fun f cdv A outer s H vs Q E hr h=>?_)
 .exact j2 zT h
 .have hu:=hr.units
  exact⟨_,(@ah _ _ _ _ _ (@aF _ _ 1 _ _ _ _ dP.nd rfl (by first|exact Or.inl rfl|exact Or.inr rfl) (@aA _ _ _ _ _ _ _ _ _ _ C_law_deck (hr.mono (by decide)) (@paC _ _ _ _ _ (@pv _ 0 _ _ rfl (by first|exact Or.inl rfl|exact Or.inr (Or.inl rfl)|exact Or.inr (Or.inr rfl)) (by decide) (by decide)) (@paC _ _ _ _ _ ai ag rfl) rfl) rfl (by decide) rfl rfl) rfl (by first|exact .inl rfl|exact .inr rfl|assumption)) (@ah _ _ _ _ _ (@aF _ _ 2 _ _ _ _ dP.nd rfl (by first|exact Or.inl rfl|exact Or.inr rfl) (@aA _ _ _ _ _ _ _ _ _ _ C_law_pieces (hr.mono (by decide)) (@paC _ _ _ _ _ (@pv _ 1 _ _ rfl (by first|exact Or.inl rfl|exact Or.inr (Or.inl rfl)|exact Or.inr (Or.inr rfl)) (by decide) (by decide)) (@paC _ _ _ _ _ ai ag rfl) rfl) rfl (by decide) rfl rfl) rfl (by first|exact .inl rfl|exact .inr rfl|assumption)) (@ah _ _ _ _ _ (@fm _ _ _ (@dr _ _ _ _ _ _ _ _ (@aN _ _ _ _ _ _ _ _ (gz K rfl hu) (@aC _ _ _ _ _ _ _ _ b9 (@aA _ _ _ _ _ _ _ _ _ _ C_law_next (hr.mono (by decide)) (@paC _ _ _ _ _ (@pv _ 1 _ _ rfl (by first|exact Or.inl rfl|exact Or.inr (Or.inl rfl)|exact Or.inr (Or.inr rfl)) (by decide) (by decide)) ag rfl) rfl (by decide) rfl rfl) ai) ai (bb _)) (@au _ _ _ (@aF _ _ 2 _ _ _ _ dP.nd rfl (by first|exact Or.inl rfl|exact Or.inr rfl) (@aA _ _ _ _ _ _ _ _ _ _ C_law_eight (hr.mono (by decide)) (@paC _ _ _ _ _ (@pv _ 1 _ _ rfl (by first|exact Or.inl rfl|exact Or.inr (Or.inl rfl)|exact Or.inr (Or.inr rfl)) (by decide) (by decide)) ag rfl) rfl (by decide) rfl rfl) rfl (by first|exact .inl rfl|exact .inr rfl|assumption))) bE)) (@ah _ _ _ _ _ (@aF _ _ 3 _ _ _ _ dP.nd rfl (by first|exact Or.inl rfl|exact Or.inr rfl) (@aA _ _ _ _ _ _ _ _ _ _ C_law_words (hr.mono (by decide)) (@paC _ _ _ _ _ (@pv _ 2 _ _ rfl (by first|exact Or.inl rfl|exact Or.inr (Or.inl rfl)|exact Or.inr (Or.inr rfl)) (by decide) (by decide)) ag rfl) rfl (by decide) rfl rfl) rfl (by first|exact .inl rfl|exact .inr rfl|assumption)) (@ah _ _ _ _ _ (@aF _ _ 4 _ _ _ _ dP.nd rfl (by first|exact Or.inl rfl|exact Or.inr rfl) (@aA _ _ _ _ _ _ _ _ _ _ C_law_laps (hr.mono (by decide)) (@paC _ _ _ _ _ (@pv _ 3 _ _ rfl (by first|exact Or.inl rfl|exact Or.inr (Or.inl rfl)|exact Or.inr (Or.inr rfl)) (by decide) (by decide)) ag rfl) rfl (by decide) rfl rfl) rfl (by first|exact .inl rfl|exact .inr rfl|assumption)) (@ah _ _ _ _ _ (@aF _ _ 5 _ _ _ _ dP.nd rfl (by first|exact Or.inl rfl|exact Or.inr rfl) (@sO _ _ _ _ _ _ _ _ _ _ _ C_Family_init (hr.mono (by decide)) (@paC _ _ _ _ _ (@pv _ 2 _ _ rfl (by first|exact Or.inl rfl|exact Or.inr (Or.inl rfl)|exact Or.inr (Or.inr rfl)) (by decide) (by decide)) ag rfl) rfl (by decide) rfl rfl) rfl (by first|exact .inl rfl|exact .inr rfl|assumption)) (@ah _ _ _ _ _ (@aF _ _ 6 _ _ _ _ dP.nd rfl (by first|exact Or.inl rfl|exact Or.inr rfl) (@az _ _ _ _ _ _ _ _ _ (DL K rfl rfl) rfl T.b_sum boot_sum (@paC _ _ _ _ _ (@bG _ _ _ _ _ _ ((gK K (a9 3))) ((bR 0)) gJ ((tCB (jZ K) (aW (a9 0) dC))) _ ["_law_word"] [none] rfl (@cr _ _ K rfl _ _ (@pv _ 3 _ _ rfl (by first|exact Or.inl rfl|exact Or.inr (Or.inl rfl)|exact Or.inr (Or.inr rfl)) (by decide) (by decide))) (fun _ _ _ _=>⟨(aK (i:=0) (by show List.Nodup (["_law_word"]:List Str);decide +kernel) rfl (by first|exact Or.inl rfl|exact Or.inr rfl)),bB,(az (c6 K rfl) rfl T.b_len PySem.boot_len (paC (pv 0) ag))⟩) (by kernel_rfl) (fun _=>rfl)) ag rfl) (by decide) (by decide) rfl rfl) rfl (by first|exact .inl rfl|exact .inr rfl|assumption)) (@ah _ _ _ _ _ (@fB _ _ _ _ _ _ ((jW (aW (tC (V.int 3)) dC))) ((bR 0)) gJ ((eB (spR K bp) [] E0 (aW (a9 1) (aW (a9 2) dC)))) 7 _ _ _ _ ["_law_k","_law_deck_here","_law_words_here"] [none,some 1,some 3] dP.nd rfl (Or.inl rfl) rfl (@bZ _ _ _ _ _ _ rfl T.b_range (@paC _ _ _ _ _ ai ag rfl) rfl) (fun _ _ _ _=>⟨(aK (i:=0) (by show List.Nodup (["_law_k","_law_deck_here","_law_words_here"]:List Str);decide +kernel) rfl (by first|exact Or.inl rfl|exact Or.inr rfl)),bB,(aA C_law_holding (hr.mono (by decide)) (paC (pv 1) (paC (pv 2) ag)))⟩) (by kernel_rfl) rfl (fun _=>rfl) (by first|exact .inl rfl|exact .inr rfl|assumption)) (@ah _ _ _ _ _ (@gf _ _ _ _ _ _ _ _ PassesOwn.never rfl (@bZ _ _ _ _ _ _ rfl T.b_range (@paC _ _ _ _ _ (@b7 _ _ _ _ _ _ _ (eH K rfl) (@bq _ _ _ _ (@paC _ _ _ _ _ ai (@paC _ _ _ _ _ ai ag rfl) rfl)) (@aC _ _ _ _ _ _ _ _ kQ (@az _ _ _ _ _ _ _ _ _ (c6 K rfl) rfl T.b_len PySem.boot_len (@paC _ _ _ _ _ (@pv _ 3 _ _ rfl (by first|exact Or.inl rfl|exact Or.inr (Or.inl rfl)|exact Or.inr (Or.inr rfl)) (by decide) (by decide)) ag rfl) (by decide) (by decide) rfl rfl) ai) (fun _ _=>rfl)) ag rfl) rfl) (@aK _ _ 8 _ dP.nd rfl (by first|exact Or.inl rfl|exact Or.inr rfl) (by first|exact .inl rfl|exact .inr rfl|assumption)) (@ah _ _ _ _ _ (@aF _ _ 9 _ _ _ _ dP.nd rfl (by first|exact Or.inl rfl|exact Or.inr rfl) (@aA _ _ _ _ _ _ _ _ _ _ C_law_raised (hr.mono (by decide)) (@paC _ _ _ _ _ (@pv _ 1 _ _ rfl (by first|exact Or.inl rfl|exact Or.inr (Or.inl rfl)|exact Or.inr (Or.inr rfl)) (by decide) (by decide)) (@paC _ _ _ _ _ (@pv _ 4 _ _ rfl (by first|exact Or.inl rfl|exact Or.inr (Or.inl rfl)|exact Or.inr (Or.inr rfl)) (by decide) (by decide)) ag rfl) rfl) rfl (by decide) rfl rfl) rfl (by first|exact .inl rfl|exact .inr rfl|assumption)) (@ah _ _ _ _ _ (@aF _ _ 10 _ _ _ _ dP.nd rfl (by first|exact Or.inl rfl|exact Or.inr rfl) (@aC _ _ _ _ _ _ _ _ nE (@pv _ 6 _ _ rfl (by first|exact Or.inl rfl|exact Or.inr (Or.inl rfl)|exact Or.inr (Or.inr rfl)) (by decide) (by decide)) (@az _ _ _ _ _ _ _ _ _ (zx K rfl rfl) rfl T.b_max boot_max (@paC _ _ _ _ _ (@aC _ _ _ _ _ _ _ _ (bx K rfl) (@bq _ _ _ _ (@paC _ _ _ _ _ ai ag rfl)) (@b7 _ _ _ _ _ _ _ (eH K rfl) (@pv _ 9 _ _ rfl (by first|exact Or.inl rfl|exact Or.inr (Or.inl rfl)|exact Or.inr (Or.inr rfl)) (by decide) (by decide)) (@kn _ _ _ _ _ _ gg ai) (fun _ _=>rfl))) ag rfl) (by decide) (by decide) rfl rfl)) rfl (by first|exact .inl rfl|exact .inr rfl|assumption)) (@ah _ _ _ _ _ (@fB _ _ _ _ _ _ ((gK K (a9 7))) ((bR 0)) ((jX (tOp E1 (tCB (jZ K) (aW (a9 0) dC)) (a9 1)))) ((a9 0)) 11 _ _ _ _ ["_law_text","_law_bound"] [none,some 10] dP.nd rfl (Or.inl rfl) rfl (@cr _ _ K rfl _ _ (@pv _ 7 _ _ rfl (by first|exact Or.inl rfl|exact Or.inr (Or.inl rfl)|exact Or.inr (Or.inr rfl)) (by decide) (by decide))) (fun _ _ _ _=>⟨(aK (i:=0) (by show List.Nodup (["_law_text","_law_bound"]:List Str);decide +kernel) rfl (by first|exact Or.inl rfl|exact Or.inr rfl)),(fA (aN AJ (az (c6 K rfl) rfl T.b_len PySem.boot_len (paC (pv 0) ag)) (pv 1) (bb _))),(pv 0)⟩) (by kernel_rfl) rfl (fun _=>rfl) (by first|exact .inl rfl|exact .inr rfl|assumption)) (@ah _ _ _ _ _ (@aF _ _ 12 _ _ _ _ dP.nd rfl (by first|exact Or.inl rfl|exact Or.inr rfl) (@aA _ _ _ _ _ _ _ _ _ _ C_law_shown (hr.mono (by decide)) (@paC _ _ _ _ _ (@pv _ 1 _ _ rfl (by first|exact Or.inl rfl|exact Or.inr (Or.inl rfl)|exact Or.inr (Or.inr rfl)) (by decide) (by decide)) (@paC _ _ _ _ _ (@pv _ 9 _ _ rfl (by first|exact Or.inl rfl|exact Or.inr (Or.inl rfl)|exact Or.inr (Or.inr rfl)) (by decide) (by decide)) ag rfl) rfl) rfl (by decide) rfl rfl) rfl (by first|exact .inl rfl|exact .inr rfl|assumption)) (@ah _ _ _ _ _ (@dr _ _ _ _ _ _ _ _ (PW.pt (@tQ _ _ _ _ _ _ _ (@aN _ _ _ _ _ _ _ _ (qX K rfl hu) (@aA _ _ _ _ _ _ _ _ _ _ C_table_bound (hr.mono (by decide)) (@paC _ _ _ _ _ (@pv _ 5 _ _ rfl (by first|exact Or.inl rfl|exact Or.inr (Or.inl rfl)|exact Or.inr (Or.inr rfl)) (by decide) (by decide)) (@paC _ _ _ _ _ (@pv _ 12 _ _ rfl (by first|exact Or.inl rfl|exact Or.inr (Or.inl rfl)|exact Or.inr (Or.inr rfl)) (by decide) (by decide)) ag rfl) rfl) rfl (by decide) rfl rfl) (@pv _ 10 _ _ rfl (by first|exact Or.inl rfl|exact Or.inr (Or.inl rfl)|exact Or.inr (Or.inr rfl)) (by decide) (by decide)) (bb _)) (@tQ _ _ _ _ _ _ _ (@aN _ _ _ _ _ _ _ _ (qX K rfl hu) (@pv _ 11 _ _ rfl (by first|exact Or.inl rfl|exact Or.inr (Or.inl rfl)|exact Or.inr (Or.inr rfl)) (by decide) (by decide)) (@bq _ _ _ _ ag) (bb _)) (@rT _ _ _ _ (@aN _ _ _ _ _ _ _ _ (qX K rfl hu) (@bG _ _ _ _ _ _ ((gK K (a9 12))) ((bR 0)) gJ ((tCB (gk K) (aW (a9 0) dC))) _ ["_law_row"] [none] rfl (@cr _ _ K rfl _ _ (@pv _ 12 _ _ rfl (by first|exact Or.inl rfl|exact Or.inr (Or.inl rfl)|exact Or.inr (Or.inr rfl)) (by decide) (by decide))) (fun _ _ _ _=>⟨(aK (i:=0) (by show List.Nodup (["_law_row"]:List Str);decide +kernel) rfl (by first|exact Or.inl rfl|exact Or.inr rfl)),bB,(bv (sG K rfl) rfl T.b_list boot_list (paC (pv 0) ag))⟩) (by kernel_rfl) (fun _=>rfl)) (@pv _ 9 _ _ rfl (by first|exact Or.inl rfl|exact Or.inr (Or.inl rfl)|exact Or.inr (Or.inr rfl)) (by decide) (by decide)) (bb _)))))) (@au _ _ _ (@ba _ _ _ _ oG)) bE) (@au _ _ _ (@dr _ _ _ _ _ _ _ _ (PW.pt (@oH _ _ _ _ _ _ _ (@aN _ _ _ _ _ _ _ _ (qX K rfl hu) (@pv _ 3 _ _ rfl (by first|exact Or.inl rfl|exact Or.inr (Or.inl rfl)|exact Or.inr (Or.inr rfl)) (by decide) (by decide)) (@bq _ _ _ _ ag) (bb _)) (@kl _ _ _ _ (@aN _ _ _ _ _ _ _ _ vZ (@aA _ _ _ _ _ _ _ _ _ _ C_table_bound (hr.mono (by decide)) (@paC _ _ _ _ _ (@pv _ 5 _ _ rfl (by first|exact Or.inl rfl|exact Or.inr (Or.inl rfl)|exact Or.inr (Or.inr rfl)) (by decide) (by decide)) (@paC _ _ _ _ _ (@aA _ _ _ _ _ _ _ _ _ _ C_law_bent (hr.mono (by decide)) (@paC _ _ _ _ _ (@pv _ 1 _ _ rfl (by first|exact Or.inl rfl|exact Or.inr (Or.inl rfl)|exact Or.inr (Or.inr rfl)) (by decide) (by decide)) (@paC _ _ _ _ _ (@pv _ 4 _ _ rfl (by first|exact Or.inl rfl|exact Or.inr (Or.inl rfl)|exact Or.inr (Or.inr rfl)) (by decide) (by decide)) (@paC _ _ _ _ _ (@pv _ 9 _ _ rfl (by first|exact Or.inl rfl|exact Or.inr (Or.inl rfl)|exact Or.inr (Or.inr rfl)) (by decide) (by decide)) ag rfl) rfl) rfl) rfl (by decide) rfl rfl) ag rfl) rfl) rfl (by decide) rfl rfl) gW (bb _))))) (@au _ _ _ (@ba _ _ _ _ oG)) bE))))))) (fun _=>rfl)) (@ah _ _ _ _ _ (@aF _ _ 13 _ _ _ _ dP.nd rfl (by first|exact Or.inl rfl|exact Or.inr rfl) (@aA _ _ _ _ _ _ _ _ _ _ C_law_odd (hr.mono (by decide)) (@paC _ _ _ _ _ (@pv _ 4 _ _ rfl (by first|exact Or.inl rfl|exact Or.inr (Or.inl rfl)|exact Or.inr (Or.inr rfl)) (by decide) (by decide)) ag rfl) rfl (by decide) rfl rfl) rfl (by first|exact .inl rfl|exact .inr rfl|assumption)) (@ah _ _ _ _ _ (@dr _ _ _ _ _ _ _ _ (@aN _ _ _ _ _ _ _ _ (qX K rfl hu) (@bG _ _ _ _ _ _ ((gK K (a9 13))) ((bR 0)) ((jX (tOp (Em true) (eB (spP K aJ) [] E0 (aW (a9 1) (aW (a9 0) dC))) (tC V.non)))) ((a9 0)) _ ["_law_thing","_law_family"] [none,some 5] rfl (@cr _ _ K rfl _ _ (@pv _ 13 _ _ rfl (by first|exact Or.inl rfl|exact Or.inr (Or.inl rfl)|exact Or.inr (Or.inr rfl)) (by decide) (by decide))) (fun _ _ _ _=>⟨(aK (i:=0) (by show List.Nodup (["_law_thing","_law_family"]:List Str);decide +kernel) rfl (by first|exact Or.inl rfl|exact Or.inr rfl)),(fA (aN vZ (aA C_table_bound (hr.mono (by decide)) (paC (pv 1) (paC (pv 0) ag))) gW (bb _))),(pv 0)⟩) (by kernel_rfl) (fun _=>rfl)) (@bq _ _ _ _ ag) (bb _)) (@au _ _ _ (@ba _ _ _ _ oG)) bE) (@ah _ _ _ _ _ (@aF _ _ 14 _ _ _ _ dP.nd rfl (by first|exact Or.inl rfl|exact Or.inr rfl) (@sO _ _ _ _ _ _ _ _ _ _ _ C_Family_init (hr.mono (by decide)) (@paC _ _ _ _ _ (@bG _ _ _ _ _ _ ((jW (aW (tC (V.int 9)) dC))) ((bR 0)) gJ ((tOp (pF K) (tC (V.str (S [97,98,99,100,101,102,103,104,105,106,107,108,109,110,111,112,113,114,115,116,117,118,119,120,121,122]))) (tOp ym (tOp (pS K) (tOp vY (tC (V.int 3)) (a9 0)) (tCB (jZ K) (aW (a9 1) dC))) (tC (V.int 26))))) _ ["_law_k","_law_words_here"] [none,some 3] rfl (@bZ _ _ _ _ _ _ rfl T.b_range (@paC _ _ _ _ _ ai ag rfl) rfl) (fun _ _ _ _=>⟨(aK (i:=0) (by show List.Nodup (["_law_k","_law_words_here"]:List Str);decide +kernel) rfl (by first|exact Or.inl rfl|exact Or.inr rfl)),bB,(b7 (eH K rfl) (dD (l:=[97,98,99,100,101,102,103,104,105,106,107,108,109,110,111,112,113,114,115,116,117,118,119,120,121,122]) (by decide +kernel)) (aC b9 (aC (bx K rfl) (aC f9 ai (pv 0)) (az (c6 K rfl) rfl T.b_len PySem.boot_len (paC (pv 1) ag))) ai) (fun _ _=>rfl))⟩) (by kernel_rfl) (fun _=>rfl)) ag rfl) rfl (by decide) rfl rfl) rfl (by first|exact .inl rfl|exact .inr rfl|assumption)) (@ah _ _ _ _ _ (@fB _ _ _ _ _ _ ((jW (aW (tC (V.int 512)) dC))) ((bR 0)) gJ ((lN [none,some 0] (jW (aW (tC (V.int 9)) dC)) (bR 0) gJ (tIf (jX (tOp (qW K false) (tOp ut (tOp B1 (a9 1) (a9 0)) (tC (V.int 1))) (tC (V.int 1)))) (tC (V.int 0)) (tUn A3 (tC (V.int 1)))))) 9 _ _ _ _ ["_law_mark"] [none] dP.nd rfl (Or.inl rfl) rfl (@bZ _ _ _ _ _ _ rfl T.b_range (@paC _ _ _ _ _ ai ag rfl) rfl) (fun _ _ _ _=>⟨(aK (i:=0) (by show List.Nodup (["_law_mark"]:List Str);decide +kernel) rfl (by first|exact Or.inl rfl|exact Or.inr rfl)),bB,(bG (wi:=(jW (aW (tC (V.int 9)) dC))) (g:=(bR 0)) (tts:=gJ) (te:=(tIf (jX (tOp (qW K false) (tOp ut (tOp B1 (a9 1) (a9 0)) (tC (V.int 1))) (tC (V.int 1)))) (tC (V.int 0)) (tUn A3 (tC (V.int 1))))) ["_law_i","_law_mark"] [none,some 0] rfl (bZ rfl T.b_range (paC ai ag)) (fun _ _ _ _=>⟨(aK (i:=0) (by show List.Nodup (["_law_i","_law_mark"]:List Str);decide +kernel) rfl (by first|exact Or.inl rfl|exact Or.inr rfl)),bB,(rW (aN (gz K rfl hu) (aC pJ (aC wA (pv 1) (pv 0)) ai) ai (bb _)) ai (kn gg ai))⟩) (by kernel_rfl))⟩) (by kernel_rfl) rfl (fun _=>rfl) (by first|exact .inl rfl|exact .inr rfl|assumption)) (@au _ _ _ (@ba _ _ _ _ (@ip _ _ _ _ _ _ _ _ Gm (@aA _ _ _ _ _ _ _ _ _ _ C_table_bound (hr.mono (by decide)) (@paC _ _ _ _ _ (@pv _ 14 _ _ rfl (by first|exact Or.inl rfl|exact Or.inr (Or.inl rfl)|exact Or.inr (Or.inr rfl)) (by decide) (by decide)) (@paC _ _ _ _ _ (@pv _ 9 _ _ rfl (by first|exact Or.inl rfl|exact Or.inr (Or.inl rfl)|exact Or.inr (Or.inr rfl)) (by decide) (by decide)) ag rfl) rfl) rfl (by decide) rfl rfl) gW (bb _))))))))))))))))),fnP (K:=K) (c:=tM) (ps:=tO) (N:=["_law_script","_law_deck_here","_law_pieces_here","_law_words_here","_law_laps_here","_law_family","_law_total","_law_texts","_law_k","_law_table","_law_bound","_law_short","_law_shown_here","_law_odd_here","_law_great"]) (ay (aD (aR (c:=ck) (aa (ac (ak (i:=0))) (aa (ac le_int) ae))) (ax (i:=1) rfl)) (ay (aD (aI (i:=1) (aa (ac le_int) ae)) (ax (i:=2) rfl)) (ay (gp (dU (eW (aj dM (ac (aj a8 (ac (aI (i:=1) ae)) (ac le_int))) (ac le_int))) (aD (aI (i:=1) ae) (ax (i:=2) rfl)) bF)) (ay (aD (aR (c:=bP) (aa (ac (ak (i:=2))) ae)) (ax (i:=3) rfl)) (ay (aD (aR (c:=cm) (aa (ac (ak (i:=3))) ae)) (ax (i:=4) rfl)) (ay (aD (wp (aa (ac (ak (i:=2))) ae)) (ax (i:=5) rfl)) (ay (aD (bu Br (aa (ac (bd (ix:=[none]) rfl (cz (ak (i:=3))) (fun fs hc=>(aE (i:=0) (gL hc (by decide)))) cO (bu bK (aa (am (i:=0)) ae)))) ae)) (ax (i:=6) rfl)) (ay (aD (bd (ix:=[none,some 1,some 3]) rfl (iR (aa (ac le_int) ae)) (fun fs hc=>(aE (i:=0) (gL hc (by decide)))) cO (aI (i:=1) (aa (ac (ak (i:=2))) ae))) (ax (i:=7) rfl)) (ay (zI (i:=7) (zI (i:=5) (gu (iR (aa (ac (aj cu (ac (bj (aa (ac le_int) (aa (ac le_int) ae)))) (ac (aj iu (ac (bu bK (aa (am (i:=3)) ae))) (ac le_int))))) ae)) (aE (i:=8) rfl) (ay (aD (aI (i:=1) (aa (ac (ak (i:=4))) ae)) (ax (i:=9) rfl)) (ay (aD (aj iO (am (i:=6)) (ac (bu wx (aa (ac (aj aX (ac (bj (aa (ac le_int) ae))) (ac (aj cu (am (i:=9)) (ac (kL gw (ac le_int))))))) ae)))) (ax (i:=10) rfl)) (ay (aD (bd (ix:=[none,some 10]) rfl (cz (ak (i:=7))) (fun fs hc=>(aE (i:=0) (gL hc (by decide)))) (eW (aj qO (ac (bu bK (aa (am (i:=0)) ae))) (am (i:=1)))) (ak (i:=0))) (ax (i:=11) rfl)) (ay (aD (aI (i:=1) (aa (ac (ak (i:=9))) ae)) (ax (i:=12) rfl)) (ay (dU (uh (eW (aj kS (ac (aR (c:=aJ) (aa (ac (ak (i:=5))) (aa (ac (ak (i:=12))) ae)))) (am (i:=10)))) (uh (eW (aj kS (am (i:=11)) (ac (bj ae)))) (eW (aj kS (ac (bd (ix:=[none]) rfl (cz (ak (i:=12))) (fun fs hc=>(aE (i:=0) (gL hc (by decide)))) cO (bu qS (aa (am (i:=0)) ae)))) (am (i:=9)))))) (bc px) bF) (dU (pz (eW (aj kS (am (i:=3)) (ac (bj ae)))) (eW (aj AK (ac (aR (c:=aJ) (aa (ac (ak (i:=5))) (aa (ac (aI (i:=1) (aa (ac (ak (i:=4))) (aa (ac (ak (i:=9))) ae)))) ae)))) (ac hC)))) (bc px) bF))))))))) (ay (aD (aR (c:=cQ) (aa (ac (ak (i:=4))) ae)) (ax (i:=13) rfl)) (ay (dU (eW (aj kS (ac (bd (ix:=[none,some 5]) rfl (cz (ak (i:=13))) (fun fs hc=>(aE (i:=0) (gL hc (by decide)))) (eW (aj AK (ac (aR (c:=aJ) (aa (ac (ak (i:=1))) (aa (ac (ak (i:=0))) ae)))) (ac hC))) (ak (i:=0)))) (ac (bj ae)))) (bc px) bF) (ay (aD (wp (aa (ac (bd (ix:=[none,some 3]) rfl (iR (aa (ac le_int) ae)) (fun fs hc=>(aE (i:=0) (gL hc (by decide)))) cO (aj cu (ac (le_str (l:=[97,98,99,100,101,102,103,104,105,106,107,108,109,110,111,112,113,114,115,116,117,118,119,120,121,122]))) (ac (aj a8 (ac (aj aX (ac (aj dA (ac le_int) (am (i:=0)))) (ac (bu bK (aa (am (i:=1)) ae))))) (ac le_int)))))) ae)) (ax (i:=14) rfl)) (ay (aD (bd (ix:=[none]) rfl (iR (aa (ac le_int) ae)) (fun fs hc=>(aE (i:=0) (gL hc (by decide)))) cO (bd (ix:=[none,some 0]) rfl (iR (aa (ac le_int) ae)) (fun fs hc=>(aE (i:=0) (gL hc (by decide)))) cO (Dd (eW (aj dM (ac (aj kU (ac (aj pI (am (i:=1)) (am (i:=0)))) (ac le_int))) (ac le_int))) le_int (kL gw (ac le_int))))) (ax (i:=9) rfl)) (bc (aj AK (ac (aR (c:=aJ) (aa (ac (ak (i:=14))) (aa (ac (ak (i:=9))) ae)))) (ac hC)))))))))))))))) (fun ds Q h=>Nat.le_trans (Nat.le_of_eq (zT ds Q h)) (by decide)) Ec h⟩
end
theorem Ef {l:PySem.W.OpenLaw}{w:World}{K:PySem.W.Frag}{h:Heap}{mg:Str->Option Value}{fa:Addr} (X:K.In h) (G:h.Ns mainGlobals mg) (hfa:mg "law"=some (.ref fa))
  {C_Family:Addr} (aC_Family:PySem.W.nsIn K mainGlobals "Family"=some (some (.ref C_Family))) (pg_Family:PySem.W.plainGet K C_Family Str.empty=true) (hd_Family:PySem.W.hasDictIn K C_Family=true) (po_Family:PySem.W.plainOver K C_Family=true) (sa_Family:PySem.W.findIn K (.ref C_Family) "__setattr__"=some (some (.builtin "object.__setattr__"))) (mk_Family:PySem.W.makesIn K C_Family=true) (kc_Family:PySem.W.keepIn K (.ref C_Family)=true)
  (n_Family_pieces:PySem.W.findIn K (.ref C_Family) "pieces"=some none)
  (n_Family_kept:PySem.W.findIn K (.ref C_Family) "kept"=some none)
  (n_Family_words:PySem.W.findIn K (.ref C_Family) "words"=some none)
  (n_Family_left:PySem.W.findIn K (.ref C_Family) "left"=some none)
  (n_Family_laps:PySem.W.findIn K (.ref C_Family) "laps"=some none)
  (n_Family_total:PySem.W.findIn K (.ref C_Family) "total"=some none)
  (d1:gN K "is_row" nR)
  (d2:gN K "is_number" iz)
  (d3:gN K "members" kY)
  {f4:Addr}{oc4 kV4 dc4 pm4 cd4 ct4:Value}{od4 an4 dd4:Option Addr}{sl4 st4:Array (Option Value)}{dT4:Addr}{n4:Nat}{u4_0 u4_1:Tok} (a4:PySem.W.nsIn K mainGlobals "is_text"=some (some (.ref f4))) (l4:K.lookup f4=some ⟨oc4,od4,.func (PySem.W.fnOf "is_text" "is_text" (cY fc) (ci fc) (ar fc) (.ref dT4) kV4 dc4 pm4 an4 cd4 ct4),sl4⟩) (c4:PySem.W.codeIn K cd4 "is_text"=true) (k4:PySem.W.keepIn K (.ref f4)=true) (t4:K.lookup dT4=some ⟨.type "tuple",dd4,.seq [.int 0 u4_0,.int 4000 u4_1].toArray n4,st4⟩)
  (d5:gN K "first_place" fG)
  (d6:gN K "lap" Bz)
  {f7:Addr}{oc7 kV7 dc7 pm7 cd7 ct7:Value}{od7 an7:Option Addr}{sl7:Array (Option Value)} (a7:PySem.W.findIn K (.ref C_Family) "many"=some (some (.ref f7))) (i7:PySem.W.isFn K (.ref f7)=true) (l7:K.lookup f7=some ⟨oc7,od7,.func (PySem.W.fnOf "many" "Family.many" (cY cI) (ci cI) (ar cI) .none kV7 dc7 pm7 an7 cd7 ct7),sl7⟩) (c7:PySem.W.codeIn K cd7 "Family.many"=true) (k7:PySem.W.keepIn K (.ref f7)=true)
  (d8:gN K "_law_mixed" iB)
  (d9:gN K "_law_next" jn)
  (d10:gN K "_law_words" iD)
  (d11:gN K "_law_lap" k6)
  (d12:gN K "_law_needed" gE)
  (d13:gN K "_law_odd" k8)
  (d14:gN K "are_numbers" fE)
  (d15:gN K "most_saved" gC)
  (d16:gN K "all_laps" jk)
  (d17:gN K "check_pieces" eZ)
  (d18:gN K "stands_within" ey)
  (d19:gN K "_law_deck" jm)
  (d20:gN K "_law_signs" iC)
  (d21:gN K "_law_laps" jo)
  (d22:gN K "_law_holding" fH)
  (d23:gN K "_law_eight" iE)
  (d24:gN K "_law_more" jp)
  (d25:gN K "_law_bent" jq)
  (d26:gN K "_law_shown" iF)
  (d27:gN K "has_table_form" dW)
  (d28:gN K "is_enough" iA)
  (d29:gN K "is_kept" kZ)
  (d30:gN K "left_row" jl)
  (d31:gN K "_law_pieces" gD)
  (d32:gN K "_law_raised" gF)
  (d33:gN K "table_bound" fF)
  {f34:Addr}{oc34 kV34 dc34 pm34 cd34 ct34:Value}{od34 an34:Option Addr}{sl34:Array (Option Value)} (a34:PySem.W.findIn K (.ref C_Family) "__init__"=some (some (.ref f34))) (i34:PySem.W.isFn K (.ref f34)=true) (l34:K.lookup f34=some ⟨oc34,od34,.func (PySem.W.fnOf "__init__" "Family.__init__" (cY cH) (ci cH) (ar cH) .none kV34 dc34 pm34 an34 cd34 ct34),sl34⟩) (c34:PySem.W.codeIn K cd34 "Family.__init__"=true) (k34:PySem.W.keepIn K (.ref f34)=true)
  (d35:gN K "law" yP)
  (z1:PySem.W.nsIn K mainGlobals "all"=some none)
  (z2:PySem.W.nsIn K mainGlobals "any"=some none)
  (z3:PySem.W.nsIn K mainGlobals "bool"=some none)
  (z4:PySem.W.nsIn K mainGlobals "enumerate"=some none)
  (z5:PySem.W.nsIn K mainGlobals "int"=some none)
  (z6:PySem.W.nsIn K mainGlobals "isinstance"=some none)
  (z7:PySem.W.nsIn K mainGlobals "len"=some none)
  (z8:PySem.W.nsIn K mainGlobals "list"=some none)
  (z9:PySem.W.nsIn K mainGlobals "max"=some none)
  (z10:PySem.W.nsIn K mainGlobals "min"=some none)
  (z11:PySem.W.nsIn K mainGlobals "range"=some none)
  (z12:PySem.W.nsIn K mainGlobals "reversed"=some none)
  (z13:PySem.W.nsIn K mainGlobals "str"=some none)
  (z14:PySem.W.nsIn K mainGlobals "sum"=some none)
  (z15:PySem.W.nsIn K mainGlobals "tuple"=some none)
  {ty1:Tok} (y1:PySem.W.nsIn K mainGlobals "MOST_PIECES"=some (some (.int 40 ty1)))
  {ty2:Tok} (y2:PySem.W.nsIn K mainGlobals "MOST_SIGNS"=some (some (.int 60 ty2)))
  {ty3:Tok} (y3:PySem.W.nsIn K mainGlobals "MOST_TABLE_WORDS"=some (some (.int 8 ty3))) :
  ∃fd:FuncData,(∀(s:Shared) (v:Value),BindsTo s fd ⟨[v],[]⟩ [("_law_script",v)])/\∀base:Heap,K.In base->base.Ns mainGlobals mg->m7 l.prog w K mg base CX0 6 fa fd ["_law_script"] (ub K):=by
 have eC_Family:=x8 aC_Family
 have TC:TxC K:=⟨by rw [eC_Family];exact⟨pg_Family,hd_Family,po_Family,sa_Family⟩,by show PySem.W.findIn K (.ref (cC K "Family")) "pieces"=some none;rw [eC_Family];exact n_Family_pieces,by show PySem.W.findIn K (.ref (cC K "Family")) "kept"=some none;rw [eC_Family];exact n_Family_kept,by show PySem.W.findIn K (.ref (cC K "Family")) "words"=some none;rw [eC_Family];exact n_Family_words,by show PySem.W.findIn K (.ref (cC K "Family")) "left"=some none;rw [eC_Family];exact n_Family_left,by show PySem.W.findIn K (.ref (cC K "Family")) "laps"=some none;rw [eC_Family];exact n_Family_laps,by show PySem.W.findIn K (.ref (cC K "Family")) "total"=some none;rw [eC_Family];exact n_Family_total⟩
 have D_is_row:=bM d1 X G
 have D_is_number:=bM d2 X G
 have D_members:=bM d3 X G
 have D_is_text:su K mg "is_text" fc [.int 0,.int 4000]:=⟨⟨f4,dT4,oc4,od4,an4,dd4,kV4,dc4,pm4,cd4,ct4,sl4,st4,[.int 0 u4_0,.int 4000 u4_1],n4,l4,c4,k4,PySem.W.mg_of X G a4,t4,(.cons ⟨_,rfl⟩ (.cons ⟨_,rfl⟩ .nil))⟩⟩
 have D_first_place:=bM d5 X G
 have D_lap:=bM d6 X G
 have D_Family_many:sw K (cC K "Family") "many" "Family.many" cI:=by rw [eC_Family];exact⟨⟨f7,_,vq (st:=cI) l7 c7 k7,⟨a7,i7,k7⟩⟩⟩
 have D_law_mixed:=bM d8 X G
 have D_law_next:=bM d9 X G
 have D_law_words:=bM d10 X G
 have D_law_lap:=bM d11 X G
 have D_law_needed:=bM d12 X G
 have D_law_odd:=bM d13 X G
 have D_are_numbers:=bM d14 X G
 have D_most_saved:=bM d15 X G
 have D_all_laps:=bM d16 X G
 have D_check_pieces:=bM d17 X G
 have D_stands_within:=bM d18 X G
 have D_law_deck:=bM d19 X G
 have D_law_signs:=bM d20 X G
 have D_law_laps:=bM d21 X G
 have D_law_holding:=bM d22 X G
 have D_law_eight:=bM d23 X G
 have D_law_more:=bM d24 X G
 have D_law_bent:=bM d25 X G
 have D_law_shown:=bM d26 X G
 have D_has_table_form:=bM d27 X G
 have D_is_enough:=bM d28 X G
 have D_is_kept:=bM d29 X G
 have D_left_row:=bM d30 X G
 have D_law_pieces:=bM d31 X G
 have D_law_raised:=bM d32 X G
 have D_table_bound:=bM d33 X G
 have D_Family_init:sy K mg (cC K "Family") "Family" "Family.__init__" cH:=by rw [eC_Family];exact⟨⟨f34,_,vq (st:=cH) l34 c34 k34,⟨mk_Family,a34,i34,kc_Family⟩,PySem.W.mg_of X G aC_Family⟩⟩
 have D_law:=bM d35 X G
 have T:Txt mg:=⟨PySem.W.mg_none_of X G z1,PySem.W.mg_none_of X G z2,PySem.W.mg_none_of X G z3,PySem.W.mg_none_of X G z4,PySem.W.mg_none_of X G z5,PySem.W.mg_none_of X G z6,PySem.W.mg_none_of X G z7,PySem.W.mg_none_of X G z8,PySem.W.mg_none_of X G z9,PySem.W.mg_none_of X G z10,PySem.W.mg_none_of X G z11,PySem.W.mg_none_of X G z12,PySem.W.mg_none_of X G z13,PySem.W.mg_none_of X G z14,PySem.W.mg_none_of X G z15,⟨_,PySem.W.mg_of X G y1⟩,⟨_,PySem.W.mg_of X G y2⟩,⟨_,PySem.W.mg_of X G y3⟩⟩
 refine CY (st:=yP) hfa D_law (fun _ _ _ _ _ _ s v=>.of_eq rfl) fun base=>?_
 have C_is_row:=xy (P:=l.prog) (w:=w) (base:=base) D_is_row T TC
 have C_is_number:=qt (P:=l.prog) (w:=w) (base:=base) D_is_number T TC
 have C_members:=uK (P:=l.prog) (w:=w) (base:=base) D_members T TC
 have C_is_text:=uL (P:=l.prog) (w:=w) (base:=base) D_is_text T TC
 have C_first_place:=mj (P:=l.prog) (w:=w) (base:=base) D_first_place T TC
 have C_lap:=Ed (P:=l.prog) (w:=w) (base:=base) D_lap T TC
 have C_Family_many:=mn (P:=l.prog) (w:=w) (base:=base) D_Family_many T TC
 have C_law_mixed:=qv (P:=l.prog) (w:=w) (base:=base) D_law_mixed T TC
 have C_law_next:=rO (P:=l.prog) (w:=w) (base:=base) D_law_next T TC
 have C_law_words:=qx (P:=l.prog) (w:=w) (base:=base) D_law_words T TC
 have C_law_lap:=uN (P:=l.prog) (w:=w) (base:=base) D_law_lap T TC
 have C_law_needed:=ou (P:=l.prog) (w:=w) (base:=base) D_law_needed T TC
 have C_law_odd:=uO (P:=l.prog) (w:=w) (base:=base) D_law_odd T TC
 have C_are_numbers:=mh (P:=l.prog) (w:=w) (base:=base) D_are_numbers T TC C_is_number C_is_row
 have C_most_saved:=oq (P:=l.prog) (w:=w) (base:=base) D_most_saved T TC C_members
 have C_all_laps:=rL (P:=l.prog) (w:=w) (base:=base) D_all_laps T TC C_lap
 have C_check_pieces:=lF (P:=l.prog) (w:=w) (base:=base) D_check_pieces T TC C_is_text
 have C_stands_within:=j7 (P:=l.prog) (w:=w) (base:=base) D_stands_within T TC C_first_place
 have C_law_deck:=rN (P:=l.prog) (w:=w) (base:=base) D_law_deck T TC C_law_mixed
 have C_law_signs:=qw (P:=l.prog) (w:=w) (base:=base) D_law_signs T TC C_law_next
 have C_law_laps:=rP (P:=l.prog) (w:=w) (base:=base) D_law_laps T TC C_law_lap
 have C_law_holding:=mq (P:=l.prog) (w:=w) (base:=base) D_law_holding T TC C_law_lap C_law_next
 have C_law_eight:=qy (P:=l.prog) (w:=w) (base:=base) D_law_eight T TC C_law_next
 have C_law_more:=rQ (P:=l.prog) (w:=w) (base:=base) D_law_more T TC C_law_next
 have C_law_bent:=rR (P:=l.prog) (w:=w) (base:=base) D_law_bent T TC C_law_needed C_law_next
 have C_law_shown:=qz (P:=l.prog) (w:=w) (base:=base) D_law_shown T TC C_law_next
 have C_has_table_form:=jA (P:=l.prog) (w:=w) (base:=base) D_has_table_form T TC C_Family_many C_are_numbers C_is_row
 have C_is_enough:=qu (P:=l.prog) (w:=w) (base:=base) D_is_enough T TC C_most_saved
 have C_is_kept:=uM (P:=l.prog) (w:=w) (base:=base) D_is_kept T TC C_stands_within
 have C_left_row:=rM (P:=l.prog) (w:=w) (base:=base) D_left_row T TC C_first_place C_stands_within
 have C_law_pieces:=ot (P:=l.prog) (w:=w) (base:=base) D_law_pieces T TC C_law_next C_law_signs
 have C_law_raised:=oy (P:=l.prog) (w:=w) (base:=base) D_law_raised T TC C_law_more C_law_needed C_law_next
 have C_table_bound:=mi (P:=l.prog) (w:=w) (base:=base) D_table_bound T TC C_Family_many C_has_table_form C_is_enough
 have C_Family_init:=ml (P:=l.prog) (w:=w) (base:=base) D_Family_init T TC C_all_laps C_check_pieces C_is_kept C_left_row
 exact (Ee (P:=l.prog) (w:=w) (base:=base) D_law T TC C_Family_init C_law_bent C_law_deck C_law_eight C_law_holding C_law_laps C_law_next C_law_odd C_law_pieces C_law_raised C_law_shown C_law_words C_table_bound).imp fun _ _ _ _ h=>AT h
end K35

open PySem PySem.W PyProof.Rows
local macro_rules | `(tactic| walk_at "fn") => `(tactic| (refine' L2.DJ ?a ?l ?c ?k; (case a => k_is); (case l => k_is); (case c => k_is); (case k => k_is)))
set_option maxRecDepth 100000 in
set_option maxHeartbeats 0 in
theorem PySem.Challenge.cw_shortglue_k35_whole_table_bound_holds : PySem.Challenge.rw_shortglue_k35_whole_table_bound.Holds := by
  refine topHd ?_
  k_fill
  refine L2.CZ (l := PySem.Challenge.rw_shortglue_k35_whole_table_bound) (k := 6) (x := "_law_script") rfl rfl ⟨rfl, by decide, by decide⟩ (fun w h Y => PySem.W.kIn_of Y) ?F
  case F =>
    intro w mg fa h KX G hmg
    refine' K35.Ef KX G hmg ?aC_Family ?pg_Family ?hd_Family ?po_Family ?sa_Family ?mk_Family ?kc_Family ?n_Family_pieces ?n_Family_kept ?n_Family_words ?n_Family_left ?n_Family_laps ?n_Family_total ?d1 ?d2 ?d3 ?a4 ?l4 ?c4 ?k4 ?t4 ?d5 ?d6 ?a7 ?i7 ?l7 ?c7 ?k7 ?d8 ?d9 ?d10 ?d11 ?d12 ?d13 ?d14 ?d15 ?d16 ?d17 ?d18 ?d19 ?d20 ?d21 ?d22 ?d23 ?d24 ?d25 ?d26 ?d27 ?d28 ?d29 ?d30 ?d31 ?d32 ?d33 ?a34 ?i34 ?l34 ?c34 ?k34 ?d35 ?z1 ?z2 ?z3 ?z4 ?z5 ?z6 ?z7 ?z8 ?z9 ?z10 ?z11 ?z12 ?z13 ?z14 ?z15 ?y1 ?y2 ?y3
    (case aC_Family => k_is)
    (case pg_Family => k_is)
    (case hd_Family => k_is)
    (case po_Family => k_is)
    (case sa_Family => k_is)
    (case mk_Family => k_is)
    (case kc_Family => k_is)
    (case n_Family_pieces => k_is)
    (case n_Family_kept => k_is)
    (case n_Family_words => k_is)
    (case n_Family_left => k_is)
    (case n_Family_laps => k_is)
    (case n_Family_total => k_is)
    (case d1 => walk_at "fn")
    (case d2 => walk_at "fn")
    (case d3 => walk_at "fn")
    (case a4 => k_is)
    (case l4 => k_is)
    (case c4 => k_is)
    (case k4 => k_is)
    (case t4 => k_is)
    (case d5 => walk_at "fn")
    (case d6 => walk_at "fn")
    (case a7 => k_is)
    (case i7 => k_is)
    (case l7 => k_is)
    (case c7 => k_is)
    (case k7 => k_is)
    (case d8 => walk_at "fn")
    (case d9 => walk_at "fn")
    (case d10 => walk_at "fn")
    (case d11 => walk_at "fn")
    (case d12 => walk_at "fn")
    (case d13 => walk_at "fn")
    (case d14 => walk_at "fn")
    (case d15 => walk_at "fn")
    (case d16 => walk_at "fn")
    (case d17 => walk_at "fn")
    (case d18 => walk_at "fn")
    (case d19 => walk_at "fn")
    (case d20 => walk_at "fn")
    (case d21 => walk_at "fn")
    (case d22 => walk_at "fn")
    (case d23 => walk_at "fn")
    (case d24 => walk_at "fn")
    (case d25 => walk_at "fn")
    (case d26 => walk_at "fn")
    (case d27 => walk_at "fn")
    (case d28 => walk_at "fn")
    (case d29 => walk_at "fn")
    (case d30 => walk_at "fn")
    (case d31 => walk_at "fn")
    (case d32 => walk_at "fn")
    (case d33 => walk_at "fn")
    (case a34 => k_is)
    (case i34 => k_is)
    (case l34 => k_is)
    (case c34 => k_is)
    (case k34 => k_is)
    (case d35 => walk_at "fn")
    (case z1 => k_is)
    (case z2 => k_is)
    (case z3 => k_is)
    (case z4 => k_is)
    (case z5 => k_is)
    (case z6 => k_is)
    (case z7 => k_is)
    (case z8 => k_is)
    (case z9 => k_is)
    (case z10 => k_is)
    (case z11 => k_is)
    (case z12 => k_is)
    (case z13 => k_is)
    (case z14 => k_is)
    (case z15 => k_is)
    (case y1 => k_is)
    (case y2 => k_is)
    (case y3 => k_is)
