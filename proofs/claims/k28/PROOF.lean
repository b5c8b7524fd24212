import PyProof.Rows.All
import Wide.All
import OpenK.AllK
import Wide.FinOn
import Lean
import PyProof.EqAt
import PyProof.EqKinds
import PyProof.TupleCall
import KE.KSortTup
import PyProof.FString
import PyProof.StrBlock
import KE.KRevSl
import PyProof.StrLawsReplace
import PyProof.StrCalls6
import PyProof.MinMaxWalk
import PyProof.WalkInts
import PyProof.NeKinds
import KE.KEqDict
import PyProof.Rows.SumAny
import PySem.Challenge.RW_shortglue_k28_price_bound
set_option Elab.async false
set_option linter.all false
set_option maxRecDepth 100000
set_option maxHeartbeats 4000000
noncomputable section
namespace L2
open PySem PySem.W
def nq (tb:String->Option Builtin) (p:Program) (w:World) (n₀:Nat) (ann:Option Value):Nat->SharedT->Thread->Option SharedT
 | 0,_,_=>none
 | n + 1,s,t=>match through t with
  | true=>some s
  | false=>match stepOk n₀ ann t with
   | false=>none
   | true=>match stepT (denote tb) p w s t with
    | some (s',t')=>nq tb p w n₀ ann n s' t'
    | none=>none
theorem oH {tb:String->Option Builtin}{p:Program}{w:World}{n₀:Nat}{ann:Option Value}:∀{n:Nat}{s s':SharedT}{t:Thread},nq tb p w n₀ ann n s t=some s'->topRun tb p w n₀ ann n s.abs t=some s'.abs
 | 0,_,_,_,h=>by cases h
 | n + 1,s,s',t,h=>by
  unfold nq at h
  unfold topRun
  cases he:through t with
  | true=>rw [he] at h;cases h;rfl
  | false =>
   rw [he] at h
   cases hk:stepOk n₀ ann t with
   | false=>rw [hk] at h;cases h
   | true =>
    rw [hk] at h
    cases hs:stepT (denote tb) p w s t with
    | none=>rw [hs] at h;cases h
    | some r=>obtain ⟨s₂,t₂⟩:=r;rw [hs] at h;rw [stepT_spec hs];exact oH h
def xX:List Obj->Nat->BT->BT
 | [],_,t=>t
 | o::r,i,t=>xX r (i + 1) (t.ins i o)
def yC (P:Params):BT:=xX (boot_heap P).objs.toList 0 .nil
theorem wx:∀P,absHeap (yC P) (boot_heap P).objs.size (boot_heap P).life=boot_heap P:=fun P=>by kernel_rfl
theorem At {p q:Program}{loose:List Str}{Xt:Shared->Bool}{α:Type}{Yf:Shared->α}{Ya:World->α}{N:Nat}{g0:Bool}{m₀:Nat}{ann:Option Value}
  (e:opening p=plainProg p.main.scope.names) (hN:Nat.ble 600 N=true) (f:∀s,fenceModules? p s=some s)
  (size:∀w:World,((boot_heap w.params).isNs mainGlobals && (Array.mk []:Array GenState).size == 0,(boot_heap w.params).objs.size,(boot_heap w.params).nsMap mainGlobals "__annotations__")=(true,m₀,ann))
  (run:∀(w:World) (os:OsState),(nq treeTable p w m₀ ann N ⟨yC w.params,m₀,(boot_heap w.params).life,Array.mk [],boot_drawn,boot_toks,os⟩ (topStub p)).map (fun sT=>((staticsOk (importedModules p.main.body) (boot_heap w.params) sT.abs.heap && namesBound p sT.abs.heap && gensDone sT.abs && laidKept (boot_heap w.params) sT.abs.heap),openSeen q loose (importedModules p.main.body) Xt g0 sT.abs,Yf sT.abs))=some (true,openGood q loose,Ya w)):LeftO p q loose Xt Yf Ya N g0:=fun w=>by
 obtain ⟨⟨h,gs,d,k,os⟩,e,e'⟩:=Option.map_eq_some_iff.mp (boot_open e hN f w)
 obtain ⟨rfl,rfl,rfl,rfl⟩:h=boot_heap w.params/\gs=Array.mk []/\d=boot_drawn/\k=boot_toks:=by simpa using e'
 obtain ⟨z1,z2,z3⟩:_/\_/\_:=by simpa only [Prod.mk.injEq] using size w
 obtain ⟨sT,r,l⟩:=Option.map_eq_some_iff.mp (run w os)
 obtain ⟨l1,l2,l3⟩:_/\_/\_:=by simpa only [Prod.mk.injEq] using l
 have r:=oH r
 rw [show SharedT.abs ⟨yC w.params,m₀,(boot_heap w.params).life,Array.mk [],boot_drawn,boot_toks,os⟩=⟨boot_heap w.params,Array.mk [],boot_drawn,boot_toks,os⟩ by
  unfold SharedT.abs;dsimp only;rw [<- z2,wx]] at r
 have t:topFrom treeTable p w N ⟨boot_heap w.params,Array.mk [],boot_drawn,boot_toks,os⟩=some sT.abs:=by
  unfold topFrom
  dsimp only
  rw [z1,z2,z3,r]
  show (match staticsOk (importedModules p.main.body) (boot_heap w.params) sT.abs.heap && namesBound p sT.abs.heap && gensDone sT.abs && laidKept (boot_heap w.params) sT.abs.heap with | true=>_ | false=>_)=_
  rw [l1]
 unfold openEnds
 rw [e]
 show (topFrom treeTable p w N _).map _=_
 rw [t]
 exact congrArg some (Prod.ext l2 l3)
end L2
section
open PySem PySem.W PyProof.Rows
def yD:Program:=PySem.W.view PySem.Challenge.pw_shortglue_k28_price_bound [1,2,3,4,5,7,8,9,11,12,13,15,17,18,19,21,22,24,25,26,27,28,30,31,32,33,34,35,36,37,38,39,40,41,42,43,44,45,46,47,48,49]
local macro_rules | `(tactic| o_head $H)=>`(tactic| (refine holds_open (q:=yD) (loose:=[PySem.Str.ofString "is_text"]) (Xt:=fun s=>xlAt yD [] s && recOk (RowW.records (OpenRow.toRowW (OpenLaw.row PySem.Challenge.rw_shortglue_k28_price_bound))) s) (XP:=XL yD []) (Yf:=Hook.obs $H) (Ya:=Hook.val $H) (YP:=Hook.says $H) (N:=4242) ?hl (Hook.of $H) (Hook.keeps $H) (fun s e=>xl_of s (Bool.and_eq_true_iff.mp e).1) XL.keeps (by rfl) (by rfl) (by rfl) (fun s e=>recFacts_of (Bool.and_eq_true_iff.mp e).2) (by rfl) (by first | assumption | decide +kernel) (by decide +kernel) ⟨rfl,rfl,rfl,rfl,rfl,by decide +kernel⟩ ?hw ?hc;(case hl=>(refine L2.At (m₀:=11) (ann:=some (.ref 6)) (by kernel_rfl) (by rfl) (fun s=>by kernel_rfl) (fun w=>by kernel_rfl) ?_;intro w os;kernel_rfl))))
set_option maxRecDepth 100000 in
set_option maxHeartbeats 0 in
open_top topHd for PySem.Challenge.rw_shortglue_k28_price_bound
end
-- CHANGE: your row's module here,as the last of these rows
namespace L2
open PySem PySem.Spec PyProof.Rows
abbrev Key:=Sum Int Str
def Au:Key->Value->Bool
 | .inl k,v=>Value.isInt k v
 | .inr x,v=>Value.isStrOf x v
def D6 (w:World):Key->Int
 | .inl k=>hashInt k
 | .inr x=>hashStr w x
theorem cG:∀{k:Key}{v:Value},Au k v=true->(∃i t,k=Sum.inl i/\v=Value.int i t)\/(∃x t,k=Sum.inr x/\v=Value.str x t)
 | .inl i,v,h=>by
  obtain ⟨t,e⟩:=Value.isInt_shape (k:=i) (v:=v) h
  exact .inl ⟨i,t,rfl,e⟩
 | .inr x,v,h=>by
  obtain ⟨t,e⟩:=Value.isStrOf_shape (x:=x) (v:=v) h
  exact .inr ⟨x,t,rfl,e⟩
theorem Av (a b:Int):decide ((Sum.inl a:Key)=Sum.inl b)=(a == b):=by
 by_cases e:a=b
 .subst e;simp
 .have h:¬ (Sum.inl a:Key)=Sum.inl b:=fun q=>e (Sum.inl.inj q)
  rw [decide_eq_false h]
  exact (beq_eq_false_iff_ne.mpr e).symm
theorem Aw (a b:Str):decide ((Sum.inr a:Key)=Sum.inr b)=decide (a=b):=by
 by_cases e:a=b
 .subst e;simp
 .have h:¬ (Sum.inr a:Key)=Sum.inr b:=fun q=>e (Sum.inr.inj q)
  rw [decide_eq_false h,decide_eq_false e]
theorem Ax (a:Int) (b:Str):decide ((Sum.inl a:Key)=Sum.inr b)=false:=decide_eq_false (fun q=>nomatch q)
theorem Ay (a:Str) (b:Int):decide ((Sum.inr a:Key)=Sum.inl b)=false:=decide_eq_false (fun q=>nomatch q)
def qq (prog:Program) (w:World):PySem.KeyKind prog w Key where
 is:=Au
 hash:=D6 w
 inj:=fun v a b ha hb=>by
  rcases cG ha with ⟨i,t,rfl,rfl⟩ | ⟨x,t,rfl,rfl⟩
  .rcases cG hb with ⟨j,u,rfl,e⟩ | ⟨y,u,rfl,e⟩
   .injection e with e1 _;rw [e1]
   .exact nomatch e
  .rcases cG hb with ⟨j,u,rfl,e⟩ | ⟨y,u,rfl,e⟩
   .exact nomatch e
   .injection e with e1 _;rw [e1]
 byValue:=fun k v h=>by
  rcases cG h with ⟨i,t,rfl,rfl⟩ | ⟨x,t,rfl,rfl⟩ <;> rfl
 pyHash:=fun hv h=>by
  rcases cG hv with ⟨i,t,rfl,rfl⟩ | ⟨x,t,rfl,rfl⟩
  .exact wpAny_pyHash_int h
  .exact wpAny_pyHash_str h
 eqBool:=fun hu hv h=>by
  rcases cG hu with ⟨i,t,rfl,rfl⟩ | ⟨x,t,rfl,rfl⟩
  .rcases cG hv with ⟨j,u,rfl,rfl⟩ | ⟨y,u,rfl,rfl⟩
   .rw [Av] at h;exact wpAny_eqBool_int h
   .rw [Ax] at h;exact SeqAt.EqAt.int_str i t y u _ _ _ _ h
  .rcases cG hv with ⟨j,u,rfl,rfl⟩ | ⟨y,u,rfl,rfl⟩
   .rw [Ay] at h;exact SeqAt.EqAt.str_int x t j u _ _ _ _ h
   .rw [Aw] at h;exact wpAny_eqBool_str h
 «strs»:=fun k x t v h=>by
  rcases cG h with ⟨i,u,rfl,e⟩ | ⟨y,u,rfl,e⟩
  .exact nomatch e
  .injection e with e1 _
   subst e1
   cases v <;> rfl
inductive V where
 | non | bl (b:Bool) | int (i:Int) | str (x:Str) | byt (b:Array UInt8) | flt (b:UInt64) | ref (a:Addr) | ty (n:String)
 deriving DecidableEq
def dz:V->Value->Prop
 | .non,u=>u=Value.none
 | .bl b,u=>u=Value.bool b
 | .int i,u=>∃t,u=Value.int i t
 | .str x,u=>∃t,u=Value.str x t
 | .byt b,u=>∃t,u=Value.bytes b t
 | .flt b,u=>∃t,u=Value.float b t
 | .ref a,u=>u=Value.ref a
 | .ty n,u=>u=Value.type n
abbrev bW:List V->List Value->Prop:=Paired dz
theorem bW.length {xs:List V}{us:List Value} (r:bW xs us):xs.length=us.length:=Paired.length r
theorem bW.get:∀{xs:List V}{us:List Value}{i:Nat}{x:V},bW xs us->xs[i]?=some x->∃u,us[i]?=some u/\dz x u
 | _,_,_,_,.nil,e=>by simp at e
 | _,_,0,_,.cons r _,e=>by simp at e;subst e;exact ⟨_,rfl,r⟩
 | _,_,i + 1,x,.cons _ t,e=>by
  obtain ⟨u,h1,h2⟩:=bW.get (i:=i) (x:=x) t (by simpa using e)
  exact ⟨u,by simpa using h1,h2⟩
theorem bW.set {x:V}{u:Value} (r:dz x u):∀{xs:List V}{us:List Value} (i:Nat),bW xs us->bW (xs.set i x) (us.set i u)
 | _,_,_,.nil=>.nil
 | _,_,0,.cons _ t=>.cons r t
 | _,_,i + 1,.cons q t=>.cons q (bW.set r i t)
theorem bW.append:∀{xs ys:List V}{us ws:List Value},bW xs us->bW ys ws->bW (xs++ys) (us++ws)
 | _,_,_,_,.nil,s=>s
 | _,_,_,_,.cons r t,s=>.cons r (bW.append t s)
theorem bW.take:∀{xs:List V}{us:List Value} (n:Nat),bW xs us->bW (xs.take n) (us.take n)
 | _,_,0,_=>.nil
 | _,_,_ + 1,.nil=>.nil
 | _,_,n + 1,.cons r t=>.cons r (bW.take n t)
theorem bW.drop:∀{xs:List V}{us:List Value} (n:Nat),bW xs us->bW (xs.drop n) (us.drop n)
 | _,_,0,r=>r
 | _,_,_ + 1,.nil=>.nil
 | _,_,n + 1,.cons _ t=>bW.drop n t
def ub:Option V->Option Value->Prop
 | some v,some u=>dz v u
 | none,none=>True
 | _,_=>False
def KV {κ:Type}:List (κ×V)->List (κ×Value)->Prop:=Paired fun (p:κ×V) (q:κ×Value)=>p.1=q.1/\dz p.2 q.2
def kV:Key->V
 | .inl i=>.int i
 | .inr x=>.str x
inductive HO where
 /-- a list -/
 | lst (xs:List V)
 /-- a tuple (never changes) -/
 | tup (xs:List V)
 /-- a dict whose keys are ints and texts;one whose keys are tuples of ints and texts (the empty one is both) -/
 | dK (kvs:List (Key×V)) | dT (kvs:List (List Key×V))
 /-- a set of ints: its members,its size -/
 | set (S:Int->Bool) (n:Nat)
 /-- an instance of the class at C,its dict at dx,its attributes -/
 | ins (C dx:Addr) (fs:List (Str×V))
 /-- the dict of the instance at x -/
 | own (x:Addr)
 /-- the dict of an exception -/
 | xd (fs:List (Str×V))
 /-- a bound method,f of x -/
 | met (f x:Addr)
 /-- a range object lo,lo + 1,.. below hi -/
 | rng (lo hi:Int)
 /-- a thing that is known to the object (the script;a dict while a loop walks it): read,never written while it is so -/
 | frz (o:Obj) (u:HO)
 /-- a code object's table -/
 | tbl (ps:Array Value)
 /-- any other thing,by what is true of its one object (a def of one's own: SetO a S n:=HO.ext fun h=>..) -/
 | ext (φ:Heap->Prop)
abbrev Hp:=Addr->Option HO
def upd (H:Hp) (a:Addr) (o:HO):Hp:=fun b=>if b=a then some o else H b
theorem aO {H:Hp}{a:Addr}{o:HO}:upd H a o a=some o:=by unfold upd;rw [if_pos rfl]
theorem aA {H:Hp}{a b:Addr}{o:HO} (h:b≠a):upd H a o b=H b:=by unfold upd;rw [if_neg h]
theorem bv {H:Hp}{a b:Addr}{o:HO} (h:H a=some o) (h':H b=none):a≠b:=by
 intro e;subst e;rw [h] at h';cases h'
section
variable (P:Program) (w:World)
def cH (H:Hp) (h:Heap) (a:Addr):HO->Prop
 | .lst xs=>xs.length<=sizeLine/\∃(its:List Value) (n:Nat),bW xs its/\h.get? a=some { cls:=.type "list",data:=.seq its.toArray n }
 | .tup xs=>xs.length<=sizeLine/\∃its:List Value,bW xs its/\IsTup h a its.toArray
 | .dK kvs=>kvs.length<=sizeLine/\(a == sysModules)=false/\∃vs,KV kvs vs/\h.DictOf (qq P w) a vs
 | .dT kvs=>kvs.length<=sizeLine/\(a == sysModules)=false/\∃xs:List (List Key×Addr×Value),
   Paired (fun (p:List Key×V) (q:List Key×Addr×Value)=>p.1=q.1/\H q.2.1=some (.tup (p.1.map kV))/\dz p.2 q.2.2) kvs xs /\
   ∃o es ep,h.get? a=some o/\o.ExactDict/\o.data=.dict es ep/\es.toList=xs.map (entryOfKey (tupleKind (qq P w)))/\(xs.map (·.1)).Nodup
 | .set S n=>h.SetOf (intKind P w) a S n
 | .ins C dx fs=>H dx=some (.own a)/\fs.length<=1000/\dx≠a/\h.get? a=some (PySem.W.instObj C dx) /\
   ∃mA,h.Ns1 dx mA/\(∀f,ub (fs.lookup f) (mA f))/\PySem.Within mA (fs.map (·.1))
 | .own _=>∃o,h.get? a=some o
 | .xd fs=>∃mA,h.Ns1 a mA/\∀f,ub (fs.lookup f) (mA f)
 | .rng lo hi=>∃t u v,h.get? a=some { cls:=.type "range",data:=.fields #[.int lo t,.int hi u,.int 1 v] }
 | .frz o u=>h.get? a=some o/\cH H h a u
 | .tbl ps=>h.get? a=some { cls:=.none,data:=.fields ps }
 | .met f x=>h.get? a=some (PySem.W.methodObj (.ref f) (.ref x))
 | .ext φ=>φ h/\(∃o,h.get? a=some o)/\∀h1 h2:Heap,φ h1->(∀o,h1.get? a=some o->h2.get? a=some o)->φ h2
def HOk (H:Hp) (h:Heap):Prop:=∀a o,H a=some o->cH P w H h a o
end
section
variable {P:Program}{w:World}{H H':Hp}{h h':Heap}{a:Addr}{o:HO}
theorem cH.lt (x:cH P w H h a o):a < h.objs.size:=by
 cases o with
 | lst xs=>obtain ⟨_,_,_,_,e⟩:=x;exact Heap.lt_size e
 | tup xs=>obtain ⟨_,_,_,p⟩:=x;exact p.lt
 | dK kvs=>obtain ⟨_,_,_,_,o,_,_,e,_⟩:=x;exact Heap.lt_size e
 | dT kvs=>obtain ⟨_,_,_,_,o,_,_,e,_⟩:=x;exact Heap.lt_size e
 | set S n=>obtain ⟨o,_,_,_,e,_⟩:=x;exact Heap.lt_size e
 | ins C dx fs=>obtain ⟨_,_,_,e,_⟩:=x;exact Heap.lt_size e
 | own y=>obtain ⟨_,e⟩:=x;exact Heap.lt_size e
 | xd fs=>obtain ⟨_,⟨_,_,_,e,_⟩,_⟩:=x;exact Heap.lt_size e
 | rng lo hi=>obtain ⟨_,_,_,e⟩:=x;exact Heap.lt_size e
 | frz ob u=>obtain ⟨e,_⟩:=x;exact Heap.lt_size e
 | tbl ps=>exact Heap.lt_size (show h.get? a=some _ from x)
 | met f y=>exact Heap.lt_size (show h.get? a=some _ from x)
 | ext φ=>obtain ⟨_,⟨_,e⟩,_⟩:=x;exact Heap.lt_size e
theorem Paired.mapP {α β:Type}{F G:α->β->Prop}:∀{l₁:List α}{l₂:List β},Paired F l₁ l₂->(∀a b,F a b->G a b)->Paired G l₁ l₂
 | _,_,.nil,_=>.nil
 | _,_,.cons r t,f=>.cons (f _ _ r) (Paired.mapP t f)
theorem cH.stay (x:cH P w H h a o) (k:∀b u,(b=a\/H b=some (.own a))->h.get? b=some u->h'.get? b=some u)
  (ho:∀b,H b=some (.own a)->H' b=some (.own a)) (ht:∀b xs,H b=some (.tup xs)->H' b=some (.tup xs)):cH P w H' h' a o:=by
 induction o with
 | lst xs=>obtain ⟨z,its,n,r,e⟩:=x;exact ⟨z,its,n,r,k _ _ (.inl rfl) e⟩
 | tup xs=>obtain ⟨z,its,r,ob,e,c⟩:=x;exact ⟨z,its,r,ob,k _ _ (.inl rfl) e,c⟩
 | dK kvs=>obtain ⟨z,y,vs,r,ob,es,ep,e,c⟩:=x;exact ⟨z,y,vs,r,ob,es,ep,k _ _ (.inl rfl) e,c⟩
 | dT kvs =>
  obtain ⟨z,y,xs,r,ob,es,ep,e,c⟩:=x
  exact ⟨z,y,xs,Paired.mapP r fun p q z=>⟨z.1,ht _ _ z.2.1,z.2.2⟩,ob,es,ep,k _ _ (.inl rfl) e,c⟩
 | set S n=>obtain ⟨ob,es,ep,t,e,c⟩:=x;exact ⟨ob,es,ep,t,k _ _ (.inl rfl) e,c⟩
 | ins C dx fs =>
  obtain ⟨d,z,ne,e,mA,⟨od,es,ep,e2,c⟩,r⟩:=x
  exact ⟨ho _ d,z,ne,k _ _ (.inl rfl) e,mA,⟨od,es,ep,k _ _ (.inr d) e2,c⟩,r⟩
 | own y=>obtain ⟨ob,e⟩:=x;exact ⟨ob,k _ _ (.inl rfl) e⟩
 | xd fs=>obtain ⟨mA,⟨od,es,ep,e,c⟩,r⟩:=x;exact ⟨mA,⟨od,es,ep,k _ _ (.inl rfl) e,c⟩,r⟩
 | rng lo hi=>obtain ⟨t,u,v,e⟩:=x;exact ⟨t,u,v,k _ _ (.inl rfl) e⟩
 | frz ob u ih=>obtain ⟨e,q⟩:=x;exact ⟨k _ _ (.inl rfl) e,ih q⟩
 | tbl ps =>
  have e:h.get? a=some { cls:=.none,data:=.fields ps }:=x
  show h'.get? a=some { cls:=.none,data:=.fields ps }
  exact k a _ (.inl rfl) e
 | met f y =>
  have e:h.get? a=some (PySem.W.methodObj (.ref f) (.ref y)):=x
  show h'.get? a=some (PySem.W.methodObj (.ref f) (.ref y))
  exact k a _ (.inl rfl) e
 | ext φ=>obtain ⟨p,⟨o,e⟩,st⟩:=x;exact ⟨st _ _ p fun o q=>k _ _ (.inl rfl) q,⟨o,k _ _ (.inl rfl) e⟩,st⟩
theorem HOk.lt (x:HOk P w H h) (e:H a=some o):a < h.objs.size:=(x a o e).lt
theorem HOk.fresh (x:HOk P w H h) (e:h.objs.size<=a):H a=none:=by
 cases q:H a with
 | none=>rfl
 | some u=>exact absurd (Nat.lt_of_lt_of_le (x.lt q) e) (Nat.lt_irrefl _)
theorem HOk.kept (x:HOk P w H h) (k:∀b u,h.get? b=some u->h'.get? b=some u):HOk P w H h':=fun a o e =>
 (x a o e).stay (fun b u _ q=>k b u q) (fun _ q=>q) fun _ _ q=>q
theorem HOk.laid (x:HOk P w H h) (k:∀b u,h.get? b=some u->h'.get? b=some u) (hp:h.objs.size<=a) (new:cH P w (upd H a o) h' a o):HOk P w (upd H a o) h':=fun b u e=>by
 have hn:=x.fresh hp
 by_cases hb:b=a
 .subst hb;rw [aO] at e;cases e;exact new
 .rw [aA hb] at e
  exact (x b u e).stay (fun c v _ q=>k c v q) (fun c q=>by rw [aA (bv q hn)];exact q) fun c xs q=>by rw [aA (bv q hn)];exact q
end
def Rd (H:Hp) (a:Addr) (u:HO):Prop:=H a=some u\/∃o,H a=some (.frz o u)
theorem Rd.ok {P:Program}{w:World}{H:Hp}{h:Heap}{a:Addr}{u:HO} (r:Rd H a u) (x:HOk P w H h):cH P w H h a u:=by
 rcases r with r | ⟨o,r⟩
 .exact x a u r
 .obtain ⟨_,q⟩:=x a _ r
  exact q
def Mut:Option HO->Prop
 | some (.lst _)=>True
 | some (.dK _)=>True
 | some (.dT _)=>True
 | some (.set _ _)=>True
 | some (.ins _ _ _)=>True
 | some (.ext _)=>True
 | _=>False
section
variable {P:Program}{w:World}{H:Hp}{h h':Heap}{x e:Addr}{o':HO}
theorem HOk.write (ok:HOk P w H h) (mu:Mut (H x)) (he:e=x\/H e=some (.own x)) (k:∀b u,b≠e->h.get? b=some u->h'.get? b=some u) (heo:∃u,h'.get? e=some u)
  (new:cH P w (upd H x o') h' x o'):HOk P w (upd H x o') h':=fun b u q=>by
 have nown:∀c y,H c=some (.own y)->c≠x:=fun c y r z=>by subst z;rw [r] at mu;exact mu
 have ntup:∀c xs,H c=some (.tup xs)->c≠x:=fun c xs r z=>by subst z;rw [r] at mu;exact mu
 by_cases hb:b=x
 .subst hb;rw [aO] at q;cases q;exact new
 .rw [aA hb] at q
  by_cases hbe:b=e
  .have q':H b=some (.own x):=by
    rcases he with z | z
    .exact absurd (hbe.trans z) hb
    .rw [hbe];exact z
   rw [q] at q';cases q'
   obtain ⟨v,hv⟩:=heo
   exact ⟨v,by rw [hbe];exact hv⟩
  .refine (ok b u q).stay (fun c v hc r=>k c v ?_ r) (fun c r=>by rw [aA (nown c b r)];exact r) fun c xs r=>by rw [aA (ntup c xs r)];exact r
   rcases hc with rfl | hc
   .exact hbe
   .rintro rfl
    rcases he with z | z
    .exact nown c b hc z
    .rw [hc] at z;cases z;exact hb rfl
end
structure Un (fs ex:List Addr) (H H':Hp) (h h':Heap):Prop where
 keep:∀b o,h.get? b=some o->H b=none->b∉fs->b∉ex->h'.get? b=some o
 slot:∀b o,h.get? b=some o->H b=none->b∈fs->b∉ex->∃sl,h'.get? b=some { o with slots:=sl }
 free:∀b o,h.get? b=some o->H b=none->b∉ex->H' b=none
 there:∀b o,h.get? b=some o->b∉ex->∃o',h'.get? b=some o'
 tups:∀b xs,H b=some (.tup xs)->H' b=some (.tup xs)
 frzs:∀b o u,H b=some (.frz o u)->H' b=some (.frz o u)
 tbls:∀b ps,H b=some (.tbl ps)->∃more,H' b=some (.tbl (ps++more))
section
variable {fs fs' ex ex':List Addr}{H H1 H2:Hp}{h h1 h2 h':Heap}{a x e:Addr}{o:HO}
theorem Un.any (u:Un fs ex H H1 h h1) {b:Addr}{ob:Obj} (q:h.get? b=some ob) (n:H b=none) (hx:b∉ex):∃sl,h1.get? b=some { ob with slots:=sl }:=by
 by_cases hb:b∈fs
 .exact u.slot b ob q n hb hx
 .exact ⟨ob.slots,u.keep b ob q n hb hx⟩
theorem Un.kept (k:∀b u,h.get? b=some u->h'.get? b=some u):Un fs ex H H h h' :=
 ⟨fun b ob q _ _ _=>k b ob q,fun b ob q _ _ _=>⟨ob.slots,k b ob q⟩,fun _ _ _ n _=>n,fun b ob q _=>⟨ob,k b ob q⟩,fun _ _ q=>q,fun _ _ _ q=>q,fun _ ps q=>⟨#[],by rw [q];simp⟩⟩
theorem Un.refl:Un fs ex H H h h:=Un.kept fun _ _ q=>q
theorem Un.laid (k:∀b u,h.get? b=some u->h'.get? b=some u) (hp:h.objs.size<=a) (hn:H a=none):Un fs ex H (upd H a o) h h' where
 keep:=fun b u q _ _ _=>k b u q
 slot:=fun b u q _ _ _=>⟨u.slots,k b u q⟩
 free:=fun b u q n _=>by rw [aA (Nat.ne_of_lt (Nat.lt_of_lt_of_le (Heap.lt_size q) hp))];exact n
 there:=fun b u q _=>⟨u,k b u q⟩
 tups:=fun b xs q=>by rw [aA (bv q hn)];exact q
 frzs:=fun b u xs q=>by rw [aA (bv q hn)];exact q
 tbls:=fun b ps q=>⟨#[],by rw [aA (bv q hn),q];simp⟩
theorem Un.write (mu:Mut (H x)) (he:e=x\/H e=some (.own x)) (k:∀b u,b≠e->h.get? b=some u->h'.get? b=some u) (heo:∃u,h'.get? e=some u):Un fs ex H (upd H x o) h h':=by
 have hx:∀b,H b=none->b≠x:=fun b n z=>by subst z;rw [n] at mu;exact mu
 have hb:∀b,H b=none->b≠e:=fun b n z=>by
  subst z
  rcases he with r | r
  .exact hx b n r
  .rw [n] at r;cases r
 have hm:∀b u,H b=some u->¬ Mut (some u)->b≠x:=fun b u q nm z=>by subst z;rw [q] at mu;exact nm mu
 refine ⟨fun b u q n _ _=>k b u (hb b n) q,fun b u q n _ _=>⟨u.slots,k b u (hb b n) q⟩,fun b u q n _=>by rw [aA (hx b n)];exact n,fun b u q _=>?_,
  fun b xs q=>by rw [aA (hm b _ q fun z=>z)];exact q,fun b u xs q=>by rw [aA (hm b _ q fun z=>z)];exact q,fun b ps q=>⟨#[],by rw [aA (hm b _ q fun z=>z),q];simp⟩⟩
 by_cases hbe:b=e
 .subst hbe;exact heo
 .exact ⟨u,k b u hbe q⟩
end
def trk (h:Heap) (H:Hp):List Addr:=(List.range h.objs.size).filter fun a=>(H a).isSome
def wy (h:Heap) (H:Hp):Heap:=PySem.W.hideAll h (trk h H)
theorem uj (h:Heap) (H:Hp):(wy h H).objs.size=h.objs.size:=PySem.W.hideAll_size _ _
theorem wz {h:Heap}{H:Hp}{b:Addr}{o:Obj} (e:h.get? b=some o) (n:H b=none):(wy h H).get? b=some o :=
 PySem.W.hideAll_get _ e fun hm=>by
  have q:(H b).isSome=true:=(List.mem_filter.mp hm).2
  rw [n] at q;simp at q
theorem yE {h:Heap}{H:Hp}{b:Addr}{o:Obj} (e:(wy h H).get? b=some o):h.get? b=some o/\H b=none:=by
 have e':h.get? b=some o:=PySem.W.of_hideAll (trk h H) e
 refine ⟨e',?_⟩
 cases q:H b with
 | none=>rfl
 | some x =>
  have hm:b∈trk h H:=List.mem_filter.mpr ⟨List.mem_range.mpr (Heap.lt_size e'),by simp [q]⟩
  have z:(wy h H).get? b=none:=PySem.W.hideAll_none (trk h H) hm
  rw [z] at e;cases e
structure Mod (K:PySem.W.Frag) (mg:Str->Option Value) (base:Heap):Prop where
 kin:K.In base
 glob:base.Ns mainGlobals mg
 blt:∃mb,base.Ns builtinsNs mb/\∀x:Str,x≠"__name__"->mb x=bootBuiltins x
 nolimit:base.NoLimit
structure Cx where
 prog:Program
 w:World
 K:PySem.W.Frag
 mg:Str->Option Value
 base:Heap
 A:Around
 N:List Str
 s₀:Shared
 H₀:Hp
 env:Env
 outer:List Env
 stack:List Env
 ex:List Addr
 fn:Str->Bool
 calm:Bool
 pn:List (Addr×Obj)
 xe:Value->Shared->Prop
def frs (l:List Env):List Addr:=l.filterMap (·.frame)
abbrev Cx.fs (X:Cx):List Addr:=frs X.outer
def Vis (sc:Scope) (x:Str):Prop:=sc.names.lookup x=some .local\/sc.names.lookup x=some .cell\/sc.names.lookup x=some .free
def Loc (sc:Scope) (x:Str):Prop:=sc.names.lookup x=some .local\/sc.names.lookup x=some .cell
def D7 (env:Env) (h:Heap) (m:Str->Option Value) (x:Str) (u:Value):Prop :=
 (env.kindOf x=some .local/\m x=some u)\/((env.kindOf x=some .cell\/env.kindOf x=some .free)/\∃c,env.cells.lookup x=some c/\h.IsCell c (some u))
structure Cx.Ok (X:Cx):Prop where
 mod:Mod X.K X.mg X.base
 kind:X.env.scope.kind=.function
 glob:X.env.globals=mainGlobals
 blt:X.env.builtins=builtinsNs
 above:X.s₀.heap.objs.size<=X.env.locals
 inj:∀x y c,X.env.cells.lookup x=some c->X.env.cells.lookup y=some c->x=y
 has:∀x,(X.env.kindOf x=some .cell\/X.env.kindOf x=some .free)->∃c,X.env.cells.lookup x=some c
 cab:∀x c,X.fn x=true->X.env.cells.lookup x=some c->X.s₀.heap.objs.size<=c
 hd:X.calm=true->X.A.handled=none
 frames:X.A.frames=some X.stack
 stk:X.stack=X.outer\/(X.stack=X.env::X.outer/\X.env.frame=some X.env.locals)
 exf:∀b∈X.ex,b≠X.env.locals/\∀x c,X.env.cells.lookup x=some c->c≠b
 bs:∀b o,X.base.get? b=some o->X.s₀.heap.get? b=some o/\X.H₀ b=none
 bsz:X.base.objs.size<=X.s₀.heap.objs.size
 noex:∀b o,X.base.get? b=some o->b∉X.ex
 exfs:∀b∈X.ex,b∉X.fs
 funs:X.s₀.heap.FunFrames X.base X.outer
 frf:∀b∈X.fs,X.H₀ b=none
structure Inv (X:Cx) (pins:List (Addr×Obj)) (σ:List (Option V)) (H:Hp) (s:Shared):Prop where
 ok:X.Ok
 os:s.os=X.s₀.os
 bare:AllBare s.gens
 base:Un X.fs X.ex X.H₀ H X.s₀.heap s.heap
 loc:∃m,s.heap.Ns X.env.locals m/\∀(i:Nat) (x:Str) (v:V),X.N[i]?=some x->σ[i]?=some (some v)->Vis X.env.scope x->∃u,dz v u/\D7 X.env s.heap m x u
 cell:∀x c,X.env.cells.lookup x=some c->∃v,s.heap.IsCell c v
 free:H X.env.locals=none
 freeC:∀x c,X.env.cells.lookup x=some c->H c=none
 pin:∀p∈X.pn++pins,s.heap.get? p.1=some p.2/\H p.1=none/\p.1≠X.env.locals/\p.1∉X.fs/\∀v,p.2.data≠.cell v
 hok:HOk X.prog X.w H s.heap
 len:σ.length=X.N.length
section
variable {X:Cx}{pins:List (Addr×Obj)}{σ:List (Option V)}{H H':Hp}{s:Shared}{h':Heap}
theorem Cx.Ok.nofr (ok:X.Ok) {b:Addr}{o:Obj} (e:X.base.get? b=some o):b∉X.fs:=fun hb=>by
 have:=(ok.funs.mem hb).1
 rw [e] at this;cases this
theorem Inv.bs (I:Inv X pins σ H s):∀b o,X.base.get? b=some o->s.heap.get? b=some o/\H b=none:=fun b o e =>
 ⟨I.base.keep b o (I.ok.bs b o e).1 (I.ok.bs b o e).2 (I.ok.nofr e) (I.ok.noex b o e),I.base.free b o (I.ok.bs b o e).1 (I.ok.bs b o e).2 (I.ok.noex b o e)⟩
theorem Inv.bk (I:Inv X pins σ H s):∀b o,X.base.get? b=some o->s.heap.get? b=some o:=fun b o e=>(I.bs b o e).1
theorem Inv.mod (I:Inv X pins σ H s):Mod X.K X.mg X.base:=I.ok.mod
theorem Inv.kIn (I:Inv X pins σ H s):X.K.In s.heap:=I.ok.mod.kin.keeps I.bk
theorem Inv.lt (I:Inv X pins σ H s):X.env.locals < s.heap.objs.size:=let ⟨_,hn,_⟩:=I.loc;hn.lt
theorem Inv.sz (I:Inv X pins σ H s):X.s₀.heap.objs.size<=s.heap.objs.size:=Nat.le_trans I.ok.above (Nat.le_of_lt I.lt)
theorem Inv.nofs (I:Inv X pins σ H s) {a:Addr} (h:s.heap.objs.size<=a):a∉X.fs:=fun hb=>by
 obtain ⟨_,o,ho,_⟩:=I.ok.funs.mem hb
 exact absurd (Nat.lt_of_lt_of_le (Heap.lt_size ho) (Nat.le_trans I.sz h)) (Nat.lt_irrefl _)
theorem Inv.cne (I:Inv X pins σ H s):∀x c,X.env.cells.lookup x=some c->c≠X.env.locals:=fun x c e z=>by
 obtain ⟨v,o,ho,hd⟩:=I.cell x c e
 obtain ⟨m,⟨o',es,ep,ho',hd',_⟩,_⟩:=I.loc
 rw [z,ho'] at ho;cases ho;rw [hd'] at hd;cases hd
theorem Inv.funs (I:Inv X pins σ H s):s.heap.FunFrames X.base X.outer:=by
 have all:∀(l:List Env),(∀b∈frs l,b∈X.fs)->X.s₀.heap.FunFrames X.base l->s.heap.FunFrames X.base l:=by
  intro l
  induction l with
  | nil=>intro _ _;trivial
  | cons env r ih =>
   intro hs hl
   obtain ⟨hk,⟨L,o,hf,hn,ho,hd⟩,hr⟩:=hl
   have hL:L∈X.fs:=hs L (by unfold frs;rw [List.filterMap_cons,hf];exact List.mem_cons_self)
   obtain ⟨sl,e⟩:=I.base.slot L o ho (I.ok.frf L hL) hL fun z=>I.ok.exfs L z hL
   exact ⟨hk,⟨L,_,hf,hn,e,hd⟩,ih (fun b hb=>hs b (by unfold frs;rw [List.filterMap_cons,hf];exact List.mem_cons_of_mem _ hb)) hr⟩
 exact all X.outer (fun _ hb=>hb) I.ok.funs
theorem Inv.stack (I:Inv X pins σ H s):s.heap.FunFrames X.base X.stack:=by
 rcases I.ok.stk with e | ⟨e,hf⟩
 .rw [e];exact I.funs
 .rw [e]
  obtain ⟨m,hn,_⟩:=I.loc
  refine .cons (by rw [I.ok.kind];decide) hf hn ?_ I.funs
  exact Heap.get?_none_of_le (Nat.le_trans I.ok.bsz I.ok.above)
theorem Inv.stkSub (I:Inv X pins σ H s):∀b∈frs X.stack,b∈X.env.locals::X.fs:=fun b hb=>by
 rcases I.ok.stk with e | ⟨e,hf⟩
 .rw [e] at hb;exact List.mem_cons_of_mem _ hb
 .rw [e] at hb
  unfold frs at hb
  rw [List.filterMap_cons,hf] at hb
  exact hb
theorem Inv.stkFree (I:Inv X pins σ H s):∀b∈frs X.stack,H b=none:=fun b hb=>by
 rcases List.mem_cons.mp (I.stkSub b hb) with e | hb
 .rw [e];exact I.free
 .obtain ⟨_,o,ho,_⟩:=I.ok.funs.mem hb
  exact I.base.free b o ho (I.ok.frf b hb) fun z=>I.ok.exfs b z hb
theorem Inv.step {g':Array GenState}{t':Nat}{d':Drawn}{ch:List Addr} (I:Inv X pins σ H s)
  (hch:∀b∈ch,(b∈X.ex\/X.s₀.heap.objs.size<=b)/\b≠X.env.locals/\(∀x c,X.env.cells.lookup x=some c->c≠b)/\∀p∈X.pn++pins,p.1≠b)
  (keep:∀b o,b≠X.env.locals->b∉X.fs->b∉ch->s.heap.get? b=some o->H b=none->h'.get? b=some o)
  (slot:∀b o,b≠X.env.locals->b∈X.fs->b∉ch->s.heap.get? b=some o->H b=none->∃sl,h'.get? b=some { o with slots:=sl }) (free:∀b o,b∉ch->s.heap.get? b=some o->H b=none->H' b=none)
  (there:∀b o,b∉ch->s.heap.get? b=some o->∃o',h'.get? b=some o')
  (tups:∀b xs,H b=some (.tup xs)->H' b=some (.tup xs)) (frzs:∀b o u,H b=some (.frz o u)->H' b=some (.frz o u)) (tbls:∀b ps,H b=some (.tbl ps)->∃more,H' b=some (.tbl (ps++more)))
  (ns:∀m,s.heap.Ns X.env.locals m->h'.Ns X.env.locals m) (hok:HOk X.prog X.w H' h') (hg:AllBare g') :
  Inv X pins σ H' { s with heap:=h',gens:=g',drawn:=d',toks:=t' }:=by
 have neL:∀b o,X.s₀.heap.get? b=some o->b≠X.env.locals:=fun b o e=>Nat.ne_of_lt (Nat.lt_of_lt_of_le (Heap.lt_size e) I.ok.above)
 have neC:∀b o,X.s₀.heap.get? b=some o->b∉X.ex->b∉ch:=fun b o e hx hb=>by
  rcases (hch b hb).1 with z | z
  .exact hx z
  .exact absurd (Nat.lt_of_lt_of_le (Heap.lt_size e) z) (Nat.lt_irrefl _)
 have cellK:∀x c,X.env.cells.lookup x=some c->∀v,s.heap.IsCell c v->h'.IsCell c v:=fun x c e v ⟨o,ho,hd⟩=>by
  have nch:c∉ch:=fun z=>(hch c z).2.2.1 x c e rfl
  by_cases hc:c∈X.fs
  .obtain ⟨sl,q⟩:=slot c o (I.cne x c e) hc nch ho (I.freeC x c e)
   exact ⟨_,q,hd⟩
  .exact ⟨o,keep c o (I.cne x c e) hc nch ho (I.freeC x c e),hd⟩
 refine ⟨I.ok,I.os,hg,⟨fun b o e n hb hx=>?_,fun b o e n hb hx=>?_,fun b o e n hx=>?_,fun b o e hx=>?_,fun b xs e=>tups b xs (I.base.tups b xs e),fun b o xs e=>frzs b o xs (I.base.frzs b o xs e),fun b ps e=>?_⟩,?_,fun x c e=>?_,?_,fun x c e=>?_,fun p hp=>?_,hok,I.len⟩
 .exact keep b o (neL b o e) hb (neC b o e hx) (I.base.keep b o e n hb hx) (I.base.free b o e n hx)
 .obtain ⟨sl,e1⟩:=I.base.slot b o e n hb hx
  obtain ⟨sl',e2⟩:=slot b _ (neL b o e) hb (neC b o e hx) e1 (I.base.free b o e n hx)
  exact ⟨sl',e2⟩
 .obtain ⟨o',e1⟩:=I.base.there b o e hx
  exact free b o' (neC b o e hx) e1 (I.base.free b o e n hx)
 .obtain ⟨o',e1⟩:=I.base.there b o e hx
  exact there b o' (neC b o e hx) e1
 .obtain ⟨m1,e1⟩:=I.base.tbls b ps e
  obtain ⟨m2,e2⟩:=tbls b _ e1
  exact ⟨m1++m2,by rw [e2,Array.append_assoc]⟩
 .obtain ⟨m,hn,hl⟩:=I.loc
  refine ⟨m,ns m hn,fun i x v e1 e2 e3=>?_⟩
  obtain ⟨u,r,l⟩:=hl i x v e1 e2 e3
  refine ⟨u,r,?_⟩
  rcases l with l | ⟨k,c,e,z⟩
  .exact .inl l
  .exact .inr ⟨k,c,e,cellK x c e _ z⟩
 .obtain ⟨v,z⟩:=I.cell x c e
  exact ⟨v,cellK x c e v z⟩
 .obtain ⟨m,⟨o,_,_,ho,_⟩,_⟩:=I.loc
  exact free _ o (fun z=>(hch _ z).2.1 rfl) ho I.free
 .obtain ⟨v,o,ho,hd⟩:=I.cell x c e
  exact free c o (fun z=>(hch c z).2.2.1 x c e rfl) ho (I.freeC x c e)
 .obtain ⟨e,n,ne,nf,d⟩:=I.pin p hp
  have nch:p.1∉ch:=fun z=>(hch p.1 z).2.2.2 p hp rfl
  exact ⟨keep p.1 p.2 ne nf nch e n,free p.1 p.2 nch e n,ne,nf,d⟩
theorem Inv.un {t':Nat} (I:Inv X pins σ H s) (u:Un X.fs [] H H' s.heap h') (hok:HOk X.prog X.w H' h'):Inv X pins σ H' { s with heap:=h',toks:=t' }:=by
 obtain ⟨m,⟨o,es,ep,ho,r⟩,_⟩:=id I.loc
 obtain ⟨sl,hL⟩:=u.any ho I.free (by simp)
 exact I.step (g':=s.gens) (d':=s.drawn) (ch:=[]) (fun _ z=>nomatch z) (fun b o _ hb _ e n=>u.keep b o e n hb (by simp)) (fun b o _ hb _ e n=>u.slot b o e n hb (by simp)) (fun b o _ e n=>u.free b o e n (by simp)) (fun b o _ e=>u.there b o e (by simp)) u.tups u.frzs u.tbls (fun m' hm=>by
  obtain ⟨o',es',ep',ho',r'⟩:=hm
  rw [ho] at ho';cases ho'
  exact ⟨_,es',ep',hL,r'⟩) hok I.bare
theorem Inv.call {g':Array GenState}{t':Nat}{d':Drawn}{ch:List Addr} (I:Inv X pins σ H s) (u:Un (frs X.stack) ch H H' s.heap h') (hok:HOk X.prog X.w H' h') (hg:AllBare g')
  (hch:∀b∈ch,(b∈X.ex\/X.s₀.heap.objs.size<=b)/\b≠X.env.locals/\(∀x c,X.env.cells.lookup x=some c->c≠b)/\∀p∈X.pn++pins,p.1≠b) :
  Inv X pins σ H' { s with heap:=h',gens:=g',drawn:=d',toks:=t' }:=by
 obtain ⟨m,⟨o,es,ep,ho,r⟩,_⟩:=id I.loc
 obtain ⟨sl,hL⟩:=u.any ho I.free fun z=>(hch _ z).2.1 rfl
 exact I.step (ch:=ch) hch (fun b o hL hb hc e n=>u.keep b o e n (fun z=>(List.mem_cons.mp (I.stkSub b z)).elim hL hb) hc) (fun b o _ _ hc e n=>u.any e n hc) (fun b o hc e n=>u.free b o e n hc) (fun b o hc e=>u.there b o e hc) u.tups u.frzs u.tbls (fun m' hm=>by
  obtain ⟨o',es',ep',ho',r'⟩:=hm
  rw [ho] at ho';cases ho'
  exact ⟨_,es',ep',hL,r'⟩) hok hg
theorem Inv.turned {t':Nat}{it:Addr} (I:Inv X pins σ H s) (k:∀b o,b≠it->s.heap.get? b=some o->h'.get? b=some o) (hn:H it=none) (hL:it≠X.env.locals)
  (h1:it∈X.ex\/X.s₀.heap.objs.size<=it) (h2:∀x c,X.env.cells.lookup x=some c->c≠it) (h3:∀p∈X.pn++pins,p.1≠it):Inv X pins σ H { s with heap:=h',toks:=t' }:=by
 have nit:∀b u,H b=some u->b≠it:=fun b u e z=>by rw [z,hn] at e;cases e
 refine I.step (g':=s.gens) (d':=s.drawn) (ch:=[it]) (fun b hb=>?_) (fun b o _ _ hc e _=>k b o (fun z=>hc (by simp [z])) e) (fun b o _ _ hc e _=>⟨o.slots,k b o (fun z=>hc (by simp [z])) e⟩) (fun _ _ _ _ n=>n)
  (fun b o hc e=>⟨o,k b o (fun z=>hc (by simp [z])) e⟩) (fun _ _ e=>e) (fun _ _ _ e=>e) (fun b ps e=>⟨#[],by rw [e];simp⟩) (fun m hm=>?_) (fun b u e=>?_) I.bare
 .have e:b=it:=by simpa using hb
  subst e
  exact ⟨h1,hL,h2,h3⟩
 .obtain ⟨o,es,ep,ho,r⟩:=hm
  exact ⟨o,es,ep,k _ o (Ne.symm hL) ho,r⟩
 .refine (I.hok b u e).stay (fun c v hc q=>k c v ?_ q) (fun _ q=>q) fun _ _ q=>q
  rcases hc with z | z
  .rw [z];exact nit b u e
  .exact nit c _ z
theorem Inv.tok (I:Inv X pins σ H s) (t:Nat):Inv X pins σ H { s with toks:=t }:=I.un (h':=s.heap) (t':=t) Un.refl I.hok
theorem Inv.kept {t':Nat} (I:Inv X pins σ H s) (k:∀b u,s.heap.get? b=some u->h'.get? b=some u):Inv X pins σ H { s with heap:=h',toks:=t' }:=I.un (Un.kept k) (I.hok.kept k)
theorem Inv.laid {a:Addr}{o:HO}{t':Nat} (I:Inv X pins σ H s) (k:∀b u,s.heap.get? b=some u->h'.get? b=some u) (hp:s.heap.objs.size<=a) (new:cH X.prog X.w (upd H a o) h' a o) :
  Inv X pins σ (upd H a o) { s with heap:=h',toks:=t' }:=I.un (Un.laid k hp (I.hok.fresh hp)) (I.hok.laid k hp new)
theorem Inv.write {x e:Addr}{o:HO}{t':Nat} (I:Inv X pins σ H s) (mu:Mut (H x)) (he:e=x\/H e=some (.own x)) (k:∀b u,b≠e->s.heap.get? b=some u->h'.get? b=some u) (heo:∃u,h'.get? e=some u)
  (new:cH X.prog X.w (upd H x o) h' x o):Inv X pins σ (upd H x o) { s with heap:=h',toks:=t' }:=I.un (Un.write mu he k heo) (I.hok.write mu he k heo new)
theorem Inv.pins_of {pins':List (Addr×Obj)} (I:Inv X pins σ H s) (h:∀p∈pins',s.heap.get? p.1=some p.2/\H p.1=none/\p.1≠X.env.locals/\p.1∉X.fs/\∀v,p.2.data≠.cell v):Inv X pins' σ H s :=
 ⟨I.ok,I.os,I.bare,I.base,I.loc,I.cell,I.free,I.freeC,fun p hp=>(List.mem_append.mp hp).elim (fun z=>I.pin p (List.mem_append_left _ z)) (h p),I.hok,I.len⟩
theorem rF {N:List Str} (hN:N.Nodup) {i j:Nat}{x:Str} (a:N[i]?=some x) (b:N[j]?=some x):i=j:=by
 obtain ⟨h1,e1⟩:=List.getElem?_eq_some_iff.mp a
 obtain ⟨h2,e2⟩:=List.getElem?_eq_some_iff.mp b
 exact (List.getElem_inj hN).mp (e1.trans e2.symm)
theorem uk {M:Model}{A:Around}{E:Value->Shared->Prop}{i:Nat}{x:Str}{v:V}{u:Value}{Q:Unit->Shared->Prop} (I:Inv X pins σ H s) (hN:X.N.Nodup) (hi:X.N[i]?=some x) (hx:Loc X.env.scope x) (r:dz v u)
  (h:∀s',Inv X pins (σ.set i (some v)) H s'->(∃a,Heap.SameBut a s.heap s'.heap/\(a=X.env.locals\/X.env.cells.lookup x=some a))->Q () s') (hf:X.fn x=true\/X.env.scope.names.lookup x=some .local:=by first | exact .inl rfl | exact .inr rfl | assumption):wpAny M A (storeName X.env x u) Q E s:=by
 obtain ⟨m,hn,hl⟩:=id I.loc
 have hcls:(X.env.scope.kind == .class || (X.env.scope.kind == .module && X.env.locals != X.env.globals))=false:=by rw [I.ok.kind];rfl
 have hiσ:i < σ.length:=by rw [I.len];exact (List.getElem?_eq_some_iff.mp hi).1
 have cne:=I.cne
 have tracked:∀{a:Addr}{h':Heap},(∃o,s.heap.get? a=some o/\H a=none)->Heap.SameBut a s.heap h'->HOk X.prog X.w H h':=fun {a h'} ha hs b ob e=>by
  obtain ⟨_,_,hfree⟩:=ha
  refine (I.hok b ob e).stay (fun c w' hc q=>(hs.2 c ?_).trans q) (fun _ q=>q) fun _ _ q=>q
  rintro rfl
  rcases hc with rfl | hc
  .rw [hfree] at e;cases e
  .rw [hfree] at hc;cases hc
 rcases hx with hk | hk
 .refine wpAny_storeName_local hk hn (fun h' hn' hs=>?_) hcls
  obtain ⟨oL,_,_,hoL,_⟩:=id hn
  refine h _ ⟨I.ok,I.os,I.bare,⟨fun b o e n hb hx=>?_,fun b o e n hb hx=>?_,I.base.free,fun b o e hx=>?_,I.base.tups,I.base.frzs,I.base.tbls⟩,⟨_,hn',fun j y v' e1 e2 e3=>?_⟩,fun y c e=>?_,I.free,I.freeC,fun p hp=>?_,tracked ⟨oL,hoL,I.free⟩ hs,by simpa using I.len⟩ ⟨_,hs,.inl rfl⟩
  .exact (hs.2 b (Nat.ne_of_lt (Nat.lt_of_lt_of_le (Heap.lt_size e) I.ok.above))).trans (I.base.keep b o e n hb hx)
  .obtain ⟨sl,e1⟩:=I.base.slot b o e n hb hx
   exact ⟨sl,(hs.2 b (Nat.ne_of_lt (Nat.lt_of_lt_of_le (Heap.lt_size e) I.ok.above))).trans e1⟩
  .obtain ⟨o',e1⟩:=I.base.there b o e hx
   exact ⟨o',(hs.2 b (Nat.ne_of_lt (Nat.lt_of_lt_of_le (Heap.lt_size e) I.ok.above))).trans e1⟩
  .by_cases hj:j=i
   .subst hj
    rw [hi] at e1;cases e1
    rw [List.getElem?_set_self hiσ] at e2
    cases e2
    exact ⟨u,r,.inl ⟨hk,by simp⟩⟩
   .rw [List.getElem?_set_ne (Ne.symm hj)] at e2
    obtain ⟨u',r',q⟩:=hl j y v' e1 e2 e3
    refine ⟨u',r',?_⟩
    rcases q with ⟨k,e⟩ | ⟨k,c,e,z⟩
    .refine .inl ⟨k,?_⟩
     have:y≠x:=fun e=>hj (rF hN e1 (e ▸ hi))
     simp [this,e]
    .exact .inr ⟨k,c,e,z.sameBut hs (cne y c e)⟩
  .obtain ⟨w',z⟩:=I.cell y c e
   exact ⟨w',z.sameBut hs (cne y c e)⟩
  .obtain ⟨e,n,ne,nf,d⟩:=I.pin p hp
   exact ⟨(hs.2 p.1 ne).trans e,n,ne,nf,d⟩
 .have hfn:X.fn x=true:=by
   rcases hf with z | z
   .exact z
   .rw [z] at hk;cases hk
  obtain ⟨c,hc⟩:=I.ok.has x (.inl hk)
  obtain ⟨w',z⟩:=I.cell x c hc
  refine wpAny_storeName_cell I.ok.kind hk hc z (fun h' hc' hs=>?_)
  obtain ⟨oc,hoc,hocd⟩:=id z
  refine h { s with heap:=h' } ⟨I.ok,I.os,I.bare,⟨fun b o e n hb hx=>?_,fun b o e n hb hx=>?_,I.base.free,fun b o e hx=>?_,I.base.tups,I.base.frzs,I.base.tbls⟩,⟨m,hn.sameBut hs (Ne.symm (cne x c hc)),fun j y v' e1 e2 e3=>?_⟩,fun y c' e=>?_,I.free,I.freeC,fun p hp=>?_,tracked ⟨oc,hoc,I.freeC x c hc⟩ hs,by simpa using I.len⟩ ⟨c,hs,.inr hc⟩
  .exact (hs.2 b (Nat.ne_of_lt (Nat.lt_of_lt_of_le (Heap.lt_size e) (I.ok.cab x c hfn hc)))).trans (I.base.keep b o e n hb hx)
  .obtain ⟨sl,e1⟩:=I.base.slot b o e n hb hx
   exact ⟨sl,(hs.2 b (Nat.ne_of_lt (Nat.lt_of_lt_of_le (Heap.lt_size e) (I.ok.cab x c hfn hc)))).trans e1⟩
  .obtain ⟨o',e1⟩:=I.base.there b o e hx
   exact ⟨o',(hs.2 b (Nat.ne_of_lt (Nat.lt_of_lt_of_le (Heap.lt_size e) (I.ok.cab x c hfn hc)))).trans e1⟩
  .by_cases hj:j=i
   .subst hj
    rw [hi] at e1;cases e1
    rw [List.getElem?_set_self hiσ] at e2
    cases e2
    exact ⟨u,r,.inr ⟨.inl hk,c,hc,hc'⟩⟩
   .rw [List.getElem?_set_ne (Ne.symm hj)] at e2
    obtain ⟨u',r',q⟩:=hl j y v' e1 e2 e3
    refine ⟨u',r',?_⟩
    rcases q with q | ⟨k,c',e,z'⟩
    .exact .inl q
    .refine .inr ⟨k,c',e,z'.sameBut hs ?_⟩
     rintro rfl
     exact hj (rF hN e1 (I.ok.inj _ _ _ e hc ▸ hi))
  .by_cases hcc:c'=c
   .subst hcc;exact ⟨_,hc'⟩
   .obtain ⟨w2,z2⟩:=I.cell y c' e
    exact ⟨w2,z2.sameBut hs hcc⟩
  .obtain ⟨e,n,ne,nf,d⟩:=I.pin p hp
   refine ⟨(hs.2 p.1 ?_).trans e,n,ne,nf,d⟩
   intro q
   rw [q,hoc] at e
   have q':oc=p.2:=Option.some.inj e
   exact d w' (by rw [<- q'];exact hocd)
theorem nr {M:Model}{A:Around}{E:Value->Shared->Prop}{i:Nat}{x:Str}{v:V}{u:Value}{Q:Unit->Shared->Prop} (I:Inv X pins σ H s) (hN:X.N.Nodup) (hi:X.N[i]?=some x) (hx:Loc X.env.scope x) (r:dz v u)
  (h:∀s',Inv X pins (σ.set i (some v)) H s'->Q () s') (hf:X.fn x=true\/X.env.scope.names.lookup x=some .local:=by first | exact .inl rfl | exact .inr rfl | assumption):wpAny M A (storeName X.env x u) Q E s :=
 uk I hN hi hx r (fun s' I' _=>h s' I') hf
theorem Inv.call' {s':Shared}{ch:List Addr} (I:Inv X pins σ H s) (ho:s'.os=s.os) (u:Un (frs X.stack) ch H H' s.heap s'.heap) (hok:HOk X.prog X.w H' s'.heap) (hg:AllBare s'.gens)
  (hch:∀b∈ch,(b∈X.ex\/X.s₀.heap.objs.size<=b)/\b≠X.env.locals/\(∀x c,X.env.cells.lookup x=some c->c≠b)/\∀p∈X.pn++pins,p.1≠b):Inv X pins σ H' s':=by
 obtain ⟨h',g',d',t',o'⟩:=s'
 have e:o'=s.os:=ho
 subst e
 exact I.call (g':=g') (t':=t') (d':=d') u hok hg hch
end
abbrev XK:=Value->Option Addr->Hp->Prop
abbrev St:=List (Option V)
abbrev VK:=V->Hp->Prop
abbrev TE:=St->Hp->VK->Prop
abbrev TT:=St->Hp->(Bool->Hp->Prop)->Prop
abbrev TA:=St->Hp->(List V->Hp->Prop)->Prop
structure yF where
 nx:St->Hp->Prop
 rt:VK
 bk:St->Hp->Prop:=fun _ _=>False
 ct:St->Hp->Prop:=fun _ _=>False
abbrev TS:=yF->St->Hp->Prop
def EP (X:Cx) (pins:List (Addr×Obj)) (σ:St) (Q:VK) (u:Value) (s':Shared):Prop:=∃v H',Inv X pins σ H' s'/\dz v u/\Q v H'
def TP (X:Cx) (pins:List (Addr×Obj)) (σ:St) (Q:Bool->Hp->Prop) (b:Bool) (s':Shared):Prop:=∃H',Inv X pins σ H' s'/\Q b H'
def AP (X:Cx) (pins:List (Addr×Obj)) (σ:St) (Q:List V->Hp->Prop) (us:List Value) (s':Shared):Prop:=∃vs H',Inv X pins σ H' s'/\bW vs us/\Q vs H'
def SP (X:Cx) (pins:List (Addr×Obj)) (D:yF) (f:Flow) (s':Shared):Prop :=
 match f with
 | .next=>∃σ' H',Inv X pins σ' H' s'/\D.nx σ' H'
 | .brk=>∃σ' H',Inv X pins σ' H' s'/\D.bk σ' H'
 | .cont=>∃σ' H',Inv X pins σ' H' s'/\D.ct σ' H'
 | .ret u=>∃v σ' H',Inv X pins σ' H' s'/\dz v u/\D.rt v H'
def PE (X:Cx) (e:Expr) (t:TE):Prop :=
 ∀(pins:List (Addr×Obj)) (s:Shared) (σ:St) (H:Hp) (Q:VK),Inv X pins σ H s->t σ H Q->wpAny (model X.prog X.w) X.A (eval e X.env) (EP X pins σ Q) X.xe s
def PT (X:Cx) (e:Expr) (t:TT):Prop :=
 ∀(pins:List (Addr×Obj)) (s:Shared) (σ:St) (H:Hp) (Q:Bool->Hp->Prop),Inv X pins σ H s->t σ H Q->wpAny (model X.prog X.w) X.A (isTrue e X.env (eval e X.env)) (TP X pins σ Q) X.xe s
def PW (X:Cx) (e:Expr) (t:TT):Prop :=
 ∀(whole:Sem Value) (pins:List (Addr×Obj)) (s:Shared) (σ:St) (H:Hp) (Q:Bool->Hp->Prop),Inv X pins σ H s->t σ H Q->wpAny (model X.prog X.w) X.A (isTrue e X.env whole) (TP X pins σ Q) X.xe s
theorem PW.pt {X:Cx}{e:Expr}{t:TT} (h:PW X e t):PT X e t:=h _
def PA (X:Cx) (es:List Expr) (t:TA):Prop :=
 ∀(pos:Pos) (pins:List (Addr×Obj)) (s:Shared) (σ:St) (H:Hp) (Q:List V->Hp->Prop),Inv X pins σ H s->t σ H Q->wpAny (model X.prog X.w) X.A (spliced (backTo pos (starEach es X.env))) (AP X pins σ Q) X.xe s
def PS (X:Cx) (st:Stmt) (t:TS):Prop :=
 ∀(pins:List (Addr×Obj)) (s:Shared) (σ:St) (H:Hp) (D:yF),Inv X pins σ H s->t D σ H->wpAny (model X.prog X.w) X.A (exec st X.env) (SP X pins D) X.xe s
def PSs (X:Cx) (st:List Stmt) (t:TS):Prop :=
 ∀(pins:List (Addr×Obj)) (s:Shared) (σ:St) (H:Hp) (D:yF),Inv X pins σ H s->t D σ H->wpAny (model X.prog X.w) X.A (execs st X.env) (SP X pins D) X.xe s
theorem thn {α:Type}{t:Sem α}{Q Q':α->Shared->Prop}{M:Model}{A:Around}{E:Value->Shared->Prop}{s:Shared} (h:wpAny M A t Q E s) (hQ:∀a s,Q a s->Q' a s):wpAny M A t Q' E s:=wpAny_mono h hQ fun _ _ x=>x
section
variable {X:Cx}
def a9 (i:Nat):TE:=fun σ H Q=>∃v,σ[i]?=some (some v)/\Q v H
def tC (v:V):TE:=fun _ H Q=>Q v H
theorem Az {i:Nat}{x:Str}{pos:Pos} (hN:X.N[i]?=some x) (hv:Vis X.env.scope x) (hd:(x == ("__debug__":Str))=false:=by decide) (hcd:(x == ("__classdict__":Str))=false:=by decide):PE X (.Name x pos) (a9 i):=by
 intro pins s σ H Q I h
 obtain ⟨v,e,h⟩:=h
 obtain ⟨m,hn,hl⟩:=I.loc
 obtain ⟨u,r,l⟩:=hl i x v hN e hv
 have fin:EP X pins σ Q u s:=⟨v,H,I,r,h⟩
 rcases l with ⟨hk,hm⟩ | ⟨hk,c,hc,hcell⟩
 .exact wpAny_Name (wpAny_loadName_local I.ok.kind hk hn hm fin) hd
 .rcases hk with hk | hk
  .exact wpAny_Name (wpAny_loadName_cell I.ok.kind hk hc hcell fin) hd
  .exact wpAny_Name (wpAny_loadName_free I.ok.kind hk hc hcell fin hcd) hd
theorem aq {i j pos}:PE X (.Constant (.int i) j pos) (tC (.int i)):=fun _ _ _ H _ I h=>wpAny_Constant_int ⟨.int i,H,I.tok _,⟨_,rfl⟩,h⟩
theorem lZ {b j pos}:PE X (.Constant (.bool b) j pos) (tC (.bl b)):=fun _ _ _ H _ I h=>Constant_bool ⟨.bl b,H,I,rfl,h⟩
theorem jK {j pos}:PE X (.Constant .none j pos) (tC .non):=fun _ _ _ H _ I h=>Constant_none ⟨.non,H,I,rfl,h⟩
theorem AA {x j pos}:PE X (.Constant (.str x) j pos) (tC (.str x)):=fun _ _ _ H _ I h=>Calls.Constant_str ⟨.str x,H,I.tok _,⟨_,rfl⟩,h⟩
def Gl (X:Cx) (x:Str):Prop:=X.env.kindOf x=some .globalImplicit
theorem qs {E:Value->Shared->Prop}{pins:List (Addr×Obj)}{s:Shared}{σ:St}{H:Hp}{x:Str}{u:Value}{pos:Pos}{Q:Value->Shared->Prop} (I:Inv X pins σ H s) (hg:Gl X x) (hm:X.mg x=some u) (h:Q u s)
  (hd:(x == ("__debug__":Str))=false:=by decide):wpAny (model X.prog X.w) X.A (eval (.Name x pos) X.env) Q E s :=
 Calls.Name_function_global I.ok.kind hg (Calls.loadGlobal_global (by rw [I.ok.glob];exact I.mod.glob.keeps I.bk) hm h) hd
theorem gp {E:Value->Shared->Prop}{pins:List (Addr×Obj)}{s:Shared}{σ:St}{H:Hp}{x:Str}{u:Value}{pos:Pos}{Q:Value->Shared->Prop} (I:Inv X pins σ H s) (hg:Gl X x) (hm:X.mg x=none) (hv:bootBuiltins x=some u) (h:Q u s)
  (hn:x≠"__name__":=by decide) (hd:(x == ("__debug__":Str))=false:=by decide):wpAny (model X.prog X.w) X.A (eval (.Name x pos) X.env) Q E s:=by
 obtain ⟨mb,h1,h2⟩:=I.mod.blt
 exact Calls.Name_function_global I.ok.kind hg (Calls.loadGlobal_builtin (by rw [I.ok.glob];exact I.mod.glob.keeps I.bk) hm (by rw [I.ok.blt];exact h1.keeps I.bk) ((h2 x hn).trans hv) h) hd
theorem yG {x:Str}{v:V}{u:Value}{pos:Pos} (hg:Gl X x) (hm:X.mg x=some u) (r:dz v u) (hd:(x == ("__debug__":Str))=false:=by decide):PE X (.Name x pos) (tC v) :=
 fun _ _ _ H _ I h=>qs I hg hm ⟨v,H,I,r,h⟩ hd
theorem ij {x:Str}{v:V}{u:Value}{pos:Pos} (hg:Gl X x) (hm:X.mg x=none) (hv:bootBuiltins x=some u) (r:dz v u) (hn:x≠"__name__":=by decide) (hd:(x == ("__debug__":Str))=false:=by decide):PE X (.Name x pos) (tC v) :=
 fun _ _ _ H _ I h=>gp I hg hm hv ⟨v,H,I,r,h⟩ hn hd
variable {a b:Expr}{ta tb:TE}{pos:Pos}
def tB (t:TE):TT:=fun σ H Q=>t σ H fun x H1=>∃c,x=.bl c/\Q c H1
theorem AB {e:Expr}{t:TE} (h:PE X e t) (he:∀whole,isTrue e X.env whole=(do let v <- whole;standAt e.pos;holding [v] (truthy v)):=by intro _;rfl):PT X e (tB t):=by
 intro pins s σ H Q I hw
 refine isTrue_plain (thn (h pins s σ H _ I hw) fun v s1 ⟨x,H1,I1,r1,q1⟩=>?_) (he _)
 obtain ⟨d,rfl,q⟩:=q1
 cases r1
 exact wpAny_truthy_bool ⟨H1,I1,q⟩
variable {tA tB':TT}{rest:List Expr}
def CB (t u:TT):TT:=fun σ H Q=>t σ H fun c H1=>if c=true then u σ H1 Q else Q false H1
def tOr (t u:TT):TT:=fun σ H Q=>t σ H fun c H1=>if c=true then Q true H1 else u σ H1 Q
def Dy (t:TT):TT:=fun σ H Q=>t σ H fun c H1=>Q (!c) H1
theorem jb (ha:PT X a tA):PW X (.BoolOp .And [a] pos) tA:=by
 intro wh pins s σ H Q I h
 refine isTrue_and (thn (ha pins s σ H Q I h) fun c s1 e=>?_)
 cases c with
 | true=>exact isTrue_and_nil e
 | false=>exact e
theorem ul (ha:PT X a tA):PW X (.BoolOp .Or [a] pos) tA:=by
 intro wh pins s σ H Q I h
 refine isTrue_or (thn (ha pins s σ H Q I h) fun c s1 e=>?_)
 cases c with
 | false=>exact isTrue_or_nil e
 | true=>exact e
theorem mM (ha:PT X a tA) (hb:PW X (.BoolOp .And (b::rest) pos) tB'):PW X (.BoolOp .And (a::b::rest) pos) (CB tA tB'):=by
 intro wh pins s σ H Q I h
 refine isTrue_and (thn (ha pins s σ H _ I h) fun c s1 ⟨H1,I1,q1⟩=>?_)
 cases c with
 | true=>exact hb wh pins s1 σ H1 Q I1 q1
 | false=>exact ⟨H1,I1,q1⟩
theorem wA (ha:PT X a tA) (hb:PW X (.BoolOp .Or (b::rest) pos) tB'):PW X (.BoolOp .Or (a::b::rest) pos) (tOr tA tB'):=by
 intro wh pins s σ H Q I h
 refine isTrue_or (thn (ha pins s σ H _ I h) fun c s1 ⟨H1,I1,q1⟩=>?_)
 cases c with
 | true=>exact ⟨H1,I1,q1⟩
 | false=>exact hb wh pins s1 σ H1 Q I1 q1
theorem jL (ha:PT X a tA):PT X (.UnaryOp .Not a pos) (Dy tA):=by
 intro pins s σ H Q I h
 exact isTrue_not (ha pins s σ H (fun c H1=>Q (!c) H1) I h)
def AC (ta tb:TE):TE:=fun σ H Q=>ta σ H fun x H1=>∃c,x=.bl c/\if c=true then tb σ H1 Q else Q (.bl false) H1
def AD (ta:TE):TE:=fun σ H Q=>ta σ H fun x H1=>∃c,x=.bl c/\Q (.bl (!c)) H1
theorem mO {op}{t:TE} (h:PE X a t):PE X (.BoolOp op [a] pos) t:=fun pins s σ H Q I hw=>BoolOp_one (h pins s σ H Q I hw)
theorem jM (ha:PE X a ta) (hb:PE X (.BoolOp .And (b::rest) pos) tb):PE X (.BoolOp .And (a::b::rest) pos) (AC ta tb):=by
 intro pins s σ H Q I h
 refine BoolOp_and (thn (ha pins s σ H _ I h) fun v s1 ⟨x,H1,I1,r1,q1⟩=>?_)
 obtain ⟨c,rfl,q1⟩:=q1
 cases r1
 refine wpAny_truthy_bool ?_
 cases c with
 | true=>exact hb pins s1 σ H1 Q I1 q1
 | false=>exact ⟨.bl false,H1,I1,rfl,q1⟩
theorem um (ha:PE X a ta):PE X (.UnaryOp .Not a pos) (AD ta):=by
 intro pins s σ H Q I h
 refine UnaryOp_ (thn (ha pins s σ H _ I h) fun v s1 ⟨x,H1,I1,r1,q1⟩=>?_)
 obtain ⟨c,rfl,q1⟩:=q1
 cases r1
 exact not_of (wpAny_truthy_bool ⟨.bl (!c),H1,I1,rfl,q1⟩)
end
def SqL (K:PySem.W.Frag) (H:Hp) (a:Addr) (xs:List V):Prop :=
 Rd H a (.lst xs) \/
  ∃(o:Obj) (its:Array Value) (n:Nat),K.lookup a=some o/\o.cls=.type "list"/\o.dict=none/\o.data=.seq its n/\its.size<=sizeLine/\bW xs its.toList
def SqT (K:PySem.W.Frag) (H:Hp) (a:Addr) (xs:List V):Prop :=
 Rd H a (.tup xs) \/
  ∃(o:Obj) (its:Array Value) (n:Nat),K.lookup a=some o/\o.cls=.type "tuple"/\o.data=.seq its n/\its.size<=sizeLine/\bW xs its.toList
def D8:Value->Option V
 | .none=>some .non
 | .bool b=>some (.bl b)
 | .int i _=>some (.int i)
 | .str x _=>some (.str x)
 | .bytes b _=>some (.byt b)
 | .float b _=>some (.flt b)
 | .ref a=>some (.ref a)
 | .type n=>some (.ty n)
 | _=>none
theorem dz.abs {x:V}{u:Value} (r:dz x u):D8 u=some x:=by
 cases x with
 | non=>cases r;rfl
 | bl _=>cases r;rfl
 | int _=>obtain ⟨t,rfl⟩:=r;rfl
 | str _=>obtain ⟨t,rfl⟩:=r;rfl
 | byt _=>obtain ⟨t,rfl⟩:=r;rfl
 | flt _=>obtain ⟨t,rfl⟩:=r;rfl
 | ref _=>cases r;rfl
 | ty _=>cases r;rfl
theorem dz.inj {x y:V}{u:Value} (r:dz x u) (q:dz y u):x=y:=Option.some.inj (r.abs.symm.trans q.abs)
theorem bW.inj:∀{xs ys:List V}{us:List Value},bW xs us->bW ys us->xs=ys
 | _,_,_,.nil,.nil=>rfl
 | _,_,_,.cons r t,.cons r' t'=>by rw [r.inj r',bW.inj t t']
section
variable {X:Cx}{pins:List (Addr×Obj)}{σ:St}{H:Hp}{s:Shared}{a:Addr}{xs ys:List V}
theorem SqL.of {K:PySem.W.Frag} (h:H a=some (.lst xs)):SqL K H a xs:=.inl (.inl h)
theorem SqT.of {K:PySem.W.Frag} (h:H a=some (.tup xs)):SqT K H a xs:=.inl (.inl h)
theorem Inv.list (I:Inv X pins σ H s) (h:SqL X.K H a xs):∃its:List Value,bW xs its/\PlainL s.heap a its.toArray/\xs.length<=sizeLine:=by
 rcases h with h | ⟨o,its,n,hk,hc,hd,hs,hz,r⟩
 .obtain ⟨z,its,n,r,e⟩:=h.ok I.hok
  exact ⟨its,r,⟨_,n,e,rfl,rfl,rfl⟩,z⟩
 .refine ⟨its.toList,r,⟨o,n,I.kIn a o hk,hc,hd,by simpa using hs⟩,?_⟩
  have e:=r.length
  simp only [Array.length_toList] at e
  omega
theorem Inv.tuple (I:Inv X pins σ H s) (h:SqT X.K H a xs):∃its:List Value,bW xs its/\IsTup s.heap a its.toArray/\xs.length<=sizeLine:=by
 rcases h with h | ⟨o,its,n,hk,hc,hs,hz,r⟩
 .obtain ⟨z,its,r,p⟩:=h.ok I.hok
  exact ⟨its,r,p,z⟩
 .refine ⟨its.toList,r,⟨o,I.kIn a o hk,hc,n,by simpa using hs⟩,?_⟩
  have e:=r.length
  simp only [Array.length_toList] at e
  omega
theorem Inv.list_inj (I:Inv X pins σ H s) (h:SqL X.K H a xs) (h':SqL X.K H a ys):xs=ys:=by
 obtain ⟨its,r,⟨o,n,e,_,_,d⟩,_⟩:=I.list h
 obtain ⟨its',r',⟨o',n',e',_,_,d'⟩,_⟩:=I.list h'
 rw [e] at e';cases e'
 rw [d] at d'
 injection d' with d1 _
 have:its=its':=by simpa using congrArg Array.toList d1
 subst this
 exact r.inj r'
theorem Inv.tuple_inj (I:Inv X pins σ H s) (h:SqT X.K H a xs) (h':SqT X.K H a ys):xs=ys:=by
 obtain ⟨its,r,⟨o,e,_,n,d⟩,_⟩:=I.tuple h
 obtain ⟨its',r',⟨o',e',_,n',d'⟩,_⟩:=I.tuple h'
 rw [e] at e';cases e'
 rw [d] at d'
 injection d' with d1 _
 have:its=its':=by simpa using congrArg Array.toList d1
 subst this
 exact r.inj r'
end
abbrev Cx.wish (X:Cx) (E:Value->Shared->Prop):Cx:={ X with xe:=E }
abbrev Cx.nox (X:Cx):Cx:=X.wish fun _ _=>False
theorem Cx.Ok.wish {X:Cx} (ok:X.Ok) (E:Value->Shared->Prop):(X.wish E).Ok :=
 ⟨ok.mod,ok.kind,ok.glob,ok.blt,ok.above,ok.inj,ok.has,ok.cab,ok.hd,ok.frames,ok.stk,ok.exf,ok.bs,ok.bsz,ok.noex,ok.exfs,ok.funs,ok.frf⟩
theorem Cx.Ok.unwish {X:Cx}{E:Value->Shared->Prop} (ok:(X.wish E).Ok):X.Ok :=
 ⟨ok.mod,ok.kind,ok.glob,ok.blt,ok.above,ok.inj,ok.has,ok.cab,ok.hd,ok.frames,ok.stk,ok.exf,ok.bs,ok.bsz,ok.noex,ok.exfs,ok.funs,ok.frf⟩
section
variable {X:Cx}{pins:List (Addr×Obj)}{σ:St}{H:Hp}{s:Shared}{E:Value->Shared->Prop}
theorem Inv.wish (I:Inv X pins σ H s) (E:Value->Shared->Prop):Inv (X.wish E) pins σ H s:=⟨I.ok.wish E,I.os,I.bare,I.base,I.loc,I.cell,I.free,I.freeC,I.pin,I.hok,I.len⟩
theorem Inv.unwish (I:Inv (X.wish E) pins σ H s):Inv X pins σ H s:=⟨I.ok.unwish,I.os,I.bare,I.base,I.loc,I.cell,I.free,I.freeC,I.pin,I.hok,I.len⟩
theorem SP.unwish {D:yF}{f:Flow}{s':Shared} (h:SP (X.wish E) pins D f s'):SP X pins D f s':=by
 cases f with
 | next=>obtain ⟨σ',H',I,q⟩:=h;exact ⟨σ',H',I.unwish,q⟩
 | brk=>obtain ⟨σ',H',I,q⟩:=h;exact ⟨σ',H',I.unwish,q⟩
 | cont=>obtain ⟨σ',H',I,q⟩:=h;exact ⟨σ',H',I.unwish,q⟩
 | ret u=>obtain ⟨v,σ',H',I,r,q⟩:=h;exact ⟨v,σ',H',I.unwish,r,q⟩
theorem PSs.nox {st:List Stmt}{t:TS} (h:PSs X.nox st t):PSs X st t:=fun pins s σ H D I hw =>
 wpAny_mono (h pins s σ H D (I.wish _) hw) (fun _ _ q=>q.unwish) fun _ _ z=>False.elim z
end
section
variable {X:Cx}{st:Stmt}{rest:List Stmt}{t u:TS}{e:Expr}{te:TE}{pos:Pos}
def AE:TS:=fun D σ H=>D.nx σ H
def AF (t u:TS):TS:=fun D σ H=>t { D with nx:=u D } σ H
theorem bJ:PSs X [] AE:=fun _ _ σ H _ I h=>wpAny_execs_nil ⟨σ,H,I,h⟩
theorem ah (h1:PS X st t) (h2:PSs X rest u):PSs X (st::rest) (AF t u):=by
 intro pins s σ H D I h
 refine wpAny_execs_cons (thn (h1 pins s σ H { D with nx:=u D } I h) fun f s1 q=>?_)
 cases f with
 | next =>
  obtain ⟨σ',H',I',q⟩:=q
  exact h2 pins s1 σ' H' D I' q
 | ret v=>exact q
 | brk=>exact q
 | cont=>exact q
theorem ax (h1:PS X st t):PSs X [st] t:=by
 intro pins s σ H D I h
 refine wpAny_execs_cons (thn (h1 pins s σ H D I h) fun f s1 q=>?_)
 cases f with
 | next=>exact wpAny_execs_nil q
 | ret v=>exact q
 | brk=>exact q
 | cont=>exact q
theorem Inv.quiet {pins:List (Addr×Obj)}{σ:St}{H:Hp}{s:Shared} (I:Inv X pins σ H s):interactive X.env=false:=by simp [interactive,I.ok.kind]
def AG (te:TE):TS:=fun D σ H=>te σ H fun _ H1=>D.nx σ H1
theorem eX (he:PE X e te) (hs:swapsWith e none pos.line X.env=pure false:=by rfl):PS X (.Expr e pos) (AG te):=by
 intro pins s σ H D I h
 exact wpAny_Expr_any (thn (he pins s σ H _ I h) fun v s1 ⟨x,H1,I1,r1,q1⟩=>⟨σ,H1,I1,q1⟩) I.quiet hs
def Dz (te:TE):TS:=fun D σ H=>te σ H D.rt
theorem aV (he:PE X e te):PS X (.Return (some e) pos) (Dz te):=by
 intro pins s σ H D I h
 exact wpAny_Return_some (thn (he pins s σ H _ I h) fun v s1 ⟨x,H1,I1,r1,q1⟩=>⟨x,σ,H1,I1,r1,q1⟩)
def DA (c:TT) (t u:TS):TS:=fun D σ H=>c σ H fun b H1=>if b=true then t D σ H1 else u D σ H1
theorem dP {c:Expr}{a b:List Stmt}{tc:TT} (hc:PT X c tc) (ha:PSs X a t) (hb:PSs X b u):PS X (.If c a b pos) (DA tc t u):=by
 intro pins s σ H D I h
 refine wpAny_If (thn (hc pins s σ H _ I h) fun d s1 ⟨H1,I1,q1⟩=>?_)
 cases d with
 | true=>exact ha pins s1 σ H1 D I1 q1
 | false=>exact hb pins s1 σ H1 D I1 q1
def xY:TS:=fun _ _ _=>False
theorem rG:PS X st xY:=fun _ _ _ _ _ _ h=>h.elim
end
abbrev TG:=V->St->Hp->(St->Hp->Prop)->Prop
abbrev TGs:=List V->St->Hp->(St->Hp->Prop)->Prop
def PG (X:Cx) (target:Expr) (t:TG):Prop :=
 ∀(pins:List (Addr×Obj)) (s:Shared) (σ:St) (H:Hp) (v:V) (u:Value) (Q:St->Hp->Prop),Inv X pins σ H s->dz v u->t v σ H Q ->
  wpAny (model X.prog X.w) X.A (assign target X.env u) (fun _ s'=>∃σ' H',Inv X pins σ' H' s'/\Q σ' H') X.xe s
def PGs (X:Cx) (ts:List Expr) (t:TGs):Prop :=
 ∀(pins:List (Addr×Obj)) (s:Shared) (σ:St) (H:Hp) (vs:List V) (us:List Value) (Q:St->Hp->Prop),Inv X pins σ H s->bW vs us->t vs σ H Q ->
  wpAny (model X.prog X.w) X.A (assignInOrder ((assignEach ts X.env).map (·.2)) us) (fun _ s'=>∃σ' H',Inv X pins σ' H' s'/\Q σ' H') X.xe s
abbrev CC:=V->V->V->Hp->(Hp->Prop)->Prop
def DB (X:Cx) (t:CC):Prop :=
 ∀(pins:List (Addr×Obj)) (s:Shared) (σ:St) (H:Hp) (o i v:V) (ov iv u:Value) (Q:Hp->Prop),Inv X pins σ H s->dz o ov->dz i iv->dz v u->t o i v H Q ->
  wpAny (model X.prog X.w) X.A (setItem ov iv u) (fun _ s'=>∃H',Inv X pins σ H' s'/\Q H') X.xe s
section
variable {X:Cx}{pos:Pos}
def bY (i:Nat):TG:=fun v σ H Q=>Q (σ.set i (some v)) H
theorem aE {i:Nat}{x:Str} (hN:X.N.Nodup) (hi:X.N[i]?=some x) (hx:Loc X.env.scope x) (hf:X.fn x=true\/X.env.scope.names.lookup x=some .local:=by first | exact .inl rfl | exact .inr rfl | assumption):PG X (.Name x pos) (bY i):=by
 intro pins s σ H v u Q I r h
 exact wpAny_assign_Name (nr I hN hi hx r (fun s' I'=>⟨_,H,I',h⟩) hf)
def CD:TGs:=fun vs σ H Q=>vs=[]/\Q σ H
def wB (t:TG) (u:TGs):TGs:=fun vs σ H Q=>∃v r,vs=v::r/\t v σ H fun σ' H'=>u r σ' H' Q
theorem kA:PGs X [] CD:=by
 intro pins s σ H vs us Q I r h
 obtain ⟨e,h⟩:=h
 subst e
 cases r
 exact assignInOrder_nil ⟨σ,H,I,h⟩
theorem dA {e:Expr}{es:List Expr}{t:TG}{u:TGs} (h1:PG X e t) (h2:PGs X es u)
  (hs:(assignEach (e::es) X.env).map (·.2)=assign e X.env::(assignEach es X.env).map (·.2):=by rfl):PGs X (e::es) (wB t u):=by
 intro pins s σ H vs us Q I r h
 obtain ⟨v,vr,e1,h⟩:=h
 subst e1
 cases r with
 | cons r rr =>
  rw [hs]
  refine assignInOrder_cons (thn (h1 pins s σ H _ _ _ I r h) fun _ s1 ⟨σ1,H1,I1,q1⟩=>?_)
  exact h2 pins s1 σ1 H1 _ _ Q I1 rr q1
def D9 (K:PySem.W.Frag) (n:Nat) (t:TGs):TG:=fun v σ H Q=>∃a xs,v=.ref a/\SqT K H a xs/\xs.length=n/\t xs σ H Q
theorem AH {es:List Expr}{k:Nat}{t:TGs}{n:Nat} (hc:X.calm=true) (h:PGs X es t)
  (hn:(assignEach es X.env).length=n:=by rfl) (hst:(assignEach es X.env).findIdx? (·.1)=none:=by rfl):PG X (.Tuple es k pos) (D9 X.K n t):=by
 intro pins s σ H v u Q I r hw
 obtain ⟨a,xs,e1,hq,hl,hw⟩:=hw
 subst e1
 cases r
 obtain ⟨its,rv,ht,hz⟩:=I.tuple hq
 refine assign_Tuple_tuple (I.ok.hd hc) ht (by simp [hn,<- hl,rv.length]) hst fun h' hx=>?_
 have I1:Inv X pins σ H { s with heap:=h' }:=I.kept (t':=s.toks) fun b o e=>hx b o (Nat.ne_of_lt (Heap.lt_size e)) e
 exact h pins _ σ H xs _ Q I1 (by simpa using rv) hw
def Ci (to ti:TE) (t:CC):TG:=fun v σ H Q=>to σ H fun o H1=>ti σ H1 fun i H2=>t o i v H2 fun H3=>Q σ H3
theorem oI {o i:Expr}{to ti:TE}{t:CC} (ho:PE X o to) (hi:PE X i ti) (hs:DB X t)
  (ha:∀v,assign (.Subscript o i pos) X.env v=(do
   let ov <- holding [v] (eval o X.env)
   let iv <- holding [v,ov] (eval i X.env)
   standAt pos
   holding [v,ov,iv] (setItem ov iv v)
   release [v,ov,iv] []):=by intro _;rfl):PG X (.Subscript o i pos) (Ci to ti t):=by
 intro pins s σ H v u Q I r h
 rw [ha]
 refine wpAny_bind (wpAny_holding (thn (ho pins s σ H _ I h) fun ov s1 ⟨x,H1,I1,r1,q1⟩=>?_))
 refine wpAny_bind (wpAny_holding (thn (hi pins s1 σ H1 _ I1 q1) fun iv s2 ⟨y,H2,I2,r2,q2⟩=>?_))
 refine wpAny_bind (wpAny_standAt (wpAny_bind (wpAny_holding (thn (hs pins s2 σ H2 x y v ov iv u _ I2 r1 r2 r q2) fun _ s3 ⟨H3,I3,q3⟩=>?_))))
 exact wpAny_release ⟨σ,H3,I3,q3⟩
def wu (te:TE) (g:TG):TS:=fun D σ H=>te σ H fun x H1=>g x σ H1 D.nx
theorem rH {tg e:Expr}{te:TE}{g:TG} (he:PE X e te) (hg:PG X tg g) (hs:swapsWithSole [tg] e pos.line X.env=pure false:=by rfl) (hw:swappedStores [tg] e X.env=pure none:=by rfl)
  (h1:(assignEach [tg] X.env).map (·.2)=[assign tg X.env]:=by rfl):PS X (.Assign [tg] e pos) (wu te g):=by
 intro pins s σ H D I h
 refine wpAny_Assign_stores (thn (he pins s σ H _ I h) fun v s1 ⟨x,H1,I1,r1,q1⟩=>?_) hs hw
 rw [h1]
 exact thn (hg pins s1 σ H1 x v _ I1 r1 q1) fun _ s2 q=>q
theorem aM {i:Nat}{x:Str}{e:Expr}{te:TE}{pos':Pos} (hN:X.N.Nodup) (hi:X.N[i]?=some x) (hx:Loc X.env.scope x) (he:PE X e te) (hs:swapsWith e (some (.Name x pos')) pos.line X.env=pure false:=by rfl) (hf:X.fn x=true\/X.env.scope.names.lookup x=some .local:=by first | exact .inl rfl | exact .inr rfl | assumption) :
  PS X (.Assign [.Name x pos'] e pos) (wu te (bY i)):=by
 intro pins s σ H D I h
 refine wpAny_Assign_Name (thn (he pins s σ H _ I h) fun v s1 ⟨y,H1,I1,r1,q1⟩=>?_) hs
 exact nr I1 hN hi hx r1 (fun s2 I2=>⟨_,H1,I2,q1⟩) hf
end
section
variable {X:Cx}{pos:Pos}
def xZ (c:TT) (tb:TS):TS:=fun D σ H=>∃W:Nat->St->Hp->Prop,(∃m,W m σ H)/\∀m σ H,W m σ H ->
 c σ H fun b H1=>if b=true then ∃N:St->Hp->Prop,(∀σ' H',N σ' H'->∃m',m' < m/\W m' σ' H')/\tb { D with nx:=N,ct:=N,bk:=D.nx } σ H1 else D.nx σ H1
theorem rJ {c:Expr}{body:List Stmt}{tc:TT}{tb:TS} (hp:PassesOwn (model X.prog X.w) X.A X.env X.xe) (hc:PT X c tc) (hb:PSs X body tb):PS X (.While c body [] pos) (xZ tc tb):=by
 intro pins s σ H D I h
 obtain ⟨W,⟨m0,w0⟩,turn⟩:=h
 refine wpAny_While (codeAny_whileLoop (fun n s'=>∃σ' H',Inv X pins σ' H' s'/\W n σ' H') ?_ m0 ⟨σ,H,I,w0⟩)
 rintro n s1 ⟨σ1,H1,I1,w1⟩
 refine wpAny_passesOwn hp (thn (hc pins s1 σ1 H1 _ I1 (turn n σ1 H1 w1)) fun b s2 ⟨H2,I2,q2⟩=>?_)
 cases b with
 | true =>
  obtain ⟨N,hN,q2⟩:=q2
  rw [if_pos rfl]
  refine wpAny_passesOwn hp (thn (hb pins s2 σ1 H2 _ I2 q2) fun f s3 q3=>?_)
  cases f with
  | next =>
   obtain ⟨σ3,H3,I3,n3⟩:=q3
   obtain ⟨m',hm,w3⟩:=hN σ3 H3 n3
   exact ⟨m',hm,σ3,H3,I3,w3⟩
  | cont =>
   obtain ⟨σ3,H3,I3,n3⟩:=q3
   obtain ⟨m',hm,w3⟩:=hN σ3 H3 n3
   exact ⟨m',hm,σ3,H3,I3,w3⟩
  | brk=>exact q3
  | ret v=>exact q3
 | false =>
  rw [if_neg Bool.false_ne_true]
  exact wpAny_execs_nil ⟨σ1,H2,I2,q2⟩
end
structure It where
 go:Nat->Hp->Prop
 yld:Nat->Hp->V->Hp->Prop
 stop:Nat->Hp->Prop
def qt (X:Cx) (pins:List (Addr×Obj)) (H:Hp) (b:Addr):Prop :=
 H b=none/\b≠X.env.locals/\b∉X.fs/\(b∈X.ex\/X.s₀.heap.objs.size<=b)/\(∀x c,X.env.cells.lookup x=some c->c≠b)/\∀p∈X.pn++pins,p.1≠b
theorem Inv.fpOk {X:Cx}{pins:List (Addr×Obj)}{σ:St}{H H':Hp}{s:Shared}{b:Addr} (I:Inv X pins σ H s) (hb:s.heap.objs.size<=b) (hn:H' b=none):qt X pins H' b:=by
 refine ⟨hn,Nat.ne_of_gt (Nat.lt_of_lt_of_le I.lt hb),I.nofs hb,.inr (Nat.le_trans I.sz hb),fun x c e z=>?_,fun p hp z=>?_⟩
 .obtain ⟨v,q⟩:=I.cell x c e
  exact absurd (Nat.lt_of_lt_of_le q.lt (by rw [z];exact hb)) (Nat.lt_irrefl _)
 .exact absurd (Nat.lt_of_lt_of_le (Heap.lt_size (I.pin p hp).1) (by rw [z];exact hb)) (Nat.lt_irrefl _)
structure Aj (P:Program) (w:World) (K:PySem.W.Frag) (tg:Expr) (J:It) (fp:List Addr) (it:Addr) (tn:Nat->Heap->Prop):Prop where
 mem:it∈fp
 obj:∀i h,tn i h->∀b∈fp,∃o,h.get? b=some o/\∀v,o.data≠.cell v
 keep:∀i h h',tn i h->(∀b∈fp,∀o,h.get? b=some o->h'.get? b=some o)->tn i h'
 item:∀(X:Cx),X.prog=P->X.w=w->X.K=K->X.calm=true->∀(i:Nat) (pins:List (Addr×Obj)) (s:Shared) (σ:St) (H:Hp) (E:Value->Shared->Prop),Inv X pins σ H s->(∀b∈fp,qt X pins H b)->tn i s.heap->J.go i H ->
  wpAny (model P w) X.A (pyNext (.ref it)) (fun r s1=>∃u,r=some u /\
   wpAny (model P w) X.A (letOwnedTupleGo tg (.ref it) u) (fun _ s2=>∃x H',Inv X pins σ H' s2/\dz x u/\J.yld i H x H'/\tn (i + 1) s2.heap/\∀b∈fp,H' b=none) E s1) E s
 done:∀(X:Cx),X.prog=P->X.w=w->X.K=K->X.calm=true->∀(i:Nat) (pins:List (Addr×Obj)) (s:Shared) (σ:St) (H:Hp) (E:Value->Shared->Prop),Inv X pins σ H s->(∀b∈fp,qt X pins H b)->tn i s.heap->J.stop i H ->
  wpAny (model P w) X.A (pyNext (.ref it)) (fun r s1=>r=none/\Inv X pins σ H s1) E s
 self:∀(A:Around) (i:Nat) (s:Shared) (Q:Value->Shared->Prop) (E:Value->Shared->Prop),tn i s.heap->Q (.ref it) s->wpAny (model P w) A (pyIter (.ref it)) Q E s
abbrev TI:=St->Hp->(It->Hp->Prop)->Prop
def PIE (X:Cx) (pins:List (Addr×Obj)) (σ:St) (tg:Expr) (R:It->Hp->Prop) (itv:Value) (s2:Shared):Prop :=
 ∃(it:Addr) (fp:List Addr) (tn:Nat->Heap->Prop) (J:It) (H':Hp),itv=.ref it/\Inv X pins σ H' s2/\Aj X.prog X.w X.K tg J fp it tn/\tn 0 s2.heap/\(∀b∈fp,qt X pins H' b)/\R J H'
def PI (X:Cx) (tg iter:Expr) (wi:TI):Prop :=
 ∀(pins:List (Addr×Obj)) (s:Shared) (σ:St) (H:Hp) (R:It->Hp->Prop),Inv X pins σ H s->wi σ H R ->
  wpAny (model X.prog X.w) X.A (eval iter X.env) (fun v s1=>wpAny (model X.prog X.w) X.A (pyIter v) (PIE X pins σ tg R) X.xe s1) X.xe s
theorem yH {M:Model}{A:Around}{E:Value->Shared->Prop}{s:Shared}{tg:Expr}{it:Addr}{u:Value}{o:Obj}{n:String}{vs:Array Value}{Q:Unit->Shared->Prop} (ho:s.heap.get? it=some o) (hc:o.cls=.type n) (hd:o.data=.fields vs)
    (hn:["enumerate","zip","dict_itemiterator","dict_reverseitemiterator","odict_iterator","itertools.zip_longest","itertools.pairwise"].contains n=false) (hQ:Q () s):wpAny M A (letOwnedTupleGo tg (.ref it) u) Q E s:=by
  unfold letOwnedTupleGo
  cases tg <;> first
    | exact wpAny_pure hQ
    | (cases u <;> first
        | exact wpAny_pure hQ
        | (refine wpAny_bind (wpAny_load ho ?_)
           rw [hc,hd]
           show wpAny M A (if (["enumerate","zip","dict_itemiterator","dict_reverseitemiterator","odict_iterator","itertools.zip_longest","itertools.pairwise"].contains n && vs[0]? == some (rawInt _))=true then _ else _) Q E s
           rw [if_neg (by intro h;rw [hn,Bool.false_and] at h;cases h)]
           exact wpAny_pure hQ))
def Itl (K:PySem.W.Frag) (a:Addr):It :=
 ⟨fun i H=>∃xs x,SqL K H a xs/\xs[i]?=some x,fun i H x H'=>H'=H/\∀xs,SqL K H a xs->xs[i]?=some x,fun i H=>∃xs,SqL K H a xs/\xs.length<=i⟩
def Itt (K:PySem.W.Frag) (a:Addr):It :=
 ⟨fun i H=>∃xs x,SqT K H a xs/\xs[i]?=some x,fun i H x H'=>H'=H/\∀xs,SqT K H a xs->xs[i]?=some x,fun i H=>∃xs,SqT K H a xs/\xs.length<=i⟩
def Itr (lo:Int) (n:Nat):It:=⟨fun i _=>i < n,fun i H x H'=>H'=H/\x=.int (lo + i),fun i _=>n<=i⟩
theorem uo {P:Program}{w:World}{K:PySem.W.Frag}{tg:Expr} (a it:Addr):Aj P w K tg (Itl K a) [it] it (fun i h=>h.IsListIter it a i) where
 mem:=by simp
 obj:=fun i h st b hb=>by
  have e:b=it:=by simpa using hb
  subst e
  obtain ⟨o,e,c,d⟩:=st
  exact ⟨o,e,fun v z=>by rw [d] at z;cases z⟩
 keep:=fun i h h' st k=>st.at fun o e=>k it (by simp) o e
 item:=by
  intro X hP hw hK hc i pins s σ H E I hf st hg
  subst hP hw hK
  obtain ⟨xs,x,hq,hx⟩:=hg
  obtain ⟨its,rv,p,hz⟩:=I.list hq
  obtain ⟨u,hu,ru⟩:=rv.get hx
  obtain ⟨f0,f1,f2,f3,f4,f5⟩:=hf it (by simp)
  refine wpAny_pyNext_list_item st p.isList (x:=u) (by simpa using hu) fun h' st' sb=>?_
  have I1:Inv X pins σ H { s with heap:=h' }:=I.turned (t':=s.toks) (fun b o hb e=>(sb.2 b hb).trans e) f0 f1 f3 f4 f5
  obtain ⟨o,e,c,d⟩:=id st'
  exact ⟨u,rfl,yH (s:={ s with heap:=h' }) e c d (by decide) ⟨x,H,I1,ru,⟨rfl,fun ys hy=>by rw [I.list_inj hy hq];exact hx⟩,st',fun b hb=>(hf b hb).1⟩⟩
 done:=by
  intro X hP hw hK hc i pins s σ H E I hf st hg
  subst hP hw hK
  obtain ⟨xs,hq,hx⟩:=hg
  obtain ⟨its,rv,p,hz⟩:=I.list hq
  obtain ⟨f0,f1,f2,f3,f4,f5⟩:=hf it (by simp)
  have hl:=rv.length
  exact wpAny_pyNext_list_end (I.ok.hd hc) st p.isList (by simp;omega) fun h' eb=>⟨rfl,I.turned (t':=s.toks) (fun b o hb e=>eb b o hb e) f0 f1 f3 f4 f5⟩
 self:=fun _ _ _ _ _ st h=>wpAny_pyIter_listiter st h
theorem sO {P:Program}{w:World}{K:PySem.W.Frag}{tg:Expr} (a it:Addr):Aj P w K tg (Itt K a) [it] it (fun i h=>h.IsTupleIter it a i) where
 mem:=by simp
 obj:=fun i h st b hb=>by
  have e:b=it:=by simpa using hb
  subst e
  obtain ⟨o,e,c,d⟩:=st
  exact ⟨o,e,fun v z=>by rw [d] at z;cases z⟩
 keep:=fun i h h' st k=>st.at fun o e=>k it (by simp) o e
 item:=by
  intro X hP hw hK hc i pins s σ H E I hf st hg
  subst hP hw hK
  obtain ⟨xs,x,hq,hx⟩:=hg
  obtain ⟨its,rv,p,hz⟩:=I.tuple hq
  obtain ⟨u,hu,ru⟩:=rv.get hx
  obtain ⟨f0,f1,f2,f3,f4,f5⟩:=hf it (by simp)
  refine wpAny_pyNext_tuple_item st (show s.heap.IsTuple a its.toArray from p) (x:=u) (by simpa using hu) fun h' st' sb=>?_
  have I1:Inv X pins σ H { s with heap:=h' }:=I.turned (t':=s.toks) (fun b o hb e=>(sb.2 b hb).trans e) f0 f1 f3 f4 f5
  obtain ⟨o,e,c,d⟩:=id st'
  exact ⟨u,rfl,yH (s:={ s with heap:=h' }) e c d (by decide) ⟨x,H,I1,ru,⟨rfl,fun ys hy=>by rw [I.tuple_inj hy hq];exact hx⟩,st',fun b hb=>(hf b hb).1⟩⟩
 done:=by
  intro X hP hw hK hc i pins s σ H E I hf st hg
  subst hP hw hK
  obtain ⟨xs,hq,hx⟩:=hg
  obtain ⟨its,rv,p,hz⟩:=I.tuple hq
  obtain ⟨f0,f1,f2,f3,f4,f5⟩:=hf it (by simp)
  have hl:=rv.length
  exact wpAny_pyNext_tuple_end (I.ok.hd hc) st (show s.heap.IsTuple a its.toArray from p) (by simp;omega) fun h' eb=>⟨rfl,I.turned (t':=s.toks) (fun b o hb e=>eb b o hb e) f0 f1 f3 f4 f5⟩
 self:=fun _ _ _ _ _ st h=>wpAny_pyIter_tupleiter st h
theorem sP {P:Program}{w:World}{K:PySem.W.Frag}{tg:Expr} (it:Addr) (lo:Int) (n:Nat):Aj P w K tg (Itr lo n) [it] it (fun i h=>IsRangeIter h it (lo + (i:Nat) * 1) ((n:Int) - (i:Nat)) 1) where
 mem:=by simp
 obj:=fun i h st b hb=>by
  have e:b=it:=by simpa using hb
  subst e
  exact ⟨_,st,fun v z=>by
   have z':Data.fields _=Data.cell v:=z
   cases z'⟩
 keep:=fun i h h' st k=>k it (by simp) _ st
 item:=by
  intro X hP hw hK hc i pins s σ H E I hf st hg
  subst hP hw hK
  obtain ⟨f0,f1,f2,f3,f4,f5⟩:=hf it (by simp)
  have W:=Walks.range (prog:=X.prog) (w:=X.w) (I.ok.hd hc) it lo 1 n
  refine W.item i s _ _ hg st fun v h' tk hv st' kk=>?_
  obtain ⟨t,rfl⟩:=hv
  have I1:Inv X pins σ H { s with heap:=h',toks:=tk }:=I.turned (fun b o hb e=>kk b o (by simpa using hb) e) f0 f1 f3 f4 f5
  refine ⟨_,rfl,yH (s:={ s with heap:=h',toks:=tk }) (n:="range_iterator") st' rfl rfl (by decide) ⟨.int (lo + i),H,I1,⟨t,?_⟩,⟨rfl,rfl⟩,st',fun b hb=>(hf b hb).1⟩⟩
  rw [Int.mul_one]
 done:=by
  intro X hP hw hK hc i pins s σ H E I hf st hg
  subst hP hw hK
  obtain ⟨f0,f1,f2,f3,f4,f5⟩:=hf it (by simp)
  exact wpAny_pyNext_range_end (I.ok.hd hc) st (by have:n<=i:=hg;omega) fun h' eb=>⟨rfl,I.turned (t':=s.toks) (fun b o hb e=>eb b o hb e) f0 f1 f3 f4 f5⟩
 self:=fun _ _ _ _ _ st h=>wpAny_pyIter_rangeiter st h
section
variable {X:Cx}{tg:Expr}
theorem wC {pins:List (Addr×Obj)}{σ:St}{H:Hp}{s:Shared}{R:It->Hp->Prop}{E:Value->Shared->Prop}{lo hi:Int}{t u v:Tok}{tk:Nat} (I:Inv X pins σ H s) (h1:-(2 ^ 62)<=lo) (h2:lo < 2 ^ 62) (h3:-(2 ^ 62)<=hi) (h4:hi < 2 ^ 62)
  (q:R (Itr lo (hi - lo).toNat) H):wpAny (model X.prog X.w) X.A (pyIter (.ref s.heap.objs.size)) (PIE X pins σ tg R) E { s with heap:=s.heap.push { cls:=.type "range",data:=.fields #[.int lo t,.int hi u,.int 1 v] },toks:=tk }:=by
 refine wpAny_pyIter_range (IsRange.new ..) (small_one h1 h2 h3 h4) ?_
 have I1:Inv X pins σ H { s with heap:=s.heap.push { cls:=.type "range",data:=.fields #[.int lo t,.int hi u,.int 1 v] },toks:=tk }:=I.kept fun b o e=>Heap.get?_push_of_some _ e
 refine ⟨(s.heap.push { cls:=.type "range",data:=.fields #[.int lo t,.int hi u,.int 1 v] }).objs.size,[(s.heap.push { cls:=.type "range",data:=.fields #[.int lo t,.int hi u,.int 1 v] }).objs.size],_,_,H,rfl,
  I1.kept (t':=tk) fun b o e=>Heap.get?_push_of_some _ e,sP _ lo (hi - lo).toNat,?_,fun b hb=>?_,q⟩
 .have e1:lo + ((0:Nat):Int) * 1=lo:=by simp
  have e2:(((hi - lo).toNat:Nat):Int) - ((0:Nat):Int)=Builtin.Range.rangeSize lo hi 1:=by rw [rangeSize_one];split <;> omega
  show IsRangeIter _ _ (lo + ((0:Nat):Int) * 1) ((((hi - lo).toNat:Nat):Int) - ((0:Nat):Int)) 1
  rw [e1,e2]
  exact Heap.get?_push_size _ rfl
 .have e:b=(s.heap.push { cls:=.type "range",data:=.fields #[.int lo t,.int hi u,.int 1 v] }).objs.size:=by simpa using hb
  subst e
  exact I1.fpOk (Nat.le_refl _) (I1.hok.fresh (Nat.le_refl _))
def up (ta:TA):TI:=fun σ H R=>ta σ H fun vs H1=>∃j:Int,vs=[.int j]/\-(2 ^ 62)<=j/\j < 2 ^ 62/\R (Itr 0 j.toNat) H1
theorem cw {a:Expr}{ta:TA}{p pos:Pos} (hg:Gl X "range") (hm:X.mg "range"=none) (ha:PA X [a] ta) (hs:starEach [a] X.env=[(false,eval a X.env)]:=by rfl):PI X tg (.Call (.Name "range" p) [a] [] pos) (up ta):=by
 intro pins s σ H R I h
 refine Call_ (gp I hg hm boot_range (PyProof.Rows.callWith_type1 (thn (ha pos pins s σ H _ I h) fun us s1 ⟨vs,H1,I1,r1,q1⟩=>?_) hs rfl))
 obtain ⟨j,e,q1,q2,q⟩:=q1
 subst e
 cases r1 with
 | cons r rr =>
  cases rr
  obtain ⟨t,rfl⟩:=r
  exact call_range_1 (wC I1 (by omega) (by omega) q1 q2 (by simpa using q))
def DC (wi:TI) (g:TG) (tb:TS):TS:=fun D σ H=>wi σ H fun J H1=>∃W:Nat->Nat->St->Hp->Prop,(∃m,W 0 m σ H1)/\∀i m σ H,W i m σ H ->
 (J.stop i H/\D.nx σ H)\/(J.go i H/\∃N:St->Hp->Prop,(∀σ' H',N σ' H'->∃m',m' < m/\W (i + 1) m' σ' H')/\∀x H',J.yld i H x H'->g x σ H' fun σ2 H2=>tb { D with nx:=N,ct:=N,bk:=D.nx } σ2 H2)
def kB (fp:List Addr) (h:Heap):List (Addr×Obj):=fp.filterMap fun b=>(h.get? b).map fun o=>(b,o)
theorem de {fp:List Addr}{h:Heap}{b:Addr}{o:Obj} (hb:b∈fp) (e:h.get? b=some o):(b,o)∈kB fp h:=List.mem_filterMap.mpr ⟨b,hb,by rw [e];rfl⟩
theorem uq {fp:List Addr}{h:Heap}{p:Addr×Obj} (hp:p∈kB fp h):p.1∈fp/\h.get? p.1=some p.2:=by
 obtain ⟨b,hb,e⟩:=List.mem_filterMap.mp hp
 cases q:h.get? b with
 | none=>rw [q] at e;cases e
 | some o =>
  rw [q] at e
  have e':(b,o)=p:=Option.some.inj e
  subst e'
  exact ⟨hb,q⟩
theorem Inv.pinned {pins:List (Addr×Obj)}{σ:St}{H:Hp}{s:Shared}{fp:List Addr} (I:Inv X pins σ H s) (hf:∀b∈fp,qt X pins H b) (ho:∀b∈fp,∃o,s.heap.get? b=some o/\∀v,o.data≠.cell v):Inv X (pins++kB fp s.heap) σ H s :=
 I.pins_of fun p hp=>(List.mem_append.mp hp).elim (fun z=>I.pin p (List.mem_append_right _ z)) fun z=>by
  obtain ⟨hb,e⟩:=uq z
  obtain ⟨f0,f1,f2,_⟩:=hf p.1 hb
  obtain ⟨o,e',d⟩:=ho p.1 hb
  rw [e] at e';cases e'
  exact ⟨e,f0,f1,f2,d⟩
theorem Inv.unpinned {pins pl:List (Addr×Obj)}{σ:St}{H:Hp}{s:Shared} (I:Inv X (pins++pl) σ H s):Inv X pins σ H s:=I.pins_of fun p hp=>I.pin p (List.mem_append_right _ (List.mem_append_left _ hp))
theorem dM {iter:Expr}{body:List Stmt}{wi:TI}{g:TG}{tb:TS}{pos:Pos} (hp:PassesOwn (model X.prog X.w) X.A X.env X.xe) (hc:X.calm=true) (hi:PI X tg iter wi) (hg:PG X tg g) (hb:PSs X body tb)
  (hs:∀x,foldedSetIterable iter X.env x=pure x:=by intro _;rfl):PS X (.For tg iter body [] pos) (DC wi g tb):=by
 intro pins s σ H D I h
 refine wpAny_For (thn (hi pins s σ H _ I h) fun v s1 h1=>thn h1 fun itv s2 h2=>?_) hs
 obtain ⟨it,fp,tn,J,H2,e,I2,T,st2,f2,W,⟨m0,w0⟩,turn⟩:=h2
 subst e
 -- what stays true of the iterator's objects through the loop
 have stat:∀{H':Hp},(∀b∈fp,H' b=none)->∀b∈fp,qt X pins H' b:=fun hn b hb=>⟨hn b hb,(f2 b hb).2⟩
 refine codeAny_forLoop_any (fun n s'=>∃i σ' H',Inv X pins σ' H' s'/\tn i s'.heap/\(∀b∈fp,H' b=none)/\W i n σ' H') ?_ m0 ⟨0,σ,H2,I2,st2,fun b hb=>(f2 b hb).1,w0⟩
 rintro n s3 ⟨i,σ3,H3,I3,st3,fr3,w3⟩
 rcases turn i n σ3 H3 w3 with ⟨stop,qn⟩ | ⟨go,N,hN,step⟩
 .refine wpAny_passesOwn hp (thn (T.done X rfl rfl rfl hc i pins s3 σ3 H3 X.xe I3 (stat fr3) st3 stop) fun r s4 ⟨hr,I4⟩=>?_)
  subst hr
  exact wpAny_execs_nil ⟨σ3,H3,I4,qn⟩
 .refine wpAny_passesOwn hp (thn (T.item X rfl rfl rfl hc i pins s3 σ3 H3 X.xe I3 (stat fr3) st3 go) fun r s4 ⟨u,hr,h4⟩=>?_)
  subst hr
  refine wpAny_passesOwn hp (thn h4 fun _ s5 ⟨x,H5,I5,r5,y5,st5,fr5⟩=>?_)
  have I5':=I5.pinned (stat fr5) (T.obj _ _ st5)
  refine wpAny_passesOwn hp (thn (hg _ s5 σ3 H5 x u _ I5' r5 (step x H5 y5)) fun _ s6 ⟨σ6,H6,I6,q6⟩=>?_)
  refine wpAny_passesOwn hp (thn (hb _ s6 σ6 H6 _ I6 q6) fun f s7 q7=>?_)
  have again:∀{σ7:St}{H7:Hp},Inv X (pins++kB fp s5.heap) σ7 H7 s7->N σ7 H7->∃m,m < n/\∃i σ' H',Inv X pins σ' H' s7/\tn i s7.heap/\(∀b∈fp,H' b=none)/\W i m σ' H':=fun {σ7 H7} I7 n7=>by
   obtain ⟨m',hm,w7⟩:=hN σ7 H7 n7
   refine ⟨m',hm,i + 1,σ7,H7,I7.unpinned,T.keep _ _ _ st5 fun b hb o e=>(I7.pin (b,o) (List.mem_append_right _ (List.mem_append_right _ (de hb e)))).1,fun b hb=>?_,w7⟩
   obtain ⟨o,e,d⟩:=T.obj _ _ st5 b hb
   exact (I7.pin (b,o) (List.mem_append_right _ (List.mem_append_right _ (de hb e)))).2.1
  cases f with
  | next=>obtain ⟨σ7,H7,I7,n7⟩:=q7;exact again I7 n7
  | cont=>obtain ⟨σ7,H7,I7,n7⟩:=q7;exact again I7 n7
  | brk=>obtain ⟨σ7,H7,I7,q7⟩:=q7;exact ⟨σ7,H7,I7.unpinned,q7⟩
  | ret v=>obtain ⟨x7,σ7,H7,I7,r7,q7⟩:=q7;exact ⟨x7,σ7,H7,I7.unpinned,r7,q7⟩
end
abbrev R2:=V->V->Hp->VK->Prop
def OpR (X:Cx) (f:Value->Value->Sem Value) (r:R2):Prop :=
 ∀(pins:List (Addr×Obj)) (s:Shared) (σ:St) (H:Hp) (x y:V) (v u:Value) (Q:VK),Inv X pins σ H s->dz x v->dz y u->r x y H Q ->
  wpAny (model X.prog X.w) X.A (f v u) (EP X pins σ Q) X.xe s
def UnR (X:Cx) (f:Value->Sem Value) (r:V->Hp->VK->Prop):Prop :=
 ∀(pins:List (Addr×Obj)) (s:Shared) (σ:St) (H:Hp) (x:V) (v:Value) (Q:VK),Inv X pins σ H s->dz x v->r x H Q ->
  wpAny (model X.prog X.w) X.A (f v) (EP X pins σ Q) X.xe s
def bZ (X:Cx) (f:Value) (r:List V->Hp->VK->Prop):Prop :=
 ∀(pins:List (Addr×Obj)) (s:Shared) (σ:St) (H:Hp) (xs:List V) (us:List Value) (Q:VK),Inv X pins σ H s->bW xs us->r xs H Q ->
  wpAny (model X.prog X.w) X.A (call f us) (EP X pins σ Q) X.xe s
def tOp (r:R2) (ta tb:TE):TE:=fun σ H Q=>ta σ H fun x H1=>tb σ H1 fun y H2=>r x y H2 Q
def tUn (r:V->Hp->VK->Prop) (ta:TE):TE:=fun σ H Q=>ta σ H fun x H1=>r x H1 Q
def rI (C:Int->Int->Prop) (g:Int->Int->V):R2:=fun x y H Q=>∃i j,x=.int i/\y=.int j/\C i j/\Q (g i j) H
def rI0 (g:Int->Int->V):R2:=fun x y H Q=>∃i j,x=.int i/\y=.int j/\Q (g i j) H
def rU (g:Int->V):V->Hp->VK->Prop:=fun x H Q=>∃i,x=.int i/\Q (g i) H
section
variable {X:Cx}{a b c:Expr}{ta tb tc:TE}{pos:Pos}
theorem CF (ha:PE X a ta) (hb:PE X b tb) {pins:List (Addr×Obj)}{s:Shared}{σ:St}{H:Hp}{R:V->V->Hp->Prop} (I:Inv X pins σ H s)
  (h:ta σ H fun x H1=>tb σ H1 fun y H2=>R x y H2) {Q:Value->Shared->Prop}{f:Value->Value->Sem Value}
  (hf:∀v u s2 x y H2,Inv X pins σ H2 s2->dz x v->dz y u->R x y H2->wpAny (model X.prog X.w) X.A (f v u) Q X.xe s2) :
  wpAny (model X.prog X.w) X.A (eval a X.env) (fun v s₁=>wpAny (model X.prog X.w) X.A (eval b X.env) (fun u s₂=>wpAny (model X.prog X.w) X.A (f v u) Q X.xe s₂) X.xe s₁) X.xe s:=by
 refine thn (ha pins s σ H _ I h) fun v s1 ⟨x,H1,I1,r1,q1⟩=>?_
 refine thn (hb pins s1 σ H1 _ I1 q1) fun u s2 ⟨y,H2,I2,r2,q2⟩=>?_
 exact hf v u s2 x y H2 I2 r1 r2 q2
theorem aK {op:Operator}{r:R2} (ho:OpR X (binaryOp op) r) (ha:PE X a ta) (hb:PE X b tb):PE X (.BinOp a op b pos) (tOp r ta tb):=by
 intro pins s σ H Q I h
 exact wpAny_BinOp (CF ha hb I h fun v u s2 x y H2 I2 rx ry q=>ho pins s2 σ H2 x y v u Q I2 rx ry q)
theorem AI {op:UnaryOp}{r:V->Hp->VK->Prop} (ho:UnR X (unaryOp op) r) (ha:PE X a ta):PE X (.UnaryOp op a pos) (tUn r ta):=by
 intro pins s σ H Q I h
 exact UnaryOp_ (thn (ha pins s σ H _ I h) fun v s1 ⟨x,H1,I1,r1,q1⟩=>ho pins s1 σ H1 x v Q I1 r1 q1)
theorem opI {f:Value->Value->Sem Value}{C:Int->Int->Prop}{g:Int->Int->Int}
  (rule:∀(i j:Int) (t u:Tok) (s:Shared) (Q:Value->Shared->Prop) (E:Value->Shared->Prop),C i j->Q (.int (g i j) s.toks) { s with toks:=s.toks + 1 }->wpAny (model X.prog X.w) X.A (f (.int i t) (.int j u)) Q E s) :
  OpR X f (rI C fun i j=>.int (g i j)):=by
 intro pins s σ H x y v u Q I rx ry h
 obtain ⟨i,j,rfl,rfl,hc,q⟩:=h
 obtain ⟨t,rfl⟩:=rx
 obtain ⟨t',rfl⟩:=ry
 exact rule i j t t' s _ _ hc ⟨.int (g i j),H,I.tok _,⟨_,rfl⟩,q⟩
theorem DD {f:Value->Value->Sem Value}{g:Int->Int->Int}
  (rule:∀(i j:Int) (t u:Tok) (s:Shared) (Q:Value->Shared->Prop) (E:Value->Shared->Prop),Q (.int (g i j) s.toks) { s with toks:=s.toks + 1 }->wpAny (model X.prog X.w) X.A (f (.int i t) (.int j u)) Q E s) :
  OpR X f (rI0 fun i j=>.int (g i j)):=by
 intro pins s σ H x y v u Q I rx ry h
 obtain ⟨i,j,rfl,rfl,q⟩:=h
 obtain ⟨t,rfl⟩:=rx
 obtain ⟨t',rfl⟩:=ry
 exact rule i j t t' s _ _ ⟨.int (g i j),H,I.tok _,⟨_,rfl⟩,q⟩
theorem Ak {f:Value->Value->Sem Value}{g:Int->Int->Bool}
  (rule:∀(i j:Int) (t u:Tok) (s:Shared) (Q:Value->Shared->Prop) (E:Value->Shared->Prop),Q (.bool (g i j)) s->wpAny (model X.prog X.w) X.A (f (.int i t) (.int j u)) Q E s) :
  OpR X f (rI0 fun i j=>.bl (g i j)):=by
 intro pins s σ H x y v u Q I rx ry h
 obtain ⟨i,j,rfl,rfl,q⟩:=h
 obtain ⟨t,rfl⟩:=rx
 obtain ⟨t',rfl⟩:=ry
 exact rule i j t t' s _ _ ⟨.bl (g i j),H,I,rfl,q⟩
def CG (i j:Int):Prop:=0 < j/\j < 1073741824
def CH (i j:Int):Prop:=0<=j/\j<=1000000/\i.natAbs < 2 ^ 64
def Cj (i j:Int):Prop:=(-(2 ^ 64) < i/\i < 2 ^ 64)\/(-(2 ^ 64) < j/\j < 2 ^ 64)
theorem Cj.ok {i j:Int} (h:Cj i j):IntMulOk i j:=by
 rcases h with ⟨h1,h2⟩ | ⟨h1,h2⟩
 .exact .of_left (intBits_le_64 h1 h2)
 .exact .of_right (intBits_le_64 h1 h2)
theorem AJ:OpR X (binaryOp .Add) (rI0 fun i j=>.int (i + j)):=DD fun _ _ _ _ _ _ _ q=>add_int q
theorem AK:OpR X (binaryOp .Sub) (rI0 fun i j=>.int (i - j)):=DD fun _ _ _ _ _ _ _ q=>sub_int q
theorem AL:OpR X (binaryOp .Mult) (rI Cj fun i j=>.int (i * j)):=opI fun _ _ _ _ _ _ _ hc q=>mul_int q hc.ok
theorem yI:OpR X (binaryOp .FloorDiv) (rI CG fun i j=>.int (i / j)):=opI fun i j _ _ _ _ _ hc q=>by
 have h1:(0:Int) < j:=hc.1
 have h2:j < 1073741824:=hc.2
 exact floordiv_int (by omega) (by rw [Int.fdiv_eq_ediv_of_nonneg i (by omega)];exact q) (.inl (PyProof.noPylong_small (by omega)))
theorem AM:OpR X (binaryOp .Mod) (rI (fun _ j=>0 < j) fun i j=>.int (i % j)):=opI fun i j _ _ _ _ _ hc q=>by
 have h1:(0:Int) < j:=hc
 exact mod_int' (by omega) (by rw [Int.fmod_eq_emod_of_nonneg i (by omega)];exact q)
theorem AN:OpR X (binaryOp .Pow) (rI CH fun i j=>.int (i ^ j.toNat)):=opI fun _ _ _ _ _ _ _ hc q=>pow_int_small hc.1 hc.2.1 hc.2.2 q
theorem unI {f:Value->Sem Value}{g:Int->Int}
  (rule:∀(i:Int) (t:Tok) (s:Shared) (Q:Value->Shared->Prop) (E:Value->Shared->Prop),Q (.int (g i) s.toks) { s with toks:=s.toks + 1 }->wpAny (model X.prog X.w) X.A (f (.int i t)) Q E s) :
  UnR X f (rU fun i=>.int (g i)):=by
 intro pins s σ H x v Q I rx h
 obtain ⟨i,rfl,q⟩:=h
 obtain ⟨t,rfl⟩:=rx
 exact rule i t s _ _ ⟨.int (g i),H,I.tok _,⟨_,rfl⟩,q⟩
theorem x0:UnR X (unaryOp .USub) (rU fun i=>.int (-i)):=unI fun _ _ _ _ _ q=>neg_int q
end
def DE:V->V->Bool
 | .non,.non=>true | .non,.int _=>true | .int _,.non=>true | .non,.bl _=>true | .bl _,.non=>true | .non,.str _=>true | .str _,.non=>true
 | .int _,.int _=>true | .bl _,.bl _=>true | .str _,.str _=>true | .byt _,.byt _=>true
 | .int _,.str _=>true | .str _,.int _=>true | .bl _,.str _=>true | .str _,.bl _=>true
 | _,_=>false
def rEq:R2:=fun x y H Q=>DE x y=true/\Q (.bl (decide (x=y))) H
def rNe:R2:=fun x y H Q=>DE x y=true/\Q (.bl (!decide (x=y))) H
theorem ur {i j:Int}:decide (V.int i=V.int j)=(i == j):=by
 rw [Bool.eq_iff_iff]
 simp
theorem x3 {i j:Bool}:decide (V.bl i=V.bl j)=(i == j):=by
 rw [Bool.eq_iff_iff]
 simp
theorem ut {i j:Str}:decide (V.str i=V.str j)=(i == j):=by
 rw [Bool.eq_iff_iff]
 simp
theorem uu {i j:Array UInt8}:decide (V.byt i=V.byt j)=(i.toList == j.toList):=by
 rw [Bool.eq_iff_iff]
 cases i
 cases j
 simp
section
variable {X:Cx}{a b c:Expr}{ta tb tc:TE}{pos:Pos}
theorem bC {pins:List (Addr×Obj)}{σ:St}{H:Hp}{s:Shared}{Q:VK}{k k':Bool} (I:Inv X pins σ H s) (q:Q (.bl k) H) (e:k=k'):EP X pins σ Q (.bool k') s:=by
 subst e
 exact ⟨.bl k,H,I,rfl,q⟩
theorem CI:OpR X (compareOp .Eq) rEq:=by
 intro pins s σ H x y v u Q I rx ry h
 obtain ⟨hs,q⟩:=h
 cases x with
 | non =>
  cases rx
  cases y with
  | non=>cases ry;exact PySem.EqNone.eq_none_none (bC I q (by simp))
  | bl j=>cases ry;exact PySem.EqNone.eq_none_bool (bC I q (by simp))
  | int j=>obtain ⟨t',rfl⟩:=ry;exact PySem.EqNone.eq_none_int (bC I q (by simp))
  | str j=>obtain ⟨t',rfl⟩:=ry;exact PySem.EqNone.eq_none_str (bC I q (by simp))
  | _=>exact absurd (show false=true from hs) Bool.false_ne_true
 | bl i =>
  cases rx
  cases y with
  | non=>cases ry;exact PySem.EqNone.eq_bool_none (bC I q (by simp))
  | bl j=>cases ry;exact eq_bool (bC I q x3)
  | str j=>obtain ⟨t',rfl⟩:=ry;exact PySem.EqMixed.eq_bool_str (bC I q (by simp))
  | _=>exact absurd (show false=true from hs) Bool.false_ne_true
 | int i =>
  obtain ⟨t,rfl⟩:=rx
  cases y with
  | non=>cases ry;exact PySem.EqNone.eq_int_none (bC I q (by simp))
  | int j=>obtain ⟨t',rfl⟩:=ry;exact eq_int (bC I q ur)
  | str j=>obtain ⟨t',rfl⟩:=ry;exact PySem.EqMixed.eq_int_str (bC I q (by simp))
  | _=>exact absurd (show false=true from hs) Bool.false_ne_true
 | str i =>
  obtain ⟨t,rfl⟩:=rx
  cases y with
  | non=>cases ry;exact PySem.EqNone.eq_str_none (bC I q (by simp))
  | bl j=>cases ry;exact PySem.EqMixed.eq_str_bool (bC I q (by simp))
  | int j=>obtain ⟨t',rfl⟩:=ry;exact PySem.EqMixed.eq_str_int (bC I q (by simp))
  | str j=>obtain ⟨t',rfl⟩:=ry;exact eq_str (bC I q ut)
  | _=>exact absurd (show false=true from hs) Bool.false_ne_true
 | byt i =>
  obtain ⟨t,rfl⟩:=rx
  cases y with
  | byt j=>obtain ⟨t',rfl⟩:=ry;exact PySem.W.eq_bytes (bC I q uu)
  | _=>exact absurd (show false=true from hs) Bool.false_ne_true
 | _=>cases y <;> exact absurd (show false=true from hs) Bool.false_ne_true
theorem CJ:OpR X (compareOp .NotEq) rNe:=by
 intro pins s σ H x y v u Q I rx ry h
 obtain ⟨hs,q⟩:=h
 cases x with
 | non =>
  cases rx
  cases y with
  | non=>cases ry;exact PySem.EqNone.ne_none_none (bC I q (by simp))
  | bl j=>cases ry;exact PySem.EqNone.ne_none_bool (bC I q (by simp))
  | int j=>obtain ⟨t',rfl⟩:=ry;exact PySem.EqNone.ne_none_int (bC I q (by simp))
  | str j=>obtain ⟨t',rfl⟩:=ry;exact PySem.EqNone.ne_none_str (bC I q (by simp))
  | _=>exact absurd (show false=true from hs) Bool.false_ne_true
 | bl i =>
  cases rx
  cases y with
  | non=>cases ry;exact PySem.EqNone.ne_bool_none (bC I q (by simp))
  | bl j=>cases ry;exact ne_bool (bC I q (congrArg not x3))
  | str j=>obtain ⟨t',rfl⟩:=ry;exact PySem.EqMixed.ne_bool_str (bC I q (by simp))
  | _=>exact absurd (show false=true from hs) Bool.false_ne_true
 | int i =>
  obtain ⟨t,rfl⟩:=rx
  cases y with
  | non=>cases ry;exact PySem.EqNone.ne_int_none (bC I q (by simp))
  | int j=>obtain ⟨t',rfl⟩:=ry;exact ne_int (bC I q (congrArg not ur))
  | str j=>obtain ⟨t',rfl⟩:=ry;exact PySem.EqMixed.ne_int_str (bC I q (by simp))
  | _=>exact absurd (show false=true from hs) Bool.false_ne_true
 | str i =>
  obtain ⟨t,rfl⟩:=rx
  cases y with
  | non=>cases ry;exact PySem.EqNone.ne_str_none (bC I q (by simp))
  | bl j=>cases ry;exact PySem.EqMixed.ne_str_bool (bC I q (by simp))
  | int j=>obtain ⟨t',rfl⟩:=ry;exact PySem.EqMixed.ne_str_int (bC I q (by simp))
  | str j=>obtain ⟨t',rfl⟩:=ry;exact ne_str (bC I q (congrArg not ut))
  | _=>exact absurd (show false=true from hs) Bool.false_ne_true
 | byt i =>
  obtain ⟨t,rfl⟩:=rx
  cases y with
  | byt j=>obtain ⟨t',rfl⟩:=ry;exact PySem.W.ne_bytes (bC I q (congrArg not uu))
  | _=>exact absurd (show false=true from hs) Bool.false_ne_true
 | _=>cases y <;> exact absurd (show false=true from hs) Bool.false_ne_true
theorem CK:OpR X (compareOp .Lt) (rI0 fun i j=>.bl (decide (i < j))):=Ak fun _ _ _ _ _ _ _ q=>lt_int q
theorem CL:OpR X (compareOp .LtE) (rI0 fun i j=>.bl (decide (i<=j))):=Ak fun _ _ _ _ _ _ _ q=>le_int q
theorem CM:OpR X (compareOp .Gt) (rI0 fun i j=>.bl (decide (j < i))):=Ak fun _ _ _ _ _ _ _ q=>gt_int q
theorem CN:OpR X (compareOp .GtE) (rI0 fun i j=>.bl (decide (j<=i))):=Ak fun _ _ _ _ _ _ _ q=>ge_int q
theorem uv:OpR X (compareOp .Lt) (fun x y H Q=>∃i j,x=.str i/\y=.str j/\Q (.bl (decide (i.cps.toList < j.cps.toList))) H):=by
 intro pins s σ H x y v u Q I rx ry h
 obtain ⟨i,j,rfl,rfl,q⟩:=h
 obtain ⟨t,rfl⟩:=rx
 obtain ⟨t',rfl⟩:=ry
 exact lt_str (bC I q rfl)
theorem AO:OpR X (compareOp .Is) (fun x y H Q=>y=.non/\Q (.bl (decide (x=.non))) H):=by
 intro pins s σ H x y v u Q I rx ry h
 obtain ⟨rfl,q⟩:=h
 cases ry
 refine is_none_gen (bC I q ?_)
 cases x <;> first
  | (cases rx;rfl)
  | (obtain ⟨t,rfl⟩:=rx;rfl)
theorem yJ:OpR X (compareOp .IsNot) (fun x y H Q=>y=.non/\Q (.bl (!decide (x=.non))) H):=by
 intro pins s σ H x y v u Q I rx ry h
 obtain ⟨rfl,q⟩:=h
 cases ry
 refine isnot_none_gen (bC I q ?_)
 cases x <;> first
  | (cases rx;rfl)
  | (obtain ⟨t,rfl⟩:=rx;rfl)
theorem OpR.or {f:Value->Value->Sem Value}{r r':R2} (h:OpR X f r) (h':OpR X f r'):OpR X f (fun x y H Q=>r x y H Q\/r' x y H Q):=by
 intro pins s σ H x y v u Q I rx ry q
 rcases q with q | q
 .exact h pins s σ H x y v u Q I rx ry q
 .exact h' pins s σ H x y v u Q I rx ry q
theorem bj (b:Expr) {op:CmpOp} (h:op≠.In:=by decide) (h2:op≠.NotIn:=by decide):behindInMarks op b=false:=by
 have e1:(op == CmpOp.In)=false:=by cases op <;> first | rfl | exact absurd rfl h
 have e2:(op == CmpOp.NotIn)=false:=by cases op <;> first | rfl | exact absurd rfl h2
 cases b <;> simp [behindInMarks,e1,e2]
theorem ei {op:CmpOp}{r:R2} (ho:OpR X (compareOp op) r) (ha:PE X a ta) (hb:PE X b tb) (hm:behindInMarks op b=false):PE X (.Compare a [op] [b] pos) (tOp r ta tb):=by
 intro pins s σ H Q I h
 exact wpAny_Compare1 (CF ha hb I h fun v u s2 x y H2 I2 rx ry q=>ho pins s2 σ H2 x y v u Q I2 rx ry q) hm
def kh (t:TE):TT:=fun σ H Q=>t σ H fun x H'=>∃k,x=.bl k/\Q k H'
theorem aZ {op:CmpOp}{r:R2} (ho:OpR X (compareOp op) r) (ha:PE X a ta) (hb:PE X b tb) (hm:behindInMarks op b=false):PT X (.Compare a [op] [b] pos) (kh (tOp r ta tb)):=by
 intro pins s σ H Q I h
 refine wpAny_isTrue_Compare1 (thn (ha pins s σ H _ I h) fun v s1 ⟨x,H1,I1,r1,q1⟩=>thn (hb pins s1 σ H1 _ I1 q1) fun u s2 ⟨y,H2,I2,r2,q2⟩ =>
  thn (ho pins s2 σ H2 x y v u _ I2 r1 r2 q2) fun c s3 ⟨z,H3,I3,r3,k,e,q3⟩=>?_) hm
 subst e
 cases r3
 exact wpAny_truthy_bool ⟨H3,I3,q3⟩
def rK (r r':R2) (ta tb tc:TE):TE:=fun σ H Q=>ta σ H fun x H1=>tb σ H1 fun y H2=>r x y H2 fun z H3=>∃k,z=.bl k /\
 (if k=true then tc σ H3 fun w' H4=>r' y w' H4 Q else Q (.bl false) H3)
theorem wD {op op':CmpOp}{r r':R2} (ho:OpR X (compareOp op) r) (ho':OpR X (compareOp op') r') (ha:PE X a ta) (hb:PE X b tb) (hc:PE X c tc)
  (hm:lastMarks [op,op'] [b,c]=false:=by with_unfolding_all rfl):PE X (.Compare a [op,op'] [b,c] pos) (rK r r' ta tb tc):=by
 intro pins s σ H Q I h
 refine Compare_chain (thn (ha pins s σ H _ I h) fun v s1 ⟨x,H1,I1,r1,q1⟩=>chain_link (thn (hb pins s1 σ H1 _ I1 q1) fun u s2 ⟨y,H2,I2,r2,q2⟩ =>
  thn (ho pins s2 σ H2 x y v u _ I2 r1 r2 q2) fun d s3 ⟨z,H3,I3,r3,k,e,q3⟩=>?_)) hm
 subst e
 cases r3
 refine wpAny_truthy_bool ?_
 cases k with
 | false=>exact ite_ff ⟨.bl false,H3,I3,rfl,q3⟩
 | true=>exact ite_tt (chain_last (thn (hc pins s3 σ H3 _ I3 q3) fun w' s4 ⟨z',H4,I4,r4,q4⟩=>ho' pins s4 σ H4 y z' u w' Q I4 r2 r4 q4))
theorem wE {op op':CmpOp}{r r':R2} (ho:OpR X (compareOp op) r) (ho':OpR X (compareOp op') r') (ha:PE X a ta) (hb:PE X b tb) (hc:PE X c tc)
  (hm:lastMarks [op,op'] [b,c]=false:=by with_unfolding_all rfl):PT X (.Compare a [op,op'] [b,c] pos) (kh (rK r r' ta tb tc)):=by
 intro pins s σ H Q I h
 refine isTrue_chain (thn (ha pins s σ H _ I h) fun v s1 ⟨x,H1,I1,r1,q1⟩=>test_link (thn (hb pins s1 σ H1 _ I1 q1) fun u s2 ⟨y,H2,I2,r2,q2⟩ =>
  thn (ho pins s2 σ H2 x y v u _ I2 r1 r2 q2) fun d s3 ⟨z,H3,I3,r3,k,e,q3⟩=>?_)) hm
 subst e
 cases r3
 refine wpAny_truthy_bool ?_
 cases k with
 | false =>
  obtain ⟨k',e',q'⟩:=q3
  cases e'
  exact ite_ff ⟨H3,I3,q'⟩
 | true =>
  refine ite_tt (test_last (thn (hc pins s3 σ H3 _ I3 q3) fun w' s4 ⟨z',H4,I4,r4,q4⟩=>thn (ho' pins s4 σ H4 y z' u w' _ I4 r2 r4 q4) fun d' s5 ⟨z2,H5,I5,r5,k2,e2,q5⟩=>?_))
  subst e2
  cases r5
  exact wpAny_truthy_bool ⟨H5,I5,q5⟩
theorem mP:(sizeLine:Nat) < 2 ^ 63:=by rw [sizeLine_eq];decide
theorem sQ:OpR X (binaryOp .Add) (fun x y H Q=>∃i j,x=.str i/\y=.str j/\i.length + j.length<=sizeLine/\Q (.str (i++j)) H):=by
 intro pins s σ H x y v u Q I rx ry h
 obtain ⟨i,j,rfl,rfl,hz,q⟩:=h
 obtain ⟨t,rfl⟩:=rx
 obtain ⟨t',rfl⟩:=ry
 exact add_str (fun t' tk=>⟨.str (i++j),H,I.tok _,⟨_,rfl⟩,q⟩) hz
theorem gR {x:V}{us:List Value} (r:bW [x] us):∃u,us=[u]/\dz x u:=by
 cases r with
 | cons r1 r2=>cases r2;exact ⟨_,rfl,r1⟩
theorem wF {x y:V}{us:List Value} (r:bW [x,y] us):∃u w',us=[u,w']/\dz x u/\dz y w':=by
 cases r with
 | cons r1 r2 =>
  cases r2 with
  | cons r3 r4=>cases r4;exact ⟨_,_,rfl,r1,r3⟩
theorem uw (hc:X.calm=true):bZ X (.builtin "max") (fun xs H Q=>∃i j,xs=[.int i,.int j]/\Q (.int (if j > i then j else i)) H):=by
 intro pins s σ H xs us Q I r h
 obtain ⟨i,j,rfl,q⟩:=h
 obtain ⟨u,w',rfl,⟨t,rfl⟩,⟨t',rfl⟩⟩:=wF r
 refine max_two_ints (I.ok.hd hc) fun h' tk k=>⟨_,H,I.kept k,?_,q⟩
 by_cases hj:j > i
 .rw [if_pos hj,if_pos hj];exact ⟨_,rfl⟩
 .rw [if_neg hj,if_neg hj];exact ⟨_,rfl⟩
theorem uy (hc:X.calm=true):bZ X (.builtin "min") (fun xs H Q=>∃i j,xs=[.int i,.int j]/\Q (.int (if j < i then j else i)) H):=by
 intro pins s σ H xs us Q I r h
 obtain ⟨i,j,rfl,q⟩:=h
 obtain ⟨u,w',rfl,⟨t,rfl⟩,⟨t',rfl⟩⟩:=wF r
 refine min_two_ints (I.ok.hd hc) fun h' tk k=>⟨_,H,I.kept k,?_,q⟩
 by_cases hj:j < i
 .rw [if_pos hj,if_pos hj];exact ⟨_,rfl⟩
 .rw [if_neg hj,if_neg hj];exact ⟨_,rfl⟩
end
structure yK (h:Heap) (x dx C:Addr) (mA:Str->Option Value):Prop where
 obj:h.get? x=some (PySem.W.instObj C dx)
 ns:h.Ns1 dx mA
 ne:dx≠x
theorem uz {h:Heap}{dx:Addr}{mA:Str->Option Value} (n:h.Ns1 dx mA):∃od,h.get? dx=some od/\∀name,PySem.W.lookIn name od=some (mA name):=by
 obtain ⟨o,es,ep,ho,hd,hk,_,hm⟩:=n
 refine ⟨o,ho,fun name=>?_⟩
 have e:=hm name
 unfold nsFind findBy at e
 rw [<- Array.find?_toList] at e
 unfold PySem.W.lookIn
 rw [hd]
 dsimp only
 split
 .rename_i y q
  rw [q] at e
  exact congrArg some e
 .rename_i q
  rw [q] at e
  have a:es.toList.any (·.refKey)=false:=by
   rw [List.any_eq_false]
   intro y hy
   obtain ⟨z,t,hkey⟩:=hk y (Array.mem_toList_iff.mp hy)
   simp [DictEntry.refKey,hkey]
  have a':¬ es.toList.any (·.refKey)=true:=by rw [a];exact Bool.false_ne_true
  rw [if_neg a']
  exact congrArg some e
theorem yK.look {h:Heap}{x dx C:Addr}{mA:Str->Option Value} (I:yK h x dx C mA):∃od,PySem.W.InstAt h x (PySem.W.instObj C dx) C (some od)/\∀name,PySem.W.lookIn name od=some (mA name) :=
 let ⟨od,ho,hl⟩:=uz I.ns
 ⟨od,⟨I.obj,rfl,rfl,ho⟩,hl⟩
section
variable {prog:Program}{w:World}{A:Around}{E:Value->Shared->Prop}{s:Shared}{K:PySem.W.Frag}{x dx C f:Addr}{mA:Str->Option Value}{name:Str}{v:Value}
theorem yL {expr:Bool}{Q:Value->Shared->Prop} (X:K.In s.heap) (I:yK s.heap x dx C mA) (hg:PySem.W.plainGet K C name=true) (hh:PySem.W.hasDictIn K C=true)
  (ha:PySem.W.findIn K (.ref C) name=some none) (hv:mA name=some v) (hv':PySem.W.handedIn v=true) (h:Q v { s with toks:=s.toks + 1 }) :
  wpAny (model prog w) A (getAttr (.ref x) name expr) Q E s:=by
 obtain ⟨od,J,hl⟩:=I.look
 exact PySem.W.get_value X J (PySem.W.plainGet_of hg).1 (PySem.W.findObj_own hh ha rfl (by rw [hl,hv])) hv' h
theorem wG {pl:Sem Bool}{Q:Value×List Value->Shared->Prop} (X:K.In s.heap) (I:yK s.heap x dx C mA) (hg:PySem.W.plainGet K C name=true)
  (hf:PySem.W.findIn K (.ref C) name=some (some (.ref f))) (ht:PySem.W.isFn K (.ref f)=true) (hv:mA name=none) (h:Q (.ref f,[.ref x]) s) :
  wpAny (model prog w) A (getMethod (.ref x) name pl) Q E s:=by
 obtain ⟨od,J,hl⟩:=I.look
 exact PySem.W.method_fn X J (PySem.W.plainGet_of hg).1 (PySem.W.plainGet_of hg).2 hf (beq_iff_eq.mp ht) (by show (PySem.W.lookIn name od).map (·.isSome)=some false;rw [hl,hv];rfl) h
theorem yM {ns:List Str}{Q:Unit->Shared->Prop} (X:K.In s.heap) (I:yK s.heap x dx C mA)
  (hs:PySem.W.findIn K (.ref C) "__setattr__"=some (some (.builtin "object.__setattr__"))) (hp:PySem.W.plainOver K C=true) (ht:PySem.W.takerIn K C name=some none) (hh:PySem.W.hasDictIn K C=true)
  (hw:PySem.Within mA ns) (hsz:ns.length<=sizeLine)
  (h:∀h',yK h' x dx C (fun y=>if y=name then some v else mA y)->Heap.SameBut dx s.heap h'->Q () { s with heap:=h',toks:=s.toks + 2 }) :
  wpAny (model prog w) A (setAttr (.ref x) name v) Q E s:=by
 obtain ⟨od,J,hl⟩:=I.look
 refine PySem.W.set_plain X J hs (PySem.W.osa_open (s:={ s with toks:=s.toks + 1 }) (r:=none) X J hp ht fun b=>?_)
 obtain ⟨cd,hc,hd'⟩:=PySem.W.any_some hh
 have hx:s.heap.get? x=some ⟨.ref C,some dx,.plain,#[]⟩:=I.obj
 refine wpAny_bind (wpAny_pure (wpAny_bind (wpAny_bind (wpAny_loadPart hx (wpAny_bind (PySem.W.Looks.here (s:={ s with toks:=s.toks + 1 }) (PySem.W.looks_clsIn X hc) ?_))))))
 rw [hd']
 refine wpAny_pure (a:=some dx) (wpAny_bind (wpAny_pure (wpAny_bind ?_)))
 refine wpAny_nsSet1 (s:={ s with toks:=s.toks + 1 }) I.ns fun h' hn2 hs2=>?_
 obtain ⟨oD,esD,epD,hoD,hdD,hcD⟩:=hn2.count (PySem.Within.cons name v hw)
 refine wpAny_bind (wpAny_lookBehind hoD (by rw [hdD];exact pastItsLine_dict (Nat.le_trans hcD (by rw [List.length_cons];omega))) ?_)
 exact wpAny_pure (h _ ⟨(hs2.2 _ (Ne.symm I.ne)).trans I.obj,hn2,I.ne⟩ hs2)
theorem wH {R:Result->Shared->Prop}{vs:List Value}{kw:List (Str×Value)} (X:K.In s.heap) (hm:PySem.W.makesIn K C=true)
  (hi:PySem.W.findIn K (.ref C) "__init__"=some (some (.ref f))) (hf:PySem.W.typeIn K (.ref f)=some (.type "function"))
  (h:codeAny (model prog w) (A.under (.builtin "type.__call__" ⟨.ref C::vs,kw⟩)) (.call (.ref f) ⟨.ref (s.heap.objs.size + 1)::vs,kw⟩) (PySem.W.InitBack (s.heap.objs.size + 1) R)
   { s with heap:=(s.heap.push PySem.W.emptyDict).push (PySem.W.instObj C s.heap.objs.size) }) :
  codeAny (model prog w) A (.call (.ref C) ⟨vs,kw⟩) R s:=by
 obtain ⟨hh,g,d,t,os⟩:=s
 exact PySem.W.make_core (PySem.W.makes_of X hm) (PySem.W.looks_findIn X hi) (fun self=>PySem.W.bind_fn X self hf) (.inl rfl) h
end
def mQ (f:Str) (v:V):List (Str×V)->List (Str×V)
 | []=>[(f,v)]
 | (g,x)::r=>if g=f then (g,v)::r else (g,x)::mQ f v r
theorem kC (f g:Str) (v:V):∀fs:List (Str×V),(mQ f v fs).lookup g=if g=f then some v else fs.lookup g
 | []=>by
  show List.lookup g [(f,v)]=_
  by_cases h:g=f
  .have hb:(g == f)=true:=beq_iff_eq.mpr h
   simp only [List.lookup,hb,if_pos h]
  .have hb:(g == f)=false:=beq_eq_false_iff_ne.mpr h
   simp only [List.lookup,hb,if_neg h]
 | (k,x)::r=>by
  have ih:=kC f g v r
  rw [show mQ f v ((k,x)::r)=(if k=f then (k,v)::r else (k,x)::mQ f v r) from rfl]
  by_cases hk:k=f
  .rw [if_pos hk]
   by_cases h:g=k
   .have hb:(g == k)=true:=beq_iff_eq.mpr h
    simp only [List.lookup,hb,if_pos (h.trans hk)]
   .have hb:(g == k)=false:=beq_eq_false_iff_ne.mpr h
    simp only [List.lookup,hb,if_neg (fun e:g=f=>h (e.trans hk.symm))]
  .rw [if_neg hk]
   by_cases h:g=k
   .have hb:(g == k)=true:=beq_iff_eq.mpr h
    simp only [List.lookup,hb,if_neg (fun e:g=f=>hk (h.symm.trans e))]
   .have hb:(g == k)=false:=beq_eq_false_iff_ne.mpr h
    simp only [List.lookup,hb]
    exact ih
theorem kE (f:Str) (v:V):∀fs:List (Str×V),f∈(mQ f v fs).map (·.1)/\∀g,g∈fs.map (·.1)->g∈(mQ f v fs).map (·.1)
 | []=>⟨by simp [mQ],fun g h=>by simp at h⟩
 | (k,x)::r=>by
  obtain ⟨i1,i2⟩:=kE f v r
  rw [show mQ f v ((k,x)::r)=(if k=f then (k,v)::r else (k,x)::mQ f v r) from rfl]
  by_cases hk:k=f
  .rw [if_pos hk]
   subst hk
   exact ⟨by simp,fun g h=>by simpa using h⟩
  .rw [if_neg hk]
   refine ⟨?_,fun g h=>?_⟩
   .rw [List.map_cons]
    exact List.mem_cons_of_mem _ i1
   .rw [List.map_cons] at h ⊢
    rcases List.mem_cons.mp h with e | e
    .exact List.mem_cons.mpr (.inl e)
    .exact List.mem_cons_of_mem _ (i2 g e)
theorem kF (f:Str) (v:V):∀fs:List (Str×V),(mQ f v fs).length<=fs.length + 1
 | []=>by simp [mQ]
 | (k,x)::r=>by
  have ih:=kF f v r
  rw [show mQ f v ((k,x)::r)=(if k=f then (k,v)::r else (k,x)::mQ f v r) from rfl]
  by_cases hk:k=f
  .rw [if_pos hk,List.length_cons,List.length_cons];omega
  .rw [if_neg hk,List.length_cons,List.length_cons];omega
theorem ub.some_of {v:V}{o:Option Value} (r:ub (some v) o):∃u,o=some u/\dz v u:=by
 cases o with
 | none=>exact (show False from r).elim
 | some u=>exact ⟨u,rfl,r⟩
theorem ub.none_of {o:Option Value} (r:ub none o):o=none:=by
 cases o with
 | none=>rfl
 | some u=>exact (show False from r).elim
theorem uA {v:V}{u:Value} (r:dz v u):PySem.W.handedIn u=true:=by
 cases v with
 | non=>cases (show u=Value.none from r);rfl
 | bl b=>cases (show u=Value.bool b from r);rfl
 | int i=>obtain ⟨t,e⟩:=(show ∃t,u=Value.int i t from r);cases e;rfl
 | str x=>obtain ⟨t,e⟩:=(show ∃t,u=Value.str x t from r);cases e;rfl
 | byt b=>obtain ⟨t,e⟩:=(show ∃t,u=Value.bytes b t from r);cases e;rfl
 | flt b=>obtain ⟨t,e⟩:=(show ∃t,u=Value.float b t from r);cases e;rfl
 | ref a=>cases (show u=Value.ref a from r);rfl
 | ty n=>cases (show u=Value.type n from r);rfl
section
variable {P:Program}{w:World}{H H':Hp}{h h':Heap}{a C dx:Addr}{fs fs':List (Str×V)}
theorem kG (hok:HOk P w H h) (e:H a=some (.ins C dx fs)):∃mA,yK h a dx C mA/\(∀f,ub (fs.lookup f) (mA f))/\PySem.Within mA (fs.map (·.1))/\fs.length<=1000/\H dx=some (.own a):=by
 obtain ⟨d,z,ne,ob,mA,n,r,q⟩:=(show cH P w H h a (.ins C dx fs) from hok a _ e)
 exact ⟨mA,⟨ob,n,ne⟩,r,q,z,d⟩
end
structure Cls (K:PySem.W.Frag) (C:Addr):Prop where
 pg:PySem.W.plainGet K C Str.empty=true
 hd:PySem.W.hasDictIn K C=true
 po:PySem.W.plainOver K C=true
 sa:PySem.W.findIn K (.ref C) "__setattr__"=some (some (.builtin "object.__setattr__"))
theorem Cls.get {K:PySem.W.Frag}{C:Addr} (c:Cls K C) (f:Str):PySem.W.plainGet K C f=true:=c.pg
def eI (K:PySem.W.Frag) (C:Addr) (f:Str):Prop:=PySem.W.findIn K (.ref C) f=some none
theorem eI.taker {K:PySem.W.Frag}{C:Addr}{f:Str} (n:eI K C f):PySem.W.takerIn K C f=some none:=by
 unfold PySem.W.takerIn
 rw [show PySem.W.findIn K (.ref C) f=some none from n]
 rfl
structure Ck (K:PySem.W.Frag) (C:Addr) (m:Str) (f:Addr):Prop where
 at_:PySem.W.findIn K (.ref C) m=some (some (.ref f))
 fn:PySem.W.isFn K (.ref f)=true
 kp:PySem.W.keepIn K (.ref f)=true
section
variable {X:Cx}{pins:List (Addr×Obj)}{σ:St}{H:Hp}{s:Shared}{a C dx:Addr}{fs:List (Str×V)}{f:Str}{v:V}{A:Around}{E:Value->Shared->Prop}
theorem sR {b:Bool}{Q:Value->Shared->Prop} (I:Inv X pins σ H s) (e:H a=some (.ins C dx fs)) (c:Cls X.K C) (n:eI X.K C f) (l:fs.lookup f=some v)
  (h:∀u s',Inv X pins σ H s'->dz v u->Q u s'):wpAny (model X.prog X.w) A (getAttr (.ref a) f b) Q E s:=by
 obtain ⟨mA,O,r,_,_,_⟩:=kG I.hok e
 obtain ⟨u,hu,ru⟩:=ub.some_of (v:=v) (o:=mA f) (by rw [<- l];exact r f)
 exact yL I.kIn O (c.get f) c.hd n hu (uA ru) (h u _ (I.tok _) ru)
theorem sS {m:Str}{g:Addr}{pl:Sem Bool}{Q:Value×List Value->Shared->Prop} (I:Inv X pins σ H s) (e:H a=some (.ins C dx fs)) (c:Cls X.K C) (k:Ck X.K C m g) (l:fs.lookup m=none)
  (h:Q (.ref g,[.ref a]) s):wpAny (model X.prog X.w) A (getMethod (.ref a) m pl) Q E s:=by
 obtain ⟨mA,O,r,_,_,_⟩:=kG I.hok e
 have hn:mA m=none:=ub.none_of (by rw [<- l];exact r m)
 exact wG I.kIn O (c.get m) k.at_ k.fn hn h
theorem sU {y:V}{u:Value}{Q:Unit->Shared->Prop} (I:Inv X pins σ H s) (e:H a=some (.ins C dx fs)) (c:Cls X.K C) (n:eI X.K C f) (hl:fs.length < 1000) (ry:dz y u)
  (h:∀s',Inv X pins σ (upd H a (.ins C dx (mQ f y fs))) s'->Q () s'):wpAny (model X.prog X.w) A (setAttr (.ref a) f u) Q E s:=by
 obtain ⟨mA,O,r,wi,_,ho⟩:=kG I.hok e
 have hz:(fs.map (·.1)).length<=sizeLine:=by rw [List.length_map,sizeLine_eq];omega
 refine yM I.kIn O c.sa c.po n.taker c.hd wi hz fun h' O' sb=>h _ ?_
 have hd:∃o,h'.get? dx=some o:=let ⟨o,_,_,e',_⟩:=O'.ns;⟨o,e'⟩
 refine I.write (x:=a) (e:=dx) (by rw [e];exact True.intro) (.inr ho) (fun b q hb z=>(sb.2 b hb).trans z) hd ?_
 refine ⟨by rw [aA O.ne];exact ho,?_,O.ne,O'.obj,_,O'.ns,fun g=>?_,fun g hg=>?_⟩
 .have:=kF f y fs;omega
 .show ub ((mQ f y fs).lookup g) (if g=f then some u else mA g)
  rw [kC]
  by_cases q:g=f
  .rw [if_pos q,if_pos q];exact ry
  .rw [if_neg q,if_neg q];exact r g
 .by_cases q:g=f
  .rw [q];exact (kE f y fs).1
  .refine (kE f y fs).2 g (wi g fun z=>hg ?_)
   show (if g=f then some u else mA g)=none
   rw [if_neg q];exact z
theorem Inv.made (I:Inv X pins σ H s):Inv X pins σ (upd (upd H s.heap.objs.size (.own (s.heap.objs.size + 1))) (s.heap.objs.size + 1) (.ins C s.heap.objs.size []))
  { s with heap:=(s.heap.push PySem.W.emptyDict).push (PySem.W.instObj C s.heap.objs.size) }:=by
 have e1:(s.heap.push PySem.W.emptyDict).get? s.heap.objs.size=some PySem.W.emptyDict:=Heap.get?_push_size s.heap rfl
 have e2:((s.heap.push PySem.W.emptyDict).push (PySem.W.instObj C s.heap.objs.size)).get? (s.heap.objs.size + 1)=some (PySem.W.instObj C s.heap.objs.size):=by
  have:=Heap.get?_push_size (s.heap.push PySem.W.emptyDict) (o:=PySem.W.instObj C s.heap.objs.size) rfl
  rwa [Heap.size_push] at this
 have e3:(s.heap.push PySem.W.emptyDict).Ns s.heap.objs.size (fun _=>none):=⟨PySem.W.emptyDict,#[],_,e1,rfl,(fun e he=>absurd he (by simp)),fun _=>rfl⟩
 have I1:=I.laid (a:=s.heap.objs.size) (o:=.own (s.heap.objs.size + 1)) (h':=s.heap.push PySem.W.emptyDict) (t':=s.toks) (fun b u q=>Heap.get?_push_of_some _ q) (Nat.le_refl _) ⟨_,e1⟩
 refine I1.laid (a:=s.heap.objs.size + 1) (o:=.ins C s.heap.objs.size []) (t':=s.toks) (fun b u q=>Heap.get?_push_of_some _ q) (Nat.le_of_eq (Heap.size_push _ _)) ?_
 have ne:s.heap.objs.size≠s.heap.objs.size + 1:=Nat.ne_of_lt (Nat.lt_succ_self _)
 refine ⟨by rw [aA ne,aO],Nat.zero_le _,ne,e2,fun _=>none,(Heap.Ns1.of_empty e3).at fun o q=>Heap.get?_push_of_some _ q,fun _=>True.intro,fun y hy=>absurd rfl hy⟩
theorem yN {prog:Program}{w:World}{env:Env}{e:Expr}{f:Str}{pos:Pos}{s:Shared}{Q:Value->Shared->Prop} (hb:attributeBase e f env (eval e env)=eval e env)
  (h:wpAny (model prog w) A (eval e env) (fun o s₁=>wpAny (model prog w) A (getAttr o f true) Q E s₁) E s):wpAny (model prog w) A (eval (.Attribute e f pos) env) Q E s :=
 Attribute_any_ h (by rw [arm_eval_Attribute,hb])
end
def wv (K:PySem.W.Frag) (ta:TE) (f:Str):TE:=fun σ H Q=>ta σ H fun x H1=>∃a C dx fs v,x=.ref a/\H1 a=some (.ins C dx fs)/\Cls K C/\eI K C f/\fs.lookup f=some v/\Q v H1
def DF (K:PySem.W.Frag) (ta tv:TE) (f:Str):TS:=fun D σ H=>tv σ H fun y H1=>ta σ H1 fun x H2=>∃a C dx fs,x=.ref a/\H2 a=some (.ins C dx fs)/\Cls K C/\eI K C f/\fs.length < 1000 /\
 D.nx σ (upd H2 a (.ins C dx (mQ f y fs)))
section
variable {X:Cx}{o e value:Expr}{f:Str}{pos pos' tpos:Pos}{ta tv:TE}
theorem AQ (he:PE X e ta) (hb:attributeBase e f X.env (eval e X.env)=eval e X.env):PE X (.Attribute e f pos) (wv X.K ta f):=by
 intro pins s σ H Q I h
 refine yN hb (thn (he pins s σ H _ I h) fun u s1 ⟨x,H1,I1,rx,a,C,dx,fs,v,ex,ea,c,n,l,q⟩=>?_)
 subst ex
 obtain rfl:u=Value.ref a:=rx
 exact sR I1 ea c n l fun u' s2 I2 ru=>⟨v,H1,I2,ru,q⟩
theorem mR (ha:PE X o ta) (hv:PE X value tv) (hs:swapsWith value (some (.Attribute o f pos')) pos.line X.env=pure false):PS X (.Assign [.Attribute o f pos'] value pos) (DF X.K ta tv f):=by
 intro pins s σ H D I h
 refine plainObj_wpAny_Assign_Attribute (thn (hv pins s σ H _ I h) fun u s1 ⟨y,H1,I1,ry,q⟩=>thn (ha pins s1 σ H1 _ I1 q) fun ov s2 ⟨x,H2,I2,rx,a,C,dx,fs,ex,ea,c,n,l,q2⟩=>?_) hs
 subst ex
 obtain rfl:ov=Value.ref a:=rx
 exact sU I2 ea c n l ry fun s3 I3=>⟨σ,_,I3,q2⟩
end
section
variable {X:Cx}{pins:List (Addr×Obj)}{σ:St}{H:Hp}{s:Shared}{A:Around}{E:Value->Shared->Prop}{Q:Value->Shared->Prop}{c:Value}{b:Bool}
inductive oG (K:PySem.W.Frag) (H:Hp):V->Value->Prop where
 | non:oG K H .non (.type "NoneType")
 | bl (x:Bool):oG K H (.bl x) (.type "bool")
 | int (i:Int):oG K H (.int i) (.type "int")
 | str (x:Str):oG K H (.str x) (.type "str")
 | flt (x:UInt64):oG K H (.flt x) (.type "float")
 | lst {a:Addr}{xs:List V} (e:H a=some (.lst xs)):oG K H (.ref a) (.type "list")
 | frz {a:Addr}{o:Obj}{xs:List V} (e:H a=some (.frz o (.lst xs))):oG K H (.ref a) (.type "list")
 | tup {a:Addr}{xs:List V} (e:H a=some (.tup xs)):oG K H (.ref a) (.type "tuple")
 | dK {a:Addr}{kvs:List (Key×V)} (e:H a=some (.dK kvs)):oG K H (.ref a) (.type "dict")
 | dT {a:Addr}{kvs:List (List Key×V)} (e:H a=some (.dT kvs)):oG K H (.ref a) (.type "dict")
 | ins {a C dx:Addr}{fs:List (Str×V)} (e:H a=some (.ins C dx fs)) (cl:Cls K C) (ha:PySem.W.findIn K (.ref C) "__class__"=some (some (.builtin "object.__class__")))
   (hn:PySem.W.specialIn K (.builtin "object.__class__") "__get__"=some (some (.builtin "getset_descriptor.__get__"))) (htk:PySem.W.takesIn K (.builtin "object.__class__")=some true)
   (hm:PySem.W.mroIn K C (.type "object")=some true):oG K H (.ref a) (.ref C)
theorem uB {x:V}{u t:Value} (I:Inv X pins σ H s) (rx:dz x u) (ty:oG X.K H x t) (e:PySem.W.kitOne X.K t c=some b) (h:∀tk,Q (.bool b) { s with toks:=tk }) :
  wpAny (model X.prog X.w) A (call (.builtin "isinstance") [u,c]) Q E s:=by
 cases ty with
 | non=>cases (show u=Value.none from rx);exact PySem.W.kia_one PySem.W.kitx_none I.kIn True.intro e (fun z=>nomatch z) h
 | bl y=>cases (show u=Value.bool y from rx);exact PySem.W.kia_one PySem.W.kitx_bool I.kIn True.intro e (fun z=>nomatch z) h
 | int i=>obtain ⟨t,q⟩:=(show ∃t,u=Value.int i t from rx);cases q;exact PySem.W.kia_one PySem.W.kitx_int I.kIn True.intro e (fun z=>nomatch z) h
 | str y=>obtain ⟨t,q⟩:=(show ∃t,u=Value.str y t from rx);cases q;exact PySem.W.kia_one PySem.W.kitx_str I.kIn True.intro e (fun z=>nomatch z) h
 | flt y=>obtain ⟨t,q⟩:=(show ∃t,u=Value.float y t from rx);cases q;exact PySem.W.kia_one PySem.W.kitx_float I.kIn True.intro e (fun z=>nomatch z) h
 | @lst a xs ea =>
  cases (show u=Value.ref a from rx)
  obtain ⟨_,_,n,_,h1⟩:=(show cH X.prog X.w H s.heap a (.lst xs) from I.hok a _ ea)
  exact PySem.W.kia_one PySem.W.kitx_list I.kIn ⟨_,h1,rfl⟩ e (fun z=>nomatch z) h
 | @frz a ob xs ea =>
  cases (show u=Value.ref a from rx)
  obtain ⟨_,_,_,n,_,h1⟩:=(show cH X.prog X.w H s.heap a (.frz ob (.lst xs)) from I.hok a _ ea)
  exact PySem.W.kia_one PySem.W.kitx_list I.kIn ⟨_,h1,rfl⟩ e (fun z=>nomatch z) h
 | @tup a xs ea =>
  cases (show u=Value.ref a from rx)
  obtain ⟨_,_,_,p⟩:=(show cH X.prog X.w H s.heap a (.tup xs) from I.hok a _ ea)
  obtain ⟨o,h1,h2,_⟩:=p
  exact PySem.W.kia_one PySem.W.kitx_tuple I.kIn ⟨o,h1,h2⟩ e (fun z=>nomatch z) h
 | @dK a kvs ea =>
  cases (show u=Value.ref a from rx)
  obtain ⟨_,_,vs,_,p⟩:=(show cH X.prog X.w H s.heap a (.dK kvs) from I.hok a _ ea)
  obtain ⟨o,es,ep,h1,h2,_⟩:=p
  exact PySem.W.kia_one PySem.W.kitx_dict I.kIn ⟨o,h1,h2.1⟩ e (fun z=>nomatch z) h
 | @dT a kvs ea =>
  cases (show u=Value.ref a from rx)
  obtain ⟨_,_,xs,_,o,es,ep,h1,h2,_⟩:=(show cH X.prog X.w H s.heap a (.dT kvs) from I.hok a _ ea)
  exact PySem.W.kia_one PySem.W.kitx_dict I.kIn ⟨o,h1,h2.1⟩ e (fun z=>nomatch z) h
 | @ins a C dx fs ea cl ha hn htk hm =>
  cases (show u=Value.ref a from rx)
  obtain ⟨mA,O,_⟩:=kG I.hok ea
  obtain ⟨od,J,_⟩:=O.look
  exact PySem.W.kia_one (PySem.W.kitx_own (cl.get _) cl.hd ha hn htk hm) I.kIn J e (fun z=>nomatch z) h
end
structure gq (k:Nat) (A:Around):Prop where
 hd:A.handled=none
 dp:A.depth + 3 * k + 5 < recursionLimit
 un:A.units + 16 * k + 200 < cLine
theorem gq.mono {j k:Nat}{A:Around} (r:gq k A) (h:j<=k):gq j A:=⟨r.hd,by have:=r.dp;omega,by have:=r.un;omega⟩
theorem gq.deeper {k:Nat}{A:Around} (r:gq (k + 1) A) (env:Env):gq k (A.deeper env) :=
 ⟨r.hd,by have:=r.dp;show A.depth + 1 + 3 * k + 5 < _;omega,by have:=r.un;show A.units + 3 + 16 * k + 200 < _;omega⟩
theorem sV {A:Around}{C:Addr}{us:List Value}{kw:List (Str×Value)}:(A.under (.builtin "type.__call__" ⟨.ref C::us,kw⟩)).depth=A.depth + 1:=by
 first | rfl | simp [Around.under,Code.weight,Code.isCreation,Code.isGuard,Code.isCaller,Code.frames,Code.isFrame,guardIds]
theorem sW {A:Around}{C:Addr}{us:List Value}{kw:List (Str×Value)}:(A.under (.builtin "type.__call__" ⟨.ref C::us,kw⟩)).units=A.units + 1:=by
 first | rfl | simp [Around.under,Code.cUnits,Code.frames,Code.isFrame]
theorem gq.make {k:Nat}{A:Around} (r:gq (k + 1) A) (C:Addr) (us:List Value) (kw:List (Str×Value)):gq k (A.under (.builtin "type.__call__" ⟨.ref C::us,kw⟩)) :=
 ⟨r.hd,by have:=r.dp;rw [sV];omega,by have:=r.un;rw [sW];omega⟩
theorem gq.depth {k:Nat}{A:Around} (r:gq k A):A.depth < recursionLimit:=by have:=r.dp;omega
theorem gq.units {k:Nat}{A:Around} (r:gq k A):A.units + 64 < cLine:=by have:=r.un;omega
def e9:TA:=fun _ H Q=>Q [] H
def bx (ta:TE) (tr:TA):TA:=fun σ H Q=>ta σ H fun x H1=>tr σ H1 fun xs H2=>Q (x::xs) H2
section
variable {X:Cx}{e:Expr}{es:List Expr}{te:TE}{t:TA}{pos:Pos}
theorem ag:PA X [] e9:=fun _ _ _ _ H Q I h=>Calls.spliced_nil ⟨[],H,I,.nil,h⟩
theorem yO (ha:PE X e te) (hr:PA X es t) (hs:starEach (e::es) X.env=(false,eval e X.env)::starEach es X.env:=by rfl):PA X (e::es) (bx te t):=by
 intro pos pins s σ H Q I h
 rw [hs]
 show wpAny _ _ (spliced ((false,eval e X.env)::backTo pos (starEach es X.env))) _ _ s
 refine Calls.spliced_cons (thn (ha pins s σ H _ I h) fun u s1 ⟨x,H1,I1,r1,q1⟩=>?_)
 exact thn (hr pos pins s1 σ H1 _ I1 q1) fun us s2 ⟨xs,H2,I2,r2,q2⟩=>⟨x::xs,H2,I2,.cons r1 r2,q2⟩
def Cm (t:TA):TE:=fun σ H Q=>t σ H fun xs H1=>xs.length<=sizeLine/\∀p,H1 p=none->Q (.ref p) (upd H1 p (.tup xs))
def DG (t:TA):TE:=fun σ H Q=>t σ H fun xs H1=>xs.length<=sizeLine/\∀p,H1 p=none->Q (.ref p) (upd H1 p (.lst xs))
theorem rL {x1} (h:PA X es t):PE X (.Tuple es x1 pos) (Cm t):=by
 intro pins s σ H Q I hq
 refine wpAny_Tuple_spliced (thn (h pos pins s σ H _ I hq) fun us s1 ⟨xs,H1,I1,r,z,q⟩=>⟨by rw [<- r.length];exact z,?_⟩)
 have hf:H1 s1.heap.objs.size=none:=I1.hok.fresh (Nat.le_refl _)
 refine ⟨.ref s1.heap.objs.size,upd H1 s1.heap.objs.size (.tup xs),I1.laid (t':=s1.toks) (fun b u e=>Heap.get?_push_of_some _ e) (Nat.le_refl _) ?_,rfl,q _ hf⟩
 exact ⟨z,us,r,⟨_,Heap.get?_push_size _ rfl,rfl,_,rfl⟩⟩
theorem bb (h:PA X es t):PE X (.List es pos) (DG t):=by
 intro pins s σ H Q I hq
 refine wpAny_List_spliced (thn (h pos pins s σ H _ I hq) fun us s1 ⟨xs,H1,I1,r,z,q⟩=>⟨by rw [<- r.length];exact z,?_⟩)
 have hf:H1 s1.heap.objs.size=none:=I1.hok.fresh (Nat.le_refl _)
 refine ⟨.ref s1.heap.objs.size,upd H1 s1.heap.objs.size (.lst xs),I1.laid (t':=s1.toks) (fun b u e=>Heap.get?_push_of_some _ e) (Nat.le_refl _) ?_,rfl,q _ hf⟩
 exact ⟨z,us,0,r,Heap.get?_push_size _ rfl⟩
end
abbrev Sp:=List V->Hp->VK->XK->Prop
abbrev CXT:=List Env->Hp->Shared->XK->Value->Shared->Prop
structure yP (P:Program) (w:World) (K:PySem.W.Frag) (mg:Str->Option Value) (base:Heap) (A:Around) (outer:List Env) (s:Shared) (H:Hp):Prop where
 frames:A.frames=some outer
 mod:Mod K mg base
 bs:∀b o,base.get? b=some o->s.heap.get? b=some o/\H b=none
 bsz:base.objs.size<=s.heap.objs.size
 funs:s.heap.FunFrames base outer
 frf:∀b∈frs outer,H b=none
 hok:HOk P w H s.heap
 bare:AllBare s.gens
def CE (outer:List Env) (P:Program) (w:World) (H:Hp) (s:Shared) (Q:VK) (u:Value) (s':Shared):Prop :=
 ∃v H',s'.os=s.os/\AllBare s'.gens/\Un (frs outer) [] H H' s.heap s'.heap/\HOk P w H' s'.heap/\dz v u/\Q v H'
def CR (CX:CXT) (outer:List Env) (P:Program) (w:World) (H:Hp) (s:Shared) (Q:VK) (E:XK) (r:Result) (s':Shared):Prop :=
 match r with
 | .ok (.ret u)=>CE outer P w H s Q u s'
 | .ok _=>False
 | .error e=>CX outer H s E e s'
structure mS (P:Program) (w:World) (K:PySem.W.Frag) (mg:Str->Option Value) (base:Heap) (CX:CXT) (k:Nat) (f:Addr) (fd:FuncData) (ps:List Str) (sp:Sp):Prop where
 len:∀vs H Q E,sp vs H Q E->vs.length=ps.length
 run:∀(A:Around) (outer:List Env) (s:Shared) (H:Hp) (args:Args) (us:List Value) (vs:List V) (Q:VK) (E:XK),gq k A->yP P w K mg base A outer s H->BindsTo s fd args (ps.zip us)->bW vs us->sp vs H Q E ->
  codeAny (model P w) A (.call (.ref f) args) (CR CX outer P w H s Q E) s
theorem mS.imp {P:Program}{w:World}{K:PySem.W.Frag}{mg:Str->Option Value}{base:Heap}{CX:CXT}{k:Nat}{f:Addr}{fd:FuncData}{ps:List Str}{sp sp':Sp} (F:mS P w K mg base CX k f fd ps sp)
  (h:∀vs H Q E,sp' vs H Q E->sp vs H Q E):mS P w K mg base CX k f fd ps sp' :=
 ⟨fun vs H Q E q=>F.len vs H Q E (h _ _ _ _ q),fun A outer s H args us vs Q E hr he hb hv hs=>F.run A outer s H args us vs Q E hr he hb hv (h _ _ _ _ hs)⟩
theorem yP.make {P:Program}{w:World}{K:PySem.W.Frag}{mg:Str->Option Value}{base:Heap}{A:Around}{outer:List Env}{s:Shared}{H:Hp} (e:yP P w K mg base A outer s H) (C:Addr) (us:List Value) (kw:List (Str×Value)) :
  yP P w K mg base (A.under (.builtin "type.__call__" ⟨.ref C::us,kw⟩)) outer s H:=⟨by first | exact e.frames | (simpa [Around.under,Code.envs,Code.isFrame,pushEnvs] using e.frames),e.mod,e.bs,e.bsz,e.funs,e.frf,e.hok,e.bare⟩
section
variable {X:Cx}{pins:List (Addr×Obj)}{σ:St}{H:Hp}{s s':Shared}
theorem Inv.env0 (I:Inv X pins σ H s):yP X.prog X.w X.K X.mg X.base X.A X.stack s H :=
 ⟨I.ok.frames,I.ok.mod,I.bs,Nat.le_trans I.ok.bsz I.sz,I.stack,I.stkFree,I.hok,I.bare⟩
theorem Inv.after {Q:VK}{u:Value} (I:Inv X pins σ H s) (h:CE X.stack X.prog X.w H s Q u s'):EP X pins σ Q u s':=by
 obtain ⟨v,H',os,bare,un,hok,r,q⟩:=h
 obtain ⟨hh,g,d,t,os'⟩:=s'
 obtain rfl:os'=s.os:=os
 exact ⟨v,H',I.call (h':=hh) (g':=g) (d':=d) (t':=t) (ch:=[]) un hok bare (fun b z=>absurd z (by simp)),r,q⟩
end
def eY (sp:Sp) (dvs:List V) (E:XK) (t:TA):TE:=fun σ H Q=>t σ H fun vs H1=>sp (vs++dvs) H1 Q E
def yQ (C:Addr) (m:Str) (sp:Sp) (dvs:List V) (E:XK) (ta:TE) (t:TA):TE:=fun σ H Q=>ta σ H fun x H1=>∃a dx fs,x=.ref a/\H1 a=some (.ins C dx fs)/\fs.lookup m=none /\
 t σ H1 fun vs H2=>sp (x::(vs++dvs)) H2 Q E
def wI (C:Addr) (sp:Sp) (dvs:List V) (E:XK) (t:TA):TE:=fun σ H Q=>t σ H fun vs H1=>∀x dx,H1 x=none->H1 dx=none->dx≠x ->
 sp (.ref x::(vs++dvs)) (upd (upd H1 dx (.own x)) x (.ins C dx [])) (fun v H2=>v=.non/\Q (.ref x) H2) E
def jc (K:PySem.W.Frag) (fd:FuncData) (ps:List Str) (ds:List Value):Prop :=
 ∀(s:Shared) (us:List Value),K.In s.heap->(us++ds).length=ps.length->BindsTo s fd ⟨us,[]⟩ (ps.zip (us++ds))
theorem jc.all {K:PySem.W.Frag}{fd:FuncData}{ps:List Str} (h:∀us:List Value,us.length=ps.length->bindArgs fd ⟨us,[]⟩=pure (ps.zip us)):jc K fd ps []:=fun s us _ hl=>by
 rw [List.append_nil] at hl ⊢
 exact .of_eq (h us hl)
def mT (CX:CXT) (X:Cx) (E:XK):Prop:=∀(pins:List (Addr×Obj)) (σ:St) (H:Hp) (s:Shared) (e:Value) (s':Shared),Inv X pins σ H s->CX X.stack H s E e s'->X.xe e s'
section
variable {X:Cx}{CX:CXT}{k:Nat}{f C:Addr}{fd:FuncData}{ps:List Str}{sp:Sp}{dvs:List V}{ds:List Value}{E:XK}{x m:Str}{p pos apos:Pos}{e o:Expr}{es:List Expr}{ta:TE}{t:TA}
theorem x4 {pins:List (Addr×Obj)}{σ:St}{H:Hp}{s:Shared}{Q:VK}{us:List Value}{vs:List V} (F:mS X.prog X.w X.K X.mg X.base CX k f fd ps sp) (hr:gq k X.A) (hb:jc X.K fd ps ds) (hd:bW dvs ds) (hx:mT CX X E)
  (I:Inv X pins σ H s) (r:bW vs us) (h:sp (vs++dvs) H Q E):wpAny (model X.prog X.w) X.A (call (.ref f) us) (EP X pins σ Q) X.xe s:=by
 have r2:bW (vs++dvs) (us++ds):=r.append hd
 have hl:(us++ds).length=ps.length:=by rw [<- r2.length];exact F.len _ _ _ _ h
 refine wpAny_call (codeAny_mono (F.run X.A X.stack s H ⟨us,[]⟩ (us++ds) (vs++dvs) Q E hr I.env0 (hb s us I.kIn hl) r2 h) fun r s' hq=>?_)
 cases r with
 | error e=>exact hx pins σ H s e s' I hq
 | ok fl =>
  cases fl with
  | ret u=>exact I.after hq
  | next=>exact False.elim hq
  | brk=>exact False.elim hq
  | cont=>exact False.elim hq
theorem uC (F:mS X.prog X.w X.K X.mg X.base CX k f fd ps sp) (hr:gq k X.A) (hg:Gl X x) (hm:X.mg x=some (.ref f)) (hk:PySem.W.keepIn X.K (.ref f)=true) (hb:jc X.K fd ps ds) (hd:bW dvs ds) (hx:mT CX X E)
  (ha:PA X (e::es) t) (hdb:(x == ("__debug__":Str))=false:=by decide) (he:starEach (e::es) X.env=(false,eval e X.env)::starEach es X.env:=by rfl) (hpl:(backTo pos (starEach es X.env)).any (·.1)=false:=by rfl) :
  PE X (.Call (.Name x p) (e::es) [] pos) (eY sp dvs E t):=by
 intro pins s σ H Q I h
 refine wpAny_Call_Name_kw (qs I hg hm ?_ hdb)
 refine PySem.W.callWith_K (h₀:=X.base) I.ok.mod.kin hk (thn (ha pos pins s σ H _ I h) fun us s1 ⟨vs,H1,I1,r,q⟩=>⟨I1.kIn,?_⟩) he hpl
 exact x4 F hr hb hd hx I1 r q
theorem wJ {pl:Sem Bool} (he:PE X o ta) (c:Cls X.K C) (hm:Ck X.K C m f) (F:mS X.prog X.w X.K X.mg X.base CX k f fd ps sp) (hr:gq k X.A) (hb:jc X.K fd ps ds) (hd:bW dvs ds) (hx:mT CX X E)
  (ht:eval (.Call (.Attribute o m apos) [] [] pos) X.env=(do
   let ov <- eval o X.env
   standAt apos.atName
   let (f,first) <- holding [ov] (getMethod ov m pl)
   callWith pos f first (backTo pos (starEach [] X.env)) (backToKw pos (keywordEach [] X.env))):=by rfl) :
  PE X (.Call (.Attribute o m apos) [] [] pos) (yQ C m sp dvs E ta e9):=by
 intro pins s σ H Q I h
 refine PySem.W.methodCall_KW (pl:=pl) (thn (he pins s σ H _ I h) fun u s1 ⟨x,H1,I1,rx,a,dx,fs,ex,ea,l,q⟩=>?_) ht
 subst ex
 obtain rfl:u=Value.ref a:=rx
 refine sS I1 ea c hm l ?_
 exact PySem.W.callWith_K0 (first:=[.ref a]) I1.kIn hm.kp (x4 (us:=[.ref a]) (vs:=[.ref a]) F hr hb hd hx I1 (.cons rfl .nil) q)
structure Mk (K:PySem.W.Frag) (C f:Addr):Prop where
 makes:PySem.W.makesIn K C=true
 init:PySem.W.findIn K (.ref C) "__init__"=some (some (.ref f))
 fn:PySem.W.isFn K (.ref f)=true
 kp:PySem.W.keepIn K (.ref C)=true
theorem wK {pins:List (Addr×Obj)}{σ:St}{H:Hp}{s:Shared}{Q:VK}{us:List Value}{vs:List V} (M:Mk X.K C f) (F:mS X.prog X.w X.K X.mg X.base CX k f fd ps sp) (hr:gq (k + 1) X.A) (hb:jc X.K fd ps ds) (hd:bW dvs ds)
  (hx:mT CX X E) (I:Inv X pins σ H s) (r:bW vs us)
  (h:∀x dx,H x=none->H dx=none->dx≠x->sp (.ref x::(vs++dvs)) (upd (upd H dx (.own x)) x (.ins C dx [])) (fun v H2=>v=.non/\Q (.ref x) H2) E) :
  wpAny (model X.prog X.w) X.A (call (.ref C) us) (EP X pins σ Q) X.xe s:=by
 have hq:=h (s.heap.objs.size + 1) s.heap.objs.size (I.hok.fresh (Nat.le_succ _)) (I.hok.fresh (Nat.le_refl _)) (Nat.ne_of_lt (Nat.lt_succ_self _))
 have I2:=Inv.made (C:=C) I
 have r2:bW (V.ref (s.heap.objs.size + 1)::(vs++dvs)) (Value.ref (s.heap.objs.size + 1)::(us++ds)):=.cons rfl (r.append hd)
 have hl:(Value.ref (s.heap.objs.size + 1)::us++ds).length=ps.length:=by
  have e:=r2.length
  rw [F.len _ _ _ _ hq] at e
  exact e.symm
 refine wpAny_call (wH (f:=f) I.kIn M.makes M.init (beq_iff_eq.mp M.fn) (codeAny_mono (F.run _ X.stack _ _ ⟨Value.ref (s.heap.objs.size + 1)::us,[]⟩ (Value.ref (s.heap.objs.size + 1)::(us++ds)) _ _ E (hr.make C us [])
  (I2.env0.make C us []) (hb _ (Value.ref (s.heap.objs.size + 1)::us) I2.kIn hl) r2 hq) fun r s' hq'=>?_))
 cases r with
 | error e=>exact hx pins σ _ _ e s' I2 hq'
 | ok fl =>
  cases fl with
  | ret u =>
   obtain ⟨v,H',I3,rv,ev,q3⟩:=I2.after hq'
   subst ev
   exact ⟨rv,⟨V.ref (s.heap.objs.size + 1),H',I3,rfl,q3⟩⟩
  | next=>exact False.elim hq'
  | brk=>exact False.elim hq'
  | cont=>exact False.elim hq'
theorem yR (M:Mk X.K C f) (F:mS X.prog X.w X.K X.mg X.base CX k f fd ps sp) (hr:gq (k + 1) X.A) (hg:Gl X x) (hm:X.mg x=some (.ref C)) (hb:jc X.K fd ps ds) (hd:bW dvs ds) (hx:mT CX X E)
  (ha:PA X (e::es) t) (hdb:(x == ("__debug__":Str))=false:=by decide) (he:starEach (e::es) X.env=(false,eval e X.env)::starEach es X.env:=by rfl) (hpl:(backTo pos (starEach es X.env)).any (·.1)=false:=by rfl) :
  PE X (.Call (.Name x p) (e::es) [] pos) (wI C sp dvs E t):=by
 intro pins s σ H Q I h
 refine wpAny_Call_Name_kw (qs I hg hm ?_ hdb)
 refine PySem.W.callWith_K (h₀:=X.base) I.ok.mod.kin M.kp (thn (ha pos pins s σ H _ I h) fun us s1 ⟨vs,H1,I1,r,q⟩=>⟨I1.kIn,?_⟩) he hpl
 exact wK M F hr hb hd hx I1 r q
end
structure aL (N P:List Str) (sc:Scope):Prop where
 kind:sc.kind=.function
 co:sc.isCoroutine=false
 gen:sc.isGenerator=false
 nd:N.Nodup
 pre:N.take P.length=P
 par:∀x∈P,sc.names.lookup x=some .local\/sc.names.lookup x=some .cell
 nofree:∀y∈sc.names,y.2≠.free
theorem oJ {kindOf:Str->Option NameKind}{x:Str}:∀{binds:List (Str×Value)}{m:Str->Option Value},(∀v,(x,v)∉binds)->bindL kindOf binds m x=m x
 | [],_,_=>rfl
 | (n,v)::r,m,h=>by
  unfold bindL
  rw [oJ fun w hw=>h w (List.mem_cons_of_mem _ hw)]
  split
  .have:x≠n:=by rintro rfl;exact h v List.mem_cons_self
   simp [this]
  .rfl
theorem oK {kindOf:Str->Option NameKind}{x:Str}:∀{binds:List (Str×Value)}{m:Str->Option Value},(∀v,(x,v)∉binds)->bindC kindOf binds m x=m x
 | [],_,_=>rfl
 | (n,v)::r,m,h=>by
  unfold bindC
  rw [oK fun w hw=>h w (List.mem_cons_of_mem _ hw)]
  split
  .rfl
  .have:x≠n:=by rintro rfl;exact h v List.mem_cons_self
   simp [this]
theorem oM {kindOf:Str->Option NameKind}{x:Str}{v:Value}:∀{P:List Str}{vs:List Value}{i:Nat}{m:Str->Option Value},P.Nodup->P[i]?=some x->vs[i]?=some v->kindOf x=some .local ->
  bindL kindOf (P.zip vs) m x=some v
 | [],_,_,_,_,h,_,_=>by simp at h
 | _::_,[],_,_,_,_,h,_=>by simp at h
 | p::P,w::vs,0,m,nd,h1,h2,hk=>by
  simp at h1 h2;subst h1;subst h2
  show bindL kindOf ((p,w)::P.zip vs) m p=_
  unfold bindL
  rw [oJ fun v hv=>(List.nodup_cons.mp nd).1 (List.of_mem_zip hv).1,if_pos hk]
  simp
 | p::P,w::vs,i + 1,m,nd,h1,h2,hk=>by
  show bindL kindOf ((p,w)::P.zip vs) m x=_
  unfold bindL
  exact oM (i:=i) (List.nodup_cons.mp nd).2 (by simpa using h1) (by simpa using h2) hk
theorem oN {kindOf:Str->Option NameKind}{x:Str}{v:Value}:∀{P:List Str}{vs:List Value}{i:Nat}{m:Str->Option Value},P.Nodup->P[i]?=some x->vs[i]?=some v->kindOf x≠some .local ->
  bindC kindOf (P.zip vs) m x=some v
 | [],_,_,_,_,h,_,_=>by simp at h
 | _::_,[],_,_,_,_,h,_=>by simp at h
 | p::P,w::vs,0,m,nd,h1,h2,hk=>by
  simp at h1 h2;subst h1;subst h2
  show bindC kindOf ((p,w)::P.zip vs) m p=_
  unfold bindC
  rw [oK fun v hv=>(List.nodup_cons.mp nd).1 (List.of_mem_zip hv).1,if_neg hk]
  simp
 | p::P,w::vs,i + 1,m,nd,h1,h2,hk=>by
  show bindC kindOf ((p,w)::P.zip vs) m x=_
  unfold bindC
  exact oN (i:=i) (List.nodup_cons.mp nd).2 (by simpa using h1) (by simpa using h2) hk
def start (N:List Str) (vs:List V):St:=vs.map some++List.replicate (N.length - vs.length) none
def uD (CX:CXT) (P:Program) (w:World) (K:PySem.W.Frag) (mg:Str->Option Value) (base:Heap) (N:List Str) (qual:Str) (scope:Scope) (f:Addr) (cd:Value) (A:Around) (outer:List Env) (s:Shared) (H:Hp) (E:XK):Cx where
 prog:=P
 w:=w
 K:=K
 mg:=mg
 base:=base
 A:=A.deeper (envOfC qual scope s.heap.objs.size f cd)
 N:=N
 s₀:=s
 H₀:=H
 env:=envOfC qual scope s.heap.objs.size f cd
 outer:=outer
 stack:=envOfC qual scope s.heap.objs.size f cd::outer
 ex:=[]
 calm:=true
 fn:=fun _=>true
 pn:=[]
 xe:=fun e s'=>wpAny (model P w) (A.deeper (envOfC qual scope s.heap.objs.size f cd)) (leaving (envOfC qual scope s.heap.objs.size f cd) e) (fun _ s''=>CX outer H s E e s'') (fun e' s''=>CX outer H s E e' s'') s'
theorem rM {sc:Scope}{n:Nat}{x:Str} (h:sc.names.lookup x=some .cell):∃c,(cellsFrom n sc.names []).lookup x=some c:=by
 have q:=PySem.W.cellsFrom_some sc.names n [] (.inl h)
 exact Option.isSome_iff_exists.mp q
theorem uE {CX:CXT}{P:Program}{w:World}{K:PySem.W.Frag}{mg:Str->Option Value}{base:Heap}{N ps:List Str}{qual:Str}{scope:Scope}{f:Addr}{cd:Value}{A:Around}{outer:List Env}{s s1:Shared}{H:Hp}{E:XK}{us:List Value}{vs:List V}
  (S:aL N ps scope) (hd:A.handled=none) (e0:yP P w K mg base A outer s H) (hl:vs.length=ps.length) (r:bW vs us)
  (x:InCallC s s.heap.objs.size (bindL (envOfC qual scope s.heap.objs.size f cd).kindOf (ps.zip us) fun _=>none) (cellsFrom (s.heap.objs.size + 1) scope.names []) (bindC (envOfC qual scope s.heap.objs.size f cd).kindOf (ps.zip us) fun _=>none) s1) :
  Inv (uD CX P w K mg base N qual scope f cd A outer s H E) [] (start N vs) H s1:=by
 have hpl:ps.length<=N.length:=by have:=congrArg List.length S.pre;rw [List.length_take] at this;omega
 obtain ⟨h1,tk,rfl,hk⟩:=x.done
 have noA:∀b:Addr,b∉(uD CX P w K mg base N qual scope f cd A outer s H E).ex:=fun b z=>absurd (show b∈([]:List Addr) from z) (by simp)
 refine ⟨⟨e0.mod,S.kind,rfl,rfl,Nat.le_refl _,fun y z c h1 h2=>?_,fun y hy=>?_,fun y c _ h=>?_,fun _=>hd,Around.frames_deeper e0.frames,.inr ⟨rfl,rfl⟩,fun b z=>absurd z (noA b),e0.bs,e0.bsz,fun b _ _=>noA b,fun b z=>absurd z (noA b),e0.funs,e0.frf⟩,
  rfl,e0.bare,Un.kept hk,⟨_,x.toInCall.ns,fun i y v h1 h2 h3=>?_⟩,fun y c h=>⟨_,x.cell y c h⟩,e0.hok.fresh (Nat.le_refl _),fun y c h=>?_,fun p hp=>absurd (show p∈([]:List (Addr×Obj)) from hp) (by simp),e0.hok.kept hk,?_⟩
 .exact name_of_addr x.apart (PySem.mem_of_lookup h1) (PySem.mem_of_lookup h2)
 .have hy:scope.names.lookup y=some .cell\/scope.names.lookup y=some .free:=hy
  rcases hy with hy | hy
  .exact rM hy
  .exact absurd rfl (S.nofree _ (PySem.mem_of_lookup hy))
 .exact Nat.le_of_lt (x.above y c (PySem.mem_of_lookup h))
 .have hi:i < vs.length:=by
   unfold start at h2
   by_cases hi:i < vs.length
   .exact hi
   .rw [List.getElem?_append_right (by simpa using hi)] at h2
    rw [List.getElem?_replicate] at h2
    split at h2 <;> cases h2
  have ha:vs[i]?=some v:=by
   unfold start at h2
   rw [List.getElem?_append_left (by simpa using hi),List.getElem?_map] at h2
   cases e:vs[i]? with
   | none=>rw [e] at h2;cases h2
   | some a=>rw [e] at h2;cases h2;rfl
  obtain ⟨u,hu,rv⟩:=r.get ha
  have hp:ps[i]?=some y:=by
   rw [<- S.pre,List.getElem?_take_of_lt (by omega)];exact h1
  have ndP:ps.Nodup:=by rw [<- S.pre];exact S.nd.sublist (List.take_sublist _ _)
  refine ⟨u,rv,?_⟩
  rcases S.par y (List.mem_of_getElem? hp) with k | k
  .exact .inl ⟨k,oM ndP hp hu k⟩
  .obtain ⟨c,e⟩:=rM (n:=s.heap.objs.size + 1) k
   refine .inr ⟨.inl k,c,e,?_⟩
   have q:=x.cell y c e
   rw [oN ndP hp hu (by show scope.names.lookup y≠_;rw [k];decide)] at q
   exact q
 .exact e0.hok.fresh (Nat.le_of_lt (x.above y c (PySem.mem_of_lookup h)))
 .unfold start
  show _=N.length
  rw [List.length_append,List.length_map,List.length_replicate]
  omega
theorem AR {CX:CXT}{P:Program}{w:World}{K:PySem.W.Frag}{mg:Str->Option Value}{base:Heap}{k:Nat}{f:Addr}{name qual:Str}{params:Arguments}{body:List Stmt}{scope:Scope}{dV kV doc pm cdv ct oc:Value}{an od:Option Addr}
  {osl:Array (Option Value)}{N ps:List Str}{sp:Sp} (lk:K.lookup f=some ⟨oc,od,.func (PySem.W.fnOf name qual params body scope dV kV doc pm an cdv ct),osl⟩) (hcd:PySem.W.codeIn K cdv qual=true) (S:aL N ps scope)
  (len:∀vs H Q E,sp vs H Q E->vs.length=ps.length)
  (hbody:∀(A:Around) (outer:List Env) (s:Shared) (H:Hp) (vs:List V) (Q:VK) (E:XK),gq k (A.deeper (envOfC qual scope s.heap.objs.size f cdv))->sp vs H Q E ->
   ∃t,PSs (uD CX P w K mg base N qual scope f cdv A outer s H E) body t/\t { nx:=fun _ H'=>Q .non H',rt:=Q } (start N vs) H) :
  mS P w K mg base CX (k + 1) f (PySem.W.fnOf name qual params body scope dV kV doc pm an cdv ct) ps sp:=by
 refine ⟨len,fun A outer s H args us vs Q E hr e0 hb r hsp=>?_⟩
 have hl:=len _ _ _ _ hsp
 have KX:K.In s.heap:=e0.mod.kin.keeps fun b o e=>(e0.bs b o e).1
 have lim:s.heap.NoLimit:=e0.mod.nolimit.keeps fun b o e=>(e0.bs b o e).1
 have hkind:∀y∈ps.zip us,scope.names.lookup y.1=some .local\/(scope.names.lookup y.1=some .cell/\((cellsFrom (s.heap.objs.size + 1) scope.names []).lookup y.1).isSome=true):=fun ⟨n,v⟩ hy=>by
  rcases S.par n (List.of_mem_zip hy).1 with q | q
  .exact .inl q
  .exact .inr ⟨q,PySem.W.cellsFrom_some _ _ _ (.inl q)⟩
 refine codeAny_call_function hr.depth (KX _ _ lk) rfl S.co S.gen rfl (PySem.W.codeRec_of KX hcd) (hb _ _ _ _ ?_)
 refine wpAny_newFunctionEnv_cells S.kind hkind fun env he s1 x=>?_
 subst he
 refine ⟨lim.keeps x.toInCall.keep,codeAny_func ?_⟩
 obtain ⟨t,ht,hq⟩:=hbody A outer s H vs Q E (hr.deeper _) hsp
 have I:Inv (uD CX P w K mg base N qual scope f cdv A outer s H E) [] (start N vs) H s1:=uE S hr.hd e0 hl r x
 refine wpAny_mono (ht [] s1 (start N vs) H _ I hq) (fun fl s' hs=>?_) fun e s' hs=>hs
 have fin:∀{σ':St}{H':Hp}{v:V}{u:Value},Inv (uD CX P w K mg base N qual scope f cdv A outer s H E) [] σ' H' s'->dz v u->Q v H'->CE outer P w H s Q u s' :=
  fun {σ' H' v u} J rv q=>⟨v,H',J.os,J.bare,J.base,J.hok,rv,q⟩
 cases fl with
 | ret u =>
  obtain ⟨v,σ',H',J,rv,q⟩:=hs
  exact fin J rv q
 | next =>
  obtain ⟨σ',H',J,q⟩:=hs
  exact fin (v:=V.non) (u:=Value.none) J rfl q
 | brk =>
  obtain ⟨_,_,_,q⟩:=hs
  exact False.elim q
 | cont =>
  obtain ⟨_,_,_,q⟩:=hs
  exact False.elim q
section
variable {X:Cx}{x:Str}{p pos:Pos}{e:Expr}{es:List Expr}{t:TA}{id T:String}{r:List V->Hp->VK->Prop}
def tCB (r:List V->Hp->VK->Prop) (t:TA):TE:=fun σ H Q=>t σ H fun vs H1=>r vs H1 Q
theorem wL (hc:bZ X (.builtin id) r) (hg:Gl X x) (hm:X.mg x=none) (hv:bootBuiltins x=some (.builtin id)) (ha:PA X (e::es) t) (hn:x≠"__name__":=by decide) (hdb:(x == ("__debug__":Str))=false:=by decide)
  (he:starEach (e::es) X.env=(false,eval e X.env)::starEach es X.env:=by rfl) (hpl:(backTo pos (starEach es X.env)).any (·.1)=false:=by rfl):PE X (.Call (.Name x p) (e::es) [] pos) (tCB r t):=by
 intro pins s σ H Q I h
 refine wpAny_Call_Name_kw (gp I hg hm hv ?_ hn hdb)
 exact PyProof.Rows.callWith_builtin1 (thn (ha pos pins s σ H _ I h) fun us s1 ⟨vs,H1,I1,r1,q1⟩=>hc pins s1 σ H1 vs us Q I1 r1 q1) he hpl
theorem uF (hc:bZ X (.type T) r) (hg:Gl X x) (hm:X.mg x=none) (hv:bootBuiltins x=some (.type T)) (ha:PA X (e::es) t) (hn:x≠"__name__":=by decide) (hdb:(x == ("__debug__":Str))=false:=by decide)
  (he:starEach (e::es) X.env=(false,eval e X.env)::starEach es X.env:=by rfl) (hpl:(backTo pos (starEach es X.env)).any (·.1)=false:=by rfl):PE X (.Call (.Name x p) (e::es) [] pos) (tCB r t):=by
 intro pins s σ H Q I h
 refine wpAny_Call_Name_kw (gp I hg hm hv ?_ hn hdb)
 exact PyProof.Rows.callWith_type1 (thn (ha pos pins s σ H _ I h) fun us s1 ⟨vs,H1,I1,r1,q1⟩=>hc pins s1 σ H1 vs us Q I1 r1 q1) he hpl
end
end L2
namespace HT
open PySem PyProof.Rows
section
open PySem.SeqAt
open PySem.AutoSeq1 (wpAny_loadPart')
open PySem.MeetsSeq PySem.MeetsSeq2 PySem.MeetsSeq3
end
section
variable {prog:Program}{w:World}{A:Around}{E:Value->Shared->Prop}{s:Shared}
theorem cat_tup {t b:Addr}{vs ws:List Value}{Q:Value->Shared->Prop} (ht:IsTup s.heap t vs.toArray) (hb:IsTup s.heap b ws.toArray) (hv:vs≠[])
  (h1:ws=[]->Q (.ref t) s) (h2:ws≠[]->Q (.ref s.heap.objs.size) { s with heap:=s.heap.push { cls:=.type "tuple",data:=.seq (vs++ws).toArray } })
  (hsz:vs.length + ws.length<=sizeLine):wpAny (model prog w) A (binaryOp .Add (.ref t) (.ref b)) Q E s:=by
 obtain ⟨⟨cls,dd,data,sl⟩,ho,hc,n,hd⟩:=id ht
 obtain ⟨⟨cls2,dd2,data2,sl2⟩,ho2,hc2,n2,hd2⟩:=id hb
 simp only at hc hd hc2 hd2
 subst hc hd hc2 hd2
 have e:vs.toArray++ws.toArray=(vs++ws).toArray:=by simp
 by_cases hw:ws=[]
 .exact concat_meets ⟨_,ho,rfl⟩ ⟨_,ho2,rfl⟩ noFill_tuple_add seq_tuple_add PySem.F.slot_tuple_add PySem.F.entry_tuple_add (PySem.F.args_tuple_add_2 _ _)
   (tuple_addW1 t b vs.toArray ws.toArray n n2 dd dd2 sl sl2 (by simpa using hv) (by simp [hw])) ⟨ho,ho2,h1 hw⟩
 .refine concat_meets ⟨_,ho,rfl⟩ ⟨_,ho2,rfl⟩ noFill_tuple_add seq_tuple_add PySem.F.slot_tuple_add PySem.F.entry_tuple_add (PySem.F.args_tuple_add_2 _ _)
   (tuple_addW2 t b vs.toArray ws.toArray n n2 dd dd2 sl sl2 (by simpa using hv) (by simpa using hw) (by rw [List.size_toArray,List.size_toArray];exact hsz)) ⟨ho,ho2,?_⟩
  rw [e]
  exact h2 hw
def sIx (n d:Nat):Option Int->Nat
 | none=>d
 | some v=>if v < 0 then (v + (n:Int)).toNat else min v.toNat n
theorem sIx_nat (n d k:Nat):sIx n d (some (k:Int))=min k n:=by
 show (if (k:Int) < 0 then ((k:Int) + (n:Int)).toNat else min (k:Int).toNat n)=min k n
 rw [if_neg (by omega),Int.toNat_natCast]
theorem sIx_le (n d:Nat) (hd:d<=n) (o:Option Int):sIx n d o<=n:=by
 cases o with
 | none=>exact hd
 | some v =>
  show (if v < 0 then (v + (n:Int)).toNat else min v.toNat n)<=n
  by_cases hv:v < 0
  .rw [if_pos hv];omega
  .rw [if_neg hv];exact Nat.min_le_right _ _
theorem clip_eq (v:Int) (n d:Nat):(if v < 0 then max (v + (n:Int)) 0 else min v (n:Int))=((sIx n d (some v):Nat):Int):=by
 show (if v < 0 then max (v + (n:Int)) 0 else min v (n:Int))=(((if v < 0 then (v + (n:Int)).toNat else min v.toNat n):Nat):Int)
 by_cases hv:v < 0
 .simp only [if_pos hv];omega
 .simp only [if_neg hv];omega
theorem sX (lo hi:Option Int) (n:Nat):Builtin.Slice.sliceAdjust lo hi 1 (n:Int)=(((sIx n 0 lo:Nat):Int),((sIx n n hi:Nat):Int)):=by
 have h1:¬ ((1:Int) < 0):=by omega
 unfold Builtin.Slice.sliceAdjust
 simp only [h1,if_false]
 refine Prod.ext ?_ ?_
 .cases lo with
  | none=>rfl
  | some v=>exact clip_eq v n 0
 .cases hi with
  | none=>rfl
  | some v=>exact clip_eq v n n
theorem sY (i j:Nat):Builtin.Slice.slicePlaces (i:Int) (j:Int) 1=j - i:=by
 unfold Builtin.Slice.slicePlaces
 have h1:(1:Int) > 0:=by omega
 simp only [h1,if_true,Int.ediv_one]
 split <;> omega
theorem mU {v:Value}{o:Option Int}{Q:Option Int->Shared->Prop} (p:IsPart v o) (h:Q o s):wpAny (model prog w) A (Builtin.Slice.slicePartIndex v) Q E s:=by
 cases p with
 | none=>exact slicePart_none h
 | int i t=>exact slicePart_int h
theorem fS {sl:Addr}{vl vu:Value}{lo hi:Option Int}{n:Nat}{Q:Int×Int×Nat->Shared->Prop} (hs:s.heap.IsSliceOf sl vl vu .none) (pl:IsPart vl lo) (pu:IsPart vu hi)
  (h:Q (((sIx n 0 lo:Nat):Int),1,sIx n n hi - sIx n 0 lo) s):wpAny (model prog w) A (Builtin.Slice.sliceApplied (.ref sl) (pure (n:Int))) Q E s:=by
 obtain ⟨os,hos,hcs,hds⟩:=id hs
 unfold Builtin.Slice.sliceApplied Builtin.Slice.sliceFields
 refine wpAny_bind (wpAny_bind (wpAny_field hos hds (x:=vl) rfl (wpAny_bind (wpAny_field hos hds (x:=vu) rfl (wpAny_bind (wpAny_field hos hds (x:=.none) rfl (wpAny_pure ?_)))))))
 refine wpAny_bind (slicePart_none ?_)
 show wpAny _ _ (if ((1:Int) == 0)=true then _ else _) _ _ s
 rw [if_neg (by decide)]
 refine wpAny_bind (mU pl (wpAny_bind (mU pu (wpAny_bind (wpAny_pure ?_)))))
 show wpAny _ _ (match Builtin.Slice.sliceAdjust lo hi 1 (n:Int) with | (lo,hi)=>pure (lo,(1:Int),Builtin.Slice.slicePlaces lo hi 1)) _ _ s
 rw [sX lo hi n]
 show wpAny _ _ (pure (((sIx n 0 lo:Nat):Int),(1:Int),Builtin.Slice.slicePlaces ((sIx n 0 lo:Nat):Int) ((sIx n n hi:Nat):Int) 1)) _ _ s
 rw [sY]
 exact wpAny_pure h
theorem wM (xs:Array Value) (i k:Nat):((List.range k).filterMap fun (m:Nat)=>xs[((i:Int) + (m:Int) * 1).toNat]?).toArray=((xs.toList.drop i).take k).toArray:=by
 have e:(fun (m:Nat)=>xs[((i:Int) + (m:Int) * 1).toNat]?)=fun m=>xs[i + m]?:=by
  funext m
  have:((i:Int) + (m:Int) * 1).toNat=i + m:=by omega
  rw [this]
 rw [e]
 have:=pick_run xs i k
 rw [List.filterMap_map] at this
 have e2:((fun x=>xs[x]?) ∘ fun x=>i + x)=fun m=>xs[i + m]?:=rfl
 rw [e2] at this
 rw [this]
theorem getItem_tuple_cut {t sl:Addr}{items:Array Value}{vl vu:Value}{lo hi:Option Int}{Q:Value->Shared->Prop} (ht:IsTup s.heap t items) (hs:s.heap.IsSliceOf sl vl vu .none) (pl:IsPart vl lo) (pu:IsPart vu hi)
  (hw:¬ (sIx items.size 0 lo=0/\sIx items.size items.size hi=items.size))
  (h:Q (.ref s.heap.objs.size) { s with heap:=s.heap.push { cls:=.type "tuple",data:=.seq ((items.toList.drop (sIx items.size 0 lo)).take (sIx items.size items.size hi - sIx items.size 0 lo)).toArray } })
  (hsz:items.size<=sizeLine):wpAny (model prog w) A (getItem (.ref t) (.ref sl)) Q E s:=by
 have htake:sizeOk (.seq ((items.toList.drop (sIx items.size 0 lo)).take (sIx items.size items.size hi - sIx items.size 0 lo)).toArray):=by
  show ((items.toList.drop (sIx items.size 0 lo)).take (sIx items.size items.size hi - sIx items.size 0 lo)).toArray.size<=sizeLine
  rw [List.size_toArray,List.length_take,List.length_drop,Array.length_toList]
  omega
 have hj:sIx items.size items.size hi<=items.size:=sIx_le _ _ (Nat.le_refl _) hi
 obtain ⟨os,hos,hcs,hds⟩:=id hs
 have hTs:s.TypeIs (.ref sl) "slice":=⟨os,hos,hcs⟩
 unfold getItem
 try with_reducible refine wpAny_holding ?_
 first | refine wpAny_bind (wpAny_pure ?_) | skip
 refine wpAny_bind (wpAny_sequenceKey ht.typeIs (by decide) ?_)
 refine wpAny_bind (wpAny_callSpecial?_slot (name:=Str.ofString "__getitem__") ht.typeIs PyProof.Rows.slot_tuple_getitem
  (wpAny_call_entry PyProof.Rows.slot_tuple_getitem ht.typeIs entry_tuple_getitem ?_ (args_tuple_getitem _ _)))
 show wpAny _ _ (Builtin.Tuple.tupleItemsOf (.ref t) >>= _) _ _ s
 refine wpAny_bind (tupleItemsOf_ ht ?_)
 refine wpAny_bind (wpAny_typeOf hTs ?_)
 rw [if_pos (by decide)]
 refine wpAny_bind (fS hs pl pu ?_)
 have hno:¬ ((((sIx items.size 0 lo:Nat):Int) == 0 && (1:Int) == 1 && (sIx items.size items.size hi - sIx items.size 0 lo) == items.size)=true):=by
  intro q
  rw [Bool.and_eq_true,Bool.and_eq_true] at q
  have q1:((sIx items.size 0 lo:Nat):Int)=0:=eq_of_beq q.1.1
  have q2:sIx items.size items.size hi - sIx items.size 0 lo=items.size:=eq_of_beq q.2
  exact hw ⟨by omega,by omega⟩
 show wpAny _ _ (if (((sIx items.size 0 lo:Nat):Int) == 0 && (1:Int) == 1 && (sIx items.size items.size hi - sIx items.size 0 lo) == items.size)=true then _ else _) _ _ s
 rw [if_neg hno,wM]
 first
  | exact wpAny_bind (m:=Builtin.Tuple.tupleExact _) (wpAny_newObj_type (wpAny_pure ⟨_,rfl,wpAny_pure h⟩) htake)
  | exact wpAny_bind (m:=Builtin.Tuple.tupleExact _) (wpAny_newObj_type (wpAny_bind (wpAny_pure (wpAny_pure ⟨_,rfl,wpAny_pure h⟩))) htake)
  | exact wpAny_bind (wpAny_bind (m:=Builtin.Tuple.tupleExact _) (wpAny_newObj_type (wpAny_pure (wpAny_pure ⟨_,rfl,wpAny_pure h⟩)) htake))
  | exact wpAny_bind (wpAny_bind (m:=Builtin.Tuple.tupleExact _) (wpAny_newObj_type (wpAny_pure ⟨_,rfl,wpAny_pure h⟩) htake))
end
end HT
namespace L2
open PySem PySem.Spec PyProof.Rows
abbrev TO:=St->Hp->(Option Int->Hp->Prop)->Prop
def PO (X:Cx) (e:Option Expr) (t:TO):Prop :=
 ∀(pins:List (Addr×Obj)) (s:Shared) (σ:St) (H:Hp) (Q:Option Int->Hp->Prop),Inv X pins σ H s->t σ H Q ->
  wpAny (model X.prog X.w) X.A (evalPart e X.env) (fun u s'=>∃o H',Inv X pins σ H' s'/\IsPart u o/\Q o H') X.xe s
def uG:TO:=fun _ H Q=>Q none H
def AS (t:TE):TO:=fun σ H Q=>t σ H fun x H1=>∃i,x=.int i/\Q (some i) H1
theorem gL {ns:List Int}:∀{us:List Value},bW (ns.map V.int) us->IntsAre us ns:=by
 induction ns with
 | nil=>intro us r;rw [List.map_nil] at r;cases r;exact .nil
 | cons n ns ih =>
  intro us r
  rw [List.map_cons] at r
  cases r with
  | cons r1 r2 =>
   obtain ⟨t,e⟩:=r1
   subst e
   exact .cons n t (ih r2)
section
variable {X:Cx}{e:Expr}{te:TE}{lo hi:Option Expr}{tl th:TO}{pos p2:Pos}
theorem dq:PO X none uG:=by
 intro pins s σ H Q I h
 rw [evalPart_none]
 exact wpAny_pure ⟨none,H,I,.none,h⟩
theorem cI (h:PE X e te):PO X (some e) (AS te):=by
 intro pins s σ H Q I hw
 rw [evalPart_some]
 refine thn (h pins s σ H _ I hw) fun u s1 ⟨x,H1,I1,r1,q1⟩=>?_
 obtain ⟨i,rfl,q⟩:=q1
 obtain ⟨t,rfl⟩:=r1
 exact ⟨some i,H1,I1,.int i t,q⟩
def SlR (X:Cx) (r:V->Option Int->Option Int->Hp->VK->Prop):Prop :=
 ∀(pins:List (Addr×Obj)) (s:Shared) (σ:St) (H:Hp) (x:V) (v vl vu:Value) (lo hi:Option Int) (sl:Addr) (Q:VK),Inv X pins σ H s->dz x v->s.heap.IsSliceOf sl vl vu .none->IsPart vl lo->IsPart vu hi->r x lo hi H Q ->
  ∃T id,typeLookup (.type T) "__getitem__"=pure (some (.builtin id))/\s.TypeIs v T/\wpAny (model X.prog X.w) X.A (getItem v (.ref sl)) (EP X pins σ Q) X.xe s
theorem SlR.or {r r':V->Option Int->Option Int->Hp->VK->Prop} (h:SlR X r) (h':SlR X r'):SlR X (fun x lo hi H Q=>r x lo hi H Q\/r' x lo hi H Q):=by
 intro pins s σ H x v vl vu lo hi sl Q I rx hs pl pu q
 rcases q with q | q
 .exact h pins s σ H x v vl vu lo hi sl Q I rx hs pl pu q
 .exact h' pins s σ H x v vl vu lo hi sl Q I rx hs pl pu q
def tSl (r:V->Option Int->Option Int->Hp->VK->Prop) (te:TE) (tl th:TO):TE:=fun σ H Q=>te σ H fun x H1=>tl σ H1 fun l H2=>th σ H2 fun u H3=>r x l u H3 Q
theorem cu {r:V->Option Int->Option Int->Hp->VK->Prop} (hr:SlR X r) (he:PE X e te) (hl:PO X lo tl) (hu:PO X hi th):PE X (.Subscript e (.Slice lo hi none p2) pos) (tSl r te tl th):=by
 intro pins s σ H Q I h
 refine Subscript_ (thn (he pins s σ H _ I h) fun v s1 ⟨x,H1,I1,r1,q1⟩=>?_)
 refine wpAny_Slice (thn (hl pins s1 σ H1 _ I1 q1) fun vl s2 ⟨l,H2,I2,pl,q2⟩=>thn (hu pins s2 σ H2 _ I2 q2) fun vu s3 ⟨u,H3,I3,pu,q3⟩=>?_)
 rw [evalPart_none]
 refine wpAny_pure ?_
 have I4:Inv X pins σ H3 { s3 with heap:=s3.heap.push { cls:=.type "slice",data:=.fields #[vl,vu,.none] } }:=I3.kept (t':=s3.toks) fun b ob q=>Heap.get?_push_of_some _ q
 obtain ⟨T,id,hT,ht,hg⟩:=hr pins { s3 with heap:=s3.heap.push { cls:=.type "slice",data:=.fields #[vl,vu,.none] } } σ H3 x v vl vu l u s3.heap.objs.size Q I4 r1 (Heap.IsSliceOf.new ..) pl pu q3
 show wpAny (model X.prog X.w) X.A (subscriptTail e (.Slice lo hi none p2) v (.ref s3.heap.objs.size)) (EP X pins σ Q) X.xe { s3 with heap:=s3.heap.push { cls:=.type "slice",data:=.fields #[vl,vu,.none] } }
 exact tail_any (ops:=[.ref s3.heap.objs.size,v]) ht hT hg (by with_unfolding_all rfl)
def yS (xs:List V) (lo hi:Option Int):List V:=(xs.drop (HT.sIx xs.length 0 lo)).take (HT.sIx xs.length xs.length hi - HT.sIx xs.length 0 lo)
theorem kH (xs:List V) (lo hi:Option Int):(yS xs lo hi).length<=xs.length:=by
 unfold yS
 rw [List.length_take,List.length_drop]
 omega
def DH (K:PySem.W.Frag):V->Option Int->Option Int->Hp->VK->Prop:=fun x lo hi H Q=>∃a xs,x=.ref a/\SqT K H a xs /\
 ¬ (HT.sIx xs.length 0 lo=0/\HT.sIx xs.length xs.length hi=xs.length)/\∀p,H p=none->Q (.ref p) (upd H p (.tup (yS xs lo hi)))
theorem AT:SlR X (DH X.K):=by
 intro pins s σ H x v vl vu lo hi sl Q I rx hs pl pu h
 obtain ⟨a,xs,rfl,hx,hw,q⟩:=h
 cases rx
 obtain ⟨its,r,ht,hz⟩:=I.tuple hx
 have hlen:its.toArray.size=xs.length:=by rw [List.size_toArray];exact r.length.symm
 refine ⟨"tuple",_,PyProof.Rows.slot_tuple_getitem.lookup,ht.typeIs,?_⟩
 refine HT.getItem_tuple_cut ht hs pl pu (by rw [hlen];exact hw) ?_ (by rw [hlen];exact hz)
 rw [hlen]
 refine ⟨.ref s.heap.objs.size,_,I.laid (t':=s.toks) (o:=.tup (yS xs lo hi)) (fun b ob q=>Heap.get?_push_of_some _ q) (Nat.le_refl _) ?_,rfl,q _ (I.hok.fresh (Nat.le_refl _))⟩
 exact ⟨Nat.le_trans (kH xs lo hi) hz,_,(r.drop (HT.sIx xs.length 0 lo)).take (HT.sIx xs.length xs.length hi - HT.sIx xs.length 0 lo),IsTup.new _ _⟩
def AU (K:PySem.W.Frag):R2:=fun x y H Q=>∃a b xs ys,x=.ref a/\y=.ref b/\SqT K H a xs/\SqT K H b ys/\xs≠[]/\xs.length + ys.length<=sizeLine /\
 (ys=[]->Q (.ref a) H)/\(ys≠[]->∀p,H p=none->Q (.ref p) (upd H p (.tup (xs++ys))))
theorem bW.nil_iff {xs:List V}{us:List Value} (r:bW xs us):us=[] ↔ xs=[]:=by
 cases r with
 | nil=>simp
 | cons _ _=>simp
theorem yT:OpR X (binaryOp .Add) (AU X.K):=by
 intro pins s σ H x y v u Q I rx ry h
 obtain ⟨a,b,xs,ys,rfl,rfl,ha,hb,hx,hz,q1,q2⟩:=h
 cases rx
 cases ry
 obtain ⟨its,r1,p1,_⟩:=I.tuple ha
 obtain ⟨its2,r2,p2,_⟩:=I.tuple hb
 refine HT.cat_tup p1 p2 (fun z=>hx (r1.nil_iff.mp z)) (fun z=>⟨.ref a,H,I,rfl,q1 (r2.nil_iff.mp z)⟩) (fun z=>?_) (by rw [<- r1.length,<- r2.length];exact hz)
 refine ⟨.ref s.heap.objs.size,_,I.laid (t':=s.toks) (o:=.tup (xs++ys)) (fun b ob q=>Heap.get?_push_of_some _ q) (Nat.le_refl _) ?_,rfl,q2 (fun w=>z (r2.nil_iff.mpr w)) _ (I.hok.fresh (Nat.le_refl _))⟩
 exact ⟨by rw [List.length_append];exact hz,_,r1.append r2,IsTup.new _ _⟩
end
def ixN (n:Nat) (i:Int):Option Nat:=if 0<=i then (if i < n then some i.toNat else none) else if -(n:Int)<=i then some (i + n).toNat else none
def atI {α:Type} (xs:List α) (i:Int):Option α:=(ixN xs.length i).bind fun j=>xs[j]?
theorem qu {n:Nat}{i:Int}{j:Nat} (h:ixN n i=some j):seqIndex? i n=some j/\j < n/\-(n:Int)<=i/\i < n:=by
 unfold ixN at h
 by_cases h0:0<=i
 .rw [if_pos h0] at h
  by_cases h1:i < n
  .rw [if_pos h1] at h
   have e:i.toNat=j:=Option.some.inj h
   exact ⟨by rw [seqIndex_of h0 h1,e],by omega,by omega,h1⟩
  .rw [if_neg h1] at h;cases h
 .rw [if_neg h0] at h
  by_cases h1:-(n:Int)<=i
  .rw [if_pos h1] at h
   have e:(i + n).toNat=j:=Option.some.inj h
   exact ⟨by rw [seqIndex_neg (by omega) h1,e],by omega,h1,by omega⟩
  .rw [if_neg h1] at h;cases h
theorem qv {α:Type}{xs:List α}{i:Int}{v:α} (h:atI xs i=some v):∃j,seqIndex? i xs.length=some j/\xs[j]?=some v/\j < xs.length/\-(xs.length:Int)<=i/\i < xs.length:=by
 unfold atI at h
 cases e:ixN xs.length i with
 | none=>rw [e] at h;cases h
 | some j =>
  rw [e] at h
  obtain ⟨h1,h2,h3,h4⟩:=qu e
  exact ⟨j,h1,h,h2,h3,h4⟩
theorem yU {α:Type}{xs:List α}{j:Nat}{v:α} (h:xs[j]?=some v):atI xs (j:Int)=some v:=by
 have hj:j < xs.length:=(List.getElem?_eq_some_iff.mp h).1
 have e:ixN xs.length (j:Int)=some j:=by
  unfold ixN
  rw [if_pos (by omega),if_pos (by omega)];simp
 unfold atI;rw [e];exact h
def yV (b:Expr):Prop:=∀o i,subscripted b false o i=operate [o,i] (getItem o i)
def IxR (X:Cx) (r:R2):Prop :=
 ∀(value slice:Expr) (pins:List (Addr×Obj)) (s:Shared) (σ:St) (H:Hp) (x y:V) (v u:Value) (Q:VK),Inv X pins σ H s->dz x v->dz y u->r x y H Q ->
  subscripted slice false v u=operate [v,u] (getItem v u)->wpAny (model X.prog X.w) X.A (subscriptTail value slice v u) (EP X pins σ Q) X.xe s
def MtR (X:Cx) (id:String) (r:V->List V->Hp->VK->Prop):Prop :=
 ∀(pins:List (Addr×Obj)) (s:Shared) (σ:St) (H:Hp) (x:V) (xs:List V) (v:Value) (us:List Value) (Q:VK),Inv X pins σ H s->dz x v->bW xs us->r x xs H Q ->
  wpAny (model X.prog X.w) X.A (call (.builtin id) (v::us)) (EP X pins σ Q) X.xe s
section
variable {X:Cx}{a b:Expr}{ta tb:TE}{pos:Pos}
theorem IxR.or {r r':R2} (h:IxR X r) (h':IxR X r'):IxR X (fun x y H Q=>r x y H Q\/r' x y H Q):=by
 intro value slice pins s σ H x y v u Q I rx ry q hs
 rcases q with q | q
 .exact h value slice pins s σ H x y v u Q I rx ry q hs
 .exact h' value slice pins s σ H x y v u Q I rx ry q hs
theorem ba {r:R2} (hr:IxR X r) (ha:PE X a ta) (hb:PE X b tb) (hs:yV b):PE X (.Subscript a b pos) (tOp r ta tb):=by
 intro pins s σ H Q I h
 exact Subscript_ (CF ha hb I h fun v u s2 x y H2 I2 rx ry q=>hr a b pins s2 σ H2 x y v u Q I2 rx ry q (hs _ _))
def DI (K:PySem.W.Frag):R2:=fun x y H Q=>∃p xs i v,x=.ref p/\y=.int i/\SqL K H p xs/\atI xs i=some v/\Q v H
def DJ (K:PySem.W.Frag):R2:=fun x y H Q=>∃p xs i v,x=.ref p/\y=.int i/\SqT K H p xs/\atI xs i=some v/\Q v H
def Ea:R2:=fun x y H Q=>∃z i c,x=.str z/\y=.int i/\z.length<=sizeLine/\atI z.cps.toList i=some c/\Q (.str ⟨#[c]⟩) H
theorem yW:IxR X (DI X.K):=by
 intro value slice pins s σ H x y v u Q I rx ry h hs
 obtain ⟨p,xs,i,z,rfl,rfl,hq,he,q⟩:=h
 cases rx
 obtain ⟨t,rfl⟩:=ry
 obtain ⟨its,r,pl,hz⟩:=I.list hq
 obtain ⟨j,h1,h2,h3,h4,h5⟩:=qv he
 obtain ⟨w,ew,rw'⟩:=r.get h2
 have hl:=r.length
 have hn:=mP
 have fin:EP X pins σ Q w s:=⟨z,H,I,rw',q⟩
 by_cases h0:0<=i
 .have hj:i.toNat=j:=by
   rw [seqIndex_of h0 h5] at h1
   exact Option.some.inj h1
  exact item_listR pl.isList h0 (by omega) (by rw [hj];simpa using ew) fin hs
 .have hj:(i + (its.toArray.size:Int)).toNat=j:=by
   rw [seqIndex_neg (by omega) h4] at h1
   rw [List.size_toArray,<- hl]
   exact Option.some.inj h1
  exact subscriptTail_builtinR (x:=w) pl.isList.typeIs slot_list_getitem.lookup
   (wpAny_getItem_list_neg (Q:=fun r s'=>r=w/\EP X pins σ Q r s') pl.isList (by omega) (by rw [List.size_toArray] <;> omega) (by omega) (by rw [hj];simpa using ew) ⟨rfl,fin⟩) hs
theorem AW:IxR X (DJ X.K):=by
 intro value slice pins s σ H x y v u Q I rx ry h hs
 obtain ⟨p,xs,i,z,rfl,rfl,hq,he,q⟩:=h
 cases rx
 obtain ⟨t,rfl⟩:=ry
 obtain ⟨its,r,pl,hz⟩:=I.tuple hq
 obtain ⟨j,h1,h2,h3,h4,h5⟩:=qv he
 obtain ⟨w,ew,rw'⟩:=r.get h2
 have hl:=r.length
 have hn:=mP
 have fin:EP X pins σ Q w s:=⟨z,H,I,rw',q⟩
 exact subscriptTail_builtinR (x:=w) pl.typeIs slot_tuple_getitem.lookup
  (getItem_tuple (j:=j) (Q:=fun r s'=>r=w/\EP X pins σ Q r s') pl (by omega) (by omega) (by rw [List.size_toArray,<- hl];exact h1) (by simpa using ew) ⟨rfl,fin⟩) hs
theorem AX:IxR X Ea:=by
 intro value slice pins s σ H x y v u Q I rx ry h hs
 obtain ⟨z,i,c,rfl,rfl,hz,he,q⟩:=h
 obtain ⟨t,rfl⟩:=rx
 obtain ⟨t',rfl⟩:=ry
 obtain ⟨j,h1,h2,h3,h4,h5⟩:=qv he
 have hl:z.cps.toList.length=z.length:=by simp [Str.length]
 rw [hl] at h1 h4 h5
 have hn:=mP
 exact tail_any (typeIs_str s z t) slot_str_getitem.lookup (getItem_str (c:=c) (by
  have e1:decide (i < -(2 ^ 63:Int))=false:=decide_eq_false (by omega)
  have e2:decide (i >= 2 ^ 63)=false:=decide_eq_false (by omega)
  rw [e1,e2,Bool.or_false]) (by rw [h1];simpa using h2) ⟨.str ⟨#[c]⟩,H,I.tok _,⟨_,rfl⟩,q⟩) hs
theorem sZ (its:List Value) (n j:Nat) (u:Value):Obj.mapSeq (·.setIfInBounds j u) { cls:=.type "list",data:=.seq its.toArray n }={ cls:=.type "list",data:=.seq (its.set j u).toArray n }:=by
 simp [Obj.mapSeq]
theorem Inv.lst {pins:List (Addr×Obj)}{σ:St}{H:Hp}{s:Shared}{p:Addr}{xs:List V} (I:Inv X pins σ H s) (h:H p=some (.lst xs)) :
  ∃(its:List Value) (n:Nat),bW xs its/\s.heap.get? p=some { cls:=.type "list",data:=.seq its.toArray n }/\xs.length<=sizeLine:=by
 obtain ⟨z,its,n,r,e⟩:=I.hok p _ h
 exact ⟨its,n,r,e,z⟩
theorem Inv.lstUpd {pins:List (Addr×Obj)}{σ:St}{H:Hp}{s:Shared}{p:Addr}{xs ys:List V}{its its':List Value}{n n':Nat}{f:Obj->Obj} (I:Inv X pins σ H s) (h:H p=some (.lst xs))
  (ho:s.heap.get? p=some { cls:=.type "list",data:=.seq its.toArray n }) (hf:f { cls:=.type "list",data:=.seq its.toArray n }={ cls:=.type "list",data:=.seq its'.toArray n' }) (r:bW ys its') (hz:ys.length<=sizeLine) (t:Nat) :
  Inv X pins σ (upd H p (.lst ys)) { s with heap:=s.heap.update p f,toks:=t }:=by
 have e:(s.heap.update p f).get? p=some { cls:=.type "list",data:=.seq its'.toArray n' }:=by
  rw [Heap.get?_update_self f ho (by rw [hf] <;> rfl),hf]
 refine I.write (x:=p) (e:=p) (by rw [h];trivial) (.inl rfl) (fun b u hb q=>(Heap.get?_update_other _ _ (Ne.symm hb)).trans q) ⟨_,e⟩ ?_
 exact ⟨hz,its',n',r,e⟩
def wN:V->V->V->Hp->(Hp->Prop)->Prop:=fun o i v H Q=>∃p xs k j,o=.ref p/\i=.int k/\H p=some (.lst xs)/\ixN xs.length k=some j/\Q (upd H p (.lst (xs.set j v)))
theorem iH:DB X wN:=by
 intro pins s σ H o i v ov iv u Q I ro ri rv h
 obtain ⟨p,xs,k,j,rfl,rfl,hp,hj,q⟩:=h
 cases ro
 obtain ⟨t,rfl⟩:=ri
 obtain ⟨its,n,r,ho,hz⟩:=I.lst hp
 obtain ⟨h1,h2,h3,h4⟩:=qu hj
 have hl:=r.length
 have hn:=mP
 have I':Inv X pins σ (upd H p (.lst (xs.set j v))) { s with heap:=s.heap.update p (Obj.mapSeq (·.setIfInBounds j u)) } :=
  I.lstUpd hp ho (sZ its n j u) (r.set rv j) (by rw [List.length_set];exact hz) s.toks
 by_cases h0:0<=k
 .have hk:k.toNat=j:=by
   rw [seqIndex_of h0 h4] at h1
   exact Option.some.inj h1
  exact PySem.W.ki_setAt ho h0 (by omega) (by rw [List.size_toArray,<- hl];exact h4) (by rw [hk];exact ⟨_,I',q⟩)
 .have hk:(k + (its.toArray.size:Int)).toNat=j:=by
   rw [seqIndex_neg (by omega) h3] at h1
   rw [List.size_toArray,<- hl]
   exact Option.some.inj h1
  exact PySem.W.ki_setBack ho (by omega) (by rw [List.size_toArray,<- hl];exact h3) (by omega) (by rw [hk];exact ⟨_,I',q⟩)
theorem oO (lo hi:Option Int) (n:Nat):(sliceBounds lo hi none n).1=((HT.sIx n 0 lo:Nat):Int)/\(sliceBounds lo hi none n).2.1=((HT.sIx n n hi:Nat):Int)/\(sliceBounds lo hi none n).2.2=1:=by
 refine ⟨?_,?_,rfl⟩
 .cases lo with
  | none=>simp [sliceBounds,HT.sIx]
  | some i =>
   simp only [sliceBounds,HT.sIx,Option.getD_none,show (1:Int) > 0 by decide,if_true]
   by_cases h:i < 0
   .simp only [h,if_true] <;> omega
   .simp only [h,if_false] <;> omega
 .cases hi with
  | none=>simp [sliceBounds,HT.sIx]
  | some i =>
   simp only [sliceBounds,HT.sIx,Option.getD_none,show (1:Int) > 0 by decide,if_true]
   by_cases h:i < 0
   .simp only [h,if_true] <;> omega
   .simp only [h,if_false] <;> omega
theorem nt (its:List Value) (lo hi:Option Int):slicePick its.toArray lo hi none=((its.drop (HT.sIx its.length 0 lo)).take (HT.sIx its.length its.length hi - HT.sIx its.length 0 lo)).toArray:=by
 obtain ⟨h1,h2,h3⟩:=oO lo hi its.toArray.size
 unfold slicePick
 rw [h1,h2,h3]
 simp only [sliceRange_one,pick_run,List.size_toArray] <;> rfl
def DK (K:PySem.W.Frag):V->Option Int->Option Int->Hp->VK->Prop:=fun x lo hi H Q=>∃a xs,x=.ref a/\SqL K H a xs/\∀p,H p=none->Q (.ref p) (upd H p (.lst (yS xs lo hi)))
theorem yX:SlR X (DK X.K):=by
 intro pins s σ H x v vl vu lo hi sl Q I rx hs pl pu h
 obtain ⟨a,xs,rfl,hx,q⟩:=h
 cases rx
 obtain ⟨its,r,ht,hz⟩:=I.list hx
 have hlen:=r.length
 refine ⟨"list",_,slot_list_getitem.lookup,ht.isList.typeIs,?_⟩
 refine wpAny_getItem_list_slice ht.isList hs pl pu .none (by simp) ?_ (by rw [List.size_toArray] <;> omega)
 rw [nt,<- hlen]
 refine ⟨.ref s.heap.objs.size,_,I.laid (t':=s.toks) (o:=.lst (yS xs lo hi)) (fun b ob q=>Heap.get?_push_of_some _ q) (Nat.le_refl _) ?_,rfl,q _ (I.hok.fresh (Nat.le_refl _))⟩
 exact ⟨Nat.le_trans (kH xs lo hi) hz,_,0,(r.drop (HT.sIx xs.length 0 lo)).take (HT.sIx xs.length xs.length hi - HT.sIx xs.length 0 lo),Heap.get?_push_size _ rfl⟩
def l0:V->Bool
 | .non=>true
 | .bl _=>true
 | .int _=>true
 | .str _=>true
 | _=>false
def eqV:V->V->Bool
 | .non,.non=>true
 | .bl a,.bl b=>a == b
 | .bl a,.int b=>(if a then 1 else 0) == b
 | .int a,.bl b=>a == (if b then 1 else 0)
 | .int a,.int b=>a == b
 | .str a,.str b=>a == b
 | _,_=>false
theorem AY {A:Around}{s:Shared}{y x:V}{u v:Value} (ry:dz y u) (rx:dz x v) (fy:l0 y=true) (fx:l0 x=true):SeqAt.EqAt A s u v (eqV y x):=by
 cases y with
 | non =>
  cases ry
  cases x with
  | non=>cases rx;exact SeqAt.EqAt.same _
  | bl b=>cases rx;exact SeqAt.EqAt.none_bool b
  | int b=>obtain ⟨t,rfl⟩:=rx;exact SeqAt.EqAt.none_int b t
  | str b=>obtain ⟨t,rfl⟩:=rx;exact SeqAt.EqAt.none_str b t
  | _=>exact absurd (show false=true from fx) Bool.false_ne_true
 | bl a =>
  cases ry
  cases x with
  | non=>cases rx;exact SeqAt.EqAt.bool_none a
  | bl b=>cases rx;exact SeqAt.EqAt.bool_bool a b
  | int b=>obtain ⟨t,rfl⟩:=rx;exact SeqAt.EqAt.bool_int a b t
  | str b=>obtain ⟨t,rfl⟩:=rx;exact SeqAt.EqAt.bool_str a b t
  | _=>exact absurd (show false=true from fx) Bool.false_ne_true
 | int a =>
  obtain ⟨t',rfl⟩:=ry
  cases x with
  | non=>cases rx;exact SeqAt.EqAt.int_none a t'
  | bl b=>cases rx;exact SeqAt.EqAt.int_bool a t' b
  | int b=>obtain ⟨t,rfl⟩:=rx;exact SeqAt.EqAt.int_int a t' b t
  | str b=>obtain ⟨t,rfl⟩:=rx;exact SeqAt.EqAt.int_str a t' b t
  | _=>exact absurd (show false=true from fx) Bool.false_ne_true
 | str a =>
  obtain ⟨t',rfl⟩:=ry
  cases x with
  | non=>cases rx;exact SeqAt.EqAt.str_none a t'
  | bl b=>cases rx;exact SeqAt.EqAt.str_bool a t' b
  | int b=>obtain ⟨t,rfl⟩:=rx;exact SeqAt.EqAt.str_int a t' b t
  | str b=>obtain ⟨t,rfl⟩:=rx;exact SeqAt.EqAt.str_str a t' b t
  | _=>exact absurd (show false=true from fx) Bool.false_ne_true
 | _=>exact absurd (show false=true from fy) Bool.false_ne_true
def eqU (x:V) (u:Value):Bool:=match u with
 | .none=>eqV .non x
 | .bool b=>eqV (.bl b) x
 | .int i _=>eqV (.int i) x
 | .str z _=>eqV (.str z) x
 | _=>false
theorem x5 {x y:V}{u:Value} (r:dz y u) (f:l0 y=true):eqU x u=eqV y x:=by
 cases y with
 | non=>cases r;rfl
 | bl b=>cases r;rfl
 | int i=>obtain ⟨t,rfl⟩:=r;rfl
 | str z=>obtain ⟨t,rfl⟩:=r;rfl
 | _=>exact absurd (show false=true from f) Bool.false_ne_true
theorem kI {x:V}:∀{xs:List V}{us:List Value},bW xs us->xs.all l0=true->us.any (eqU x)=xs.any fun y=>eqV y x
 | _,_,.nil,_=>rfl
 | y::xs,u::us,.cons r t,f=>by
  rw [List.all_cons,Bool.and_eq_true] at f
  rw [List.any_cons,List.any_cons,x5 r f.1,kI t f.2]
theorem iI {A:Around}{s:Shared}{x:V}{v:Value} (rx:dz x v) (fx:l0 x=true):∀{xs:List V}{us:List Value},bW xs us->xs.all l0=true->∀u∈us,SeqAt.EqAt A s u v (eqU x u)
 | _,_,.nil,_=>fun u hu=>by cases hu
 | y::xs,u::us,.cons r t,f=>fun u' hu=>by
  rw [List.all_cons,Bool.and_eq_true] at f
  rcases List.mem_cons.mp hu with rfl | hu
  .rw [x5 r f.1];exact AY r rx f.1 fx
  .exact iI rx fx t f.2 u' hu
def inV (x:V) (xs:List V):Bool:=xs.any fun y=>eqV y x
def rIn (K:PySem.W.Frag) (neg:Bool):R2:=fun x y H Q=>∃p xs,y=.ref p/\(SqL K H p xs\/SqT K H p xs)/\l0 x=true/\xs.all l0=true/\Q (.bl (if neg then !inV x xs else inV x xs)) H
theorem uH:OpR X (compareOp .In) (rIn X.K false):=by
 intro pins s σ H x y v u Q I rx ry h
 obtain ⟨p,xs,rfl,hq,fx,fs,q⟩:=h
 cases ry
 rcases hq with hq | hq
 .obtain ⟨its,r,pl,hz⟩:=I.list hq
  refine SeqAt.in_listAt (eqU x) pl.isList (fun w hw=>iI rx fx r fs w (by simpa using hw)) ⟨.bl _,H,I,rfl,?_⟩
  rw [show its.toArray.any (eqU x)=its.any (eqU x) by simp,kI r fs]
  exact q
 .obtain ⟨its,r,pl,hz⟩:=I.tuple hq
  refine SeqAt.in_tupleAt (eqU x) pl (fun w hw=>iI rx fx r fs w (by simpa using hw)) ⟨.bl _,H,I,rfl,?_⟩
  rw [show its.toArray.any (eqU x)=its.any (eqU x) by simp,kI r fs]
  exact q
theorem oP:OpR X (compareOp .NotIn) (rIn X.K true):=by
 intro pins s σ H x y v u Q I rx ry h
 obtain ⟨p,xs,rfl,hq,fx,fs,q⟩:=h
 cases ry
 rcases hq with hq | hq
 .obtain ⟨its,r,pl,hz⟩:=I.list hq
  refine SeqAt.notIn_listAt (eqU x) pl.isList (fun w hw=>iI rx fx r fs w (by simpa using hw)) ⟨.bl _,H,I,rfl,?_⟩
  rw [show its.toArray.any (eqU x)=its.any (eqU x) by simp,kI r fs]
  exact q
 .obtain ⟨its,r,pl,hz⟩:=I.tuple hq
  refine SeqAt.notIn_tupleAt (eqU x) pl (fun w hw=>iI rx fx r fs w (by simpa using hw)) ⟨.bl _,H,I,rfl,?_⟩
  rw [show its.toArray.any (eqU x)=its.any (eqU x) by simp,kI r fs]
  exact q
theorem jN:bZ X (.builtin "len") (fun xs H Q=>∃p ys,xs=[.ref p]/\(SqL X.K H p ys\/SqT X.K H p ys)/\Q (.int ys.length) H):=by
 intro pins s σ H xs us Q I r h
 obtain ⟨p,ys,rfl,hq,q⟩:=h
 obtain ⟨u,rfl,rx⟩:=gR r
 cases rx
 have hn:=mP
 rcases hq with hq | hq
 .obtain ⟨its,r',pl,hz⟩:=I.list hq
  have hlen:=r'.length
  exact Calls.call_len_list pl.isList (by simp only [List.size_toArray] <;> omega) ⟨.int ys.length,H,I.tok _,⟨s.toks + 1,by rw [List.size_toArray,hlen]⟩,q⟩
 .obtain ⟨its,r',pl,hz⟩:=I.tuple hq
  have hlen:=r'.length
  exact len_tuple pl (by simp only [List.size_toArray] <;> omega) ⟨.int ys.length,H,I.tok _,⟨s.toks + 1,by rw [List.size_toArray,hlen]⟩,q⟩
theorem oQ:bZ X (.builtin "len") (fun xs H Q=>∃z,xs=[.str z]/\z.length<=sizeLine/\Q (.int z.length) H):=by
 intro pins s σ H xs us Q I r h
 obtain ⟨z,rfl,hz,q⟩:=h
 obtain ⟨u,rfl,t,rfl⟩:=gR r
 have hn:=mP
 exact len_str (by omega) ⟨.int z.length,H,I.tok _,⟨_,rfl⟩,q⟩
theorem bZ.or {f:Value}{r r':List V->Hp->VK->Prop} (h:bZ X f r) (h':bZ X f r'):bZ X f (fun xs H Q=>r xs H Q\/r' xs H Q):=by
 intro pins s σ H xs us Q I rs q
 rcases q with q | q
 .exact h pins s σ H xs us Q I rs q
 .exact h' pins s σ H xs us Q I rs q
theorem oR:bZ X (.type "list") (fun xs H Q=>∃p ys,xs=[.ref p]/\(SqL X.K H p ys\/SqT X.K H p ys)/\∀l,H l=none->Q (.ref l) (upd H l (.lst ys))):=by
 intro pins s σ H xs us Q I r h
 obtain ⟨p,ys,rfl,hq,q⟩:=h
 obtain ⟨u,rfl,rx⟩:=gR r
 cases rx
 have fin:∀(its:List Value),bW ys its->ys.length<=sizeLine->∀(h':Heap) (c':Nat),(∀b o',s.heap.get? b=some o'->h'.get? b=some o') ->
   h'.get? s.heap.objs.size=some { cls:=.type "list",dict:=none,data:=.seq its.toArray c',slots:=#[] }->EP X pins σ Q (.ref s.heap.objs.size) { s with heap:=h' }:=fun its r' hz h' c' kp e =>
  ⟨.ref s.heap.objs.size,_,I.laid (t':=s.toks) kp (Nat.le_refl _) (show cH X.prog X.w _ h' _ (.lst ys) from ⟨hz,its,c',r',e⟩),rfl,q _ (I.hok.fresh (Nat.le_refl _))⟩
 rcases hq with hq | hq
 .obtain ⟨its,r',pl,hz⟩:=I.list hq
  have hlen:=r'.length
  obtain ⟨o,ho,hc,n,hd⟩:=pl.isList
  exact call_list_seq p (.inl rfl) ho hc hd (fun h' c' kp e=>fin its r' hz h' c' kp e) (by simp only [List.size_toArray] <;> omega)
 .obtain ⟨its,r',pl,hz⟩:=I.tuple hq
  have hlen:=r'.length
  obtain ⟨o,ho,hc,n,hd⟩:=pl
  exact call_list_seq p (.inr rfl) ho hc hd (fun h' c' kp e=>fin its r' hz h' c' kp e) (by simp only [List.size_toArray] <;> omega)
theorem nu:bZ X (.type "tuple") (fun xs H Q=>∃p ys,xs=[.ref p]/\((SqL X.K H p ys/\∀l,H l=none->Q (.ref l) (upd H l (.tup ys)))\/(SqT X.K H p ys/\Q (.ref p) H))):=by
 intro pins s σ H xs us Q I r h
 obtain ⟨p,ys,rfl,h⟩:=h
 obtain ⟨u,rfl,rx⟩:=gR r
 cases rx
 rcases h with ⟨hq,q⟩ | ⟨hq,q⟩
 .obtain ⟨its,r',pl,hz⟩:=I.list hq
  have hlen:=r'.length
  refine call_tuple_list pl.isList (fun h' kp=>?_) (by simp only [List.size_toArray] <;> omega)
  have I1:Inv X pins σ H { s with heap:=h' }:=I.kept (t':=s.toks) kp
  have I2:Inv X pins σ (upd H h'.objs.size (.tup ys)) { s with heap:=h'.push { cls:=.type "tuple",data:=.seq its.toArray } } :=
   I1.laid (t':=s.toks) (fun b o e=>Heap.get?_push_of_some _ e) (Nat.le_refl _) (show cH X.prog X.w _ _ _ (.tup ys) from ⟨hz,its,r',IsTup.new _ _⟩)
  exact ⟨.ref h'.objs.size,_,I2,rfl,q _ (I1.hok.fresh (Nat.le_refl _))⟩
 .obtain ⟨its,r',pl,hz⟩:=I.tuple hq
  exact call_tuple_same pl ⟨.ref p,H,I,rfl,q⟩
def tyV (K:PySem.W.Frag) (T:String) (x:V) (H:Hp):Prop:=match x with
 | .str _=>T="str"
 | .int _=>T="int"
 | .ref p=>(T="list"/\∃xs,SqL K H p xs)\/(T="tuple"/\∃o,K.lookup p=some o/\o.cls=.type "tuple"/\o.dict=none) \/
   (T="dict"/\((∃kvs,H p=some (.dK kvs))\/∃kvs,H p=some (.dT kvs)))\/(T="set"/\∃S n,H p=some (.set S n))
 | _=>False
theorem x6 {pins:List (Addr×Obj)}{σ:St}{H:Hp}{s:Shared}{T:String}{x:V}{v:Value} (I:Inv X pins σ H s) (r:dz x v) (ty:tyV X.K T x H) :
  s.TypeIs v T/\∀a,v=.ref a->∃ob,s.heap.get? a=some ob/\ob.dict=none:=by
 cases x with
 | str z =>
  obtain ⟨t,rfl⟩:=r
  cases (show T="str" from ty)
  exact ⟨typeIs_str s z t,fun _ e=>nomatch e⟩
 | int i =>
  obtain ⟨t,rfl⟩:=r
  cases (show T="int" from ty)
  exact ⟨typeIs_int s i t,fun _ e=>nomatch e⟩
 | ref p =>
  cases r
  rcases ty with ⟨rfl,xs,hq⟩ | ⟨rfl,o,hk,hc,hd⟩ | ⟨rfl,hk⟩ | ⟨rfl,S,n,hk⟩
  .obtain ⟨its,_,pl,_⟩:=I.list hq
   refine ⟨pl.isList.typeIs,fun a e=>?_⟩
   cases e
   obtain ⟨o,n,e,c,hd,_⟩:=pl
   exact ⟨o,e,hd⟩
  .refine ⟨⟨o,I.kIn p o hk,hc⟩,fun a e=>?_⟩
   cases e
   exact ⟨o,I.kIn _ o hk,hd⟩
  .have z:∃o,s.heap.get? p=some o/\o.ExactDict:=by
    rcases hk with ⟨kvs,hk⟩ | ⟨kvs,hk⟩
    .obtain ⟨_,_,_,_,o,_,_,e,ex,_⟩:=I.hok p _ hk
     exact ⟨o,e,ex⟩
    .obtain ⟨_,_,_,_,o,_,_,e,ex,_⟩:=I.hok p _ hk
     exact ⟨o,e,ex⟩
   obtain ⟨o,e,ex⟩:=z
   refine ⟨⟨o,e,ex.1⟩,fun a e2=>?_⟩
   cases e2
   exact ⟨o,e,ex.2.1⟩
  .obtain ⟨o,_,_,_,e,ex,_⟩:=I.hok p _ hk
   refine ⟨⟨o,e,ex.1⟩,fun a e2=>?_⟩
   cases e2
   exact ⟨o,e,ex.2.1⟩
 | _=>exact False.elim ty
def DL (K:PySem.W.Frag) (T:String) (r:V->List V->Hp->VK->Prop) (to:TE):TE:=fun σ H Q=>to σ H fun x H1=>tyV K T x H1/\r x [] H1 Q
def tBM (K:PySem.W.Frag) (T:String) (r:V->List V->Hp->VK->Prop) (to:TE) (t:TA):TE:=fun σ H Q=>to σ H fun x H1=>tyV K T x H1/\t σ H1 fun xs H2=>r x xs H2 Q
variable {o e:Expr}{es:List Expr}{to:TE}{t:TA}{name:Str}{apos cpos:Pos}{T id:String}{r:V->List V->Hp->VK->Prop}
theorem AZ (pa:PlainAttrs T) (slot:Slot T name id) (hty:typeOf (.builtin id)=pure (.type "method_descriptor")) (hm:MtR X id r) (ho:PE X o to)
  (hbase:attributeBase o name X.env (eval o X.env)=eval o X.env:=by rfl) (hline:(apos.endLine == cpos.line)=true:=by rfl):PE X (.Call (.Attribute o name apos) [] [] cpos) (DL X.K T r to):=by
 intro pins s σ H Q I h
 refine wpAny_Call_method0_late hbase hline (thn (ho pins s σ H _ I h) fun v s1 ⟨x,H1,I1,r1,ty,q1⟩=>?_)
 obtain ⟨h1,h2⟩:=x6 I1 r1 ty
 exact ⟨T,id,pa,slot,hty,h1,h2,Calls.callWith_builtin rfl (PySem.evalArgs_none (hm pins s1 σ H1 x [] v [] Q I1 r1 .nil q1))⟩
theorem CO (pa:PlainAttrs T) (slot:Slot T name id) (hty:typeOf (.builtin id)=pure (.type "method_descriptor")) (hm:MtR X id r) (ho:PE X o to) (ha:PA X (e::es) t)
  (hbase:attributeBase o name X.env (eval o X.env)=eval o X.env:=by rfl)
  (hfew:((backTo cpos (starEach (e::es) X.env)).all (fun x=>!x.1) && (backToKw cpos (keywordEach [] X.env)).all (fun x=>x.1.isSome)
   && decide ((e::es).length + ([]:List Keyword).length + (if ([]:List Keyword).isEmpty then 0 else 1) < 30))=true:=by rfl)
  (hline:(apos.endLine == cpos.line)=true:=by rfl) (hs:starEach (e::es) X.env=(false,eval e X.env)::starEach es X.env:=by rfl) (hplain:(backTo cpos (starEach es X.env)).any (·.1)=false:=by rfl) :
  PE X (.Call (.Attribute o name apos) (e::es) [] cpos) (tBM X.K T r to t):=by
 intro pins s σ H Q I h
 refine wpAny_Call_method_late hbase hfew hline rfl (thn (ho pins s σ H _ I h) fun v s1 ⟨x,H1,I1,r1,ty,q1⟩=>?_)
 obtain ⟨h1,h2⟩:=x6 I1 r1 ty
 refine ⟨T,id,pa,slot,hty,h1,h2,?_⟩
 have hA:=ha cpos pins s1 σ H1 _ I1 q1
 rw [hs] at hA ⊢
 refine Calls.callWith_builtin (by show (false || (backTo cpos (starEach es X.env)).any (·.1))=false;rw [hplain] <;> rfl) (Calls.evalArgs_plain ?_)
 exact thn hA fun us s2 ⟨vs,H2,I2,r2,q2⟩=>hm pins s2 σ H2 x vs v us Q I2 r1 r2 q2
end
def MtM (X:Cx) (id:String) (r:V->List V->Hp->VK->Prop):Prop :=
 ∀(pins:List (Addr×Obj)) (s:Shared) (σ:St) (H:Hp) (x:V) (xs:List V) (v:Value) (us:List Value) (Q:VK),Inv X pins σ H s->dz x v->bW xs us->r x xs H Q ->
  wpAny (model X.prog X.w) X.A (call (.builtin id) (v::us)) (EP X pins σ Q) X.xe s
theorem bW.one:∀{x:V}{us:List Value},bW [x] us->∃u,us=[u]/\dz x u
 | _,_,.cons r .nil=>⟨_,rfl,r⟩
theorem bW.zero:∀{us:List Value},bW [] us->us=[]
 | _,.nil=>rfl
theorem bW.dropLast {xs:List V}{us:List Value} (h:bW xs us):bW xs.dropLast us.dropLast:=by
 induction h with
 | nil=>exact .nil
 | cons r t ih =>
  cases t with
  | nil=>exact .nil
  | cons q t'=>exact .cons r ih
theorem bW.eraseIdx:∀{xs:List V}{us:List Value} (i:Nat),bW xs us->bW (xs.eraseIdx i) (us.eraseIdx i)
 | _,_,_,.nil=>.nil
 | _,_,0,.cons _ t=>t
 | _,_,i + 1,.cons r t=>.cons r (bW.eraseIdx i t)
theorem bW.reverse {xs:List V}{us:List Value} (h:bW xs us):bW xs.reverse us.reverse:=by
 induction h with
 | nil=>exact .nil
 | cons r t ih=>rw [List.reverse_cons,List.reverse_cons];exact bW.append ih (.cons r .nil)
theorem bW.rep {xs:List V}{us:List Value} (h:bW xs us):∀k:Nat,bW (List.replicate k xs).flatten (List.replicate k us).flatten
 | 0=>.nil
 | k + 1=>by
  rw [List.replicate_succ,List.replicate_succ,List.flatten_cons,List.flatten_cons]
  exact bW.append h (bW.rep h k)
theorem tf {α:Type} (l:List α):l.eraseIdx (l.length - 1)=l.dropLast:=by
 induction l with
 | nil=>rfl
 | cons a r ih =>
  cases r with
  | nil=>rfl
  | cons b r =>
   have e:(a::b::r).length - 1=((b::r).length - 1) + 1:=by
    have h1:(a::b::r).length=r.length + 2:=rfl
    have h2:(b::r).length=r.length + 1:=rfl
    omega
   rw [e,List.eraseIdx_cons_succ,ih]
   all_goals rfl
theorem oS {α:Type}:∀(l:List α) (i:Nat),(l.eraseIdx i).length<=l.length
 | [],_=>Nat.le_refl _
 | _::_,0=>Nat.le_succ _
 | _::r,i + 1=>Nat.succ_le_succ (oS r i)
theorem oU (its:List Value):∀(k:Nat) (acc:List Value),
  List.foldl (fun x1 x2=>x1++x2) acc.toArray (List.replicate k its.toArray)=(acc++(List.replicate k its).flatten).toArray
 | 0,acc=>by simp
 | k + 1,acc=>by
  have e:acc.toArray++its.toArray=(acc++its).toArray:=by simp
  have e2:(acc++its)++(List.replicate k its).flatten=acc++(List.replicate (k + 1) its).flatten:=by
   rw [List.replicate_succ,List.flatten_cons,List.append_assoc]
  rw [<- e2,<- oU its k (acc++its),<- e,List.replicate_succ,List.foldl_cons]
section
variable {X:Cx}{pins:List (Addr×Obj)}{σ:St}{H:Hp}{s:Shared}{l b:Addr}{xs ys zs:List V}
theorem Inv.lset {its its':List Value}{n:Nat}{f:Array Value->Array Value}{t':Nat} (I:Inv X pins σ H s) (hH:H l=some (.lst xs))
  (e:s.heap.get? l=some { cls:=.type "list",data:=.seq its.toArray n }) (hf:f its.toArray=its'.toArray) (hv:bW ys its') (hz:ys.length<=sizeLine) :
  Inv X pins σ (upd H l (.lst ys)) { s with heap:=s.heap.update l (Obj.mapSeq f),toks:=t' }:=by
 have q:=PySem.IsL.update e f
 rw [hf] at q
 refine I.write (x:=l) (e:=l) (by rw [hH];exact trivial) (.inl rfl) (fun b' u hb hu=>(Heap.get?_update_other s.heap (Obj.mapSeq f) (Ne.symm hb)).trans hu) ⟨_,q⟩ ?_
 exact ⟨hz,its',_,hv,q⟩
theorem Inv.lnew {its:List Value}{t':Nat} (I:Inv X pins σ H s) (hv:bW ys its) (hz:ys.length<=sizeLine) :
  Inv X pins σ (upd H s.heap.objs.size (.lst ys)) { s with heap:=s.heap.push { cls:=.type "list",data:=.seq its.toArray },toks:=t' } :=
 I.laid (fun _ _ q=>Heap.get?_push_of_some _ q) (Nat.le_refl _) ⟨hz,its,0,hv,Heap.get?_push_size _ rfl⟩
theorem Inv.fresh (I:Inv X pins σ H s):H s.heap.objs.size=none:=I.hok.fresh (Nat.le_refl _)
theorem Inv.lstM (I:Inv X pins σ H s) (hH:H l=some (.lst xs)):xs.length<=sizeLine/\∃(its:List Value) (n:Nat),bW xs its/\xs.length=its.length/\s.heap.get? l=some { cls:=.type "list",data:=.seq its.toArray n }:=by
 obtain ⟨z,its,n,r,e⟩:=I.hok l _ hH
 exact ⟨z,its,n,r,r.length,e⟩
theorem wO {n:Nat} (h:n<=sizeLine):Builtin.List.listTooLong n=false:=by
 unfold Builtin.List.listTooLong
 exact decide_eq_false (by omega)
end
section
variable {X:Cx}
def uI:V->List V->Hp->VK->Prop:=fun x vs H Q=>∃l xs y,x=.ref l/\vs=[y]/\H l=some (.lst xs)/\xs.length < sizeLine/\Q .non (upd H l (.lst (xs++[y])))
theorem cQ:MtM X "list.append" uI:=by
 intro pins s σ H x vs v us Q I rx rv h
 obtain ⟨l,xs,y,rfl,rfl,hH,hz,q⟩:=h
 cases rx
 obtain ⟨u,rfl,ru⟩:=rv.one
 obtain ⟨z,its,n,r,hl,e⟩:=I.lstM hH
 refine call_meets F.slot_list_append ⟨_,e,rfl⟩ F.entry_list_append (F.args_list_append_2 _ _) (PySem.list_append l its.toArray n u (by rw [List.size_toArray];omega)) ⟨e,?_⟩
 refine ⟨.non,_,I.lset (its':=its++[u]) hH e (by simp) (r.append (.cons ru .nil)) ?_,rfl,q⟩
 rw [List.length_append,List.length_singleton]
 omega
def DM:V->List V->Hp->VK->Prop:=fun x vs H Q=>∃l xs y,x=.ref l/\vs=[]/\H l=some (.lst xs)/\xs[xs.length - 1]?=some y/\Q y (upd H l (.lst xs.dropLast))
theorem A0:MtM X "list.pop" DM:=by
 intro pins s σ H x vs v us Q I rx rv h
 obtain ⟨l,xs,y,rfl,rfl,hH,hy,q⟩:=h
 cases rx
 have hus:=rv.zero
 subst hus
 obtain ⟨z,its,n,r,hl,e⟩:=I.lstM hH
 obtain ⟨u,hu,ru⟩:=r.get hy
 have hy':its.toArray[its.toArray.size - 1]?=some u:=by
  show its.toArray[its.length - 1]?=some u
  rw [<- Array.getElem?_toList,<- hl]
  exact hu
 refine call_meets F.slot_list_pop ⟨_,e,rfl⟩ F.entry_list_pop (F.args_list_pop_1 _) (MeetsSeq.list_pop_last l its.toArray n u hy' (by rw [List.size_toArray];omega)) ⟨e,?_⟩
 refine ⟨y,_,I.lset (its':=its.dropLast) hH e ?_ r.dropLast ?_,ru,q⟩
 .show its.toArray.eraseIdxIfInBounds (its.toArray.size - 1)=its.dropLast.toArray
  rw [List.size_toArray,List.eraseIdxIfInBounds_toArray,tf]
 .rw [List.length_dropLast]
  omega
def x8:V->List V->Hp->VK->Prop:=fun x vs H Q=>∃l xs i k y,x=.ref l/\vs=[.int i]/\H l=some (.lst xs)/\-(2 ^ 63)<=i/\i < 2 ^ 63/\seqIndex? i xs.length=some k/\xs[k]?=some y/\Q y (upd H l (.lst (xs.eraseIdx k)))
theorem wP:MtM X "list.pop" x8:=by
 intro pins s σ H x vs v us Q I rx rv h
 obtain ⟨l,xs,i,k,y,rfl,rfl,hH,h1,h2,hk,hy,q⟩:=h
 cases rx
 obtain ⟨u,rfl,ru⟩:=rv.one
 obtain ⟨t,rfl⟩:=ru
 obtain ⟨z,its,n,r,hl,e⟩:=I.lstM hH
 obtain ⟨w,hw,rw'⟩:=r.get hy
 refine call_meets F.slot_list_pop ⟨_,e,rfl⟩ F.entry_list_pop (F.args_list_pop_2 _ _)
  (MeetsSeq.list_pop_at l its.toArray n i t k w (fitsIndex_both h1 h2) (by rw [List.size_toArray,<- hl];exact hk) (by rw [<- Array.getElem?_toList];exact hw) (by rw [List.size_toArray];omega)) ⟨e,?_⟩
 refine ⟨y,_,I.lset (its':=its.eraseIdx k) hH e ?_ (r.eraseIdx k) ?_,rw',q⟩
 .show its.toArray.eraseIdxIfInBounds k=(its.eraseIdx k).toArray
  rw [List.eraseIdxIfInBounds_toArray]
 .have:=oS xs k
  omega
def DN:R2:=fun x y H Q=>∃l k xs,x=.ref l/\y=.int k/\H l=some (.lst xs)/\-(2 ^ 63)<=k/\k < 2 ^ 63/\xs.length * k.toNat<=sizeLine /\
 ∀p,H p=none->Q (.ref p) (upd H p (.lst (List.replicate k.toNat xs).flatten))
theorem yY {α:Type} (xs:List α) (k:Nat):(List.replicate k xs).flatten.length=k * xs.length:=by
 induction k with
 | zero=>simp
 | succ k ih=>rw [List.replicate_succ,List.flatten_cons,List.length_append,ih,Nat.succ_mul,Nat.add_comm]
theorem A1:OpR X (binaryOp .Mult) DN:=by
 intro pins s σ H x y v u Q I rx ry h
 obtain ⟨l,k,xs,rfl,rfl,hH,h1,h2,hz,q⟩:=h
 cases rx
 obtain ⟨t,rfl⟩:=ry
 obtain ⟨z,its,n,r,hl,e⟩:=I.lstM hH
 have hlen:its.toArray.size * k.toNat<=sizeLine:=by rw [List.size_toArray,<- hl];exact hz
 have hcap:¬ its.toArray.size * k.toNat > (2 ^ 63 - 1) / 8:=by
  have:(sizeLine:Nat)<=(2 ^ 63 - 1) / 8:=by decide
  omega
 have hfit:¬ (!Builtin.List.listFitsIndex k)=true:=by
  rw [fitsIndex_both h1 h2]
  exact Bool.false_ne_true
 have hlong:¬ Builtin.List.listTooLong (its.toArray.size * k.toNat)=true:=by
  rw [wO hlen]
  exact Bool.false_ne_true
 have hnew:List.foldl (fun x1 x2=>x1++x2) #[] (List.replicate (if its.toArray.isEmpty=true then 0 else k.toNat) its.toArray)=(List.replicate k.toNat its).flatten.toArray:=by
  have f0:∀m:Nat,List.foldl (fun x1 x2=>x1++x2) #[] (List.replicate m its.toArray)=(List.replicate m its).flatten.toArray:=fun m=>by
   have:=oU its m []
   rw [List.nil_append] at this
   exact this
  rw [f0]
  cases its with
  | nil=>simp
  | cons a r'=>rw [if_neg (by simp)]
 refine wpAny_binaryOp_repeat_ref (T:="list") (U:="int") (by decide) ⟨_,e,rfl⟩ (fun s'=>typeIs_int s' k t) noFill_list_mul F.fills_int_mul F.slot_int_rmul repeat_list F.slot_int_index.lookup
  (call_meets F.slot_int_rmul (typeIs_int s k t) F.entry_int_rmul (F.args_int_rmul_2 _ _) (int___rmul___int_list k t l its.toArray n)
   ⟨e,rfl,⟨_,e,rfl⟩,call_meets F.slot_list_mul ⟨_,e,rfl⟩ F.entry_list_mul (F.args_list_mul_2 _ _) (AutoListH.list___mul___list_int_3 l its.toArray n k t hfit hcap hlong) ⟨e,?_⟩⟩)
 rw [hnew]
 exact ⟨.ref _,_,I.lnew (t':=s.toks) (r.rep k.toNat) (by rw [yY,Nat.mul_comm];exact hz),rfl,q _ I.fresh⟩
end
end L2
namespace Att
open PySem PySem.W PySem.Calls PyProof.Rows
theorem kJ {P:Params}{h:Heap}:∀(ns:List Int) (vs:List Value),WellAll P h vs (ns.map WData.int)->IntsAre vs ns:=by
 intro ns
 induction ns with
 | nil =>
  intro vs w
  rw [List.map_nil] at w
  cases w
  exact .nil
 | cons n ns ih =>
  intro vs w
  rw [List.map_cons] at w
  cases w with
  | cons a b =>
   cases a
   exact .cons _ _ (ih _ b)
theorem uJ {l:OpenLaw}{n:Nat} (hn:l.most=some n) {P:Params}{h:Heap}{args:List WData}{vals:List Value}
  (hpre:l.row.toRowW.claim.pre args=true) (hwl:WellAll P h vals args) :
  ∃a vs ns,vals=[Value.ref a]/\args=[WData.list (ns.map WData.int)]/\h.get? a=some { cls:=.type "list",data:=.seq vs.toArray }/\IntsAre vs ns/\ns.length<=n:=by
 have hsh:WShape.hasAll [] args [.list .int]=true:=(pre_splitW hpre).1
 have hc:l.pre.holds [] { args:=args }=true:=(pre_splitW hpre).2
 obtain ⟨d,r,rfl,h1,h2⟩:=hasAllW_cons hsh
 obtain rfl:=hasAllW_nil h2
 obtain ⟨xs,rfl,h3⟩:=hasW_list h1
 obtain ⟨ns,rfl⟩:=items_int h3
 have hlen:ns.length<=n:=by
  unfold OpenLaw.pre at hc
  have h4:(WTm.not (.lt (.lit (.int (n:Int))) (.len (.arg 0)))).holds [] { args:=[.list (ns.map .int)] }=true:=by
   have h4:=(holds_andW hc).1
   rw [hn] at h4
   exact h4
  have h5:=condW_of h4 (w_not (w_lt w_lit (w_len_list (w_arg rfl))))
  rw [List.length_map] at h5
  refine Nat.le_of_not_lt fun q=>?_
  have q':(n:Int) < ((ns.length:Nat):Int):=by omega
  first
   | (rw [decide_eq_true q'] at h5;exact absurd h5 (by decide))
   | (simp at h5;omega)
 cases hwl with
 | cons w1 w2 =>
  cases w2
  cases w1 with
  | list ho hall=>exact ⟨_,_,ns,rfl,rfl,ho,kJ ns _ hall,hlen⟩
theorem uK (l:OpenLaw) (args:List WData):l.row.toRowW.claim.post args (.bool true) args=true :=
 postW_of (r:=l.row.toRowW) (X:=(true == true))
  (show WShape.has [] (.bool true) .bool=true by first | rfl | decide | simp [WShape.has,WShape.arms,WShape.armsAll])
  (show (WTm.eq .res (.lit (.bool true))).value [] { args:=args,res:=some (.bool true),after:=args }=some (.bool (true == true)) from w_eq_bool (w_res rfl) w_lit) rfl
theorem attach_call {l:OpenLaw}{n:Nat}{q:Program}{loose:List Str}{XP:(Str->Option Value)->Heap->Prop}{YP:World->Heap->Prop}{d:DefRec}
  (hn:l.most=some n) (hdf:d.params.defaults=[])
  (call:∀(w:World) (s₀ s₁:Shared) (mg mb:Str->Option Value) (fa:Addr) (o:Obj) (pm cd doc:Value) (a:Addr) (vs:List Value) (ns:List Int),
   Ground q loose [] XP w s₀ mg mb s₁.heap->YP w s₁.heap ->
   s₁.heap.get? fa=some o->o.data=.func (docDef d.name d.params d.body d.scope pm cd doc)->s₁.heap.CodeRec cd d.name->mg d.name=some (.ref fa) ->
   s₁.heap.get? a=some { cls:=.type "list",data:=.seq vs.toArray }->IntsAre vs ns->ns.length<=n->s₁.gens=#[] ->
   codeAny (model l.prog w) callerA (.call (.ref fa) ⟨[.ref a],[]⟩) (fun r s'=>r=.ok (.ret (.bool true))/\OldK s₁.heap s'.heap/\s'.os=s₁.os/\AllBare s'.gens) s₁) :
  WalkO q loose XP YP l.row.toRowW d [] (fun f vs=>PySem.call f vs):=by
 intro w s₀ s₁ mg mb G Y fa o pm cd doc dV kV ho hd hcd hD hmg hg args vals as hpre hlay hrd hwl hlo
 obtain rfl:dV=.none:=Dflts.none hD hdf
 obtain rfl:kV=.none:=Dflts.noKw hD
 obtain ⟨a,vs,ns,rfl,rfl,hobj,hints,hlen⟩:=uJ hn hpre hwl
 refine enter_call (codeAny_mono (call w s₀ s₁ mg mb fa o pm cd doc a vs ns G Y ho (fd_plain hd) hcd hmg hobj hints hlen hg) fun r s' hq=>?_)
 obtain ⟨rfl,h2,h3,h4⟩:=hq
 exact ⟨.inl ⟨.bool true,.bool true,[],rfl,fun _=>rfl,.bool true,uK l _,fun _=>⟨List.Pairwise.nil,fun _ hm=>(nomatch hm)⟩⟩,h2,h3,h4⟩
end Att
namespace L2
open PySem PySem.Spec PyProof.Rows
theorem oV:∀{vs:List Value}{ns:List Int},IntsAre vs ns->bW (ns.map V.int) vs
 | _,_,.nil=>.nil
 | _,_,.cons n t h=>.cons ⟨t,rfl⟩ (oV h)
def CP (H:Hp):Prop:=∀b,H b=none\/∃o xs,H b=some (.frz o (.lst xs))
theorem wQ {P:Program}{w:World}{K:PySem.W.Frag}{mg mb:Str->Option Value}{CX:CXT}{k:Nat}{fa a:Addr}{fd:FuncData}{x:Str}{sp:Sp}{s₁:Shared}{vs:List Value}{ns:List Int}
  (KX:K.In s₁.heap) (hns:s₁.heap.Ns mainGlobals mg) (hb:s₁.heap.Ns builtinsNs mb) (hbb:∀x:Str,x≠"__name__"->mb x=bootBuiltins x) (hlim:s₁.heap.NoLimit) (hg:s₁.gens=#[])
  (ha:s₁.heap.get? a=some { cls:=.type "list",data:=.seq vs.toArray }) (hi:IntsAre vs ns) (hl:ns.length<=sizeLine) (hr:gq k callerA)
  (F:∀base:Heap,K.In base->base.Ns mainGlobals mg->mS P w K mg base CX k fa fd [x] sp) (hbind:∀(s:Shared) (u:Value),BindsTo s fd ⟨[u],[]⟩ [(x,u)])
  (hsp:∀H:Hp,CP H->SqL K H a (ns.map V.int)->sp [.ref a] H (fun v _=>v=.bl true) fun _ _ _=>False)
  (hCX:∀H e s',CX [] H s₁ (fun _ _ _=>False) e s'->False) :
  codeAny (model P w) callerA (.call (.ref fa) ⟨[.ref a],[]⟩) (fun r s'=>r=.ok (.ret (.bool true))/\OldK s₁.heap s'.heap/\s'.os=s₁.os/\AllBare s'.gens) s₁:=by
 have rv:=oV hi
 have lenV:=hi.length
 -- from an abstract heap in which nothing but the script may be tracked
 have core:∀H:Hp,CP H->SqL K H a (ns.map V.int)->HOk P w H s₁.heap->(∀b,H b≠none->b=a)->(H a≠none->K.lookup a=none) ->
   codeAny (model P w) callerA (.call (.ref fa) ⟨[.ref a],[]⟩) (fun r s'=>r=.ok (.ret (.bool true))/\OldK s₁.heap s'.heap/\s'.os=s₁.os/\AllBare s'.gens) s₁:=by
  intro H hO hS hok hA hK
  have base_of:∀{b:Addr}{o:Obj},s₁.heap.get? b=some o->H b=none->(wy s₁.heap H).get? b=some o:=fun e n=>wz e n
  have noA:∀{b:Addr}{o:Obj}{es:Array DictEntry}{ep:Nat},s₁.heap.get? b=some o->o.data=.dict es ep->H b=none:=fun {b o es ep} e d=>by
   cases q:H b with
   | none=>rfl
   | some u =>
    have e':b=a:=hA b (by rw [q];simp)
    subst e'
    rw [ha] at e;cases e
    have d':Data.seq vs.toArray _=Data.dict es ep:=d
    cases d'
  have nsK:∀{b:Addr}{m:Str->Option Value},s₁.heap.Ns b m->(wy s₁.heap H).Ns b m:=fun {b m} ⟨o,es,ep,e,d,r⟩=>⟨o,es,ep,base_of e (noA e d),d,r⟩
  have hKb:K.In (wy s₁.heap H):=fun b o e=>base_of (KX b o e) (by
   cases q:H b with
   | none=>rfl
   | some u =>
    have e':b=a:=hA b (by rw [q];simp)
    subst e'
    rw [hK (by rw [q];simp)] at e;cases e)
  have hM:Mod K mg (wy s₁.heap H):=⟨hKb,nsK hns,⟨mb,nsK hb,hbb⟩,let ⟨mc,h1,h2⟩:=hlim;⟨mc,nsK h1,h2⟩⟩
  have e0:yP P w K mg (wy s₁.heap H) callerA [] s₁ H:=⟨rfl,hM,fun b o e=>yE e,Nat.le_of_eq (uj _ _),trivial,fun b hb=>absurd (show b∈([]:List Addr) from hb) (by simp),hok,.of_eq hg⟩
  refine codeAny_mono ((F _ hKb (nsK hns)).run callerA [] s₁ H ⟨[.ref a],[]⟩ [.ref a] [.ref a] _ _ hr e0 (hbind s₁ (.ref a)) (.cons rfl .nil) (hsp H hO hS)) fun r s' h=>?_
  cases r with
  | error e=>exact (hCX H e s' h).elim
  | ok fl =>
   cases fl with
   | next=>exact False.elim h
   | brk=>exact False.elim h
   | cont=>exact False.elim h
   | ret u =>
    obtain ⟨v,H',os,bare,un,hok',r',q⟩:=h
    have q':v=.bl true:=q
    subst q'
    obtain rfl:u=Value.bool true:=r'
    refine ⟨rfl,OldK.of_keep fun b o e=>?_,os,bare⟩
    cases q:H b with
    | none=>exact un.keep b o e q (by intro z;exact absurd (show b∈([]:List Addr) from z) (by simp)) (by simp)
    | some u =>
     rcases hO b with z | ⟨ob,xs,z⟩
     .rw [q] at z;cases z
     .have z2:=un.frzs b ob _ z
      obtain ⟨e1,_⟩:=hok b _ z
      obtain ⟨e2,_⟩:=hok' b _ z2
      rw [e] at e1;cases e1
      exact e2
 cases hk:K.lookup a with
 | some o =>
  -- the script is one of the module's own objects
  have e:=KX a o hk
  rw [ha] at e
  cases e
  refine core (fun _=>none) (fun _=>.inl rfl) (.inr ⟨_,vs.toArray,_,hk,rfl,rfl,rfl,by rw [List.size_toArray,lenV];exact hl,by simpa using rv⟩) (fun b u z=>by have z':(none:Option HO)=some u:=z;cases z') (fun b z=>absurd rfl z) fun z=>absurd rfl z
 | none =>
  refine core (fun b=>if b=a then some (.frz { cls:=.type "list",data:=.seq vs.toArray } (.lst (ns.map V.int))) else none) (fun b=>?_) (.inl (.inr ⟨{ cls:=.type "list",data:=.seq vs.toArray },if_pos rfl⟩)) (fun b u z=>?_) (fun b z=>?_) fun _=>hk
  .by_cases hb:b=a
   .exact .inr ⟨_,_,if_pos hb⟩
   .exact .inl (if_neg hb)
  .by_cases hb:b=a
   .have z':=(if_pos hb).symm.trans z
    cases z'
    subst hb
    exact ⟨ha,by rw [List.length_map];exact hl,vs,_,rv,ha⟩
   .have z':=(if_neg hb).symm.trans z
    cases z'
  .by_cases hb:b=a
   .exact hb
   .exact absurd (if_neg hb) z
theorem yZ {l:PySem.W.OpenLaw}{n k:Nat}{q:Program}{loose:List Str}{XP:(Str->Option Value)->Heap->Prop}{YP:World->Heap->Prop}{d:DefRec}{K:Params->PySem.W.Frag}{CX:World->CXT}{sp:World->Sp}{x:Str}
  (hn:l.most=some n) (hn2:n<=sizeLine) (hdf:d.params.defaults=[]) (hr:gq k callerA)
  (hY:∀(w:World) (h:Heap),YP w h->(K w.params).In h)
  (F:∀(w:World) (mg:Str->Option Value) (fa:Addr) (h:Heap),(K w.params).In h->h.Ns mainGlobals mg->mg d.name=some (.ref fa) ->
   ∃fd:FuncData,(∀(s:Shared) (u:Value),BindsTo s fd ⟨[u],[]⟩ [(x,u)]) /\
    ∀base:Heap,(K w.params).In base->base.Ns mainGlobals mg->mS l.prog w (K w.params) mg base (CX w) k fa fd [x] (sp w))
  (hsp:∀(w:World) (H:Hp) (a:Addr) (ns:List Int),ns.length<=n->CP H->SqL (K w.params) H a (ns.map V.int)->sp w [.ref a] H (fun v _=>v=.bl true) fun _ _ _=>False)
  (hCX:∀(w:World) (H:Hp) (s:Shared) (e:Value) (s':Shared),CX w [] H s (fun _ _ _=>False) e s'->False) :
  PySem.W.WalkO q loose XP YP l.row.toRowW d [] (fun f vs=>PySem.call f vs):=by
 refine Att.attach_call hn hdf fun w s₀ s₁ mg mb fa o pm cd doc a vs ns G Y ho hd hcd hmg hobj hints hlen hg=>?_
 have KX:=hY w _ Y
 obtain ⟨fd,hb,hF⟩:=F w mg fa _ KX G.T.g hmg
 exact wQ KX G.T.g G.T.b G.T.builtins G.T.nolimit hg hobj hints (Nat.le_trans hlen hn2) hr hF hb (fun H hO hS=>hsp w H a ns hlen hO hS) fun H e s'=>hCX w H s₁ e s'
def nv (s:Stmt) (j:Nat):Stmt:=match s with
 | .ClassDef _ _ _ body _ _ _ _ _ _ _=>body.getD j (.Pass ⟨0,0,0,0⟩)
 | _=>.Pass ⟨0,0,0,0⟩
def cJ (s:Stmt):Arguments:=match s with
 | .FunctionDef _ a _ _ _ _ _ _ _ _=>a
 | _=>{ posonlyargs:=[],args:=[],vararg:=none,kwonlyargs:=[],kw_defaults:=[],kwarg:=none,defaults:=[] }
def bK (s:Stmt):List Stmt:=match s with
 | .FunctionDef _ _ b _ _ _ _ _ _ _=>b
 | _=>[]
def ao (s:Stmt):Scope:=match s with
 | .FunctionDef _ _ _ _ _ _ sc _ _ _=>sc
 | _=>{ kind:=.function,names:=[],isGenerator:=false,isCoroutine:=false }
abbrev CX0:CXT:=fun _ _ _ _ _ _=>False
abbrev E0:XK:=fun _ _ _=>False
theorem wR {X:Cx}:mT CX0 X E0:=fun _ _ _ _ _ _ _ h=>h.elim
structure Fun (K:PySem.W.Frag) (x qual:Str) (st:Stmt) (f:Addr) (fd:FuncData):Prop where
 ex:∃(oc:Value) (od:Option Addr) (kV doc pm:Value) (an:Option Addr) (cdv ct:Value) (osl:Array (Option Value)),
  fd=PySem.W.fnOf x qual (cJ st) (bK st) (ao st) .none kV doc pm an cdv ct/\K.lookup f=some ⟨oc,od,.func fd,osl⟩/\PySem.W.codeIn K cdv qual=true
 kp:PySem.W.keepIn K (.ref f)=true
section
variable {P:Program}{w:World}{K:PySem.W.Frag}{mg:Str->Option Value}{base:Heap}
theorem Fun.ok {x qual:Str}{st:Stmt}{f:Addr}{fd:FuncData}{N ps:List Str}{k:Nat}{sp:Sp} (F:Fun K x qual st f fd) (S:aL N ps (ao st)) (len:∀vs H Q E,sp vs H Q E->vs.length=ps.length)
  (hbody:∀(cdv:Value) (A:Around) (outer:List Env) (s:Shared) (H:Hp) (vs:List V) (Q:VK) (E:XK),gq k (A.deeper (envOfC qual (ao st) s.heap.objs.size f cdv))->sp vs H Q E ->
   ∃t,PSs (uD CX0 P w K mg base N qual (ao st) f cdv A outer s H E).nox (bK st) t/\t { nx:=fun _ H'=>Q .non H',rt:=Q } (start N vs) H):mS P w K mg base CX0 (k + 1) f fd ps sp:=by
 obtain ⟨oc,od,kV,doc,pm,an,cdv,ct,osl,rfl,lk,hcd⟩:=F.ex
 refine AR lk hcd S len fun A outer s H vs Q E hr hsp=>?_
 obtain ⟨t,h,q⟩:=hbody cdv A outer s H vs Q E hr hsp
 exact ⟨t,h.nox,q⟩
theorem Fun.binds {x qual:Str}{st:Stmt}{f:Addr}{fd:FuncData}{ps:List Str} (F:Fun K x qual st f fd)
  (h:∀(kV doc pm:Value) (an:Option Addr) (cdv ct:Value) (us:List Value),us.length=ps.length->bindArgs (PySem.W.fnOf x qual (cJ st) (bK st) (ao st) .none kV doc pm an cdv ct) ⟨us,[]⟩=pure (ps.zip us)):jc K fd ps []:=by
 obtain ⟨oc,od,kV,doc,pm,an,cdv,ct,osl,rfl,lk,hcd⟩:=F.ex
 exact .all (h kV doc pm an cdv ct)
theorem oW {x qual:Str}{st:Stmt}{f:Addr}{oc:Value}{od an:Option Addr}{osl:Array (Option Value)}{kV doc pm cdv ct:Value} (l:K.lookup f=some ⟨oc,od,.func (PySem.W.fnOf x qual (cJ st) (bK st) (ao st) .none kV doc pm an cdv ct),osl⟩)
  (c:PySem.W.codeIn K cdv qual=true) (k:PySem.W.keepIn K (.ref f)=true):Fun K x qual st f (PySem.W.fnOf x qual (cJ st) (bK st) (ao st) .none kV doc pm an cdv ct):=⟨⟨oc,od,kV,doc,pm,an,cdv,ct,osl,rfl,l,c⟩,k⟩
end
section
variable {X:Cx}
theorem pv (i:Nat) {x:Str}{pos:Pos} (hN:X.N[i]?=some x:=by rfl) (hv:Vis X.env.scope x:=by first | exact Or.inl rfl | exact Or.inr (Or.inl rfl) | exact Or.inr (Or.inr rfl)) (hd:(x == ("__debug__":Str))=false:=by decide)
  (hcd:(x == ("__classdict__":Str))=false:=by decide):PE X (.Name x pos) (a9 i):=Az hN hv hd hcd
end
def S (l:List Nat):Str:=⟨l.toArray⟩
theorem gS (l:List Nat):(S l).length=l.length:=by simp [S,Str.length]
theorem CQ (a b:List Nat):S a++S b=S (a++b):=by
 show (⟨a.toArray++b.toArray⟩:Str)=⟨(a++b).toArray⟩
 rw [List.append_toArray]
theorem A2 {a b:List Nat} (h:S a=S b):a=b:=by
 have h':=congrArg (fun x:Str=>x.cps.toList) h
 simpa [S] using h'
theorem Eb {a b:List Nat} (h:a≠b):S a≠S b:=fun e=>h (A2 e)
theorem A3 {a b:List Nat}:V.str (S a)=V.str (S b) ↔ a=b:=⟨fun h=>A2 (V.str.inj h),fun h=>by rw [h]⟩
theorem A4 (a b:List Nat):decide (V.str (S a)=V.str (S b))=decide (a=b):=by
 by_cases h:a=b
 .rw [decide_eq_true h,decide_eq_true (A3.mpr h)]
 .rw [decide_eq_false h,decide_eq_false (fun z=>h (A3.mp z))]
def eC {α:Type} (xs:List α) (lo hi:Option Int):List α:=(xs.drop (HT.sIx xs.length 0 lo)).take (HT.sIx xs.length xs.length hi - HT.sIx xs.length 0 lo)
theorem ce {α:Type} (xs:List α) (lo hi:Option Int):(eC xs lo hi).length<=xs.length:=by
 unfold eC
 rw [List.length_take,List.length_drop]
 omega
theorem uL (xs:List V) (lo hi:Option Int):yS xs lo hi=eC xs lo hi:=rfl
theorem A5 (lo hi:Option Int) (n:Nat):Builtin.Str.strSliceIndices lo hi 1 n=(List.range (HT.sIx n n hi - HT.sIx n 0 lo)).map (fun k=>HT.sIx n 0 lo + k):=by
 have key:∀(o:Option Int) (d:Nat),d<=n->(match o with | none=>(d:Int) | some i=>max 0 (min (if i < 0 then i + (n:Int) else i) (n:Int)))=((HT.sIx n d o:Nat):Int):=by
  intro o d hd
  cases o with
  | none=>rfl
  | some i =>
   show max 0 (min (if i < 0 then i + (n:Int) else i) (n:Int))=_
   rw [<- HT.clip_eq i n d]
   by_cases h:i < 0
   .rw [if_pos h,if_pos h];omega
   .rw [if_neg h,if_neg h];omega
 have k1:=key lo 0 (Nat.zero_le _)
 have k2:=key hi n (Nat.le_refl _)
 unfold Builtin.Str.strSliceIndices
 simp only [show (1:Int) > 0 by decide,if_true]
 refine Eq.trans (congrArg (fun a=>sliceRange a _ 1) k1) (Eq.trans (congrArg (fun b=>sliceRange _ b 1) k2) ?_)
 unfold sliceRange
 simp only [show (1:Int) > 0 by decide,if_true]
 generalize HT.sIx n 0 lo=a
 generalize HT.sIx n n hi=b
 have ec:(if (a:Int) < (b:Int) then ((b:Int) - (a:Int) + 1 - 1) / 1 else 0).toNat=b - a:=by
  split <;> omega
 rw [ec]
 apply List.map_congr_left
 intro k _
 omega
theorem uM {α:Type} (l:List α) (a m:Nat):((List.range m).map (fun k=>a + k)).filterMap (fun i=>l[i]?)=(l.drop a).take m:=by
 induction m generalizing a with
 | zero=>simp
 | succ m ih =>
  rw [List.range_succ_eq_map,List.map_cons,List.map_map,List.filterMap_cons]
  have e:((fun k=>a + k) ∘ Nat.succ)=fun k=>(a + 1) + k:=by funext k;simp;omega
  rw [e,ih (a + 1)]
  cases h:l[a + 0]? with
  | none =>
   have hl:l.length<=a:=by simpa using List.getElem?_eq_none_iff.mp h
   rw [List.drop_eq_nil_of_le hl,List.drop_eq_nil_of_le (by omega)];simp
  | some v =>
   have hl:a < l.length:=by simpa using (List.getElem?_eq_some_iff.mp h).1
   have hv:l[a]=v:=by simpa using (List.getElem?_eq_some_iff.mp h).2
   rw [List.drop_eq_getElem_cons hl,hv];rfl
theorem y6 (l:List Nat) (lo hi:Option Int):Txt.slice (S l) lo hi=S (eC l lo hi):=by
 have e1:(Builtin.Str.strSliceIndices lo hi 1 (S l).length).filterMap ((S l).cps[·]?)=eC l lo hi:=by
  rw [A5,gS]
  have e:(fun i:Nat=>(S l).cps[i]?)=fun i:Nat=>l[i]?:=by funext i;simp [S]
  rw [e]
  exact uM l _ _
 unfold Txt.slice
 split
 .rename_i h
  have h2:(Builtin.Str.strSliceIndices lo hi 1 (S l).length).length=(S l).length:=by simpa using h
  rw [A5,gS,List.length_map,List.length_range] at h2
  have a0:=HT.sIx_le l.length 0 (Nat.zero_le _) lo
  have b0:=HT.sIx_le l.length l.length (Nat.le_refl _) hi
  unfold eC
  by_cases hz:l.length=0
  .have:l=[]:=List.length_eq_zero_iff.mp hz
   subst this;simp
  .have ha:HT.sIx l.length 0 lo=0:=by omega
   have hb:HT.sIx l.length l.length hi=l.length:=by omega
   rw [ha,hb]
   simp
 .rw [e1];rfl
theorem jd {α:Type} (l:List α) (k:Nat):eC l none (some (k:Int))=l.take k:=by
 unfold eC
 rw [HT.sIx_nat]
 show (l.drop 0).take (min k l.length - 0)=l.take k
 rw [List.drop_zero,Nat.sub_zero]
 by_cases h:k<=l.length
 .rw [Nat.min_eq_left h]
 .rw [Nat.min_eq_right (by omega),List.take_of_length_le (Nat.le_refl _),List.take_of_length_le (by omega)]
theorem kK {α:Type} (l:List α) (k:Nat):eC l (some (k:Int)) none=l.drop k:=by
 unfold eC
 rw [HT.sIx_nat]
 show (l.drop (min k l.length)).take (l.length - min k l.length)=l.drop k
 by_cases h:k<=l.length
 .rw [Nat.min_eq_left h,List.take_of_length_le (by rw [List.length_drop];exact Nat.le_refl _)]
 .rw [Nat.min_eq_right (by omega),Nat.sub_self,List.take_zero,List.drop_eq_nil_of_le (by omega)]
section
variable {X:Cx}
def DO:V->Option Int->Option Int->Hp->VK->Prop:=fun x lo hi H Q=>∃l,x=.str (S l)/\l.length<=sizeLine/\Q (.str (S (eC l lo hi))) H
theorem A6:SlR X DO:=by
 intro pins s σ H x v vl vu lo hi sl Q I rx hs pl pu h
 obtain ⟨l,rfl,hz,q⟩:=h
 obtain ⟨t,rfl⟩:=rx
 refine ⟨"str",_,slot_str_getitem.lookup,typeIs_str s _ t,?_⟩
 obtain ⟨l',hl',el⟩:∃l':Option (Int×Tok),vl=partValue l'/\l'.map (·.1)=lo:=by
  cases pl with
  | none=>exact ⟨none,rfl,rfl⟩
  | int i t=>exact ⟨some (i,t),rfl,rfl⟩
 obtain ⟨u',hu',eu⟩:∃l':Option (Int×Tok),vu=partValue l'/\l'.map (·.1)=hi:=by
  cases pu with
  | none=>exact ⟨none,rfl,rfl⟩
  | int i t=>exact ⟨some (i,t),rfl,rfl⟩
 subst hl' hu'
 refine wpAny_getItem_str_slice (l:=l') (u:=u') (st:=none) hs rfl ?_
 have hm:∀t' k,EP X pins σ Q (.str (Txt.slice (S l) lo hi) t') { s with toks:=k }:=fun t' k=>⟨.str (S (eC l lo hi)),H,I.tok _,⟨t',by rw [y6]⟩,q⟩
 have hlen:(Txt.slice (S l) lo hi).length<=sizeLine:=Nat.le_trans (Txt.slice_le _ _ _) (by rw [gS];exact hz)
 subst el eu
 exact post_val_or_str ⟨hlen,hm⟩
def uc {α:Type} (l:List α) (n:Int):List α:=(List.replicate n.toNat l).flatten
theorem uN (k:Nat) (l acc:List Nat):(List.replicate k l.toArray).foldl (·++·) acc.toArray=(acc++(List.replicate k l).flatten).toArray:=by
 induction k generalizing acc with
 | zero=>simp
 | succ k ih =>
  rw [List.replicate_succ,List.foldl_cons,List.append_toArray,ih (acc++l),List.replicate_succ,List.flatten_cons,List.append_assoc]
theorem CS (l:List Nat) (n:Int):Txt.mul (S l) n=S (uc l n):=by
 unfold Txt.mul uc
 by_cases h:n < 1
 .rw [if_pos h]
  have:n.toNat=0:=by omega
  rw [this];rfl
 .rw [if_neg h]
  split
  .rename_i h2
   rw [gS] at h2
   simp only [Bool.or_eq_true,beq_iff_eq] at h2
   rcases h2 with h2 | h2
   .subst h2;simp [S]
   .have:l=[]:=List.length_eq_zero_iff.mp h2
    subst this;simp [S]
  .have e:=uN n.toNat l []
   show (⟨_⟩:Str)=_
   have e':(List.replicate n.toNat (S l).cps).foldl (·++·) #[]=((List.replicate n.toNat l).flatten).toArray:=by
    simpa [S] using e
   rw [e'];rfl
theorem qw {α:Type} (l:List α) (n:Int):(uc l n).length=n.toNat * l.length:=by
 unfold uc
 rw [List.length_flatten,List.map_replicate,List.sum_replicate_nat]
theorem tm:OpR X (binaryOp .Mult) (fun x y H Q=>∃l n,x=.str (S l)/\y=.int n/\-1000000<=n/\n<=1000000/\n.toNat * l.length<=sizeLine/\Q (.str (S (uc l n))) H):=by
 intro pins s σ H x y v u Q I rx ry h
 obtain ⟨l,n,rfl,rfl,h1,h2,hz,q⟩:=h
 obtain ⟨t,rfl⟩:=rx
 obtain ⟨t',rfl⟩:=ry
 have hs:sizeLine=16777216:=sizeLine_eq
 have hz':n.toNat * l.length<=16777216:=by rw [<- hs];exact hz
 refine SB.mul ⟨?_,fun hn hc=>?_,fun hn hc=>?_⟩ fun t' k=>⟨.str (S (uc l n)),H,I.tok _,⟨t',by rw [CS]⟩,q⟩
 .rw [decide_eq_false (by omega),decide_eq_false (by omega)];rfl
 .rw [gS]
  intro hgt
  have hl:l.length<=16777216:=by
   have:1 * l.length<=n.toNat * l.length:=Nat.mul_le_mul_right _ (by omega)
   omega
  have hdiv:(2 ^ 63 - 1:Int) / 1000000<=(2 ^ 63 - 1) / n:=by
   apply Int.le_ediv_of_mul_le (by omega)
   have:=Int.mul_le_mul_of_nonneg_left h2 (show (0:Int)<=(2 ^ 63 - 1) / 1000000 by decide)
   have e2:((2 ^ 63 - 1:Int) / 1000000) * 1000000<=2 ^ 63 - 1:=by decide
   omega
  have e3:(2 ^ 63 - 1:Int) / 1000000=9223372036854:=by decide
  omega
 .rw [gS]
  have:l.length * n.toNat<=16777216:=by rw [Nat.mul_comm];exact hz'
  exact decide_eq_false (by omega)
theorem uO:OpR X (compareOp .LtE) (fun x y H Q=>∃i j,x=.str i/\y=.str j/\Q (.bl (!decide (j.cps.toList < i.cps.toList))) H):=by
 intro pins s σ H x y v u Q I rx ry h
 obtain ⟨i,j,rfl,rfl,q⟩:=h
 obtain ⟨t,rfl⟩:=rx
 obtain ⟨t',rfl⟩:=ry
 exact PySem.P.le_str ⟨.bl _,H,I,rfl,q⟩
end
def Its (xs:List V):It:=⟨fun i _=>i < xs.length,fun i H x H'=>H'=H/\xs[i]?=some x,fun i _=>xs.length=i⟩
theorem uP {M:Model}{A:Around}{E:Value->Shared->Prop}{s:Shared}{tg:Expr}{it:Addr}{u:Value}{Q:Unit->Shared->Prop} (hu:∀a,u≠.ref a) (hQ:Q () s):wpAny M A (letOwnedTupleGo tg (.ref it) u) Q E s:=by
 unfold letOwnedTupleGo
 cases tg <;> first
  | exact wpAny_pure hQ
  | (cases u <;> first
    | exact wpAny_pure hQ
    | exact absurd rfl (hu _))
theorem iJ {P:Program}{w:World}{K:PySem.W.Frag}{tg:Expr}{it:Addr}{xs:List V}{n:Nat}{Pt:Nat->Value->Prop}{St:Nat->Heap->Prop}
  (W:∀A:Around,A.handled=none->Walks P w A it [it] [it] n Pt St) (hn:xs.length=n)
  (hv:∀i v,i < n->Pt i v->∃x,xs[i]?=some x/\dz x v) (hsc:∀i v,Pt i v->∀a,v≠.ref a)
  (hobj:∀i h,St i h->∃o,h.get? it=some o/\∀v,o.data≠.cell v)
  (hfr:∀i h h',St i h->(∀b∈[it],∀o,h.get? b=some o->h'.get? b=some o)->St i h')
  (hself:∀(A:Around) (i:Nat) (s:Shared) (Q:Value->Shared->Prop) (E:Value->Shared->Prop),St i s.heap->Q (.ref it) s->wpAny (model P w) A (pyIter (.ref it)) Q E s) :
  Aj P w K tg (Its xs) [it] it St where
 mem:=by simp
 obj:=fun i h st b hb=>by
  have e:b=it:=by simpa using hb
  subst e
  exact hobj i h st
 keep:=fun i h h' st k=>hfr i h h' st k
 item:=by
  intro X hP hw hK hc i pins s σ H E I hf st hg
  subst hP hw hK
  obtain ⟨f0,f1,f2,f3,f4,f5⟩:=hf it (by simp)
  refine (W X.A (I.ok.hd hc)).item i s _ _ (by rw [<- hn];exact hg) st fun v h' tk hp st' kk=>?_
  obtain ⟨x,hx,rx⟩:=hv i v (by rw [<- hn];exact hg) hp
  have I1:Inv X pins σ H { s with heap:=h',toks:=tk }:=I.turned (fun b o hb e=>kk b o (by simpa using hb) e) f0 f1 f3 f4 f5
  exact ⟨v,rfl,uP (s:={ s with heap:=h',toks:=tk }) (hsc i v hp) ⟨x,H,I1,rx,⟨rfl,hx⟩,st',fun b hb=>(hf b hb).1⟩⟩
 done:=by
  intro X hP hw hK hc i pins s σ H E I hf st hg
  subst hP hw hK
  obtain ⟨f0,f1,f2,f3,f4,f5⟩:=hf it (by simp)
  have e:n=i:=hn.symm.trans hg
  subst e
  exact (W X.A (I.ok.hd hc)).done s _ _ st fun h' tk kk=>⟨rfl,I.turned (fun b o hb e=>kk b o (by simpa using hb) e) f0 f1 f3 f4 f5⟩
 self:=hself
section
variable {X:Cx}{tg:Expr}
def gu (l:List Nat):List V:=l.map fun c=>V.str (S [c])
theorem tq {l:List Nat}{i:Nat}{x:V} (h:(gu l)[i]?=some x):∃c,l[i]?=some c/\x=.str (S [c]):=by
 unfold gu at h
 rw [List.getElem?_map] at h
 cases e:l[i]? with
 | none=>rw [e] at h;cases h
 | some c=>rw [e] at h;exact ⟨c,rfl,(Option.some.inj h).symm⟩
theorem je (l:List Nat):(gu l).length=l.length:=List.length_map _
def ki (i:Int) (n:Nat):List V:=(List.range n).map fun (k:Nat)=>V.int (i - k)
theorem iK (i:Int) (n:Nat):(ki i n).length=n:=by simp [ki]
theorem uQ {i:Int}{n k:Nat}{x:V} (h:(ki i n)[k]?=some x):k < n/\x=.int (i - k):=by
 unfold ki at h
 rw [List.getElem?_map] at h
 by_cases hk:k < n
 .rw [List.getElem?_range hk] at h
  exact ⟨hk,(Option.some.inj h).symm⟩
 .rw [List.getElem?_eq_none (by simp;omega)] at h
  cases h
def A7 (ta:TA):TI:=fun σ H R=>ta σ H fun vs H1=>∃i j:Int,vs=[.int i,.int j,.int (-1)]/\(-(2 ^ 60)<=i/\i < 2 ^ 60/\-(2 ^ 60)<=j/\j < 2 ^ 60)/\R (Its (ki i (i - j).toNat)) H1
theorem gU (i j:Int):Builtin.Range.rangeSize i j (-1)=(((i - j).toNat:Nat):Int):=by
 unfold Builtin.Range.rangeSize
 rw [if_neg (by decide)]
 simp only [Int.neg_neg,Int.ediv_one]
 split <;> omega
theorem uR {a b c:Expr}{ta:TA}{p pos:Pos} (hg:Gl X "range") (hm:X.mg "range"=none) (ha:PA X [a,b,c] ta)
  (hs:starEach [a,b,c] X.env=[(false,eval a X.env),(false,eval b X.env),(false,eval c X.env)]:=by rfl) (hs2:starEach [b,c] X.env=[(false,eval b X.env),(false,eval c X.env)]:=by rfl) :
  PI X tg (.Call (.Name "range" p) [a,b,c] [] pos) (A7 ta):=by
 intro pins s σ H R I h
 refine Call_ (gp I hg hm boot_range (PyProof.Rows.callWith_type1 (thn (ha pos pins s σ H _ I h) fun us s1 ⟨vs,H1,I1,r1,q1⟩=>?_) (by rw [hs,hs2]) (by rw [hs2];rfl)))
 obtain ⟨i,j,e,⟨q1,q2,q3,q4⟩,q⟩:=q1
 subst e
 cases r1 with
 | cons r rr =>
  cases rr with
  | cons r' rr =>
   cases rr with
   | cons r'' rr =>
    cases rr
    obtain ⟨t,rfl⟩:=r
    obtain ⟨t',rfl⟩:=r'
    obtain ⟨t'',rfl⟩:=r''
    refine call_range_3 (by decide) ?_ (.inl (PyProof.noPylong_small (by decide)))
    refine wpAny_pyIter_range (IsRange.new ..) ?_ ?_
    .unfold Builtin.Range.small
     rw [gU]
     simp only [Builtin.Range.rangeFitsLong,Bool.and_eq_true,Bool.or_eq_true,decide_eq_true_eq,beq_iff_eq,show ¬ (-1:Int) > 0 by decide,if_false]
     omega
    have I2:Inv X pins σ H1 { s1 with heap:=s1.heap.push { cls:=.type "range",data:=.fields #[.int i t,.int j t',.int (-1) t''] },toks:=s1.toks }:=I1.kept fun b o e=>Heap.get?_push_of_some _ e
    refine ⟨_,[(s1.heap.push { cls:=.type "range",data:=.fields #[.int i t,.int j t',.int (-1) t''] }).objs.size],_,Its (ki i (i - j).toNat),H1,rfl,I2.kept (t':=s1.toks) fun b o e=>Heap.get?_push_of_some _ e,
     iJ (fun A hA=>Walks.range hA _ i (-1) (i - j).toNat) (iK _ _) ?_ ?_ ?_ ?_ (fun A i s Q E st q=>wpAny_pyIter_rangeiter st q),?_,fun b hb=>?_,q⟩
    .rintro k v hk ⟨t,rfl⟩
     refine ⟨.int (i - k),?_,t,?_⟩
     .unfold ki
      rw [List.getElem?_map,List.getElem?_range hk];rfl
     .have e:i + (k:Int) * (-1)=i - k:=by omega
      rw [e]
    .rintro k v ⟨t,rfl⟩ a z
     cases z
    .exact fun k h st=>⟨_,st,fun v z=>by
      have z':Data.fields _=Data.cell v:=z
      cases z'⟩
    .exact fun k h h' st kk=>kk _ (by simp) _ st
    .show IsRangeIter _ _ (i + ((0:Nat):Int) * (-1)) ((((i - j).toNat:Nat):Int) - ((0:Nat):Int)) (-1)
     rw [<- gU]
     simp only [Int.natCast_zero,Int.zero_mul,Int.add_zero,Int.sub_zero]
     exact Heap.get?_push_size _ rfl
    .have e:b=(s1.heap.push { cls:=.type "range",data:=.fields #[.int i t,.int j t',.int (-1) t''] }).objs.size:=by simpa using hb
     subst e
     exact I2.fpOk (Nat.le_refl _) (I2.hok.fresh (Nat.le_refl _))
end
section
variable {X:Cx}
theorem qx:bZ X (.builtin "isinstance") (fun xs H Q=>∃x n t b,xs=[x,.ty n]/\oG X.K H x t/\PySem.W.kitOne X.K t (.type n)=some b/\Q (.bl b) H):=by
 intro pins s σ H xs us Q I r h
 obtain ⟨x,n,t,b,rfl,ty,e,q⟩:=h
 obtain ⟨u,w',rfl,rx,ry⟩:=wF r
 cases (show w'=Value.type n from ry)
 exact uB I rx ty e fun tk=>⟨.bl b,H,I.tok _,rfl,q⟩
mutual
inductive DV (K:PySem.W.Frag) (H:Hp):V->PyData->Prop
 | non:DV K H .non .none
 | bl (b:Bool):DV K H (.bl b) (.bool b)
 | int (i:Int):DV K H (.int i) (.int i)
 | str (x:Str):DV K H (.str x) (.str x)
 | lst {a:Addr}{xs:List V}{ds:List PyData}:SqL K H a xs->DVs K H xs ds->DV K H (.ref a) (.list ds)
 | tup {a:Addr}{xs:List V}{ds:List PyData}:SqT K H a xs->DVs K H xs ds->DV K H (.ref a) (.tuple ds)
inductive DVs (K:PySem.W.Frag) (H:Hp):List V->List PyData->Prop
 | nil:DVs K H [] []
 | cons {x:V}{d:PyData}{xs:List V}{ds:List PyData}:DV K H x d->DVs K H xs ds->DVs K H (x::xs) (d::ds)
end
mutual
theorem DV.reads {pins:List (Addr×Obj)}{σ:St}{H:Hp}{s:Shared} (I:Inv X pins σ H s):∀{x:V}{d:PyData}{u:Value},DV X.K H x d->dz x u->∃as,Reads s.heap u d as
 | _,_,u,.non,r=>by cases (show u=Value.none from r);exact ⟨_,.none⟩
 | _,_,u,.bl b,r=>by cases (show u=Value.bool b from r);exact ⟨_,.bool b⟩
 | _,_,u,.int i,r=>by obtain ⟨t,e⟩:=(show ∃t,u=Value.int i t from r);subst e;exact ⟨_,.int i t⟩
 | _,_,u,.str x,r=>by obtain ⟨t,e⟩:=(show ∃t,u=Value.str x t from r);subst e;exact ⟨_,.str x t⟩
 | _,_,u,.lst (a:=a) hq hs,r=>by
  cases (show u=Value.ref a from r)
  obtain ⟨its,rv,pl,_⟩:=I.list hq
  obtain ⟨o,ho,hc,n,hd⟩:=pl.isList
  obtain ⟨as,ra⟩:=DVs.reads I hs rv
  exact ⟨_,.list ho hc hd ra⟩
 | _,_,u,.tup (a:=a) hq hs,r=>by
  cases (show u=Value.ref a from r)
  obtain ⟨its,rv,pl,_⟩:=I.tuple hq
  obtain ⟨o,ho,hc,n,hd⟩:=pl
  obtain ⟨as,ra⟩:=DVs.reads I hs rv
  exact ⟨_,.tuple ho hc hd ra⟩
theorem DVs.reads {pins:List (Addr×Obj)}{σ:St}{H:Hp}{s:Shared} (I:Inv X pins σ H s):∀{xs:List V}{ds:List PyData}{us:List Value},DVs X.K H xs ds->bW xs us->∃as,ReadsAll s.heap us ds as
 | _,_,_,.nil,.nil=>⟨_,.nil⟩
 | _,_,_,.cons h hs,.cons r rs=>by
  obtain ⟨as,ra⟩:=DV.reads I h r
  obtain ⟨bs,rb⟩:=DVs.reads I hs rs
  exact ⟨_,.cons ra rb⟩
end
def CT (K:PySem.W.Frag) (neg:Bool):R2:=fun x y H Q=>∃da db,DV K H x da/\DV K H y db/\SeqAt.shaped da=true/\SeqAt.shaped db=true/\Q (.bl (if neg then !PyData.eqv da db else PyData.eqv da db)) H
theorem A8 (hu:X.A.units + 64 < cLine):OpR X (compareOp .Eq) (CT X.K false):=by
 intro pins s σ H x y v u Q I rx ry h
 obtain ⟨da,db,ha,hb,sa,sb,q⟩:=h
 obtain ⟨as,ra⟩:=DV.reads I ha rx
 obtain ⟨bs,rb⟩:=DV.reads I hb ry
 exact eq_dataH ra rb sa sb hu ⟨.bl _,H,I,rfl,q⟩
theorem A9 (hu:X.A.units + 64 < cLine):OpR X (compareOp .NotEq) (CT X.K true):=by
 intro pins s σ H x y v u Q I rx ry h
 obtain ⟨da,db,ha,hb,sa,sb,q⟩:=h
 obtain ⟨as,ra⟩:=DV.reads I ha rx
 obtain ⟨bs,rb⟩:=DV.reads I hb ry
 exact ne_dataH ra rb sa sb hu ⟨.bl _,H,I,rfl,q⟩
theorem DVs.ints {K:PySem.W.Frag}{H:Hp}:∀ns:List Int,DVs K H (ns.map V.int) (ns.map PyData.int)
 | []=>.nil
 | n::ns=>.cons (.int n) (DVs.ints ns)
theorem kL:∀ns ms:List Int,PyData.eqvAll (ns.map PyData.int) (ms.map PyData.int)=decide (ns=ms)
 | [],[]=>by simp [PyData.eqvAll]
 | [],_::_=>by simp [PyData.eqvAll]
 | _::_,[]=>by simp [PyData.eqvAll]
 | a::r,b::t=>by
  simp only [List.map_cons,PyData.eqvAll,PyData.eqv,kL r t]
  by_cases h:a=b <;> by_cases h':r=t <;> simp [h,h']
theorem qy:MtR X "str.endswith" (fun x xs H Q=>∃a b,x=.str (S a)/\xs=[.str (S b)]/\Q (.bl (decide (b <:+ a))) H):=by
 intro pins s σ H x xs v us Q I rx rs h
 obtain ⟨a,b,rfl,rfl,q⟩:=h
 obtain ⟨t,rfl⟩:=rx
 obtain ⟨u,rfl,t',rfl⟩:=gR rs
 have e:Txt.endswith (S a) (S b)=decide (b <:+ a):=by
  unfold Txt.endswith Builtin.Str.subAt
  rw [gS,gS]
  have e1:((S a).cps.extract (a.length - b.length) (a.length - b.length + b.length))=((a.drop (a.length - b.length)).take b.length).toArray:=by
   show a.toArray.extract _ _=_
   rw [List.extract_toArray,List.extract_eq_take_drop]
   have e2:a.length - b.length + b.length - (a.length - b.length)=b.length:=by omega
   rw [e2]
  rw [e1]
  by_cases h:b <:+ a
  .rw [decide_eq_true h]
   have hl:=h.length_le
   have hd:a.drop (a.length - b.length)=b:=(List.suffix_iff_eq_drop.mp h).symm
   rw [hd]
   simp [S,hl]
  .rw [decide_eq_false h]
   by_cases hl:b.length<=a.length
   .have hne:¬ (a.drop (a.length - b.length)).take b.length=b:=fun z=>h (by
     rw [List.take_of_length_le (by rw [List.length_drop];omega)] at z
     exact List.suffix_iff_eq_drop.mpr z.symm)
    simp only [Bool.and_eq_false_imp]
    intro _
    show (((a.drop (a.length - b.length)).take b.length).toArray == b.toArray)=false
    rw [beq_eq_false_iff_ne]
    intro z
    exact hne (by simpa using congrArg Array.toList z)
   .rw [decide_eq_false (by omega)];rfl
 exact SC.endswith ⟨.bl _,H,I,rfl,by rw [e];exact q⟩
end
section
variable {X:Cx}{a b:Expr}{ta tb:TE}{pos:Pos}
theorem c8 {x:Str}{l:List Nat}{j:Nat} (h:x=S l):PE X (.Constant (.str x) j pos) (tC (.str (S l))):=by
 subst h
 exact AA
theorem uS:bZ X (.builtin "len") (fun xs H Q=>∃l,xs=[.str (S l)]/\l.length<=sizeLine/\Q (.int l.length) H):=by
 intro pins s σ H xs us Q I r h
 obtain ⟨l,rfl,hz,q⟩:=h
 exact oQ pins s σ H _ us Q I r ⟨S l,rfl,by rw [gS];exact hz,by rw [gS];exact q⟩
def Ba:R2:=fun x y H Q=>∃l i c,x=.str (S l)/\y=.int i/\l.length<=sizeLine/\atI l i=some c/\Q (.str (S [c])) H
theorem y8:IxR X Ba:=by
 intro value slice pins s σ H x y v u Q I rx ry q hs
 obtain ⟨l,i,c,rfl,rfl,hz,ha,q⟩:=q
 exact AX value slice pins s σ H _ _ v u Q I rx ry ⟨S l,i,c,rfl,rfl,by rw [gS];exact hz,ha,q⟩ hs
theorem y9:OpR X (binaryOp .Add) (fun x y H Q=>∃i j,x=.str (S i)/\y=.str (S j)/\i.length + j.length<=sizeLine/\Q (.str (S (i++j))) H):=by
 intro pins s σ H x y v u Q I rx ry h
 obtain ⟨i,j,rfl,rfl,hz,q⟩:=h
 exact sQ pins s σ H _ _ v u Q I rx ry ⟨S i,S j,rfl,rfl,by rw [gS,gS];exact hz,by rw [CQ];exact q⟩
theorem Bb:OpR X (compareOp .Eq) (fun x y H Q=>∃i j,x=.str (S i)/\y=.str (S j)/\Q (.bl (decide (i=j))) H):=by
 intro pins s σ H x y v u Q I rx ry h
 obtain ⟨i,j,rfl,rfl,q⟩:=h
 exact CI pins s σ H _ _ v u Q I rx ry ⟨rfl,by rw [A4];exact q⟩
theorem Bc:OpR X (compareOp .NotEq) (fun x y H Q=>∃i j,x=.str (S i)/\y=.str (S j)/\Q (.bl (!decide (i=j))) H):=by
 intro pins s σ H x y v u Q I rx ry h
 obtain ⟨i,j,rfl,rfl,q⟩:=h
 exact CJ pins s σ H _ _ v u Q I rx ry ⟨rfl,by rw [A4];exact q⟩
theorem Bd:OpR X (compareOp .Eq) (rI0 fun i j=>.bl (decide (i=j))):=Ak fun _ _ _ _ _ _ _ q=>eq_int (by rw [Bool.beq_eq_decide_eq];exact q)
theorem Be:OpR X (compareOp .NotEq) (rI0 fun i j=>.bl (!decide (i=j))):=Ak fun _ _ _ _ _ _ _ q=>ne_int (by rw [bne,Bool.beq_eq_decide_eq];exact q)
theorem uT:bZ X (.builtin "len") (fun xs H Q=>∃p ys,xs=[.ref p]/\SqL X.K H p ys/\Q (.int ys.length) H):=by
 intro pins s σ H xs us Q I r h
 obtain ⟨p,ys,e,hq,q⟩:=h
 exact jN pins s σ H xs us Q I r ⟨p,ys,e,.inl hq,q⟩
theorem uU:bZ X (.builtin "len") (fun xs H Q=>∃p ys,xs=[.ref p]/\SqT X.K H p ys/\Q (.int ys.length) H):=by
 intro pins s σ H xs us Q I r h
 obtain ⟨p,ys,e,hq,q⟩:=h
 exact jN pins s σ H xs us Q I r ⟨p,ys,e,.inr hq,q⟩
end
structure Cal (P:Program) (w:World) (K:PySem.W.Frag) (mg:Str->Option Value) (base:Heap) (k:Nat) (x:Str) (ps:List Str) (sp:Sp):Prop where
 ex:∃(f:Addr) (fd:FuncData),mS P w K mg base CX0 k f fd ps sp/\jc K fd ps []/\PySem.W.keepIn K (.ref f)=true/\mg x=some (.ref f)/\∃oc od osl,K.lookup f=some ⟨oc,od,.func fd,osl⟩
structure cE (K:PySem.W.Frag) (mg:Str->Option Value) (x:Str) (st:Stmt):Prop where
 ex:∃(f:Addr) (fd:FuncData),Fun K x x st f fd/\mg x=some (.ref f)
section
variable {P:Program}{w:World}{K:PySem.W.Frag}{mg:Str->Option Value}{base:Heap}{x:Str}{st:Stmt}{N ps:List Str}{k:Nat}{sp:Sp}
theorem cE.ok (D:cE K mg x st) (S:aL N ps (ao st))
  (hb:∀(kV doc pm:Value) (an:Option Addr) (cdv ct:Value) (us:List Value),us.length=ps.length->bindArgs (PySem.W.fnOf x x (cJ st) (bK st) (ao st) .none kV doc pm an cdv ct) ⟨us,[]⟩=pure (ps.zip us))
  (len:∀vs H Q E,sp vs H Q E->vs.length=ps.length)
  (hbody:∀(f:Addr) (cdv:Value) (A:Around) (outer:List Env) (s:Shared) (H:Hp) (vs:List V) (Q:VK) (E:XK),gq k (A.deeper (envOfC x (ao st) s.heap.objs.size f cdv))->sp vs H Q E ->
   ∃t,PSs (uD CX0 P w K mg base N x (ao st) f cdv A outer s H E).nox (bK st) t/\t { nx:=fun _ H'=>Q .non H',rt:=Q } (start N vs) H):Cal P w K mg base (k + 1) x ps sp:=by
 obtain ⟨f,fd,F,hm⟩:=D.ex
 have lk:∃oc od osl,K.lookup f=some ⟨oc,od,.func fd,osl⟩:=by
  obtain ⟨oc,od,kV,doc,pm,an,cdv,ct,osl,rfl,lk,hcd⟩:=F.ex
  exact ⟨oc,od,osl,lk⟩
 exact ⟨f,fd,F.ok S len fun cdv A outer s H vs Q E hr h=>hbody f cdv A outer s H vs Q E hr h,F.binds hb,F.kp,hm,lk⟩
theorem cE.mk' {K:PySem.W.Frag}{h:Heap}{mg:Str->Option Value}{x:Str}{st:Stmt}{f:Addr}{oc:Value}{od an:Option Addr}{osl:Array (Option Value)}{kV doc pm cdv ct:Value} (X:K.In h) (G:h.Ns mainGlobals mg)
  (a:PySem.W.nsIn K mainGlobals x=some (some (.ref f))) (l:K.lookup f=some ⟨oc,od,.func (PySem.W.fnOf x x (cJ st) (bK st) (ao st) .none kV doc pm an cdv ct),osl⟩)
  (c:PySem.W.codeIn K cdv x=true) (k:PySem.W.keepIn K (.ref f)=true):cE K mg x st:=⟨f,_,oW (st:=st) l c k,PySem.W.mg_of X G a⟩
end
section
variable {X:Cx}{k:Nat}{x:Str}{ps:List Str}{sp:Sp}{p pos:Pos}{e:Expr}{es:List Expr}{t:TA}
theorem Bf (C:Cal X.prog X.w X.K X.mg X.base k x ps sp) (hr:gq k X.A) (ha:PA X (e::es) t) (hg:Gl X x:=by rfl) (hdb:(x == ("__debug__":Str))=false:=by decide) (he:starEach (e::es) X.env=(false,eval e X.env)::starEach es X.env:=by rfl)
  (hpl:(backTo pos (starEach es X.env)).any (·.1)=false:=by rfl):PE X (.Call (.Name x p) (e::es) [] pos) (eY sp [] E0 t):=by
 obtain ⟨f,fd,F,hb,hk,hm,_⟩:=C.ex
 exact uC F hr hg hm hk hb .nil wR ha hdb he hpl
end
def tu (K:PySem.W.Frag):Sp:=fun vs H Q _=>∃(a:Addr) (ns:List Int),vs=[.ref a]/\SqL K H a (ns.map V.int)/\ns.length<=63/\∀H',Q (.bl true) H'
theorem Bg {P:Program}{w:World}{K:PySem.W.Frag}{mg:Str->Option Value}{fa:Addr}{st:Stmt}{k:Nat}{x:Str} (hfa:mg "law"=some (.ref fa)) (D:cE K mg "law" st)
  (hbind:∀(kV doc pm:Value) (an:Option Addr) (cdv ct:Value) (s:Shared) (v:Value),BindsTo s (PySem.W.fnOf "law" "law" (cJ st) (bK st) (ao st) .none kV doc pm an cdv ct) ⟨[v],[]⟩ [(x,v)])
  (h:∀base:Heap,Cal P w K mg base k "law" [x] (tu K)) :
  ∃fd:FuncData,(∀(s:Shared) (v:Value),BindsTo s fd ⟨[v],[]⟩ [(x,v)])/\∀base:Heap,K.In base->base.Ns mainGlobals mg->mS P w K mg base CX0 k fa fd [x] (tu K):=by
 obtain ⟨f,fd,F,hm⟩:=D.ex
 have e:=hfa.symm.trans hm
 cases e
 obtain ⟨oc,od,kV,doc,pm,an,cdv,ct,osl,rfl,lk,hcd⟩:=F.ex
 refine ⟨_,fun s v=>hbind kV doc pm an cdv ct s v,fun base kb nb=>?_⟩
 obtain ⟨f',fd',F',_,_,hm',oc',od',osl',lk'⟩:=(h base).ex
 have e:=hfa.symm.trans hm'
 cases e
 rw [lk] at lk'
 cases lk'
 exact F'
theorem Bh {l:PySem.W.OpenLaw}{q:Program}{loose:List Str}{XP:(Str->Option Value)->Heap->Prop}{YP:World->Heap->Prop}{d:DefRec}{K:Params->PySem.W.Frag}{k:Nat}{x:Str} (hn:l.most=some 63) (hdf:d.params.defaults=[]) (hr:gq k callerA)
  (hY:∀(w:World) (h:Heap),YP w h->(K w.params).In h)
  (F:∀(w:World) (mg:Str->Option Value) (fa:Addr) (h:Heap),(K w.params).In h->h.Ns mainGlobals mg->mg d.name=some (.ref fa) ->
   ∃fd:FuncData,(∀(s:Shared) (u:Value),BindsTo s fd ⟨[u],[]⟩ [(x,u)])/\∀base:Heap,(K w.params).In base->base.Ns mainGlobals mg->mS l.prog w (K w.params) mg base CX0 k fa fd [x] (tu (K w.params))) :
  PySem.W.WalkO q loose XP YP l.row.toRowW d [] (fun f vs=>PySem.call f vs) :=
 yZ (n:=63) (k:=k) (x:=x) (CX:=fun _=>CX0) (sp:=fun w=>tu (K w.params)) hn (by decide) hdf hr hY F (fun _ _ a ns hl _ hS=>⟨a,ns,rfl,hS,hl,fun _=>rfl⟩) fun _ _ _ _ _ z=>z
theorem za {α β:Type}{f:α->β}{xs:List α}{i:Int}{v:α} (h:atI xs i=some v):atI (xs.map f) i=some (f v):=by
 unfold atI at h ⊢
 rw [List.length_map]
 cases e:ixN xs.length i with
 | none=>rw [e] at h;cases h
 | some j =>
  rw [e] at h
  show (xs.map f)[j]?=some (f v)
  have h':xs[j]?=some v:=h
  rw [List.getElem?_map,h'];rfl
theorem fb {α:Type}{xs:List α}{i:Int}{j:Nat}{v:α} (h:xs[j]?=some v) (e:i=(j:Int)):atI xs i=some v:=by subst e;exact yU h
theorem sz (n:Nat) (h:n<=1000000):n<=sizeLine:=by rw [sizeLine_eq];omega
theorem wS {ns:List Int}{i:Nat}{x:V} (h:(ns.map V.int)[i]?=some x):∃z,ns[i]?=some z/\x=.int z:=by
 rw [List.getElem?_map] at h
 cases e:ns[i]? with
 | none=>rw [e] at h;cases h
 | some z=>rw [e] at h;exact ⟨z,rfl,(Option.some.inj h).symm⟩
section
variable {X:Cx}{st:Stmt}{t:TS}
def Bi (t:TS):TS:=fun D σ H=>∃J:St->Hp->Prop,t { D with nx:=J } σ H/\∀σ' H',J σ' H'->D.nx σ' H'
theorem jf (h:PS X st t):PS X st (Bi t):=by
 intro pins s σ H D I q
 obtain ⟨J,q1,q2⟩:=q
 refine thn (h pins s σ H _ I q1) fun f s' r=>?_
 cases f with
 | next=>obtain ⟨σ',H',I',r'⟩:=r;exact ⟨σ',H',I',q2 σ' H' r'⟩
 | brk=>exact r
 | cont=>exact r
 | ret u=>exact r
end
theorem wT {α β:Type} (f:α->β) (xs:List α) (lo hi:Option Int):eC (xs.map f) lo hi=(eC xs lo hi).map f:=by
 unfold eC
 rw [List.length_map,List.map_take,List.map_drop]
theorem ej {x:Str}{c:Addr}:∀(names:List (Str×NameKind)) (n:Nat) (acc:List (Str×Addr)),(cellsFrom n names acc).lookup x=some c->(n<=c/\(x,NameKind.cell)∈names)\/acc.lookup x=some c
 | [],n,acc,h=>.inr h
 | (y,k)::r,n,acc,h=>by
  unfold cellsFrom at h
  split at h
  .rename_i hk
   have hk':k=.cell:=by simpa using hk
   subst hk'
   rcases ej r (n + 1) ((y,n)::acc) h with ⟨h1,h2⟩ | h1
   .exact .inl ⟨by omega,List.mem_cons_of_mem _ h2⟩
   .rw [List.lookup_cons] at h1
    cases e:x == y with
    | true =>
     rw [e] at h1
     have:n=c:=Option.some.inj h1
     have ex:x=y:=by simpa using e
     subst ex
     exact .inl ⟨by omega,List.mem_cons_self⟩
    | false=>rw [e] at h1;exact .inr h1
  .rcases ej r n acc h with ⟨h1,h2⟩ | h1
   .exact .inl ⟨h1,List.mem_cons_of_mem _ h2⟩
   .exact .inr h1
theorem fm {x:Str}:∀(names:List (Str×NameKind)) (n:Nat) (acc:List (Str×Addr)),(x,NameKind.cell)∉names->(cellsFrom n names acc).lookup x=acc.lookup x
 | [],_,_,_=>rfl
 | (y,k)::r,n,acc,h=>by
  unfold cellsFrom
  split
  .rename_i hk
   have hk':k=.cell:=by simpa using hk
   subst hk'
   rw [fm r (n + 1) _ (fun z=>h (List.mem_cons_of_mem _ z)),List.lookup_cons]
   have:(x == y)=false:=by
    rw [beq_eq_false_iff_ne]
    intro e;subst e;exact h List.mem_cons_self
   rw [this]
  .exact fm r n acc (fun z=>h (List.mem_cons_of_mem _ z))
theorem fo {x y:Str}{c:Addr}:∀(names:List (Str×NameKind)) (n:Nat) (acc:List (Str×Addr)),(∀z d,acc.lookup z=some d->d < n) ->
  (cellsFrom n names acc).lookup x=some c->(cellsFrom n names acc).lookup y=some c->n<=c->x=y
 | [],n,acc,ha,h1,h2,hc=>absurd (ha x c h1) (Nat.not_lt.mpr hc)
 | (z,k)::r,n,acc,ha,h1,h2,hc=>by
  unfold cellsFrom at h1 h2
  split at h1
  .rename_i hk
   rw [if_pos hk] at h2
   have ha':∀w d,((z,n)::acc).lookup w=some d->d < n + 1:=fun w d e=>by
    rw [List.lookup_cons] at e
    cases q:w == z with
    | true=>rw [q] at e;cases e;exact Nat.lt_succ_self _
    | false=>rw [q] at e;exact Nat.lt_succ_of_lt (ha w d e)
   by_cases hcn:n + 1<=c
   .exact fo r (n + 1) _ ha' h1 h2 hcn
   .have e:c=n:=Nat.le_antisymm (Nat.not_lt.mp hcn) hc
    subst e
    have key:∀w:Str,(cellsFrom (c + 1) r ((z,c)::acc)).lookup w=some c->w=z:=fun w hw=>by
     rcases ej r (c + 1) _ hw with ⟨q,_⟩ | q
     .exact absurd q (Nat.not_succ_le_self _)
     .rw [List.lookup_cons] at q
      cases q2:w == z with
      | true=>simpa using q2
      | false=>rw [q2] at q;exact absurd (ha w c q) (Nat.lt_irrefl _)
    rw [key x h1,key y h2]
  .rename_i hk
   rw [if_neg hk] at h2
   exact fo r n acc ha h1 h2 hc
def ik (env:Env):List (Str×NameKind)->List (Str×Addr)->List (Str×Addr)
 | [],acc=>acc
 | (n,k)::r,acc=>if (k == .free)=true then ik env r ((n,(env.cells.lookup n).getD 0)::acc) else ik env r acc
theorem ft {env:Env}{x:Str}{c:Addr}:∀(names:List (Str×NameKind)) (acc:List (Str×Addr)),(ik env names acc).lookup x=some c->((x,NameKind.free)∈names/\c=(env.cells.lookup x).getD 0)\/acc.lookup x=some c
 | [],acc,h=>.inr h
 | (y,k)::r,acc,h=>by
  unfold ik at h
  split at h
  .rename_i hk
   have hk':k=.free:=by simpa using hk
   subst hk'
   rcases ft r _ h with ⟨h1,h2⟩ | h1
   .exact .inl ⟨List.mem_cons_of_mem _ h1,h2⟩
   .rw [List.lookup_cons] at h1
    cases e:x == y with
    | true =>
     rw [e] at h1
     have ex:x=y:=by simpa using e
     subst ex
     exact .inl ⟨List.mem_cons_self,(Option.some.inj h1).symm⟩
    | false=>rw [e] at h1;exact .inr h1
  .rcases ft r acc h with ⟨h1,h2⟩ | h1
   .exact .inl ⟨List.mem_cons_of_mem _ h1,h2⟩
   .exact .inr h1
theorem iL {env:Env}{x:Str}:∀(names:List (Str×NameKind)) (acc:List (Str×Addr)),((x,NameKind.free)∈names\/(acc.lookup x).isSome=true)->((ik env names acc).lookup x).isSome=true
 | [],acc,h=>h.elim (fun z=>nomatch z) id
 | (y,k)::r,acc,h=>by
  unfold ik
  split
  .rename_i hk
   refine iL r _ ?_
   by_cases e:(x == y)=true
   .exact .inr (by rw [List.lookup_cons,e];rfl)
   .rcases h with h | h
    .rcases List.mem_cons.mp h with z | z
     .cases z;exact absurd (by simp) e
     .exact .inl z
    .exact .inr (by rw [List.lookup_cons];rw [Bool.not_eq_true] at e;rw [e];exact h)
  .rename_i hk
   refine iL r acc ?_
   rcases h with h | h
   .rcases List.mem_cons.mp h with z | z
    .cases z;exact absurd rfl hk
    .exact .inl z
   .exact .inr h
theorem fT {scope:Scope}{env:Env} (h:∀x∈scope.names,x.2=.free->∃c,env.cells.lookup x.1=some c):closureFor scope env=pure (ik env scope.names []):=by
 unfold closureFor
 have key:∀(names:List (Str×NameKind)) (acc:List (Str×Addr)),(∀x∈names,x.2=.free->∃c,env.cells.lookup x.1=some c) ->
   (forIn names acc fun (x:Str×NameKind) (r:List (Str×Addr))=>(if (x.2 == NameKind.free)=true then do let y <- cellOf env x.1;pure (ForInStep.yield ((x.1,y)::r)) else pure (ForInStep.yield r):Sem _))=pure (ik env names acc):=by
  intro names
  induction names with
  | nil=>intro acc _;rfl
  | cons p r ih =>
   intro acc hp
   obtain ⟨n,k⟩:=p
   rw [List.forIn_cons]
   have hr:∀x∈r,x.2=.free->∃c,env.cells.lookup x.1=some c:=fun x hx=>hp x (List.mem_cons_of_mem _ hx)
   unfold ik
   by_cases hk:(k == NameKind.free)=true
   .obtain ⟨c,hc⟩:=hp (n,k) List.mem_cons_self (by simpa using hk)
    have hc':env.cells.lookup n=some c:=hc
    have e1:cellOf env n=pure c:=by unfold cellOf;rw [hc']
    simp only [hk,if_true]
    rw [e1,hc']
    simp only [pure_bind]
    exact ih _ hr
   .rw [if_neg hk,if_neg hk]
    simp only [pure_bind]
    exact ih _ hr
 have e:=key scope.names [] h
 have e2:∀(m:Sem (List (Str×Addr))),(m >>= fun r=>pure r)=m:=fun m=>bind_pure m
 rw [<- e]
 first
  | rfl
  | exact (e2 _)
def ny (scope:Scope) (C:Addr) (env:Env):Env :=
 { scope:=relabel scope env,locals:=C,globals:=env.globals,cells:=cellsFrom (C + 1) scope.names (ik env scope.names []),qual:=env.qual,func:=none,code:=env.code,frame:=env.frame,builtins:=env.builtins }
def bt (X:Cx) (N':List Str) (scope:Scope) (s:Shared) (H:Hp) (fp:List Addr) (pins:List (Addr×Obj)):Cx :=
 { X with N:=N',s₀:=s,H₀:=H,env:=ny scope s.heap.objs.size X.env,outer:=X.stack,stack:=X.stack,ex:=fp,fn:=fun x=>decide ((x,NameKind.cell)∈scope.names),pn:=X.pn++pins,xe:=fun _ _=>False }
def kM (sc0:Scope) (N:List Str) (scope:Scope) (N':List Str) (ix:List (Option Nat)):Bool :=
 decide (scope.kind=.function) && scope.names.all (fun y=>(!decide (y.2=.local) || decide (scope.names.lookup y.1=some .local)) &&
  (!decide (y.2=.free) || ((decide (sc0.names.lookup y.1=some .cell) || decide (sc0.names.lookup y.1=some .free)) && !decide ((y.1,NameKind.cell)∈scope.names)))) &&
 decide (N'.length=ix.length) && (N'.zip ix).all (fun p=>match p.2 with | none=>true | some j=>decide (N[j]?=some p.1) && decide (scope.names.lookup p.1=some .free))
structure rN (env:Env) (N:List Str) (scope:Scope) (N':List Str) (ix:List (Option Nat)):Prop where
 kind:scope.kind=.function
 loc:∀y∈scope.names,y.2=.local->scope.names.lookup y.1=some .local
 free:∀y∈scope.names,y.2=.free->(env.kindOf y.1=some .cell\/env.kindOf y.1=some .free)/\(y.1,NameKind.cell)∉scope.names
 len:N'.length=ix.length
 slot:∀(i:Nat) (x:Str) (j:Nat),N'[i]?=some x->ix[i]?=some (some j)->N[j]?=some x/\scope.names.lookup x=some .free
theorem kN {env:Env}{N:List Str}{scope:Scope}{N':List Str}{ix:List (Option Nat)} (h:kM env.scope N scope N' ix=true):rN env N scope N' ix:=by
 unfold kM at h
 simp only [Bool.and_eq_true,decide_eq_true_eq,List.all_eq_true] at h
 obtain ⟨⟨⟨h1,h2⟩,h3⟩,h4⟩:=h
 refine ⟨h1,fun y hy e=>?_,fun y hy e=>?_,h3,fun i x j e1 e2=>?_⟩
 .have:=(h2 y hy).1
  rw [e] at this
  simpa using this
 .have:=(h2 y hy).2
  rw [e] at this
  simpa [Env.kindOf] using this
 .have hm:(x,some j)∈N'.zip ix:=by
   refine List.mem_of_getElem? (i:=i) ?_
   rw [List.getElem?_zip_eq_some]
   exact ⟨e1,e2⟩
  have:=h4 _ hm
  simpa using this
def rlf (env:Env) (p:Str×NameKind):Str×NameKind:=match p with | (n,k)=>if (k == NameKind.free && env.scope.kind == .function && env.kindOf n == some .cell) then (n,.cell) else (n,k)
theorem uV (env:Env) (n:Str) (k:NameKind):∃k',rlf env (n,k)=(n,k')/\(k'=k\/(k=.free/\k'=.cell)):=by
 unfold rlf
 by_cases c:(k == NameKind.free && env.scope.kind == .function && env.kindOf n == some .cell)=true
 .refine ⟨.cell,if_pos c,.inr ⟨?_,rfl⟩⟩
  simp only [Bool.and_eq_true,beq_iff_eq] at c
  exact c.1.1
 .exact ⟨k,if_neg c,.inl rfl⟩
theorem rO {env:Env}:∀{names:List (Str×NameKind)}{x:Str},names.lookup x=some .free->(names.map (rlf env)).lookup x=some .cell\/(names.map (rlf env)).lookup x=some .free
 | [],_,h=>by simp at h
 | (n,k)::r,x,h=>by
  have ih:=@rO env r x
  obtain ⟨k',e,hk'⟩:=uV env n k
  rw [List.map_cons,e]
  cases hx:x == n with
  | true =>
   simp only [List.lookup_cons,hx] at h ⊢
   have hk:k=.free:=Option.some.inj h
   rcases hk' with z | z
   .right;rw [z,hk]
   .left;rw [z.2]
  | false =>
   simp only [List.lookup_cons,hx] at h ⊢
   exact ih h
theorem nz {env:Env}:∀{names:List (Str×NameKind)}{x:Str}{k':NameKind},(names.map (rlf env)).lookup x=some k'->k'=.cell\/k'=.free->names.lookup x=some .cell\/names.lookup x=some .free
 | [],_,_,h,_=>by simp at h
 | (n,k)::r,x,k',h,hk'=>by
  have ih:=@nz env r x k'
  obtain ⟨k2,e,hk2⟩:=uV env n k
  rw [List.map_cons,e] at h
  cases hx:x == n with
  | true =>
   simp only [List.lookup_cons,hx] at h ⊢
   have:k2=k':=Option.some.inj h
   subst this
   rcases hk2 with z | z
   .rw [<- z]
    rcases hk' with q | q
    .left;rw [q]
    .right;rw [q]
   .right;rw [z.1]
  | false =>
   simp only [List.lookup_cons,hx] at h ⊢
   exact ih h hk'
theorem oX {x:Str}{c:Addr}:∀(names:List (Str×NameKind)) (n:Nat) (acc:List (Str×Addr)),(cellsFrom n names acc).lookup x=some c->(x,c)∈cellsFrom n names []\/acc.lookup x=some c:=by
 have app:∀(names:List (Str×NameKind)) (n:Nat) (acc:List (Str×Addr)),cellsFrom n names acc=cellsFrom n names []++acc:=by
  intro names
  induction names with
  | nil=>intro n acc;rfl
  | cons p r ih =>
   intro n acc
   obtain ⟨y,k⟩:=p
   unfold cellsFrom
   split
   .rw [ih (n + 1) ((y,n)::acc),ih (n + 1) [(y,n)],List.append_assoc];rfl
   .exact ih n acc
 intro names n acc h
 rw [app] at h
 rw [List.lookup_append] at h
 cases e:(cellsFrom n names []).lookup x with
 | some d =>
  rw [e] at h
  have:d=c:=by simpa using h
  subst this
  exact .inl (mem_of_lookup e)
 | none=>rw [e] at h;exact .inr (by simpa using h)
def oY (ix:List (Option Nat)) (σ:St):St:=ix.map fun o=>match o with
 | none=>none
 | some j=>match σ[j]? with
  | some v=>v
  | none=>none
section
variable {X:Cx}{pins:List (Addr×Obj)}{σ:St}{H:Hp}{s:Shared}
theorem rP {N':List Str}{ix:List (Option Nat)}{scope:Scope}{fp:List Addr} (ok:rN X.env X.N scope N' ix) (I:Inv X pins σ H s) (hf:∀b∈fp,qt X pins H b) (hfl:∀b∈fp,b < s.heap.objs.size) :
  Inv (bt X N' scope s H fp pins) [] (oY ix σ) H { s with heap:=pushCells (s.heap.push { cls:=.type "dict",data:=.dict #[] }) scope.names }:=by
 have hk4:∀b o,s.heap.get? b=some o->(pushCells (s.heap.push { cls:=.type "dict",data:=.dict #[] }) scope.names).get? b=some o:=fun b o e=>pushCells_keeps _ _ b o (Heap.get?_push_of_some _ e)
 have hclo:∀x c,(ik X.env scope.names []).lookup x=some c->X.env.cells.lookup x=some c:=fun x c e=>by
  rcases ft scope.names [] e with ⟨h1,h2⟩ | h1
  .obtain ⟨d,hd⟩:=I.ok.has x (ok.free _ h1 rfl).1
   rw [hd] at h2 ⊢
   rw [h2];rfl
  .cases h1
 have hcl:∀x c,X.env.cells.lookup x=some c->c < s.heap.objs.size:=fun x c e=>by
  obtain ⟨v,q⟩:=I.cell x c e
  exact q.lt
 have own:=cellsFrom_ok scope.names (s.heap.push { cls:=.type "dict",data:=.dict #[] }) (s.heap.objs.size + 1) [] ⟨fun _ _ hm=>(nomatch hm),List.Pairwise.nil⟩ (by rw [Heap.size_push];exact Nat.le_refl _)
 rw [Heap.size_push] at own
 have cases:∀x c,(cellsFrom (s.heap.objs.size + 1) scope.names (ik X.env scope.names [])).lookup x=some c ->
   ((pushCells (s.heap.push { cls:=.type "dict",data:=.dict #[] }) scope.names).IsCell c none/\s.heap.objs.size + 1<=c)\/X.env.cells.lookup x=some c:=fun x c e=>by
  rcases oX _ _ _ e with h | h
  .exact .inl (own.empty x c h)
  .exact .inr (hclo x c h)
 have fs':∀b,b∈frs X.stack->b < s.heap.objs.size:=fun b hb=>by
  rcases List.mem_cons.mp (I.stkSub b hb) with z | z
  .rw [z];exact I.lt
  .by_cases q:b < s.heap.objs.size
   .exact q
   .exact absurd z (I.nofs (Nat.not_lt.mp q))
 have cix:(bt X N' scope s H fp pins).Ok:=by
  refine ⟨I.ok.mod,ok.kind,I.ok.glob,I.ok.blt,Nat.le_refl _,fun x y c h1 h2=>?_,fun x hx=>?_,fun x c hx e=>?_,I.ok.hd,I.ok.frames,.inl rfl,fun b hb=>⟨Nat.ne_of_lt (hfl b hb),fun x c e=>?_⟩,fun b o e=>I.bs b o e,Nat.le_trans I.ok.bsz I.sz,fun b o e hb=>?_,fun b hb=>?_,I.stack,I.stkFree⟩
  .rcases cases x c h1 with ⟨_,z⟩ | z
   .exact fo scope.names _ _ (fun w d e=>Nat.lt_succ_of_lt (hcl w d (hclo w d e))) h1 h2 z
   .rcases cases y c h2 with ⟨_,z2⟩ | z2
    .exact absurd (hcl x c z) (Nat.not_lt.mpr (Nat.le_of_succ_le z2))
    .exact I.ok.inj x y c z z2
  .have hx':scope.names.lookup x=some .cell\/scope.names.lookup x=some .free:=by
    rcases hx with z | z
    .exact nz (env:=X.env) z (.inl rfl)
    .exact nz (env:=X.env) z (.inr rfl)
   rcases hx' with z | z
   .exact Option.isSome_iff_exists.mp (PySem.W.cellsFrom_some scope.names _ _ (.inl z))
   .exact Option.isSome_iff_exists.mp (PySem.W.cellsFrom_some scope.names _ _ (.inr (iL _ _ (.inl (mem_of_lookup z)))))
  .have hx':(x,NameKind.cell)∈scope.names:=of_decide_eq_true hx
   rcases cases x c e with ⟨_,z⟩ | z
   .exact Nat.le_of_succ_le z
   .rcases oX _ _ _ e with h | h
    .exact Nat.le_of_succ_le (own.empty x c h).2
    .rcases ft scope.names [] h with ⟨h1,_⟩ | h1
     .exact absurd hx' (ok.free _ h1 rfl).2
     .cases h1
  .intro z
   rcases cases x c e with ⟨_,z2⟩ | z2
   .rw [z] at z2;exact absurd (hfl b hb) (Nat.not_lt.mpr (Nat.le_of_succ_le z2))
   .exact (hf b hb).2.2.2.2.1 x c z2 z
  .rcases (hf b hb).2.2.2.1 with z | z
   .exact I.ok.noex b o e z
   .exact absurd (Heap.lt_size (I.ok.bs b o e).1) (Nat.not_lt.mpr z)
  .intro z
   rcases List.mem_cons.mp (I.stkSub b z) with q | q
   .exact (hf b hb).2.1 q
   .exact (hf b hb).2.2.1 q
 refine ⟨cix,rfl,I.bare,Un.kept hk4,⟨fun _=>none,?_,fun i x v e1 e2 e3=>?_⟩,fun x c e=>?_,I.hok.fresh (Nat.le_refl _),fun x c e=>?_,fun p hp=>?_,I.hok.kept hk4,?_⟩
 .exact (Heap.Ns.new s.heap (.type "dict")).keeps (pushCells_keeps _ _)
 .have e2':∃j,ix[i]?=some (some j)/\σ[j]?=some (some v):=by
   unfold oY at e2
   rw [List.getElem?_map] at e2
   cases q:ix[i]? with
   | none=>rw [q] at e2;cases e2
   | some o =>
    rw [q] at e2
    cases o with
    | none=>cases (Option.some.inj e2)
    | some j =>
     refine ⟨j,rfl,?_⟩
     have e2'':(match σ[j]? with | some v=>v | none=>none)=some v:=Option.some.inj e2
     cases r:σ[j]? with
     | none=>rw [r] at e2'';cases e2''
     | some w=>rw [r] at e2'';exact congrArg some e2''
  obtain ⟨j,hj,hv⟩:=e2'
  obtain ⟨hN,hfr⟩:=ok.slot i x j e1 hj
  have hk:=(ok.free _ (mem_of_lookup hfr) rfl).1
  have hvis:Vis X.env.scope x:=by
   rcases hk with z | z
   .exact .inr (.inl z)
   .exact .inr (.inr z)
  obtain ⟨m,hn,hl⟩:=I.loc
  obtain ⟨u,ru,lk⟩:=hl j x v hN hv hvis
  refine ⟨u,ru,.inr ⟨?_,?_⟩⟩
  .exact rO (env:=X.env) hfr
  .rcases lk with ⟨z,_⟩ | ⟨_,c,hc,hcell⟩
   .rcases hk with q | q
    .rw [z] at q;cases q
    .rw [z] at q;cases q
   .refine ⟨c,?_,hcell.keeps hk4⟩
    show (cellsFrom (s.heap.objs.size + 1) scope.names (ik X.env scope.names [])).lookup x=some c
    rw [fm scope.names _ _ (ok.free _ (mem_of_lookup hfr) rfl).2]
    obtain ⟨d,hd⟩:=Option.isSome_iff_exists.mp (iL (env:=X.env) scope.names [] (.inl (mem_of_lookup hfr)))
    rw [hd,<- hclo x d hd,hc]
 .rcases cases x c e with ⟨z,_⟩ | z
  .exact ⟨none,z⟩
  .obtain ⟨v,q⟩:=I.cell x c z
   exact ⟨v,q.keeps hk4⟩
 .rcases cases x c e with ⟨_,z⟩ | z
  .exact I.hok.fresh (Nat.le_of_succ_le z)
  .exact I.freeC x c z
 .have hp':p∈X.pn++pins:=by simpa [bt] using hp
  obtain ⟨q1,q2,q3,q4,q5⟩:=I.pin p hp'
  refine ⟨hk4 _ _ q1,q2,Nat.ne_of_lt (Heap.lt_size q1),fun z=>?_,q5⟩
  rcases List.mem_cons.mp (I.stkSub p.1 z) with q | q
  .exact q3 q
  .exact q4 q
 .unfold oY
  rw [List.length_map]
  exact ok.len.symm
end
section
variable {M:Model}{A:Around}{E:Value->Shared->Prop}{s:Shared}
theorem en {scope:Scope}{globals:Addr}{cl:List (Str×Addr)}{qual:Str}{func:Option Addr}{code:Value}{env:Env}{Q:Env->Shared->Prop}
  (hQ:Q { scope:=scope,locals:=s.heap.objs.size,globals:=globals,cells:=cellsFrom (s.heap.objs.size + 1) scope.names cl,qual:=qual,func:=func,code:=env.code,frame:=env.frame,builtins:=env.builtins }
   { s with heap:=pushCells (s.heap.push { cls:=.type "dict",data:=.dict #[] }) scope.names }) :
  wpAny M A (newFunctionEnv scope globals cl [] qual func code (some env)) Q E s:=by
 simp only [newFunctionEnv,Option.isSome_some,if_true]
 refine wpAny_bind (wpAny_alloc ?_)
 refine wpAny_bind (wpAny_layCells _ (fun name kind cells=>by cases hkc:kind == NameKind.cell <;> simp [hkc]) _ _ _ _ ?_)
 rw [show ({ s with heap:=s.heap.push { cls:=.type "dict",data:=.dict #[] } }:Shared).heap.objs.size=s.heap.objs.size + 1 from Heap.size_push ..]
 simp only [List.forIn_nil]
 exact wpAny_bind (wpAny_pure (wpAny_pure hQ))
end
section
variable {prog:Program}{w:World}{A:Around}{R:Result->Shared->Prop}{s:Shared}
theorem oZ {elt target iter:Expr}{ifs:List Expr}{scope:Scope}{pos:Pos}{it acc:Value}{env:Env} (I:Nat->Shared->Prop)
  (turn:∀n s,I n s->wpAny (model prog w) A (pyNext it) (fun r s₁=>match r with
   | none=>R (.ok .next) s₁
   | some v=>wpAny (model prog w) A (letOwnedTupleGo target it v) (fun _ s₂=>wpAny (model prog w) A (assign target env v) (fun _ s₃ =>
     wpAny (model prog w) A (forIn ifs true fun c r=>if r=true then do let ok <- isTrue c env (eval c env);pure (ForInStep.yield ok) else pure (ForInStep.yield r)) (fun ok s₄ =>
      if ok=true then wpAny (model prog w) A (eval elt env) (fun x s₅ =>
       wpAny (model prog w) A (call (.builtin "list.append") [acc,x]) (fun _ s₆=>∃m,m < n/\I m s₆) (fun _ _=>False) s₅) (fun _ _=>False) s₄
      else ∃m,m < n/\I m s₄) (fun _ _=>False) s₃) (fun _ _=>False) s₂) (fun _ _=>False) s₁) (fun _ _=>False) s)
  (n:Nat) (h:I n s) :
  codeAny (model prog w) A (.compLoop (.ListComp elt [⟨target,iter,ifs,0⟩] scope pos) 0 it acc env) R s:=by
 refine codeAny_loop rfl I (fun n s hI=>?_) n h
 show wpAny _ A ((compTurn (.ListComp elt [⟨target,iter,ifs,0⟩] scope pos) 0 it acc env).onRaise (fun x=>do noteFrame x env;theTreesLotGoes x)) _ _ s
 refine wpAny_noted ?_
 rw [compTurn_list]
 refine wpAny_bind (wpAny_standAt (wpAny_bind (wpAny_mono (turn n s hI) (fun r s₁ h₁=>?_) fun _ _ h'=>h'.elim)))
 cases r with
 | none=>exact wpAny_pure h₁
 | some v =>
  refine wpAny_bind (wpAny_mono h₁ (fun _ s₂ h₂=>?_) fun _ _ h'=>h'.elim)
  refine wpAny_bind (wpAny_mono h₂ (fun _ s₃ h₃=>wpAny_bind (wpAny_mono h₃ (fun ok s₄ h₄=>?_) fun _ _ h'=>h'.elim)) fun _ _ h'=>h'.elim)
  cases ok with
  | false=>exact wpAny_pure ⟨rfl,h₄⟩
  | true =>
   exact wpAny_bind (wpAny_bind (wpAny_mono h₄ (fun x s₅ h₅=>wpAny_bind (wpAny_mono h₅ (fun _ s₆ h₆=>wpAny_pure (wpAny_pure ⟨rfl,h₆⟩)) fun _ _ h'=>h'.elim)) fun _ _ h'=>h'.elim))
end
def PIf (X:Cx) (ifs:List Expr) (t:TT):Prop :=
 ∀(pins:List (Addr×Obj)) (s:Shared) (σ:St) (H:Hp) (Q:Bool->Hp->Prop),Inv X pins σ H s->t σ H Q ->
  wpAny (model X.prog X.w) X.A (forIn ifs true fun c r=>if r=true then do let ok <- isTrue c X.env (eval c X.env);pure (ForInStep.yield ok) else pure (ForInStep.yield r)) (TP X pins σ Q) X.xe s
def ja:TT:=fun _ H Q=>Q true H
section
variable {X:Cx}
theorem cA:PIf X [] ja:=fun _ _ _ H _ I h=>wpAny_tests_nil ⟨H,I,h⟩
theorem eZ {c:Expr}{t:TT} (h:PT X c t):PIf X [c] t:=fun pins s σ H Q I q=>wpAny_tests_one (h pins s σ H Q I q)
end
def l4 (ix:List (Option Nat)) (wi:TI) (g:TG) (tts:TT) (te:TE):TE:=fun σ H Q=>wi σ H fun J H1=>∀D,H1 D=none->∃W:Nat->Nat->St->Hp->Prop,(∃m,W 0 m (oY ix σ) (upd H1 D (.lst [])))/\∀i m τ H2,W i m τ H2 ->
 (J.stop i H2/\Q (.ref D) H2)\/(J.go i H2/\∀x H3,J.yld i H2 x H3->g x τ H3 fun τ2 H4=>tts τ2 H4 fun ok H5=>if ok=true then te τ2 H5 fun v H6=>∃ys,H6 D=some (.lst ys)/\ys.length < sizeLine/\∃m',m' < m/\W (i + 1) m' τ2 (upd H6 D (.lst (ys++[v])))
  else ∃m',m' < m/\W (i + 1) m' τ2 H5)
section
variable {X:Cx}{tg iter elt:Expr}{ifs:List Expr}{scope:Scope}{N':List Str}{ix:List (Option Nat)}{wi:TI}{g:TG}{tts:TT}{te:TE}
theorem o0 {use:Option (Value->Sem Unit)}{Qf:Value->Shared->Prop}{pos p':Pos}{pins:List (Addr×Obj)}{σ:St}{H:Hp}{s:Shared}{Q:VK} (hc:X.calm=true) (ok:rN X.env X.N scope N' ix) (hi:PI X tg iter wi)
  (blk:∀s H fp pn,PG (bt X N' scope s H fp pn) tg g/\PIf (bt X N' scope s H fp pn) ifs tts/\PE (bt X N' scope s H fp pn) elt te)
  (hs:∀x,foldedSetIterable iter X.env x=pure x) (I:Inv X pins σ H s) (hw:l4 ix wi g tts te σ H Q)
  (fin:∀D C H' s',Inv X pins σ H' s'->Q (.ref D) H'->(∃m,s'.heap.Ns C m)->H' C=none->X.s₀.heap.objs.size<=C->C≠X.env.locals->(∀x c,X.env.cells.lookup x=some c->c≠C)->C∉X.fs->(∀p∈X.pn++pins,p.1≠C) ->
   compPost (model X.prog X.w) X.A X.xe use Qf (.ref D) C (.ok .next) s') :
  wpAny (model X.prog X.w) X.A (comprehension (.ListComp elt [⟨tg,iter,ifs,0⟩] scope pos) scope X.env p' (newList []) false (eval iter X.env) use) Qf X.xe s:=by
 have hclos:closureFor scope X.env=pure (ik X.env scope.names []):=fT fun y hy e=>I.ok.has y.1 (ok.free y hy e).1
 refine wpAny_comprehension_free (use:=use) rfl hs hclos ok.kind ok.loc (thn (hi pins s σ H _ I hw) fun v s1 h1=>thn h1 fun itv s2 h2=>?_)
 obtain ⟨it,fp,tn,J,H2,e,I2,T,st2,f2,hW⟩:=h2
 subst e
 obtain ⟨W,⟨m0,w0⟩,turn⟩:=hW s2.heap.objs.size (I2.hok.fresh (Nat.le_refl _))
 have hfl:∀b∈fp,b < s2.heap.objs.size:=fun b hb=>by
  obtain ⟨o,e,_⟩:=T.obj 0 _ st2 b hb
  exact Heap.lt_size e
 refine wpAny_newObj_type ?_
 have I3:Inv X pins σ (upd H2 s2.heap.objs.size (.lst [])) { s2 with heap:=s2.heap.push { cls:=.type "list",dict:=none,data:=.seq ([]:List Value).toArray } } :=
  I2.laid (t':=s2.toks) (fun b o e=>Heap.get?_push_of_some _ e) (Nat.le_refl _) (show cH X.prog X.w _ _ _ (.lst []) from ⟨Nat.zero_le _,[],0,.nil,Heap.get?_push_size _ rfl⟩)
 have st3:tn 0 (s2.heap.push { cls:=.type "list",dict:=none,data:=.seq ([]:List Value).toArray }):=T.keep 0 _ _ st2 fun b _ o e=>Heap.get?_push_of_some _ e
 have f3:∀b∈fp,qt X pins (upd H2 s2.heap.objs.size (.lst [])) b:=fun b hb=>⟨by rw [aA (Nat.ne_of_lt (hfl b hb))];exact (f2 b hb).1,(f2 b hb).2⟩
 have hfl3:∀b∈fp,b < (s2.heap.push { cls:=.type "list",dict:=none,data:=.seq ([]:List Value).toArray }).objs.size:=fun b hb=>by rw [Heap.size_push];exact Nat.lt_succ_of_lt (hfl b hb)
 generalize hs3:({ s2 with heap:=s2.heap.push { cls:=.type "list",dict:=none,data:=.seq ([]:List Value).toArray } }:Shared)=s3 at I3 ⊢
 have eh3:s3.heap=s2.heap.push { cls:=.type "list",dict:=none,data:=.seq ([]:List Value).toArray }:=by rw [<- hs3]
 rw [<- eh3] at st3 hfl3
 generalize hH3:upd H2 s2.heap.objs.size (.lst [])=H3 at I3 f3 w0
 generalize hD:s2.heap.objs.size=D at *
 refine en ?_
 have I4:=rP ok I3 f3 hfl3
 obtain ⟨hg,ht,he⟩:=blk s3 H3 fp pins
 have st4:tn 0 (pushCells (s3.heap.push { cls:=.type "dict",data:=.dict #[] }) scope.names):=T.keep 0 _ _ st3 fun b _ o e=>pushCells_keeps _ _ b o (Heap.get?_push_of_some _ e)
 have stat:∀{H':Hp},(∀b∈fp,H' b=none)->∀b∈fp,qt (bt X N' scope s3 H3 fp pins) [] H' b:=fun hn b hb=>by
  refine ⟨hn b hb,Nat.ne_of_lt (hfl3 b hb),I4.ok.exfs b hb,.inl hb,(I4.ok.exf b hb).2,fun p hp=>?_⟩
  have hp':p∈X.pn++pins:=by simpa [bt] using hp
  exact (f2 b hb).2.2.2.2.2 p hp'
 have loop:∀(s4:Shared),Inv (bt X N' scope s3 H3 fp pins) [] (oY ix σ) H3 s4->tn 0 s4.heap ->
   codeAny (model X.prog X.w) X.A (.compLoop (.ListComp elt [⟨tg,iter,ifs,0⟩] scope pos) 0 (.ref it) (.ref D) (ny scope s3.heap.objs.size X.env)) (compPost (model X.prog X.w) X.A X.xe use Qf (.ref D) s3.heap.objs.size) s4:=by
  intro s4 I4 st4
  refine oZ (fun n s'=>∃i τ H',Inv (bt X N' scope s3 H3 fp pins) [] τ H' s'/\tn i s'.heap/\(∀b∈fp,H' b=none)/\W i n τ H') ?_ m0 ⟨0,_,H3,I4,st4,fun b hb=>(f3 b hb).1,w0⟩
  rintro n s5 ⟨i,τ,H5,I5,st5,fr5,w5⟩
  rcases turn i n τ H5 w5 with ⟨stop,qn⟩ | ⟨go,step⟩
  .refine thn (T.done (bt X N' scope s3 H3 fp pins) rfl rfl rfl hc i [] s5 τ H5 (fun _ _=>False) I5 (stat fr5) st5 stop) fun r s6 ⟨hr,I6⟩=>?_
   subst hr
   have I7:Inv X pins σ H5 s6:=I3.call' (ch:=fp) I6.os I6.base I6.hok I6.bare fun b hb=>⟨(f2 b hb).2.2.2.1,(f2 b hb).2.1,(f2 b hb).2.2.2.2.1,(f2 b hb).2.2.2.2.2⟩
   obtain ⟨m6,hn6,_⟩:=I6.loc
   refine fin D s3.heap.objs.size H5 s6 I7 qn ⟨m6,hn6⟩ I6.free ?_ ?_ ?_ ?_ ?_
   .exact I3.sz
   .exact Nat.ne_of_gt I3.lt
   .intro x c e z
    obtain ⟨v,q⟩:=I3.cell x c e
    have:=q.lt
    rw [z] at this
    exact Nat.lt_irrefl _ this
   .exact I3.nofs (Nat.le_refl _)
   .intro p hp z
    have:=Heap.lt_size (I3.pin p hp).1
    rw [z] at this
    exact Nat.lt_irrefl _ this
  .refine thn (T.item (bt X N' scope s3 H3 fp pins) rfl rfl rfl hc i [] s5 τ H5 (fun _ _=>False) I5 (stat fr5) st5 go) fun r s6 ⟨u,hr,h6⟩=>?_
   subst hr
   refine thn h6 fun _ s7 ⟨x,H7,I7,r7,y7,st7,fr7⟩=>?_
   have I7':=I7.pinned (stat fr7) (T.obj _ _ st7)
   have again:∀{s8:Shared}{τ8:St}{H8:Hp},Inv (bt X N' scope s3 H3 fp pins) ([]++kB fp s7.heap) τ8 H8 s8->(∃m',m' < n/\W (i + 1) m' τ8 H8) ->
     ∃m,m < n/\∃i τ H',Inv (bt X N' scope s3 H3 fp pins) [] τ H' s8/\tn i s8.heap/\(∀b∈fp,H' b=none)/\W i m τ H':=fun {s8 τ8 H8} I8 ⟨m',hm,w8⟩=>by
    refine ⟨m',hm,i + 1,τ8,H8,I8.unpinned,T.keep _ _ _ st7 fun b hb o e=>(I8.pin (b,o) (List.mem_append_right _ (List.mem_append_right _ (de hb e)))).1,fun b hb=>?_,w8⟩
    obtain ⟨o,e,d⟩:=T.obj _ _ st7 b hb
    exact (I8.pin (b,o) (List.mem_append_right _ (List.mem_append_right _ (de hb e)))).2.1
   refine thn (hg _ s7 τ H7 x u _ I7' r7 (step x H7 y7)) fun _ s8 ⟨τ8,H8,I8,q8⟩=>?_
   refine thn (ht _ s8 τ8 H8 _ I8 q8) fun okb s9 ⟨H9,I9,q9⟩=>?_
   cases okb with
   | false =>
    rw [if_neg Bool.false_ne_true] at q9
    rw [if_neg Bool.false_ne_true]
    exact again I9 q9
   | true =>
    rw [if_pos rfl] at q9
    rw [if_pos rfl]
    refine thn (he _ s9 τ8 H9 _ I9 q9) fun v10 s10 ⟨x10,H10,I10,r10,q10⟩=>?_
    obtain ⟨ys,hD10,hz,m',hm,w10⟩:=q10
    refine thn (cQ (X:=bt X N' scope s3 H3 fp pins) _ s10 τ8 H10 (.ref D) [x10] (.ref D) [v10] (fun _ H'=>∃m',m' < n/\W (i + 1) m' τ8 H') I10 rfl (.cons r10 .nil) ⟨D,ys,x10,rfl,rfl,hD10,hz,m',hm,w10⟩) fun _ s11 ⟨_,H11,I11,_,q11⟩=>?_
    exact again I11 q11
 exact codeAny_compStart_list (loop _ I4 st4) (T.self X.A 0 _ _ _ st4 (loop _ I4 st4))
theorem cf {pos:Pos} (N':List Str) (ix:List (Option Nat)) (hc:X.calm=true) (hi:PI X tg iter wi)
  (blk:∀s H fp pn,PG (bt X N' scope s H fp pn) tg g/\PIf (bt X N' scope s H fp pn) ifs tts/\PE (bt X N' scope s H fp pn) elt te)
  (chk:kM X.env.scope X.N scope N' ix=true) (hs:∀x,foldedSetIterable iter X.env x=pure x:=by intro _;rfl) :
  PE X (.ListComp elt [⟨tg,iter,ifs,0⟩] scope pos) (l4 ix wi g tts te):=by
 intro pins s σ H Q I hw
 rw [eval_ListComp]
 refine o0 (use:=none) hc (kN chk) hi blk hs I hw fun D C H' s' I' q hm hn h1 h2 h3 h4 h5=>?_
 obtain ⟨m,hm⟩:=hm
 refine ⟨m,hm,fun h' sb=>⟨.ref D,H',?_,rfl,q⟩⟩
 exact I'.turned (t':=s'.toks) (fun b o hb e=>(sb.2 b hb).trans e) hn h2 (.inr h1) h3 h5
end
section
variable {X:Cx}{tg iter elt:Expr}{ifs:List Expr}{scope:Scope}{N':List Str}{ix:List (Option Nat)}{wi:TI}{g:TG}{tts:TT}{te:TE}
theorem il {i:Nat}{x:Str}{pos pos' cpos:Pos} (N':List Str) (ix:List (Option Nat)) (hN:X.N.Nodup) (hi:X.N[i]?=some x) (hx:Loc X.env.scope x) (hc:X.calm=true) (hit:PI X tg iter wi)
  (blk:∀s H fp pn,PG (bt X N' scope s H fp pn) tg g/\PIf (bt X N' scope s H fp pn) ifs tts/\PE (bt X N' scope s H fp pn) elt te)
  (chk:kM X.env.scope X.N scope N' ix=true) (hsw:swapsWith (.ListComp elt [⟨tg,iter,ifs,0⟩] scope cpos) (some (.Name x pos')) pos.line X.env=pure true:=by rfl)
  (hs:∀x,foldedSetIterable iter X.env x=pure x:=by intro _;rfl) (hf:X.fn x=true\/X.env.scope.names.lookup x=some .local:=by first | exact .inl rfl | exact .inr rfl | assumption) :
  PS X (.Assign [.Name x pos'] (.ListComp elt [⟨tg,iter,ifs,0⟩] scope cpos) pos) (wu (l4 ix wi g tts te) (bY i)):=by
 intro pins s σ H D I hw
 rw [exec_Assign_Name_used _ _ _ _ hsw]
 refine wpAny_bind (wpAny_standAt (wpAny_bind ?_))
 show wpAny _ X.A (do let _ <- comprehension (.ListComp elt [⟨tg,iter,ifs,0⟩] scope cpos) scope X.env _ (newList []) false (eval iter X.env) (some (assign (.Name x pos') X.env))) _ _ s
 refine wpAny_bind (thn (o0 (use:=some (assign (.Name x pos') X.env)) (Qf:=fun _ s'=>SP X pins D .next s') hc (kN chk) hit blk hs I hw fun D' C H' s' I' q hm hn h1 h2 h3 h4 h5=>?_) fun _ s' q=>wpAny_pure (wpAny_pure q))
 obtain ⟨m,oC,es,ep,hoC,hdC,hrC⟩:=hm
 have Ip:Inv X (pins++[(C,oC)]) σ H' s':=I'.pins_of fun p hp=>(List.mem_append.mp hp).elim (fun z=>I'.pin p (List.mem_append_right _ z)) fun z=>by
  have e:p=(C,oC):=by simpa using z
  subst e
  exact ⟨hoC,hn,h2,h4,fun v z=>by rw [hdC] at z;cases z⟩
 refine wpAny_assign_Name (nr (v:=.ref D') Ip hN hi hx rfl (fun s2 I2=>?_) hf)
 have hC2:s2.heap.get? C=some oC:=(I2.pin (C,oC) (by simp)).1
 have I2':Inv X pins (σ.set i (some (.ref D'))) H' s2:=I2.pins_of fun p hp=>I2.pin p (List.mem_append_right _ (List.mem_append_left _ hp))
 refine ⟨m,⟨oC,es,ep,hC2,hdC,hrC⟩,fun h' sb=>⟨_,H',?_,q⟩⟩
 exact I2'.turned (t':=s2.toks) (fun b o hb e=>(sb.2 b hb).trans e) hn h2 (.inr h1) h3 h5
end
abbrev kt (J:It) (D:Addr) (g:TG) (tts:TT) (te:TE) (τ0:St) (H0:Hp) (Q:Hp->Prop):Prop :=
  ∃W:Nat->Nat->St->Hp->Prop,(∃m,W 0 m τ0 (upd H0 D (.lst [])))/\∀i m τ H2,W i m τ H2 ->
   (J.stop i H2/\Q H2)\/(J.go i H2/\∀x H3,J.yld i H2 x H3->g x τ H3 fun τ2 H4=>tts τ2 H4 fun ok H5=>if ok=true then te τ2 H5 fun v H6=>∃ys,H6 D=some (.lst ys)/\ys.length < sizeLine/\∃m',m' < m/\W (i + 1) m' τ2 (upd H6 D (.lst (ys++[v])))
    else ∃m',m' < m/\W (i + 1) m' τ2 H5)
theorem uW {J:It}{n:Nat}{xs:Nat->V}{D:Addr}{g:TG}{tts:TT}{te:TE}{τ0:St}{H0:Hp}{Q:Hp->Prop} (Pv:Nat->List V->St->Hp->Prop) (h0:Pv 0 [] τ0 (upd H0 D (.lst [])))
  (hgo:∀i ys τ H,i < n->Pv i ys τ H->J.go i H) (hy:∀i ys τ H x H',i < n->Pv i ys τ H->J.yld i H x H'->H'=H/\x=xs i) (hst:∀ys τ H,Pv n ys τ H->J.stop n H)
  (hs:∀i ys τ H,i < n->Pv i ys τ H->∀(K1:St->V->Hp->Prop) (K2:St->Hp->Prop),(∀τ2 v H6,H6 D=some (.lst ys)->ys.length < sizeLine->Pv (i + 1) (ys++[v]) τ2 (upd H6 D (.lst (ys++[v])))->K1 τ2 v H6) ->
   (∀τ2 H5,Pv (i + 1) ys τ2 H5->K2 τ2 H5)->g (xs i) τ H fun τ2 H4=>tts τ2 H4 fun ok H5=>if ok=true then te τ2 H5 (fun v H6=>K1 τ2 v H6) else K2 τ2 H5)
  (hd:∀ys τ H,Pv n ys τ H->Q H) :
  kt J D g tts te τ0 H0 Q:=by
 refine ⟨fun i m τ H=>m=n - i/\i<=n/\∃ys,Pv i ys τ H,⟨n,by simp,Nat.zero_le _,[],h0⟩,?_⟩
 rintro i m τ H ⟨rfl,hi,ys,p⟩
 by_cases hlt:i < n
 .refine .inr ⟨hgo i ys τ H hlt p,fun x H3 y=>?_⟩
  obtain ⟨e1,e2⟩:=hy i ys τ H x H3 hlt p y
  subst e1 e2
  exact hs i ys τ _ hlt p _ _ (fun τ2 v H6 a b c=>⟨ys,a,b,n - (i + 1),by omega,rfl,hlt,_,c⟩) (fun τ2 H5 q=>⟨n - (i + 1),by omega,rfl,hlt,ys,q⟩)
 .have e:i=n:=by omega
  subst e
  exact .inl ⟨hst ys τ H p,hd ys τ H p⟩
theorem uX {K:PySem.W.Frag}{a:Addr}{xs:List V}{D:Addr}{g:TG}{tts:TT}{te:TE}{τ0:St}{H0:Hp}{Q:Hp->Prop} (Pv:Nat->List V->St->Hp->Prop) (h0:Pv 0 [] τ0 (upd H0 D (.lst [])))
  (hl:∀i ys τ H,i<=xs.length->Pv i ys τ H->SqL K H a xs)
  (hs:∀i x ys τ H,xs[i]?=some x->Pv i ys τ H->∀(K1:St->V->Hp->Prop) (K2:St->Hp->Prop),(∀τ2 v H6,H6 D=some (.lst ys)->ys.length < sizeLine->Pv (i + 1) (ys++[v]) τ2 (upd H6 D (.lst (ys++[v])))->K1 τ2 v H6) ->
   (∀τ2 H5,Pv (i + 1) ys τ2 H5->K2 τ2 H5)->g x τ H fun τ2 H4=>tts τ2 H4 fun ok H5=>if ok=true then te τ2 H5 (fun v H6=>K1 τ2 v H6) else K2 τ2 H5)
  (hd:∀ys τ H,Pv xs.length ys τ H->Q H):kt (Itl K a) D g tts te τ0 H0 Q :=
 uW (J:=Itl K a) (n:=xs.length) (xs:=fun i=>xs.getD i .non) (D:=D) (g:=g) (tts:=tts) (te:=te) (τ0:=τ0) (H0:=H0) (Q:=Q) Pv h0 (fun i ys τ H hi p=>⟨xs,xs[i],hl i ys τ H (Nat.le_of_lt hi) p,List.getElem?_eq_getElem hi⟩)
  (fun i ys τ H x H' hi p y=>⟨y.1,by rw [List.getD_eq_getElem?_getD,y.2 xs (hl i ys τ H (Nat.le_of_lt hi) p)];rfl⟩) (fun ys τ H p=>⟨xs,hl _ ys τ H (Nat.le_refl _) p,Nat.le_refl _⟩) (fun i ys τ H hi p=>hs i _ ys τ H (by rw [List.getD_eq_getElem?_getD,List.getElem?_eq_getElem hi];rfl) p) hd
theorem wU {K:PySem.W.Frag}{a:Addr}{xs:List V}{D:Addr}{g:TG}{tts:TT}{te:TE}{τ0:St}{H0:Hp}{Q:Hp->Prop} (Pv:Nat->List V->St->Hp->Prop) (h0:Pv 0 [] τ0 (upd H0 D (.lst [])))
  (hl:∀i ys τ H,i<=xs.length->Pv i ys τ H->SqT K H a xs)
  (hs:∀i x ys τ H,xs[i]?=some x->Pv i ys τ H->∀(K1:St->V->Hp->Prop) (K2:St->Hp->Prop),(∀τ2 v H6,H6 D=some (.lst ys)->ys.length < sizeLine->Pv (i + 1) (ys++[v]) τ2 (upd H6 D (.lst (ys++[v])))->K1 τ2 v H6) ->
   (∀τ2 H5,Pv (i + 1) ys τ2 H5->K2 τ2 H5)->g x τ H fun τ2 H4=>tts τ2 H4 fun ok H5=>if ok=true then te τ2 H5 (fun v H6=>K1 τ2 v H6) else K2 τ2 H5)
  (hd:∀ys τ H,Pv xs.length ys τ H->Q H):kt (Itt K a) D g tts te τ0 H0 Q :=
 uW (J:=Itt K a) (n:=xs.length) (xs:=fun i=>xs.getD i .non) (D:=D) (g:=g) (tts:=tts) (te:=te) (τ0:=τ0) (H0:=H0) (Q:=Q) Pv h0 (fun i ys τ H hi p=>⟨xs,xs[i],hl i ys τ H (Nat.le_of_lt hi) p,List.getElem?_eq_getElem hi⟩)
  (fun i ys τ H x H' hi p y=>⟨y.1,by rw [List.getD_eq_getElem?_getD,y.2 xs (hl i ys τ H (Nat.le_of_lt hi) p)];rfl⟩) (fun ys τ H p=>⟨xs,hl _ ys τ H (Nat.le_refl _) p,Nat.le_refl _⟩) (fun i ys τ H hi p=>hs i _ ys τ H (by rw [List.getD_eq_getElem?_getD,List.getElem?_eq_getElem hi];rfl) p) hd
def x9 (p:Addr) (a b c:Int):HO:=.ext fun h=>∃t u v,IsRange h p a b c t u v
def qz (a c:Int) (n:Nat):List V:=(List.range n).map fun (k:Nat)=>V.int (a + k * c)
theorem tw {a c:Int}{n:Nat}{acc:Array Value} (h:ItemsOf (fun i v=>∃t,v=.int (a + i * c) t) acc n):bW (qz a c n) acc.toList:=by
 obtain ⟨hn,hi⟩:=h
 have key:∀(m:Nat) (us:List Value) (f:Nat->Int),us.length=m->(∀i u,us[i]?=some u->∃t,u=Value.int (f i) t)->bW ((List.range m).map fun k=>V.int (f k)) us:=by
  intro m
  induction m with
  | zero=>intro us f hl _;rw [List.length_eq_zero_iff] at hl;subst hl;exact .nil
  | succ m ih =>
   intro us f hl hu
   cases us with
   | nil=>simp at hl
   | cons u r =>
    rw [List.range_succ_eq_map,List.map_cons,List.map_map]
    refine .cons (hu 0 u rfl) (ih r (fun k=>f (k + 1)) (by simpa using hl) fun i v e=>hu (i + 1) v (by simpa using e))
 refine key n acc.toList (fun k=>a + k * c) (by simpa using hn) fun i u e=>?_
 exact hi i u (by simpa using e)
theorem uY (a c:Int) (n:Nat):(qz a c n).length=n:=by simp [qz]
section
variable {X:Cx}
theorem wV {pins:List (Addr×Obj)}{σ:St}{H:Hp}{s:Shared}{a b c:Int}{t u v:Tok}{tk:Nat} (I:Inv X pins σ H s) :
  Inv X pins σ (upd H s.heap.objs.size (x9 s.heap.objs.size a b c)) { s with heap:=s.heap.push { cls:=.type "range",data:=.fields #[.int a t,.int b u,.int c v] },toks:=tk }:=by
 refine I.laid (fun b o e=>Heap.get?_push_of_some _ e) (Nat.le_refl _) ⟨⟨t,u,v,IsRange.new ..⟩,⟨_,Heap.get?_push_size _ rfl⟩,fun h1 h2 ⟨t,u,v,z⟩ k=>⟨t,u,v,k _ z⟩⟩
theorem kO {a:Expr}{ta:TA}{p pos:Pos} (hg:Gl X "range") (hm:X.mg "range"=none) (ha:PA X [a] ta) (hs:starEach [a] X.env=[(false,eval a X.env)]:=by rfl) :
  PE X (.Call (.Name "range" p) [a] [] pos) (fun σ H Q=>ta σ H fun vs H1=>∃j:Int,vs=[.int j]/\∀p,H1 p=none->Q (.ref p) (upd H1 p (x9 p 0 j 1))):=by
 intro pins s σ H Q I h
 refine Call_ (gp I hg hm boot_range (PyProof.Rows.callWith_type1 (thn (ha pos pins s σ H _ I h) fun us s1 ⟨vs,H1,I1,r1,q1⟩=>?_) hs rfl))
 obtain ⟨j,e,q⟩:=q1
 subst e
 cases r1 with
 | cons r rr =>
  cases rr
  obtain ⟨t,rfl⟩:=r
  exact call_range_1 ⟨.ref s1.heap.objs.size,_,wV I1,rfl,q _ (I1.hok.fresh (Nat.le_refl _))⟩
def CU (K:PySem.W.Frag) (mk:List V->HO):List V->Hp->VK->Prop:=fun xs H Q=>∃p a b c n,xs=[.ref p]/\H p=some (x9 p a b c)/\Builtin.Range.small a b c=true/\Builtin.Range.rangeSize a b c=((n:Nat):Int)/\n<=1000000/\∀l,H l=none->Q (.ref l) (upd H l (mk (qz a c n)))
theorem tz (hc:X.calm=true):bZ X (.type "list") (CU X.K .lst):=by
 intro pins s σ H xs us Q I r h
 obtain ⟨p,a,b,c,n,rfl,hp,hsm,hsz,hn,q⟩:=h
 obtain ⟨u,rfl,rx⟩:=gR r
 cases rx
 obtain ⟨⟨t,u,v,hr⟩,_,_⟩:=(show cH X.prog X.w H s.heap p (x9 p a b c) from I.hok p _ hp)
 have hs:sizeLine=16777216:=sizeLine_eq
 refine call_list_range (I.ok.hd hc) hr hsm hsz (by omega) fun h' tk acc c' hk e hacc=>?_
 exact ⟨.ref s.heap.objs.size,_,I.laid (t':=tk) hk (Nat.le_refl _) (show cH X.prog X.w _ h' _ (.lst (qz a c n)) from ⟨by rw [uY];omega,acc.toList,c',tw hacc,by simpa using e⟩),rfl,q _ (I.hok.fresh (Nat.le_refl _))⟩
end
theorem uZ:typeLookup (.type "list_reverseiterator") "__len__"=pure none:=by rw [typeLookup_type,builtinLookup_eq_fast];kernel_rfl
theorem wW:typeLookup (.type "list_reverseiterator") "__length_hint__"=pure (some (.builtin "list_reverseiterator.__length_hint__")):=by rw [typeLookup_type,builtinLookup_eq_fast];kernel_rfl
section
variable {prog:Program}{w:World}{A:Around}{E:Value->Shared->Prop}{s:Shared}{I l:Addr}{items:Array Value}
theorem wX {Q:Bool->Shared->Prop}{i:Int} (hit:s.heap.IsRevIter I l i) (h:Q false s):wpAny (model prog w) A (Builtin.List.listLengthHint (.ref I)) Q E s:=by
 unfold Builtin.List.listLengthHint
 refine wpAny_bind (wpAny_specialOf hit.typeIs uZ ?_)
 show wpAny _ A (specialOf (Value.ref I) (Str.ofString "__length_hint__") >>= _) _ _ _
 refine wpAny_bind (wpAny_specialOf hit.typeIs wW ?_)
 (generalize hid:("list_reverseiterator.__length_hint__":String)=id0;(fail_if_success (clear hid id0));wp_delta;rw [show splitId id0=some ("list_reverseiterator","__length_hint__") from by subst hid;decide +kernel];subst hid)
 refine wpAny_bind (wpAny_isInstance (b:=true) hit.typeIs (by rw [isSubtype_type];kernel_rfl) ?_)
 exact wpAny_pure h
theorem tD {R:Result->Shared->Prop} (hh:A.handled=none) (hit:s.heap.IsRevIter I l ((items.size:Int) - 1)) (hl:s.heap.IsList l items) (hlI:l≠I) (hsz:items.size<=sizeLine) (Sx:Addr) (res:Value) (c₀:Nat)
  (hS:s.heap.get? Sx=some { cls:=.type "list",data:=.seq #[] c₀ }) (hSI:Sx≠I) (hSl:Sx≠l)
  (hR:∀h' tk acc' c',(∀b o,b≠Sx->b≠I->s.heap.get? b=some o->h'.get? b=some o)->h'.get? Sx=some { cls:=.type "list",dict:=none,data:=.seq acc' c',slots:=#[] } ->
   ItemsOf (fun i v=>items[items.size - 1 - i]?=some v) acc' items.size->R (.ok (.ret res)) { s with heap:=h',toks:=tk }) :
  wpAny (model prog w) A.in1 (Builtin.List.listExtendWith (.ref Sx) (.ref I) res)
   (fun fin s'=>match fin with | .done f=>R (.ok f) s' | .again c'=>c'.quiet=true/\codeAny (model prog w) A c' R s') (fun e s'=>R (.error e) s') s:=by
 have hSf:Sx∉[I,l]:=fun hm=>by
  rcases List.mem_cons.mp hm with e | e
  .exact hSI e
  .exact hSl (List.mem_singleton.mp e)
 have W:=(Walks.listRev (prog:=prog) (w:=w) (A:=A.in1) hh I l hlI items).toS
 unfold Builtin.List.listExtendWith
 refine wpAny_bind (wpAny_typeOf (T:="list_reverseiterator") hit.typeIs ?_)
 have h1:Builtin.List.listSameRef (.ref Sx) (.ref I)=false:=by simp [Builtin.List.listSameRef,hSI]
 have h2:(Value.type "list_reverseiterator" == Value.type "list")=false:=by decide
 have h3:(Value.type "list_reverseiterator" == Value.type "tuple")=false:=by decide
 simp only [h1,h2,h3,Bool.or_false,Bool.false_eq_true,if_false]
 refine wpAny_bind (wpAny_pyIter_revIter hit ?_)
 refine wpAny_bind (wpAny_holding (wX hit ?_))
 refine wpAny_ite_split (fun hab=>absurd hab (by decide)) (fun _=>?_)
 refine wpAny_pure ⟨plainId_quiet F.plain_extend_loop _,codeAny_extend_loopS W hsz Sx hSf res items.size 0 _ #[] c₀ rfl (Nat.zero_le _) ⟨Nat.zero_le _,by simpa using hit,hl⟩ hS (ItemsOf.nil _) fun s' acc' c' hm hS' hacc=>?_⟩
 rw [Moved.eq_with hm]
 refine hR s'.heap s'.toks acc' c' (fun b o hb hbI e=>hm.heap b o (fun hmem=>?_) e) hS' hacc
 rcases List.mem_cons.mp hmem with e' | hmem
 .exact hb e'
 .exact hbI (List.mem_singleton.mp hmem)
theorem nA {R:Result->Shared->Prop} (hh:A.handled=none) (hit:s.heap.IsRevIter I l ((items.size:Int) - 1)) (hl:s.heap.IsList l items) (hlI:l≠I) (hsz:items.size<=sizeLine) (Sx:Addr)
  (hS:s.heap.get? Sx=some { cls:=.type "list",data:=.seq #[] }) (hSI:Sx≠I) (hSl:Sx≠l)
  (hR:∀h' tk acc' c',(∀b o,b≠Sx->b≠I->s.heap.get? b=some o->h'.get? b=some o)->h'.get? Sx=some { cls:=.type "list",dict:=none,data:=.seq acc' c',slots:=#[] } ->
   ItemsOf (fun i v=>items[items.size - 1 - i]?=some v) acc' items.size->R (.ok (.ret .none)) { s with heap:=h',toks:=tk }) :
  wpAny (model prog w) A.in1 (Builtin.«list.__init__» ⟨[.ref Sx,.ref I],[]⟩)
   (fun fin s'=>match fin with | .done f=>R (.ok f) s' | .again c'=>c'.quiet=true/\codeAny (model prog w) A c' R s') (fun e s'=>R (.error e) s') s:=by
 show wpAny _ _ (do let old <- Builtin.List.listItems (.ref Sx);Builtin.List.listUpdate (.ref Sx) (fun _=>#[]);letGo old.toList.reverse;Builtin.List.listExtendWith (.ref Sx) (.ref I) .none) _ _ s
 refine wpAny_bind ?_
 unfold Builtin.List.listItems
 refine wpAny_bind (wpAny_seqItems hS rfl (wpAny_pure ?_))
 show wpAny _ _ (updateSeq Sx (fun _=>#[]) >>= fun _=>letGo (#[]:Array Value).toList.reverse >>= fun _=>Builtin.List.listExtendWith (.ref Sx) (.ref I) .none) _ _ s
 refine wpAny_bind (wpAny_updateSeq hS rfl ?_)
 have hS₂:=Heap.get?_update_self (Obj.mapSeq (fun _=>(#[]:Array Value))) hS rfl
 have oth:∀b o,b≠Sx->s.heap.get? b=some o->(s.heap.update Sx (Obj.mapSeq (fun _=>(#[]:Array Value)))).get? b=some o :=
  fun b o hb e=>(Heap.get?_update_other _ _ (Ne.symm hb)).trans e
 refine wpAny_bind (wpAny_letGo ?_)
 refine tD hh (hit.at fun o e=>oth I o (Ne.symm hSI) e) (hl.at fun o e=>oth l o (Ne.symm hSl) e) hlI hsz Sx .none _ hS₂ hSI hSl fun h' tk acc' c' hk hS' hacc=>?_
 exact hR h' tk acc' c' (fun b o hb hbI e=>hk b o hb hbI (oth b o hb e)) hS' hacc
theorem nB {Q:Value->Shared->Prop} (hh:A.handled=none) (hit:s.heap.IsRevIter I l ((items.size:Int) - 1)) (hl:s.heap.IsList l items) (hlI:l≠I) (hsz:items.size<=sizeLine)
  (hQ:∀h' tk acc' c',(∀b o,b≠I->s.heap.get? b=some o->h'.get? b=some o) ->
   h'.get? s.heap.objs.size=some { cls:=.type "list",dict:=none,data:=.seq acc' c',slots:=#[] }->ItemsOf (fun i v=>items[items.size - 1 - i]?=some v) acc' items.size->Q (.ref s.heap.objs.size) { s with heap:=h',toks:=tk }) :
  wpAny (model prog w) A (call (.type "list") [.ref I]) Q E s:=by
 refine callType_codes (Q₁:=fun obj s₁=>obj=.ref s.heap.objs.size/\s₁={ s with heap:=s.heap.push { cls:=.type "list",data:=.seq #[] } }) F.called_list (F.typeCall_list_1 _) F.entry_list_init
  (code_list_new _ ⟨rfl,rfl⟩) fun obj s₁ h₁=>?_
 obtain ⟨rfl,rfl⟩:=h₁
 have hS:(s.heap.push { cls:=.type "list",data:=.seq #[] }).get? s.heap.objs.size=some { cls:=.type "list",data:=.seq #[] }:=Heap.get?_push_size _ rfl
 have hSI:s.heap.objs.size≠I:=by
  obtain ⟨o,ho,_⟩:=hit
  exact Nat.ne_of_gt (Heap.lt_size ho)
 have hSl:s.heap.objs.size≠l:=by
  obtain ⟨o,ho,_⟩:=hl
  exact Nat.ne_of_gt (Heap.lt_size ho)
 refine ⟨⟨_,hS,rfl⟩,F.args_list_init_2 _ _,nA (A:=A.in1) hh (hit.at fun o e=>Heap.get?_push_of_some _ e) (hl.push _) hlI hsz _ hS hSI hSl fun h' tk acc' c' hk hS' hacc=>?_⟩
 exact ⟨rfl,hQ h' tk acc' c' (fun b o hb e=>hk b o (Nat.ne_of_lt (Heap.lt_size e)) hb (Heap.get?_push_of_some _ e)) hS' hacc⟩
end
theorem wY {xs:List V}{its:List Value} (r:bW xs its) {acc:Array Value} (h:ItemsOf (fun i v=>its.toArray[its.toArray.size - 1 - i]?=some v) acc its.toArray.size):bW xs.reverse acc.toList:=by
 have e:acc.toList=its.reverse:=by
  obtain ⟨hn,hi⟩:=h
  apply List.ext_getElem?
  intro i
  by_cases hil:i < its.length
  .have hia:i < acc.size:=by rw [hn];simpa using hil
   have:=hi i acc[i] (by simp)
   rw [List.getElem?_reverse hil]
   have e1:acc.toList[i]?=some acc[i]:=by simp
   rw [e1,<- this]
   simp
  .have hna:acc.toList.length=its.length:=by simpa using hn
   rw [List.getElem?_eq_none (by omega),List.getElem?_eq_none (by rw [List.length_reverse];omega)]
 rw [e]
 exact r.reverse
section
variable {X:Cx}{e:Expr}{te:TE}{p p1 p2 pos:Pos}
theorem tE (hc:X.calm=true) (he:PE X e te) (hg1:Gl X "list") (hm1:X.mg "list"=none) (hg2:Gl X "reversed") (hm2:X.mg "reversed"=none)
  (hs:starEach [.Call (.Name "reversed" p1) [e] [] p2] X.env=[(false,eval (.Call (.Name "reversed" p1) [e] [] p2) X.env)]:=by rfl) (hs2:starEach [e] X.env=[(false,eval e X.env)]:=by rfl) :
  PE X (.Call (.Name "list" p) [.Call (.Name "reversed" p1) [e] [] p2] [] pos) (fun σ H Q=>te σ H fun x H1=>∃a xs,x=.ref a/\SqL X.K H1 a xs/\∀l,H1 l=none->Q (.ref l) (upd H1 l (.lst xs.reverse))):=by
 intro pins s σ H Q I h
 refine Call_ (gp I hg1 hm1 boot_list (PyProof.Rows.callWith_type1 ?_ hs rfl))
 rw [hs]
 show wpAny _ _ (spliced ((false,eval (.Call (.Name "reversed" p1) [e] [] p2) X.env)::backTo pos [])) _ _ s
 refine Calls.spliced_cons ?_
 refine Call_ (gp I hg2 hm2 boot_reversed (PyProof.Rows.callWith_type1 ?_ hs2 rfl))
 rw [hs2]
 show wpAny _ _ (spliced ((false,eval e X.env)::backTo p2 [])) _ _ s
 refine Calls.spliced_cons (thn (he pins s σ H _ I h) fun u s1 ⟨x,H1,I1,r1,q1⟩=>Calls.spliced_nil ?_)
 obtain ⟨a,xs,rfl,hS,q⟩:=q1
 cases r1
 obtain ⟨its,rv,pl,hz⟩:=I1.list hS
 have hlen:=rv.length
 refine call_reversed_list pl.isList ?_
 refine Calls.spliced_nil ?_
 have hal:a < s1.heap.objs.size:=by
  obtain ⟨o,ho,_⟩:=pl.isList
  exact Heap.lt_size ho
 have I2:Inv X pins σ H1 { s1 with heap:=s1.heap.push (revObj a ((its.toArray.size:Int) - 1)) }:=I1.kept (t':=s1.toks) fun b o e=>Heap.get?_push_of_some _ e
 refine nB (I1.ok.hd hc) (I:=s1.heap.objs.size) (l:=a) (items:=its.toArray) ⟨_,Heap.get?_push_size _ rfl,rfl,rfl⟩ (pl.isList.push _) (Nat.ne_of_lt hal) (by rw [List.size_toArray];omega) fun h' tk acc' c' hk eL hacc=>?_
 have hfI:=I1.fpOk (H':=H1) (Nat.le_refl s1.heap.objs.size) (I1.hok.fresh (Nat.le_refl _))
 obtain ⟨f0,f1,f2,f3,f4,f5⟩:=hfI
 have hLn:H1 (s1.heap.push (revObj a ((its.toArray.size:Int) - 1))).objs.size=none:=I2.hok.fresh (Nat.le_refl _)
 have hLlt:∀b o,(s1.heap.push (revObj a ((its.toArray.size:Int) - 1))).get? b=some o->b≠(s1.heap.push (revObj a ((its.toArray.size:Int) - 1))).objs.size:=fun b o e=>Nat.ne_of_lt (Heap.lt_size e)
 have nit:∀b u,H1 b=some u->b≠s1.heap.objs.size:=fun b u e z=>by rw [z,f0] at e;cases e
 have neL:∀b u,H1 b=some u->b≠(s1.heap.push (revObj a ((its.toArray.size:Int) - 1))).objs.size:=fun b u e z=>by rw [z,hLn] at e;cases e
 have hokT:HOk X.prog X.w H1 h':=fun b u e=>by
  refine (I2.hok b u e).stay (fun c v hc q=>hk c v ?_ q) (fun _ q=>q) fun _ _ q=>q
  rcases hc with z | z
  .rw [z];exact nit b u e
  .exact nit c _ z
 refine ⟨.ref _,upd H1 (s1.heap.push (revObj a ((its.toArray.size:Int) - 1))).objs.size (.lst xs.reverse),?_,rfl,q _ hLn⟩
 refine I2.step (g':=s1.gens) (d':=s1.drawn) (t':=tk) (ch:=[s1.heap.objs.size]) (fun b hb=>?_) (fun b o _ _ hc e _=>hk b o (fun z=>hc (by simp [z])) e) (fun b o _ _ hc e _=>⟨o.slots,hk b o (fun z=>hc (by simp [z])) e⟩)
  (fun b o _ e n=>by rw [aA (hLlt b o e)];exact n) (fun b o hc e=>⟨o,hk b o (fun z=>hc (by simp [z])) e⟩) (fun b ys e=>by rw [aA (neL b _ e)];exact e) (fun b o u e=>by rw [aA (neL b _ e)];exact e)
  (fun b ps e=>⟨#[],by rw [aA (neL b _ e),e];simp⟩) (fun m hm=>?_) ?_ I2.bare
 .have e:b=s1.heap.objs.size:=by simpa using hb
  subst e
  exact ⟨f3,f1,f4,f5⟩
 .obtain ⟨o,es,ep,ho,r⟩:=hm
  exact ⟨o,es,ep,hk _ o (Ne.symm f1) ho,r⟩
 .intro b u e
  by_cases hb:b=(s1.heap.push (revObj a ((its.toArray.size:Int) - 1))).objs.size
  .subst hb
   rw [aO] at e
   cases e
   exact ⟨by rw [List.length_reverse];exact hz,acc'.toList,c',wY rv hacc,by simpa using eL⟩
  .rw [aA hb] at e
   refine (hokT b u e).stay (fun c v _ q=>q) (fun c q=>?_) fun c ys q=>?_
   .rw [aA (neL c _ q)];exact q
   .rw [aA (neL c _ q)];exact q
end
def kP (k:Bool) (h:Heap) (a:Addr) (its:Array Value):Prop:=∃o,h.get? a=some o/\o.cls=.type (cond k "tuple" "list")/\∃n,o.data=.seq its n
def iM (k:Bool) (h:Heap) (it a:Addr) (i:Nat):Prop:=∃o,h.get? it=some o/\o.cls=.type (cond k "tuple_iterator" "list_iterator")/\o.data=.fields #[.ref a,.int i 0]
theorem kP.mv {k:Bool}{h h':Heap}{a:Addr}{its:Array Value} (r:kP k h a its) (f:∀o,h.get? a=some o->h'.get? a=some o):kP k h' a its:=let ⟨o,e,q⟩:=r;⟨o,f o e,q⟩
theorem iM.mv {k:Bool}{h h':Heap}{it a:Addr}{i:Nat} (r:iM k h it a i) (f:∀o,h.get? it=some o->h'.get? it=some o):iM k h' it a i:=let ⟨o,e,q⟩:=r;⟨o,f o e,q⟩
section
variable {P:Program}{w:World}{A:Around}{E:Value->Shared->Prop}{s:Shared}{k:Bool}{it a:Addr}{i:Nat}{its:Array Value}
theorem o5 {x:Value}{Q:Value->Shared->Prop} (W:s.heap.IsTupleIter it a i) (R:s.heap.IsTuple a its) (hx:its[i]?=some x)
  (hQ:∀h',h'.IsTupleIter it a (i + 1)->Heap.SameBut it s.heap h'->Q x { s with heap:=h' }):wpAny (model P w) A (Builtin.SmallTypes.nextOf (.ref it)) Q E s:=by
 have hT:=W.typeIs
 obtain ⟨o,ho,c,d⟩:=W
 obtain ⟨ol,hol,_,nl,dl⟩:=R
 unfold Builtin.SmallTypes.nextOf
 refine wpAny_bind (wpAny_callSpecial?_slot (name:=Str.ofString "__next__") hT F.slot_tuple_iterator_next (wpAny_call_entry F.slot_tuple_iterator_next hT F.entry_tuple_iterator_next ?_ (F.args_tuple_iterator_next_1 _)))
 refine wpAny_bind (m:=field (.ref it) 0) (wpAny_field ho d (x:=.ref a) rfl ?_)
 have nn:¬ ((Value.ref a == Value.none)=true):=Bool.false_ne_true
 show wpAny _ _ (if (Value.ref a == Value.none)=true then _ else _) _ _ s
 rw [if_neg nn]
 refine wpAny_bind (m:=field (.ref it) 1) (wpAny_field ho d (x:=.int i 0) rfl ?_)
 refine wpAny_bind (m:=seqItems? (.ref a)) (wpAny_seqItems hol dl ?_)
 simp only [Int.toNat_natCast,hx]
 exact wpAny_bind (wpAny_setField ho d (by simp) (wpAny_pure ⟨x,rfl,wpAny_pure (hQ _ ⟨_,Heap.get?_update_self _ ho (Obj.isFreed_of_fields (Obj.data_mapFields d _)),(Obj.cls_mapFields ..).trans c,by rw [Obj.data_mapFields d];simp [rawInt]⟩ (Heap.SameBut.update ..))⟩))
theorem qA {Q:Value->Shared->Prop} (hh:A.handled=none) (W:s.heap.IsTupleIter it a i) (R:s.heap.IsTuple a its) (hx:its[i]?=none)
  (hE:∀h' e,Heap.ExtBut it s.heap h'->(∃o,h'.get? e=some o/\o.cls=.type "StopIteration")->E (.ref e) { s with heap:=h' }):wpAny (model P w) A (Builtin.SmallTypes.nextOf (.ref it)) Q E s:=by
 have hT:=W.typeIs
 obtain ⟨o,ho,c,d⟩:=W
 obtain ⟨ol,hol,_,nl,dl⟩:=R
 unfold Builtin.SmallTypes.nextOf
 refine wpAny_bind (wpAny_callSpecial?_slot (name:=Str.ofString "__next__") hT F.slot_tuple_iterator_next (wpAny_call_entry F.slot_tuple_iterator_next hT F.entry_tuple_iterator_next ?_ (F.args_tuple_iterator_next_1 _)))
 refine wpAny_bind (m:=field (.ref it) 0) (wpAny_field ho d (x:=.ref a) rfl ?_)
 have nn:¬ ((Value.ref a == Value.none)=true):=Bool.false_ne_true
 show wpAny _ _ (if (Value.ref a == Value.none)=true then _ else _) _ _ s
 rw [if_neg nn]
 refine wpAny_bind (m:=field (.ref it) 1) (wpAny_field ho d (x:=.int i 0) rfl ?_)
 refine wpAny_bind (m:=seqItems? (.ref a)) (wpAny_seqItems hol dl ?_)
 simp only [Int.toNat_natCast,hx]
 refine wpAny_bind (wpAny_rule (wpAny_bind (wpAny_setField ho d (by simp) (wpAny_bind (m:=newExc (.type "StopIteration") []) ?_))))
 simp only [newExc,newTuple]
 refine wpAny_bind (wpAny_newObj_type (wpAny_bind (m:=firstArgMember _ _) (wpAny_of_eq (a:=Value.none) (by first | rfl | (simp only [firstArgMember];rfl)) (wpAny_newObj_type ?_ (by size_fits)))) (by size_fits))
 simp only [raiseNew]
 refine wpAny_bind (wpAny_handled ?_)
 first | rw [show A.in1.handled=none from hh] | rw [hh]
 exact wpAny_bind (wpAny_pure (wpAny_throw (hE _ _ (((Heap.SameBut.update ..).extBut.push _).push _) ⟨_,Heap.get?_push_size _ rfl,rfl⟩)))
theorem o7 {x:Value}{Q:Value->Shared->Prop} (W:iM k s.heap it a i) (R:kP k s.heap a its) (hx:its[i]?=some x)
  (hQ:∀h',iM k h' it a (i + 1)->Heap.SameBut it s.heap h'->Q x { s with heap:=h' }):wpAny (model P w) A (Builtin.SmallTypes.nextOf (.ref it)) Q E s:=by
 cases k with
 | false=>exact wpAny_nextOf_list_item W R hx hQ
 | true=>exact o5 W R hx hQ
theorem kQ {Q:Value->Shared->Prop} (hh:A.handled=none) (W:iM k s.heap it a i) (R:kP k s.heap a its) (hx:its[i]?=none)
  (hE:∀h' e,Heap.ExtBut it s.heap h'->(∃o,h'.get? e=some o/\o.cls=.type "StopIteration")->E (.ref e) { s with heap:=h' }):wpAny (model P w) A (Builtin.SmallTypes.nextOf (.ref it)) Q E s:=by
 cases k with
 | false=>exact wpAny_nextOf_list_end hh W R hx hE
 | true=>exact qA hh W R hx hE
end
def Sq (k:Bool) (K:PySem.W.Frag) (H:Hp) (a:Addr) (xs:List V):Prop:=cond k (SqT K H a xs) (SqL K H a xs)
section
variable {X:Cx}{pins:List (Addr×Obj)}{σ:St}{H:Hp}{s:Shared}{k l:Bool}{a b c:Addr}{xs ys:List V}
theorem Inv.row (I:Inv X pins σ H s) (h:Sq k X.K H a xs):∃its:List Value,bW xs its/\kP k s.heap a its.toArray/\xs.length<=sizeLine:=by
 cases k with
 | false=>obtain ⟨its,r,p,z⟩:=I.list h;exact ⟨its,r,p.isList,z⟩
 | true=>obtain ⟨its,r,p,z⟩:=I.tuple h;exact ⟨its,r,p,z⟩
theorem Inv.row_inj (I:Inv X pins σ H s) (h:Sq k X.K H a xs) (h':Sq k X.K H a ys):xs=ys:=by
 cases k with
 | false=>exact I.list_inj h h'
 | true=>exact I.tuple_inj h h'
theorem u0 {u:HO} (r:Rd H a u):∃v,H a=some v:=by
 rcases r with r | ⟨o,r⟩ <;> exact ⟨_,r⟩
theorem Inv.row_ne (I:Inv X pins σ H s) (h:Sq k X.K H a xs) (f:qt X pins H b):a≠b:=by
 have kk:∀o,X.K.lookup a=some o->a≠b:=fun o e z=>by
  have e1:=I.ok.mod.kin a o e
  rcases f.2.2.2.1 with q | q
  .exact I.ok.noex a o e1 (z ▸ q)
  .exact absurd (Nat.lt_of_lt_of_le (Heap.lt_size (I.ok.bs a o e1).1) (z ▸ q)) (Nat.lt_irrefl _)
 have hh:∀u,H a=some u->a≠b:=fun u e z=>by rw [z,f.1] at e;cases e
 cases k with
 | false =>
  rcases h with r | ⟨o,its,n,e,_⟩
  .obtain ⟨v,e⟩:=u0 r;exact hh v e
  .exact kk o e
 | true =>
  rcases h with r | ⟨o,its,n,e,_⟩
  .obtain ⟨v,e⟩:=u0 r;exact hh v e
  .exact kk o e
theorem Inv.yielded {h':Heap}{T:Addr}{zs:List V}{t':Nat}{ch:List Addr} (I:Inv X pins σ H s) (hf:∀b∈ch,qt X pins H b) (hT:s.heap.objs.size<=T)
  (kp:∀b o,b∉ch->s.heap.get? b=some o->h'.get? b=some o) (new:cH X.prog X.w (upd H T (.tup zs)) h' T (.tup zs)):Inv X pins σ (upd H T (.tup zs)) { s with heap:=h',toks:=t' }:=by
 have hn:H T=none:=I.hok.fresh hT
 have nT:∀b u,H b=some u->b≠T:=fun b u e z=>by rw [z,hn] at e;cases e
 have oT:∀b o,s.heap.get? b=some o->b≠T:=fun b o e z=>absurd (Nat.lt_of_lt_of_le (Heap.lt_size e) (z ▸ hT)) (Nat.lt_irrefl _)
 have nc:∀b u,H b=some u->b∉ch:=fun b u e z=>by rw [(hf b z).1] at e;cases e
 refine I.step (g':=s.gens) (d':=s.drawn) (ch:=ch) (fun b hb=>⟨(hf b hb).2.2.2.1,(hf b hb).2.1,(hf b hb).2.2.2.2.1,(hf b hb).2.2.2.2.2⟩) (fun b o _ _ hc e _=>kp b o hc e) (fun b o _ _ hc e _=>⟨o.slots,kp b o hc e⟩)
  (fun b o _ e n=>by rw [aA (oT b o e)];exact n) (fun b o hc e=>⟨o,kp b o hc e⟩) (fun b xs e=>by rw [aA (nT b _ e)];exact e) (fun b o u e=>by rw [aA (nT b _ e)];exact e)
  (fun b ps e=>⟨#[],by rw [aA (nT b _ e),e];simp⟩) (fun m hm=>?_) (fun b u e=>?_) I.bare
 .obtain ⟨o,es,ep,ho,r⟩:=hm
  exact ⟨o,es,ep,kp _ o (fun z=>(hf _ z).2.1 rfl) ho,r⟩
 .by_cases hb:b=T
  .subst hb;rw [aO] at e;cases e;exact new
  .rw [aA hb] at e
   refine (I.hok b u e).stay (fun c v hc q=>kp c v ?_ q) (fun c q=>by rw [aA (nT c _ q)];exact q) fun c xs q=>by rw [aA (nT c _ q)];exact q
   rcases hc with z | z
   .rw [z];exact nc b u e
   .exact nc c _ z
end
section
variable {P:Program}{w:World}{A:Around}{E:Value->Shared->Prop}{s:Shared}{k l:Bool}
abbrev qB (k:Bool) (a:Addr):Obj:={ cls:=.type (cond k "tuple_iterator" "list_iterator"),data:=.fields #[.ref a,.int 0 0] }
theorem jg {a:Addr}{its:Array Value}{Q:Value->Shared->Prop} (R:kP k s.heap a its) (hQ:Q (.ref s.heap.objs.size) { s with heap:=s.heap.push (qB k a) }):wpAny (model P w) A (pyIter (.ref a)) Q E s:=by
 cases k with
 | false=>exact wpAny_pyIter_list R hQ
 | true=>exact wpAny_pyIter_tuple R hQ
end
def stA (a b:List Nat) (i:Nat):Bool:=decide (i + b.length<=a.length/\(a.drop i).take b.length=b)
def fnd (a b:List Nat) (lo:Nat):Int:=match (List.range' lo (a.length + 1 - lo)).find? (stA a b) with | some k=>(k:Int) | none=>-1
theorem o8 (s sub:Str) (hi:Nat):∀(l:List Nat) (st:Array Nat×Nat),st.fst.size=1->(forIn l st (StrLaws.occBody s sub hi 1)).run.fst=st.fst
 | [],_,_=>rfl
 | x::l,st,h=>by
  rw [List.forIn_cons]
  unfold StrLaws.occBody
  rw [if_neg (fun z=>by have:=z.1.1.1;omega)]
  exact o8 s sub hi l (st.fst,st.snd) h
theorem o9 (s sub:Str) (hi:Nat) (p:Nat->Bool) (hp:∀i,p i=true ↔ (i + sub.length<=hi/\Builtin.Str.subAt s sub i=true)):∀(l:List Nat) (free:Nat),(∀i∈l,free<=i) ->
  (forIn l ((#[]:Array Nat),free) (StrLaws.occBody s sub hi 1)).run.fst=(match l.find? p with | some k=>#[k] | none=>#[])
 | [],_,_=>rfl
 | x::l,free,hf=>by
  rw [List.forIn_cons,List.find?_cons]
  unfold StrLaws.occBody
  have hx:free<=x:=hf x (List.mem_cons_self ..)
  cases c:p x with
  | true =>
   have hc:=(hp x).mp c
   rw [if_pos ⟨⟨⟨by simp,hx⟩,hc.1⟩,hc.2⟩]
   exact o8 s sub hi l (#[x],x + sub.length) rfl
  | false =>
   rw [if_neg (fun z=>by
    have:=(hp x).mpr ⟨z.1.2,z.2⟩
    rw [c] at this;cases this)]
   exact o9 s sub hi p hp l free fun i h=>hf i (List.mem_cons_of_mem _ h)
theorem zb (a b:List Nat) (i:Nat):Builtin.Str.subAt (S a) (S b) i=decide ((a.drop i).take b.length=b):=by
 unfold Builtin.Str.subAt
 rw [gS]
 have e1:((S a).cps.extract i (i + b.length))=((a.drop i).take b.length).toArray:=by
  show a.toArray.extract _ _=_
  rw [List.extract_toArray,List.extract_eq_take_drop]
  congr 2
  omega
 rw [e1]
 show (((a.drop i).take b.length).toArray == b.toArray)=_
 by_cases h:(a.drop i).take b.length=b
 .rw [decide_eq_true h,h];simp
 .rw [decide_eq_false h,beq_eq_false_iff_ne]
  intro z
  exact h (by simpa using congrArg Array.toList z)
theorem u4 (a b:List Nat) (lo:Nat):(match Builtin.Str.occurrences (S a) (S b) lo (S a).length 1 with | k::_=>(k:Int) | []=>-1)=fnd a b lo:=by
 rw [StrLaws.occ_eq,gS,o9 (S a) (S b) a.length (stA a b) (fun i=>?_) _ lo (fun i hi=>(List.mem_range'_1.mp hi).1)]
 .unfold fnd
  cases (List.range' lo (a.length + 1 - lo)).find? (stA a b) <;> rfl
 .unfold stA
  rw [zb,gS]
  simp
section
variable {X:Cx}
theorem wZ:MtR X "str.find" (fun x xs H Q=>∃a b,x=.str (S a)/\xs=[.str (S b)]/\Q (.int (fnd a b 0)) H):=by
 intro pins s σ H x xs v us Q I rx rs h
 obtain ⟨a,b,rfl,rfl,q⟩:=h
 obtain ⟨t,rfl⟩:=rx
 obtain ⟨u,rfl,t',rfl⟩:=gR rs
 have e:Txt.find (S a) (S b)=fnd a b 0:=u4 a b 0
 exact SC.find ⟨.int _,H,I.tok _,⟨_,rfl⟩,by rw [e];exact q⟩
end
theorem rQ {a b:List Nat}{lo:Nat} (h:fnd a b lo≠-1):∃k:Nat,fnd a b lo=(k:Int)/\lo<=k/\stA a b k=true/\∀j,lo<=j->j < k->stA a b j=false:=by
 unfold fnd at h ⊢
 cases e:(List.range' lo (a.length + 1 - lo)).find? (stA a b) with
 | none=>rw [e] at h;exact absurd rfl h
 | some k =>
  obtain ⟨h1,h2⟩:=List.find?_eq_some_iff_append.mp e
  obtain ⟨as,bs,hl,hn⟩:=h2
  have hk:k∈List.range' lo (a.length + 1 - lo):=by rw [hl];simp
  refine ⟨k,rfl,(List.mem_range'_1.mp hk).1,h1,fun j hj1 hj2=>?_⟩
  have hj:j∈List.range' lo (a.length + 1 - lo):=List.mem_range'_1.mpr ⟨hj1,by have:=(List.mem_range'_1.mp hk).2;omega⟩
  have hs:(List.range' lo (a.length + 1 - lo)).Pairwise (· < ·):=List.pairwise_lt_range'
  rw [hl] at hj hs
  rcases List.mem_append.mp hj with z | z
  .have:=hn j z
   simpa using this
  .rcases List.mem_cons.mp z with z | z
   .omega
   .have:=(List.pairwise_cons.mp (List.pairwise_append.mp hs).2.1).1 j z
    omega
theorem w4 {a b:List Nat}{lo:Nat} (h:fnd a b lo=-1):∀j,lo<=j->stA a b j=false:=by
 unfold fnd at h
 cases e:(List.range' lo (a.length + 1 - lo)).find? (stA a b) with
 | some k=>rw [e] at h;simp only at h;omega
 | none =>
  intro j hj
  by_cases hlt:j < a.length + 1
  .have:=List.find?_eq_none.mp e j (List.mem_range'_1.mpr ⟨hj,by omega⟩)
   simpa using this
  .unfold stA
   rw [decide_eq_false (fun z=>by have:=z.1;omega)]
theorem kR:isSubtype (.type "range_iterator") (.type "reversed")=pure false:=by rw [isSubtype_type];kernel_rfl
section
variable {prog:Program}{w:World}{A:Around}{E:Value->Shared->Prop}{s:Shared}
theorem kS (r:Addr) (a b c:Int) (t u v:Tok) (hc0:¬(!(Builtin.Range.rangeFitsLong a && Builtin.Range.rangeFitsLong b && Builtin.Range.rangeFitsLong c && Builtin.Range.rangeFitsLong (-c) && Builtin.Range.rangeFitsLong (a - c) && Builtin.Range.rangeFitsLong (Builtin.Range.rangeSize a b c)))=true) :
  Meets (Builtin.«range.__reversed__» ⟨[.ref r],[]⟩) (fun _ R s=>s.heap.get? r=some { cls:=.type "range",dict:=none,data:=.fields #[.int a t,.int b u,.int c v],slots:=#[] }/\R (.ok (.ret (Value.ref s.heap.objs.size))) { s with heap:=s.heap.push { cls:=Value.type (if (Builtin.Range.rangeFitsLong a && Builtin.Range.rangeFitsLong b && Builtin.Range.rangeFitsLong c && Builtin.Range.rangeFitsLong (-c) && Builtin.Range.rangeFitsLong (a - c) && Builtin.Range.rangeFitsLong (Builtin.Range.rangeSize a b c))=true then "range_iterator" else "longrange_iterator"),data:=.fields #[rawInt (a + (Builtin.Range.rangeSize a b c - 1) * c),rawInt (Builtin.Range.rangeSize a b c),rawInt (-c)] } }) :=
 .of_wp fun prog w A R s h=>by obtain ⟨hp,g,d,tk,os⟩:=s;obtain ⟨hl,h⟩:=h;wp_walk;exact ⟨_,rfl,h⟩
theorem im {r:Addr}{a b c:Int}{t u v:Tok}{Q₁:Value->Shared->Prop} (hr:IsRange s.heap r a b c t u v)
  (hs:(Builtin.Range.rangeFitsLong a && Builtin.Range.rangeFitsLong b && Builtin.Range.rangeFitsLong c && Builtin.Range.rangeFitsLong (-c) && Builtin.Range.rangeFitsLong (a - c) && Builtin.Range.rangeFitsLong (Builtin.Range.rangeSize a b c))=true)
  (h:Q₁ (.ref s.heap.objs.size) { s with heap:=s.heap.push { cls:=.type "range_iterator",data:=.fields #[rawInt (a + (Builtin.Range.rangeSize a b c - 1) * c),rawInt (Builtin.Range.rangeSize a b c),rawInt (-c)] } }) :
  codeAny (model prog w) A (.call (.builtin "reversed.__new__") ⟨[.type "reversed",.ref r],[]⟩) (wants Q₁ E) s:=by
 have hT:s.TypeIs (.ref r) "range":=⟨_,hr,rfl⟩
 refine codeAny_of_tree ?_
 show wpAny _ A.in1 (do checkBuiltinCall "reversed.__new__" ⟨[.type "reversed",.ref r],[]⟩;again (.builtin "reversed.__new__" ⟨[.type "reversed",.ref r],[]⟩)) _ _ s
 refine wpAny_bind (wpAny_of_eq (F.newCall_reversed_1 _) (wpAny_pure ⟨plainId_quiet F.plain_reversed_new _,codeAny_builtin F.entry_reversed_new ?_⟩))
 rw [Around.under_plainId F.plain_reversed_new _]
 unfold Builtin.«reversed.__new__»
 refine wpAny_bind (wpAny_of_eq (newClass_reversed _) ?_)
 try dsimp only
 refine wpAny_bind (wpAny_of_eq (a:=()) (by first | rfl | kernel_rfl) ?_)
 refine wpAny_bind (wpAny_of_eq (a:=()) (by first | rfl | kernel_rfl) ?_)
 try dsimp only
 refine wpAny_bind (wpAny_specialOf hT F.slot_range_reversed.lookup ?_)
 try dsimp only
 refine wpAny_bind (wpAny_of_eq (F.slot_range_reversed.bind _) ?_)
 try dsimp only
 first
 | rw [if_neg (show ¬ ((Value.builtin "range.__reversed__" == Value.none)=true) from Bool.false_ne_true)]
 | (show wpAny _ _ (if (Value.builtin "range.__reversed__" == Value.none)=true then _ else _) _ _ _;rw [if_neg (show ¬ ((Value.builtin "range.__reversed__" == Value.none)=true) from Bool.false_ne_true)])
 refine wpAny_bind (wpAny_rule ?_)
 refine wpAny_bind (m:=runValue (.call (.builtin "range.__reversed__") ⟨[.ref r],[]⟩)) (show wpAny _ _ (call (.builtin "range.__reversed__") [.ref r]) _ _ _ from
  call_meets F.slot_range_reversed hT F.entry_range_reversed (F.args_range_reversed_1 _) (kS r a b c t u v (by rw [hs];decide)) ⟨hr,?_⟩)
 simp only [hs,if_true]
 first
 | exact wpAny_pure h
 | exact wpAny_bind (wpAny_pure (wpAny_pure h))
theorem io {r:Addr}{a b c:Int}{t u v:Tok}{Q:Value->Shared->Prop} (hr:IsRange s.heap r a b c t u v)
  (hs:(Builtin.Range.rangeFitsLong a && Builtin.Range.rangeFitsLong b && Builtin.Range.rangeFitsLong c && Builtin.Range.rangeFitsLong (-c) && Builtin.Range.rangeFitsLong (a - c) && Builtin.Range.rangeFitsLong (Builtin.Range.rangeSize a b c))=true)
  (h:Q (.ref s.heap.objs.size) { s with heap:=s.heap.push { cls:=.type "range_iterator",data:=.fields #[rawInt (a + (Builtin.Range.rangeSize a b c - 1) * c),rawInt (Builtin.Range.rangeSize a b c),rawInt (-c)] } }) :
  wpAny (model prog w) A (call (.type "reversed") [.ref r]) Q E s:=by
 refine callType_other (U:="range_iterator") (Q₁:=fun obj s₁=>obj=.ref s.heap.objs.size/\s₁={ s with heap:=s.heap.push { cls:=.type "range_iterator",data:=.fields #[rawInt (a + (Builtin.Range.rangeSize a b c - 1) * c),rawInt (Builtin.Range.rangeSize a b c),rawInt (-c)] } }) (by decide +kernel) F.create_reversed ⟨_,_,F.mro_reversed⟩ F.made_reversed kR (F.typeCall_reversed_1 _) (im hr hs ⟨rfl,rfl⟩) ?_
 rintro obj s₁ ⟨rfl,rfl⟩
 exact ⟨⟨_,Heap.get?_push_size _ rfl,rfl⟩,h⟩
end
theorem jO (j:Int):Builtin.Range.rangeSize 0 j 1=((j.toNat:Nat):Int):=by
 unfold Builtin.Range.rangeSize
 rw [if_pos (by decide)]
 simp only [Int.ediv_one]
 split <;> omega
section
variable {X:Cx}{tg:Expr}
def Bj (ta:TA):TI:=fun σ H R=>ta σ H fun vs H1=>∃j:Int,vs=[.int j]/\(-(2 ^ 60)<=j/\j < 2 ^ 60)/\R (Its (ki (j - 1) j.toNat)) H1
theorem qC {a:Expr}{ta:TA}{p p1 p2 pos:Pos} (hg2:Gl X "reversed") (hm2:X.mg "reversed"=none) (hg:Gl X "range") (hm:X.mg "range"=none) (ha:PA X [a] ta)
  (hs:starEach [.Call (.Name "range" p1) [a] [] p2] X.env=[(false,eval (.Call (.Name "range" p1) [a] [] p2) X.env)]:=by rfl) (hs2:starEach [a] X.env=[(false,eval a X.env)]:=by rfl) :
  PI X tg (.Call (.Name "reversed" p) [.Call (.Name "range" p1) [a] [] p2] [] pos) (Bj ta):=by
 intro pins s σ H R I h
 refine Call_ (gp I hg2 hm2 boot_reversed (PyProof.Rows.callWith_type1 ?_ hs rfl))
 rw [hs]
 show wpAny _ _ (spliced ((false,eval (.Call (.Name "range" p1) [a] [] p2) X.env)::backTo pos [])) _ _ s
 refine Calls.spliced_cons ?_
 refine Call_ (gp I hg hm boot_range (PyProof.Rows.callWith_type1 (thn (ha p2 pins s σ H _ I h) fun us s1 ⟨vs,H1,I1,r1,q1⟩=>?_) hs2 rfl))
 obtain ⟨j,e,⟨b1,b2⟩,q⟩:=q1
 subst e
 cases r1 with
 | cons r rr =>
  cases rr
  obtain ⟨t,rfl⟩:=r
  refine call_range_1 (Calls.spliced_nil ?_)
  refine io (IsRange.new ..) ?_ ?_
  .rw [jO]
   simp only [Builtin.Range.rangeFitsLong,Bool.and_eq_true,decide_eq_true_eq]
   omega
  rw [jO,show (0:Int) + ((j.toNat:Nat) - 1) * 1=((j.toNat:Nat):Int) - 1 by omega]
  refine wpAny_pyIter_rangeiter (x:=((j.toNat:Nat):Int) - 1) (left:=((j.toNat:Nat):Int)) (step:=-1) (Heap.get?_push_size _ rfl) ?_
  have I2:Inv X pins σ H1 { s1 with heap:=s1.heap.push { cls:=.type "range",data:=.fields #[.int 0 s1.toks,.int j t,.int 1 (s1.toks + 1)] },toks:=s1.toks + 1 + 1 }:=I1.kept fun b o e=>Heap.get?_push_of_some _ e
  refine ⟨_,[(s1.heap.push { cls:=.type "range",data:=.fields #[.int 0 s1.toks,.int j t,.int 1 (s1.toks + 1)] }).objs.size],_,Its (ki (j - 1) j.toNat),H1,rfl,I2.kept (t':=s1.toks + 1 + 1) fun b o e=>Heap.get?_push_of_some _ e,
   iJ (fun A hA=>Walks.range hA _ (((j.toNat:Nat):Int) - 1) (-1) j.toNat) (iK _ _) ?_ ?_ ?_ ?_ (fun A i s Q E st q=>wpAny_pyIter_rangeiter st q),?_,fun b hb=>?_,q⟩
  .rintro k v hk ⟨t,rfl⟩
   refine ⟨.int (j - 1 - k),?_,t,?_⟩
   .unfold ki
    rw [List.getElem?_map,List.getElem?_range hk];rfl
   .have e:((j.toNat:Nat):Int) - 1 + (k:Int) * (-1)=j - 1 - k:=by omega
    rw [e]
  .rintro k v ⟨t,rfl⟩ a z
   cases z
  .exact fun k h st=>⟨_,st,fun v z=>by
    have z':Data.fields _=Data.cell v:=z
    cases z'⟩
  .exact fun k h h' st kk=>kk _ (by simp) _ st
  .show IsRangeIter _ _ (((j.toNat:Nat):Int) - 1 + ((0:Nat):Int) * (-1)) (((j.toNat:Nat):Int) - ((0:Nat):Int)) (-1)
   simp only [Int.natCast_zero,Int.zero_mul,Int.add_zero,Int.sub_zero]
   exact Heap.get?_push_size _ rfl
  .have e:b=(s1.heap.push { cls:=.type "range",data:=.fields #[.int 0 s1.toks,.int j t,.int 1 (s1.toks + 1)] }).objs.size:=by simpa using hb
   subst e
   exact I2.fpOk (Nat.le_refl _) (I2.hok.fresh (Nat.le_refl _))
def Itk (k:Bool) (K:PySem.W.Frag) (a:Addr):It:=cond k (Itt K a) (Itl K a)
def Bk (K:PySem.W.Frag):R2:=fun x y H Q=>∃l b xs zs,x=.ref l/\y=.ref b/\SqL K H l xs/\SqL K H b zs/\xs.length + zs.length<=sizeLine/\∀p,H p=none->Q (.ref p) (upd H p (.lst (xs++zs)))
theorem zc:OpR X (binaryOp .Add) (Bk X.K):=by
 intro pins s σ H x y v u Q I rx ry h
 obtain ⟨l,b,xs,zs,rfl,rfl,hH,hB,hz,q⟩:=h
 cases rx
 cases ry
 obtain ⟨its,r,pl,hl⟩:=I.list hH
 obtain ⟨its2,r2,pl2,hl2⟩:=I.list hB
 obtain ⟨⟨cls,dd,data,sl⟩,ho,hc,n,hd⟩:=pl.isList
 obtain ⟨⟨cls2,dd2,data2,sl2⟩,ho2,hc2,n2,hd2⟩:=pl2.isList
 simp only at hc hd hc2 hd2
 subst hc hd hc2 hd2
 have n1:=r.length
 have n2':=r2.length
 have ea:its.toArray++its2.toArray=(its++its2).toArray:=by simp
 have fin:EP X pins σ Q (.ref s.heap.objs.size) { s with heap:=s.heap.push { cls:=.type "list",data:=.seq (its.toArray++its2.toArray) } }:=by
  rw [ea]
  exact ⟨.ref _,_,I.lnew (t':=s.toks) (r.append r2) (by rw [List.length_append];omega),rfl,q _ I.fresh⟩
 exact concat_meets ⟨_,ho,rfl⟩ ⟨_,ho2,rfl⟩ noFill_list_add seq_list_add PySem.F.slot_list_add PySem.F.entry_list_add (PySem.F.args_list_add_2 _ _) (list_addW l b its.toArray its2.toArray n n2 dd dd2 sl sl2 (by simp;omega)) ⟨ho,ho2,fin⟩
end
theorem w6 {k:Bool}{K:PySem.W.Frag}{a:Addr}{xs:List V}{D:Addr}{g:TG}{tts:TT}{te:TE}{τ0:St}{H0:Hp}{Q:Hp->Prop} (Pv:Nat->List V->St->Hp->Prop) (h0:Pv 0 [] τ0 (upd H0 D (.lst [])))
  (hl:∀i ys τ H,i<=xs.length->Pv i ys τ H->Sq k K H a xs)
  (hs:∀i x ys τ H,xs[i]?=some x->Pv i ys τ H->∀(K1:St->V->Hp->Prop) (K2:St->Hp->Prop),(∀τ2 v H6,H6 D=some (.lst ys)->ys.length < sizeLine->Pv (i + 1) (ys++[v]) τ2 (upd H6 D (.lst (ys++[v])))->K1 τ2 v H6) ->
   (∀τ2 H5,Pv (i + 1) ys τ2 H5->K2 τ2 H5)->g x τ H fun τ2 H4=>tts τ2 H4 fun ok H5=>if ok=true then te τ2 H5 (fun v H6=>K1 τ2 v H6) else K2 τ2 H5)
  (hd:∀ys τ H,Pv xs.length ys τ H->Q H):kt (Itk k K a) D g tts te τ0 H0 Q:=by
 cases k
 .exact uX (K:=K) (a:=a) Pv h0 hl hs hd
 .exact wU (K:=K) (a:=a) Pv h0 hl hs hd
def kj (n:Nat) (d:PyData):Prop:=d.canLay0=true/\d.depth<=n
theorem kj.shaped {n:Nat}{d:PyData} (h:kj n d) (hn:n<=64):SeqAt.shaped d=true:=by
 unfold SeqAt.shaped
 rw [h.1,decide_eq_true (Nat.le_trans h.2 hn)];rfl
theorem qD {n:Nat}:∀{ds:List PyData},(∀d∈ds,kj n d)->PyData.canLayAll0 ds=true/\PyData.depthAll ds<=n
 | [],_=>⟨rfl,Nat.zero_le _⟩
 | d::ds,h=>by
  obtain ⟨a,b⟩:=qD (ds:=ds) fun x hx=>h x (List.mem_cons_of_mem _ hx)
  obtain ⟨c,e⟩:=h d List.mem_cons_self
  simp only [PyData.canLayAll0,PyData.depthAll,a,c]
  exact ⟨rfl,Nat.max_le.mpr ⟨e,b⟩⟩
theorem kj.list {n:Nat}{ds:List PyData} (h:∀d∈ds,kj n d):kj (n + 1) (.list ds):=by
 obtain ⟨a,b⟩:=qD h
 exact ⟨by simp only [PyData.canLay0];exact a,by simp only [PyData.depth];omega⟩
theorem kj.tuple {n:Nat}{ds:List PyData} (h:∀d∈ds,kj n d):kj (n + 1) (.tuple ds):=by
 obtain ⟨a,b⟩:=qD h
 exact ⟨by simp only [PyData.canLay0];exact a,by simp only [PyData.depth];omega⟩
theorem kj.int (i:Int):kj 0 (.int i):=⟨by simp [PyData.canLay0],by simp [PyData.depth]⟩
def Lts (l:List Nat):Prop:=∀c∈l,97<=c/\c<=122
theorem Lts.app {a b:List Nat} (x:Lts a) (y:Lts b):Lts (a++b):=fun c h=>(List.mem_append.mp h).elim (x c) (y c)
theorem Lts.one {c:Nat} (h:97<=c/\c<=122):Lts [c]:=fun d hd=>by
 have:d=c:=by simpa using hd
 subst this;exact h
theorem Lts.take {a:List Nat} (x:Lts a) (n:Nat):Lts (a.take n):=fun c h=>x c (List.mem_of_mem_take h)
theorem Lts.drop {a:List Nat} (x:Lts a) (n:Nat):Lts (a.drop n):=fun c h=>x c (List.mem_of_mem_drop h)
theorem Lts.cut {a:List Nat} (x:Lts a) (lo hi:Option Int):Lts (eC a lo hi):=(x.drop _).take _
theorem Lts.rep {a:List Nat} (x:Lts a) (n:Int):Lts (uc a n):=fun c h=>by
 unfold uc at h
 obtain ⟨l,h1,h2⟩:=List.mem_flatten.mp h
 rw [List.eq_of_mem_replicate h1] at h2
 exact x c h2
theorem kj.str {l:List Nat} (h:Lts l):kj 0 (.str (S l)):=by
 refine ⟨?_,by simp [PyData.depth]⟩
 simp only [PyData.canLay0,PyData.strOk,S]
 rw [Array.all_eq_true]
 intro i hi
 have:=h l[i] (List.getElem_mem _)
 simp only [List.getElem_toArray,decide_eq_true_eq]
 omega
theorem u5 (ns:List Int):∀d∈ns.map PyData.int,kj 0 d:=fun d hd=>by
 obtain ⟨i,_,rfl⟩:=List.mem_map.mp hd
 exact kj.int i
theorem tF {ws:List (List Nat)} (h:∀w∈ws,Lts w):∀d∈ws.map (fun w=>PyData.str (S w)),kj 0 d:=fun d hd=>by
 obtain ⟨i,hi,rfl⟩:=List.mem_map.mp hd
 exact kj.str (h i hi)
theorem pd {ws:List (List Nat)} (h:∀w∈ws,Lts w):SeqAt.shaped (.list (ws.map fun w=>PyData.str (S w)))=true:=(kj.list (tF h)).shaped (by decide)
theorem xa {d:PyData} (h:SeqAt.shaped d=true):PyData.eqv d d=true:=SeqAt.eqv_refl d (SeqAt.canLay_of_shaped h)
theorem kT (p:Nat->Prop) (h0:p 0):∀n,0 < n->∃k,k < n/\p k/\∀j,j < n->p j->j<=k
 | 0,h=>absurd h (by decide)
 | 1,_=>⟨0,by decide,h0,fun j hj _=>by omega⟩
 | n + 2,_=>by
  obtain ⟨k,h1,h2,h3⟩:=kT p h0 (n + 1) (by omega)
  by_cases c:p (n + 1)
  .exact ⟨n + 1,by omega,c,fun j hj _=>by omega⟩
  .refine ⟨k,by omega,h2,fun j hj hp=>?_⟩
   by_cases e:j=n + 1
   .subst e;exact absurd hp c
   .exact h3 j (by omega) hp
section
variable {κ:Type} [DecidableEq κ]
theorem KV.length {kvs:List (κ×V)}{vs:List (κ×Value)} (r:KV kvs vs):kvs.length=vs.length:=Paired.length r
end
section
variable {P:Program}{w:World}{H:Hp}{h:Heap}{a:Addr}
theorem CV {u:HO} (ok:HOk P w H h) (e:Rd H a u):cH P w H h a u:=e.ok ok
theorem CW {kvs:List (Key×V)} (ok:HOk P w H h) (e:Rd H a (.dK kvs)):kvs.length<=sizeLine/\(a == sysModules)=false/\∃vs,KV kvs vs/\h.DictOf (qq P w) a vs :=
 show cH P w H h a (.dK kvs) from CV ok e
end
section
variable {X:Cx}{pins:List (Addr×Obj)}{σ:St}{H:Hp}{s:Shared}{a:Addr}{y v:V}{u r:Value}{o:Option V}{A:Around}{E:Value->Shared->Prop}
theorem Inv.big (I:Inv X pins σ H s):sysModules < s.heap.objs.size:=by
 have h:mainGlobals < s.heap.objs.size:=(I.mod.glob.keeps I.bk).lt
 exact Nat.lt_trans (by decide) h
end
section
variable {X:Cx}{pins:List (Addr×Obj)}{σ:St}{H:Hp}{s:Shared}{a:Addr}{kvs:List (Key×V)}{k:Key}{u:Value}{A:Around}{E:Value->Shared->Prop}
theorem CY {Q:Value->Shared->Prop} (I:Inv X pins σ H s) (e:Rd H a (.dK kvs)) (h:∀t s',Inv X pins σ H s'->Q (.int kvs.length t) s'):wpAny (model X.prog X.w) A (call (.builtin "len") [.ref a]) Q E s:=by
 obtain ⟨z,hd,vs,rel,dd⟩:=CW I.hok e
 refine call_len_dict hd dd (by rw [<- rel.length];rw [sizeLine_eq] at z;omega) ?_
 rw [<- rel.length]
 exact h _ _ (I.tok _)
end
theorem xb {P:Program}{w:World}{H:Hp} (h:Heap) (hb:sysModules < h.objs.size):cH P w H (h.push { cls:=.type "dict",data:=.dict #[] }) h.objs.size (.dK []) :=
 ⟨Nat.zero_le _,beq_eq_false_iff_ne.mpr (Ne.symm (Nat.ne_of_lt hb)),[],.nil,Heap.DictOf.new h⟩
def ya:TE:=fun _ H Q=>∀p,H p=none->Q (.ref p) (upd H p (.dK []))
section
variable {X:Cx}{pos:Pos}
theorem xc:PE X (.Dict [] [] pos) ya:=fun pins s σ H Q I h =>
 wpAny_Dict_empty ⟨.ref s.heap.objs.size,_,I.laid (a:=s.heap.objs.size) (o:=.dK []) (t':=s.toks) (fun _ _ q=>Heap.get?_push_of_some _ q) (Nat.le_refl _) (xb s.heap I.big),rfl,h _ (I.hok.fresh (Nat.le_refl _))⟩
end
section
variable {X:Cx}
theorem rR {x:Str}{i:Int}{pos:Pos} (hg:Gl X x) (h:∃t,X.mg x=some (.int i t)) (hd:(x == ("__debug__":Str))=false:=by decide):PE X (.Name x pos) (tC (.int i)):=by
 obtain ⟨t,e⟩:=h
 exact yG (u:=.int i t) hg e ⟨t,rfl⟩ hd
end
structure Bl (P:Program) (w:World) (K:PySem.W.Frag) (mg:Str->Option Value) (base:Heap) (k:Nat) (x:Str) (ps:List Str) (dvs:List V) (sp:Sp):Prop where
 ex:∃(f:Addr) (fd:FuncData),mS P w K mg base CX0 k f fd ps sp/\(∀n,n<=dvs.length->∃ds,bW (dvs.drop n) ds/\jc K fd ps ds)/\PySem.W.keepIn K (.ref f)=true/\mg x=some (.ref f)
structure rS (K:PySem.W.Frag) (mg:Str->Option Value) (x:Str) (st:Stmt) (dvs:List V):Prop where
 ex:∃(f dT:Addr) (oc:Value) (od an dd:Option Addr) (kV doc pm cdv ct:Value) (osl sl:Array (Option Value)) (items:List Value) (n:Nat),
  K.lookup f=some ⟨oc,od,.func (PySem.W.fnOf x x (cJ st) (bK st) (ao st) (.ref dT) kV doc pm an cdv ct),osl⟩/\PySem.W.codeIn K cdv x=true/\PySem.W.keepIn K (.ref f)=true/\mg x=some (.ref f) /\
  K.lookup dT=some ⟨.type "tuple",dd,.seq items.toArray n,sl⟩/\bW dvs items
section
variable {P:Program}{w:World}{K:PySem.W.Frag}{mg:Str->Option Value}{base:Heap}{x:Str}{st:Stmt}{N ps:List Str}{k:Nat}{sp:Sp}{dvs:List V}
theorem rS.ok (D:rS K mg x st dvs) (S:aL N ps (ao st))
  (hb:∀(dT:Addr) (kV doc pm:Value) (an:Option Addr) (cdv ct:Value) (items:List Value) (us:List Value) (n:Nat),items.length=dvs.length->n<=dvs.length->(us++items.drop n).length=ps.length ->
   ∃k,bindArgs (PySem.W.fnOf x x (cJ st) (bK st) (ao st) (.ref dT) kV doc pm an cdv ct) ⟨us,[]⟩=seqItems? (.ref dT) >>= k/\k (some items.toArray)=pure (ps.zip (us++items.drop n)))
  (len:∀vs H Q E,sp vs H Q E->vs.length=ps.length)
  (hbody:∀(f:Addr) (cdv:Value) (A:Around) (outer:List Env) (s:Shared) (H:Hp) (vs:List V) (Q:VK) (E:XK),gq k (A.deeper (envOfC x (ao st) s.heap.objs.size f cdv))->sp vs H Q E ->
   ∃t,PSs (uD CX0 P w K mg base N x (ao st) f cdv A outer s H E).nox (bK st) t/\t { nx:=fun _ H'=>Q .non H',rt:=Q } (start N vs) H):Bl P w K mg base (k + 1) x ps dvs sp:=by
 obtain ⟨f,dT,oc,od,an,dd,kV,doc,pm,cdv,ct,osl,sl,items,n,lk,hcd,kp,hm,lt,rv⟩:=D.ex
 have hl:=rv.length
 refine ⟨f,_,AR lk hcd S len fun A outer s H vs Q E hr hsp=>?_,fun j hj=>⟨items.drop j,rv.drop j,fun s us X hlen=>?_⟩,kp,hm⟩
 .obtain ⟨t,h,q⟩:=hbody f cdv A outer s H vs Q E hr hsp
  exact ⟨t,h.nox,q⟩
 .obtain ⟨k,h1,h2⟩:=hb dT kV doc pm an cdv ct items us j hl.symm hj hlen
  exact BindsTo.of_defaults rfl (X dT _ lt) rfl h1 h2
end
section
variable {X:Cx}{k:Nat}{x:Str}{ps:List Str}{sp:Sp}{p pos:Pos}{e:Expr}{es:List Expr}{t:TA}{dvs:List V}
theorem zd (j:Nat) (C:Bl X.prog X.w X.K X.mg X.base k x ps dvs sp) (hr:gq k X.A) (hj:j<=dvs.length) (ha:PA X (e::es) t) (hg:Gl X x:=by rfl) (hdb:(x == ("__debug__":Str))=false:=by decide) (he:starEach (e::es) X.env=(false,eval e X.env)::starEach es X.env:=by rfl)
  (hpl:(backTo pos (starEach es X.env)).any (·.1)=false:=by rfl):PE X (.Call (.Name x p) (e::es) [] pos) (eY sp (dvs.drop j) E0 t):=by
 obtain ⟨f,fd,F,hb,hk,hm⟩:=C.ex
 obtain ⟨ds,rv,hb⟩:=hb j hj
 exact uC F hr hg hm hk hb rv wR ha hdb he hpl
theorem Bm {pins:List (Addr×Obj)}{σ:St}{H:Hp}{s:Shared}{x:V}{u t:Value} (I:Inv X pins σ H s) (rx:dz x u) (ty:oG X.K H x t) :
  ∃Hq:Heap->Prop,PySem.W.KitX X.K u t Hq/\Hq s.heap/\u≠.builtin "__main__.__loader__#opaque":=by
 cases ty with
 | non=>cases (show u=Value.none from rx);exact ⟨_,PySem.W.kitx_none,True.intro,fun z=>nomatch z⟩
 | bl y=>cases (show u=Value.bool y from rx);exact ⟨_,PySem.W.kitx_bool,True.intro,fun z=>nomatch z⟩
 | int i=>obtain ⟨t,q⟩:=(show ∃t,u=Value.int i t from rx);cases q;exact ⟨_,PySem.W.kitx_int,True.intro,fun z=>nomatch z⟩
 | str y=>obtain ⟨t,q⟩:=(show ∃t,u=Value.str y t from rx);cases q;exact ⟨_,PySem.W.kitx_str,True.intro,fun z=>nomatch z⟩
 | flt y=>obtain ⟨t,q⟩:=(show ∃t,u=Value.float y t from rx);cases q;exact ⟨_,PySem.W.kitx_float,True.intro,fun z=>nomatch z⟩
 | @lst a xs ea =>
  cases (show u=Value.ref a from rx)
  obtain ⟨_,_,n,_,h1⟩:=(show cH X.prog X.w H s.heap a (.lst xs) from I.hok a _ ea)
  exact ⟨_,PySem.W.kitx_list,⟨_,h1,rfl⟩,fun z=>nomatch z⟩
 | @frz a ob xs ea =>
  cases (show u=Value.ref a from rx)
  obtain ⟨_,_,_,n,_,h1⟩:=(show cH X.prog X.w H s.heap a (.frz ob (.lst xs)) from I.hok a _ ea)
  exact ⟨_,PySem.W.kitx_list,⟨_,h1,rfl⟩,fun z=>nomatch z⟩
 | @tup a xs ea =>
  cases (show u=Value.ref a from rx)
  obtain ⟨_,_,_,p⟩:=(show cH X.prog X.w H s.heap a (.tup xs) from I.hok a _ ea)
  obtain ⟨o,h1,h2,_⟩:=p
  exact ⟨_,PySem.W.kitx_tuple,⟨o,h1,h2⟩,fun z=>nomatch z⟩
 | @dK a kvs ea =>
  cases (show u=Value.ref a from rx)
  obtain ⟨_,_,vs,_,p⟩:=(show cH X.prog X.w H s.heap a (.dK kvs) from I.hok a _ ea)
  obtain ⟨o,es,ep,h1,h2,_⟩:=p
  exact ⟨_,PySem.W.kitx_dict,⟨o,h1,h2.1⟩,fun z=>nomatch z⟩
 | @dT a kvs ea =>
  cases (show u=Value.ref a from rx)
  obtain ⟨_,_,xs,_,o,es,ep,h1,h2,_⟩:=(show cH X.prog X.w H s.heap a (.dT kvs) from I.hok a _ ea)
  exact ⟨_,PySem.W.kitx_dict,⟨o,h1,h2.1⟩,fun z=>nomatch z⟩
 | @ins a C dx fs ea cl ha hn htk hm =>
  cases (show u=Value.ref a from rx)
  obtain ⟨mA,O,_⟩:=kG I.hok ea
  obtain ⟨od,J,_⟩:=O.look
  exact ⟨_,PySem.W.kitx_own (cl.get _) cl.hd ha hn htk hm,J,fun z=>nomatch z⟩
theorem rT:∀{ts:List String}{us:List Value},bW (ts.map V.ty) us->us=ts.map Value.type
 | [],_,.nil=>rfl
 | t::ts,_,.cons r rr=>by rw [rT rr,show _=Value.type t from r];rfl
theorem pf:bZ X (.builtin "isinstance") (fun xs H Q=>∃(x:V) (p:Addr) (ts:List String) (t:Value) (b:Bool),xs=[x,.ref p]/\oG X.K H x t/\H p=some (.tup (ts.map V.ty))/\PySem.W.kitAny X.K t (ts.map Value.type)=some b/\Q (.bl b) H):=by
 intro pins s σ H xs us Q I r h
 obtain ⟨x,p,ts,t,b,rfl,ty,hp,e,q⟩:=h
 obtain ⟨u,w',rfl,rx,ry⟩:=wF r
 cases (show w'=Value.ref p from ry)
 obtain ⟨Hq,Z,hq,hx⟩:=Bm I rx ty
 obtain ⟨its,rv,⟨⟨cls,dd,data,sl⟩,ho,hc,n,hd⟩,_⟩:=I.tuple (SqT.of hp)
 simp only at hc hd
 subst hc hd
 exact PySem.W.kia_tup Z I.kIn hq ho (by rw [rT rv];exact e) hx fun tk=>⟨.bl b,H,I.tok _,rfl,q⟩
theorem Bn:OpR X (compareOp .Is) (fun x y H Q=>∃b c,x=.bl b/\y=.bl c/\Q (.bl (decide (b=c))) H):=by
 intro pins s σ H x y v u Q I rx ry h
 obtain ⟨b,c,rfl,rfl,q⟩:=h
 cases (show v=Value.bool b from rx)
 cases (show u=Value.bool c from ry)
 cases b <;> cases c <;> exact wpAny_pure (bC I q (by first | rfl | decide))
theorem u6:OpR X (compareOp .IsNot) (fun x y H Q=>∃b c,x=.bl b/\y=.bl c/\Q (.bl (!decide (b=c))) H):=by
 intro pins s σ H x y v u Q I rx ry h
 obtain ⟨b,c,rfl,rfl,q⟩:=h
 cases (show v=Value.bool b from rx)
 cases (show u=Value.bool c from ry)
 cases b <;> cases c <;> exact wpAny_pure (bC I q (by first | rfl | decide))
theorem nC (bs:List Bool):(List.range bs.length).all (fun i=>bs.getD i false)=bs.all id:=by
 induction bs with
 | nil=>rfl
 | cons b bs ih=>rw [List.length_cons,List.range_succ_eq_map,List.all_cons,List.all_map,List.all_cons,<- ih];rfl
theorem nE (bs:List Bool):(List.range bs.length).any (fun i=>bs.getD i false)=bs.any id:=by
 induction bs with
 | nil=>rfl
 | cons b bs ih=>rw [List.length_cons,List.range_succ_eq_map,List.any_cons,List.any_map,List.any_cons,<- ih];rfl
theorem u7 {bs:List Bool}{its:List Value} (r:bW (bs.map V.bl) its) {i:Nat}{v:Value} (h:its.toArray[i]?=some v):v=.bool (bs.getD i false):=by
 have h':its[i]?=some v:=by simpa using h
 have hl:=r.length
 rw [List.length_map] at hl
 have hi:i < bs.length:=by have:=(List.getElem?_eq_some_iff.mp h').1;omega
 obtain ⟨u,e1,e2⟩:=r.get (i:=i) (x:=V.bl bs[i]) (by rw [List.getElem?_map,List.getElem?_eq_getElem hi];rfl)
 rw [h'] at e1
 cases e1
 rw [show v=Value.bool bs[i] from e2,List.getD_eq_getElem?_getD,List.getElem?_eq_getElem hi];rfl
theorem xf (hc:X.calm=true):bZ X (.builtin "all") (fun xs H Q=>∃(p:Addr) (bs:List Bool),xs=[.ref p]/\SqL X.K H p (bs.map V.bl)/\Q (.bl (bs.all id)) H):=by
 intro pins s σ H xs us Q I r h
 obtain ⟨p,bs,rfl,hS,q⟩:=h
 obtain ⟨u,rfl,ru⟩:=gR r
 cases (show u=Value.ref p from ru)
 obtain ⟨its,rv,pl,hz⟩:=I.list hS
 have hl:=rv.length
 rw [List.length_map] at hl
 have hps:p < s.heap.objs.size:=let ⟨o,ho,_⟩:=pl.isList;Heap.lt_size ho
 obtain ⟨f0,f1,f2,f3,f4,f5⟩:=I.fpOk (H':=H) (Nat.le_refl s.heap.objs.size) (I.hok.fresh (Nat.le_refl _))
 refine call_all_walk (wpAny_pyIter_list pl.isList ⟨s.heap.objs.size,_,_,its.toArray.size,_,_,fun i=>bs.getD i false,rfl,Walks.list (by exact I.ok.hd hc) s.heap.objs.size p (Nat.ne_of_lt hps) its.toArray,⟨⟨_,Heap.get?_push_size _ rfl,rfl,rfl⟩,pl.isList.push _⟩,fun i v s Q E hP hQ=>?_,fun h' tk hk=>?_⟩)
 .rw [u7 rv hP];exact wpAny_truthy_bool hQ
 .have I1:Inv X pins σ H { s with heap:=s.heap.push { cls:=.type "list_iterator",data:=.fields #[.ref p,.int 0 0] } }:=I.kept (t':=s.toks) fun b o e=>Heap.get?_push_of_some _ e
  have I2:=I1.turned (h':=h') (t':=tk) (it:=s.heap.objs.size) (fun b o hb e=>hk b o (by simpa using hb) e) f0 f1 f3 f4 f5
  refine ⟨.bl (bs.all id),H,I2,?_,q⟩
  show Value.bool _=Value.bool _
  rw [List.size_toArray,<- hl,nC]
theorem xg (hc:X.calm=true):bZ X (.builtin "any") (fun xs H Q=>∃(p:Addr) (bs:List Bool),xs=[.ref p]/\SqL X.K H p (bs.map V.bl)/\Q (.bl (bs.any id)) H):=by
 intro pins s σ H xs us Q I r h
 obtain ⟨p,bs,rfl,hS,q⟩:=h
 obtain ⟨u,rfl,ru⟩:=gR r
 cases (show u=Value.ref p from ru)
 obtain ⟨its,rv,pl,hz⟩:=I.list hS
 have hl:=rv.length
 rw [List.length_map] at hl
 have hps:p < s.heap.objs.size:=let ⟨o,ho,_⟩:=pl.isList;Heap.lt_size ho
 obtain ⟨f0,f1,f2,f3,f4,f5⟩:=I.fpOk (H':=H) (Nat.le_refl s.heap.objs.size) (I.hok.fresh (Nat.le_refl _))
 refine call_any_walk (wpAny_pyIter_list pl.isList ⟨s.heap.objs.size,_,_,its.toArray.size,_,_,fun i=>bs.getD i false,rfl,Walks.list (by exact I.ok.hd hc) s.heap.objs.size p (Nat.ne_of_lt hps) its.toArray,⟨⟨_,Heap.get?_push_size _ rfl,rfl,rfl⟩,pl.isList.push _⟩,fun i v s Q E hP hQ=>?_,fun h' tk hk=>?_⟩)
 .rw [u7 rv hP];exact wpAny_truthy_bool hQ
 .have I1:Inv X pins σ H { s with heap:=s.heap.push { cls:=.type "list_iterator",data:=.fields #[.ref p,.int 0 0] } }:=I.kept (t':=s.toks) fun b o e=>Heap.get?_push_of_some _ e
  have I2:=I1.turned (h':=h') (t':=tk) (it:=s.heap.objs.size) (fun b o hb e=>hk b o (by simpa using hb) e) f0 f1 f3 f4 f5
  refine ⟨.bl (bs.any id),H,I2,?_,q⟩
  show Value.bool _=Value.bool _
  rw [List.size_toArray,<- hl,nE]
end
section
variable {X:Cx}{o e f:Expr}{apos cpos:Pos}{td ty tx:TE}
theorem u8:bZ X (.builtin "len") (fun xs H Q=>∃p kvs,xs=[.ref p]/\Rd H p (.dK kvs)/\Q (.int kvs.length) H):=by
 intro pins s σ H xs us Q I r h
 obtain ⟨p,kvs,rfl,hd,q⟩:=h
 obtain ⟨u,rfl,ru⟩:=gR r
 cases (show u=Value.ref p from ru)
 exact CY I hd fun t s' I'=>⟨.int kvs.length,H,I',⟨t,rfl⟩,q⟩
end
def bL (K:PySem.W.Frag) (x:Str):Addr:=match PySem.W.nsIn K mainGlobals x with
 | some (some (.ref C))=>C
 | _=>0
theorem ku {K:PySem.W.Frag}{x:Str}{C:Addr} (h:PySem.W.nsIn K mainGlobals x=some (some (.ref C))):bL K x=C:=by unfold bL;rw [h]
structure Cn (P:Program) (w:World) (K:PySem.W.Frag) (mg:Str->Option Value) (base:Heap) (k:Nat) (C:Addr) (m:Str) (ps:List Str) (sp:Sp):Prop where
 ex:∃(f:Addr) (fd:FuncData),mS P w K mg base CX0 k f fd ps sp/\jc K fd ps []/\Ck K C m f
structure Bo (P:Program) (w:World) (K:PySem.W.Frag) (mg:Str->Option Value) (base:Heap) (k:Nat) (C:Addr) (x:Str) (ps:List Str) (sp:Sp):Prop where
 ex:∃(f:Addr) (fd:FuncData),mS P w K mg base CX0 k f fd ps sp/\jc K fd ps []/\Mk K C f/\mg x=some (.ref C)
structure rV (K:PySem.W.Frag) (C:Addr) (m qual:Str) (st:Stmt):Prop where
 ex:∃(f:Addr) (fd:FuncData),Fun K m qual st f fd/\Ck K C m f
structure rW (K:PySem.W.Frag) (mg:Str->Option Value) (C:Addr) (x qual:Str) (st:Stmt):Prop where
 ex:∃(f:Addr) (fd:FuncData),Fun K "__init__" qual st f fd/\Mk K C f/\mg x=some (.ref C)
section
variable {P:Program}{w:World}{K:PySem.W.Frag}{mg:Str->Option Value}{base:Heap}{x m qual:Str}{C:Addr}{st:Stmt}{N ps:List Str}{k:Nat}{sp:Sp}
theorem rV.ok (D:rV K C m qual st) (S:aL N ps (ao st))
  (hb:∀(kV doc pm:Value) (an:Option Addr) (cdv ct:Value) (us:List Value),us.length=ps.length->bindArgs (PySem.W.fnOf m qual (cJ st) (bK st) (ao st) .none kV doc pm an cdv ct) ⟨us,[]⟩=pure (ps.zip us))
  (len:∀vs H Q E,sp vs H Q E->vs.length=ps.length)
  (hbody:∀(f:Addr) (cdv:Value) (A:Around) (outer:List Env) (s:Shared) (H:Hp) (vs:List V) (Q:VK) (E:XK),gq k (A.deeper (envOfC qual (ao st) s.heap.objs.size f cdv))->sp vs H Q E ->
   ∃t,PSs (uD CX0 P w K mg base N qual (ao st) f cdv A outer s H E).nox (bK st) t/\t { nx:=fun _ H'=>Q .non H',rt:=Q } (start N vs) H):Cn P w K mg base (k + 1) C m ps sp:=by
 obtain ⟨f,fd,F,hm⟩:=D.ex
 exact ⟨f,fd,F.ok S len fun cdv A outer s H vs Q E hr h=>hbody f cdv A outer s H vs Q E hr h,F.binds hb,hm⟩
theorem rW.ok (D:rW K mg C x qual st) (S:aL N ps (ao st))
  (hb:∀(kV doc pm:Value) (an:Option Addr) (cdv ct:Value) (us:List Value),us.length=ps.length->bindArgs (PySem.W.fnOf "__init__" qual (cJ st) (bK st) (ao st) .none kV doc pm an cdv ct) ⟨us,[]⟩=pure (ps.zip us))
  (len:∀vs H Q E,sp vs H Q E->vs.length=ps.length)
  (hbody:∀(f:Addr) (cdv:Value) (A:Around) (outer:List Env) (s:Shared) (H:Hp) (vs:List V) (Q:VK) (E:XK),gq k (A.deeper (envOfC qual (ao st) s.heap.objs.size f cdv))->sp vs H Q E ->
   ∃t,PSs (uD CX0 P w K mg base N qual (ao st) f cdv A outer s H E).nox (bK st) t/\t { nx:=fun _ H'=>Q .non H',rt:=Q } (start N vs) H):Bo P w K mg base (k + 1) C x ps sp:=by
 obtain ⟨f,fd,F,hm,e⟩:=D.ex
 exact ⟨f,fd,F.ok S len fun cdv A outer s H vs Q E hr h=>hbody f cdv A outer s H vs Q E hr h,F.binds hb,hm,e⟩
end
section
variable {X:Cx}{k:Nat}{x m:Str}{C:Addr}{ps:List Str}{sp:Sp}{p pos apos:Pos}{o e:Expr}{es:List Expr}{ta:TE}{t:TA}
theorem ze (M:Bo X.prog X.w X.K X.mg X.base k C x ps sp) (hr:gq (k + 1) X.A) (ha:PA X (e::es) t) (hg:Gl X x:=by rfl) (hdb:(x == ("__debug__":Str))=false:=by decide) (he:starEach (e::es) X.env=(false,eval e X.env)::starEach es X.env:=by rfl)
  (hpl:(backTo pos (starEach es X.env)).any (·.1)=false:=by rfl):PE X (.Call (.Name x p) (e::es) [] pos) (wI C sp [] E0 t):=by
 obtain ⟨f,fd,F,hb,hk,hm⟩:=M.ex
 exact yR hk F hr hg hm hb .nil wR ha hdb he hpl
theorem xh {pl:Sem Bool} (he:PE X o ta) (c:Cls X.K C) (M:Cn X.prog X.w X.K X.mg X.base k C m ps sp) (hr:gq k X.A)
  (ht:eval (.Call (.Attribute o m apos) [] [] pos) X.env=(do
   let ov <- eval o X.env
   standAt apos.atName
   let (f,first) <- holding [ov] (getMethod ov m pl)
   callWith pos f first (backTo pos (starEach [] X.env)) (backToKw pos (keywordEach [] X.env))):=by rfl) :
  PE X (.Call (.Attribute o m apos) [] [] pos) (yQ C m sp [] E0 ta e9):=by
 obtain ⟨f,fd,F,hb,hm⟩:=M.ex
 exact wJ (pl:=pl) he c hm F hr hb .nil wR ht
end
theorem u9 {prog:Program}{w:World}{A:Around} (k:Bool) (hh:A.handled=none) (it a:Addr) (hne:a≠it) (its:Array Value) :
  Draws prog w A it [it,a] its.size (fun i v=>its[i]?=some v) (fun i h=>iM k h it a i/\kP k h a its) where
 live:=fun _ _ st=>let ⟨o,ho,_⟩:=st.1;⟨o,ho⟩
 frame:=fun _ _ _ st hk=>⟨st.1.mv fun o e=>hk it (by simp) o e,st.2.mv fun o e=>hk a (by simp) o e⟩
 item:=fun i s Q E hi st hQ=>by
  refine o7 st.1 st.2 (x:=its[i]) (by simp [hi]) fun h' hit' hs'=>?_
  exact hQ _ h' s.toks (by simp [hi]) ⟨hit',st.2.mv fun o e=>hs'.extBut _ o hne e⟩ hs'
 done:=fun s Q E st hE=>kQ hh st.1 st.2 (by simp) hE
def Ite (k:Bool) (K:PySem.W.Frag) (a:Addr):It :=
  ⟨fun i H=>∃xs x,Sq k K H a xs/\xs[i]?=some x,
   fun i H p H'=>∃T x,H T=none/\p=.ref T/\(∀xs,Sq k K H a xs->xs[i]?=some x)/\H'=upd H T (.tup [.int (i:Int),x]),
   fun i H=>∃xs,Sq k K H a xs/\xs.length<=i⟩
theorem va {P:Program}{w:World}{K:PySem.W.Frag}{es:List Expr}{ct:Nat}{tp:Pos}{k:Bool}{a e it:Addr} (hei:e≠it) :
  Aj P w K (.Tuple es ct tp) (Ite k K a) [e,it] e (fun n h=>(∃old,IsEnum h e it ((n:Nat):Int) old)/\iM k h it a n) where
 mem:=by simp
 obj:=fun n h st b hb=>by
  obtain ⟨⟨old,he⟩,o1,g1,c1,d1⟩:=st
  simp only [List.mem_cons,List.not_mem_nil,or_false] at hb
  rcases hb with rfl | rfl
  .exact ⟨_,he,fun v q=>by cases q⟩
  .exact ⟨_,g1,fun v q=>by rw [d1] at q;cases q⟩
 keep:=fun n h h' st kk=>by
  obtain ⟨⟨old,he⟩,w1⟩:=st
  exact ⟨⟨old,kk e (by simp) _ he⟩,w1.mv fun o q=>kk it (by simp) o q⟩
 item:=by
  intro X hP hw hK hc n pins s σ H E I hf st hg
  subst hP hw hK
  obtain ⟨xs,x,q1,hx⟩:=hg
  obtain ⟨⟨old,he⟩,w1⟩:=st
  obtain ⟨its,rv,p,_⟩:=I.row q1
  obtain ⟨ux,hux,rx⟩:=rv.get hx
  have ne:=I.row_ne q1 (hf e (by simp))
  have ni:=I.row_ne q1 (hf it (by simp))
  have hlt:n < its.toArray.size:=by
   have:=(List.getElem?_eq_some_iff.mp hux).1
   simpa using this
  have hhd:X.A.in1.handled=none:=by exact I.ok.hd hc
  refine wpAny_pyNext_enum_itemD (u9 k hhd it a ni its.toArray) he ⟨w1,p⟩ hlt hei (by simp [hei,Ne.symm ne]) fun y h' tk hP ho hst ht hsz hk=>?_
  have hy:y=ux:=by
   have h1:its[n]?=some y:=by simpa using hP
   rw [hux] at h1;exact (Option.some.inj h1).symm
  subst hy
  refine ⟨_,rfl,wpAny_letOwnedTupleGo_enum ho fun g ge gs=>?_⟩
  have lt:∀{b o},s.heap.get? b=some o->s.heap.objs.size≠b:=fun q=>Nat.ne_of_gt (Heap.lt_size q)
  have kp:∀b o,b∉[e,it]->s.heap.get? b=some o->g.get? b=some o:=fun b o hb q=>by
   simp only [List.mem_cons,List.not_mem_nil,or_false,not_or] at hb
   exact gs.extBut _ _ hb.1 (hk b o hb.1 hb.2 q)
  have I2:Inv X pins σ (upd H s.heap.objs.size (.tup [.int (n:Int),x])) { s with heap:=g,toks:=tk + 1 }:=I.yielded (ch:=[e,it]) (fun b hb=>hf b hb) (Nat.le_refl _) kp
   ⟨by show 2<=sizeLine;decide,[.int (n:Int) tk,y],.cons ⟨tk,rfl⟩ (.cons rx .nil),_,gs.extBut _ _ (lt he) ht,rfl,_,rfl⟩
  refine ⟨.ref s.heap.objs.size,_,I2,rfl,⟨_,x,I.hok.fresh (Nat.le_refl _),rfl,fun xs' q=>by rw [I.row_inj q q1];exact hx,rfl⟩,⟨⟨y,by simpa using ge⟩,hst.1.mv fun o q=>gs.extBut _ o (Ne.symm hei) q⟩,fun b hb=>?_⟩
  rw [aA ?_]
  .exact (hf b hb).1
  .intro q
   subst q
   simp only [List.mem_cons,List.not_mem_nil,or_false] at hb
   obtain ⟨o1,g1,_⟩:=w1
   rcases hb with q | q
   .exact lt he q
   .exact lt g1 q
 done:=by
  intro X hP hw hK hc n pins s σ H E I hf st hg
  subst hP hw hK
  obtain ⟨xs,q1,hend⟩:=hg
  obtain ⟨⟨old,he⟩,w1⟩:=st
  obtain ⟨its,rv,p,_⟩:=I.row q1
  have e1:=rv.length
  have ni:=I.row_ne q1 (hf it (by simp))
  have hhd:X.A.in1.handled=none:=by exact I.ok.hd hc
  obtain ⟨f0,f1,f2,f3,f4,f5⟩:=hf it (by simp)
  -- the walk's end is wherever the row has no item
  have hT:s.TypeIs (.ref e) "enumerate":=⟨_,he,rfl⟩
  unfold pyNext
  refine wpAny_bind (wpAny_attempt (wpAny_callSpecial?_slot (name:=Str.ofString "__next__") hT F.slot_enumerate_next
   (wpAny_call_entry F.slot_enumerate_next hT F.entry_enumerate_next ?_ (F.args_enumerate_next_1 _))))
  show wpAny _ _ (field (.ref e) 2 >>= _) _ _ _
  refine wpAny_bind (wpAny_field he rfl (x:=.ref it) rfl ?_)
  refine wpAny_bind (kQ hhd w1 p (by simp;omega) fun h' x he' hx'=>?_)
  obtain ⟨o,ho,hcl⟩:=hx'
  refine wpAny_bind (wpAny_isInstance (T:="StopIteration") (b:=true) ⟨o,ho,hcl⟩ isSubtype_stop ?_)
  exact wpAny_pure ⟨rfl,I.turned (t':=s.toks) (fun b o hb q=>he' b o hb q) f0 f1 f3 f4 f5⟩
 self:=fun _ _ _ _ _ st h=>let ⟨⟨_,he⟩,_⟩:=st;wpAny_pyIter_enum he h
section
variable {P:Program}{w:World}{A:Around}{E:Value->Shared->Prop}{s:Shared}{k:Bool}
theorem xi (k:Bool) (a:Addr) (xs:Array Value):Meets (Builtin.«enumerate.__new__» ⟨[.type "enumerate",.ref a],[]⟩) (fun _ R s=>kP k s.heap a xs /\
   R (.ok (.ret (.ref (s.heap.push (qB k a)).objs.size))) { s with heap:=(s.heap.push (qB k a)).push { cls:=.type "enumerate",data:=.fields #[.none,.bool false,.ref s.heap.objs.size,rawInt 0,.none,.none] } }) :=
 .of_wp fun prog w A R s h=>by
  obtain ⟨hp,g,d,tk,os⟩:=s
  obtain ⟨r1,h⟩:=h
  have hsub:=sub_enumerate
  have R1:kP k (Shared.heap ⟨hp,g,d,tk,os⟩) a xs:=r1
  obtain ⟨⟨cls,dd,data,sl⟩,ho,hc,n,hd⟩:=id r1
  simp only at hc hd
  subst hc hd
  wp_walk using AutoSeq1.wpAny_loadPart' ho
  refine wpAny_stack_any fun st=>wpAny_pure ?_
  split
  .rename_i c _ _ _ _ _
   cases (c == Value.type "enumerate")
   .wp_walk using AutoSeq1.wpAny_loadPart' ho,jg R1
    exact ⟨_,rfl,h⟩
   .wp_walk using AutoSeq1.wpAny_loadPart' ho,jg R1
    exact ⟨_,rfl,h⟩
  .wp_walk using AutoSeq1.wpAny_loadPart' ho,jg R1
   exact ⟨_,rfl,h⟩
theorem xj {a:Addr}{xs:Array Value}{Q:Value->Shared->Prop} (r1:kP k s.heap a xs)
  (h:∀h',IsEnum h' (s.heap.objs.size + 1) s.heap.objs.size 0 .none->iM k h' s.heap.objs.size a 0->(∀b o,s.heap.get? b=some o->h'.get? b=some o)->Q (.ref (s.heap.objs.size + 1)) { s with heap:=h' }) :
  wpAny (model P w) A (call (.type "enumerate") [.ref a]) Q E s:=by
 refine callType_new F.called_enumerate (by decide) (F.typeCall_enumerate_1 _) (F.newCall_enumerate_1 _) (fun obj=>F.args_object_init_2 obj _) F.entry_enumerate_new (xi k a xs) ⟨r1,?_⟩
 have z1:(s.heap.push (qB k a)).objs.size=s.heap.objs.size + 1:=Heap.size_push ..
 have g2:((s.heap.push (qB k a)).push { cls:=.type "enumerate",data:=.fields #[.none,.bool false,.ref s.heap.objs.size,rawInt 0,.none,.none] }).get? (s.heap.push (qB k a)).objs.size=some _:=Heap.get?_push_size _ rfl
 have g1:=Heap.get?_push_of_some { cls:=.type "enumerate",data:=.fields #[.none,.bool false,.ref s.heap.objs.size,rawInt 0,.none,.none] } (Heap.get?_push_size s.heap (o:=qB k a) rfl)
 show _/\_
 rw [z1] at g2 ⊢
 exact ⟨⟨_,g2,rfl⟩,h _ g2 ⟨_,g1,rfl,rfl⟩ fun b o q=>Heap.get?_push_of_some _ (Heap.get?_push_of_some _ q)⟩
end
section
variable {X:Cx}{es:List Expr}{ct:Nat}{tp:Pos}
def zf (K:PySem.W.Frag) (ta:TA):TI:=fun σ H R=>ta σ H fun vs H1=>∃k a,vs=[.ref a]/\(∃xs,Sq k K H1 a xs)/\R (Ite k K a) H1
theorem zg {a:Expr}{ta:TA}{p pos:Pos} (hg:Gl X "enumerate") (hm:X.mg "enumerate"=none) (ha:PA X [a] ta) (hs:starEach [a] X.env=[(false,eval a X.env)]:=by rfl) :
  PI X (.Tuple es ct tp) (.Call (.Name "enumerate" p) [a] [] pos) (zf X.K ta):=by
 intro pins s σ H R I h
 refine Call_ (gp I hg hm boot_enumerate (PyProof.Rows.callWith_type1 (thn (ha pos pins s σ H _ I h) fun us s1 ⟨vs,H1,I1,r1,q1⟩=>?_) hs rfl))
 obtain ⟨k,a,e,⟨xs,q1⟩,q⟩:=q1
 subst e
 cases r1 with
 | cons r rr =>
  cases rr
  cases r
  obtain ⟨its,rv,p,_⟩:=I1.row q1
  refine xj p fun h' g1 g2 kk=>wpAny_pyIter_enum g1 ?_
  have I2:Inv X pins σ H1 { s1 with heap:=h',toks:=s1.toks }:=I1.kept kk
  refine ⟨s1.heap.objs.size + 1,[s1.heap.objs.size + 1,s1.heap.objs.size],_,_,H1,rfl,I2,va (k:=k) (a:=a) (it:=s1.heap.objs.size) (Nat.ne_of_gt (Nat.lt_succ_self _)),⟨⟨_,g1⟩,g2⟩,fun b hb=>?_,q⟩
  have hle:s1.heap.objs.size<=b:=by
   simp only [List.mem_cons,List.not_mem_nil,or_false] at hb
   rcases hb with e | e
   .rw [e];exact Nat.le_add_right _ _
   .rw [e];exact Nat.le_refl _
  exact I1.fpOk hle (I1.hok.fresh hle)
end
section
variable {X:Cx}
theorem vb (hc:X.calm=true):bZ X (.builtin "min") (fun xs H Q=>∃(p:Addr) (ns:List Int),xs=[.ref p]/\SqL X.K H p (ns.map V.int)/\0 < ns.length/\∀m:Int,m∈ns->(∀a∈ns,m<=a)->Q (.int m) H):=by
 intro pins s σ H xs us Q I r h
 obtain ⟨p,ns,rfl,hS,hne,q⟩:=h
 obtain ⟨u,rfl,ru⟩:=gR r
 cases (show u=Value.ref p from ru)
 obtain ⟨its,rv,pl,hz⟩:=I.list hS
 have hi:=gL rv
 have hl:=pl.isList
 obtain ⟨ys,e⟩:=hi.allInts.items
 have hns:ns=ys.toList.map (·.1):=by rw [<- hi.numsOf,<- nums_intItems,<- e]
 have hsz:0 < ys.size:=by
  have h3:=hne;rw [hns,List.length_map,Array.length_toList] at h3;exact h3
 rw [e] at hl
 refine min_intList (by exact I.ok.hd hc) hl hsz fun v h' tk hv hk=>?_
 obtain ⟨t,rfl⟩:=intItems_at hv
 obtain ⟨h1,h2⟩:=argBest_lt (numAt ys) (ys.size - 1)
 refine ⟨.int _,H,I.kept (t':=tk) hk,⟨t,rfl⟩,q _ ?_ fun a ha=>?_⟩
 .rw [hns,numAt_eq];exact getD_mem (by rw [List.length_map,Array.length_toList];omega)
 .rw [hns] at ha
  obtain ⟨j,hj,rfl⟩:=mem_getD ha
  rw [List.length_map,Array.length_toList] at hj
  rw [<- numAt_eq];exact h2 j (by omega)
theorem jh (ns:List Int):∀k,k<=ns.length->preSum (fun i=>ns.getD i 0) k=(ns.take k).sum
 | 0,_=>rfl
 | k + 1,h=>by
  rw [preSum,jh ns k (by omega),List.take_add_one,List.getElem?_eq_getElem (by omega),List.sum_append,List.getD_eq_getElem?_getD,List.getElem?_eq_getElem (by omega)]
  simp
theorem pq (hc:X.calm=true):bZ X (.builtin "sum") (fun xs H Q=>∃(p:Addr) (ns:List Int),xs=[.ref p]/\SqL X.K H p (ns.map V.int)/\Q (.int ns.sum) H):=by
 intro pins s σ H xs us Q I r h
 obtain ⟨p,ns,rfl,hS,q⟩:=h
 obtain ⟨u,rfl,ru⟩:=gR r
 cases (show u=Value.ref p from ru)
 obtain ⟨its,rv,pl,hz⟩:=I.list hS
 have hi:=gL rv
 have hl:=pl.isList
 obtain ⟨ys,e⟩:=hi.allInts.items
 have hns:ns=ys.toList.map (·.1):=by rw [<- hi.numsOf,<- nums_intItems,<- e]
 rw [e] at hl
 refine sum_intListG (by exact I.ok.hd hc) hl fun h' tk t' hk=>⟨.int ns.sum,H,I.kept (t':=tk) hk,⟨t',?_⟩,q⟩
 have hlen:ys.size=ns.length:=by rw [hns,List.length_map,Array.length_toList]
 have hnum:numAt ys=fun i=>ns.getD i 0:=by
  funext i
  rw [numAt_eq,hns]
 rw [hnum,hlen,jh ns ns.length (Nat.le_refl _),List.take_length]
end
section
variable {X:Cx}{e:Expr}{ta:TE}{f:Str}{pos:Pos}
theorem dQ (K:PySem.W.Frag) (eK:X.K=K) (he:PE X e ta) (hb:attributeBase e f X.env (eval e X.env)=eval e X.env):PE X (.Attribute e f pos) (wv K ta f):=eK ▸ AQ he hb
def CZ (K:PySem.W.Frag):List V->Hp->VK->Prop:=fun xs H Q=>∃p ys,xs=[.ref p]/\SqL K H p ys/\Q (.int ys.length) H
def C1 (K:PySem.W.Frag):List V->Hp->VK->Prop:=fun xs H Q=>∃p ys,xs=[.ref p]/\SqT K H p ys/\Q (.int ys.length) H
def DP (K:PySem.W.Frag):List V->Hp->VK->Prop:=fun xs H Q=>∃x n t b,xs=[x,.ty n]/\oG K H x t/\PySem.W.kitOne K t (.type n)=some b/\Q (.bl b) H
def ip (K:PySem.W.Frag):List V->Hp->VK->Prop:=fun xs H Q=>∃p ys,xs=[.ref p]/\(SqL K H p ys\/SqT K H p ys)/\∀l,H l=none->Q (.ref l) (upd H l (.lst ys))
end
section
variable {X:Cx}{o e:Expr}{es:List Expr}{to:TE}{t:TA}{name:Str}{apos cpos:Pos}{T id:String}{r:V->List V->Hp->VK->Prop}
theorem fU (K:PySem.W.Frag) (eK:X.K=K) (pa:PlainAttrs T) (slot:Slot T name id) (hty:typeOf (.builtin id)=pure (.type "method_descriptor")) (hm:MtR X id r) (ho:PE X o to) (ha:PA X (e::es) t)
  (hbase:attributeBase o name X.env (eval o X.env)=eval o X.env:=by rfl)
  (hfew:((backTo cpos (starEach (e::es) X.env)).all (fun x=>!x.1) && (backToKw cpos (keywordEach [] X.env)).all (fun x=>x.1.isSome)
   && decide ((e::es).length + ([]:List Keyword).length + (if ([]:List Keyword).isEmpty then 0 else 1) < 30))=true:=by rfl)
  (hline:(apos.endLine == cpos.line)=true:=by rfl) (hs:starEach (e::es) X.env=(false,eval e X.env)::starEach es X.env:=by rfl) (hplain:(backTo cpos (starEach es X.env)).any (·.1)=false:=by rfl) :
  PE X (.Call (.Attribute o name apos) (e::es) [] cpos) (tBM K T r to t):=eK ▸ CO pa slot hty hm ho ha hbase hfew hline hs hplain
end
def iq (c:Bool) (A B:Prop):Prop:=match c with | true=>A | false=>B
theorem rX {c:Bool}{A B:Prop} (h1:c=true->A) (h2:c=false->B):iq c A B:=by
 cases c with
 | true=>exact h1 rfl
 | false=>exact h2 rfl
theorem eo {p:Prop} [Decidable p] {A B:Prop} (h1:p->A) (h2:¬ p->B):iq (decide p) A B:=rX (fun h=>h1 (of_decide_eq_true h)) (fun h=>h2 (of_decide_eq_false h))
theorem kU {p:Prop} [Decidable p] {A B:Prop} (h1:¬ p->A) (h2:p->B):iq (!decide p) A B:=rX (fun h=>h1 fun z=>by rw [decide_eq_true z] at h;cases h) (fun h=>h2 (by
 by_cases z:p
 .exact z
 .rw [decide_eq_false z] at h;cases h))
theorem C2 {p:Prop} [Decidable p] {A B:Prop} (h:p) (hA:A):iq (decide p) A B:=eo (fun _=>hA) (fun z=>absurd h z)
theorem C3 {p:Prop} [Decidable p] {A B:Prop} (h:¬ p) (hB:B):iq (decide p) A B:=eo (fun z=>absurd z h) (fun _=>hB)
theorem Bp {p:Prop} [Decidable p] {A B:Prop} (h:¬ p) (hA:A):iq (!decide p) A B:=kU (fun _=>hA) (fun z=>absurd z h)
theorem Bq {p:Prop} [Decidable p] {A B:Prop} (h:p) (hB:B):iq (!decide p) A B:=kU (fun z=>absurd h z) (fun _=>hB)
theorem ji {c:Bool}{A B:Prop} (h:iq c B A):iq (!c) A B:=by
 cases c <;> exact h
theorem Ec {c:Bool}{A B:Prop} (h:c=true) (hA:A):iq c A B:=by subst h;exact hA
theorem Ed {c:Bool}{A B:Prop} (h:c=false) (hB:B):iq c A B:=by subst h;exact hB
theorem C4 {c:Bool}{A B:Prop} (h:c=false) (hA:A):iq (!c) A B:=by subst h;exact hA
theorem zh {c:Bool}{A B:Prop} (h:c=true) (hB:B):iq (!c) A B:=by subst h;exact hB
inductive D where
 | non | bl (b:Bool) | int (i:Int) | str (l:List Nat) | ty (n:String)
 | lst (ds:List D) | tup (ds:List D) | scr (ns:List Int) | dic (ks:List Key) (ds:List D) | obj (c:Str) (ns:List Str) (ds:List D) | exc (c:Str) (ns:List Str) (ds:List D)
def XAt (x C:Addr) (dd:Option Addr) (new:Bool) (h:Heap):Prop:=∃o vs,h.get? x=some o/\o.cls=.ref C/\o.dict=dd/\o.data=.fields vs/\1 < vs.size/\(new=true->vs[1]?=some .none)
def fc (A:Addr->Prop) (a:Addr):Addr->Prop:=fun b=>A b\/b=a
def Al (K:PySem.W.Frag) (O:Addr->Prop) (H:Hp) (a:Addr) (xs:List V):Prop :=
 (¬ O a/\Rd H a (.lst xs))\/∃(o:Obj) (its:Array Value) (n:Nat),K.lookup a=some o/\o.cls=.type "list"/\o.dict=none/\o.data=.seq its n/\its.size<=sizeLine/\bW xs its.toList
theorem Al.sq {K:PySem.W.Frag}{O:Addr->Prop}{H:Hp}{a:Addr}{xs:List V} (h:Al K O H a xs):SqL K H a xs:=h.elim (fun z=>.inl z.2) .inr
def aU (O:Addr->Prop) (H:Hp) (O':Addr->Prop) (H':Hp):Prop:=∀b o,¬ O b->H b=some o->¬ O' b/\H' b=some o
theorem Rd.keeps {O O':Addr->Prop}{H H':Hp}{a:Addr}{u:HO} (k:aU O H O' H') (n:¬ O a) (r:Rd H a u):¬ O' a/\Rd H' a u:=by
 rcases r with e | ⟨o,e⟩
 .exact ⟨(k _ _ n e).1,.inl (k _ _ n e).2⟩
 .exact ⟨(k _ _ n e).1,.inr ⟨o,(k _ _ n e).2⟩⟩
theorem Al.keeps {K:PySem.W.Frag}{O O':Addr->Prop}{H H':Hp}{a:Addr}{xs:List V} (k:aU O H O' H') (h:Al K O H a xs):Al K O' H' a xs:=by
 rcases h with ⟨n,r⟩ | r
 .exact .inl (r.keeps k n)
 .exact .inr r
mutual
inductive FV (K:PySem.W.Frag) (O:Addr->Prop) (H:Hp):V->D->Prop
 | non:FV K O H .non .non
 | bl (b:Bool):FV K O H (.bl b) (.bl b)
 | int (i:Int):FV K O H (.int i) (.int i)
 | str (l:List Nat):l.length<=1000000->FV K O H (.str (S l)) (.str l)
 | ty (n:String):FV K O H (.ty n) (.ty n)
 | scr {a:Addr}{ns:List Int}:Al K O H a (ns.map V.int)->FV K O H (.ref a) (.scr ns)
 | lst {a:Addr}{xs:List V}{ds:List D}:¬ O a->H a=some (.lst xs)->FVs K O H xs ds->FV K O H (.ref a) (.lst ds)
 | tup {a:Addr}{xs:List V}{ds:List D}:¬ O a->H a=some (.tup xs)->FVs K O H xs ds->FV K O H (.ref a) (.tup ds)
 | dic {a:Addr}{kvs:List (Key×V)}{ks:List Key}{ds:List D}:¬ O a->H a=some (.dK kvs)->kvs.map Prod.fst=ks->FVs K O H (kvs.map Prod.snd) ds->FV K O H (.ref a) (.dic ks ds)
 | obj {a dx:Addr}{c:Str}{fs:List (Str×V)}{ns:List Str}{ds:List D}:¬ O a->H a=some (.ins (bL K c) dx fs)->fs.map Prod.fst=ns->FVs K O H (fs.map Prod.snd) ds->FV K O H (.ref a) (.obj c ns ds)
 | exc0 {a:Addr}{c:Str}{new:Bool}:¬ O a->H a=some (.ext (XAt a (bL K c) none new))->FV K O H (.ref a) (.exc c [] [])
 | exc1 {a dx:Addr}{c:Str}{new:Bool}{fs:List (Str×V)}{ns:List Str}{ds:List D}:¬ O a->¬ O dx->H a=some (.ext (XAt a (bL K c) (some dx) new))->H dx=some (.xd fs)->fs.map Prod.fst=ns->FVs K O H (fs.map Prod.snd) ds->FV K O H (.ref a) (.exc c ns ds)
inductive FVs (K:PySem.W.Frag) (O:Addr->Prop) (H:Hp):List V->List D->Prop
 | nil:FVs K O H [] []
 | cons {x:V}{d:D}{xs:List V}{ds:List D}:FV K O H x d->FVs K O H xs ds->FVs K O H (x::xs) (d::ds)
end
section
variable {K:PySem.W.Frag}{O O':Addr->Prop}{H H':Hp}
mutual
theorem FV.keeps (k:aU O H O' H'):∀{v:V}{d:D},FV K O H v d->FV K O' H' v d
 | _,_,.non=>.non
 | _,_,.bl b=>.bl b
 | _,_,.int i=>.int i
 | _,_,.str l h=>.str l h
 | _,_,.ty n=>.ty n
 | _,_,.scr s=>.scr (s.keeps k)
 | _,_,.lst n e f=>.lst (k _ _ n e).1 (k _ _ n e).2 (FVs.keeps k f)
 | _,_,.tup n e f=>.tup (k _ _ n e).1 (k _ _ n e).2 (FVs.keeps k f)
 | _,_,.dic n e m f=>.dic (k _ _ n e).1 (k _ _ n e).2 m (FVs.keeps k f)
 | _,_,.obj n e m f=>.obj (k _ _ n e).1 (k _ _ n e).2 m (FVs.keeps k f)
 | _,_,.exc0 n e=>.exc0 (k _ _ n e).1 (k _ _ n e).2
 | _,_,.exc1 n n2 e e2 m f=>.exc1 (k _ _ n e).1 (k _ _ n2 e2).1 (k _ _ n e).2 (k _ _ n2 e2).2 m (FVs.keeps k f)
theorem FVs.keeps (k:aU O H O' H'):∀{vs:List V}{ds:List D},FVs K O H vs ds->FVs K O' H' vs ds
 | _,_,.nil=>.nil
 | _,_,.cons a b=>.cons (FV.keeps k a) (FVs.keeps k b)
end
theorem FVs.length:∀{vs:List V}{ds:List D},FVs K O H vs ds->vs.length=ds.length
 | _,_,.nil=>rfl
 | _,_,.cons _ b=>by rw [List.length_cons,List.length_cons,b.length]
theorem FVs.get:∀{vs:List V}{ds:List D}{i:Nat}{v:V},FVs K O H vs ds->vs[i]?=some v->∃d,ds[i]?=some d/\FV K O H v d
 | _,_,0,_,.cons a _,e=>by simp at e;subst e;exact ⟨_,rfl,a⟩
 | _,_,i + 1,v,.cons _ b,e=>by
  obtain ⟨d,h1,h2⟩:=b.get (i:=i) (v:=v) (by simpa using e)
  exact ⟨d,by simpa using h1,h2⟩
theorem FVs.getD:∀{vs:List V}{ds:List D}{i:Nat}{d:D},FVs K O H vs ds->ds[i]?=some d->∃v,vs[i]?=some v/\FV K O H v d
 | _,_,0,_,.cons a _,e=>by simp at e;subst e;exact ⟨_,rfl,a⟩
 | _,_,i + 1,v,.cons _ b,e=>by
  obtain ⟨d,h1,h2⟩:=b.getD (i:=i) (d:=v) (by simpa using e)
  exact ⟨d,by simpa using h1,h2⟩
theorem FVs.append:∀{vs ws:List V}{ds es:List D},FVs K O H vs ds->FVs K O H ws es->FVs K O H (vs++ws) (ds++es)
 | _,_,_,_,.nil,s=>s
 | _,_,_,_,.cons a b,s=>.cons a (b.append s)
theorem FVs.set {v:V}{d:D} (f:FV K O H v d):∀{vs:List V}{ds:List D} (i:Nat),FVs K O H vs ds->FVs K O H (vs.set i v) (ds.set i d)
 | _,_,_,.nil=>.nil
 | _,_,0,.cons _ t=>.cons f t
 | _,_,i + 1,.cons q t=>.cons q (FVs.set f i t)
theorem FVs.take:∀{vs:List V}{ds:List D} (n:Nat),FVs K O H vs ds->FVs K O H (vs.take n) (ds.take n)
 | _,_,0,_=>.nil
 | _,_,_ + 1,.nil=>.nil
 | _,_,n + 1,.cons r t=>.cons r (t.take n)
theorem FVs.drop:∀{vs:List V}{ds:List D} (n:Nat),FVs K O H vs ds->FVs K O H (vs.drop n) (ds.drop n)
 | _,_,0,r=>r
 | _,_,_ + 1,.nil=>.nil
 | _,_,n + 1,.cons _ t=>t.drop n
theorem FVs.reverse:∀{vs:List V}{ds:List D},FVs K O H vs ds->FVs K O H vs.reverse ds.reverse
 | _,_,.nil=>.nil
 | _,_,.cons r t=>by rw [List.reverse_cons,List.reverse_cons];exact t.reverse.append (.cons r .nil)
theorem FVs.ints:∀{vs:List V}{ns:List Int},FVs K O H vs (ns.map D.int)->vs=ns.map V.int
 | _,[],.nil=>rfl
 | _,n::r,h=>by
  cases h with
  | cons a b=>cases a;rw [FVs.ints b];rfl
theorem FVs.of_ints:∀ns:List Int,FVs K O H (ns.map V.int) (ns.map D.int)
 | []=>.nil
 | n::r=>.cons (.int n) (FVs.of_ints r)
theorem FVs.bls:∀{vs:List V}{bs:List Bool},FVs K O H vs (bs.map D.bl)->vs=bs.map V.bl
 | _,[],.nil=>rfl
 | _,n::r,h=>by
  cases h with
  | cons a b=>cases a;rw [FVs.bls b];rfl
end
inductive PV where
 | dat (d:D) | own (ds:List D) | ins (c:Str) (ns:List Str) (ds:List D)
def PV.isOwn:PV->Bool
 | .dat _=>false
 | _=>true
def PV.d:PV->D
 | .dat d=>d
 | .own ds=>.lst ds
 | .ins c ns ds=>.obj c ns ds
abbrev PSt:=List (Option PV)
def Wr (ρ:PSt) (σ:St) (b:Addr):Prop:=∃(i:Nat) (p:PV),ρ[i]?=some (some p)/\p.isOwn=true/\σ[i]?=some (some (.ref b))
def OO (A:Addr->Prop) (ρ:PSt) (σ:St) (b:Addr):Prop:=A b\/Wr ρ σ b
def RS (K:PySem.W.Frag) (O:Addr->Prop) (H:Hp):PV->V->Prop
 | .dat d,v=>FV K O H v d
 | .own ds,v=>∃a xs,v=.ref a/\H a=some (.lst xs)/\FVs K O H xs ds
 | .ins c ns ds,v=>∃a dx fs,v=.ref a/\H a=some (.ins (bL K c) dx fs)/\fs.map Prod.fst=ns/\FVs K O H (fs.map Prod.snd) ds
structure Rel (K:PySem.W.Frag) (A:Addr->Prop) (ρ:PSt) (σ:St) (H:Hp):Prop where
 len:ρ.length=σ.length
 get:∀(i:Nat) (p:PV),ρ[i]?=some (some p)->∃v,σ[i]?=some (some v)/\RS K (OO A ρ σ) H p v
 dj:∀(i j:Nat) (p q:PV) (v:V),ρ[i]?=some (some p)->ρ[j]?=some (some q)->p.isOwn=true->q.isOwn=true->σ[i]?=some (some v)->σ[j]?=some (some v)->i=j
 dom:∀b,A b->H b≠none
 sep:∀b,A b->¬ Wr ρ σ b
structure Fr (ρ:PSt) (σ:St) (H:Hp) (ρ':PSt) (H':Hp):Prop where
 kp:∀b o,¬ Wr ρ σ b->H b=some o->H' b=some o
 dm:∀b,H b≠none->H' b≠none
 ow:∀b,Wr ρ' σ b->Wr ρ σ b
theorem Fr.refl (ρ:PSt) (σ:St) (H:Hp):Fr ρ σ H ρ H:=⟨fun _ _ _ h=>h,fun _ h=>h,fun _ h=>h⟩
theorem Fr.trans {ρ ρ1 ρ2:PSt}{σ:St}{H H1 H2:Hp} (a:Fr ρ σ H ρ1 H1) (b:Fr ρ1 σ H1 ρ2 H2):Fr ρ σ H ρ2 H2 :=
 ⟨fun c o n h=>b.kp c o (fun z=>n (a.ow c z)) (a.kp c o n h),fun c h=>b.dm c (a.dm c h),fun c h=>a.ow c (b.ow c h)⟩
theorem Fr.keeps {ρ ρ':PSt}{σ:St}{H H':Hp}{A:Addr->Prop} (f:Fr ρ σ H ρ' H'):aU (OO A ρ σ) H (OO A ρ' σ) H':=fun b o n h =>
 ⟨fun z=>z.elim (fun z=>n (.inl z)) (fun z=>n (.inr (f.ow b z))),f.kp b o (fun z=>n (.inr z)) h⟩
theorem Fr.new {ρ:PSt}{σ:St}{H:Hp}{p:Addr}{o:HO} (h:H p=none):Fr ρ σ H ρ (upd H p o) :=
 ⟨fun b u _ e=>by rw [aA (bv e h)];exact e,fun b e=>by
  by_cases z:b=p
  .rw [z,aO];exact nofun
  .rw [aA z];exact e,fun _ h=>h⟩
theorem aU.fresh {O:Addr->Prop}{H:Hp}{p:Addr}{o:HO} (h:H p=none):aU O H (fc O p) (upd H p o):=fun b u n e =>
 ⟨fun z=>z.elim n (fun z=>by rw [z,h] at e;cases e),by rw [aA (bv e h)];exact e⟩
theorem aU.less {O O':Addr->Prop}{H:Hp} (h:∀b,O' b->O b):aU O H O' H:=fun b o n e=>⟨fun z=>n (h b z),e⟩
theorem RS.keeps {K:PySem.W.Frag}{O O':Addr->Prop}{H H':Hp}{p:PV}{v:V} (k:aU O H O' H') (w:p.isOwn=true->∀a,v=.ref a->H' a=H a) (h:RS K O H p v):RS K O' H' p v:=by
 cases p with
 | dat d=>exact FV.keeps k h
 | own ds =>
  obtain ⟨a,xs,e,g,f⟩:=h
  exact ⟨a,xs,e,by rw [w rfl a e];exact g,f.keeps k⟩
 | ins c ns ds =>
  obtain ⟨a,dx,fs,e,g,m,f⟩:=h
  exact ⟨a,dx,fs,e,by rw [w rfl a e];exact g,m,f.keeps k⟩
theorem RS.ref {K:PySem.W.Frag}{O:Addr->Prop}{H:Hp}{p:PV}{v:V} (h:RS K O H p v) (o:p.isOwn=true):∃a u,v=.ref a/\H a=some u:=by
 cases p with
 | dat d=>cases o
 | own ds=>obtain ⟨a,xs,e,g,f⟩:=h;exact ⟨a,_,e,g⟩
 | ins c ns ds=>obtain ⟨a,dx,fs,e,g,m,f⟩:=h;exact ⟨a,_,e,g⟩
theorem Rel.wr {K:PySem.W.Frag}{A:Addr->Prop}{ρ:PSt}{σ:St}{H:Hp} (R:Rel K A ρ σ H) {b:Addr} (h:Wr ρ σ b):H b≠none:=by
 obtain ⟨i,p,e,o,s⟩:=h
 obtain ⟨v,s',r⟩:=R.get i p e
 rw [s] at s';cases s'
 obtain ⟨a,u,e1,e2⟩:=r.ref o
 cases e1
 rw [e2];exact nofun
theorem Rel.oo {K:PySem.W.Frag}{A:Addr->Prop}{ρ:PSt}{σ:St}{H:Hp} (R:Rel K A ρ σ H) {b:Addr} (h:H b=none):¬ OO A ρ σ b:=fun z=>z.elim (fun z=>R.dom b z h) (fun z=>R.wr z h)
theorem Rel.grow {K:PySem.W.Frag}{A:Addr->Prop}{ρ:PSt}{σ:St}{H:Hp} (R:Rel K A ρ σ H) {p:Addr}{o:HO} (h:H p=none):Rel K A ρ σ (upd H p o):=by
 have k:aU (OO A ρ σ) H (OO A ρ σ) (upd H p o):=Fr.keeps (Fr.new h)
 refine ⟨R.len,fun i q e=>?_,R.dj,fun b z=>(Fr.new (ρ:=ρ) (σ:=σ) h).dm b (R.dom b z),R.sep⟩
 obtain ⟨v,s,r⟩:=R.get i q e
 refine ⟨v,s,r.keeps k fun ow a ea=>?_⟩
 obtain ⟨a',u,e1,e2⟩:=r.ref ow
 rw [ea] at e1;cases e1
 rw [aA (bv e2 h)]
theorem Rel.less {K:PySem.W.Frag}{A A':Addr->Prop}{ρ:PSt}{σ:St}{H:Hp} (R:Rel K A ρ σ H) (h:∀b,A' b->A b):Rel K A' ρ σ H:=by
 refine ⟨R.len,fun i q e=>?_,R.dj,fun b z=>R.dom b (h b z),fun b z=>R.sep b (h b z)⟩
 obtain ⟨v,s,r⟩:=R.get i q e
 exact ⟨v,s,r.keeps (aU.less fun b z=>z.imp (h b) id) fun _ _ _=>rfl⟩
theorem Rel.write {K:PySem.W.Frag}{A:Addr->Prop}{ρ:PSt}{σ:St}{H:Hp} (R:Rel K A ρ σ H) {i:Nat}{p q:PV}{a:Addr}{o:HO} (e:ρ[i]?=some (some p)) (ow:p.isOwn=true) (ow':q.isOwn=true) (es:σ[i]?=some (some (.ref a)))
  (new:RS K (OO A ρ σ) (upd H a o) q (.ref a)):Rel K A (ρ.set i (some q)) σ (upd H a o)/\Fr ρ σ H (ρ.set i (some q)) (upd H a o):=by
 have hi:i < ρ.length:=(List.getElem?_eq_some_iff.mp e).1
 have wa:Wr ρ σ a:=⟨i,p,e,ow,es⟩
 have weq:∀b,Wr (ρ.set i (some q)) σ b ↔ Wr ρ σ b:=fun b=>by
  constructor
  .rintro ⟨j,r,e1,o1,s1⟩
   by_cases z:i=j
   .subst z;exact ⟨i,p,e,ow,s1⟩
   .rw [List.getElem?_set_ne z] at e1;exact ⟨j,r,e1,o1,s1⟩
  .rintro ⟨j,r,e1,o1,s1⟩
   by_cases z:i=j
   .subst z;exact ⟨i,q,List.getElem?_set_self hi,ow',s1⟩
   .exact ⟨j,r,by rw [List.getElem?_set_ne z];exact e1,o1,s1⟩
 have oeq:OO A (ρ.set i (some q)) σ=OO A ρ σ:=funext fun b=>propext (or_congr Iff.rfl (weq b))
 have kp:∀b u,¬ Wr ρ σ b->H b=some u->upd H a o b=some u:=fun b u n h=>by rw [aA (fun z=>n (by rw [z];exact wa))];exact h
 have k:aU (OO A ρ σ) H (OO A ρ σ) (upd H a o):=fun b u n h=>⟨n,kp b u (fun z=>n (.inr z)) h⟩
 have dm:∀b,H b≠none->upd H a o b≠none:=fun b n=>by
  by_cases z:b=a
  .rw [z,aO];exact nofun
  .rw [aA z];exact n
 refine ⟨⟨by rw [List.length_set];exact R.len,fun j r e1=>?_,fun j l p1 q1 v e1 e2 o1 o2 s1 s2=>?_,fun b z=>dm b (R.dom b z),fun b z w=>R.sep b z ((weq b).mp w)⟩,⟨kp,dm,fun b w=>(weq b).mp w⟩⟩
 .rw [oeq]
  by_cases z:i=j
  .subst z
   rw [List.getElem?_set_self hi] at e1
   cases e1
   exact ⟨_,es,new⟩
  .rw [List.getElem?_set_ne z] at e1
   obtain ⟨v,s,rr⟩:=R.get j r e1
   refine ⟨v,s,rr.keeps k fun ow2 b eb=>?_⟩
   rw [aA]
   intro zz
   subst zz
   rw [eb] at s
   exact z (R.dj i j p r _ e e1 ow ow2 es s)
 .have ex:∀(m:Nat) (x:PV),(ρ.set i (some q))[m]?=some (some x)->x.isOwn=true->∃y:PV,ρ[m]?=some (some y)/\y.isOwn=true:=fun m x em ox=>by
   by_cases z:i=m
   .subst z;exact ⟨p,e,ow⟩
   .rw [List.getElem?_set_ne z] at em;exact ⟨x,em,ox⟩
  obtain ⟨y1,h1,h2⟩:=ex j p1 e1 o1
  obtain ⟨y2,h3,h4⟩:=ex l q1 e2 o2
  exact R.dj j l y1 y2 v h1 h3 h2 h4 s1 s2
theorem Rel.frz {K:PySem.W.Frag}{A:Addr->Prop}{ρ:PSt}{σ:St}{H:Hp} (R:Rel K A ρ σ H) {i:Nat}{p:PV} (e:ρ[i]?=some (some p)) :
  Rel K A (ρ.set i (some (.dat p.d))) σ H/\Fr ρ σ H (ρ.set i (some (.dat p.d))) H:=by
 have hi:i < ρ.length:=(List.getElem?_eq_some_iff.mp e).1
 have ex:∀(m:Nat) (x:PV),(ρ.set i (some (.dat p.d)))[m]?=some (some x)->x.isOwn=true->m≠i/\ρ[m]?=some (some x):=fun m x em ox=>by
  by_cases z:i=m
  .subst z;rw [List.getElem?_set_self hi] at em;cases em;cases ox
  .rw [List.getElem?_set_ne z] at em;exact ⟨fun q=>z q.symm,em⟩
 have ow:∀b,Wr (ρ.set i (some (.dat p.d))) σ b->Wr ρ σ b:=fun b ⟨j,r,e1,o1,s1⟩=>⟨j,r,(ex j r e1 o1).2,o1,s1⟩
 have k:aU (OO A ρ σ) H (OO A (ρ.set i (some (.dat p.d))) σ) H:=aU.less fun b z=>z.imp id (ow b)
 refine ⟨⟨by rw [List.length_set];exact R.len,fun j r e1=>?_,fun j l p1 q1 v e1 e2 o1 o2 s1 s2=>R.dj j l p1 q1 v (ex j p1 e1 o1).2 (ex l q1 e2 o2).2 o1 o2 s1 s2,R.dom,fun b z w=>R.sep b z (ow b w)⟩,⟨fun _ _ _ h=>h,fun _ h=>h,ow⟩⟩
 by_cases z:i=j
 .subst z
  rw [List.getElem?_set_self hi] at e1
  cases e1
  obtain ⟨v,s,r⟩:=R.get i p e
  refine ⟨v,s,?_⟩
  have na:∀a,v=.ref a->p.isOwn=true->¬ OO A (ρ.set i (some (.dat p.d))) σ a:=fun a ea oo z=>by
   subst ea
   rcases z with z | ⟨j,r,e1,o1,s1⟩
   .exact R.sep a z ⟨i,p,e,oo,s⟩
   .obtain ⟨n1,n2⟩:=ex j r e1 o1
    exact n1 (R.dj j i r p _ n2 e o1 oo s1 s)
  cases p with
  | dat d=>exact FV.keeps k r
  | own ds =>
   obtain ⟨a,xs,rfl,g,f⟩:=r
   exact .lst (na a rfl rfl) g (f.keeps k)
  | ins c ns ds =>
   obtain ⟨a,dx,fs,rfl,g,m,f⟩:=r
   exact .obj (na a rfl rfl) g m (f.keeps k)
 .rw [List.getElem?_set_ne z] at e1
  obtain ⟨v,s,r⟩:=R.get j _ e1
  exact ⟨v,s,r.keeps k fun _ _ _=>rfl⟩
abbrev PKt:=PV->PSt->Prop
abbrev PTE:=PSt->PKt->Prop
abbrev PTT:=PSt->(Bool->PSt->Prop)->Prop
inductive AV where
 | v (d:D) | sl (i:Nat)
abbrev PA1:=PSt->(AV->PSt->Prop)->Prop
abbrev PTA:=PSt->(List AV->PSt->Prop)->Prop
def Out (K:PySem.W.Frag) (A:Addr->Prop) (ρ:PSt) (σ:St) (H0 H:Hp):PV->V->Prop
 | .dat d,v=>Rel K A ρ σ H/\FV K (OO A ρ σ) H v d
 | .own ds,v=>∃a xs,v=.ref a/\¬ A a/\H0 a=none/\H a=some (.lst xs)/\Rel K (fc A a) ρ σ H/\FVs K (OO (fc A a) ρ σ) H xs ds
 | .ins c ns ds,v=>∃a dx fs,v=.ref a/\¬ A a/\H0 a=none/\H a=some (.ins (bL K c) dx fs)/\fs.map Prod.fst=ns/\Rel K (fc A a) ρ σ H/\FVs K (OO (fc A a) ρ σ) H (fs.map Prod.snd) ds
def LE (K:PySem.W.Frag) (te:TE) (pe:PTE):Prop:=∀(A:Addr->Prop) (ρ:PSt) (σ:St) (H:Hp) (Q:PKt) (Q':VK),Rel K A ρ σ H->pe ρ Q ->
 (∀v H' p ρ',Q p ρ'->Fr ρ σ H ρ' H'->Out K A ρ' σ H H' p v->Q' v H')->te σ H Q'
def LT (K:PySem.W.Frag) (tt:TT) (pt:PTT):Prop:=∀(A:Addr->Prop) (ρ:PSt) (σ:St) (H:Hp) (Q:Bool->PSt->Prop) (Q':Bool->Hp->Prop),Rel K A ρ σ H->pt ρ Q ->
 (∀b H' ρ',Q b ρ'->Fr ρ σ H ρ' H'->Rel K A ρ' σ H'->Q' b H')->tt σ H Q'
def AOk (K:PySem.W.Frag) (O:Addr->Prop) (σ:St) (H:Hp):AV->V->Prop
 | .v d,v=>FV K O H v d
 | .sl i,v=>σ[i]?=some (some v)
def LA1 (K:PySem.W.Frag) (te:TE) (pa:PA1):Prop:=∀(A:Addr->Prop) (ρ:PSt) (σ:St) (H:Hp) (Q:AV->PSt->Prop) (Q':VK),Rel K A ρ σ H->pa ρ Q ->
 (∀v H' av ρ',Q av ρ'->Fr ρ σ H ρ' H'->Rel K A ρ' σ H'->AOk K (OO A ρ' σ) σ H' av v->Q' v H')->te σ H Q'
inductive zi (K:PySem.W.Frag) (O:Addr->Prop) (σ:St) (H:Hp):List AV->List V->Prop
 | nil:zi K O σ H [] []
 | cons {a:AV}{v:V}{as:List AV}{vs:List V}:AOk K O σ H a v->zi K O σ H as vs->zi K O σ H (a::as) (v::vs)
def LAs (K:PySem.W.Frag) (ta:TA) (pa:PTA):Prop:=∀(A:Addr->Prop) (ρ:PSt) (σ:St) (H:Hp) (Q:List AV->PSt->Prop) (Q':List V->Hp->Prop),Rel K A ρ σ H->pa ρ Q ->
 (∀vs H' as ρ',Q as ρ'->Fr ρ σ H ρ' H'->Rel K A ρ' σ H'->zi K (OO A ρ' σ) σ H' as vs->Q' vs H')->ta σ H Q'
section
variable {K:PySem.W.Frag}{A O O':Addr->Prop}{ρ ρ':PSt}{σ:St}{H H' H0:Hp}
theorem AOk.keeps {a:AV}{v:V} (k:aU O H O' H') (h:AOk K O σ H a v):AOk K O' σ H' a v:=by
 cases a with
 | v d=>exact FV.keeps k h
 | sl i=>exact h
theorem Out.frz {p:PV}{v:V} (h:Out K A ρ σ H0 H p v):Rel K A ρ σ H/\FV K (OO A ρ σ) H v p.d:=by
 cases p with
 | dat d=>exact h
 | own ds =>
  obtain ⟨a,xs,rfl,na,_,e,R,f⟩:=h
  refine ⟨R.less fun b z=>.inl z,.lst (fun z=>?_) e (f.keeps (aU.less fun b z=>z.imp .inl id))⟩
  exact z.elim na (fun z=>R.sep a (.inr rfl) z)
 | ins c ns ds =>
  obtain ⟨a,dx,fs,rfl,na,_,e,m,R,f⟩:=h
  refine ⟨R.less fun b z=>.inl z,.obj (fun z=>?_) e m (f.keeps (aU.less fun b z=>z.imp .inl id))⟩
  exact z.elim na (fun z=>R.sep a (.inr rfl) z)
theorem Out.h0 {p:PV}{v:V}{H1:Hp} (h:Out K A ρ σ H0 H p v) (dm:∀b,H1 b≠none->H0 b≠none):Out K A ρ σ H1 H p v:=by
 have k:∀a,H0 a=none->H1 a=none:=fun a e=>by
  cases z:H1 a with
  | none=>rfl
  | some o=>exact absurd e (dm a (by rw [z];exact nofun))
 cases p with
 | dat d=>exact h
 | own ds=>obtain ⟨a,xs,e1,na,e2,r⟩:=h;exact ⟨a,xs,e1,na,k a e2,r⟩
 | ins c ns ds=>obtain ⟨a,dx,fs,e1,na,e2,r⟩:=h;exact ⟨a,dx,fs,e1,na,k a e2,r⟩
def Gr (H H':Hp):Prop:=∀b o,H b=some o->H' b=some o
theorem Gr.fr (g:Gr H H'):Fr ρ σ H ρ H':=⟨fun b o _ h=>g b o h,fun b h=>by
 cases e:H b with
 | none=>exact absurd e h
 | some o=>rw [g b o e];exact nofun,fun _ h=>h⟩
theorem Gr.new {p:Addr}{o:HO} (h:H p=none):Gr H (upd H p o):=fun b u e=>by rw [aA (bv e h)];exact e
theorem Gr.refl (H:Hp):Gr H H:=fun _ _ h=>h
theorem Rel.gr (R:Rel K A ρ σ H) (g:Gr H H'):Rel K A ρ σ H':=by
 refine ⟨R.len,fun i q e=>?_,R.dj,fun b z=>(g.fr (ρ:=ρ) (σ:=σ)).dm b (R.dom b z),R.sep⟩
 obtain ⟨v,s,r⟩:=R.get i q e
 refine ⟨v,s,r.keeps (g.fr (ρ:=ρ) (σ:=σ)).keeps fun ow a ea=>?_⟩
 obtain ⟨a',u,e1,e2⟩:=r.ref ow
 rw [ea] at e1;cases e1
 rw [e2];exact g _ _ e2
theorem Rel.grA (R:Rel K A ρ σ H) (g:Gr H H') {p:Addr} (h:H p=none) (h':H' p≠none):Rel K (fc A p) ρ σ H':=by
 have k:aU (OO A ρ σ) H (OO (fc A p) ρ σ) H':=fun b u n e=>by
  refine ⟨fun z=>?_,g _ _ e⟩
  rcases z with (z | z) | z
  .exact n (.inl z)
  .rw [z,h] at e;cases e
  .exact n (.inr z)
 refine ⟨R.len,fun i q e=>?_,R.dj,fun b z=>?_,fun b z w=>?_⟩
 .obtain ⟨v,s,r⟩:=R.get i q e
  refine ⟨v,s,r.keeps k fun ow a ea=>?_⟩
  obtain ⟨a',u,e1,e2⟩:=r.ref ow
  rw [ea] at e1;cases e1
  rw [e2];exact g _ _ e2
 .rcases z with z | z
  .exact (g.fr (ρ:=ρ) (σ:=σ)).dm b (R.dom b z)
  .rw [z];exact h'
 .rcases z with z | z
  .exact R.sep b z w
  .exact R.wr w (by rw [z];exact h)
def px (K:PySem.W.Frag) (O:Addr->Prop) (H0 H:Hp):PV->V->Prop
 | .dat d,v=>FV K O H v d
 | .own ds,v=>∃a xs,v=.ref a/\H0 a=none/\H a=some (.lst xs)/\FVs K (fc O a) H xs ds
 | .ins c ns ds,v=>∃a dx fs,v=.ref a/\H0 a=none/\H a=some (.ins (bL K c) dx fs)/\fs.map Prod.fst=ns/\FVs K (fc O a) H (fs.map Prod.snd) ds
theorem px.out {p:PV}{v:V} (R:Rel K A ρ σ H) (g:Gr H H') (h:px K (OO A ρ σ) H H' p v):Out K A ρ σ H H' p v:=by
 cases p with
 | dat d=>exact ⟨R.gr g,h⟩
 | own ds =>
  obtain ⟨a,xs,rfl,e0,e,f⟩:=h
  refine ⟨a,xs,rfl,fun z=>R.dom a z e0,e0,e,R.grA g e0 (by rw [e];exact nofun),f.keeps (aU.less fun b z=>?_)⟩
  rcases z with (z | z) | z
  .exact .inl (.inl z)
  .exact .inr z
  .exact .inl (.inr z)
 | ins c ns ds =>
  obtain ⟨a,dx,fs,rfl,e0,e,m,f⟩:=h
  refine ⟨a,dx,fs,rfl,fun z=>R.dom a z e0,e0,e,m,R.grA g e0 (by rw [e];exact nofun),f.keeps (aU.less fun b z=>?_)⟩
  rcases z with (z | z) | z
  .exact .inl (.inl z)
  .exact .inr z
  .exact .inl (.inr z)
def FVc (K:PySem.W.Frag) (O:Addr->Prop) (H:Hp) (v:V) (d:D):Prop:=FV K O H v d\/(∃a xs ds,v=.ref a/\d=.lst ds/\H a=some (.lst xs)/\FVs K O H xs ds) \/
 ∃a dx c fs ns ds,v=.ref a/\d=.obj c ns ds/\H a=some (.ins (bL K c) dx fs)/\fs.map Prod.fst=ns/\FVs K O H (fs.map Prod.snd) ds
def cont (ρ:PSt):AV->Option D
 | .v d=>some d
 | .sl i=>match ρ[i]? with | some (some p)=>some p.d | _=>none
theorem Rel.cont {av:AV}{v:V}{d:D} (R:Rel K A ρ σ H) (h:AOk K (OO A ρ σ) σ H av v) (e:L2.cont ρ av=some d):FVc K (OO A ρ σ) H v d:=by
 cases av with
 | v d'=>cases e;exact .inl h
 | sl i =>
  have h:σ[i]?=some (some v):=h
  simp only [L2.cont] at e
  split at e
  .rename_i p ep
   cases e
   obtain ⟨v',s,r⟩:=R.get i p ep
   rw [h] at s;cases s
   cases p with
   | dat d=>exact .inl r
   | own ds=>obtain ⟨a,xs,e1,e2,f⟩:=r;exact .inr (.inl ⟨a,xs,ds,e1,rfl,e2,f⟩)
   | ins c ns ds=>obtain ⟨a,dx,fs,e1,e2,m,f⟩:=r;exact .inr (.inr ⟨a,dx,c,fs,ns,ds,e1,rfl,e2,m,f⟩)
  .cases e
theorem FVc.lst {v:V}{ds:List D} (h:FVc K O H v (.lst ds)):∃a xs,v=.ref a/\H a=some (.lst xs)/\FVs K O H xs ds:=by
 rcases h with h | ⟨a,xs,ds',e1,e2,e3,f⟩ | ⟨a,dx,c,fs,ns,ds',e1,e2,_⟩
 .cases h with
  | lst n s f=>exact ⟨_,_,rfl,s,f⟩
 .cases e2;exact ⟨a,xs,e1,e3,f⟩
 .cases e2
theorem FVc.fv {v:V}{d:D} (h:FVc K O H v d) (n:∀ds,d≠.lst ds) (n':∀c ns ds,d≠.obj c ns ds):FV K O H v d:=by
 rcases h with h | ⟨a,xs,ds',e1,e2,e3,f⟩ | ⟨a,dx,c,fs,ns,ds',e1,e2,_⟩
 .exact h
 .exact absurd e2 (n _)
 .exact absurd e2 (n' _ _ _)
theorem FVc.tup {v:V}{ds:List D} (h:FVc K O H v (.tup ds)):∃a xs,v=.ref a/\¬ O a/\H a=some (.tup xs)/\FVs K O H xs ds:=by
 cases h.fv nofun nofun with
 | tup n s f=>exact ⟨_,_,rfl,n,s,f⟩
theorem FVc.scr {v:V}{ns:List Int} (h:FVc K O H v (.scr ns)):∃a,v=.ref a/\SqL K H a (ns.map V.int):=by
 cases h.fv nofun nofun with
 | scr s=>exact ⟨_,rfl,s.sq⟩
theorem FVc.int {v:V}{i:Int} (h:FVc K O H v (.int i)):v=.int i:=by cases h.fv nofun nofun;rfl
theorem FVc.bl {v:V}{i:Bool} (h:FVc K O H v (.bl i)):v=.bl i:=by cases h.fv nofun nofun;rfl
theorem FVc.str {v:V}{i:List Nat} (h:FVc K O H v (.str i)):v=.str (S i)/\i.length<=1000000:=by
 cases h.fv nofun nofun with
 | str _ z=>exact ⟨rfl,z⟩
theorem FVc.non {v:V} (h:FVc K O H v .non):v=.non:=by cases h.fv nofun nofun;rfl
end
def pC (d:D):PTE:=fun ρ Q=>Q (.dat d) ρ
def aP (i:Nat):PTE:=fun ρ Q=>match ρ[i]? with
 | some (some (.dat d))=>Q (.dat d) ρ
 | some (some (.own ds))=>Q (.dat (.lst ds)) (ρ.set i (some (.dat (.lst ds))))
 | some (some (.ins c ns ds))=>Q (.dat (.obj c ns ds)) (ρ.set i (some (.dat (.obj c ns ds))))
 | _=>False
def pSl (i:Nat):PA1:=fun ρ Q=>match ρ[i]? with
 | some (some (.dat d))=>Q (.v d) ρ
 | some (some (.own _))=>Q (.sl i) ρ
 | some (some (.ins _ _ _))=>Q (.sl i) ρ
 | _=>False
def pFz (pe:PTE):PA1:=fun ρ Q=>pe ρ fun p ρ1=>Q (.v p.d) ρ1
def am:PTA:=fun ρ Q=>Q [] ρ
def ae (pa:PA1) (pr:PTA):PTA:=fun ρ Q=>pa ρ fun a ρ1=>pr ρ1 fun as ρ2=>Q (a::as) ρ2
section
variable {K:PySem.W.Frag}{ta tb tc:TE}{pa pb pc:PA1}{pe pe':PTE}{tr:TA}{pr:PTA}
theorem Co {v:V}{d:D} (h:∀O H,FV K O H v d):LE K (tC v) (pC d):=fun A ρ σ H Q Q' R q k=>k v H (.dat d) ρ q (Fr.refl _ _ _) ⟨R,h _ _⟩
theorem le_int {i:Int}:LE K (tC (.int i)) (pC (.int i)):=Co fun _ _=>.int i
theorem l5 {i:Bool}:LE K (tC (.bl i)) (pC (.bl i)):=Co fun _ _=>.bl i
theorem jP:LE K (tC .non) (pC .non):=Co fun _ _=>.non
theorem le_str {l:List Nat} (h:l.length<=1000000:=by decide):LE K (tC (.str (S l))) (pC (.str l)):=Co fun _ _=>.str l h
theorem ai {i:Nat}:LE K (a9 i) (aP i):=by
 intro A ρ σ H Q Q' R q k
 unfold aP at q
 split at q
 .rename_i d e
  obtain ⟨v,s,r⟩:=R.get i _ e
  exact ⟨v,s,k v H (.dat d) ρ q (Fr.refl _ _ _) ⟨R,r⟩⟩
 .rename_i ds e
  obtain ⟨R',f⟩:=R.frz e
  obtain ⟨v,s,r⟩:=R'.get i _ (List.getElem?_set_self (List.getElem?_eq_some_iff.mp e).1)
  exact ⟨v,s,k v H (.dat (.lst ds)) _ q f ⟨R',r⟩⟩
 .rename_i c ns ds e
  obtain ⟨R',f⟩:=R.frz e
  obtain ⟨v,s,r⟩:=R'.get i _ (List.getElem?_set_self (List.getElem?_eq_some_iff.mp e).1)
  exact ⟨v,s,k v H (.dat (.obj c ns ds)) _ q f ⟨R',r⟩⟩
 .exact q.elim
theorem ak {i:Nat}:LA1 K (a9 i) (pSl i):=by
 intro A ρ σ H Q Q' R q k
 unfold pSl at q
 split at q
 .rename_i d e
  obtain ⟨v,s,r⟩:=R.get i _ e
  exact ⟨v,s,k v H _ ρ q (Fr.refl _ _ _) R r⟩
 .rename_i e
  obtain ⟨v,s,r⟩:=R.get i _ e
  exact ⟨v,s,k v H _ ρ q (Fr.refl _ _ _) R s⟩
 .rename_i e
  obtain ⟨v,s,r⟩:=R.get i _ e
  exact ⟨v,s,k v H _ ρ q (Fr.refl _ _ _) R s⟩
 .exact q.elim
theorem ac (h:LE K ta pe):LA1 K ta (pFz pe):=fun A ρ σ H Q Q' R q k=>h A ρ σ H _ Q' R q fun v H' p ρ' q f o=>k v H' _ ρ' q f o.frz.1 o.frz.2
theorem af:LAs K e9 am:=fun A ρ σ H Q Q' R q k=>k [] H [] ρ q (Fr.refl _ _ _) R .nil
theorem aa (h:LA1 K ta pa) (hr:LAs K tr pr):LAs K (bx ta tr) (ae pa pr):=fun A ρ σ H Q Q' R q k =>
 h A ρ σ H _ _ R q fun v H1 a ρ1 q1 f1 R1 o1=>hr A ρ1 σ H1 _ _ R1 q1 fun vs H2 as ρ2 q2 f2 R2 o2=>k _ H2 _ ρ2 q2 (f1.trans f2) R2 (.cons (o1.keeps f2.keeps) o2)
def LO (K:PySem.W.Frag) (r:R2) (f:D->D->(PV->Prop)->Prop):Prop:=∀(O:Addr->Prop) (H:Hp) (x y:V) (a b:D) (Q:PV->Prop) (Q':VK),(∀b,O b->H b≠none)->FVc K O H x a->FVc K O H y b->f a b Q ->
 (∀v H' p,Q p->Gr H H'->px K O H H' p v->Q' v H')->r x y H Q'
def op2 (f:D->D->(PV->Prop)->Prop) (ρ:PSt) (x y:AV) (Q:PKt):Prop:=match cont ρ x,cont ρ y with
 | some a,some b=>f a b fun p=>Q p ρ
 | _,_=>False
def pOp (f:D->D->(PV->Prop)->Prop) (pa pb:PA1):PTE:=fun ρ Q=>pa ρ fun x ρ1=>pb ρ1 fun y ρ2=>op2 f ρ2 x y Q
theorem Rel.dom2 {A:Addr->Prop}{ρ:PSt}{σ:St}{H:Hp} (R:Rel K A ρ σ H):∀b,OO A ρ σ b->H b≠none:=fun b z=>z.elim (R.dom b) R.wr
theorem al {r:R2}{f:D->D->(PV->Prop)->Prop} (o:LO K r f) (ha:LA1 K ta pa) (hb:LA1 K tb pb):LE K (tOp r ta tb) (pOp f pa pb):=fun A ρ σ H Q Q' R q k =>
 ha A ρ σ H _ _ R q fun v H1 a ρ1 q1 f1 R1 o1=>hb A ρ1 σ H1 _ _ R1 q1 fun w H2 b ρ2 q2 f2 R2 o2=>by
  unfold op2 at q2
  split at q2
  .rename_i da db e1 e2
   exact o _ H2 v w da db _ _ R2.dom2 (R2.cont (o1.keeps f2.keeps) e1) (R2.cont o2 e2) q2 fun z H3 p q3 g ov=>k z H3 p ρ2 q3 ((f1.trans f2).trans g.fr) ((ov.out R2 g).h0 fun b z=>f2.dm b (f1.dm b z))
  .exact q2.elim
def LU (K:PySem.W.Frag) (r:V->Hp->VK->Prop) (f:D->(PV->Prop)->Prop):Prop:=∀(O:Addr->Prop) (H:Hp) (x:V) (a:D) (Q:PV->Prop) (Q':VK),(∀b,O b->H b≠none)->FVc K O H x a->f a Q ->
 (∀v H' p,Q p->Gr H H'->px K O H H' p v->Q' v H')->r x H Q'
def op1 (f:D->(PV->Prop)->Prop) (ρ:PSt) (x:AV) (Q:PKt):Prop:=match cont ρ x with
 | some a=>f a fun p=>Q p ρ
 | _=>False
def pUn (f:D->(PV->Prop)->Prop) (pa:PA1):PTE:=fun ρ Q=>pa ρ fun x ρ1=>op1 f ρ1 x Q
theorem Br {r:V->Hp->VK->Prop}{f:D->(PV->Prop)->Prop} (o:LU K r f) (ha:LA1 K ta pa):LE K (tUn r ta) (pUn f pa):=fun A ρ σ H Q Q' R q k =>
 ha A ρ σ H _ _ R q fun v H1 a ρ1 q1 f1 R1 o1=>by
  unfold op1 at q1
  split at q1
  .rename_i da e1
   exact o _ H1 v da _ _ R1.dom2 (R1.cont o1 e1) q1 fun z H3 p q3 g ov=>k z H3 p ρ1 q3 (f1.trans g.fr) ((ov.out R1 g).h0 fun b z=>f1.dm b z)
  .exact q1.elim
inductive Am (K:PySem.W.Frag) (O:Addr->Prop) (H:Hp):List V->List D->Prop
 | nil:Am K O H [] []
 | cons {x:V}{d:D}{xs:List V}{ds:List D}:FVc K O H x d->Am K O H xs ds->Am K O H (x::xs) (d::ds)
def conts (ρ:PSt):List AV->Option (List D)
 | []=>some []
 | a::r=>match cont ρ a,conts ρ r with
  | some d,some ds=>some (d::ds)
  | _,_=>none
theorem Rel.conts {A:Addr->Prop}{ρ:PSt}{σ:St}{H:Hp} (R:Rel K A ρ σ H):∀{as:List AV}{vs:List V}{ds:List D},zi K (OO A ρ σ) σ H as vs->L2.conts ρ as=some ds->Am K (OO A ρ σ) H vs ds
 | _,_,_,.nil,e=>by cases e;exact .nil
 | _,_,_,.cons a b,e=>by
  unfold L2.conts at e
  split at e
  .rename_i e1 e2
   cases e
   exact .cons (R.cont a e1) (R.conts b e2)
  .cases e
def LC (K:PySem.W.Frag) (r:List V->Hp->VK->Prop) (f:List D->(PV->Prop)->Prop):Prop:=∀(O:Addr->Prop) (H:Hp) (xs:List V) (as:List D) (Q:PV->Prop) (Q':VK),(∀b,O b->H b≠none)->Am K O H xs as->f as Q ->
 (∀v H' p,Q p->Gr H H'->px K O H H' p v->Q' v H')->r xs H Q'
def opN (f:List D->(PV->Prop)->Prop) (ρ:PSt) (as:List AV) (Q:PKt):Prop:=match conts ρ as with
 | some ds=>f ds fun p=>Q p ρ
 | _=>False
def pCB (f:List D->(PV->Prop)->Prop) (pr:PTA):PTE:=fun ρ Q=>pr ρ fun as ρ1=>opN f ρ1 as Q
theorem a4 {r:List V->Hp->VK->Prop}{f:List D->(PV->Prop)->Prop} (o:LC K r f) (ha:LAs K tr pr):LE K (tCB r tr) (pCB f pr):=fun A ρ σ H Q Q' R q k =>
 ha A ρ σ H _ _ R q fun vs H1 as ρ1 q1 f1 R1 o1=>by
  unfold opN at q1
  split at q1
  .rename_i ds e1
   exact o _ H1 vs ds _ _ R1.dom2 (R1.conts o1 e1) q1 fun z H3 p q3 g ov=>k z H3 p ρ1 q3 (f1.trans g.fr) ((ov.out R1 g).h0 fun b z=>f1.dm b z)
  .exact q1.elim
def avD:List AV->Option (List D)
 | []=>some []
 | .v d::r=>match avD r with | some ds=>some (d::ds) | none=>none
 | .sl _::_=>none
theorem zi.avD {O:Addr->Prop}{σ:St}{H:Hp}:∀{as:List AV}{vs:List V}{ds:List D},zi K O σ H as vs->L2.avD as=some ds->FVs K O H vs ds
 | _,_,_,.nil,e=>by cases e;exact .nil
 | .v d::r,_,_,.cons a b,e=>by
  simp only [L2.avD] at e
  split at e
  .rename_i e1;cases e;exact .cons a (b.avD e1)
  .cases e
 | .sl i::r,_,_,.cons a b,e=>by cases e
def eE (pr:PTA):PTE:=fun ρ Q=>pr ρ fun as ρ1=>match avD as with
 | some ds=>ds.length<=1000000/\Q (.own ds) ρ1
 | _=>False
def Cq (pr:PTA):PTE:=fun ρ Q=>pr ρ fun as ρ1=>match avD as with
 | some ds=>ds.length<=1000000/\Q (.dat (.tup ds)) ρ1
 | _=>False
theorem bc (ha:LAs K tr pr):LE K (DG tr) (eE pr):=fun A ρ σ H Q Q' R q k =>
 ha A ρ σ H _ _ R q fun vs H1 as ρ1 q1 f1 R1 o1=>by
  split at q1
  .rename_i ds e1
   have fs:=o1.avD e1
   refine ⟨sz _ (by rw [fs.length];exact q1.1),fun p hp=>k _ _ (.own ds) ρ1 q1.2 (f1.trans (Fr.new hp)) ?_⟩
   have g:Gr H1 (upd H1 p (.lst vs)):=Gr.new hp
   exact (px.out (p:=.own ds) R1 g ⟨p,vs,rfl,hp,aO,fs.keeps (aU.fresh hp)⟩).h0 fun b z=>f1.dm b z
  .exact q1.elim
theorem vc (ha:LAs K tr pr):LE K (Cm tr) (Cq pr):=fun A ρ σ H Q Q' R q k =>
 ha A ρ σ H _ _ R q fun vs H1 as ρ1 q1 f1 R1 o1=>by
  split at q1
  .rename_i ds e1
   have fs:=o1.avD e1
   refine ⟨sz _ (by rw [fs.length];exact q1.1),fun p hp=>k _ _ (.dat (.tup ds)) ρ1 q1.2 (f1.trans (Fr.new hp)) ⟨R1.grow hp,?_⟩⟩
   exact .tup (R1.oo hp) aO (fs.keeps (Fr.new hp).keeps)
  .exact q1.elim
def pB (pe:PTE):PTT:=fun ρ Q=>pe ρ fun p ρ1=>match p with
 | .dat (.bl b)=>Q b ρ1
 | _=>False
theorem ud (h:LE K ta pe):LT K (tB ta) (pB pe):=fun A ρ σ H Q Q' R q k=>h A ρ σ H _ _ R q fun v H1 p ρ1 q1 f1 o1=>by
 split at q1
 .rename_i b
  obtain ⟨R1,f⟩:=o1
  cases f
  exact ⟨b,rfl,k b H1 ρ1 q1 f1 R1⟩
 .exact q1.elim
theorem gk (h:LE K ta pe):LT K (kh ta) (pB pe):=ud h
def zj (a b:PTT):PTT:=fun ρ Q=>a ρ fun c ρ1=>iq c (b ρ1 Q) (Q false ρ1)
def pOr (a b:PTT):PTT:=fun ρ Q=>a ρ fun c ρ1=>iq c (Q true ρ1) (b ρ1 Q)
def xk (a:PTT):PTT:=fun ρ Q=>a ρ fun c ρ1=>Q (!c) ρ1
variable {tta ttb:TT}{pta ptb:PTT}
theorem mV (ha:LT K tta pta) (hb:LT K ttb ptb):LT K (CB tta ttb) (zj pta ptb):=fun A ρ σ H Q Q' R q k=>ha A ρ σ H _ _ R q fun c H1 ρ1 q1 f1 R1=>by
 cases c with
 | true=>exact hb A ρ1 σ H1 _ _ R1 q1 fun b H2 ρ2 q2 f2 R2=>k b H2 ρ2 q2 (f1.trans f2) R2
 | false=>exact k false H1 ρ1 q1 f1 R1
theorem xl (ha:LT K tta pta) (hb:LT K ttb ptb):LT K (tOr tta ttb) (pOr pta ptb):=fun A ρ σ H Q Q' R q k=>ha A ρ σ H _ _ R q fun c H1 ρ1 q1 f1 R1=>by
 cases c with
 | false=>exact hb A ρ1 σ H1 _ _ R1 q1 fun b H2 ρ2 q2 f2 R2=>k b H2 ρ2 q2 (f1.trans f2) R2
 | true=>exact k true H1 ρ1 q1 f1 R1
theorem jQ (ha:LT K tta pta):LT K (Dy tta) (xk pta):=fun A ρ σ H Q Q' R q k=>ha A ρ σ H _ _ R q fun c H1 ρ1 q1 f1 R1=>k _ H1 ρ1 q1 f1 R1
def nF (a b:PTE):PTE:=fun ρ Q=>a ρ fun p ρ1=>match p with
 | .dat (.bl c)=>iq c (b ρ1 Q) (Q (.dat (.bl false)) ρ1)
 | _=>False
def xm (a:PTE):PTE:=fun ρ Q=>a ρ fun p ρ1=>match p with
 | .dat (.bl c)=>Q (.dat (.bl (!c))) ρ1
 | _=>False
theorem jR (ha:LE K ta pe) (hb:LE K tb pe'):LE K (AC ta tb) (nF pe pe'):=fun A ρ σ H Q Q' R q k=>ha A ρ σ H _ _ R q fun v H1 p ρ1 q1 f1 o1=>by
 split at q1
 .rename_i c
  obtain ⟨R1,f⟩:=o1
  cases f
  refine ⟨c,rfl,?_⟩
  cases c with
  | true=>exact hb A ρ1 σ H1 _ _ R1 q1 fun b H2 p2 ρ2 q2 f2 o2=>k b H2 p2 ρ2 q2 (f1.trans f2) (o2.h0 fun b z=>f1.dm b z)
  | false=>exact k _ H1 _ ρ1 q1 f1 ⟨R1,.bl false⟩
 .exact q1.elim
theorem vd (ha:LE K ta pe):LE K (AD ta) (xm pe):=fun A ρ σ H Q Q' R q k=>ha A ρ σ H _ _ R q fun v H1 p ρ1 q1 f1 o1=>by
 split at q1
 .rename_i c
  obtain ⟨R1,f⟩:=o1
  cases f
  exact ⟨c,rfl,k _ H1 _ ρ1 q1 f1 ⟨R1,.bl (!c)⟩⟩
 .exact q1.elim
end
abbrev F2:=D->D->(PV->Prop)->Prop
def fI0 (g:Int->Int->D):F2
 | .int i,.int j,Q=>Q (.dat (g i j))
 | _,_,_=>False
def fI (C:Int->Int->Prop) (g:Int->Int->D):F2
 | .int i,.int j,Q=>C i j/\Q (.dat (g i j))
 | _,_,_=>False
section
variable {K:PySem.W.Frag}{X:Cx}
theorem zk {g:Int->Int->V}{g':Int->Int->D} (h:∀i j O H,FV K O H (g i j) (g' i j)):LO K (rI0 g) (fI0 g'):=by
 intro O H x y a b Q Q' dom fx fy q k
 unfold fI0 at q
 split at q
 .rename_i i j;exact ⟨i,j,fx.int,fy.int,k _ H _ q (Gr.refl _) (h i j _ _)⟩
 .exact q.elim
theorem Cr {C:Int->Int->Prop}{g:Int->Int->V}{g':Int->Int->D} (h:∀i j O H,FV K O H (g i j) (g' i j)):LO K (rI C g) (fI C g'):=by
 intro O H x y a b Q Q' dom fx fy q k
 unfold fI at q
 split at q
 .rename_i i j;exact ⟨i,j,fx.int,fy.int,q.1,k _ H _ q.2 (Gr.refl _) (h i j _ _)⟩
 .exact q.elim
theorem e5 {O:Addr->Prop}{H:Hp}{xs:List V}{ds:List D}{p:Addr} (hp:H p=none) (f:FVs K O H xs ds):px K O H (upd H p (.lst xs)) (.own ds) (.ref p) :=
 ⟨p,xs,rfl,hp,aO,f.keeps (aU.fresh hp)⟩
theorem kW {O:Addr->Prop}{H:Hp}{xs:List V}{ds:List D}{p:Addr} (dom:∀b,O b->H b≠none) (hp:H p=none) (f:FVs K O H xs ds):px K O H (upd H p (.tup xs)) (.dat (.tup ds)) (.ref p) :=
 .tup (fun z=>dom p z hp) aO (f.keeps fun b o n e=>⟨n,by rw [aA (bv e hp)];exact e⟩)
def C5:R2:=fun x y H Q=>∃i j,x=.str (S i)/\y=.str (S j)/\i.length + j.length<=sizeLine/\Q (.str (S (i++j))) H
def zl (K:PySem.W.Frag):R2:=fun x y H Q=>rI0 (fun i j=>.int (i + j)) x y H Q\/C5 x y H Q\/Bk K x y H Q\/AU K x y H Q
theorem C6 (K:PySem.W.Frag) (e:X.K=K):OpR X (binaryOp .Add) (zl K):=by
 subst e
 exact OpR.or AJ (OpR.or y9 (OpR.or zc yT))
def C7:F2
 | .int i,.int j,Q=>Q (.dat (.int (i + j)))
 | .str a,.str b,Q=>a.length + b.length<=1000000/\Q (.dat (.str (a++b)))
 | .lst a,.lst b,Q=>a.length + b.length<=1000000/\Q (.own (a++b))
 | .scr a,.lst b,Q=>a.length + b.length<=1000000/\Q (.own (a.map .int++b))
 | .tup a,.tup b,Q=>a≠[]/\a.length + b.length<=1000000/\Q (.dat (.tup (a++b)))
 | _,_,_=>False
theorem yb:LO K (zl K) C7:=by
 intro O H x y a b Q Q' dom fx fy q k
 unfold C7 at q
 split at q
 .rename_i i j;exact .inl ⟨i,j,fx.int,fy.int,k _ H _ q (Gr.refl _) (.int _)⟩
 .rename_i i j;exact .inr (.inl ⟨i,j,fx.str.1,fy.str.1,sz _ q.1,k _ H _ q.2 (Gr.refl _) (.str _ (by rw [List.length_append];exact q.1))⟩)
 .rename_i i j
  obtain ⟨a,xs,rfl,e1,f1⟩:=fx.lst
  obtain ⟨b,ys,rfl,e2,f2⟩:=fy.lst
  exact .inr (.inr (.inl ⟨a,b,xs,ys,rfl,rfl,SqL.of e1,SqL.of e2,sz _ (by rw [f1.length,f2.length];exact q.1),fun p hp=>k _ _ _ q.2 (Gr.new hp) (e5 hp (f1.append f2))⟩))
 .rename_i i j
  obtain ⟨a,rfl,e1⟩:=fx.scr
  obtain ⟨b,ys,rfl,e2,f2⟩:=fy.lst
  exact .inr (.inr (.inl ⟨a,b,_,ys,rfl,rfl,e1,SqL.of e2,sz _ (by rw [List.length_map,f2.length];exact q.1),fun p hp=>k _ _ _ q.2 (Gr.new hp) (e5 hp ((FVs.of_ints i).append f2))⟩))
 .rename_i i j
  obtain ⟨a,xs,rfl,n1,e1,f1⟩:=fx.tup
  obtain ⟨b,ys,rfl,n2,e2,f2⟩:=fy.tup
  have l1:=f1.length
  have l2:=f2.length
  refine .inr (.inr (.inr ⟨a,b,xs,ys,rfl,rfl,SqT.of e1,SqT.of e2,fun z=>q.1 ?_,sz _ (by rw [l1,l2];exact q.2.1),fun z=>?_,fun _ p hp=>k _ _ _ q.2.2 (Gr.new hp) (kW dom hp (f1.append f2))⟩))
  .exact List.length_eq_zero_iff.mp (by rw [<- l1,z];rfl)
  .have:j=[]:=List.length_eq_zero_iff.mp (by rw [<- l2,z];rfl)
   subst this
   exact k _ H _ q.2.2 (Gr.refl _) (by rw [List.append_nil];exact .tup n1 e1 f1)
 .exact q.elim
theorem iN:LO K (rI0 fun i j=>.int (i - j)) (fI0 fun i j=>.int (i - j)):=zk fun _ _ _ _=>.int _
theorem cB:LO K (rI (fun _ j=>0 < j) fun i j=>.int (i % j)) (fI (fun _ j=>0 < j) fun i j=>.int (i % j)):=Cr fun _ _ _ _=>.int _
theorem dR:LO K (rI CG fun i j=>.int (i / j)) (fI (fun _ j=>0 < j/\j < 1073741824) fun i j=>.int (i / j)):=Cr fun _ _ _ _=>.int _
theorem kX:LO K (rI CH fun i j=>.int (i ^ j.toNat)) (fI (fun i j=>0<=j/\j<=1000000/\i.natAbs < 2 ^ 64) fun i j=>.int (i ^ j.toNat)):=Cr fun _ _ _ _=>.int _
def C8:R2:=fun x y H Q=>∃l n,x=.str (S l)/\y=.int n/\-1000000<=n/\n<=1000000/\n.toNat * l.length<=sizeLine/\Q (.str (S (uc l n))) H
def zm:R2:=fun x y H Q=>rI Cj (fun i j=>.int (i * j)) x y H Q\/C8 x y H Q\/DN x y H Q
theorem nG:OpR X (binaryOp .Mult) zm:=OpR.or AL (OpR.or tm A1)
def ve:F2
 | .int i,.int j,Q=>((-(2 ^ 64) < i/\i < 2 ^ 64)\/(-(2 ^ 64) < j/\j < 2 ^ 64))/\Q (.dat (.int (i * j)))
 | .str a,.int n,Q=>(-1000000<=n/\n<=1000000/\n.toNat * a.length<=1000000)/\Q (.dat (.str (uc a n)))
 | .lst a,.int n,Q=>(-1000000<=n/\n<=1000000/\a.length * n.toNat<=1000000)/\Q (.own (uc a n))
 | _,_,_=>False
theorem FVs.rep {O:Addr->Prop}{H:Hp}{xs:List V}{ds:List D} (f:FVs K O H xs ds):∀n,FVs K O H (List.replicate n xs).flatten (List.replicate n ds).flatten
 | 0=>.nil
 | n + 1=>by rw [List.replicate_succ,List.replicate_succ,List.flatten_cons,List.flatten_cons];exact f.append (f.rep n)
theorem iO:LO K zm ve:=by
 intro O H x y a b Q Q' dom fx fy q k
 unfold ve at q
 split at q
 .rename_i i j;exact .inl ⟨i,j,fx.int,fy.int,q.1,k _ H _ q.2 (Gr.refl _) (.int _)⟩
 .rename_i i j;exact .inr (.inl ⟨i,j,fx.str.1,fy.int,q.1.1,q.1.2.1,sz _ q.1.2.2,k _ H _ q.2 (Gr.refl _) (.str _ (by rw [qw];exact q.1.2.2))⟩)
 .rename_i i j
  obtain ⟨a,xs,rfl,e1,f1⟩:=fx.lst
  exact .inr (.inr ⟨a,j,xs,rfl,fy.int,e1,by omega,by omega,sz _ (by rw [f1.length];exact q.1.2.2),fun p hp=>k _ _ _ q.2 (Gr.new hp) (e5 hp (f1.rep _))⟩)
 .exact q.elim
def C9:R2:=fun x y H Q=>rI0 (fun i j=>.bl (decide (i < j))) x y H Q\/∃i j,x=.str i/\y=.str j/\Q (.bl (decide (i.cps.toList < j.cps.toList))) H
def Cs:R2:=fun x y H Q=>rI0 (fun i j=>.bl (decide (i<=j))) x y H Q\/∃i j,x=.str i/\y=.str j/\Q (.bl (!decide (j.cps.toList < i.cps.toList))) H
theorem An:OpR X (compareOp .Lt) C9:=OpR.or CK uv
theorem Ct:OpR X (compareOp .LtE) Cs:=OpR.or CL uO
def fLt:F2
 | .int i,.int j,Q=>Q (.dat (.bl (decide (i < j))))
 | .str i,.str j,Q=>Q (.dat (.bl (decide (i < j))))
 | _,_,_=>False
def fLe:F2
 | .int i,.int j,Q=>Q (.dat (.bl (decide (i<=j))))
 | .str i,.str j,Q=>Q (.dat (.bl (!decide (j < i))))
 | _,_,_=>False
theorem tG:LO K C9 fLt:=by
 intro O H x y a b Q Q' dom fx fy q k
 unfold fLt at q
 split at q
 .rename_i i j;exact .inl ⟨i,j,fx.int,fy.int,k _ H _ q (Gr.refl _) (.bl _)⟩
 .rename_i i j;exact .inr ⟨_,_,fx.str.1,fy.str.1,k _ H _ q (Gr.refl _) (.bl _)⟩
 .exact q.elim
theorem xn:LO K Cs fLe:=by
 intro O H x y a b Q Q' dom fx fy q k
 unfold fLe at q
 split at q
 .rename_i i j;exact .inl ⟨i,j,fx.int,fy.int,k _ H _ q (Gr.refl _) (.bl _)⟩
 .rename_i i j;exact .inr ⟨_,_,fx.str.1,fy.str.1,k _ H _ q (Gr.refl _) (.bl _)⟩
 .exact q.elim
theorem pz:LO K (rI0 fun i j=>.bl (decide (j < i))) (fI0 fun i j=>.bl (decide (j < i))):=zk fun _ _ _ _=>.bl _
theorem xo:LO K (rI0 fun i j=>.bl (decide (j<=i))) (fI0 fun i j=>.bl (decide (j<=i))):=zk fun _ _ _ _=>.bl _
mutual
def D.py:D->PyData
 | .non=>.none | .bl b=>.bool b | .int i=>.int i | .str l=>.str (S l) | .ty _=>.none
 | .lst ds=>.list (D.pys ds) | .tup ds=>.tuple (D.pys ds) | .scr ns=>.list (ns.map .int) | .dic _ _=>.none | .obj _ _ _=>.none | .exc _ _ _=>.none
def D.pys:List D->List PyData
 | []=>[]
 | d::r=>d.py::D.pys r
end
mutual
def D.plain:D->Bool
 | .non=>true | .bl _=>true | .int _=>true | .str _=>true | .ty _=>false
 | .lst ds=>D.plains ds | .tup ds=>D.plains ds | .scr _=>true | .dic _ _=>false | .obj _ _ _=>false | .exc _ _ _=>false
def D.plains:List D->Bool
 | []=>true
 | d::r=>d.plain && D.plains r
end
mutual
theorem FV.dv {O:Addr->Prop}{H:Hp}:∀{v:V}{d:D},FV K O H v d->d.plain=true->DV K H v d.py
 | _,_,.non,_=>.non
 | _,_,.bl b,_=>.bl b
 | _,_,.int i,_=>.int i
 | _,_,.str l h,_=>.str (S l)
 | _,_,.ty n,p=>nomatch p
 | _,_,.scr s,_=>.lst s.sq (DVs.ints _)
 | _,_,.lst n e f,p=>.lst (SqL.of e) (FVs.dvs f p)
 | _,_,.tup n e f,p=>.tup (SqT.of e) (FVs.dvs f p)
 | _,_,.dic _ _ _ _,p=>nomatch p
 | _,_,.obj _ _ _ _,p=>nomatch p
 | _,_,.exc0 _ _,p=>nomatch p
 | _,_,.exc1 _ _ _ _ _ _,p=>nomatch p
theorem FVs.dvs {O:Addr->Prop}{H:Hp}:∀{vs:List V}{ds:List D},FVs K O H vs ds->D.plains ds=true->DVs K H vs (D.pys ds)
 | _,_,.nil,_=>.nil
 | _,_,.cons a b,p=>by
  have p:(_ && _)=true:=p
  rw [Bool.and_eq_true] at p
  exact .cons (FV.dv a p.1) (FVs.dvs b p.2)
end
theorem FVc.dv {O:Addr->Prop}{H:Hp}{v:V}{d:D} (h:FVc K O H v d) (p:d.plain=true):DV K H v d.py:=by
 rcases h with h | ⟨a,xs,ds',rfl,rfl,e3,f⟩ | ⟨a,dx,c,fs,ns,ds',e1,rfl,_⟩
 .exact h.dv p
 .exact .lst (SqL.of e3) (f.dvs p)
 .cases p
def Bs (K:PySem.W.Frag) (neg:Bool):R2:=fun x y H Q=>rI0 (fun i j=>.bl (if neg then !decide (i=j) else decide (i=j))) x y H Q\/(∃i j,x=.str (S i)/\y=.str (S j)/\Q (.bl (if neg then !decide (i=j) else decide (i=j))) H)\/CT K neg x y H Q
theorem Ee (K:PySem.W.Frag) (e:X.K=K) (hu:X.A.units + 64 < cLine):OpR X (compareOp .Eq) (Bs K false):=by
 subst e
 exact OpR.or Bd (OpR.or Bb (A8 hu))
theorem Ef (K:PySem.W.Frag) (e:X.K=K) (hu:X.A.units + 64 < cLine):OpR X (compareOp .NotEq) (Bs K true):=by
 subst e
 exact OpR.or Be (OpR.or Bc (A9 hu))
def ue (a b:D):Prop:=a.plain=true/\b.plain=true/\SeqAt.shaped a.py=true/\SeqAt.shaped b.py=true
def deq (a b:D):Bool:=PyData.eqv a.py b.py
def fEq:F2
 | .int i,.int j,Q=>Q (.dat (.bl (decide (i=j))))
 | .str i,.str j,Q=>Q (.dat (.bl (decide (i=j))))
 | a,b,Q=>ue a b/\Q (.dat (.bl (deq a b)))
def fNe:F2
 | .int i,.int j,Q=>Q (.dat (.bl (!decide (i=j))))
 | .str i,.str j,Q=>Q (.dat (.bl (!decide (i=j))))
 | a,b,Q=>ue a b/\Q (.dat (.bl (!deq a b)))
theorem Db:LO K (Bs K false) fEq:=by
 intro O H x y a b Q Q' dom fx fy q k
 unfold fEq at q
 split at q
 .rename_i i j;exact .inl ⟨i,j,fx.int,fy.int,k _ H _ q (Gr.refl _) (.bl _)⟩
 .rename_i i j;exact .inr (.inl ⟨i,j,fx.str.1,fy.str.1,k _ H _ q (Gr.refl _) (.bl _)⟩)
 .exact .inr (.inr ⟨_,_,fx.dv q.1.1,fy.dv q.1.2.1,q.1.2.2.1,q.1.2.2.2,k _ H _ q.2 (Gr.refl _) (.bl _)⟩)
theorem Dc:LO K (Bs K true) fNe:=by
 intro O H x y a b Q Q' dom fx fy q k
 unfold fNe at q
 split at q
 .rename_i i j;exact .inl ⟨i,j,fx.int,fy.int,k _ H _ q (Gr.refl _) (.bl _)⟩
 .rename_i i j;exact .inr (.inl ⟨i,j,fx.str.1,fy.str.1,k _ H _ q (Gr.refl _) (.bl _)⟩)
 .exact .inr (.inr ⟨_,_,fx.dv q.1.1,fy.dv q.1.2.1,q.1.2.2.1,q.1.2.2.2,k _ H _ q.2 (Gr.refl _) (.bl _)⟩)
def Dd (neg:Bool):R2:=fun x y H Q=>(∃b c,x=.bl b/\y=.bl c/\Q (.bl (if neg then !decide (b=c) else decide (b=c))) H)\/(y=.non/\Q (.bl (if neg then !decide (x=.non) else decide (x=.non))) H)
theorem DQ:OpR X (compareOp .Is) (Dd false):=OpR.or Bn AO
theorem zn:OpR X (compareOp .IsNot) (Dd true):=OpR.or u6 yJ
def D.isNon:D->Bool
 | .non=>true
 | _=>false
theorem FVc.isNon {O:Addr->Prop}{H:Hp}{v:V}{d:D} (h:FVc K O H v d):decide (v=.non)=d.isNon:=by
 rcases h with h | ⟨a,xs,ds',rfl,rfl,e3,f⟩ | ⟨a,dx,c,fs,ns,ds',rfl,rfl,_⟩
 .cases h <;> rfl
 .rfl
 .rfl
def fIs (neg:Bool):F2
 | .bl b,.bl c,Q=>Q (.dat (.bl (if neg then !decide (b=c) else decide (b=c))))
 | a,.non,Q=>Q (.dat (.bl (if neg then !a.isNon else a.isNon)))
 | _,_,_=>False
theorem zo {neg:Bool}:LO K (Dd neg) (fIs neg):=by
 intro O H x y a b Q Q' dom fx fy q k
 unfold fIs at q
 split at q
 .rename_i b c;exact .inl ⟨b,c,fx.bl,fy.bl,k _ H _ q (Gr.refl _) (.bl _)⟩
 .exact .inr ⟨fy.non,by rw [fx.isNon];exact k _ H _ q (Gr.refl _) (.bl _)⟩
 .exact q.elim
def D.fl:D->Bool
 | .non=>true | .bl _=>true | .int _=>true | .str _=>true
 | _=>false
def eqF:D->D->Bool
 | .non,.non=>true
 | .bl a,.bl b=>a == b
 | .bl a,.int b=>(if a then 1 else 0) == b
 | .int a,.bl b=>a == (if b then 1 else 0)
 | .int a,.int b=>a == b
 | .str a,.str b=>a == b
 | _,_=>false
def inD (x:D) (xs:List D):Bool:=xs.any fun y=>eqF y x
theorem FV.fl {O:Addr->Prop}{H:Hp}{v:V}{d:D} (h:FV K O H v d) (f:d.fl=true):l0 v=true:=by cases h <;> first | rfl | cases f
theorem Bt (a b:List Nat):(S a == S b)=(a == b):=by
 by_cases h:a=b
 .subst h;rw [beq_self_eq_true,beq_self_eq_true]
 .rw [beq_eq_false_iff_ne.mpr h,beq_eq_false_iff_ne.mpr (Eb h)]
theorem FV.eqF {O:Addr->Prop}{H:Hp}{v w:V}{d e:D} (h:FV K O H v d) (f:d.fl=true) (h':FV K O H w e) (f':e.fl=true):eqV v w=L2.eqF d e:=by
 cases h <;> first | (cases f;done) | (cases h' <;> first | (cases f';done) | rfl | exact Bt _ _)
theorem FVs.inD {O:Addr->Prop}{H:Hp}{v:V}{d:D} (h:FV K O H v d) (f:d.fl=true):∀{xs:List V}{ds:List D},FVs K O H xs ds->ds.all D.fl=true->xs.all l0=true/\inV v xs=L2.inD d ds
 | _,_,.nil,_=>⟨rfl,rfl⟩
 | _,_,.cons a b,g=>by
  rw [List.all_cons,Bool.and_eq_true] at g
  obtain ⟨i1,i2⟩:=b.inD h f g.2
  refine ⟨by rw [List.all_cons,a.fl g.1,i1];rfl,?_⟩
  unfold inV L2.inD at i2 ⊢
  rw [List.any_cons,List.any_cons,i2,a.eqF g.1 h f]
def fIn (neg:Bool):F2
 | a,.lst ds,Q=>(a.fl=true/\ds.all D.fl=true)/\Q (.dat (.bl (if neg then !inD a ds else inD a ds)))
 | a,.tup ds,Q=>(a.fl=true/\ds.all D.fl=true)/\Q (.dat (.bl (if neg then !inD a ds else inD a ds)))
 | _,_,_=>False
theorem FVc.fl {O:Addr->Prop}{H:Hp}{v:V}{d:D} (h:FVc K O H v d) (f:d.fl=true):FV K O H v d:=h.fv (fun _ z=>by rw [z] at f;cases f) (fun _ _ _ z=>by rw [z] at f;cases f)
theorem Eg (K:PySem.W.Frag) (e:X.K=K):OpR X (compareOp .In) (rIn K false):=by subst e;exact uH
theorem zp (K:PySem.W.Frag) (e:X.K=K):OpR X (compareOp .NotIn) (rIn K true):=by subst e;exact oP
theorem Bu {neg:Bool}:LO K (rIn K neg) (fIn neg):=by
 intro O H x y a b Q Q' dom fx fy q k
 unfold fIn at q
 split at q
 .obtain ⟨p,xs,rfl,e1,f1⟩:=fy.lst
  obtain ⟨g1,g2⟩:=f1.inD (fx.fl q.1.1) q.1.1 q.1.2
  exact ⟨p,xs,rfl,.inl (SqL.of e1),(fx.fl q.1.1).fl q.1.1,g1,by rw [g2];exact k _ H _ q.2 (Gr.refl _) (.bl _)⟩
 .obtain ⟨p,xs,rfl,n1,e1,f1⟩:=fy.tup
  obtain ⟨g1,g2⟩:=f1.inD (fx.fl q.1.1) q.1.1 q.1.2
  exact ⟨p,xs,rfl,.inr (SqT.of e1),(fx.fl q.1.1).fl q.1.1,g1,by rw [g2];exact k _ H _ q.2 (Gr.refl _) (.bl _)⟩
 .exact q.elim
def mW (K:PySem.W.Frag):R2:=fun x y H Q=>DI K x y H Q\/DJ K x y H Q\/Ba x y H Q
theorem cV (K:PySem.W.Frag) (e:X.K=K):IxR X (mW K):=by
 subst e
 exact IxR.or yW (IxR.or AW y8)
def fIx:F2
 | .lst ds,.int i,Q=>∃d,atI ds i=some d/\Q (.dat d)
 | .tup ds,.int i,Q=>∃d,atI ds i=some d/\Q (.dat d)
 | .scr ns,.int i,Q=>∃d,atI ns i=some d/\Q (.dat (.int d))
 | .str l,.int i,Q=>∃c,atI l i=some c/\Q (.dat (.str [c]))
 | _,_,_=>False
theorem FVs.atI {O:Addr->Prop}{H:Hp}{vs:List V}{ds:List D}{i:Int}{d:D} (f:FVs K O H vs ds) (h:L2.atI ds i=some d):∃v,L2.atI vs i=some v/\FV K O H v d:=by
 unfold L2.atI at h ⊢
 rw [f.length]
 cases e:ixN ds.length i with
 | none=>rw [e] at h;cases h
 | some j=>rw [e] at h;exact f.getD h
theorem bg:LO K (mW K) fIx:=by
 intro O H x y a b Q Q' dom fx fy q k
 unfold fIx at q
 split at q
 .obtain ⟨d,hd,q⟩:=q
  obtain ⟨p,xs,rfl,e1,f1⟩:=fx.lst
  obtain ⟨v,hv,fv⟩:=f1.atI hd
  exact .inl ⟨p,xs,_,v,rfl,fy.int,SqL.of e1,hv,k _ H _ q (Gr.refl _) fv⟩
 .obtain ⟨d,hd,q⟩:=q
  obtain ⟨p,xs,rfl,n1,e1,f1⟩:=fx.tup
  obtain ⟨v,hv,fv⟩:=f1.atI hd
  exact .inr (.inl ⟨p,xs,_,v,rfl,fy.int,SqT.of e1,hv,k _ H _ q (Gr.refl _) fv⟩)
 .obtain ⟨d,hd,q⟩:=q
  obtain ⟨p,rfl,e1⟩:=fx.scr
  exact .inl ⟨p,_,_,_,rfl,fy.int,e1,za hd,k _ H _ q (Gr.refl _) (.int d)⟩
 .obtain ⟨c,hc,q⟩:=q
  exact .inr (.inr ⟨_,_,c,fx.str.1,fy.int,sz _ fx.str.2,hc,k _ H _ q (Gr.refl _) (.str _ (by show 1<=1000000;decide))⟩)
 .exact q.elim
end
end L2
namespace L2
open PySem PySem.Spec PyProof.Rows _root_.HT
section
variable {prog:Program}{w:World}{A:Around}{E:Value->Shared->Prop}{s:Shared}
theorem jj {t sl:Addr}{items:Array Value}{vl vu:Value}{lo hi:Option Int}{Q:Value->Shared->Prop} (ht:IsTup s.heap t items) (hs:s.heap.IsSliceOf sl vl vu .none) (pl:IsPart vl lo) (pu:IsPart vu hi)
  (hw:sIx items.size 0 lo=0/\sIx items.size items.size hi=items.size)
  (h:Q (.ref t) s):wpAny (model prog w) A (getItem (.ref t) (.ref sl)) Q E s:=by
 obtain ⟨os,hos,hcs,hds⟩:=id hs
 have hTs:s.TypeIs (.ref sl) "slice":=⟨os,hos,hcs⟩
 unfold getItem
 try with_reducible refine wpAny_holding ?_
 first | refine wpAny_bind (wpAny_pure ?_) | skip
 refine wpAny_bind (wpAny_sequenceKey ht.typeIs (by decide) ?_)
 refine wpAny_bind (wpAny_callSpecial?_slot (name:=Str.ofString "__getitem__") ht.typeIs PyProof.Rows.slot_tuple_getitem
  (wpAny_call_entry PyProof.Rows.slot_tuple_getitem ht.typeIs entry_tuple_getitem ?_ (args_tuple_getitem _ _)))
 show wpAny _ _ (Builtin.Tuple.tupleItemsOf (.ref t) >>= _) _ _ s
 refine wpAny_bind (tupleItemsOf_ ht ?_)
 refine wpAny_bind (wpAny_typeOf hTs ?_)
 rw [if_pos (by decide)]
 refine wpAny_bind (fS hs pl pu ?_)
 have hyes:(((sIx items.size 0 lo:Nat):Int) == 0 && (1:Int) == 1 && (sIx items.size items.size hi - sIx items.size 0 lo) == items.size)=true:=by
  rw [hw.1,hw.2,Nat.sub_zero];simp
 show wpAny _ _ (if (((sIx items.size 0 lo:Nat):Int) == 0 && (1:Int) == 1 && (sIx items.size items.size hi - sIx items.size 0 lo) == items.size)=true then _ else _) _ _ s
 rw [if_pos hyes]
 refine wpAny_bind (m:=Builtin.Tuple.tupleIsExact _) (wpAny_bind (wpAny_typeOf ht.typeIs (wpAny_pure ?_)))
 rw [if_pos (by decide)]
 first
  | exact wpAny_bind (m:=rule _) (wpAny_pure (wpAny_pure ⟨_,rfl,wpAny_pure h⟩))
  | exact wpAny_pure ⟨_,rfl,wpAny_pure h⟩
  | exact wpAny_bind (wpAny_rule (wpAny_pure ⟨_,rfl,wpAny_pure h⟩))
def Bv (K:PySem.W.Frag):V->Option Int->Option Int->Hp->VK->Prop:=fun x lo hi H Q=>∃a xs,x=.ref a/\SqT K H a xs/\(sIx xs.length 0 lo=0/\sIx xs.length xs.length hi=xs.length)/\Q (.ref a) H
theorem zq {X:Cx}:SlR X (Bv X.K):=by
 intro pins s σ H x v vl vu lo hi sl Q I rx hs pl pu h
 obtain ⟨a,xs,rfl,hx,hw,q⟩:=h
 cases rx
 obtain ⟨its,r,ht,hz⟩:=I.tuple hx
 have hlen:its.toArray.size=xs.length:=by rw [List.size_toArray];exact r.length.symm
 refine ⟨"tuple",_,PyProof.Rows.slot_tuple_getitem.lookup,ht.typeIs,?_⟩
 exact jj ht hs pl pu (by rw [hlen];exact hw) ⟨.ref a,H,I,rfl,q⟩
end
end L2
namespace L2
open PySem PySem.Spec PyProof.Rows
section
variable {K:PySem.W.Frag}{X:Cx}{ta tb tc to:TE}{pa pb pc:PA1}{pe:PTE}{tr:TA}{pr:PTA}
def vf (f f':F2) (pa pb pc:PA1):PTE:=fun ρ Q=>pa ρ fun x ρ1=>pb ρ1 fun y ρ2=>op2 f ρ2 x y fun p ρ3=>match p with
 | .dat (.bl k)=>iq k (pc ρ3 fun z ρ4=>op2 f' ρ4 y z Q) (Q (.dat (.bl false)) ρ3)
 | _=>False
theorem rY {r r':R2}{f f':F2} (o:LO K r f) (o':LO K r' f') (ha:LA1 K ta pa) (hb:LA1 K tb pb) (hc:LA1 K tc pc):LE K (rK r r' ta tb tc) (vf f f' pa pb pc):=fun A ρ σ H Q Q' R q k =>
 ha A ρ σ H _ _ R q fun v H1 a ρ1 q1 f1 R1 o1=>hb A ρ1 σ H1 _ _ R1 q1 fun w H2 b ρ2 q2 f2 R2 o2=>by
  unfold op2 at q2
  split at q2
  .rename_i da db e1 e2
   refine o _ H2 v w da db _ _ R2.dom2 (R2.cont (o1.keeps f2.keeps) e1) (R2.cont o2 e2) q2 fun z H3 p q3 g ov=>?_
   dsimp only at q3
   split at q3
   .rename_i c
    cases ov
    refine ⟨c,rfl,?_⟩
    have R3:=R2.gr g
    cases c with
    | true =>
     refine hc A ρ2 σ H3 _ _ R3 q3 fun u H4 cc ρ4 q4 f4 R4 o4=>?_
     try unfold op2 at q4
     split at q4
     .rename_i dc dd e3 e4
      have o2':AOk K (OO A ρ4 σ) σ H4 b w:=(o2.keeps (g.fr (ρ:=ρ2) (σ:=σ)).keeps).keeps f4.keeps
      exact o' _ H4 w u _ _ _ _ R4.dom2 (R4.cont o2' e3) (R4.cont o4 e4) q4 fun z H5 p q5 g5 ov=>k z H5 p ρ4 q5 ((((f1.trans f2).trans g.fr).trans f4).trans g5.fr) ((ov.out R4 g5).h0 fun b z=>f4.dm b ((g.fr (ρ:=ρ2) (σ:=σ)).dm b (f2.dm b (f1.dm b z))))
     .exact q4.elim
    | false=>exact k _ H3 _ ρ2 q3 ((f1.trans f2).trans g.fr) ⟨R3,.bl false⟩
   .exact q3.elim
  .exact q2.elim
abbrev PTO:=PSt->(Option Int->PSt->Prop)->Prop
def LPo (K:PySem.W.Frag) (t:TO) (p:PTO):Prop:=∀(A:Addr->Prop) (ρ:PSt) (σ:St) (H:Hp) (Q:Option Int->PSt->Prop) (Q':Option Int->Hp->Prop),Rel K A ρ σ H->p ρ Q ->
 (∀b H' ρ',Q b ρ'->Fr ρ σ H ρ' H'->Rel K A ρ' σ H'->Q' b H')->t σ H Q'
def eJ:PTO:=fun ρ Q=>Q none ρ
def df (pe:PTE):PTO:=fun ρ Q=>pe ρ fun p ρ1=>match p with
 | .dat (.int i)=>Q (some i) ρ1
 | _=>False
theorem cS:LPo K uG eJ:=fun A ρ σ H Q Q' R q k=>k none H ρ q (Fr.refl _ _ _) R
theorem bO (h:LE K ta pe):LPo K (AS ta) (df pe):=fun A ρ σ H Q Q' R q k=>h A ρ σ H _ _ R q fun v H1 p ρ1 q1 f1 o1=>by
 split at q1
 .rename_i i
  obtain ⟨R1,f⟩:=o1
  cases f
  exact ⟨i,rfl,k _ H1 ρ1 q1 f1 R1⟩
 .exact q1.elim
def De (K:PySem.W.Frag):V->Option Int->Option Int->Hp->VK->Prop:=fun x lo hi H Q=>DK K x lo hi H Q\/DO x lo hi H Q\/DH K x lo hi H Q\/Bv K x lo hi H Q
theorem qp (K:PySem.W.Frag) (e:X.K=K):SlR X (De K):=by
 subst e
 exact SlR.or yX (SlR.or A6 (SlR.or AT zq))
def fSl:D->Option Int->Option Int->(PV->Prop)->Prop
 | .lst ds,lo,hi,Q=>Q (.own (eC ds lo hi))
 | .scr ns,lo,hi,Q=>Q (.own ((eC ns lo hi).map .int))
 | .str l,lo,hi,Q=>Q (.dat (.str (eC l lo hi)))
 | .tup ds,lo,hi,Q=>Q (.dat (.tup (eC ds lo hi)))
 | _,_,_,_=>False
theorem FVs.cut {O:Addr->Prop}{H:Hp}{xs:List V}{ds:List D} (f:FVs K O H xs ds) (lo hi:Option Int):FVs K O H (eC xs lo hi) (eC ds lo hi):=by
 unfold eC
 rw [f.length]
 exact (f.drop _).take _
def dN (pa:PA1) (pl ph:PTO):PTE:=fun ρ Q=>pa ρ fun x ρ1=>pl ρ1 fun lo ρ2=>ph ρ2 fun hi ρ3=>match cont ρ3 x with
 | some d=>fSl d lo hi fun p=>Q p ρ3
 | _=>False
theorem zr {α:Type}{ds:List α}{lo hi:Option Int}{n:Nat} (h:n=ds.length) (hw:HT.sIx n 0 lo=0/\HT.sIx n n hi=n):eC ds lo hi=ds:=by
 subst h
 unfold eC
 rw [hw.1,hw.2,List.drop_zero,Nat.sub_zero,List.take_length]
theorem lsl {O:Addr->Prop}{H:Hp}{x:V}{d:D}{lo hi:Option Int}{Q:PV->Prop}{Q':VK} (dom:∀b,O b->H b≠none) (fx:FVc K O H x d) (q:fSl d lo hi Q) (k:∀v H' p,Q p->Gr H H'->px K O H H' p v->Q' v H'):De K x lo hi H Q':=by
 unfold fSl at q
 split at q
 .obtain ⟨a,xs,rfl,e1,f1⟩:=fx.lst
  exact .inl ⟨a,xs,rfl,SqL.of e1,fun p hp=>k _ _ _ q (Gr.new hp) (e5 hp (f1.cut _ _))⟩
 .obtain ⟨a,rfl,e1⟩:=fx.scr
  exact .inl ⟨a,_,rfl,e1,fun p hp=>k _ _ _ q (Gr.new hp) (e5 hp (by rw [uL,wT];exact FVs.of_ints _))⟩
 .exact .inr (.inl ⟨_,fx.str.1,sz _ fx.str.2,k _ H _ q (Gr.refl _) (.str _ (Nat.le_trans (ce _ _ _) fx.str.2))⟩)
 .obtain ⟨a,xs,rfl,n1,e1,f1⟩:=fx.tup
  by_cases hw:HT.sIx xs.length 0 lo=0/\HT.sIx xs.length xs.length hi=xs.length
  .refine .inr (.inr (.inr ⟨a,xs,rfl,SqT.of e1,hw,k _ H _ q (Gr.refl _) ?_⟩))
   rw [zr f1.length hw]
   exact .tup n1 e1 f1
  .exact .inr (.inr (.inl ⟨a,xs,rfl,SqT.of e1,hw,fun p hp=>k _ _ _ q (Gr.new hp) (kW dom hp (f1.cut _ _))⟩))
 .exact q.elim
theorem cv {tl th:TO}{pl ph:PTO} (ha:LA1 K ta pa) (hl:LPo K tl pl) (hh:LPo K th ph):LE K (tSl (De K) ta tl th) (dN pa pl ph):=fun A ρ σ H Q Q' R q k =>
 ha A ρ σ H _ _ R q fun v H1 a ρ1 q1 f1 R1 o1=>hl A ρ1 σ H1 _ _ R1 q1 fun lo H2 ρ2 q2 f2 R2=>hh A ρ2 σ H2 _ _ R2 q2 fun hi H3 ρ3 q3 f3 R3=>by
  split at q3
  .rename_i d e1
   exact lsl R3.dom2 (R3.cont (o1.keeps (f2.trans f3).keeps) e1) q3 fun z H4 p q4 g ov=>k z H4 p ρ3 q4 (((f1.trans f2).trans f3).trans g.fr) ((ov.out R3 g).h0 fun b z=>f3.dm b (f2.dm b (f1.dm b z)))
  .exact q3.elim
abbrev FN:=List D->(PV->Prop)->Prop
def nH (K:PySem.W.Frag):List V->Hp->VK->Prop:=fun xs H Q=>(∃l,xs=[.str (S l)]/\l.length<=sizeLine/\Q (.int l.length) H)\/CZ K xs H Q\/C1 K xs H Q\/∃p kvs,xs=[.ref p]/\Rd H p (.dK kvs)/\Q (.int kvs.length) H
theorem cR (K:PySem.W.Frag) (e:X.K=K):bZ X (.builtin "len") (nH K):=by
 subst e
 exact bZ.or uS (bZ.or uT (bZ.or uU u8))
def gb:FN
 | [.str l],Q=>Q (.dat (.int l.length))
 | [.lst l],Q=>Q (.dat (.int l.length))
 | [.tup l],Q=>Q (.dat (.int l.length))
 | [.scr l],Q=>Q (.dat (.int l.length))
 | [.dic ks _],Q=>Q (.dat (.int ks.length))
 | _,_=>False
theorem bD:LC K (nH K) gb:=by
 intro O H xs as Q Q' dom fs q k
 unfold gb at q
 split at q
 .cases fs with | cons a b=>cases b;rw [a.str.1];exact .inl ⟨_,rfl,sz _ a.str.2,k _ H _ q (Gr.refl _) (.int _)⟩
 .cases fs with
  | cons a b =>
   cases b
   obtain ⟨p,ys,rfl,e1,f1⟩:=a.lst
   exact .inr (.inl ⟨p,ys,rfl,SqL.of e1,by rw [f1.length];exact k _ H _ q (Gr.refl _) (.int _)⟩)
 .cases fs with
  | cons a b =>
   cases b
   obtain ⟨p,ys,rfl,n1,e1,f1⟩:=a.tup
   exact .inr (.inr (.inl ⟨p,ys,rfl,SqT.of e1,by rw [f1.length];exact k _ H _ q (Gr.refl _) (.int _)⟩))
 .cases fs with
  | cons a b =>
   cases b
   obtain ⟨p,rfl,e1⟩:=a.scr
   exact .inr (.inl ⟨p,_,rfl,e1,by rw [List.length_map];exact k _ H _ q (Gr.refl _) (.int _)⟩)
 .cases fs with
  | cons a b =>
   cases b
   cases a.fv nofun nofun with
   | dic n e m f=>subst m;exact .inr (.inr (.inr ⟨_,_,rfl,.inl e,k _ H _ q (Gr.refl _) (by rw [List.length_map];exact .int _)⟩))
 .exact q.elim
inductive Kd where
 | int | bool | str | list | tuple | dict
def Kd.nm:Kd->String
 | .int=>"int" | .bool=>"bool" | .str=>"str" | .list=>"list" | .tuple=>"tuple" | .dict=>"dict"
def isK:Kd->D->Bool
 | .int,.int _=>true
 | .int,.bl _=>true
 | .bool,.bl _=>true
 | .str,.str _=>true
 | .list,.lst _=>true
 | .tuple,.tup _=>true
 | .dict,.dic _ _=>true
 | _,_=>false
def D.sort:D->Bool
 | .obj _ _ _=>false
 | .exc _ _ _=>false
 | .scr _=>false
 | .ty _=>false
 | _=>true
theorem FVc.ty {O:Addr->Prop}{H:Hp}{v:V}{d:D} (h:FVc K O H v d) (s:d.sort=true):∃t,oG K H v t/\∀k:Kd,PySem.W.kitOne K t (.type k.nm)=some (isK k d):=by
 rcases h with h | ⟨a,xs,ds',rfl,rfl,e3,f⟩ | ⟨a,dx,c,fs,ns,ds',rfl,rfl,_⟩
 .cases h with
  | non=>exact ⟨_,.non,fun k=>by cases k <;> rfl⟩
  | bl b=>exact ⟨_,.bl b,fun k=>by cases k <;> rfl⟩
  | int i=>exact ⟨_,.int i,fun k=>by cases k <;> rfl⟩
  | str l h=>exact ⟨_,.str _,fun k=>by cases k <;> rfl⟩
  | ty n=>cases s
  | scr _=>cases s
  | lst n e f=>exact ⟨_,.lst e,fun k=>by cases k <;> rfl⟩
  | tup n e f=>exact ⟨_,.tup e,fun k=>by cases k <;> rfl⟩
  | dic n e m f=>exact ⟨_,.dK e,fun k=>by cases k <;> rfl⟩
  | obj _ _ _ _=>cases s
  | exc0 _ _=>cases s
  | exc1 _ _ _ _ _ _=>cases s
 .exact ⟨_,.lst e3,fun k=>by cases k <;> rfl⟩
 .cases s
theorem vg (K:PySem.W.Frag) (e:X.K=K):bZ X (.builtin "isinstance") (DP K):=by subst e;exact qx
def Ao (k:Kd) (pa:PA1):PTE:=fun ρ Q=>pa ρ fun x ρ1=>match cont ρ1 x with
 | some d=>iq d.sort (Q (.dat (.bl (isK k d))) ρ1) False
 | _=>False
theorem pA (k:Kd) (ha:LA1 K ta pa):LE K (tCB (DP K) (bx ta (bx (tC (.ty k.nm)) e9))) (Ao k pa):=fun A ρ σ H Q Q' R q kk =>
 ha A ρ σ H _ _ R q fun v H1 a ρ1 q1 f1 R1 o1=>by
  split at q1
  .rename_i d e1
   cases hs:d.sort with
   | false=>rw [hs] at q1;exact q1.elim
   | true =>
    rw [hs] at q1
    obtain ⟨t,ty,hk⟩:=(R1.cont o1 e1).ty hs
    exact ⟨v,k.nm,t,isK k d,rfl,ty,hk k,kk _ H1 _ ρ1 q1 f1 ⟨R1,.bl _⟩⟩
  .exact q1.elim
def DR (K:PySem.W.Frag):List V->Hp->VK->Prop:=fun xs H Q=>∃(x:V) (p:Addr) (ts:List String) (t:Value) (b:Bool),xs=[x,.ref p]/\oG K H x t/\H p=some (.tup (ts.map V.ty))/\PySem.W.kitAny K t (ts.map Value.type)=some b/\Q (.bl b) H
theorem Df (K:PySem.W.Frag) (e:X.K=K):bZ X (.builtin "isinstance") (DR K):=by subst e;exact pf
def DS (k l:Kd) (pa:PA1):PTE:=fun ρ Q=>pa ρ fun x ρ1=>match cont ρ1 x with
 | some d=>iq d.sort (Q (.dat (.bl (isK k d || isK l d))) ρ1) False
 | _=>False
theorem FVc.keeps {O O':Addr->Prop}{H H':Hp}{v:V}{d:D} (k:aU O H O' H') (g:Gr H H') (h:FVc K O H v d):FVc K O' H' v d:=by
 rcases h with h | ⟨a,xs,ds',e1,e2,e3,f⟩ | ⟨a,dx,c,fs,ns,ds',e1,e2,e3,m,f⟩
 .exact .inl (h.keeps k)
 .exact .inr (.inl ⟨a,xs,ds',e1,e2,g _ _ e3,f.keeps k⟩)
 .exact .inr (.inr ⟨a,dx,c,fs,ns,ds',e1,e2,g _ _ e3,m,f.keeps k⟩)
theorem Bw (k l:Kd) (hkl:∀t b c,PySem.W.kitOne K t (.type k.nm)=some b->PySem.W.kitOne K t (.type l.nm)=some c->PySem.W.kitAny K t [.type k.nm,.type l.nm]=some (b || c)) (ha:LA1 K ta pa):LE K (tCB (DR K) (bx ta (bx (Cm (bx (tC (.ty k.nm)) (bx (tC (.ty l.nm)) e9))) e9))) (DS k l pa):=fun A ρ σ H Q Q' R q kk =>
 ha A ρ σ H _ _ R q fun v H1 a ρ1 q1 f1 R1 o1=>by
  split at q1
  .rename_i d e1
   cases hs:d.sort with
   | false=>rw [hs] at q1;exact q1.elim
   | true =>
    rw [hs] at q1
    refine ⟨by show 2<=sizeLine;decide,fun p hp=>?_⟩
    have g:Gr H1 (upd H1 p (.tup [V.ty k.nm,V.ty l.nm])):=Gr.new hp
    obtain ⟨t,ty,hk⟩:=((R1.cont o1 e1).keeps (g.fr (ρ:=ρ1) (σ:=σ)).keeps g).ty hs
    exact ⟨v,p,[k.nm,l.nm],t,_,rfl,ty,aO,hkl _ _ _ (hk k) (hk l),kk _ _ _ ρ1 q1 (f1.trans g.fr) ⟨R1.gr g,.bl _⟩⟩
  .exact q1.elim
end
structure Bx where
 nx:PSt->Prop
 rt:PV->PSt->Prop
 bk:PSt->Prop:=fun _=>False
 ct:PSt->Prop:=fun _=>False
abbrev PTS:=Bx->PSt->Prop
structure fu (fx:List (Nat×V)) (R:Addr->Prop) (H0:Hp) (ρ:PSt) (σ:St) (H:Hp):Prop where
 kp:∀b o,¬ R b->H0 b=some o->H b=some o
 dm:∀b,H0 b≠none->H b≠none
 ow:∀b,Wr ρ σ b->R b\/H0 b=none
 fx:∀p∈fx,σ[p.1]?=some (some p.2)
section
variable {K:PySem.W.Frag}{fx:List (Nat×V)}{A R:Addr->Prop}{H0 H H':Hp}{ρ ρ':PSt}{σ:St}
theorem fu.fr (F:fu fx R H0 ρ σ H) (f:Fr ρ σ H ρ' H'):fu fx R H0 ρ' σ H' :=
 ⟨fun b o n e=>f.kp b o (fun w=>(F.ow b w).elim n (fun z=>by rw [z] at e;cases e)) (F.kp b o n e),fun b z=>f.dm b (F.dm b z),fun b w=>F.ow b (f.ow b w),F.fx⟩
theorem fu.start (hfx:∀p∈fx,σ[p.1]?=some (some p.2)):fu fx (Wr ρ σ) H ρ σ H:=⟨fun _ _ _ h=>h,fun _ h=>h,fun _ h=>.inl h,hfx⟩
theorem fu.keepsR {ρ1:PSt}{σ1:St}{H1:Hp} (F:fu fx R H1 ρ σ H) (hR:∀b,R b->OO A ρ1 σ1 b):aU (OO A ρ1 σ1) H1 (OO A ρ σ) H:=fun b o n e=>by
 refine ⟨fun z=>?_,F.kp b o (fun z=>n (hR b z)) e⟩
 rcases z with z | z
 .exact n (.inl z)
 .rcases F.ow b z with z | z
  .exact n (hR b z)
  .rw [z] at e;cases e
theorem fu.keeps {ρ1:PSt}{σ1:St}{H1:Hp} (F:fu fx (Wr ρ1 σ1) H1 ρ σ H):aU (OO A ρ1 σ1) H1 (OO A ρ σ) H:=F.keepsR fun b z=>.inr z
theorem fu.trans {fx':List (Nat×V)}{ρ1:PSt}{σ1:St}{H1:Hp} (F:fu fx R H0 ρ1 σ1 H1) (G:fu fx' (Wr ρ1 σ1) H1 ρ σ H) (hfx:∀p∈fx,σ[p.1]?=some (some p.2)):fu fx R H0 ρ σ H:=by
 refine ⟨fun b o n e=>G.kp b o (fun w=>(F.ow b w).elim n (fun z=>by rw [z] at e;cases e)) (F.kp b o n e),fun b z=>G.dm b (F.dm b z),fun b w=>?_,hfx⟩
 rcases G.ow b w with z | z
 .exact F.ow b z
 .refine .inr ?_
  cases e:H0 b with
  | none=>rfl
  | some o=>exact absurd z (F.dm b (by rw [e];exact nofun))
theorem Out.put {p:PV}{v:V}{i:Nat} (h:Out K A ρ σ H0 H p v):Rel K A (ρ.set i (some p)) (σ.set i (some v)) H/\∀b,Wr (ρ.set i (some p)) (σ.set i (some v)) b->Wr ρ σ b\/H0 b=none:=by
 have get:∀(j:Nat) (q:PV),(ρ.set i (some p))[j]?=some (some q)->(j=i/\q=p/\i < ρ.length)\/(j≠i/\ρ[j]?=some (some q)):=fun j q e=>by
  by_cases z:i=j
  .subst z
   by_cases hi:i < ρ.length
   .rw [List.getElem?_set_self hi] at e;cases e;exact .inl ⟨rfl,rfl,hi⟩
   .rw [List.getElem?_eq_none (by rw [List.length_set];omega)] at e;cases e
  .rw [List.getElem?_set_ne z] at e;exact .inr ⟨fun q=>z q.symm,e⟩
 cases p with
 | dat d =>
  obtain ⟨R1,f⟩:=h
  have ow:∀b,Wr (ρ.set i (some (.dat d))) (σ.set i (some v)) b->Wr ρ σ b:=fun b ⟨j,r,e1,o1,s1⟩=>by
   rcases get j r e1 with ⟨_,rfl,_⟩ | ⟨n,e⟩
   .cases o1
   .rw [List.getElem?_set_ne (fun z=>n z.symm)] at s1;exact ⟨j,r,e,o1,s1⟩
  have k:aU (OO A ρ σ) H (OO A (ρ.set i (some (.dat d))) (σ.set i (some v))) H:=aU.less fun b z=>z.imp id (ow b)
  refine ⟨⟨by rw [List.length_set,List.length_set];exact R1.len,fun j r e1=>?_,fun j l p1 q1 v' e1 e2 o1 o2 s1 s2=>?_,R1.dom,fun b z w=>R1.sep b z (ow b w)⟩,fun b w=>.inl (ow b w)⟩
  .rcases get j r e1 with ⟨rfl,rfl,hi⟩ | ⟨n,e⟩
   .exact ⟨v,List.getElem?_set_self (by rw [<- R1.len];exact hi),f.keeps k⟩
   .obtain ⟨u,s,r'⟩:=R1.get j r e
    exact ⟨u,by rw [List.getElem?_set_ne (fun z=>n z.symm)];exact s,r'.keeps k fun _ _ _=>rfl⟩
  .rcases get j p1 e1 with ⟨_,rfl,_⟩ | ⟨n1,e1⟩
   .cases o1
   .rcases get l q1 e2 with ⟨_,rfl,_⟩ | ⟨n2,e2⟩
    .cases o2
    .rw [List.getElem?_set_ne (fun z=>n1 z.symm)] at s1
     rw [List.getElem?_set_ne (fun z=>n2 z.symm)] at s2
     exact R1.dj j l p1 q1 v' e1 e2 o1 o2 s1 s2
 | own ds =>
  obtain ⟨a,xs,rfl,na,hn,e0,R1,f⟩:=h
  have ow:∀b,Wr (ρ.set i (some (.own ds))) (σ.set i (some (.ref a))) b->Wr ρ σ b\/b=a:=fun b ⟨j,r,e1,o1,s1⟩=>by
   rcases get j r e1 with ⟨rfl,rfl,hi⟩ | ⟨n,e⟩
   .rw [List.getElem?_set_self (by rw [<- R1.len];exact hi)] at s1;cases s1;exact .inr rfl
   .rw [List.getElem?_set_ne (fun z=>n z.symm)] at s1;exact .inl ⟨j,r,e,o1,s1⟩
  have k:aU (OO (fc A a) ρ σ) H (OO A (ρ.set i (some (.own ds))) (σ.set i (some (.ref a)))) H:=aU.less fun b z=>by
   rcases z with z | z
   .exact .inl (.inl z)
   .rcases ow b z with z | z
    .exact .inr z
    .exact .inl (.inr z)
  refine ⟨⟨by rw [List.length_set,List.length_set];exact R1.len,fun j r e1=>?_,fun j l p1 q1 v' e1 e2 o1 o2 s1 s2=>?_,fun b z=>R1.dom b (.inl z),fun b z w=>?_⟩,fun b w=>(ow b w).imp id fun z=>by rw [z];exact hn⟩
  .rcases get j r e1 with ⟨rfl,rfl,hi⟩ | ⟨n,e⟩
   .exact ⟨_,List.getElem?_set_self (by rw [<- R1.len];exact hi),a,xs,rfl,e0,f.keeps k⟩
   .obtain ⟨u,s,r'⟩:=R1.get j r e
    exact ⟨u,by rw [List.getElem?_set_ne (fun z=>n z.symm)];exact s,r'.keeps k fun _ _ _=>rfl⟩
  .rcases get j p1 e1 with ⟨rfl,rfl,hi⟩ | ⟨n1,e1'⟩
   .rw [List.getElem?_set_self (by rw [<- R1.len];exact hi)] at s1;cases s1
    rcases get l q1 e2 with ⟨rfl,rfl,_⟩ | ⟨n2,e2⟩
    .rfl
    .rw [List.getElem?_set_ne (fun z=>n2 z.symm)] at s2
     exact absurd ⟨l,q1,e2,o2,s2⟩ (R1.sep a (.inr rfl))
   .rw [List.getElem?_set_ne (fun z=>n1 z.symm)] at s1
    rcases get l q1 e2 with ⟨rfl,rfl,hi⟩ | ⟨n2,e2⟩
    .rw [List.getElem?_set_self (by rw [<- R1.len];exact hi)] at s2;cases s2
     exact absurd ⟨j,p1,e1',o1,s1⟩ (R1.sep a (.inr rfl))
    .rw [List.getElem?_set_ne (fun z=>n2 z.symm)] at s2
     exact R1.dj j l p1 q1 v' e1' e2 o1 o2 s1 s2
  .rcases ow b w with w | w
   .exact R1.sep b (.inl z) w
   .rw [w] at z;exact na z
 | ins c ns ds =>
  obtain ⟨a,dx,fs,rfl,na,hn,e0,m,R1,f⟩:=h
  have ow:∀b,Wr (ρ.set i (some (.ins c ns ds))) (σ.set i (some (.ref a))) b->Wr ρ σ b\/b=a:=fun b ⟨j,r,e1,o1,s1⟩=>by
   rcases get j r e1 with ⟨rfl,rfl,hi⟩ | ⟨n,e⟩
   .rw [List.getElem?_set_self (by rw [<- R1.len];exact hi)] at s1;cases s1;exact .inr rfl
   .rw [List.getElem?_set_ne (fun z=>n z.symm)] at s1;exact .inl ⟨j,r,e,o1,s1⟩
  have k:aU (OO (fc A a) ρ σ) H (OO A (ρ.set i (some (.ins c ns ds))) (σ.set i (some (.ref a)))) H:=aU.less fun b z=>by
   rcases z with z | z
   .exact .inl (.inl z)
   .rcases ow b z with z | z
    .exact .inr z
    .exact .inl (.inr z)
  refine ⟨⟨by rw [List.length_set,List.length_set];exact R1.len,fun j r e1=>?_,fun j l p1 q1 v' e1 e2 o1 o2 s1 s2=>?_,fun b z=>R1.dom b (.inl z),fun b z w=>?_⟩,fun b w=>(ow b w).imp id fun z=>by rw [z];exact hn⟩
  .rcases get j r e1 with ⟨rfl,rfl,hi⟩ | ⟨n,e⟩
   .exact ⟨_,List.getElem?_set_self (by rw [<- R1.len];exact hi),a,dx,fs,rfl,e0,m,f.keeps k⟩
   .obtain ⟨u,s,r'⟩:=R1.get j r e
    exact ⟨u,by rw [List.getElem?_set_ne (fun z=>n z.symm)];exact s,r'.keeps k fun _ _ _=>rfl⟩
  .rcases get j p1 e1 with ⟨rfl,rfl,hi⟩ | ⟨n1,e1'⟩
   .rw [List.getElem?_set_self (by rw [<- R1.len];exact hi)] at s1;cases s1
    rcases get l q1 e2 with ⟨rfl,rfl,_⟩ | ⟨n2,e2⟩
    .rfl
    .rw [List.getElem?_set_ne (fun z=>n2 z.symm)] at s2
     exact absurd ⟨l,q1,e2,o2,s2⟩ (R1.sep a (.inr rfl))
   .rw [List.getElem?_set_ne (fun z=>n1 z.symm)] at s1
    rcases get l q1 e2 with ⟨rfl,rfl,hi⟩ | ⟨n2,e2⟩
    .rw [List.getElem?_set_self (by rw [<- R1.len];exact hi)] at s2;cases s2
     exact absurd ⟨j,p1,e1',o1,s1⟩ (R1.sep a (.inr rfl))
    .rw [List.getElem?_set_ne (fun z=>n2 z.symm)] at s2
     exact R1.dj j l p1 q1 v' e1' e2 o1 o2 s1 s2
  .rcases ow b w with w | w
   .exact R1.sep b (.inl z) w
   .rw [w] at z;exact na z
end
abbrev PTG:=PV->PSt->(PSt->Prop)->Prop
abbrev xp:=List D->PSt->(PSt->Prop)->Prop
def LG (K:PySem.W.Frag) (fs:List Nat) (g:TG) (pg:PTG):Prop:=∀(fx:List (Nat×V)) (A R:Addr->Prop) (H0:Hp) (ρ:PSt) (σ:St) (H:Hp) (p:PV) (v:V) (Q:PSt->Prop) (Q':St->Hp->Prop),fx.map Prod.fst=fs->fu fx R H0 ρ σ H->Out K A ρ σ H0 H p v->pg p ρ Q ->
 (∀ρ' σ' H',Q ρ'->Rel K A ρ' σ' H'->fu fx R H0 ρ' σ' H'->Q' σ' H')->g v σ H Q'
def LGs (K:PySem.W.Frag) (fs:List Nat) (g:TGs) (pg:xp):Prop:=∀(fx:List (Nat×V)) (A R:Addr->Prop) (H0:Hp) (ρ:PSt) (σ:St) (H:Hp) (ds:List D) (vs:List V) (Q:PSt->Prop) (Q':St->Hp->Prop),fx.map Prod.fst=fs->fu fx R H0 ρ σ H->Rel K A ρ σ H->FVs K (OO A ρ σ) H vs ds->pg ds ρ Q ->
 (∀ρ' σ',Q ρ'->Rel K A ρ' σ' H->fu fx R H0 ρ' σ' H->(∀b,Wr ρ' σ' b->Wr ρ σ b)->Q' σ' H)->g vs σ H Q'
def LGd (K:PySem.W.Frag) (fs:List Nat) (g:TG) (pg:PTG):Prop:=∀(fx:List (Nat×V)) (A R:Addr->Prop) (H0:Hp) (ρ:PSt) (σ:St) (H:Hp) (d:D) (v:V) (Q:PSt->Prop) (Q':St->Hp->Prop),fx.map Prod.fst=fs->fu fx R H0 ρ σ H->Rel K A ρ σ H->FV K (OO A ρ σ) H v d->pg (.dat d) ρ Q ->
 (∀ρ' σ',Q ρ'->Rel K A ρ' σ' H->fu fx R H0 ρ' σ' H->(∀b,Wr ρ' σ' b->Wr ρ σ b)->Q' σ' H)->g v σ H Q'
def au (i:Nat):PTG:=fun p ρ Q=>Q (ρ.set i (some p))
def qE:xp:=fun ds ρ Q=>match ds with | []=>Q ρ | _=>False
def fV (g:PTG) (gs:xp):xp:=fun ds ρ Q=>match ds with | d::r=>g (.dat d) ρ fun ρ1=>gs r ρ1 Q | []=>False
section
variable {K:PySem.W.Frag}{fs:List Nat}
theorem fu.put {fx:List (Nat×V)}{R:Addr->Prop}{H0 H:Hp}{ρ:PSt}{σ:St}{i:Nat}{p:PV}{v:V} (hf:fx.map Prod.fst=fs) (hi:fs.contains i=false) (F:fu fx R H0 ρ σ H) (ow:∀b,Wr (ρ.set i (some p)) (σ.set i (some v)) b->Wr ρ σ b\/H0 b=none):fu fx R H0 (ρ.set i (some p)) (σ.set i (some v)) H :=
 ⟨F.kp,F.dm,fun b w=>(ow b w).elim (F.ow b) .inr,fun q hq=>by
  have:q.1≠i:=fun z=>by
   have h1:i∈fs:=by rw [<- hf,<- z];exact List.mem_map_of_mem hq
   rw [List.contains_iff_mem.mpr h1] at hi;cases hi
  rw [List.getElem?_set_ne (fun z=>this z.symm)];exact F.fx q hq⟩
theorem aC {i:Nat} (hi:fs.contains i=false):LG K fs (bY i) (au i):=fun fx A R H0 ρ σ H p v Q Q' hf F o q k=>k _ _ _ q o.put.1 (F.put hf hi o.put.2)
theorem kY:LGs K fs CD qE:=fun fx A R H0 ρ σ H ds vs Q Q' hf F r fv q k=>by
 unfold qE at q
 split at q
 .cases fv;exact ⟨rfl,k _ _ q r F fun _ h=>h⟩
 .exact q.elim
theorem aB {i:Nat} (hi:fs.contains i=false):LGd K fs (bY i) (au i):=fun fx A R H0 ρ σ H d v Q Q' hf F r fv q k=>by
 have o:Out K A ρ σ H0 H (.dat d) v:=⟨r,fv⟩
 have ow:∀b,Wr (ρ.set i (some (.dat d))) (σ.set i (some v)) b->Wr ρ σ b:=fun b ⟨j,p,e1,o1,s1⟩=>by
  by_cases z:i=j
  .subst z
   by_cases hl:i < ρ.length
   .rw [List.getElem?_set_self hl] at e1;cases e1;cases o1
   .rw [List.getElem?_eq_none (by rw [List.length_set];omega)] at e1;cases e1
  .rw [List.getElem?_set_ne z] at e1 s1;exact ⟨j,p,e1,o1,s1⟩
 exact k _ _ q o.put.1 (F.put hf hi o.put.2) ow
theorem dB {g:TG}{pg:PTG}{gs:TGs}{pgs:xp} (hg:LGd K fs g pg) (h:LGs K fs gs pgs):LGs K fs (wB g gs) (fV pg pgs):=fun fx A R H0 ρ σ H ds vs Q Q' hf F r fv q k=>by
 unfold fV at q
 split at q
 .cases fv with
  | cons a b =>
   exact ⟨_,_,rfl,hg fx A R H0 ρ σ H _ _ _ _ hf F r a q fun ρ1 σ1 q1 r1 F1 w1=>h fx A R H0 ρ1 σ1 H _ _ _ _ hf F1 r1 (b.keeps (aU.less fun b z=>z.imp id (w1 b))) q1 fun ρ2 σ2 q2 r2 F2 w2=>k ρ2 σ2 q2 r2 F2 fun b z=>w1 b (w2 b z)⟩
 .exact q.elim
end
def LS (K:PySem.W.Frag) (fs:List Nat) (ts:TS) (ps:PTS):Prop:=∀(fx:List (Nat×V)) (A R:Addr->Prop) (H0:Hp) (ρ:PSt) (σ:St) (H:Hp) (D:Bx) (D':yF),fx.map Prod.fst=fs->Rel K A ρ σ H->fu fx R H0 ρ σ H->ps D ρ ->
 (∀ρ' σ' H',D.nx ρ'->Rel K A ρ' σ' H'->fu fx R H0 ρ' σ' H'->D'.nx σ' H') ->
 (∀v p ρ' σ' H',D.rt p ρ'->Out K A ρ' σ' H0 H' p v->fu fx R H0 ρ' σ' H'->D'.rt v H') ->
 (∀ρ' σ' H',D.bk ρ'->Rel K A ρ' σ' H'->fu fx R H0 ρ' σ' H'->D'.bk σ' H') ->
 (∀ρ' σ' H',D.ct ρ'->Rel K A ρ' σ' H'->fu fx R H0 ρ' σ' H'->D'.ct σ' H')->ts D' σ H
def cF:PTS:=fun D ρ=>D.nx ρ
def aF (a b:PTS):PTS:=fun D ρ=>a { D with nx:=b D } ρ
def gv (pe:PTE):PTS:=fun D ρ=>pe ρ fun _ ρ1=>D.nx ρ1
def bH (pe:PTE):PTS:=fun D ρ=>pe ρ D.rt
def jS (t:PTT) (a b:PTS):PTS:=fun D ρ=>t ρ fun c ρ1=>iq c (a D ρ1) (b D ρ1)
def qF:PTS:=fun _ _=>False
def a6 (pe:PTE) (g:PTG):PTS:=fun D ρ=>pe ρ fun p ρ1=>g p ρ1 D.nx
def kZ (a:PTS):PTS:=fun D ρ=>∃J:PSt->Prop,a { D with nx:=J } ρ/\∀ρ',J ρ'->D.nx ρ'
section
variable {K:PySem.W.Frag}{fs:List Nat}{ta tb:TS}{pa pb:PTS}{te:TE}{pe:PTE}{tt:TT}{pt:PTT}
theorem bM:LS K fs AE cF:=fun fx A R H0 ρ σ H D D' hf r F q k1 k2 k3 k4=>k1 _ _ _ q r F
theorem rZ:LS K fs xY qF:=fun fx A R H0 ρ σ H D D' hf r F q k1 k2 k3 k4=>q
theorem ay (ha:LS K fs ta pa) (hb:LS K fs tb pb):LS K fs (AF ta tb) (aF pa pb):=fun fx A R H0 ρ σ H D D' hf r F q k1 k2 k3 k4 =>
 ha fx A R H0 ρ σ H _ _ hf r F q (fun ρ1 σ1 H1 q1 r1 F1=>hb fx A R H0 ρ1 σ1 H1 _ _ hf r1 F1 q1 k1 k2 k3 k4) k2 k3 k4
theorem e6 (h:LE K te pe):LS K fs (AG te) (gv pe):=fun fx A R H0 ρ σ H D D' hf r F q k1 k2 k3 k4=>h A ρ σ H _ _ r q fun v H1 p ρ1 q1 f1 o1=>k1 _ _ _ q1 o1.frz.1 (F.fr f1)
theorem aW (h:LE K te pe):LS K fs (Dz te) (bH pe):=fun fx A R H0 ρ σ H D D' hf r F q k1 k2 k3 k4=>h A ρ σ H _ _ r q fun v H1 p ρ1 q1 f1 o1=>k2 v p ρ1 σ H1 q1 (o1.h0 F.dm) (F.fr f1)
theorem dS (ht:LT K tt pt) (ha:LS K fs ta pa) (hb:LS K fs tb pb):LS K fs (DA tt ta tb) (jS pt pa pb):=fun fx A R H0 ρ σ H D D' hf r F q k1 k2 k3 k4=>ht A ρ σ H _ _ r q fun c H1 ρ1 q1 f1 r1=>by
 cases c with
 | true=>exact ha fx A R H0 ρ1 σ H1 D D' hf r1 (F.fr f1) q1 k1 k2 k3 k4
 | false=>exact hb fx A R H0 ρ1 σ H1 D D' hf r1 (F.fr f1) q1 k1 k2 k3 k4
theorem aJ {g:TG}{pg:PTG} (h:LE K te pe) (hg:LG K fs g pg):LS K fs (wu te g) (a6 pe pg):=fun fx A R H0 ρ σ H D D' hf r F q k1 k2 k3 k4=>h A ρ σ H _ _ r q fun v H1 p ρ1 q1 f1 o1 =>
 hg fx A R H0 ρ1 σ H1 p v _ _ hf (F.fr f1) (o1.h0 F.dm) q1 k1
theorem jk (h:LS K fs ta pa):LS K fs (Bi ta) (kZ pa):=fun fx A R H0 ρ σ H D D' hf r F q k1 k2 k3 k4=>by
 obtain ⟨J,q1,q2⟩:=q
 refine ⟨fun σ' H'=>∃ρ',J ρ'/\Rel K A ρ' σ' H'/\fu fx R H0 ρ' σ' H',?_,fun σ' H' ⟨ρ',j,r',F'⟩=>k1 ρ' σ' H' (q2 ρ' j) r' F'⟩
 exact h fx A R H0 ρ σ H _ _ hf r F q1 (fun ρ' σ' H' j r' F'=>⟨ρ',j,r',F'⟩) k2 k3 k4
end
def gm (K:PySem.W.Frag) (tl:TE):TI:=fun σ H R=>tl σ H fun x H1=>(∃k a xs,x=.ref a/\Sq k K H1 a xs/\R (Itk k K a) H1)\/∃l,x=.str (S l)/\R (Its (gu l)) H1
section
variable {X:Cx}{tg:Expr}
theorem zt {l:Expr}{tl:TE} (hl:PE X l tl):PI X tg l (gm X.K tl):=by
 intro pins s σ H R I h
 refine thn (hl pins s σ H _ I h) fun v s1 ⟨x,H1,I1,r1,q1⟩=>?_
 have fin:∀b∈[s1.heap.objs.size],qt X pins H1 b:=fun b hb=>by
  have e:b=s1.heap.objs.size:=by simpa using hb
  subst e
  exact I1.fpOk (Nat.le_refl _) (I1.hok.fresh (Nat.le_refl _))
 rcases q1 with ⟨k,a,xs,e,hq,q⟩ | ⟨l,e,q⟩
 .subst e
  cases r1
  cases k with
  | false =>
   obtain ⟨its,rv,p,hz⟩:=I1.list hq
   refine wpAny_pyIter_list p.isList ?_
   exact ⟨s1.heap.objs.size,[s1.heap.objs.size],_,_,H1,rfl,I1.kept (t':=s1.toks) fun b o e=>Heap.get?_push_of_some _ e,uo a _,⟨_,Heap.get?_push_size _ rfl,rfl,rfl⟩,fin,q⟩
  | true =>
   obtain ⟨its,rv,p,hz⟩:=I1.tuple hq
   refine wpAny_pyIter_tuple (show s1.heap.IsTuple a its.toArray from p) ?_
   exact ⟨s1.heap.objs.size,[s1.heap.objs.size],_,_,H1,rfl,I1.kept (t':=s1.toks) fun b o e=>Heap.get?_push_of_some _ e,sO a _,⟨_,Heap.get?_push_size _ rfl,rfl,rfl⟩,fin,q⟩
 .subst e
  obtain ⟨t,rfl⟩:=r1
  have hv:∀i v,i < (S l).cps.size->SignAt (S l) i v->∃x,(gu l)[i]?=some x/\dz x v:=fun i v _ ⟨c,u,hc,e⟩=>by
   subst e
   have hc':l[i]?=some c:=by simpa [S] using hc
   exact ⟨.str (S [c]),by unfold gu;rw [List.getElem?_map,hc'];rfl,u,rfl⟩
  have hsc:∀i v,SignAt (S l) i v->∀a,v≠.ref a:=fun i v ⟨c,u,hc,e⟩ a z=>by subst e;cases z
  have hn:(gu l).length=(S l).cps.size:=by rw [je];simp [S]
  have hobj:∀ty i (h:Heap),h.IsStrIter s1.heap.objs.size ty (S l) t i->∃o,h.get? s1.heap.objs.size=some o/\∀v,o.data≠.cell v:=fun ty i h ⟨o,ho,_,hd⟩=>⟨o,ho,fun v z=>by rw [hd] at z;cases z⟩
  have hfr:∀ty i (h h':Heap),h.IsStrIter s1.heap.objs.size ty (S l) t i->(∀b∈[s1.heap.objs.size],∀o,h.get? b=some o->h'.get? b=some o)->h'.IsStrIter s1.heap.objs.size ty (S l) t i:=fun ty i h h' ⟨o,ho,r⟩ k=>⟨o,k _ (by simp) o ho,r⟩
  cases ha:(S l).cps.all (· < 128)
  .refine wpAny_pyIter_wide ha ⟨s1.heap.objs.size,[s1.heap.objs.size],_,Its (gu l),H1,rfl,I1.kept (t':=s1.toks) fun b o e=>Heap.get?_push_of_some _ e,
    iJ (fun A hA=>Walks.strWide hA _ (S l) t) hn hv hsc (hobj _) (hfr _) (fun A i s Q E st q=>wpAny_pyIter_striter_wide st q),⟨_,Heap.get?_push_size _ rfl,rfl,rfl⟩,fin,q⟩
  .refine wpAny_pyIter_ascii ha ⟨s1.heap.objs.size,[s1.heap.objs.size],_,Its (gu l),H1,rfl,I1.kept (t':=s1.toks) fun b o e=>Heap.get?_push_of_some _ e,
    iJ (fun A hA=>Walks.strAscii hA _ (S l) t) hn hv hsc (hobj _) (hfr _) (fun A i s Q E st q=>wpAny_pyIter_striter_ascii st q),⟨_,Heap.get?_push_size _ rfl,rfl,rfl⟩,fin,q⟩
theorem bU (K:PySem.W.Frag) (e:X.K=K) {l:Expr}{tl:TE} (hl:PE X l tl):PI X tg l (gm K tl):=by subst e;exact zt hl
end
abbrev PTI:=PSt->(Nat->(Nat->D)->PSt->Prop)->Prop
def Wlk (K:PySem.W.Frag) (O:Addr->Prop) (H:Hp) (J:It) (n:Nat) (it:Nat->D):Prop:=∀(O':Addr->Prop) (H':Hp),aU O H O' H'->(∀b,O' b->H' b≠none) ->
 (∀k,k < n->J.go k H'/\∀x H'',J.yld k H' x H''->Gr H' H''/\FV K O' H'' x (it k))/\J.stop n H'
def LI (K:PySem.W.Frag) (wi:TI) (pi:PTI):Prop:=∀(A:Addr->Prop) (ρ:PSt) (σ:St) (H:Hp) (Q:Nat->(Nat->D)->PSt->Prop) (Q':It->Hp->Prop),Rel K A ρ σ H->pi ρ Q ->
 (∀J H' n it ρ',Q n it ρ'->Fr ρ σ H ρ' H'->Rel K A ρ' σ H'->Wlk K (OO A ρ' σ) H' J n it->Q' J H')->wi σ H Q'
def itD (ds:List D) (k:Nat):D:=ds.getD k .non
theorem qG {ds:List D}{k:Nat} (h:k < ds.length):ds[k]?=some (itD ds k):=by unfold itD;rw [List.getD_eq_getElem?_getD,List.getElem?_eq_getElem h];rfl
theorem jT {ds:List D}{k:Nat}{d:D} (h:ds[k]?=some d):itD ds k=d:=by unfold itD;rw [List.getD_eq_getElem?_getD,h];rfl
def DT:D->Option (Nat×(Nat->D))
 | .lst ds=>some (ds.length,itD ds)
 | .tup ds=>some (ds.length,itD ds)
 | .scr ns=>some (ns.length,fun k=>.int (ns.getD k 0))
 | .str l=>some (l.length,fun k=>.str [l.getD k 0])
 | _=>none
def dh (pe:PTE):PTI:=fun ρ Q=>pe ρ fun p ρ1=>match DT p.d with
 | some (n,it)=>Q n it ρ1
 | none=>False
section
variable {K:PySem.W.Frag}{te:TE}{pe:PTE}{ta:TA}{pa:PTA}
theorem FV.row {O:Addr->Prop}{H:Hp}{v:V}{d:D}{n:Nat}{it:Nat->D} (h:FV K O H v d) (e:DT d=some (n,it)) :
  (∃k a xs,v=.ref a/\xs.length=n/\(∀O' H',aU O H O' H'->Sq k K H' a xs/\∀j x,xs[j]?=some x->FV K O' H' x (it j)))\/∃l,v=.str (S l)/\l.length=n/\(∀k,it k=.str [l.getD k 0]):=by
 cases h with
 | lst nn e0 f =>
  cases e
  refine .inl ⟨false,_,_,rfl,f.length,fun O' H' k=>⟨SqL.of (k _ _ nn e0).2,fun j x hx=>?_⟩⟩
  obtain ⟨d,hd,fd⟩:=f.get hx
  rw [jT hd];exact fd.keeps k
 | tup nn e0 f =>
  cases e
  refine .inl ⟨true,_,_,rfl,f.length,fun O' H' k=>⟨SqT.of (k _ _ nn e0).2,fun j x hx=>?_⟩⟩
  obtain ⟨d,hd,fd⟩:=f.get hx
  rw [jT hd];exact fd.keeps k
 | scr s =>
  cases e
  refine .inl ⟨false,_,_,rfl,List.length_map _,fun O' H' k=>⟨(s.keeps k).sq,fun j x hx=>?_⟩⟩
  obtain ⟨z,hz,rfl⟩:=wS hx
  show FV K O' H' (V.int z) (D.int (List.getD _ j 0))
  rw [List.getD_eq_getElem?_getD,hz];exact .int z
 | str l hl=>cases e;exact .inr ⟨l,rfl,rfl,fun _=>rfl⟩
 | non=>cases e
 | bl b=>cases e
 | int i=>cases e
 | ty n=>cases e
 | dic _ _ _ _=>cases e
 | obj _ _ _ _=>cases e
 | exc0 _ _=>cases e
 | exc1 _ _ _ _ _ _=>cases e
theorem b7 (h:LE K te pe):LI K (gm K te) (dh pe):=fun A ρ σ H Q Q' R q k=>h A ρ σ H _ _ R q fun v H1 p ρ1 q1 f1 o1=>by
 obtain ⟨R1,fv⟩:=o1.frz
 split at q1
 .rename_i n it e
  rcases fv.row e with ⟨b,a,xs,rfl,hl,hr⟩ | ⟨l,rfl,hl,hi⟩
  .refine .inl ⟨b,a,xs,rfl,(hr _ H1 (fun b o n h=>⟨n,h⟩)).1,k _ H1 n it ρ1 q1 f1 R1 fun O' H' kk dom=>?_⟩
   obtain ⟨sq,hx⟩:=hr O' H' kk
   cases b with
   | false =>
    refine ⟨fun j hj=>⟨⟨xs,_,sq,List.getElem?_eq_getElem (by rw [hl];exact hj)⟩,fun x H'' ⟨e,y⟩=>?_⟩,⟨xs,sq,by rw [hl];exact Nat.le_refl _⟩⟩
    subst e;exact ⟨Gr.refl _,hx j x (y xs sq)⟩
   | true =>
    refine ⟨fun j hj=>⟨⟨xs,_,sq,List.getElem?_eq_getElem (by rw [hl];exact hj)⟩,fun x H'' ⟨e,y⟩=>?_⟩,⟨xs,sq,by rw [hl];exact Nat.le_refl _⟩⟩
    subst e;exact ⟨Gr.refl _,hx j x (y xs sq)⟩
  .refine .inr ⟨l,rfl,k _ H1 n it ρ1 q1 f1 R1 fun O' H' kk dom=>?_⟩
   refine ⟨fun j hj=>⟨by show j < (gu l).length;rw [je,hl];exact hj,fun x H'' ⟨e,y⟩=>?_⟩,by show (gu l).length=n;rw [je,hl]⟩
   subst e
   obtain ⟨c,hc,rfl⟩:=tq y
   rw [hi,List.getD_eq_getElem?_getD,hc]
   exact ⟨Gr.refl _,.str _ (by show 1<=1000000;decide)⟩
 .exact q1.elim
def r0 (pa:PTA):PTI:=fun ρ Q=>pa ρ fun as ρ1=>match as with
 | [.v (.int j)]=>(-(2 ^ 60)<=j/\j < 2 ^ 60)/\Q j.toNat (fun k=>.int (k:Int)) ρ1
 | _=>False
def DU (pa:PTA):PTI:=fun ρ Q=>pa ρ fun as ρ1=>match as with
 | [.v (.int i),.v (.int j),.v (.int (-1))]=>(-(2 ^ 60)<=i/\i < 2 ^ 60/\-(2 ^ 60)<=j/\j < 2 ^ 60)/\Q (i - j).toNat (fun k=>.int (i - (k:Int))) ρ1
 | _=>False
def DW (pa:PTA):PTI:=fun ρ Q=>pa ρ fun as ρ1=>match as with
 | [.v (.int j)]=>(-(2 ^ 60)<=j/\j < 2 ^ 60)/\Q j.toNat (fun k=>.int (j - 1 - (k:Int))) ρ1
 | _=>False
theorem Dg {O:Addr->Prop}{H:Hp}{lo:Int}{n:Nat}{it:Nat->D} (h:∀k:Nat,it k=.int (lo + k)):Wlk K O H (Itr lo n) n it:=fun O' H' _ _ =>
 ⟨fun j hj=>⟨hj,fun x H'' ⟨e,y⟩=>by subst e y;rw [h];exact ⟨Gr.refl _,.int _⟩⟩,Nat.le_refl _⟩
theorem By {O:Addr->Prop}{H:Hp}{lo:Int}{n:Nat}:Wlk K O H (Its (ki lo n)) n (fun k=>.int (lo - (k:Int))):=fun O' H' _ _ =>
 ⟨fun j hj=>⟨by show j < (ki lo n).length;rw [iK];exact hj,fun x H'' ⟨e,y⟩=>by subst e;rw [(uQ y).2];exact ⟨Gr.refl _,.int _⟩⟩,iK _ _⟩
theorem jl (h:LAs K ta pa):LI K (up ta) (r0 pa):=fun A ρ σ H Q Q' R q k=>h A ρ σ H _ _ R q fun vs H1 as ρ1 q1 f1 R1 o1=>by
 split at q1
 .rename_i j
  cases o1 with
  | cons a b =>
   cases b
   cases a
   exact ⟨j,rfl,by omega,by omega,k _ H1 _ _ ρ1 q1.2 f1 R1 (Dg fun k=>by rw [Int.zero_add])⟩
 .exact q1.elim
theorem Dh (h:LAs K ta pa):LI K (A7 ta) (DU pa):=fun A ρ σ H Q Q' R q k=>h A ρ σ H _ _ R q fun vs H1 as ρ1 q1 f1 R1 o1=>by
 split at q1
 .rename_i i j
  cases o1 with
  | cons a b =>
   cases b with
   | cons c d =>
    cases d with
    | cons e f =>
     cases f
     cases a
     cases c
     cases e
     exact ⟨i,j,rfl,q1.1,k _ H1 _ _ ρ1 q1.2 f1 R1 By⟩
 .exact q1.elim
theorem Di (h:LAs K ta pa):LI K (Bj ta) (DW pa):=fun A ρ σ H Q Q' R q k=>h A ρ σ H _ _ R q fun vs H1 as ρ1 q1 f1 R1 o1=>by
 split at q1
 .rename_i j
  cases o1 with
  | cons a b =>
   cases b
   cases a
   exact ⟨j,rfl,q1.1,k _ H1 _ _ ρ1 q1.2 f1 R1 By⟩
 .exact q1.elim
def rowD:D->Option (List D)
 | .lst ds=>some ds
 | .tup ds=>some ds
 | .scr ns=>some (ns.map .int)
 | _=>none
theorem FV.rowD {O:Addr->Prop}{H:Hp}{v:V}{d:D}{ds:List D} (h:FV K O H v d) (e:L2.rowD d=some ds) :
  ∃k a xs,v=.ref a/\xs.length=ds.length/\(∀O' H',aU O H O' H'->Sq k K H' a xs/\FVs K O' H' xs ds):=by
 cases h with
 | lst nn e0 f=>cases e;exact ⟨false,_,_,rfl,f.length,fun O' H' k=>⟨SqL.of (k _ _ nn e0).2,f.keeps k⟩⟩
 | tup nn e0 f=>cases e;exact ⟨true,_,_,rfl,f.length,fun O' H' k=>⟨SqT.of (k _ _ nn e0).2,f.keeps k⟩⟩
 | scr s=>cases e;exact ⟨false,_,_,rfl,by rw [List.length_map,List.length_map],fun O' H' k=>⟨(s.keeps k).sq,FVs.of_ints _⟩⟩
 | str l hl=>cases e
 | non=>cases e
 | bl b=>cases e
 | int i=>cases e
 | ty n=>cases e
 | dic _ _ _ _=>cases e
 | obj _ _ _ _=>cases e
 | exc0 _ _=>cases e
 | exc1 _ _ _ _ _ _=>cases e
def yc (pa:PTA):PTI:=fun ρ Q=>pa ρ fun as ρ1=>match as with
 | [.v a]=>(match rowD a with
  | some xs=>Q xs.length (fun k=>.tup [.int (k:Int),itD xs k]) ρ1
  | _=>False)
 | _=>False
theorem zu (h:LAs K ta pa):LI K (zf K ta) (yc pa):=fun A ρ σ H Q Q' R q k=>h A ρ σ H _ _ R q fun vs H1 as ρ1 q1 f1 R1 o1=>by
 split at q1
 .rename_i da
  cases o1 with
  | cons o1 o3 =>
   cases o3
   split at q1
   .rename_i xs ex
    obtain ⟨b1,a1,us,rfl,l1,w1⟩:=FV.rowD (show FV K _ H1 _ da from o1) ex
    have t1:=w1 _ H1 (fun b o n h=>⟨n,h⟩)
    refine ⟨b1,a1,rfl,⟨us,t1.1⟩,k _ H1 _ _ ρ1 q1 f1 R1 fun O' H' kk dom=>?_⟩
    obtain ⟨s1,g1⟩:=w1 O' H' kk
    refine ⟨fun j hj=>?_,⟨us,s1,by omega⟩⟩
    have h1:j < us.length:=by omega
    refine ⟨⟨us,_,s1,List.getElem?_eq_getElem h1⟩,fun x H'' ⟨T,u,hT,e,y1,e2⟩=>?_⟩
    subst e e2
    obtain ⟨d1,hd1,fd1⟩:=g1.get (y1 us s1)
    have e1:itD xs j=d1:=by unfold itD;rw [List.getD_eq_getElem?_getD,hd1];rfl
    rw [e1]
    have kk2:aU O' H' O' (upd H' T (.tup [.int (j:Int),u])):=fun b o n e=>⟨n,by rw [aA (bv e hT)];exact e⟩
    exact ⟨Gr.new hT,.tup (fun z=>dom T z hT) aO (.cons (.int _) (.cons (fd1.keeps kk2) .nil))⟩
   .exact q1.elim
 .exact q1.elim
end
def gc (pi:PTI) (g:PTG) (pb:PTS):PTS:=fun D ρ=>pi ρ fun n it ρ1=>∃I:Nat->PSt->Prop,I 0 ρ1/\(∀k ρ d,k < n->d=it k->I k ρ->g (.dat d) ρ fun ρ2=>pb { D with nx:=I (k + 1),ct:=I (k + 1),bk:=D.nx } ρ2)/\∀ρ,I n ρ->D.nx ρ
def qH (pt:PTT) (pb:PTS):PTS:=fun D ρ=>∃I:Nat->PSt->Prop,(∃m,I m ρ)/\∀m ρ,I m ρ->pt ρ fun b ρ1=>iq b (pb { D with nx:=fun ρ'=>∃m',m' < m/\I m' ρ',ct:=fun ρ'=>∃m',m' < m/\I m' ρ',bk:=D.nx } ρ1) (D.nx ρ1)
section
variable {K:PySem.W.Frag}{fs:List Nat}{wi:TI}{pi:PTI}{g:TG}{pg:PTG}{tb:TS}{pb:PTS}{tt:TT}{pt:PTT}
theorem dO (hi:LI K wi pi) (hg:LGd K fs g pg) (hb:LS K fs tb pb):LS K fs (DC wi g tb) (gc pi pg pb):=fun fx A R H0 ρ σ H D D' hf r F q k1 k2 k3 k4=>hi A ρ σ H _ _ r q fun J H1 n it ρ1 q1 f1 r1 W=>by
 obtain ⟨I,i0,turn,after⟩:=q1
 have F1:=F.fr f1
 refine ⟨fun i m σ' H'=>i + m=n/\∃ρ',I i ρ'/\Rel K A ρ' σ' H'/\fu fx (Wr ρ1 σ) H1 ρ' σ' H',⟨n,Nat.zero_add n,ρ1,i0,r1,fu.start F1.fx⟩,fun i m σ' H' ⟨him,ρ',iv,r',F'⟩=>?_⟩
 obtain ⟨go,stop⟩:=W _ H' F'.keeps r'.dom2
 by_cases hk:i < n
 .obtain ⟨g1,g2⟩:=go i hk
  refine .inr ⟨g1,fun σ'' H''=>∃ρ'',I (i + 1) ρ''/\Rel K A ρ'' σ'' H''/\fu fx (Wr ρ1 σ) H1 ρ'' σ'' H'',fun σ'' H'' z=>⟨m - 1,by omega,by omega,z⟩,fun x H'' y=>?_⟩
  obtain ⟨gr,fv⟩:=g2 x H'' y
  refine hg fx A (Wr ρ1 σ) H1 ρ' σ' H'' _ x _ _ hf (F'.fr gr.fr) (r'.gr gr) fv (turn i ρ' _ hk rfl iv) fun ρ2 σ2 q2 r2 F2 _=>?_
  refine hb fx A (Wr ρ1 σ) H1 ρ2 σ2 H'' _ _ hf r2 F2 q2 (fun ρ3 σ3 H3 q3 r3 F3=>⟨ρ3,q3,r3,F3⟩) (fun v p ρ3 σ3 H3 q3 o3 F3=>k2 v p ρ3 σ3 H3 q3 (o3.h0 F1.dm) (F1.trans F3 F3.fx)) (fun ρ3 σ3 H3 q3 r3 F3=>k1 ρ3 σ3 H3 q3 r3 (F1.trans F3 F3.fx)) (fun ρ3 σ3 H3 q3 r3 F3=>⟨ρ3,q3,r3,F3⟩)
 .have e:i=n:=by omega
  subst e
  exact .inl ⟨stop,k1 ρ' σ' H' (after ρ' iv) r' (F1.trans F' F'.fx)⟩
theorem r8 (ht:LT K tt pt) (hb:LS K fs tb pb):LS K fs (xZ tt tb) (qH pt pb):=fun fx A R H0 ρ σ H D D' hf r F q k1 k2 k3 k4=>by
 obtain ⟨I,⟨m0,i0⟩,turn⟩:=q
 refine ⟨fun m σ' H'=>∃ρ',I m ρ'/\Rel K A ρ' σ' H'/\fu fx R H0 ρ' σ' H',⟨m0,ρ,i0,r,F⟩,fun m σ' H' ⟨ρ',iv,r',F'⟩=>?_⟩
 refine ht A ρ' σ' H' _ _ r' (turn m ρ' iv) fun b H1 ρ1 q1 f1 r1=>?_
 cases b with
 | true =>
  refine ⟨fun σ'' H''=>∃ρ'' m',m' < m/\I m' ρ''/\Rel K A ρ'' σ'' H''/\fu fx R H0 ρ'' σ'' H'',fun σ'' H'' ⟨ρ'',m',h1,h2⟩=>⟨m',h1,ρ'',h2⟩,?_⟩
  exact hb fx A R H0 ρ1 σ' H1 _ _ hf r1 (F'.fr f1) q1 (fun ρ3 σ3 H3 ⟨m',h1,h2⟩ r3 F3=>⟨ρ3,m',h1,h2,r3,F3⟩) k2 k1 (fun ρ3 σ3 H3 ⟨m',h1,h2⟩ r3 F3=>⟨ρ3,m',h1,h2,r3,F3⟩)
 | false=>exact k1 ρ1 σ' H1 q1 r1 (F'.fr f1)
end
def bX (ix:List (Option Nat)) (ρ:PSt):PSt:=ix.map fun o=>match o with
 | none=>none
 | some j=>match ρ[j]? with
  | some v=>v
  | none=>none
def eG:List (Option Nat)->PSt->PSt->PSt
 | some j::ix,ρ,t::τ=>eG ix (ρ.set j t) τ
 | none::ix,ρ,_::τ=>eG ix ρ τ
 | _,ρ,_=>ρ
def yd:List (Option Nat)->Bool
 | []=>true
 | none::r=>yd r
 | some j::r=>!r.contains (some j) && yd r
theorem kv:∀(ix:List (Option Nat)) (ρ τ:PSt),(eG ix ρ τ).length=ρ.length
 | [],ρ,τ=>by unfold eG;rfl
 | some j::ix,ρ,t::τ=>by show (eG ix (ρ.set j t) τ).length=_;rw [kv ix,List.length_set]
 | none::ix,ρ,t::τ=>by show (eG ix ρ τ).length=_;exact kv ix ρ τ
 | some j::ix,ρ,[]=>by unfold eG;rfl
 | none::ix,ρ,[]=>by unfold eG;rfl
theorem iP:∀(ix:List (Option Nat)) (ρ τ:PSt) (j:Nat),some j∉ix->(eG ix ρ τ)[j]?=ρ[j]?
 | [],ρ,τ,j,_=>by unfold eG;rfl
 | some i::ix,ρ,t::τ,j,h=>by
  show (eG ix (ρ.set i t) τ)[j]?=_
  rw [iP ix _ τ j (fun z=>h (List.mem_cons_of_mem _ z)),List.getElem?_set_ne (fun z=>h (by rw [z];exact List.mem_cons_self ..))]
 | none::ix,ρ,t::τ,j,h=>by show (eG ix ρ τ)[j]?=_;exact iP ix ρ τ j fun z=>h (List.mem_cons_of_mem _ z)
 | some i::ix,ρ,[],j,_=>by unfold eG;rfl
 | none::ix,ρ,[],j,_=>by unfold eG;rfl
theorem nI:∀(ix:List (Option Nat)) (ρ τ:PSt) (j k:Nat),yd ix=true->ix[k]?=some (some j)->k < τ.length->j < ρ.length->(eG ix ρ τ)[j]?=τ[k]?
 | some i::ix,ρ,t::τ,j,k,h,e,hk,hj=>by
  have h:(!ix.contains (some i) && yd ix)=true:=h
  rw [Bool.and_eq_true] at h
  show (eG ix (ρ.set i t) τ)[j]?=_
  cases k with
  | zero =>
   have e:some (some i)=some (some j):=e
   cases e
   have hn:some i∉ix:=fun z=>by
    have:=h.1
    rw [List.contains_iff_mem.mpr z] at this;cases this
   rw [iP ix _ τ i hn,List.getElem?_set_self hj];rfl
  | succ k =>
   have e:ix[k]?=some (some j):=by simpa using e
   rw [nI ix _ τ j k h.2 e (by simpa using hk) (by rw [List.length_set];exact hj)];simp
 | none::ix,ρ,t::τ,j,k,h,e,hk,hj=>by
  show (eG ix ρ τ)[j]?=_
  cases k with
  | zero=>cases e
  | succ k =>
   have e:ix[k]?=some (some j):=by simpa using e
   rw [nI ix _ τ j k h e (by simpa using hk) hj];simp
 | [],ρ,τ,j,k,h,e,hk,hj=>by simp at e
 | some i::ix,ρ,[],j,k,h,e,hk,hj=>absurd hk (Nat.not_lt_zero _)
 | none::ix,ρ,[],j,k,h,e,hk,hj=>absurd hk (Nat.not_lt_zero _)
theorem kx:∀{ix:List (Option Nat)}{k l j:Nat},yd ix=true->ix[k]?=some (some j)->ix[l]?=some (some j)->k=l
 | some i::ix,k,l,j,h,e1,e2=>by
  have h:(!ix.contains (some i) && yd ix)=true:=h
  rw [Bool.and_eq_true] at h
  have no:∀m,ix[m]?≠some (some i):=fun m z=>by
   have:=h.1
   rw [List.contains_iff_mem.mpr (List.mem_of_getElem? z)] at this;cases this
  cases k with
  | zero =>
   have e1:some (some i)=some (some j):=e1
   cases e1
   cases l with
   | zero=>rfl
   | succ l=>exact absurd (by simpa using e2) (no l)
  | succ k =>
   cases l with
   | zero =>
    have e2:some (some i)=some (some j):=e2
    cases e2
    exact absurd (by simpa using e1) (no k)
   | succ l=>rw [kx (k:=k) (l:=l) h.2 (by simpa using e1) (by simpa using e2)]
 | none::ix,k,l,j,h,e1,e2=>by
  cases k with
  | zero=>cases e1
  | succ k =>
   cases l with
   | zero=>cases e2
   | succ l=>rw [kx (ix:=ix) (k:=k) (l:=l) (j:=j) h (by simpa using e1) (by simpa using e2)]
 | [],k,l,j,h,e1,e2=>by simp at e1
theorem cW {ix:List (Option Nat)}{ρ:PSt}{k:Nat}{p:PV} (h:(bX ix ρ)[k]?=some (some p)):∃j,ix[k]?=some (some j)/\ρ[j]?=some (some p):=by
 unfold bX at h
 rw [List.getElem?_map] at h
 cases e:ix[k]? with
 | none=>rw [e] at h;cases h
 | some o =>
  rw [e] at h
  cases o with
  | none=>cases h
  | some j =>
   refine ⟨j,rfl,?_⟩
   have h:some (match ρ[j]? with | some v=>v | none=>none)=some (some p):=h
   cases e2:ρ[j]? with
   | none=>rw [e2] at h;cases h
   | some v=>rw [e2] at h;exact h
theorem c5 {ix:List (Option Nat)}{σ:St}{k j:Nat}{v:V} (h:ix[k]?=some (some j)) (e:σ[j]?=some (some v)):(oY ix σ)[k]?=some (some v):=by
 unfold oY
 rw [List.getElem?_map,h]
 show some (match σ[j]? with | some v=>v | none=>none)=some (some v)
 rw [e]
theorem Rel.amb {K:PySem.W.Frag}{A:Addr->Prop}{ρ:PSt}{σ:St}{H:Hp}{a:Addr}{o:HO} (R:Rel K A ρ σ H) (ha:A a):Rel K A ρ σ (upd H a o):=by
 have k:aU (OO A ρ σ) H (OO A ρ σ) (upd H a o):=fun b u n e=>⟨n,by rw [aA (fun z=>n (by rw [z];exact .inl ha))];exact e⟩
 refine ⟨R.len,fun i q e=>?_,R.dj,fun b z=>?_,R.sep⟩
 .obtain ⟨v,s,r⟩:=R.get i q e
  refine ⟨v,s,r.keeps k fun ow b eb=>?_⟩
  rw [aA]
  intro z
  subst z eb
  exact R.sep b ha ⟨i,q,e,ow,s⟩
 .by_cases z':b=a
  .rw [z',aO];exact nofun
  .rw [aA z'];exact R.dom b z
def Bz (ix:List (Option Nat)) (ρ:PSt):Bool:=ix.all fun o=>match o with | none=>true | some j=>(match ρ[j]? with | some (some _)=>true | _=>false)
structure l6 (ix:List (Option Nat)) (ρ1:PSt) (n:Nat) (it:Nat->D) (g:PTG) (pt:PTT) (pe:PTE) (Q:PKt):Prop where
 ex:∃I:Nat->List D->PSt->Prop,I 0 [] (bX ix ρ1) /\
  (∀k ys τ d,k < n->d=it k->I k ys τ->g (.dat d) τ fun τ2=>pt τ2 fun ok τ3=>iq ok (pe τ3 fun p τ4=>I (k + 1) (ys++[p.d]) τ4) (I (k + 1) ys τ3))/\∀ys τ,I n ys τ->Q (.own ys) (eG ix ρ1 τ)
def dr (ix:List (Option Nat)) (pi:PTI) (g:PTG) (pt:PTT) (pe:PTE):PTE:=fun ρ Q=>pi ρ fun n it ρ1=>Bz ix ρ1=true/\n<=1000000/\l6 ix ρ1 n it g pt pe Q
def k6:PTT:=fun ρ Q=>Q true ρ
theorem dn {K:PySem.W.Frag}:LT K ja k6:=fun A ρ σ H Q Q' R q k=>k true H ρ q (Fr.refl _ _ _) R
def vh (ix:List (Option Nat)):List Nat:=(List.range ix.length).filter fun k=>(ix.getD k none).isSome
theorem bE {K:PySem.W.Frag}{ix:List (Option Nat)}{wi:TI}{pi:PTI}{g:TG}{pg:PTG}{tts:TT}{pt:PTT}{te:TE}{pe:PTE} (hix:yd ix=true) (hi:LI K wi pi) (hg:∀fs:List Nat,(∀k∈fs,k∈vh ix)->LGd K fs g pg) (ht:LT K tts pt) (he:LE K te pe) :
  LE K (l4 ix wi g tts te) (dr ix pi pg pt pe):=fun A ρ σ H Q Q' R q k=>hi A ρ σ H _ _ R q fun J H1 n it ρ1 q1 f1 R1 W D hD=>by
 obtain ⟨hcap,hn,⟨I,i0,turn,after⟩⟩:=q1
 let τρ0:=bX ix ρ1
 let τσ0:=oY ix σ
 let Ai:Addr->Prop:=fun b=>A b\/b=D\/(Wr ρ1 σ b/\¬ Wr τρ0 τσ0 b)
 let H0':=upd H1 D (.lst [])
 have wsub:∀b,Wr τρ0 τσ0 b->Wr ρ1 σ b:=fun b ⟨m,p,e,o,s⟩=>by
  obtain ⟨j,h1,h2⟩:=cW e
  obtain ⟨v,hv,_⟩:=R1.get j p h2
  have:=c5 h1 hv
  rw [s] at this
  cases this
  exact ⟨j,p,h2,o,hv⟩
 have nD:¬ Wr ρ1 σ D:=fun z=>R1.wr z hD
 have oosub:∀b,OO Ai τρ0 τσ0 b->OO A ρ1 σ b\/b=D:=fun b z=>by
  rcases z with (z | z | z) | z
  .exact .inl (.inl z)
  .exact .inr z
  .exact .inl (.inr z.1)
  .exact .inl (.inr (wsub b z))
 have kD:aU (OO A ρ1 σ) H1 (OO Ai τρ0 τσ0) H0':=fun b o nn e=>by
  refine ⟨fun z=>?_,?_⟩
  .rcases oosub b z with z | z
   .exact nn z
   .rw [z,hD] at e;cases e
  .rw [show H0' b=H1 b from aA (bv e hD)];exact e
 have Ri:Rel K Ai τρ0 τσ0 H0':=by
  refine ⟨by show (bX ix ρ1).length=(oY ix σ).length;unfold bX oY;rw [List.length_map,List.length_map],fun m p e=>?_,fun m l p q v e1 e2 o1 o2 s1 s2=>?_,fun b z=>?_,fun b z w=>?_⟩
  .obtain ⟨j,h1,h2⟩:=cW e
   obtain ⟨v,hv,r⟩:=R1.get j p h2
   refine ⟨v,c5 h1 hv,r.keeps kD fun ow a ea=>?_⟩
   subst ea
   exact aA (fun z=>nD (by rw [<- z];exact ⟨j,p,h2,ow,hv⟩))
  .obtain ⟨j,h1,h2⟩:=cW e1
   obtain ⟨j',h3,h4⟩:=cW e2
   obtain ⟨v1,hv1,_⟩:=R1.get j p h2
   obtain ⟨v2,hv2,_⟩:=R1.get j' q h4
   have t1:=c5 h1 hv1
   have t2:=c5 h3 hv2
   rw [s1] at t1
   rw [s2] at t2
   cases t1
   cases t2
   have:=R1.dj j j' p q _ h2 h4 o1 o2 hv1 hv2
   subst this
   exact kx hix h1 h3
  .rcases z with z | z | z
   .intro e
    by_cases zz:b=D
    .exact R1.dom b z (by rw [zz];exact hD)
    .rw [show H0' b=H1 b from aA zz] at e;exact R1.dom b z e
   .rw [z];show upd H1 D _ D≠none;rw [aO];exact nofun
   .intro e
    rw [show H0' b=H1 b from aA (fun zz=>nD (by rw [<- zz];exact z.1))] at e;exact R1.wr z.1 e
  .rcases z with z | z | z
   .exact R1.sep b z (wsub b w)
   .rw [z] at w;exact nD (wsub D w)
   .exact z.2 w
 let fxi:List (Nat×V):=(vh ix).filterMap fun m=>match (τσ0[m]?) with | some (some v)=>some (m,v) | _=>none
 have hfx:∀p∈fxi,τσ0[p.1]?=some (some p.2):=fun p hp=>by
  obtain ⟨m,hm,e⟩:=List.mem_filterMap.mp hp
  split at e
  .rename_i v ev;cases e;exact ev
  .cases e
 have hfs:∀m∈fxi.map Prod.fst,m∈vh ix:=fun m hm=>by
  obtain ⟨p,hp,rfl⟩:=List.mem_map.mp hm
  obtain ⟨m',hm',e⟩:=List.mem_filterMap.mp hp
  split at e
  .cases e;exact hm'
  .cases e
 have hgi:=hg (fxi.map Prod.fst) hfs
 have fxget:∀(m j:Nat) (v:V),ix[m]?=some (some j)->σ[j]?=some (some v)->(m,v)∈fxi:=fun m j v h1 h2=>by
  refine List.mem_filterMap.mpr ⟨m,?_,?_⟩
  .unfold vh
   refine List.mem_filter.mpr ⟨List.mem_range.mpr (List.getElem?_eq_some_iff.mp h1).1,?_⟩
   rw [List.getD_eq_getElem?_getD,h1];rfl
  .show (match (oY ix σ)[m]? with | some (some v)=>some (m,v) | _=>none)=_
   rw [c5 h1 h2]
 let Rr:Addr->Prop:=fun b=>Wr τρ0 τσ0 b\/b=D
 have hRr:∀b,Rr b->OO Ai τρ0 τσ0 b:=fun b z=>z.elim (fun z=>.inr z) (fun z=>.inl (.inr (.inl z)))
 have F0:fu fxi Rr H0' τρ0 τσ0 H0':=⟨fun _ _ _ h=>h,fun _ h=>h,fun b w=>.inl (.inl w),hfx⟩
 refine ⟨fun i m τ H2=>i + m=n/\∃ys τρ xs,I i ys τρ/\ys.length<=i/\Rel K Ai τρ τ H2/\fu fxi Rr H0' τρ τ H2/\H2 D=some (.lst xs)/\FVs K (OO Ai τρ τ) H2 xs ys/\∀b,Wr τρ τ b->Wr τρ0 τσ0 b,
  ⟨n,Nat.zero_add n,[],τρ0,[],i0,Nat.le_refl _,Ri,F0,aO,.nil,fun _ h=>h⟩,fun i m τ H2 ⟨him,ys,τρ,xs,iv,hy,r2,F2,eD,fD,hw⟩=>?_⟩
 have kk:aU (OO A ρ1 σ) H1 (OO Ai τρ τ) H2:=fun b o nn e=>(F2.keepsR hRr) b o (kD b o nn e).1 (kD b o nn e).2
 obtain ⟨go,stop⟩:=W _ H2 kk r2.dom2
 by_cases hk:i < n
 .obtain ⟨g1,g2⟩:=go i hk
  refine .inr ⟨g1,fun x H3 y=>?_⟩
  obtain ⟨gr,fv⟩:=g2 x H3 y
  have AiD:Ai D:=.inr (.inl rfl)
  refine hgi fxi Ai Rr H0' τρ τ H3 _ x _ _ rfl (F2.fr gr.fr) (r2.gr gr) fv (turn i ys τρ _ hk rfl iv) fun τρ2 τ2 q2 r3 F3 w3=>?_
  refine ht Ai τρ2 τ2 H3 _ _ r3 q2 fun ok H5 τρ3 q3 f5 r5=>?_
  have F5:=F3.fr f5
  have fD5:FVs K (OO Ai τρ3 τ2) H5 xs ys:=((fD.keeps (gr.fr (ρ:=τρ) (σ:=τ)).keeps).keeps (aU.less fun b z=>z.imp id (w3 b))).keeps f5.keeps
  have eD5:H5 D=some (.lst xs):=f5.kp D _ (r3.sep D AiD) (gr D _ eD)
  cases ok with
  | true =>
   refine he Ai τρ3 τ2 H5 _ _ r5 q3 fun v H6 p τρ4 q4 f6 o6=>?_
   obtain ⟨r6,fv6⟩:=o6.frz
   have F6:=F5.fr f6
   have eD6:H6 D=some (.lst xs):=f6.kp D _ (r5.sep D AiD) eD5
   have kw:aU (OO Ai τρ4 τ2) H6 (OO Ai τρ4 τ2) (upd H6 D (.lst (xs++[v]))):=fun b o nn e=>⟨nn,by rw [aA (fun z=>nn (by rw [z];exact .inl AiD))];exact e⟩
   refine ⟨xs,eD6,?_,m - 1,by omega,by omega,ys++[p.d],τρ4,xs++[v],q4,by rw [List.length_append];show _ + 1<=_;omega,r6.amb AiD,⟨fun b o nn e=>?_,fun b z=>?_,F6.ow,F6.fx⟩,aO,((fD5.keeps f6.keeps).append (.cons fv6 .nil)).keeps kw,fun b z=>hw b (w3 b (f5.ow b (f6.ow b z)))⟩
   .have:xs.length=ys.length:=fD.length
    exact Nat.lt_of_lt_of_le (by omega:xs.length < 1000000) (sz _ (Nat.le_refl _))
   .rw [aA (fun z=>nn (.inr z))];exact F6.kp b o nn e
   .by_cases zz:b=D
    .rw [zz,aO];exact nofun
    .rw [aA zz];exact F6.dm b z
  | false=>exact ⟨m - 1,by omega,by omega,ys,τρ3,xs,q3,by omega,r5,F5,eD5,fD5,fun b z=>hw b (w3 b (f5.ow b z))⟩
 .have e:i=n:=by omega
  subst e
  refine .inl ⟨stop,?_⟩
  have q':=after ys τρ iv
  have cap:∀(m j:Nat),ix[m]?=some (some j)->∃p v,ρ1[j]?=some (some p)/\σ[j]?=some (some v)/\τ[m]?=some (some v):=fun m j e=>by
   have h1:=List.all_eq_true.mp hcap _ (List.mem_of_getElem? e)
   have h1:(match ρ1[j]? with | some (some _)=>true | _=>false)=true:=h1
   split at h1
   .rename_i p ep
    obtain ⟨v,hv,_⟩:=R1.get j p ep
    exact ⟨p,v,ep,hv,F2.fx _ (fxget m j v e hv)⟩
   .cases h1
  have get':∀(j:Nat) (p:PV),(eG ix ρ1 τρ)[j]?=some (some p)->(∃m v,ix[m]?=some (some j)/\σ[j]?=some (some v)/\τ[m]?=some (some v)/\τρ[m]?=some (some p))\/(some j∉ix/\ρ1[j]?=some (some p)):=fun j p e=>by
   by_cases hj:some j∈ix
   .obtain ⟨m,hm,em⟩:=List.getElem_of_mem hj
    have em':ix[m]?=some (some j):=by rw [List.getElem?_eq_getElem hm,em]
    obtain ⟨p0,v,h1,h2,h3⟩:=cap m j em'
    rw [nI ix ρ1 τρ j m hix em' (by rw [r2.len];exact (List.getElem?_eq_some_iff.mp h3).1) (List.getElem?_eq_some_iff.mp h1).1] at e
    exact .inl ⟨m,v,em',h2,h3,e⟩
   .rw [iP ix ρ1 τρ j hj] at e
    exact .inr ⟨hj,e⟩
  have nocap:∀(j:Nat) (p:PV) (b:Addr),some j∉ix->ρ1[j]?=some (some p)->p.isOwn=true->σ[j]?=some (some (.ref b))->¬ Wr τρ0 τσ0 b:=fun j p b hj e o s ⟨m,q,e1,o1,s1⟩=>by
   obtain ⟨j',h1,h2⟩:=cW e1
   obtain ⟨v,hv,_⟩:=R1.get j' q h2
   have:=c5 h1 hv
   rw [s1] at this
   cases this
   have:=R1.dj j j' p q _ e h2 o o1 s hv
   subst this
   exact hj (List.mem_of_getElem? h1)
  have w':∀b,Wr (eG ix ρ1 τρ) σ b->Wr τρ τ b\/(Wr ρ1 σ b/\¬ Wr τρ0 τσ0 b):=fun b ⟨j,p,e,o,s⟩=>by
   rcases get' j p e with ⟨m,v,h1,h2,h3,h4⟩ | ⟨hj,h1⟩
   .rw [s] at h2;cases h2;exact .inl ⟨m,p,h4,o,h3⟩
   .exact .inr ⟨⟨j,p,h1,o,s⟩,nocap j p b hj h1 o s⟩
  have oo':∀b,OO (fc A D) (eG ix ρ1 τρ) σ b->OO Ai τρ τ b:=fun b z=>by
   rcases z with (z | z) | z
   .exact .inl (.inl z)
   .exact .inl (.inr (.inl z))
   .rcases w' b z with z | z
    .exact .inr z
    .exact .inl (.inr (.inr z))
  have kp1:∀b o,¬ Wr τρ0 τσ0 b->b≠D->H1 b=some o->H2 b=some o:=fun b o n1 n2 e=>F2.kp b o (fun z=>z.elim n1 n2) (by rw [show H0' b=H1 b from aA n2];exact e)
  have k1:aU (OO A ρ1 σ) H1 (OO (fc A D) (eG ix ρ1 τρ) σ) H2:=fun b o nn e=>⟨fun z=>(kk b o nn e).1 (oo' b z),(kk b o nn e).2⟩
  have AiD:Ai D:=.inr (.inl rfl)
  have R':Rel K (fc A D) (eG ix ρ1 τρ) σ H2:=by
   refine ⟨by rw [kv];exact R1.len,fun j p e=>?_,fun j l p q v e1 e2 o1 o2 s1 s2=>?_,fun b z=>?_,fun b z w=>?_⟩
   .rcases get' j p e with ⟨m,v,h1,h2,h3,h4⟩ | ⟨hj,h1⟩
    .obtain ⟨v',hv',r⟩:=r2.get m p h4
     rw [h3] at hv';cases hv'
     exact ⟨v,h2,r.keeps (aU.less oo') fun _ _ _=>rfl⟩
    .obtain ⟨v,hv,r⟩:=R1.get j p h1
     refine ⟨v,hv,r.keeps k1 fun ow a ea=>?_⟩
     subst ea
     obtain ⟨a',u,e1,e2⟩:=r.ref ow
     cases e1
     rw [e2]
     exact kp1 a u (nocap j p a hj h1 ow hv) (fun z=>by rw [z,hD] at e2;cases e2) e2
   .rcases get' j p e1 with ⟨m,v1,h1,h2,h3,h4⟩ | ⟨hj,h1⟩
    .rw [s1] at h2;cases h2
     rcases get' l q e2 with ⟨m',v2,g1,g2,g3,g4⟩ | ⟨hl,g1⟩
     .rw [s2] at g2;cases g2
      have:=r2.dj m m' p q _ h4 g4 o1 o2 h3 g3
      subst this
      rw [h1] at g1;cases g1;rfl
     .exfalso
      obtain ⟨v',hv',r⟩:=r2.get m p h4
      rw [h3] at hv';cases hv'
      obtain ⟨a,u,ea,_⟩:=r.ref o1
      subst ea
      exact nocap l q a hl g1 o2 s2 (hw a ⟨m,p,h4,o1,h3⟩)
    .rcases get' l q e2 with ⟨m',v2,g1,g2,g3,g4⟩ | ⟨hl,g1⟩
     .rw [s2] at g2;cases g2
      exfalso
      obtain ⟨v',hv',r⟩:=r2.get m' q g4
      rw [g3] at hv';cases hv'
      obtain ⟨a,u,ea,_⟩:=r.ref o2
      subst ea
      exact nocap j p a hj h1 o1 s1 (hw a ⟨m',q,g4,o2,g3⟩)
     .exact R1.dj j l p q v h1 g1 o1 o2 s1 s2
   .rcases z with z | z
    .exact r2.dom b (.inl z)
    .rw [z,eD];exact nofun
   .rcases w' b w with w | w
    .rcases z with z | z
     .exact r2.sep b (.inl z) w
     .rw [z] at w;exact r2.sep D AiD w
    .rcases z with z | z
     .exact R1.sep b z w.1
     .rw [z] at w;exact nD w.1
  have f2:Fr ρ1 σ H1 (eG ix ρ1 τρ) H2:=by
   refine ⟨fun b o nn e=>kp1 b o (fun z=>nn (wsub b z)) (fun z=>by rw [z,hD] at e;cases e) e,fun b z=>F2.dm b ?_,fun b z=>?_⟩
   .intro e
    by_cases zz:b=D
    .exact z (by rw [zz];exact hD)
    .rw [show H0' b=H1 b from aA zz] at e;exact z e
   .rcases w' b z with z | z
    .exact wsub b (hw b z)
    .exact z.1
  have hD0:H D=none:=by
   cases e:H D with
   | none=>rfl
   | some o=>exact absurd hD (f1.dm D (by rw [e];exact nofun))
  exact k _ H2 (.own ys) _ q' (f1.trans f2) ⟨D,xs,rfl,fun z=>R1.dom D z hD,hD0,eD,R',fD.keeps (aU.less oo')⟩
section
variable {K:PySem.W.Frag}{A A':Addr->Prop}{ρ:PSt}{σ:St}{H H':Hp}
theorem Rel.step (R:Rel K A ρ σ H) {i:Nat}{p q:PV}{a:Addr} (e:ρ[i]?=some (some p)) (ow:p.isOwn=true) (ow':q.isOwn=true) (es:σ[i]?=some (some (.ref a)))
  (kp:∀b o,b≠a->H b=some o->H' b=some o) (ha:H' a≠none) (h1:∀b,A b->A' b) (h2:∀b,A' b->A b\/H b=none) (dom':∀b,A' b->H' b≠none)
  (new:RS K (OO A' ρ σ) H' q (.ref a)):Rel K A' (ρ.set i (some q)) σ H'/\Fr ρ σ H (ρ.set i (some q)) H':=by
 have hi:i < ρ.length:=(List.getElem?_eq_some_iff.mp e).1
 have wa:Wr ρ σ a:=⟨i,p,e,ow,es⟩
 have weq:∀b,Wr (ρ.set i (some q)) σ b ↔ Wr ρ σ b:=fun b=>by
  constructor
  .rintro ⟨j,r,e1,o1,s1⟩
   by_cases z:i=j
   .subst z;exact ⟨i,p,e,ow,s1⟩
   .rw [List.getElem?_set_ne z] at e1;exact ⟨j,r,e1,o1,s1⟩
  .rintro ⟨j,r,e1,o1,s1⟩
   by_cases z:i=j
   .subst z;exact ⟨i,q,List.getElem?_set_self hi,ow',s1⟩
   .exact ⟨j,r,by rw [List.getElem?_set_ne z];exact e1,o1,s1⟩
 have oeq:OO A' (ρ.set i (some q)) σ=OO A' ρ σ:=funext fun b=>propext (or_congr Iff.rfl (weq b))
 have kp1:∀b u,¬ Wr ρ σ b->H b=some u->H' b=some u:=fun b u n h=>kp b u (fun z=>n (by rw [z];exact wa)) h
 have k:aU (OO A ρ σ) H (OO A' ρ σ) H':=fun b u n h=>by
  refine ⟨fun z=>?_,kp1 b u (fun z=>n (.inr z)) h⟩
  rcases z with z | z
  .rcases h2 b z with z | z
   .exact n (.inl z)
   .rw [z] at h;cases h
  .exact n (.inr z)
 have dm:∀b,H b≠none->H' b≠none:=fun b n=>by
  by_cases z:b=a
  .rw [z];exact ha
  .cases eb:H b with
   | none=>exact absurd eb n
   | some o=>rw [kp b o z eb];exact nofun
 refine ⟨⟨by rw [List.length_set];exact R.len,fun j r e1=>?_,fun j l p1 q1 v e1 e2 o1 o2 s1 s2=>?_,dom',fun b z w=>?_⟩,⟨kp1,dm,fun b w=>(weq b).mp w⟩⟩
 .rw [oeq]
  by_cases z:i=j
  .subst z
   rw [List.getElem?_set_self hi] at e1
   cases e1
   exact ⟨_,es,new⟩
  .rw [List.getElem?_set_ne z] at e1
   obtain ⟨v,s,rr⟩:=R.get j r e1
   refine ⟨v,s,rr.keeps k fun ow2 b eb=>?_⟩
   obtain ⟨b',u,e3,e4⟩:=rr.ref ow2
   rw [eb] at e3;cases e3
   rw [e4]
   refine kp b u (fun zz=>?_) e4
   subst zz
   rw [eb] at s
   exact z (R.dj i j p r _ e e1 ow ow2 es s)
 .have ex:∀(m:Nat) (x:PV),(ρ.set i (some q))[m]?=some (some x)->x.isOwn=true->∃y:PV,ρ[m]?=some (some y)/\y.isOwn=true:=fun m x em ox=>by
   by_cases z:i=m
   .subst z;exact ⟨p,e,ow⟩
   .rw [List.getElem?_set_ne z] at em;exact ⟨x,em,ox⟩
  obtain ⟨y1,g1,g2⟩:=ex j p1 e1 o1
  obtain ⟨y2,g3,g4⟩:=ex l q1 e2 o2
  exact R.dj j l y1 y2 v g1 g3 g2 g4 s1 s2
 .rcases h2 b z with z | z
  .exact R.sep b z ((weq b).mp w)
  .exact R.wr ((weq b).mp w) z
theorem Rel.lstw (R:Rel K A ρ σ H) {i:Nat}{ds es:List D}{a:Addr}{ys:List V} (e:ρ[i]?=some (some (.own ds))) (es':σ[i]?=some (some (.ref a))) (f:FVs K (OO A ρ σ) H ys es) :
  Rel K A (ρ.set i (some (.own es))) σ (upd H a (.lst ys))/\Fr ρ σ H (ρ.set i (some (.own es))) (upd H a (.lst ys)):=by
 have wa:OO A ρ σ a:=.inr ⟨i,_,e,rfl,es'⟩
 exact R.write (q:=.own es) e rfl rfl es' ⟨a,ys,rfl,aO,f.keeps fun b u n h=>⟨n,by rw [aA (fun z=>n (by rw [z];exact wa))];exact h⟩⟩
theorem Rel.ownAt (R:Rel K A ρ σ H) {i:Nat}{ds:List D} (e:ρ[i]?=some (some (.own ds))):∃a xs,σ[i]?=some (some (.ref a))/\H a=some (.lst xs)/\FVs K (OO A ρ σ) H xs ds:=by
 obtain ⟨v,s,a,xs,rfl,g,f⟩:=R.get i _ e
 exact ⟨a,xs,s,g,f⟩
end
def vk (i:Nat) (pe:PTE):PTE:=fun ρ Q=>match ρ[i]? with
 | some (some (.own _))=>pe ρ fun p ρ1=>(match ρ1[i]? with
  | some (some (.own ds))=>ds.length < 1000000/\Q (.dat .non) (ρ1.set i (some (.own (ds++[p.d]))))
  | _=>False)
 | _=>False
def Dj (i:Nat):PTE:=fun ρ Q=>match ρ[i]? with
 | some (some (.own ds))=>∃d,ds[ds.length - 1]?=some d/\Q (.dat d) (ρ.set i (some (.own ds.dropLast)))
 | _=>False
def sd (i:Nat) (pe pk:PTE):PTS:=fun D ρ=>pe ρ fun p ρ1=>(match ρ1[i]? with
 | some (some (.own _))=>pk ρ1 fun kp ρ2=>(match ρ2[i]?,kp with
  | some (some (.own ds)),.dat (.int k)=>∃j,ixN ds.length k=some j/\D.nx (ρ2.set i (some (.own (ds.set j p.d))))
  | _,_=>False)
 | _=>False)
section
variable {K:PySem.W.Frag}{te tk:TE}{pe pk:PTE}{fs:List Nat}
theorem iQ {i:Nat} (h:LE K te pe):LE K (tBM K "list" uI (a9 i) (bx te e9)) (vk i pe):=fun A ρ σ H Q Q' R q k=>by
 unfold vk at q
 split at q
 .rename_i ds0 e0
  obtain ⟨a0,xs0,s0,g0,f0⟩:=R.ownAt e0
  refine ⟨_,s0,.inl ⟨rfl,xs0,SqL.of g0⟩,h A ρ σ H _ _ R q fun v H1 p ρ1 q1 f1 o1=>?_⟩
  obtain ⟨R1,fv⟩:=o1.frz
  split at q1
  .rename_i ds e1
   obtain ⟨a,xs,s,g,f⟩:=R1.ownAt e1
   rw [s0] at s;cases s
   obtain ⟨R2,f2⟩:=R1.lstw e1 s0 (f.append (.cons fv .nil))
   exact ⟨a0,xs,v,rfl,rfl,g,Nat.lt_of_lt_of_le (by rw [f.length];exact q1.1) (sz _ (Nat.le_refl _)),k _ _ _ _ q1.2 (f1.trans f2) ⟨R2,.non⟩⟩
  .exact q1.elim
 .exact q.elim
theorem BA {i:Nat}:LE K (DL K "list" DM (a9 i)) (Dj i):=fun A ρ σ H Q Q' R q k=>by
 unfold Dj at q
 split at q
 .rename_i ds e
  obtain ⟨d,hd,q⟩:=q
  obtain ⟨a,xs,s,g,f⟩:=R.ownAt e
  obtain ⟨v,hv,fv⟩:=f.getD hd
  obtain ⟨R2,f2⟩:=R.lstw (es:=ds.dropLast) (ys:=xs.dropLast) e s (by rw [List.dropLast_eq_take,List.dropLast_eq_take,f.length];exact f.take _)
  exact ⟨_,s,.inl ⟨rfl,xs,SqL.of g⟩,a,xs,v,rfl,rfl,g,by rw [f.length];exact hv,k _ _ _ _ q f2 ⟨R2,(fv.keeps f2.keeps)⟩⟩
 .exact q.elim
theorem qI {i:Nat} (h:LE K te pe) (hk:LE K tk pk):LS K fs (wu te (Ci (a9 i) tk wN)) (sd i pe pk):=fun fx A R H0 ρ σ H D D' hf r F q k1 k2 k3 k4=>h A ρ σ H _ _ r q fun v H1 p ρ1 q1 f1 o1=>by
 obtain ⟨R1,fv⟩:=o1.frz
 split at q1
 .rename_i ds0 e0
  obtain ⟨a0,xs0,s0,g0,f0⟩:=R1.ownAt e0
  refine ⟨_,s0,hk A ρ1 σ H1 _ _ R1 q1 fun w H2 kp ρ2 q2 f2 o2=>?_⟩
  split at q2
  .rename_i ds j e2
   obtain ⟨n,hn,q2⟩:=q2
   obtain ⟨R2,fw⟩:=o2
   cases fw
   obtain ⟨a,xs,s,g,f⟩:=R2.ownAt e2
   rw [s0] at s;cases s
   obtain ⟨R3,f3⟩:=R2.lstw e2 s0 (FVs.set (fv.keeps f2.keeps) n f)
   exact ⟨a0,xs,j,n,rfl,rfl,g,by rw [f.length];exact hn,k1 _ _ _ q2 R3 (((F.fr f1).fr f2).fr f3)⟩
  .exact q2.elim
 .exact q1.elim
end
def spP (K:PySem.W.Frag) (c:FN):Sp:=fun vs H Q _=>∃(O:Addr->Prop) (ds:List D) (Qc:PV->Prop),(∀b,O b->H b≠none)/\FVs K O H vs ds/\c ds Qc/\∀r,Qc r->∀v H',Gr H H'->px K O H H' r v->Q v H'
def bh (c:FN) (pr:PTA):PTE:=fun ρ Q=>pr ρ fun as ρ1=>match avD as with
 | some ds=>c ds fun r=>Q r ρ1
 | none=>False
theorem k8 {N:List Str}{vs:List V}{i:Nat}{v:V} (h:vs[i]?=some v):(start N vs)[i]?=some (some v):=by
 unfold start
 rw [List.getElem?_append_left (by rw [List.length_map];exact (List.getElem?_eq_some_iff.mp h).1),List.getElem?_map,h];rfl
def dX (n:Nat) (ps:List PV):PSt:=ps.map some++List.replicate (n - ps.length) none
theorem fe {n:Nat}{ps:List PV}{i:Nat}{p:PV} (h:(dX n ps)[i]?=some (some p)):ps[i]?=some p:=by
 unfold dX at h
 by_cases hi:i < ps.length
 .rw [List.getElem?_append_left (by rw [List.length_map];exact hi),List.getElem?_map] at h
  cases e:ps[i]? with
  | none=>rw [e] at h;cases h
  | some q=>rw [e] at h;cases h;rfl
 .rw [List.getElem?_append_right (by rw [List.length_map];omega)] at h
  have:=List.mem_of_getElem? h
  rw [List.mem_replicate] at this
  cases this.2
section
variable {K:PySem.W.Frag}{tr:TA}{pr:PTA}{ts:TS}{ps:PTS}
theorem aH {c:FN} (h:LAs K tr pr):LE K (eY (spP K c) [] E0 tr) (bh c pr):=fun A ρ σ H Q Q' R q k=>h A ρ σ H _ _ R q fun vs H1 as ρ1 q1 f1 R1 o1=>by
 split at q1
 .rename_i ds e
  rw [List.append_nil]
  exact ⟨OO A ρ1 σ,ds,_,R1.dom2,o1.avD e,q1,fun r qr v H' g ov=>k v H' r ρ1 qr (f1.trans g.fr) ((ov.out R1 g).h0 f1.dm)⟩
 .exact q1.elim
theorem Out.outV {O:Addr->Prop}{ρ:PSt}{σ:St}{H H':Hp}{p:PV}{v:V} (h:Out K O ρ σ H H' p v):px K O H H' p v:=by
 cases p with
 | dat d=>exact h.2.keeps (aU.less fun b z=>.inl z)
 | own ds =>
  obtain ⟨a,xs,e1,na,e2,e3,R,f⟩:=h
  exact ⟨a,xs,e1,e2,e3,f.keeps (aU.less fun b z=>.inl z)⟩
 | ins c ns ds =>
  obtain ⟨a,dx,fs,e1,na,e2,e3,m,R,f⟩:=h
  exact ⟨a,dx,fs,e1,e2,e3,m,f.keeps (aU.less fun b z=>.inl z)⟩
theorem fnP {c:FN}{N:List Str} (hl:LS K [] ts ps) (hn:∀ds Q,c ds Q->ds.length<=N.length) (hc:∀ds Q,c ds Q->ps { nx:=fun _=>Q (.dat .non),rt:=fun p _=>Q p } (dX N.length (ds.map .dat)))
  {vs:List V}{H:Hp}{Q:VK}{E:XK} (h:spP K c vs H Q E):ts { nx:=fun _ H'=>Q .non H',rt:=Q } (start N vs) H:=by
 obtain ⟨O,ds,Qc,dom,fv,hq,k⟩:=h
 have nw:∀(ρ:PSt) (b:Addr),ρ=dX N.length (ds.map .dat)->¬ Wr ρ (start N vs) b:=fun ρ b e ⟨i,p,e1,o1,s1⟩=>by
  rw [e] at e1
  have:=fe e1
  rw [List.getElem?_map] at this
  cases e2:ds[i]? with
  | none=>rw [e2] at this;cases this
  | some d=>rw [e2] at this;cases this;cases o1
 have lenv:=fv.length
 have hle:=hn ds Qc hq
 have R0:Rel K O (dX N.length (ds.map .dat)) (start N vs) H:=by
  refine ⟨?_,fun i p e=>?_,fun i j p q v e1 e2 o1 o2 s1 s2=>?_,dom,fun b _ w=>nw _ b rfl w⟩
  .unfold dX start
   rw [List.length_append,List.length_append,List.length_map,List.length_map,List.length_map,List.length_replicate,List.length_replicate,lenv]
  .have:=fe e
   rw [List.getElem?_map] at this
   cases e2:ds[i]? with
   | none=>rw [e2] at this;cases this
   | some d =>
    rw [e2] at this;cases this
    obtain ⟨v,hv,f⟩:=fv.getD e2
    exact ⟨v,k8 hv,f.keeps (aU.less fun b z=>z.elim id fun w=>absurd w (nw _ b rfl))⟩
  .have:=fe e1
   rw [List.getElem?_map] at this
   cases e3:ds[i]? with
   | none=>rw [e3] at this;cases this
   | some d=>rw [e3] at this;cases this;cases o1
 refine hl [] O (fun _=>False) H _ _ H _ _ rfl R0 ⟨fun _ _ _ h=>h,fun _ h=>h,fun b w=>absurd w (nw _ b rfl),fun p hp=>nomatch hp⟩ (hc ds Qc hq) (fun ρ' σ' H' q r F=>?_) (fun v p ρ' σ' H' q o F=>?_) (fun _ _ _ z=>z.elim) (fun _ _ _ z=>z.elim)
 .exact k _ q .non H' (fun b o e=>F.kp b o id e) .non
 .exact k _ q v H' (fun b o e=>F.kp b o id e) o.outV
abbrev FR:=PV->List D->(PV->PV->Prop)->Prop
def spR (K:PySem.W.Frag) (c:FR):Sp:=fun vs H Q _=>∃(A:Addr->Prop) (a:Addr) (p:PV) (ws:List V) (ds:List D) (Qc:PV->PV->Prop),vs=.ref a::ws/\p.isOwn=true/\(∀b,A b->H b≠none)/\¬ A a/\RS K (fc A a) H p (.ref a)/\FVs K (fc A a) H ws ds/\c p ds Qc /\
 ∀r p',Qc r p'->p'.isOwn=true->∀v H',(∀b o,b≠a->H b=some o->H' b=some o)->H' a≠none->RS K (fc A a) H' p' (.ref a)->px K (fc A a) H H' r v->(∀a',v=.ref a'->r.isOwn=true->RS K (fc (fc A a) a') H' p' (.ref a))->Q v H'
def cX (c:FR) (i:Nat) (pr:PTA):PTE:=fun ρ Q=>match ρ[i]? with
 | some (some _)=>pr ρ fun as ρ1=>(match ρ1[i]?,avD as with
  | some (some p),some ds=>p.isOwn=true/\c p ds fun r p'=>Q r (ρ1.set i (some p'))
  | _,_=>False)
 | _=>False
theorem bP {c:FR}{i:Nat} (h:LAs K tr pr):LE K (eY (spR K c) [] E0 (bx (a9 i) tr)) (cX c i pr):=fun A ρ σ H Q Q' R q k=>by
 unfold cX at q
 split at q
 .rename_i p0 e0
  obtain ⟨v0,s0,_⟩:=R.get i p0 e0
  refine ⟨v0,s0,h A ρ σ H _ _ R q fun vs H1 as ρ1 q1 f1 R1 o1=>?_⟩
  split at q1
  .rename_i p ds e1 ed
   obtain ⟨ow,q1⟩:=q1
   obtain ⟨v1,s1,rs⟩:=R1.get i p e1
   rw [s0] at s1;cases s1
   obtain ⟨a,u,rfl,ea⟩:=rs.ref ow
   rw [List.append_nil]
   have wa:Wr ρ1 σ a:=⟨i,p,e1,ow,s0⟩
   have oeq:fc (fun b=>(OO A ρ1 σ b)/\b≠a) a=OO A ρ1 σ:=funext fun b=>propext ⟨fun z=>z.elim (fun z=>z.1) (fun z=>by rw [z];exact .inr wa),fun z=>by
    by_cases e:b=a
    .exact .inr e
    .exact .inl ⟨z,e⟩⟩
   refine ⟨fun b=>(OO A ρ1 σ b)/\b≠a,a,p,vs,ds,_,rfl,ow,fun b z=>R1.dom2 b z.1,fun z=>z.2 rfl,by rw [oeq];exact rs,by rw [oeq];exact o1.avD ed,q1,fun r p' qr ow' v H' kp ha rs' ov hx=>?_⟩
   rw [oeq] at rs' ov hx
   have domA:∀b,A b->H' b≠none:=fun b z=>by
    have:b≠a:=fun e=>R1.sep b z (by rw [e];exact wa)
    cases eb:H1 b with
    | none=>exact absurd eb (R1.dom b z)
    | some o=>rw [kp b o this eb];exact nofun
   cases r with
   | dat d =>
    obtain ⟨R2,f2⟩:=R1.step (A':=A) e1 ow ow' s0 kp ha (fun _ h=>h) (fun _ h=>.inl h) domA rs'
    exact k v H' _ _ qr (f1.trans f2) ⟨R2,FV.keeps (aU.less fun b z=>z.imp id (f2.ow b)) ov⟩
   | own es =>
    obtain ⟨a',xs,rfl,n1,e2,f⟩:=ov
    have hx:=hx a' rfl rfl
    have na:a'≠a:=fun e=>by rw [e,ea] at n1;cases n1
    have oo2:∀b,OO (fc A a') ρ1 σ b ↔ fc (OO A ρ1 σ) a' b:=fun b=>⟨fun z=>by
     rcases z with (z | z) | z
     .exact .inl (.inl z)
     .exact .inr z
     .exact .inl (.inr z),fun z=>by
     rcases z with (z | z) | z
     .exact .inl (.inl z)
     .exact .inr z
     .exact .inl (.inr z)⟩
    have oo2':OO (fc A a') ρ1 σ=fc (OO A ρ1 σ) a':=funext fun b=>propext (oo2 b)
    obtain ⟨R2,f2⟩:=R1.step (A':=fc A a') e1 ow ow' s0 kp ha (fun _ h=>.inl h) (fun b z=>z.imp id fun z=>by rw [z];exact n1) (fun b z=>z.elim (domA b) fun z=>by rw [z,e2];exact nofun) (by rw [oo2'];exact hx)
    .refine k _ H' (.own es) _ qr (f1.trans f2) ⟨a',xs,rfl,fun z=>R1.dom a' z n1,?_,e2,R2,f.keeps (aU.less fun b z=>?_)⟩
     .cases eb:H a' with
      | none=>rfl
      | some o=>exact absurd n1 (f1.dm a' (by rw [eb];exact nofun))
     .rw [<- oo2'];exact z.imp id (f2.ow b)
   | ins c ns es =>
    obtain ⟨a',dx,fs,rfl,n1,e2,m,f⟩:=ov
    have hx:=hx a' rfl rfl
    have oo2':OO (fc A a') ρ1 σ=fc (OO A ρ1 σ) a':=funext fun b=>propext ⟨fun z=>by
     rcases z with (z | z) | z
     .exact .inl (.inl z)
     .exact .inr z
     .exact .inl (.inr z),fun z=>by
     rcases z with (z | z) | z
     .exact .inl (.inl z)
     .exact .inr z
     .exact .inl (.inr z)⟩
    obtain ⟨R2,f2⟩:=R1.step (A':=fc A a') e1 ow ow' s0 kp ha (fun _ h=>.inl h) (fun b z=>z.imp id fun z=>by rw [z];exact n1) (fun b z=>z.elim (domA b) fun z=>by rw [z,e2];exact nofun) (by rw [oo2'];exact hx)
    .refine k _ H' (.ins c ns es) _ qr (f1.trans f2) ⟨a',dx,fs,rfl,fun z=>R1.dom a' z n1,?_,e2,m,R2,f.keeps (aU.less fun b z=>?_)⟩
     .cases eb:H a' with
      | none=>rfl
      | some o=>exact absurd n1 (f1.dm a' (by rw [eb];exact nofun))
     .rw [<- oo2'];exact z.imp id (f2.ow b)
  .exact q1.elim
 .exact q.elim
def Ap (Q:PV->PV->Prop) (r:PV) (ρ:PSt):Prop:=match ρ[0]? with
 | some (some p)=>p.isOwn=true/\Q r p
 | _=>False
theorem fnR {c:FR}{N:List Str} (hl:LS K [0] ts ps) (hn:∀p ds Q,c p ds Q->ds.length + 1<=N.length) (hc:∀p ds Q,p.isOwn=true->c p ds Q->ps { nx:=Ap Q (.dat .non),rt:=Ap Q } (dX N.length (p::ds.map .dat)))
  {vs:List V}{H:Hp}{Q:VK}{E:XK} (h:spR K c vs H Q E):ts { nx:=fun _ H'=>Q .non H',rt:=Q } (start N vs) H:=by
 obtain ⟨A,a,p,ws,ds,Qc,rfl,ow,dom,na,rs,fv,hq,k⟩:=h
 have s0:(start N (V.ref a::ws))[0]?=some (some (.ref a)):=k8 rfl
 have b0:(dX N.length (p::ds.map .dat))[0]?=some (some p):=rfl
 have wr:∀b,Wr (dX N.length (p::ds.map .dat)) (start N (.ref a::ws)) b->b=a:=fun b ⟨i,q,e1,o1,s1⟩=>by
  have:=fe e1
  cases i with
  | zero=>rw [s0] at s1;cases s1;rfl
  | succ i =>
   rw [List.getElem?_cons_succ,List.getElem?_map] at this
   cases e2:ds[i]? with
   | none=>rw [e2] at this;cases this
   | some d=>rw [e2] at this;cases this;cases o1
 have wa:Wr (dX N.length (p::ds.map .dat)) (start N (.ref a::ws)) a:=⟨0,p,b0,ow,s0⟩
 have oeq:OO A (dX N.length (p::ds.map .dat)) (start N (.ref a::ws))=fc A a:=funext fun b=>propext ⟨fun z=>z.imp id (wr b),fun z=>z.imp id fun z=>by rw [z];exact wa⟩
 have lenv:=fv.length
 have hle:=hn p ds Qc hq
 have R0:Rel K A (dX N.length (p::ds.map .dat)) (start N (.ref a::ws)) H:=by
  refine ⟨?_,fun i q e=>?_,fun i j q1 q2 v e1 e2 o1 o2 s1 s2=>?_,dom,fun b z w=>?_⟩
  .unfold dX start
   simp only [List.length_append,List.length_map,List.length_replicate,List.length_cons,lenv]
  .have:=fe e
   rw [oeq]
   cases i with
   | zero=>cases this;exact ⟨_,s0,rs⟩
   | succ i =>
    rw [List.getElem?_cons_succ,List.getElem?_map] at this
    cases e2:ds[i]? with
    | none=>rw [e2] at this;cases this
    | some d =>
     rw [e2] at this;cases this
     obtain ⟨v,hv,f⟩:=fv.getD e2
     exact ⟨v,k8 (by rw [List.getElem?_cons_succ];exact hv),f⟩
  .have own0:∀(i:Nat) (q:PV),(dX N.length (p::ds.map .dat))[i]?=some (some q)->q.isOwn=true->i=0:=fun i q e o=>by
    have:=fe e
    cases i with
    | zero=>rfl
    | succ i =>
     rw [List.getElem?_cons_succ,List.getElem?_map] at this
     cases e2:ds[i]? with
     | none=>rw [e2] at this;cases this
     | some d=>rw [e2] at this;cases this;cases o
   rw [own0 i q1 e1 o1,own0 j q2 e2 o2]
  .rw [wr b w] at z;exact na z
 have fin:∀(v:V) (r:PV) (ρ':PSt) (σ':St) (H':Hp),Ap Qc r ρ'->Out K A ρ' σ' H H' r v->fu [(0,.ref a)] (fun b=>b=a) H ρ' σ' H'->Q v H':=fun v r ρ' σ' H' q o F=>by
  unfold Ap at q
  split at q
  .rename_i p' e'
   obtain ⟨ow',q⟩:=q
   have sa:=F.fx (0,.ref a) (List.mem_singleton.mpr rfl)
   have wa':Wr ρ' σ' a:=⟨0,p',e',ow',sa⟩
   have kpa:∀b o,b≠a->H b=some o->H' b=some o:=fun b o n e=>F.kp b o n e
   cases r with
   | dat d =>
    obtain ⟨R1,f1⟩:=o
    obtain ⟨v1,s1,rs1⟩:=R1.get 0 p' e'
    rw [sa] at s1;cases s1
    have less:∀b,fc A a b->OO A ρ' σ' b:=fun b z=>z.imp id fun z=>by rw [z];exact wa'
    exact k _ p' q ow' v H' kpa (R1.wr wa') (rs1.keeps (aU.less less) fun _ _ _=>rfl) (f1.keeps (aU.less less)) (fun _ _ z=>nomatch z)
   | own es =>
    obtain ⟨a',xs,rfl,n1,n2,e3,R1,f1⟩:=o
    obtain ⟨v1,s1,rs1⟩:=R1.get 0 p' e'
    rw [sa] at s1;cases s1
    have less:∀b,fc (fc A a) a' b->OO (fc A a') ρ' σ' b:=fun b z=>by
     rcases z with (z | z) | z
     .exact .inl (.inl z)
     .exact .inr (by rw [z];exact wa')
     .exact .inl (.inr z)
    exact k _ p' q ow' _ H' kpa (R1.wr wa') (rs1.keeps (aU.less fun b z=>less b (.inl z)) fun _ _ _=>rfl) ⟨a',xs,rfl,n2,e3,f1.keeps (aU.less less)⟩ (fun a'' e _=>by cases e;exact rs1.keeps (aU.less less) fun _ _ _=>rfl)
   | ins c ns es =>
    obtain ⟨a',dx,fs,rfl,n1,n2,e3,m,R1,f1⟩:=o
    obtain ⟨v1,s1,rs1⟩:=R1.get 0 p' e'
    rw [sa] at s1;cases s1
    have less:∀b,fc (fc A a) a' b->OO (fc A a') ρ' σ' b:=fun b z=>by
     rcases z with (z | z) | z
     .exact .inl (.inl z)
     .exact .inr (by rw [z];exact wa')
     .exact .inl (.inr z)
    exact k _ p' q ow' _ H' kpa (R1.wr wa') (rs1.keeps (aU.less fun b z=>less b (.inl z)) fun _ _ _=>rfl) ⟨a',dx,fs,rfl,n2,e3,m,f1.keeps (aU.less less)⟩ (fun a'' e _=>by cases e;exact rs1.keeps (aU.less less) fun _ _ _=>rfl)
  .exact q.elim
 refine hl [(0,.ref a)] A (fun b=>b=a) H _ _ H _ _ rfl R0 ⟨fun _ _ _ h=>h,fun _ h=>h,fun b w=>.inl (wr b w),fun q hq=>by rw [List.mem_singleton.mp hq];exact s0⟩ (hc p ds Qc ow hq) (fun ρ' σ' H' q r F=>fin .non (.dat .non) ρ' σ' H' q ⟨r,.non⟩ F) (fun v p ρ' σ' H' q o F=>fin v p ρ' σ' H' q o F) (fun _ _ _ z=>z.elim) (fun _ _ _ z=>z.elim)
end
def DX:FN:=fun as Q=>∃ns:List Int,as=[.scr ns]/\ns.length<=63/\Q (.dat (.bl true))
theorem zv {K:PySem.W.Frag}{vs:List V}{H:Hp}{Q:VK}{E:XK} (h:tu K vs H Q E):spP K DX vs H Q E:=by
 obtain ⟨a,ns,rfl,hS,h63,q⟩:=h
 refine ⟨fun _=>False,[.scr ns],fun r=>r=.dat (.bl true),nofun,.cons (.scr ?_) .nil,⟨ns,rfl,h63,rfl⟩,fun r e v H' g o=>?_⟩
 .rcases hS with h | h
  .exact .inl ⟨id,h⟩
  .exact .inr h
 .subst e
  cases o
  exact q H'
section
variable {K:PySem.W.Frag}{X:Cx}
def BB:List V->Hp->VK->Prop:=fun xs H Q=>∃i j,xs=[.int i,.int j]/\Q (.int (if j < i then j else i)) H
def BC:List V->Hp->VK->Prop:=fun xs H Q=>∃i j,xs=[.int i,.int j]/\Q (.int (if j > i then j else i)) H
theorem ye (hc:X.calm=true):bZ X (.builtin "min") BB:=uy hc
theorem BD (hc:X.calm=true):bZ X (.builtin "max") BC:=uw hc
def xq:FN
 | [.int i,.int j],Q=>Q (.dat (.int (if j < i then j else i)))
 | _,_=>False
def zw:FN
 | [.int i,.int j],Q=>Q (.dat (.int (if j > i then j else i)))
 | _,_=>False
theorem vm:LC K BB xq:=by
 intro O H xs as Q Q' dom fs q k
 unfold xq at q
 split at q
 .cases fs with
  | cons a b=>cases b with | cons b c=>cases c;rw [a.int,b.int];exact ⟨_,_,rfl,k _ H _ q (Gr.refl _) (.int _)⟩
 .exact q.elim
theorem zx:LC K BC zw:=by
 intro O H xs as Q Q' dom fs q k
 unfold zw at q
 split at q
 .cases fs with
  | cons a b=>cases b with | cons b c=>cases c;rw [a.int,b.int];exact ⟨_,_,rfl,k _ H _ q (Gr.refl _) (.int _)⟩
 .exact q.elim
def BE (K:PySem.W.Frag):List V->Hp->VK->Prop:=fun xs H Q=>∃(p:Addr) (ns:List Int),xs=[.ref p]/\SqL K H p (ns.map V.int)/\0 < ns.length/\∀m:Int,m∈ns->(∀a∈ns,m<=a)->Q (.int m) H
def BF (K:PySem.W.Frag):List V->Hp->VK->Prop:=fun xs H Q=>∃(p:Addr) (ns:List Int),xs=[.ref p]/\SqL K H p (ns.map V.int)/\Q (.int ns.sum) H
def DY (K:PySem.W.Frag):List V->Hp->VK->Prop:=fun xs H Q=>∃(p:Addr) (bs:List Bool),xs=[.ref p]/\SqL K H p (bs.map V.bl)/\Q (.bl (bs.all id)) H
def DZ (K:PySem.W.Frag):List V->Hp->VK->Prop:=fun xs H Q=>∃(p:Addr) (bs:List Bool),xs=[.ref p]/\SqL K H p (bs.map V.bl)/\Q (.bl (bs.any id)) H
theorem BG (K:PySem.W.Frag) (e:X.K=K) (hc:X.calm=true):bZ X (.builtin "min") (BE K):=by subst e;exact vb hc
theorem se (K:PySem.W.Frag) (e:X.K=K) (hc:X.calm=true):bZ X (.builtin "sum") (BF K):=by subst e;exact pq hc
theorem vn (K:PySem.W.Frag) (e:X.K=K) (hc:X.calm=true):bZ X (.builtin "all") (DY K):=by subst e;exact xf hc
theorem Dl (K:PySem.W.Frag) (e:X.K=K) (hc:X.calm=true):bZ X (.builtin "any") (DZ K):=by subst e;exact xg hc
def zy:FN
 | [.lst ds],Q=>∃ns:List Int,ds=ns.map .int/\0 < ns.length/\∀m:Int,m∈ns->(∀a∈ns,m<=a)->Q (.dat (.int m))
 | _,_=>False
def tH:FN
 | [.lst ds],Q=>∃ns:List Int,ds=ns.map .int/\Q (.dat (.int ns.sum))
 | _,_=>False
def zA:FN
 | [.lst ds],Q=>∃bs:List Bool,ds=bs.map .bl/\Q (.dat (.bl (bs.all id)))
 | _,_=>False
def Dm:FN
 | [.lst ds],Q=>∃bs:List Bool,ds=bs.map .bl/\Q (.dat (.bl (bs.any id)))
 | _,_=>False
theorem zB:LC K (BE K) zy:=by
 intro O H xs as Q Q' dom fs q k
 unfold zy at q
 split at q
 .obtain ⟨ns,rfl,h0,q⟩:=q
  cases fs with
  | cons a b =>
   cases b
   obtain ⟨p,ys,rfl,e1,f1⟩:=a.lst
   rw [f1.ints] at e1
   exact ⟨p,ns,rfl,SqL.of e1,h0,fun m hm hle=>k _ H _ (q m hm hle) (Gr.refl _) (.int _)⟩
 .exact q.elim
theorem nJ:LC K (BF K) tH:=by
 intro O H xs as Q Q' dom fs q k
 unfold tH at q
 split at q
 .obtain ⟨ns,rfl,q⟩:=q
  cases fs with
  | cons a b =>
   cases b
   obtain ⟨p,ys,rfl,e1,f1⟩:=a.lst
   rw [f1.ints] at e1
   exact ⟨p,ns,rfl,SqL.of e1,k _ H _ q (Gr.refl _) (.int _)⟩
 .exact q.elim
theorem pD:LC K (DY K) zA:=by
 intro O H xs as Q Q' dom fs q k
 unfold zA at q
 split at q
 .obtain ⟨ns,rfl,q⟩:=q
  cases fs with
  | cons a b =>
   cases b
   obtain ⟨p,ys,rfl,e1,f1⟩:=a.lst
   rw [f1.bls] at e1
   exact ⟨p,ns,rfl,SqL.of e1,k _ H _ q (Gr.refl _) (.bl _)⟩
 .exact q.elim
theorem BH:LC K (DZ K) Dm:=by
 intro O H xs as Q Q' dom fs q k
 unfold Dm at q
 split at q
 .obtain ⟨ns,rfl,q⟩:=q
  cases fs with
  | cons a b =>
   cases b
   obtain ⟨p,ys,rfl,e1,f1⟩:=a.lst
   rw [f1.bls] at e1
   exact ⟨p,ns,rfl,SqL.of e1,k _ H _ q (Gr.refl _) (.bl _)⟩
 .exact q.elim
def zC (K:PySem.W.Frag):List V->Hp->VK->Prop:=fun xs H Q=>∃p ys,xs=[.ref p]/\((SqL K H p ys/\∀l,H l=none->Q (.ref l) (upd H l (.tup ys)))\/(SqT K H p ys/\Q (.ref p) H))
theorem fz (K:PySem.W.Frag) (e:X.K=K):bZ X (.type "tuple") (zC K):=by subst e;exact nu
theorem k9 (K:PySem.W.Frag) (e:X.K=K):bZ X (.type "list") (ip K):=by subst e;exact oR
def gw:FN
 | [.lst ds],Q=>Q (.dat (.tup ds))
 | [.tup ds],Q=>Q (.dat (.tup ds))
 | [.scr ns],Q=>Q (.dat (.tup (ns.map .int)))
 | _,_=>False
def qJ:FN
 | [.lst ds],Q=>Q (.own ds)
 | [.tup ds],Q=>Q (.own ds)
 | [.scr ns],Q=>Q (.own (ns.map .int))
 | _,_=>False
theorem dY:LC K (zC K) gw:=by
 intro O H xs as Q Q' dom fs q k
 unfold gw at q
 split at q
 .cases fs with
  | cons a b =>
   cases b
   obtain ⟨p,ys,rfl,e1,f1⟩:=a.lst
   exact ⟨p,ys,rfl,.inl ⟨SqL.of e1,fun l hl=>k _ _ _ q (Gr.new hl) (kW dom hl f1)⟩⟩
 .cases fs with
  | cons a b =>
   cases b
   obtain ⟨p,ys,rfl,n1,e1,f1⟩:=a.tup
   exact ⟨p,ys,rfl,.inr ⟨SqT.of e1,k _ H _ q (Gr.refl _) (.tup n1 e1 f1)⟩⟩
 .cases fs with
  | cons a b =>
   cases b
   obtain ⟨p,rfl,e1⟩:=a.scr
   exact ⟨p,_,rfl,.inl ⟨e1,fun l hl=>k _ _ _ q (Gr.new hl) (kW dom hl (FVs.of_ints _))⟩⟩
 .exact q.elim
theorem lc:LC K (ip K) qJ:=by
 intro O H xs as Q Q' dom fs q k
 unfold qJ at q
 split at q
 .cases fs with
  | cons a b =>
   cases b
   obtain ⟨p,ys,rfl,e1,f1⟩:=a.lst
   exact ⟨p,ys,rfl,.inl (SqL.of e1),fun l hl=>k _ _ _ q (Gr.new hl) (e5 hl f1)⟩
 .cases fs with
  | cons a b =>
   cases b
   obtain ⟨p,ys,rfl,n1,e1,f1⟩:=a.tup
   exact ⟨p,ys,rfl,.inr (SqT.of e1),fun l hl=>k _ _ _ q (Gr.new hl) (e5 hl f1)⟩
 .cases fs with
  | cons a b =>
   cases b
   obtain ⟨p,rfl,e1⟩:=a.scr
   exact ⟨p,_,rfl,.inl e1,fun l hl=>k _ _ _ q (Gr.new hl) (e5 hl (FVs.of_ints _))⟩
 .exact q.elim
variable {ta:TE}{pa:PA1}{tr:TA}{pr:PTA}{pe:PTE}
def pE (i:Int) (n:Nat):List D:=(List.range n).map fun (k:Nat)=>D.int (i + (k:Int))
def mkL (tup:Bool) (ds:List D):PV:=match tup with | true=>.dat (.tup ds) | false=>.own ds
def xr (tup:Bool) (pr:PTA):PTE:=fun ρ Q=>pr ρ fun as ρ1=>match as with
 | [.v (.int j)]=>(0<=j/\j<=1000000)/\Q (mkL tup (pE 0 j.toNat)) ρ1
 | _=>False
theorem BI {O:Addr->Prop}{H:Hp} (i:Int) (n:Nat):FVs K O H (qz i 1 n) (pE i n):=by
 have e:∀l:List Nat,FVs K O H (l.map fun (k:Nat)=>V.int (i + k * 1)) (l.map fun (k:Nat)=>D.int (i + (k:Int))):=fun l=>by
  induction l with
  | nil=>exact .nil
  | cons a r ih=>exact .cons (by show FV K O H (V.int (i + (a:Int) * 1)) (D.int (i + (a:Int)));rw [show i + (a:Int) * 1=i + (a:Int) by omega];exact .int _) ih
 exact e _
theorem mX {i j:Int} (h:i<=j):Builtin.Range.rangeSize i j 1=(((j - i).toNat:Nat):Int):=by
 unfold Builtin.Range.rangeSize
 rw [if_pos (by decide)]
 simp only [Int.ediv_one]
 split <;> omega
theorem tI {i j:Int} (h0:-1000000<=i) (h1:i<=j) (h2:j<=1000000):Builtin.Range.small i j 1=true:=by
 unfold Builtin.Range.small
 rw [mX h1]
 simp only [Builtin.Range.rangeFitsLong,Bool.and_eq_true,Bool.or_eq_true,decide_eq_true_eq,beq_iff_eq,show (1:Int) > 0 by decide,if_true]
 omega
def mkO (tup:Bool):List V->HO:=match tup with | true=>.tup | false=>.lst
theorem BJ {O:Addr->Prop}{H:Hp}{xs:List V}{ds:List D}{p:Addr} (tup:Bool) (dom:∀b,O b->H b≠none) (hp:H p=none) (f:FVs K O H xs ds):px K O H (upd H p (mkO tup xs)) (mkL tup ds) (.ref p):=by
 cases tup with
 | true=>exact kW dom hp f
 | false=>exact e5 hp f
theorem nK (tup:Bool) (h:LAs K tr pr):LE K (tCB (CU K (mkO tup)) (bx (fun σ H Q=>tr σ H fun vs H1=>∃j:Int,vs=[.int j]/\∀p,H1 p=none->Q (.ref p) (upd H1 p (x9 p 0 j 1))) e9)) (xr tup pr):=fun A ρ σ H Q Q' R q k=>h A ρ σ H _ _ R q fun vs H1 as ρ1 q1 f1 R1 o1=>by
 split at q1
 .rename_i j
  cases o1 with
  | cons a b =>
   cases b
   cases a
   refine ⟨j,rfl,fun p hp=>⟨p,0,j,1,j.toNat,rfl,aO,tI (by decide) q1.1.1 q1.1.2,by rw [mX q1.1.1,Int.sub_zero],by omega,fun l hl=>?_⟩⟩
   have g:Gr H1 (upd H1 p (x9 p 0 j 1)):=Gr.new hp
   have R2:=R1.gr g
   have g2:Gr (upd H1 p (x9 p 0 j 1)) (upd (upd H1 p (x9 p 0 j 1)) l (mkO tup (qz 0 1 j.toNat))):=Gr.new hl
   exact k _ _ _ ρ1 q1.2 (f1.trans (g.fr.trans g2.fr)) ((px.out R2 g2 (BJ tup R2.dom2 hl (BI 0 _))).h0 fun b z=>(g.fr (ρ:=ρ1) (σ:=σ)).dm b (f1.dm b z))
 .exact q1.elim
theorem vo (K:PySem.W.Frag) (e:X.K=K) (hc:X.calm=true):bZ X (.type "list") (CU K (mkO false)):=by subst e;exact tz hc
def sf (pa:PA1):PTE:=fun ρ Q=>pa ρ fun x ρ1=>match cont ρ1 x with
 | some (.lst ds)=>Q (.own ds.reverse) ρ1
 | _=>False
def sg (K:PySem.W.Frag) (te:TE):TE:=fun σ H Q=>te σ H fun x H1=>∃a xs,x=.ref a/\SqL K H1 a xs/\∀l,H1 l=none->Q (.ref l) (upd H1 l (.lst xs.reverse))
theorem qK {e:Expr}{te:TE}{p p1 p2 pos:Pos} (K:PySem.W.Frag) (eK:X.K=K) (hc:X.calm=true) (he:PE X e te) (hg1:Gl X "list") (hm1:X.mg "list"=none) (hg2:Gl X "reversed") (hm2:X.mg "reversed"=none)
  (hs:starEach [.Call (.Name "reversed" p1) [e] [] p2] X.env=[(false,eval (.Call (.Name "reversed" p1) [e] [] p2) X.env)]:=by rfl) (hs2:starEach [e] X.env=[(false,eval e X.env)]:=by rfl) :
  PE X (.Call (.Name "list" p) [.Call (.Name "reversed" p1) [e] [] p2] [] pos) (sg K te):=by subst eK;exact tE hc he hg1 hm1 hg2 hm2 hs hs2
theorem tJ (h:LA1 K ta pa):LE K (sg K ta) (sf pa):=fun A ρ σ H Q Q' R q k=>h A ρ σ H _ _ R q fun v H1 a ρ1 q1 f1 R1 o1=>by
 split at q1
 .rename_i ds e
  obtain ⟨p,xs,rfl,e1,fs⟩:=(R1.cont o1 e).lst
  refine ⟨p,xs,rfl,SqL.of e1,fun l hl=>?_⟩
  have g:Gr H1 (upd H1 l (.lst xs.reverse)):=Gr.new hl
  exact k _ _ _ ρ1 q1 (f1.trans g.fr) ((px.out (p:=.own ds.reverse) R1 g (e5 hl fs.reverse)).h0 f1.dm)
 .exact q1.elim
abbrev FM:=List Nat->List D->(PV->Prop)->Prop
def LM (K:PySem.W.Frag) (r:V->List V->Hp->VK->Prop) (f:FM):Prop:=∀(O:Addr->Prop) (H:Hp) (l:List Nat) (xs:List V) (as:List D) (Q:PV->Prop) (Q':VK),(∀b,O b->H b≠none)->l.length<=1000000->Am K O H xs as->f l as Q ->
 (∀v H' p,Q p->Gr H H'->px K O H H' p v->Q' v H')->r (.str (S l)) xs H Q'
def pSM (f:FM) (pe:PTE) (pr:PTA):PTE:=fun ρ Q=>pe ρ fun p ρ1=>match p with
 | .dat (.str l)=>pr ρ1 fun as ρ2=>(match conts ρ2 as with
  | some ds=>f l ds fun r=>Q r ρ2
  | none=>False)
 | _=>False
theorem BK {r:V->List V->Hp->VK->Prop}{f:FM} (o:LM K r f) (he:LE K ta pe) (hr:LAs K tr pr):LE K (tBM K "str" r ta tr) (pSM f pe pr):=fun A ρ σ H Q Q' R q k=>he A ρ σ H _ _ R q fun v H1 p ρ1 q1 f1 o1=>by
 split at q1
 .rename_i l
  obtain ⟨R1,fv⟩:=o1
  cases fv with
  | str _ hl =>
   refine ⟨rfl,hr A ρ1 σ H1 _ _ R1 q1 fun vs H2 as ρ2 q2 f2 R2 o2=>?_⟩
   split at q2
   .rename_i ds e
    exact o _ H2 l vs ds _ _ R2.dom2 hl (R2.conts o2 e) q2 fun z H3 p q3 g ov=>k z H3 p ρ2 q3 ((f1.trans f2).trans g.fr) ((ov.out R2 g).h0 fun b z=>f2.dm b (f1.dm b z))
   .exact q2.elim
 .exact q1.elim
def BL:V->List V->Hp->VK->Prop:=fun x xs H Q=>∃a b,x=.str (S a)/\xs=[.str (S b)]/\Q (.bl (decide (b <:+ a))) H
def yf:V->List V->Hp->VK->Prop:=fun x xs H Q=>∃a b,x=.str (S a)/\xs=[.str (S b)]/\Q (.int (fnd a b 0)) H
theorem zD:MtR X "str.endswith" BL:=qy
theorem xt:MtR X "str.find" yf:=wZ
def zE:FM
 | a,[.str b],Q=>Q (.dat (.bl (decide (b <:+ a))))
 | _,_,_=>False
def vp:FM
 | a,[.str b],Q=>Q (.dat (.int (fnd a b 0)))
 | _,_,_=>False
theorem zF:LM K BL zE:=by
 intro O H l xs as Q Q' dom hl fs q k
 unfold zE at q
 split at q
 .cases fs with | cons a b=>cases b;rw [a.str.1];exact ⟨_,_,rfl,rfl,k _ H _ q (Gr.refl _) (.bl _)⟩
 .exact q.elim
theorem xu:LM K yf vp:=by
 intro O H l xs as Q Q' dom hl fs q k
 unfold vp at q
 split at q
 .cases fs with | cons a b=>cases b;rw [a.str.1];exact ⟨_,_,rfl,rfl,k _ H _ q (Gr.refl _) (.int _)⟩
 .exact q.elim
def eM (f:Str):List Str->Option Nat
 | []=>none
 | n::r=>if n=f then some 0 else (eM f r).map (· + 1)
theorem pF {f:Str}:∀{fs:List (Str×V)}{k:Nat},eM f (fs.map Prod.fst)=some k->fs.lookup f=(fs.map Prod.snd)[k]?
 | [],k,h=>by cases h
 | (n,v)::r,k,h=>by
  unfold eM at h
  rw [List.map_cons] at h
  simp only at h
  rw [List.lookup_cons]
  by_cases e:n=f
  .rw [if_pos e] at h;cases h
   rw [show (f == n)=true by rw [e];exact beq_self_eq_true _];rfl
  .rw [if_neg e] at h
   rw [show (f == n)=false from beq_eq_false_iff_ne.mpr fun z=>e z.symm]
   cases e2:eM f (r.map Prod.fst) with
   | none=>rw [e2] at h;cases h
   | some j=>rw [e2] at h;cases h;show List.lookup f r=_;rw [pF e2];simp
theorem lf {f:Str}:∀{fs:List (Str×V)},eM f (fs.map Prod.fst)=none->fs.lookup f=none
 | [],h=>rfl
 | (n,v)::r,h=>by
  unfold eM at h
  rw [List.map_cons] at h
  simp only at h
  rw [List.lookup_cons]
  by_cases e:n=f
  .rw [if_pos e] at h;cases h
  .rw [if_neg e] at h
   rw [show (f == n)=false from beq_eq_false_iff_ne.mpr fun z=>e z.symm]
   cases e2:eM f (r.map Prod.fst) with
   | none=>exact lf e2
   | some j=>rw [e2] at h;cases h
theorem nL {f:Str}{v:V}:∀{fs:List (Str×V)},eM f (fs.map Prod.fst)=none->mQ f v fs=fs++[(f,v)]
 | [],h=>rfl
 | (n,x)::r,h=>by
  unfold eM at h
  rw [List.map_cons] at h
  simp only at h
  by_cases e:n=f
  .rw [if_pos e] at h;cases h
  .rw [if_neg e] at h
   cases e2:eM f (r.map Prod.fst) with
   | none=>unfold mQ;rw [if_neg e,nL e2];rfl
   | some j=>rw [e2] at h;cases h
theorem FVc.obj {O:Addr->Prop}{H:Hp}{v:V}{c:Str}{ns:List Str}{ds:List D} (h:FVc K O H v (.obj c ns ds)):∃a dx fs,v=.ref a/\H a=some (.ins (bL K c) dx fs)/\fs.map Prod.fst=ns/\FVs K O H (fs.map Prod.snd) ds:=by
 rcases h with h | ⟨a,xs,ds',e1,e2,e3,f⟩ | ⟨a,dx,c,fs,ns,ds',e1,e2,e3,m,f⟩
 .cases h with
  | obj n e m f=>exact ⟨_,_,_,rfl,e,m,f⟩
 .cases e2
 .cases e2;exact ⟨a,dx,fs,e1,e3,m,f⟩
def tK (c0:Str) (ns0:List Str) (k:Nat) (pa:PA1):PTE:=fun ρ Q=>pa ρ fun x ρ1=>match cont ρ1 x with
 | some (.obj c ns ds)=>(c=c0/\ns=ns0)/\∃d,ds[k]?=some d/\Q (.dat d) ρ1
 | _=>False
theorem fW {c0 f:Str}{ns0:List Str}{i:Nat} (hc:Cls K (bL K c0)) (hn:eI K (bL K c0) f) (hk:eM f ns0=some i) (h:LA1 K ta pa):LE K (wv K ta f) (tK c0 ns0 i pa):=fun A ρ σ H Q Q' R q k=>h A ρ σ H _ _ R q fun v H1 a ρ1 q1 f1 R1 o1=>by
 split at q1
 .rename_i c ns ds e
  obtain ⟨⟨rfl,rfl⟩,d,hd,q1⟩:=q1
  obtain ⟨a,dx,fs,rfl,e1,m,f⟩:=(R1.cont o1 e).obj
  obtain ⟨v,hv,fv⟩:=f.getD hd
  exact ⟨a,_,dx,fs,v,rfl,e1,hc,hn,by rw [pF (k:=i) (by rw [m];exact hk)];exact hv,k v H1 _ ρ1 q1 f1 ⟨R1,fv⟩⟩
 .exact q1.elim
def lg (c0:Str) (ns0:List Str) (f:Str) (i:Nat) (pe:PTE):PTS:=fun D ρ=>pe ρ fun p ρ1=>match ρ1[i]? with
 | some (some (.ins c ns ds))=>(c=c0/\ns=ns0/\ns0.length < 1000)/\D.nx (ρ1.set i (some (.ins c0 (ns0++[f]) (ds++[p.d]))))
 | _=>False
theorem jm {fs':List Nat}{c0 f:Str}{ns0:List Str}{i:Nat} (hc:Cls K (bL K c0)) (hn:eI K (bL K c0) f) (hk:eM f ns0=none) (h:LE K ta pe):LS K fs' (DF K (a9 i) ta f) (lg c0 ns0 f i pe):=fun fx A R H0 ρ σ H D D' hf r F q k1 k2 k3 k4=>h A ρ σ H _ _ r q fun v H1 p ρ1 q1 f1 o1=>by
 obtain ⟨R1,fv⟩:=o1.frz
 split at q1
 .rename_i c ns ds e
  obtain ⟨⟨rfl,rfl,hl⟩,q1⟩:=q1
  obtain ⟨w,s,a,dx,fs,rfl,g,m,ff⟩:=R1.get i _ e
  have hk':eM f (fs.map Prod.fst)=none:=by rw [m];exact hk
  have wa:OO A ρ1 σ a:=.inr ⟨i,_,e,rfl,s⟩
  have kw:∀o,aU (OO A ρ1 σ) H1 (OO A ρ1 σ) (upd H1 a o):=fun o b u n h=>⟨n,by rw [aA (fun z=>n (by rw [z];exact wa))];exact h⟩
  obtain ⟨R2,f2⟩:=R1.write (o:=.ins (bL K c) dx (mQ f v fs)) (q:=.ins c (ns++[f]) (ds++[p.d])) e rfl rfl s ⟨a,dx,mQ f v fs,rfl,aO,by rw [nL hk',List.map_append,m];rfl,by rw [nL hk',List.map_append];exact (ff.append (.cons fv .nil)).keeps (kw _)⟩
  refine ⟨_,s,a,_,dx,fs,rfl,g,hc,hn,?_,k1 _ _ _ q1 R2 ((F.fr f1).fr f2)⟩
  have:fs.length=ns.length:=by rw [<- m,List.length_map]
  omega
 .exact q1.elim
def zG (c0:Str) (c:FR) (pr:PTA):PTE:=fun ρ Q=>pr ρ fun as ρ1=>match avD as with
 | some ds=>c (.ins c0 [] []) ds fun r p'=>(match r,p' with
  | .dat .non,.ins c1 ns es=>c1=c0/\Q (.ins c1 ns es) ρ1
  | _,_=>False)
 | none=>False
theorem vq {c0:Str}{c:FR} (h:LAs K tr pr):LE K (wI (bL K c0) (spR K c) [] E0 tr) (zG c0 c pr):=fun A ρ σ H Q Q' R q k=>h A ρ σ H _ _ R q fun vs H1 as ρ1 q1 f1 R1 o1=>by
 split at q1
 .rename_i ds e
  intro x dx hx hdx hne
  rw [List.append_nil]
  let H2:=upd (upd H1 dx (.own x)) x (.ins (bL K c0) dx [])
  have g2:Gr H1 H2:=fun b o z=>by
   show upd (upd H1 dx (.own x)) x _ b=_
   rw [aA (bv z hx),aA (bv z hdx)];exact z
  have nx:¬ OO A ρ1 σ x:=R1.oo hx
  have keep2:aU (OO A ρ1 σ) H1 (fc (OO A ρ1 σ) x) H2:=fun b o n z=>by
   refine ⟨fun y=>?_,g2 b o z⟩
   rcases y with y | y
   .exact n y
   .rw [y,hx] at z;cases z
  refine ⟨OO A ρ1 σ,x,.ins c0 [] [],vs,ds,_,rfl,rfl,fun b z=>(g2.fr (ρ:=ρ1) (σ:=σ)).dm b (R1.dom2 b z),nx,⟨x,dx,[],rfl,aO,rfl,.nil⟩,(o1.avD e).keeps keep2,q1,fun r p' qr ow' v H' kp ha rs ov _=>?_⟩
  split at qr
  .obtain ⟨rfl,qr⟩:=qr
   cases ov
   refine ⟨rfl,?_⟩
   obtain ⟨a',dx',fs,ea,e2,m,f⟩:=rs
   cases ea
   have g:Gr H1 H':=fun b o z=>kp b o (bv z hx) (g2 b o z)
   have hx0:H x=none:=by
    cases eb:H x with
    | none=>rfl
    | some o=>exact absurd hx (f1.dm x (by rw [eb];exact nofun))
   refine k _ H' _ ρ1 qr (f1.trans g.fr) ⟨x,dx',fs,rfl,fun z=>nx (.inl z),hx0,e2,m,R1.grA g hx (by rw [e2];exact nofun),f.keeps (aU.less fun b z=>?_)⟩
   rcases z with (z | z) | z
   .exact .inl (.inl z)
   .exact .inr z
   .exact .inl (.inr z)
  .exact qr.elim
 .exact q1.elim
def yg (c0:Str) (ns0:List Str) (c:FN) (pe:PTE) (pr:PTA):PTE:=fun ρ Q=>pe ρ fun p ρ1=>match p.d with
 | .obj c1 ns ds=>(c1=c0/\ns=ns0)/\pr ρ1 fun as ρ2=>(match avD as with
  | some es=>c (.obj c1 ns ds::es) fun r=>Q r ρ2
  | none=>False)
 | _=>False
theorem xv {c0 m:Str}{ns0:List Str}{c:FN} (hm:eM m ns0=none) (he:LE K ta pe) (hr:LAs K tr pr):LE K (yQ (bL K c0) m (spP K c) [] E0 ta tr) (yg c0 ns0 c pe pr):=fun A ρ σ H Q Q' R q k=>he A ρ σ H _ _ R q fun v H1 p ρ1 q1 f1 o1=>by
 obtain ⟨R1,fv⟩:=o1.frz
 split at q1
 .rename_i c1 ns ds e
  rw [e] at fv
  obtain ⟨⟨rfl,rfl⟩,q1⟩:=q1
  obtain ⟨a,dx,fs,rfl,e1,mm,f⟩:=FVc.obj (.inl fv)
  refine ⟨a,dx,fs,rfl,e1,lf (by rw [mm];exact hm),hr A ρ1 σ H1 _ _ R1 q1 fun vs H2 as ρ2 q2 f2 R2 o2=>?_⟩
  split at q2
  .rename_i es e3
   rw [List.append_nil]
   exact ⟨OO A ρ2 σ,_::es,_,R2.dom2,.cons (fv.keeps f2.keeps) (o2.avD e3),q2,fun r qr v H' g ov=>k v H' r ρ2 qr ((f1.trans f2).trans g.fr) ((ov.out R2 g).h0 fun b z=>f2.dm b (f1.dm b z))⟩
  .exact q2.elim
 .exact q1.elim
end
abbrev BM:R2:=rI0 fun i j=>.int (i - j)
abbrev BN:R2:=rI (fun _ j=>0 < j) fun i j=>.int (i % j)
abbrev Dn:R2:=rI CG fun i j=>.int (i / j)
abbrev BO:R2:=rI CH fun i j=>.int (i ^ j.toNat)
abbrev Do:R2:=rI0 fun i j=>.bl (decide (j < i))
abbrev Cu:R2:=rI0 fun i j=>.bl (decide (j<=i))
abbrev Dp:V->Hp->VK->Prop:=rU fun i=>.int (-i)
abbrev xw:F2:=fI0 fun i j=>.int (i - j)
abbrev jn:F2:=fI (fun _ j=>0 < j) fun i j=>.int (i % j)
abbrev uf:F2:=fI (fun _ j=>0 < j/\j < 1073741824) fun i j=>.int (i / j)
abbrev zH:F2:=fI (fun i j=>0<=j/\j<=1000000/\i.natAbs < 2 ^ 64) fun i j=>.int (i ^ j.toNat)
abbrev fGt:F2:=fI0 fun i j=>.bl (decide (j < i))
abbrev fGe:F2:=fI0 fun i j=>.bl (decide (j<=i))
def Cv:D->(PV->Prop)->Prop
 | .int i,Q=>Q (.dat (.int (-i)))
 | _,_=>False
section
variable {K:PySem.W.Frag}{X:Cx}{ta:TE}{tr:TA}{pr:PTA}{ts:TS}{ps:PTS}
theorem nM:OpR X (binaryOp .Sub) BM:=AK
theorem dt:OpR X (binaryOp .Mod) BN:=AM
theorem fX:OpR X (binaryOp .FloorDiv) Dn:=yI
theorem qL:OpR X (binaryOp .Pow) BO:=AN
theorem yh:OpR X (compareOp .Gt) Do:=CM
theorem Cw:OpR X (compareOp .GtE) Cu:=CN
theorem yi:LU K Dp Cv:=by
 intro O H x a Q Q' dom fx q k
 unfold Cv at q
 split at q
 .rename_i i;exact ⟨i,fx.int,k _ H _ q (Gr.refl _) (.int _)⟩
 .exact q.elim
theorem xx {es:List Expr}{ct:Nat}{tp:Pos} (K:PySem.W.Frag) (e:X.K=K) {a:Expr}{ta:TA}{p pos:Pos} (hg:Gl X "enumerate") (hm:X.mg "enumerate"=none) (ha:PA X [a] ta) (hs:starEach [a] X.env=[(false,eval a X.env)]:=by rfl) :
  PI X (.Tuple es ct tp) (.Call (.Name "enumerate" p) [a] [] pos) (zf K ta):=by subst e;exact zg hg hm ha hs
theorem iR {ix:List (Option Nat)}{fs:List Nat}{i:Nat} (h:∀k∈fs,k∈vh ix) (hi:(vh ix).contains i=false):fs.contains i=false:=by
 cases e:fs.contains i with
 | false=>rfl
 | true =>
  have:=h i (List.contains_iff_mem.mp e)
  rw [List.contains_iff_mem.mpr this] at hi;cases hi
theorem l8 (t:Value) (b c:Bool) (h1:PySem.W.kitOne K t (.type "list")=some b) (h2:PySem.W.kitOne K t (.type "tuple")=some c):PySem.W.kitAny K t [.type "list",.type "tuple"]=some (b || c):=by
 simp only [PySem.W.kitAny,h1,h2]
 cases b <;> cases c <;> rfl
def yj (c:FN) (es:List D) (pr:PTA):PTE:=fun ρ Q=>pr ρ fun as ρ1=>match avD as with
 | some ds=>c (ds++es) fun r=>Q r ρ1
 | none=>False
theorem xy {c:FN}{vs0:List V}{ds:List D} (hd:∀{O:Addr->Prop}{H:Hp},FVs K O H vs0 ds) (h:LAs K tr pr):LE K (eY (spP K c) vs0 E0 tr) (yj c ds pr):=fun A ρ σ H Q Q' R q k=>h A ρ σ H _ _ R q fun vs H1 as ρ1 q1 f1 R1 o1=>by
 split at q1
 .rename_i es e
  exact ⟨OO A ρ1 σ,_,_,R1.dom2,(o1.avD e).append hd,q1,fun r qr v H' g ov=>k v H' r ρ1 qr (f1.trans g.fr) ((ov.out R1 g).h0 f1.dm)⟩
 .exact q1.elim
theorem ir {c:FN}{n:Nat} (hn:∀ds Q,c ds Q->ds.length=n) {vs:List V}{H:Hp}{Q:VK}{E:XK} (h:spP K c vs H Q E):vs.length=n:=by
 obtain ⟨O,ds,Qc,_,f,hq,_⟩:=h
 rw [f.length];exact hn ds Qc hq
theorem Aq {c:FR}{n:Nat} (hn:∀p ds Q,c p ds Q->ds.length + 1=n) {vs:List V}{H:Hp}{Q:VK}{E:XK} (h:spR K c vs H Q E):vs.length=n:=by
 obtain ⟨A,a,p,ws,ds,Qc,rfl,_,_,_,_,f,hq,_⟩:=h
 rw [List.length_cons,f.length];exact hn p ds Qc hq
abbrev dg (pp:PTS) (n:Nat) (ds:List D) (Q:PV->Prop):Prop:=pp { nx:=fun _=>Q (.dat .non),rt:=fun p _=>Q p } (dX n (ds.map .dat))
abbrev ug (pp:PTS) (n:Nat) (p:PV) (ds:List D) (Q:PV->PV->Prop):Prop:=pp { nx:=Ap Q (.dat .non),rt:=Ap Q } (dX n (p::ds.map .dat))
end
end L2
namespace L2
theorem Cal.imp {P:PySem.Program}{w:PySem.World}{K:PySem.W.Frag}{mg:PySem.Str->Option PySem.Value}{base:PySem.Heap}{k:Nat}{x:PySem.Str}{ps:List PySem.Str}{sp sp':Sp} (C:Cal P w K mg base k x ps sp) (h:∀vs H Q E,sp' vs H Q E->sp vs H Q E):Cal P w K mg base k x ps sp':=by
 obtain ⟨f,fd,F,r⟩:=C.ex
 exact ⟨f,fd,F.imp h,r⟩
end L2
namespace L2
open PySem PySem.Spec PyProof.Rows
theorem cfm {ix:List (Option Nat)}{ρ1:PSt}{n:Nat}{it:Nat->D}{g:PTG}{pt:PTT}{pe:PTE}{Q:PKt} (T:PSt->Prop) (f:Nat->Option D) (h0:T (bX ix ρ1))
  (hs:∀k τ d,k < n->d=it k->T τ->∀(K1:D->PSt->Prop) (K2:PSt->Prop),(∀d τ',f k=some d->T τ'->K1 d τ')->(∀τ',f k=none->T τ'->K2 τ')->g (.dat d) τ fun τ2=>pt τ2 fun ok τ3=>iq ok (pe τ3 fun p τ4=>K1 p.d τ4) (K2 τ3))
  (hq:∀τ,T τ->Q (.own ((List.range n).filterMap f)) (eG ix ρ1 τ)) :
  l6 ix ρ1 n it g pt pe Q:=by
 refine ⟨fun k ys τ=>ys=(List.range k).filterMap f/\T τ,⟨rfl,h0⟩,fun k ys τ dd hk ed ⟨e,t⟩=>?_,fun ys τ ⟨e,t⟩=>by rw [e];exact hq τ t⟩
 have r:(List.range (k + 1)).filterMap f=(List.range k).filterMap f++(f k).toList:=by
  rw [List.range_succ,List.filterMap_append]
  cases e:f k with
  | none=>rw [show [k].filterMap f=[] by simp [e]];rfl
  | some d=>rw [show [k].filterMap f=[d] by simp [e]];rfl
 refine hs k τ dd hk ed t (fun d τ'=>(ys++[d]=(List.range (k + 1)).filterMap f/\T τ')) (fun τ'=>(ys=(List.range (k + 1)).filterMap f/\T τ')) (fun d τ' h t'=>⟨?_,t'⟩) (fun τ' h t'=>⟨?_,t'⟩)
 .rw [r,e,h];rfl
 .rw [r,e,h];simp
theorem tM {ix:List (Option Nat)}{ρ1:PSt}{n:Nat}{it:Nat->D}{g:PTG}{pe:PTE}{Q:PKt} (T:PSt->Prop) (f:Nat->D) (h0:T (bX ix ρ1))
  (hs:∀k τ d,k < n->d=it k->T τ->∀K1:D->PSt->Prop,(∀τ',T τ'->K1 (f k) τ')->g (.dat d) τ fun τ2=>pe τ2 fun p τ4=>K1 p.d τ4)
  (hq:∀τ,T τ->Q (.own ((List.range n).map f)) (eG ix ρ1 τ)) :
  l6 ix ρ1 n it g k6 pe Q:=by
 refine cfm T (fun k=>some (f k)) h0 (fun k τ d hk ed t K1 K2 k1 k2=>?_) fun τ t=>?_
 .exact hs k τ d hk ed t K1 fun τ' t'=>k1 _ τ' rfl t'
 .have:(List.range n).filterMap (fun k=>some (f k))=(List.range n).map f:=by rw [<- List.filterMap_eq_map];rfl
  rw [this];exact hq τ t
theorem iS {β:Type} (f:D->β) (ds:List D):(List.range ds.length).map (fun k=>f (itD ds k))=ds.map f:=by
 apply List.ext_getElem?
 intro i
 rw [List.getElem?_map,List.getElem?_map]
 by_cases h:i < ds.length
 .rw [List.getElem?_range h,qG h];rfl
 .rw [List.getElem?_eq_none (by rw [List.length_range];omega),List.getElem?_eq_none (by omega)];rfl
theorem fA {β:Type} (f:Nat->β) (l:List Nat):(List.range l.length).map (fun k=>f (l.getD k 0))=l.map f:=by
 apply List.ext_getElem?
 intro i
 rw [List.getElem?_map,List.getElem?_map]
 by_cases h:i < l.length
 .rw [List.getElem?_range h]
  show some (f (l.getD i 0))=_
  rw [List.getD_eq_getElem?_getD,List.getElem?_eq_getElem h];rfl
 .rw [List.getElem?_eq_none (by rw [List.length_range];omega),List.getElem?_eq_none (by omega)];rfl
def pw (ws:List (List Nat)) (k:Nat):List Nat:=ws.getD k []
theorem iT {ws:List (List Nat)}{k:Nat} (h:k < ws.length):ws[k]?=some (pw ws k):=by unfold pw;rw [List.getD_eq_getElem?_getD,List.getElem?_eq_getElem h];rfl
theorem iU {ws:List (List Nat)}{k:Nat} (h:k < ws.length):pw ws k∈ws:=List.mem_of_getElem? (iT h)
theorem gy {ws:List (List Nat)}{k:Nat} (h:k < (ws.map D.str).length):itD (ws.map D.str) k=.str (pw ws k):=jT (by rw [List.getElem?_map,iT (by rwa [List.length_map] at h)];rfl)
theorem vt {ns:List Int}{k:Nat} (h:k < (ns.map D.int).length):itD (ns.map D.int) k=.int (ns.getD k 0):=jT (by
 have h:k < ns.length:=by rwa [List.length_map] at h
 rw [List.getElem?_map,List.getD_eq_getElem?_getD,List.getElem?_eq_getElem h];rfl)
theorem dU {ws:List (List Nat)}{i:Int}{k:Nat} (h:k < ws.length) (e:i=(k:Int)):atI (ws.map D.str) i=some (.str (pw ws k)):=fb (j:=k) (by rw [List.getElem?_map,iT h];rfl) e
theorem pG {l:List Nat}{k:Nat} (h:k < l.length):l.take (k + 1)=l.take k++[l.getD k 0]:=by
 rw [List.take_succ,List.getD_eq_getElem?_getD,List.getElem?_eq_getElem h];rfl
def Pc (m:Nat) (w:List Nat):Prop:=0 < w.length/\w.length<=m/\Lts w
def Pcs (m:Nat) (ws:List (List Nat)):Prop:=∀w∈ws,Pc m w
def ltB (c:Nat):Bool:=decide (97<=c) && decide (c<=122)
def xz:D->Int->Int->Bool
 | .str l,a,b=>(decide (a<=(l.length:Int)) && decide ((l.length:Int)<=b)) && l.all ltB
 | _,_,_=>false
theorem nN (l:List Nat) (a b:Int):xz (.str l) a b=((decide (a<=(l.length:Int)) && decide ((l.length:Int)<=b)) && l.all ltB):=rfl
def Dq:D->Nat
 | .str l=>l.length
 | _=>0
theorem lh {l:List Nat}:l.all ltB=true ↔ Lts l:=by
 rw [List.all_eq_true]
 unfold Lts ltB
 constructor
 .intro h c hc
  have:=h c hc
  rw [Bool.and_eq_true,decide_eq_true_eq,decide_eq_true_eq] at this
  exact this
 .intro h c hc
  rw [Bool.and_eq_true,decide_eq_true_eq,decide_eq_true_eq]
  exact h c hc
theorem vv {w:List Nat}:xz (.str w) 1 60=true ↔ Pc 60 w:=by
 unfold xz Pc
 rw [Bool.and_eq_true,Bool.and_eq_true,decide_eq_true_eq,decide_eq_true_eq,lh]
 constructor
 .rintro ⟨⟨h1,h2⟩,h3⟩;exact ⟨by omega,by omega,h3⟩
 .rintro ⟨h1,h2,h3⟩;exact ⟨⟨by omega,by omega⟩,h3⟩
theorem qM (i j:Nat):(!decide (([j]:List Nat) < [i]))=decide (i<=j):=by
 by_cases h:i<=j
 .rw [decide_eq_true h]
  have:¬ ([j]:List Nat) < [i]:=by
   rw [List.cons_lt_cons_iff]
   rintro (z | ⟨_,z⟩)
   .omega
   .exact absurd z (List.lt_irrefl _)
  rw [decide_eq_false this];rfl
 .rw [decide_eq_false h]
  have:([j]:List Nat) < [i]:=by
   rw [List.cons_lt_cons_iff];exact .inl (by omega)
  rw [decide_eq_true this];rfl
theorem qN:∀ws:List (List Nat),D.pys (ws.map .str)=ws.map fun w=>PyData.str (S w)
 | []=>rfl
 | w::r=>by rw [List.map_cons,List.map_cons,<- qN r];rfl
theorem mY:∀ws:List (List Nat),D.plains (ws.map .str)=true
 | []=>rfl
 | w::r=>by rw [List.map_cons];show (true && D.plains (r.map .str))=true;rw [mY r];rfl
theorem nO:∀ns:List Int,D.pys (ns.map .int)=ns.map PyData.int
 | []=>rfl
 | n::r=>by rw [List.map_cons,List.map_cons,<- nO r];rfl
theorem mZ:∀ns:List Int,D.plains (ns.map .int)=true
 | []=>rfl
 | n::r=>by rw [List.map_cons];show (true && D.plains (r.map .int))=true;rw [mZ r];rfl
def Sh (d:D):Prop:=d.plain=true/\SeqAt.shaped d.py=true
theorem ue.of {a b:D} (h:Sh a) (h':Sh b):ue a b:=⟨h.1,h'.1,h.2,h'.2⟩
theorem Sh.lstS {ws:List (List Nat)} (h:∀w∈ws,Lts w):Sh (.lst (ws.map .str)):=⟨mY ws,by show SeqAt.shaped (.list (D.pys _))=true;rw [qN];exact pd h⟩
theorem Sh.lstI (ns:List Int):Sh (.lst (ns.map .int)):=⟨mZ ns,by show SeqAt.shaped (.list (D.pys _))=true;rw [nO];exact (kj.list (u5 ns)).shaped (by decide)⟩
theorem si {d:D} (h:Sh d):deq d d=true:=xa h.2
section
variable {X:Cx}{K:PySem.W.Frag}
def BP:PTE:=fun ρ Q=>Q (.dat (.dic [] [])) ρ
theorem zI:LE K ya BP:=fun A ρ σ H Q Q' R q k=>fun p hp =>
 k _ _ (.dat (.dic [] [])) ρ q (Fr.new hp) ⟨R.grow hp,.dic (R.oo hp) aO rfl .nil⟩
def vw (neg:Bool):R2:=fun x y H Q=>∃a b,x=.ref a/\y=.ref b/\H a=some (.dK [])/\H b=some (.dK [])/\Q (.bl (!neg)) H
theorem xA (hu:X.A.units + 64 < cLine):OpR X (compareOp .Eq) (vw false):=by
 intro pins s σ H x y v u Q I rx ry ⟨a,b,e1,e2,h1,h2,q⟩
 subst e1 e2
 cases rx
 cases ry
 obtain ⟨_,y1,vs,r1,p1⟩:=(show cH X.prog X.w H s.heap a (.dK []) from I.hok a _ h1)
 obtain ⟨_,y2,ws,r2,p2⟩:=(show cH X.prog X.w H s.heap b (.dK []) from I.hok b _ h2)
 cases r1
 cases r2
 exact PySem.W.keq_eq (r:=true) y1 y2 p1 p2 (by omega) (fun _=>.nil) ⟨.bl true,H,I,rfl,q⟩
theorem xB (hu:X.A.units + 64 < cLine):OpR X (compareOp .NotEq) (vw true):=by
 intro pins s σ H x y v u Q I rx ry ⟨a,b,e1,e2,h1,h2,q⟩
 subst e1 e2
 cases rx
 cases ry
 obtain ⟨_,y1,vs,r1,p1⟩:=(show cH X.prog X.w H s.heap a (.dK []) from I.hok a _ h1)
 obtain ⟨_,y2,ws,r2,p2⟩:=(show cH X.prog X.w H s.heap b (.dK []) from I.hok b _ h2)
 cases r1
 cases r2
 exact PySem.W.keq_ne (r:=true) y1 y2 p1 p2 (by omega) (fun _=>.nil) ⟨.bl false,H,I,rfl,q⟩
def pH (K:PySem.W.Frag) (neg:Bool):R2:=fun x y H Q=>Bs K neg x y H Q\/vw neg x y H Q
theorem l9 (K:PySem.W.Frag) (e:X.K=K) (hu:X.A.units + 64 < cLine):OpR X (compareOp .Eq) (pH K false):=OpR.or (Ee K e hu) (xA hu)
theorem li (K:PySem.W.Frag) (e:X.K=K) (hu:X.A.units + 64 < cLine):OpR X (compareOp .NotEq) (pH K true):=OpR.or (Ef K e hu) (xB hu)
def uh:F2
 | .dic [] [],.dic [] [],Q=>Q (.dat (.bl true))
 | a,b,Q=>fEq a b Q
def tN:F2
 | .dic [] [],.dic [] [],Q=>Q (.dat (.bl false))
 | a,b,Q=>fNe a b Q
theorem FVc.dic0 {O:Addr->Prop}{H:Hp}{v:V} (h:FVc K O H v (.dic [] [])):∃a,v=.ref a/\H a=some (.dK []):=by
 cases h.fv nofun nofun with
 | dic n e m f =>
  rename_i a kvs
  cases kvs with
  | nil=>exact ⟨a,rfl,e⟩
  | cons x r=>cases m
theorem gW:LO K (pH K false) uh:=by
 intro O H x y a b Q Q' dom fx fy q k
 unfold uh at q
 split at q
 .obtain ⟨a,rfl,e1⟩:=fx.dic0
  obtain ⟨b,rfl,e2⟩:=fy.dic0
  exact .inr ⟨a,b,rfl,rfl,e1,e2,k _ H _ q (Gr.refl _) (.bl _)⟩
 .exact .inl (Db O H x y _ _ Q Q' dom fx fy q k)
theorem gz:LO K (pH K true) tN:=by
 intro O H x y a b Q Q' dom fx fy q k
 unfold tN at q
 split at q
 .obtain ⟨a,rfl,e1⟩:=fx.dic0
  obtain ⟨b,rfl,e2⟩:=fy.dic0
  exact .inr ⟨a,b,rfl,rfl,e1,e2,k _ H _ q (Gr.refl _) (.bl _)⟩
 .exact .inl (Dc O H x y _ _ Q Q' dom fx fy q k)
end
theorem qO:∀ds:List D,D.pys ds=ds.map D.py
 | []=>rfl
 | d::r=>by rw [List.map_cons,<- qO r];rfl
theorem jo:∀ds:List D,D.plains ds=ds.all D.plain
 | []=>rfl
 | d::r=>by rw [List.all_cons,<- jo r];rfl
def Fl (n:Nat) (d:D):Prop:=d.plain=true/\kj n d.py
theorem Fl.sh {n:Nat}{d:D} (h:Fl n d) (hn:n<=64):Sh d:=⟨h.1,h.2.shaped hn⟩
theorem Fl.mono {n m:Nat}{d:D} (h:Fl n d) (hn:n<=m):Fl m d:=⟨h.1,h.2.1,Nat.le_trans h.2.2 hn⟩
theorem Fl.int {n:Nat} (i:Int):Fl n (.int i):=(show Fl 0 (.int i) from ⟨rfl,kj.int i⟩).mono (Nat.zero_le _)
theorem Fl.lst {n:Nat}{ds:List D} (h:∀d∈ds,Fl n d):Fl (n + 1) (.lst ds):=by
 refine ⟨?_,?_⟩
 .show D.plains ds=true
  rw [jo,List.all_eq_true];exact fun d hd=>(h d hd).1
 .show kj (n + 1) (.list (D.pys ds))
  rw [qO]
  refine kj.list fun d hd=>?_
  obtain ⟨x,hx,rfl⟩:=List.mem_map.mp hd
  exact (h x hx).2
theorem Fl.tup {n:Nat}{ds:List D} (h:∀d∈ds,Fl n d):Fl (n + 1) (.tup ds):=by
 refine ⟨?_,?_⟩
 .show D.plains ds=true
  rw [jo,List.all_eq_true];exact fun d hd=>(h d hd).1
 .show kj (n + 1) (.tuple (D.pys ds))
  rw [qO]
  refine kj.tuple fun d hd=>?_
  obtain ⟨x,hx,rfl⟩:=List.mem_map.mp hd
  exact (h x hx).2
theorem Fl.ints {n:Nat} (zs:List Int):∀d∈zs.map D.int,Fl n d:=fun d hd=>by
 obtain ⟨i,_,rfl⟩:=List.mem_map.mp hd
 exact Fl.int i
def lj:D->Bool
 | .int _=>true
 | _=>false
def tO:D->Bool
 | .lst _=>true
 | .tup _=>true
 | _=>false
def bd:D->List D
 | .lst ds=>ds
 | .tup ds=>ds
 | _=>[]
def toI:D->Int
 | .int i=>i
 | _=>0
def cg (d:D) (m:Int):Bool:=tO d && (decide (((bd d).length:Int)=m) && (bd d).all lj)
def Srt (d:D):Prop:=d.sort=true/\∀x∈bd d,x.sort=true
theorem qP:∀{ds:List D},ds.all lj=true->ds=(ds.map toI).map D.int
 | [],_=>rfl
 | d::r,h=>by
  rw [List.all_cons,Bool.and_eq_true] at h
  rw [List.map_cons,List.map_cons,<- qP h.2]
  cases d <;> first | rfl | cases h.1
theorem jp {ds:List D}{k:Nat} (h:k < ds.length):itD ds k∈ds:=List.mem_of_getElem? (qG h)
section
variable {X:Cx}{K:PySem.W.Frag}{te:TE}{pe:PTE}
def zJ:List V->Hp->VK->Prop:=fun xs H Q=>(∃b,xs=[.bl b]/\Q (.int (if b then 1 else 0)) H)\/∃i,xs=[.int i]/\Q (.int i) H
theorem zK:bZ X (.type "int") zJ:=by
 intro pins s σ H xs us Q I r h
 rcases h with ⟨b,rfl,q⟩ | ⟨i,rfl,q⟩
 .obtain ⟨u,rfl,ru⟩:=gR r
  cases (show u=Value.bool b from ru)
  exact call_int_bool ⟨.int _,H,I.tok _,⟨_,rfl⟩,q⟩
 .obtain ⟨u,rfl,t,rfl⟩:=gR r
  exact call_int_int ⟨.int _,H,I,⟨_,rfl⟩,q⟩
def vx:FN
 | [.bl b],Q=>Q (.dat (.int (if b then 1 else 0)))
 | [.int i],Q=>Q (.dat (.int i))
 | _,_=>False
theorem vy:LC K zJ vx:=by
 intro O H xs as Q Q' dom fs q k
 unfold vx at q
 split at q
 .cases fs with | cons a b=>cases b;rw [a.bl];exact .inl ⟨_,rfl,k _ H _ q (Gr.refl _) (.int _)⟩
 .cases fs with | cons a b=>cases b;rw [a.int];exact .inr ⟨_,rfl,k _ H _ q (Gr.refl _) (.int _)⟩
 .exact q.elim
def BQ (K:PySem.W.Frag):List V->Hp->VK->Prop:=fun xs H Q=>∃(p:Addr) (ns:List Int),xs=[.ref p]/\SqL K H p (ns.map V.int)/\0 < ns.length/\∀m:Int,m∈ns->(∀a∈ns,a<=m)->Q (.int m) H
theorem vz (K:PySem.W.Frag) (e:X.K=K) (hc:X.calm=true):bZ X (.builtin "max") (BQ K):=by
 subst e
 intro pins s σ H xs us Q I r h
 obtain ⟨p,ns,rfl,hS,hne,q⟩:=h
 obtain ⟨u,rfl,ru⟩:=gR r
 cases (show u=Value.ref p from ru)
 obtain ⟨its,rv,pl,hz⟩:=I.list hS
 have hi:=gL rv
 have hl:=pl.isList
 obtain ⟨ys,e⟩:=hi.allInts.items
 have hns:ns=ys.toList.map (·.1):=by rw [<- hi.numsOf,<- nums_intItems,<- e]
 have hsz:0 < ys.size:=by
  have h3:=hne;rw [hns,List.length_map,Array.length_toList] at h3;exact h3
 rw [e] at hl
 refine max_intList (by exact I.ok.hd hc) hl hsz fun v h' tk hv hk=>?_
 obtain ⟨t,rfl⟩:=intItems_at hv
 obtain ⟨h1,h2⟩:=argBest_gt (numAt ys) (ys.size - 1)
 refine ⟨.int _,H,I.kept (t':=tk) hk,⟨t,rfl⟩,q _ ?_ fun a ha=>?_⟩
 .rw [hns,numAt_eq];exact getD_mem (by rw [List.length_map,Array.length_toList];omega)
 .rw [hns] at ha
  obtain ⟨j,hj,rfl⟩:=mem_getD ha
  rw [List.length_map,Array.length_toList] at hj
  rw [<- numAt_eq];exact h2 j (by omega)
def vA:FN
 | [.lst ds],Q=>∃ns:List Int,ds=ns.map .int/\0 < ns.length/\∀m:Int,m∈ns->(∀a∈ns,a<=m)->Q (.dat (.int m))
 | _,_=>False
theorem qQ:LC K (BQ K) vA:=by
 intro O H xs as Q Q' dom fs q k
 unfold vA at q
 split at q
 .obtain ⟨ns,rfl,h0,q⟩:=q
  cases fs with
  | cons a b =>
   cases b
   obtain ⟨p,ys,rfl,e1,f1⟩:=a.lst
   rw [f1.ints] at e1
   exact ⟨p,ns,rfl,SqL.of e1,h0,fun m h1 h2=>k _ H _ (q m h1 h2) (Gr.refl _) (.int _)⟩
 .exact q.elim
def vB (i:Nat) (pe:PTE):PTE:=fun ρ Q=>match ρ[i]? with
 | some (some (.own _))=>pe ρ fun p ρ1=>(match ρ1[i]?,p with
  | some (some (.own ds)),.dat (.int j)=>∃k d,(ixN ds.length j=some k/\ds.length<=1000000)/\ds[k]?=some d/\Q (.dat d) (ρ1.set i (some (.own (ds.eraseIdx k))))
  | _,_=>False)
 | _=>False
theorem FVs.eraseIdx {O:Addr->Prop}{H:Hp}:∀{xs:List V}{ds:List D} (k:Nat),FVs K O H xs ds->FVs K O H (xs.eraseIdx k) (ds.eraseIdx k)
 | _,_,_,.nil=>.nil
 | _,_,0,.cons a b=>b
 | _,_,k + 1,.cons a b=>.cons a (FVs.eraseIdx k b)
theorem xC {i:Nat} (h:LE K te pe):LE K (tBM K "list" x8 (a9 i) (bx te e9)) (vB i pe):=fun A ρ σ H Q Q' R q k=>by
 unfold vB at q
 split at q
 .rename_i ds0 e0
  obtain ⟨a0,xs0,s0,g0,f0⟩:=R.ownAt e0
  refine ⟨_,s0,.inl ⟨rfl,xs0,SqL.of g0⟩,h A ρ σ H _ _ R q fun v H1 p ρ1 q1 f1 o1=>?_⟩
  obtain ⟨R1,fv⟩:=o1.frz
  split at q1
  .rename_i ds j e1
   obtain ⟨a,xs,s,g,f⟩:=R1.ownAt e1
   rw [s0] at s;cases s
   obtain ⟨m,d,⟨hm,hl⟩,hd,q1⟩:=q1
   obtain ⟨w,hw,fw⟩:=f.getD hd
   cases (show FV K _ H1 v (.int j) from fv)
   obtain ⟨t1,t2,t3,t4⟩:=qu hm
   obtain ⟨R2,f2⟩:=R1.lstw (es:=ds.eraseIdx m) (ys:=xs.eraseIdx m) e1 s0 (f.eraseIdx m)
   have hx:xs.length=ds.length:=f.length
   exact ⟨a0,xs,j,m,w,rfl,rfl,g,by omega,by omega,by rw [hx];exact t1,hw,k _ _ _ _ q1 (f1.trans f2) ⟨R2,(fw.keeps f2.keeps)⟩⟩
  .exact q1.elim
 .exact q.elim
end
abbrev lc2 (elt t1 i1:Expr) (f1:List Expr) (t2 i2:Expr) (f2:List Expr) (scope:Scope) (pos:Pos):Expr:=.ListComp elt [⟨t1,i1,f1,0⟩,⟨t2,i2,f2,0⟩] scope pos
def tP (e i2:Expr) (acc:Value) (env:Env):Sem Unit:=do
 let x <- eval i2 env
 standAt i2.pos
 let x <- foldedSetIterable i2 env x
 let _ <- runOwn (.compStart e 1 (<- holding [x] (pyIter x)) acc env) env
def vC (elt:Expr) (acc:Value) (env:Env):Sem Unit:=do let _ <- call (.builtin "list.append") [acc,<- eval elt env]
theorem tQ (elt t1 i1:Expr) (f1:List Expr) (t2 i2:Expr) (f2:List Expr) (scope:Scope) (pos:Pos) (it acc:Value) (env:Env) :
  compTurn (lc2 elt t1 i1 f1 t2 i2 f2 scope pos) 0 it acc env=(do
   standAt i1.pos
   match <- pyNext it with
   | none=>pure (.done .next)
   | some v =>
    letOwnedTupleGo t1 it v
    assign t1 env v
    let mut ok:=true
    for c in f1 do
     if ok then ok <- isTrue c env (eval c env)
    if ok then
     let x <- eval i2 env
     standAt i2.pos
     let x <- foldedSetIterable i2 env x
     let _ <- runOwn (.compStart (lc2 elt t1 i1 f1 t2 i2 f2 scope pos) 1 (<- holding [x] (pyIter x)) acc env) env
    again (.compLoop (lc2 elt t1 i1 f1 t2 i2 f2 scope pos) 0 it acc env)):=by rfl
theorem tR {α:Type} (e i2:Expr) (acc:Value) (env:Env) (k:Sem α):(eval i2 env >>= fun x=>standAt i2.pos >>= fun _=>foldedSetIterable i2 env x >>= fun x=>holding [x] (pyIter x) >>= fun it=>runOwn (.compStart e 1 it acc env) env >>= fun _=>k)=(tP e i2 acc env >>= fun _=>k):=by
 unfold tP
 simp only [bind_assoc,pure_bind]
theorem tS (elt t1 i1:Expr) (f1:List Expr) (t2 i2:Expr) (f2:List Expr) (scope:Scope) (pos:Pos) (it acc:Value) (env:Env) :
  compTurn (lc2 elt t1 i1 f1 t2 i2 f2 scope pos) 1 it acc env=(do
   standAt i2.pos
   match <- pyNext it with
   | none=>pure (.done .next)
   | some v =>
    letOwnedTupleGo t2 it v
    assign t2 env v
    let mut ok:=true
    for c in f2 do
     if ok then ok <- isTrue c env (eval c env)
    if ok then
     (vC elt acc env)
    again (.compLoop (lc2 elt t1 i1 f1 t2 i2 f2 scope pos) 1 it acc env)):=by rfl
section
variable {prog:Program}{w:World}{A:Around}{R:Result->Shared->Prop}{s:Shared}
theorem ma {elt t1 i1 t2 i2:Expr}{f1 f2:List Expr}{scope:Scope}{pos:Pos}{it acc:Value}{env:Env} (I:Nat->Shared->Prop)
  (turn:∀n s,I n s->wpAny (model prog w) A (pyNext it) (fun r s₁=>match r with
   | none=>R (.ok .next) s₁
   | some v=>wpAny (model prog w) A (letOwnedTupleGo t1 it v) (fun _ s₂=>wpAny (model prog w) A (assign t1 env v) (fun _ s₃ =>
     wpAny (model prog w) A (forIn f1 true fun c r=>if r=true then do let ok <- isTrue c env (eval c env);pure (ForInStep.yield ok) else pure (ForInStep.yield r)) (fun ok s₄ =>
      if ok=true then wpAny (model prog w) A (tP (lc2 elt t1 i1 f1 t2 i2 f2 scope pos) i2 acc env) (fun _ s₆=>∃m,m < n/\I m s₆) (fun _ _=>False) s₄
      else ∃m,m < n/\I m s₄) (fun _ _=>False) s₃) (fun _ _=>False) s₂) (fun _ _=>False) s₁) (fun _ _=>False) s)
  (n:Nat) (h:I n s) :
  codeAny (model prog w) A (.compLoop (lc2 elt t1 i1 f1 t2 i2 f2 scope pos) 0 it acc env) R s:=by
 refine codeAny_loop rfl I (fun n s hI=>?_) n h
 show wpAny _ A ((compTurn (lc2 elt t1 i1 f1 t2 i2 f2 scope pos) 0 it acc env).onRaise (fun x=>do noteFrame x env;theTreesLotGoes x)) _ _ s
 refine wpAny_noted ?_
 rw [tQ]
 refine wpAny_bind (wpAny_standAt (wpAny_bind (wpAny_mono (turn n s hI) (fun r s₁ h₁=>?_) fun _ _ h'=>h'.elim)))
 cases r with
 | none=>exact wpAny_pure h₁
 | some v =>
  refine wpAny_bind (wpAny_mono h₁ (fun _ s₂ h₂=>?_) fun _ _ h'=>h'.elim)
  refine wpAny_bind (wpAny_mono h₂ (fun _ s₃ h₃=>wpAny_bind (wpAny_mono h₃ (fun ok s₄ h₄=>?_) fun _ _ h'=>h'.elim)) fun _ _ h'=>h'.elim)
  cases ok with
  | false=>exact wpAny_pure ⟨rfl,h₄⟩
  | true =>
   have e:=tR (lc2 elt t1 i1 f1 t2 i2 f2 scope pos) i2 acc env (again (.compLoop (lc2 elt t1 i1 f1 t2 i2 f2 scope pos) 0 it acc env))
   show wpAny _ _ (eval i2 env >>= fun x=>standAt i2.pos >>= fun _=>foldedSetIterable i2 env x >>= fun x=>holding [x] (pyIter x) >>= fun it'=>runOwn (.compStart (lc2 elt t1 i1 f1 t2 i2 f2 scope pos) 1 it' acc env) env >>= fun _=>again (.compLoop (lc2 elt t1 i1 f1 t2 i2 f2 scope pos) 0 it acc env)) _ _ _
   rw [e]
   exact wpAny_bind (wpAny_mono h₄ (fun _ s₆ h₆=>wpAny_pure ⟨rfl,h₆⟩) fun _ _ h'=>h'.elim)
theorem md {elt t1 i1 t2 i2:Expr}{f1 f2:List Expr}{scope:Scope}{pos:Pos}{it acc:Value}{env:Env} (I:Nat->Shared->Prop)
  (turn:∀n s,I n s->wpAny (model prog w) A (pyNext it) (fun r s₁=>match r with
   | none=>R (.ok .next) s₁
   | some v=>wpAny (model prog w) A (letOwnedTupleGo t2 it v) (fun _ s₂=>wpAny (model prog w) A (assign t2 env v) (fun _ s₃ =>
     wpAny (model prog w) A (forIn f2 true fun c r=>if r=true then do let ok <- isTrue c env (eval c env);pure (ForInStep.yield ok) else pure (ForInStep.yield r)) (fun ok s₄ =>
      if ok=true then wpAny (model prog w) A (vC elt acc env) (fun _ s₆=>∃m,m < n/\I m s₆) (fun _ _=>False) s₄
      else ∃m,m < n/\I m s₄) (fun _ _=>False) s₃) (fun _ _=>False) s₂) (fun _ _=>False) s₁) (fun _ _=>False) s)
  (n:Nat) (h:I n s) :
  codeAny (model prog w) A (.compLoop (lc2 elt t1 i1 f1 t2 i2 f2 scope pos) 1 it acc env) R s:=by
 refine codeAny_loop rfl I (fun n s hI=>?_) n h
 show wpAny _ A ((compTurn (lc2 elt t1 i1 f1 t2 i2 f2 scope pos) 1 it acc env).onRaise (fun x=>do noteFrame x env;theTreesLotGoes x)) _ _ s
 refine wpAny_noted ?_
 rw [tS]
 refine wpAny_bind (wpAny_standAt (wpAny_bind (wpAny_mono (turn n s hI) (fun r s₁ h₁=>?_) fun _ _ h'=>h'.elim)))
 cases r with
 | none=>exact wpAny_pure h₁
 | some v =>
  refine wpAny_bind (wpAny_mono h₁ (fun _ s₂ h₂=>?_) fun _ _ h'=>h'.elim)
  refine wpAny_bind (wpAny_mono h₂ (fun _ s₃ h₃=>wpAny_bind (wpAny_mono h₃ (fun ok s₄ h₄=>?_) fun _ _ h'=>h'.elim)) fun _ _ h'=>h'.elim)
  cases ok with
  | false=>exact wpAny_pure ⟨rfl,h₄⟩
  | true=>exact wpAny_bind (wpAny_mono h₄ (fun _ s₆ h₆=>wpAny_pure ⟨rfl,h₆⟩) fun _ _ h'=>h'.elim)
theorem iV {elt t1 i1 t2 i2:Expr}{f1 f2:List Expr}{scope:Scope}{pos:Pos}{it acc:Value}{env:Env}
  (h0:codeAny (model prog w) A (.compLoop (lc2 elt t1 i1 f1 t2 i2 f2 scope pos) 1 it acc env) R s)
  (h:wpAny (model prog w) A (pyIter it) (fun it' s'=>codeAny (model prog w) A (.compLoop (lc2 elt t1 i1 f1 t2 i2 f2 scope pos) 1 it' acc env) R s')
   (notedBy (model prog w) A env fun x s'=>R (.error x) s') s) :
  codeAny (model prog w) A (.compStart (lc2 elt t1 i1 f1 t2 i2 f2 scope pos) 1 it acc env) R s:=by
 refine codeAny_of_tree ?_
 show wpAny _ _ ((compStart (lc2 elt t1 i1 f1 t2 i2 f2 scope pos) 1 it acc env).onRaise (fun x=>do noteFrame x env;standAt theWindowsPlace)) _ _ s
 refine wpAny_notedAt ?_
 unfold compStart
 show wpAny _ _ (ask >>= _) _ _ s
 refine wpAny_bind (wpAny_askSetting (wpAny_ite ?_))
 split
 .first
   | exact wpAny_bind (wpAny_pure (wpAny_pure (And.intro rfl h0)))
   | exact wpAny_pure (And.intro rfl h0)
 .first
   | exact wpAny_bind (wpAny_rule (wpAny_bind (wpAny_standAt (wpAny_bind (wpAny_mono h (fun it' s' h'=>wpAny_pure (And.intro rfl h')) fun _ _ x=>x)))))
end
abbrev TB:=St->Hp->(St->Hp->Prop)->Prop
def PB (Y:Cx) (emit:Sem Unit) (tb:TB):Prop:=∀(pins:List (Addr×Obj)) (s:Shared) (τ:St) (H:Hp) (N:St->Hp->Prop),Inv Y pins τ H s->tb τ H N ->
 wpAny (model Y.prog Y.w) Y.A emit (fun _ s'=>∃τ' H',Inv Y pins τ' H' s'/\N τ' H') (fun _ _=>False) s
def zL (te:TE) (D:Addr):TB:=fun τ H N=>te τ H fun v H6=>∃ys,H6 D=some (.lst ys)/\ys.length < sizeLine/\N τ (upd H6 D (.lst (ys++[v])))
def zM (wi:TI) (g:TG) (tts:TT) (tb:TB):TB:=fun τ H N=>wi τ H fun J H6=>∃W:Nat->Nat->St->Hp->Prop,(∃n,W 0 n τ H6)/\∀j n τ3 H7,W j n τ3 H7 ->
 (J.stop j H7/\N τ3 H7)\/(J.go j H7/\∀y H8,J.yld j H7 y H8->g y τ3 H8 fun τ4 H9=>tts τ4 H9 fun ok H10=>if ok=true then tb τ4 H10 (fun τ5 H11=>∃n',n' < n/\W (j + 1) n' τ5 H11) else ∃n',n' < n/\W (j + 1) n' τ4 H10)
def vD (ix:List (Option Nat)) (wi:TI) (g:TG) (tts:TT) (tb:Addr->TB):TE:=fun σ H Q=>wi σ H fun J H1=>∀D,H1 D=none->∃W:Nat->Nat->St->Hp->Prop,(∃m,W 0 m (oY ix σ) (upd H1 D (.lst [])))/\∀i m τ H2,W i m τ H2 ->
 (J.stop i H2/\Q (.ref D) H2)\/(J.go i H2/\∀x H3,J.yld i H2 x H3->g x τ H3 fun τ2 H4=>tts τ2 H4 fun ok H5=>if ok=true then tb D τ2 H5 (fun τ6 H6=>∃m',m' < m/\W (i + 1) m' τ6 H6)
  else ∃m',m' < m/\W (i + 1) m' τ2 H5)
section
variable {Y:Cx}{elt t1 i1 t2 i2:Expr}{f1 f2:List Expr}{scope:Scope}{pos:Pos}{te:TE}{D:Addr}{wi:TI}{g:TG}{tts:TT}{tb:TB}
theorem zN (hx:Y.xe=fun _ _=>False) (he:PE Y elt te):PB Y (vC elt (.ref D) Y.env) (zL te D):=by
 intro pins s τ H N I h
 have h1:=he pins s τ H _ I h
 rw [hx] at h1
 unfold vC
 refine wpAny_bind (thn h1 fun v s1 ⟨x,H1,I1,r1,ys,hD,hz,q⟩=>?_)
 have h2:=cQ (X:=Y) pins s1 τ H1 (.ref D) [x] (.ref D) [v] (fun _ H'=>N τ H') I1 rfl (.cons r1 .nil) ⟨D,ys,x,rfl,rfl,hD,hz,q⟩
 rw [hx] at h2
 exact wpAny_bind (thn h2 fun _ s2 ⟨_,H2,I2,_,q2⟩=>wpAny_pure ⟨τ,H2,I2,q2⟩)
theorem zO (hx:Y.xe=fun _ _=>False) (hc:Y.calm=true) (hi:PI Y t2 i2 wi) (hg:PG Y t2 g) (ht:PIf Y f2 tts) (hb:PB Y (vC elt (.ref D) Y.env) tb) (hs:∀x,foldedSetIterable i2 Y.env x=pure x:=by intro _;rfl) :
  PB Y (tP (lc2 elt t1 i1 f1 t2 i2 f2 scope pos) i2 (.ref D) Y.env) (zM wi g tts tb):=by
 intro pins s τ H N I h
 have h1:=hi pins s τ H _ I h
 rw [hx] at h1
 unfold tP
 refine wpAny_bind (thn h1 fun v s1 h1=>wpAny_bind (wpAny_standAt (wpAny_bind (wpAny_of_eq (hs v) (wpAny_bind (wpAny_holding (thn h1 fun itv s2 h2=>wpAny_bind (wpAny_runOwn ?_))))))))
 obtain ⟨it,fp,tn,J,H2,e,I2,T,st2,f2',W,⟨m0,w0⟩,turn⟩:=h2
 subst e
 have stat:∀{H':Hp},(∀b∈fp,H' b=none)->∀b∈fp,qt Y pins H' b:=fun hn b hb=>⟨hn b hb,(f2' b hb).2⟩
 have loop:∀s3:Shared,Inv Y pins τ H2 s3->tn 0 s3.heap->codeAny (model Y.prog Y.w) Y.A (.compLoop (lc2 elt t1 i1 f1 t2 i2 f2 scope pos) 1 (.ref it) (.ref D) Y.env)
   (fun r s'=>match r with | .ok f=>wpAny (model Y.prog Y.w) Y.A (pure ()) (fun _ s'=>∃τ' H',Inv Y pins τ' H' s'/\N τ' H') (fun _ _=>False) s' | .error e=>cameBackBy (model Y.prog Y.w) Y.A Y.env (fun _ _=>False) e s') s3:=by
  intro s3 I3 st3
  refine md (fun n s'=>∃i τ' H',Inv Y pins τ' H' s'/\tn i s'.heap/\(∀b∈fp,H' b=none)/\W i n τ' H') ?_ m0 ⟨0,τ,H2,I3,st3,fun b hb=>(f2' b hb).1,w0⟩
  rintro n s5 ⟨i,τ5,H5,I5,st5,fr5,w5⟩
  rcases turn i n τ5 H5 w5 with ⟨stop,qn⟩ | ⟨go,step⟩
  .refine thn (T.done Y rfl rfl rfl hc i pins s5 τ5 H5 (fun _ _=>False) I5 (stat fr5) st5 stop) fun r s6 ⟨hr,I6⟩=>?_
   subst hr
   exact wpAny_pure ⟨τ5,H5,I6,qn⟩
  .refine thn (T.item Y rfl rfl rfl hc i pins s5 τ5 H5 (fun _ _=>False) I5 (stat fr5) st5 go) fun r s6 ⟨u,hr,h6⟩=>?_
   subst hr
   refine thn h6 fun _ s7 ⟨x,H7,I7,r7,y7,st7,fr7⟩=>?_
   have I7':=I7.pinned (stat fr7) (T.obj _ _ st7)
   have again:∀{s8:Shared}{τ8:St}{H8:Hp},Inv Y (pins++kB fp s7.heap) τ8 H8 s8->(∃m',m' < n/\W (i + 1) m' τ8 H8) ->
     ∃m,m < n/\∃i τ' H',Inv Y pins τ' H' s8/\tn i s8.heap/\(∀b∈fp,H' b=none)/\W i m τ' H':=fun {s8 τ8 H8} I8 ⟨m',hm,w8⟩=>by
    refine ⟨m',hm,i + 1,τ8,H8,I8.unpinned,T.keep _ _ _ st7 fun b hb o e=>(I8.pin (b,o) (List.mem_append_right _ (List.mem_append_right _ (de hb e)))).1,fun b hb=>?_,w8⟩
    obtain ⟨o,e,d⟩:=T.obj _ _ st7 b hb
    exact (I8.pin (b,o) (List.mem_append_right _ (List.mem_append_right _ (de hb e)))).2.1
   have h8:=hg _ s7 τ5 H7 x u _ I7' r7 (step x H7 y7)
   rw [hx] at h8
   refine thn h8 fun _ s8 ⟨τ8,H8,I8,q8⟩=>?_
   have h9:=ht _ s8 τ8 H8 _ I8 q8
   rw [hx] at h9
   refine thn h9 fun okb s9 ⟨H9,I9,q9⟩=>?_
   cases okb with
   | false =>
    rw [if_neg Bool.false_ne_true] at q9
    rw [if_neg Bool.false_ne_true]
    exact again I9 q9
   | true =>
    rw [if_pos rfl] at q9
    rw [if_pos rfl]
    exact thn (hb _ s9 τ8 H9 _ I9 q9) fun _ s10 ⟨τ10,H10,I10,q10⟩=>again I10 q10
 exact iV (loop _ I2 st2) (T.self Y.A 0 _ _ _ st2 (loop _ I2 st2))
end
section
variable {X:Cx}{elt t1 i1 t2 i2:Expr}{f1 f2:List Expr}{scope:Scope}{N':List Str}{ix:List (Option Nat)}{wi:TI}{g:TG}{tts:TT}{tb:Addr->TB}
theorem tT {use:Option (Value->Sem Unit)}{Qf:Value->Shared->Prop}{pos p':Pos}{pins:List (Addr×Obj)}{σ:St}{H:Hp}{s:Shared}{Q:VK} (hc:X.calm=true) (ok:rN X.env X.N scope N' ix) (hi:PI X t1 i1 wi)
  (blk:∀s H fp pn D,PG (bt X N' scope s H fp pn) t1 g/\PIf (bt X N' scope s H fp pn) f1 tts/\PB (bt X N' scope s H fp pn) (tP (lc2 elt t1 i1 f1 t2 i2 f2 scope pos) i2 (.ref D) (ny scope s.heap.objs.size X.env)) (tb D))
  (hs:∀x,foldedSetIterable i1 X.env x=pure x) (I:Inv X pins σ H s) (hw:vD ix wi g tts tb σ H Q)
  (fin:∀D C H' s',Inv X pins σ H' s'->Q (.ref D) H'->(∃m,s'.heap.Ns C m)->H' C=none->X.s₀.heap.objs.size<=C->C≠X.env.locals->(∀x c,X.env.cells.lookup x=some c->c≠C)->C∉X.fs->(∀p∈X.pn++pins,p.1≠C) ->
   compPost (model X.prog X.w) X.A X.xe use Qf (.ref D) C (.ok .next) s') :
  wpAny (model X.prog X.w) X.A (comprehension (lc2 elt t1 i1 f1 t2 i2 f2 scope pos) scope X.env p' (newList []) false (eval i1 X.env) use) Qf X.xe s:=by
 have hclos:closureFor scope X.env=pure (ik X.env scope.names []):=fT fun y hy e=>I.ok.has y.1 (ok.free y hy e).1
 refine wpAny_comprehension_free (use:=use) rfl hs hclos ok.kind ok.loc (thn (hi pins s σ H _ I hw) fun v s1 h1=>thn h1 fun itv s2 h2=>?_)
 obtain ⟨it,fp,tn,J,H2,e,I2,T,st2,fq2,hW⟩:=h2
 subst e
 obtain ⟨W,⟨m0,w0⟩,turn⟩:=hW s2.heap.objs.size (I2.hok.fresh (Nat.le_refl _))
 have hfl:∀b∈fp,b < s2.heap.objs.size:=fun b hb=>by
  obtain ⟨o,e,_⟩:=T.obj 0 _ st2 b hb
  exact Heap.lt_size e
 refine wpAny_newObj_type ?_
 have I3:Inv X pins σ (upd H2 s2.heap.objs.size (.lst [])) { s2 with heap:=s2.heap.push { cls:=.type "list",dict:=none,data:=.seq ([]:List Value).toArray } } :=
  I2.laid (t':=s2.toks) (fun b o e=>Heap.get?_push_of_some _ e) (Nat.le_refl _) (show cH X.prog X.w _ _ _ (.lst []) from ⟨Nat.zero_le _,[],0,.nil,Heap.get?_push_size _ rfl⟩)
 have st3:tn 0 (s2.heap.push { cls:=.type "list",dict:=none,data:=.seq ([]:List Value).toArray }):=T.keep 0 _ _ st2 fun b _ o e=>Heap.get?_push_of_some _ e
 have f3:∀b∈fp,qt X pins (upd H2 s2.heap.objs.size (.lst [])) b:=fun b hb=>⟨by rw [aA (Nat.ne_of_lt (hfl b hb))];exact (fq2 b hb).1,(fq2 b hb).2⟩
 have hfl3:∀b∈fp,b < (s2.heap.push { cls:=.type "list",dict:=none,data:=.seq ([]:List Value).toArray }).objs.size:=fun b hb=>by rw [Heap.size_push];exact Nat.lt_succ_of_lt (hfl b hb)
 generalize hs3:({ s2 with heap:=s2.heap.push { cls:=.type "list",dict:=none,data:=.seq ([]:List Value).toArray } }:Shared)=s3 at I3 ⊢
 have eh3:s3.heap=s2.heap.push { cls:=.type "list",dict:=none,data:=.seq ([]:List Value).toArray }:=by rw [<- hs3]
 rw [<- eh3] at st3 hfl3
 generalize hH3:upd H2 s2.heap.objs.size (.lst [])=H3 at I3 f3 w0
 generalize hD:s2.heap.objs.size=D at *
 refine en ?_
 have I4:=rP ok I3 f3 hfl3
 obtain ⟨hg,ht,he⟩:=blk s3 H3 fp pins D
 have st4:tn 0 (pushCells (s3.heap.push { cls:=.type "dict",data:=.dict #[] }) scope.names):=T.keep 0 _ _ st3 fun b _ o e=>pushCells_keeps _ _ b o (Heap.get?_push_of_some _ e)
 have stat:∀{H':Hp},(∀b∈fp,H' b=none)->∀b∈fp,qt (bt X N' scope s3 H3 fp pins) [] H' b:=fun hn b hb=>by
  refine ⟨hn b hb,Nat.ne_of_lt (hfl3 b hb),I4.ok.exfs b hb,.inl hb,(I4.ok.exf b hb).2,fun p hp=>?_⟩
  have hp':p∈X.pn++pins:=by simpa [bt] using hp
  exact (fq2 b hb).2.2.2.2.2 p hp'
 have loop:∀(s4:Shared),Inv (bt X N' scope s3 H3 fp pins) [] (oY ix σ) H3 s4->tn 0 s4.heap ->
   codeAny (model X.prog X.w) X.A (.compLoop (lc2 elt t1 i1 f1 t2 i2 f2 scope pos) 0 (.ref it) (.ref D) (ny scope s3.heap.objs.size X.env)) (compPost (model X.prog X.w) X.A X.xe use Qf (.ref D) s3.heap.objs.size) s4:=by
  intro s4 I4 st4
  refine ma (fun n s'=>∃i τ H',Inv (bt X N' scope s3 H3 fp pins) [] τ H' s'/\tn i s'.heap/\(∀b∈fp,H' b=none)/\W i n τ H') ?_ m0 ⟨0,_,H3,I4,st4,fun b hb=>(f3 b hb).1,w0⟩
  rintro n s5 ⟨i,τ,H5,I5,st5,fr5,w5⟩
  rcases turn i n τ H5 w5 with ⟨stop,qn⟩ | ⟨go,step⟩
  .refine thn (T.done (bt X N' scope s3 H3 fp pins) rfl rfl rfl hc i [] s5 τ H5 (fun _ _=>False) I5 (stat fr5) st5 stop) fun r s6 ⟨hr,I6⟩=>?_
   subst hr
   have I7:Inv X pins σ H5 s6:=I3.call' (ch:=fp) I6.os I6.base I6.hok I6.bare fun b hb=>⟨(fq2 b hb).2.2.2.1,(fq2 b hb).2.1,(fq2 b hb).2.2.2.2.1,(fq2 b hb).2.2.2.2.2⟩
   obtain ⟨m6,hn6,_⟩:=I6.loc
   refine fin D s3.heap.objs.size H5 s6 I7 qn ⟨m6,hn6⟩ I6.free ?_ ?_ ?_ ?_ ?_
   .exact I3.sz
   .exact Nat.ne_of_gt I3.lt
   .intro x c e z
    obtain ⟨v,q⟩:=I3.cell x c e
    have:=q.lt
    rw [z] at this
    exact Nat.lt_irrefl _ this
   .exact I3.nofs (Nat.le_refl _)
   .intro p hp z
    have:=Heap.lt_size (I3.pin p hp).1
    rw [z] at this
    exact Nat.lt_irrefl _ this
  .refine thn (T.item (bt X N' scope s3 H3 fp pins) rfl rfl rfl hc i [] s5 τ H5 (fun _ _=>False) I5 (stat fr5) st5 go) fun r s6 ⟨u,hr,h6⟩=>?_
   subst hr
   refine thn h6 fun _ s7 ⟨x,H7,I7,r7,y7,st7,fr7⟩=>?_
   have I7':=I7.pinned (stat fr7) (T.obj _ _ st7)
   have again:∀{s8:Shared}{τ8:St}{H8:Hp},Inv (bt X N' scope s3 H3 fp pins) ([]++kB fp s7.heap) τ8 H8 s8->(∃m',m' < n/\W (i + 1) m' τ8 H8) ->
     ∃m,m < n/\∃i τ H',Inv (bt X N' scope s3 H3 fp pins) [] τ H' s8/\tn i s8.heap/\(∀b∈fp,H' b=none)/\W i m τ H':=fun {s8 τ8 H8} I8 ⟨m',hm,w8⟩=>by
    refine ⟨m',hm,i + 1,τ8,H8,I8.unpinned,T.keep _ _ _ st7 fun b hb o e=>(I8.pin (b,o) (List.mem_append_right _ (List.mem_append_right _ (de hb e)))).1,fun b hb=>?_,w8⟩
    obtain ⟨o,e,d⟩:=T.obj _ _ st7 b hb
    exact (I8.pin (b,o) (List.mem_append_right _ (List.mem_append_right _ (de hb e)))).2.1
   refine thn (hg _ s7 τ H7 x u _ I7' r7 (step x H7 y7)) fun _ s8 ⟨τ8,H8,I8,q8⟩=>?_
   refine thn (ht _ s8 τ8 H8 _ I8 q8) fun okb s9 ⟨H9,I9,q9⟩=>?_
   cases okb with
   | false =>
    rw [if_neg Bool.false_ne_true] at q9
    rw [if_neg Bool.false_ne_true]
    exact again I9 q9
   | true =>
    rw [if_pos rfl] at q9
    rw [if_pos rfl]
    refine thn (he _ s9 τ8 H9 _ I9 q9) fun _ s10 ⟨τ10,H10,I10,q10⟩=>?_
    exact again I10 q10
 exact codeAny_compStart_list (loop _ I4 st4) (T.self X.A 0 _ _ _ st4 (loop _ I4 st4))
theorem xD {pos:Pos}{wi2:TI}{g2:TG}{tts2:TT}{te:TE} (N':List Str) (ix:List (Option Nat)) (hc:X.calm=true) (hi:PI X t1 i1 wi)
  (blk:∀s H fp pn,PG (bt X N' scope s H fp pn) t1 g/\PIf (bt X N' scope s H fp pn) f1 tts/\PI (bt X N' scope s H fp pn) t2 i2 wi2/\PG (bt X N' scope s H fp pn) t2 g2/\PIf (bt X N' scope s H fp pn) f2 tts2/\PE (bt X N' scope s H fp pn) elt te)
  (chk:kM X.env.scope X.N scope N' ix=true) (hs:∀x,foldedSetIterable i1 X.env x=pure x:=by intro _;rfl) (hs2:∀(env:Env) x,foldedSetIterable i2 env x=pure x:=by intro _ _;rfl) :
  PE X (.ListComp elt [⟨t1,i1,f1,0⟩,⟨t2,i2,f2,0⟩] scope pos) (vD ix wi g tts fun D=>zM wi2 g2 tts2 (zL te D)):=by
 intro pins s σ H Q I hw
 rw [eval_ListComp]
 refine tT (use:=none) hc (kN chk) hi (fun s H fp pn D=>?_) hs I hw fun D C H' s' I' q hm hn h1 h2 h3 h4 h5=>?_
 .obtain ⟨b1,b2,b3,b4,b5,b6⟩:=blk s H fp pn
  exact ⟨b1,b2,zO (Y:=bt X N' scope s H fp pn) rfl hc b3 b4 b5 (zN rfl b6) (hs2 _)⟩
 .obtain ⟨m,hm⟩:=hm
  refine ⟨m,hm,fun h' sb=>⟨.ref D,H',?_,rfl,q⟩⟩
  exact I'.turned (t':=s'.toks) (fun b o hb e=>(sb.2 b hb).trans e) hn h2 (.inr h1) h3 h5
end
theorem kpt {O O1 O2:Addr->Prop}{H H1 H2:Hp} (a:aU O H O1 H1) (b:aU O1 H1 O2 H2):aU O H O2 H2:=fun c o n e=>b c o (a c o n e).1 (a c o n e).2
structure BR (ix:List (Option Nat)) (ρ1:PSt) (n:Nat) (it:Nat->D) (g:PTG) (pt:PTT) (pi2:PTI) (g2:PTG) (pt2:PTT) (pe:PTE) (Q:PKt):Prop where
 ex:∃I:Nat->List D->PSt->Prop,I 0 [] (bX ix ρ1) /\
  (∀k ys τ d,k < n->d=it k->I k ys τ->g (.dat d) τ fun τ2=>pt τ2 fun ok τ3=>iq ok (pi2 τ3 fun n2 it2 τ4=>∃I2:Nat->List D->PSt->Prop,I2 0 ys τ4 /\
   (∀j zs τ d,j < n2->d=it2 j->I2 j zs τ->g2 (.dat d) τ fun τ5=>pt2 τ5 fun ok τ6=>iq ok (pe τ6 fun p τ7=>zs.length < 1000000/\I2 (j + 1) (zs++[p.d]) τ7) (I2 (j + 1) zs τ6))/\∀zs τ,I2 n2 zs τ->I (k + 1) zs τ) (I (k + 1) ys τ3)) /\
  ∀ys τ,I n ys τ->Q (.own ys) (eG ix ρ1 τ)
def yk (ix:List (Option Nat)) (pi:PTI) (g:PTG) (pt:PTT) (pi2:PTI) (g2:PTG) (pt2:PTT) (pe:PTE):PTE:=fun ρ Q=>pi ρ fun n it ρ1=>Bz ix ρ1=true/\BR ix ρ1 n it g pt pi2 g2 pt2 pe Q
theorem xE {K:PySem.W.Frag}{ix:List (Option Nat)}{wi wi2:TI}{pi pi2:PTI}{g g2:TG}{pg pg2:PTG}{tts tts2:TT}{pt pt2:PTT}{te:TE}{pe:PTE} (hix:yd ix=true) (hi:LI K wi pi) (hg:∀fs:List Nat,(∀k∈fs,k∈vh ix)->LGd K fs g pg) (ht:LT K tts pt)
  (hi2:LI K wi2 pi2) (hg2:∀fs:List Nat,(∀k∈fs,k∈vh ix)->LGd K fs g2 pg2) (ht2:LT K tts2 pt2) (he:LE K te pe) :
  LE K (vD ix wi g tts fun D=>zM wi2 g2 tts2 (zL te D)) (yk ix pi pg pt pi2 pg2 pt2 pe):=fun A ρ σ H Q Q' R q k=>hi A ρ σ H _ _ R q fun J H1 n it ρ1 q1 f1 R1 W D hD=>by
 obtain ⟨hcap,⟨I,i0,turn,after⟩⟩:=q1
 let τρ0:=bX ix ρ1
 let τσ0:=oY ix σ
 let Ai:Addr->Prop:=fun b=>A b\/b=D\/(Wr ρ1 σ b/\¬ Wr τρ0 τσ0 b)
 let H0':=upd H1 D (.lst [])
 have wsub:∀b,Wr τρ0 τσ0 b->Wr ρ1 σ b:=fun b ⟨m,p,e,o,s⟩=>by
  obtain ⟨j,h1,h2⟩:=cW e
  obtain ⟨v,hv,_⟩:=R1.get j p h2
  have:=c5 h1 hv
  rw [s] at this
  cases this
  exact ⟨j,p,h2,o,hv⟩
 have nD:¬ Wr ρ1 σ D:=fun z=>R1.wr z hD
 have oosub:∀b,OO Ai τρ0 τσ0 b->OO A ρ1 σ b\/b=D:=fun b z=>by
  rcases z with (z | z | z) | z
  .exact .inl (.inl z)
  .exact .inr z
  .exact .inl (.inr z.1)
  .exact .inl (.inr (wsub b z))
 have kD:aU (OO A ρ1 σ) H1 (OO Ai τρ0 τσ0) H0':=fun b o nn e=>by
  refine ⟨fun z=>?_,?_⟩
  .rcases oosub b z with z | z
   .exact nn z
   .rw [z,hD] at e;cases e
  .rw [show H0' b=H1 b from aA (bv e hD)];exact e
 have Ri:Rel K Ai τρ0 τσ0 H0':=by
  refine ⟨by show (bX ix ρ1).length=(oY ix σ).length;unfold bX oY;rw [List.length_map,List.length_map],fun m p e=>?_,fun m l p q v e1 e2 o1 o2 s1 s2=>?_,fun b z=>?_,fun b z w=>?_⟩
  .obtain ⟨j,h1,h2⟩:=cW e
   obtain ⟨v,hv,r⟩:=R1.get j p h2
   refine ⟨v,c5 h1 hv,r.keeps kD fun ow a ea=>?_⟩
   subst ea
   exact aA (fun z=>nD (by rw [<- z];exact ⟨j,p,h2,ow,hv⟩))
  .obtain ⟨j,h1,h2⟩:=cW e1
   obtain ⟨j',h3,h4⟩:=cW e2
   obtain ⟨v1,hv1,_⟩:=R1.get j p h2
   obtain ⟨v2,hv2,_⟩:=R1.get j' q h4
   have t1:=c5 h1 hv1
   have t2:=c5 h3 hv2
   rw [s1] at t1
   rw [s2] at t2
   cases t1
   cases t2
   have:=R1.dj j j' p q _ h2 h4 o1 o2 hv1 hv2
   subst this
   exact kx hix h1 h3
  .rcases z with z | z | z
   .intro e
    by_cases zz:b=D
    .exact R1.dom b z (by rw [zz];exact hD)
    .rw [show H0' b=H1 b from aA zz] at e;exact R1.dom b z e
   .rw [z];show upd H1 D _ D≠none;rw [aO];exact nofun
   .intro e
    rw [show H0' b=H1 b from aA (fun zz=>nD (by rw [<- zz];exact z.1))] at e;exact R1.wr z.1 e
  .rcases z with z | z | z
   .exact R1.sep b z (wsub b w)
   .rw [z] at w;exact nD (wsub D w)
   .exact z.2 w
 let fxi:List (Nat×V):=(vh ix).filterMap fun m=>match (τσ0[m]?) with | some (some v)=>some (m,v) | _=>none
 have hfx:∀p∈fxi,τσ0[p.1]?=some (some p.2):=fun p hp=>by
  obtain ⟨m,hm,e⟩:=List.mem_filterMap.mp hp
  split at e
  .rename_i v ev;cases e;exact ev
  .cases e
 have hfs:∀m∈fxi.map Prod.fst,m∈vh ix:=fun m hm=>by
  obtain ⟨p,hp,rfl⟩:=List.mem_map.mp hm
  obtain ⟨m',hm',e⟩:=List.mem_filterMap.mp hp
  split at e
  .cases e;exact hm'
  .cases e
 have hgi:=hg (fxi.map Prod.fst) hfs
 have hgi2:=hg2 (fxi.map Prod.fst) hfs
 have fxget:∀(m j:Nat) (v:V),ix[m]?=some (some j)->σ[j]?=some (some v)->(m,v)∈fxi:=fun m j v h1 h2=>by
  refine List.mem_filterMap.mpr ⟨m,?_,?_⟩
  .unfold vh
   refine List.mem_filter.mpr ⟨List.mem_range.mpr (List.getElem?_eq_some_iff.mp h1).1,?_⟩
   rw [List.getD_eq_getElem?_getD,h1];rfl
  .show (match (oY ix σ)[m]? with | some (some v)=>some (m,v) | _=>none)=_
   rw [c5 h1 h2]
 let Rr:Addr->Prop:=fun b=>Wr τρ0 τσ0 b\/b=D
 have hRr:∀b,Rr b->OO Ai τρ0 τσ0 b:=fun b z=>z.elim (fun z=>.inr z) (fun z=>.inl (.inr (.inl z)))
 have F0:fu fxi Rr H0' τρ0 τσ0 H0':=⟨fun _ _ _ h=>h,fun _ h=>h,fun b w=>.inl (.inl w),hfx⟩
 refine ⟨fun i m τ H2=>i + m=n/\∃ys τρ xs,I i ys τρ/\Rel K Ai τρ τ H2/\fu fxi Rr H0' τρ τ H2/\H2 D=some (.lst xs)/\FVs K (OO Ai τρ τ) H2 xs ys/\∀b,Wr τρ τ b->Wr τρ0 τσ0 b,
  ⟨n,Nat.zero_add n,[],τρ0,[],i0,Ri,F0,aO,.nil,fun _ h=>h⟩,fun i m τ H2 ⟨him,ys,τρ,xs,iv,r2,F2,eD,fD,hw⟩=>?_⟩
 have kk:aU (OO A ρ1 σ) H1 (OO Ai τρ τ) H2:=fun b o nn e=>(F2.keepsR hRr) b o (kD b o nn e).1 (kD b o nn e).2
 obtain ⟨go,stop⟩:=W _ H2 kk r2.dom2
 by_cases hk:i < n
 .obtain ⟨g1,g2⟩:=go i hk
  refine .inr ⟨g1,fun x H3 y=>?_⟩
  obtain ⟨gr,fv⟩:=g2 x H3 y
  have AiD:Ai D:=.inr (.inl rfl)
  refine hgi fxi Ai Rr H0' τρ τ H3 _ x _ _ rfl (F2.fr gr.fr) (r2.gr gr) fv (turn i ys τρ _ hk rfl iv) fun τρ2 τ2 q2 r3 F3 w3=>?_
  refine ht Ai τρ2 τ2 H3 _ _ r3 q2 fun ok H5 τρ3 q3 f5 r5=>?_
  have F5:=F3.fr f5
  have fD5:FVs K (OO Ai τρ3 τ2) H5 xs ys:=((fD.keeps (gr.fr (ρ:=τρ) (σ:=τ)).keeps).keeps (aU.less fun b z=>z.imp id (w3 b))).keeps f5.keeps
  have eD5:H5 D=some (.lst xs):=f5.kp D _ (r3.sep D AiD) (gr D _ eD)
  cases ok with
  | true =>
   refine hi2 Ai τρ3 τ2 H5 _ _ r5 q3 fun J2 H6 n2 it2 τρ4 q4 f6 r6 W2=>?_
   obtain ⟨I2,j0,turn2,after2⟩:=q4
   have F6:=F5.fr f6
   have eD6:H6 D=some (.lst xs):=f6.kp D _ (r5.sep D AiD) eD5
   have fD6:=fD5.keeps (f6.keeps (A:=Ai))
   have hw6:∀b,Wr τρ4 τ2 b->Wr τρ0 τσ0 b:=fun b z=>hw b (w3 b (f5.ow b (f6.ow b z)))
   refine ⟨fun j l τ' H'=>j + l=n2/\∃zs τρ' xs',I2 j zs τρ'/\Rel K Ai τρ' τ' H'/\fu fxi Rr H0' τρ' τ' H'/\H' D=some (.lst xs')/\FVs K (OO Ai τρ' τ') H' xs' zs/\(∀b,Wr τρ' τ' b->Wr τρ0 τσ0 b)/\aU (OO Ai τρ4 τ2) H6 (OO Ai τρ' τ') H',
    ⟨n2,Nat.zero_add n2,ys,τρ4,xs,j0,r6,F6,eD6,fD6,hw6,fun b o n e=>⟨n,e⟩⟩,fun j l τ' H7 ⟨hjl,zs,τρ',xs',jv,r7,F7,eD7,fD7,hw7,kk7⟩=>?_⟩
   obtain ⟨go2,stop2⟩:=W2 _ H7 kk7 r7.dom2
   by_cases hj:j < n2
   .obtain ⟨g1',g2'⟩:=go2 j hj
    refine .inr ⟨g1',fun y H8 yy=>?_⟩
    obtain ⟨gr8,fv8⟩:=g2' y H8 yy
    refine hgi2 fxi Ai Rr H0' τρ' τ' H8 _ y _ _ rfl (F7.fr gr8.fr) (r7.gr gr8) fv8 (turn2 j zs τρ' _ hj rfl jv) fun τρ9 τ9 q9 r9 F9 w9=>?_
    refine ht2 Ai τρ9 τ9 H8 _ _ r9 q9 fun ok2 H10 τρ10 q10 f10 r10=>?_
    have F10:=F9.fr f10
    have k1:=(gr8.fr (ρ:=τρ') (σ:=τ')).keeps (A:=Ai)
    have k2:aU (OO Ai τρ' τ') H8 (OO Ai τρ9 τ9) H8:=aU.less fun b z=>z.imp id (w9 b)
    have k3:=f10.keeps (A:=Ai)
    have fD10:FVs K (OO Ai τρ10 τ9) H10 xs' zs:=fD7.keeps (kpt k1 (kpt k2 k3))
    have eD10:H10 D=some (.lst xs'):=f10.kp D _ (r9.sep D AiD) (gr8 D _ eD7)
    cases ok2 with
    | true =>
     refine he Ai τρ10 τ9 H10 _ _ r10 q10 fun v H11 p τρ11 q11 f11 o11=>?_
     obtain ⟨r11,fv11⟩:=o11.frz
     have F11:=F10.fr f11
     have eD11:H11 D=some (.lst xs'):=f11.kp D _ (r10.sep D AiD) eD10
     have kw:aU (OO Ai τρ11 τ9) H11 (OO Ai τρ11 τ9) (upd H11 D (.lst (xs'++[v]))):=fun b o nn e=>⟨nn,by rw [aA (fun z=>nn (by rw [z];exact .inl AiD))];exact e⟩
     refine ⟨xs',eD11,?_,l - 1,by omega,by omega,zs++[p.d],τρ11,xs'++[v],q11.2,r11.amb AiD,⟨fun b o nn e=>?_,fun b z=>?_,F11.ow,F11.fx⟩,aO,((fD10.keeps f11.keeps).append (.cons fv11 .nil)).keeps kw,fun b z=>hw7 b (w9 b (f10.ow b (f11.ow b z))),kpt kk7 (kpt k1 (kpt k2 (kpt k3 (kpt f11.keeps kw))))⟩
     .have:xs'.length=zs.length:=fD10.length
      have:=q11.1
      exact Nat.lt_of_lt_of_le (by omega:xs'.length < 1000000) (sz _ (Nat.le_refl _))
     .rw [aA (fun z=>nn (.inr z))];exact F11.kp b o nn e
     .by_cases zz:b=D
      .rw [zz,aO];exact nofun
      .rw [aA zz];exact F11.dm b z
    | false=>exact ⟨l - 1,by omega,by omega,zs,τρ10,xs',q10,r10,F10,eD10,fD10,fun b z=>hw7 b (w9 b (f10.ow b z)),kpt kk7 (kpt k1 (kpt k2 k3))⟩
   .have e:j=n2:=by omega
    subst e
    exact .inl ⟨stop2,m - 1,by omega,by omega,zs,τρ',xs',after2 zs τρ' jv,r7,F7,eD7,fD7,hw7⟩
  | false=>exact ⟨m - 1,by omega,by omega,ys,τρ3,xs,q3,r5,F5,eD5,fD5,fun b z=>hw b (w3 b (f5.ow b z))⟩
 .have e:i=n:=by omega
  subst e
  refine .inl ⟨stop,?_⟩
  have q':=after ys τρ iv
  have cap:∀(m j:Nat),ix[m]?=some (some j)->∃p v,ρ1[j]?=some (some p)/\σ[j]?=some (some v)/\τ[m]?=some (some v):=fun m j e=>by
   have h1:=List.all_eq_true.mp hcap _ (List.mem_of_getElem? e)
   have h1:(match ρ1[j]? with | some (some _)=>true | _=>false)=true:=h1
   split at h1
   .rename_i p ep
    obtain ⟨v,hv,_⟩:=R1.get j p ep
    exact ⟨p,v,ep,hv,F2.fx _ (fxget m j v e hv)⟩
   .cases h1
  have get':∀(j:Nat) (p:PV),(eG ix ρ1 τρ)[j]?=some (some p)->(∃m v,ix[m]?=some (some j)/\σ[j]?=some (some v)/\τ[m]?=some (some v)/\τρ[m]?=some (some p))\/(some j∉ix/\ρ1[j]?=some (some p)):=fun j p e=>by
   by_cases hj:some j∈ix
   .obtain ⟨m,hm,em⟩:=List.getElem_of_mem hj
    have em':ix[m]?=some (some j):=by rw [List.getElem?_eq_getElem hm,em]
    obtain ⟨p0,v,h1,h2,h3⟩:=cap m j em'
    rw [nI ix ρ1 τρ j m hix em' (by rw [r2.len];exact (List.getElem?_eq_some_iff.mp h3).1) (List.getElem?_eq_some_iff.mp h1).1] at e
    exact .inl ⟨m,v,em',h2,h3,e⟩
   .rw [iP ix ρ1 τρ j hj] at e
    exact .inr ⟨hj,e⟩
  have nocap:∀(j:Nat) (p:PV) (b:Addr),some j∉ix->ρ1[j]?=some (some p)->p.isOwn=true->σ[j]?=some (some (.ref b))->¬ Wr τρ0 τσ0 b:=fun j p b hj e o s ⟨m,q,e1,o1,s1⟩=>by
   obtain ⟨j',h1,h2⟩:=cW e1
   obtain ⟨v,hv,_⟩:=R1.get j' q h2
   have:=c5 h1 hv
   rw [s1] at this
   cases this
   have:=R1.dj j j' p q _ e h2 o o1 s hv
   subst this
   exact hj (List.mem_of_getElem? h1)
  have w':∀b,Wr (eG ix ρ1 τρ) σ b->Wr τρ τ b\/(Wr ρ1 σ b/\¬ Wr τρ0 τσ0 b):=fun b ⟨j,p,e,o,s⟩=>by
   rcases get' j p e with ⟨m,v,h1,h2,h3,h4⟩ | ⟨hj,h1⟩
   .rw [s] at h2;cases h2;exact .inl ⟨m,p,h4,o,h3⟩
   .exact .inr ⟨⟨j,p,h1,o,s⟩,nocap j p b hj h1 o s⟩
  have oo':∀b,OO (fc A D) (eG ix ρ1 τρ) σ b->OO Ai τρ τ b:=fun b z=>by
   rcases z with (z | z) | z
   .exact .inl (.inl z)
   .exact .inl (.inr (.inl z))
   .rcases w' b z with z | z
    .exact .inr z
    .exact .inl (.inr (.inr z))
  have kp1:∀b o,¬ Wr τρ0 τσ0 b->b≠D->H1 b=some o->H2 b=some o:=fun b o n1 n2 e=>F2.kp b o (fun z=>z.elim n1 n2) (by rw [show H0' b=H1 b from aA n2];exact e)
  have k1:aU (OO A ρ1 σ) H1 (OO (fc A D) (eG ix ρ1 τρ) σ) H2:=fun b o nn e=>⟨fun z=>(kk b o nn e).1 (oo' b z),(kk b o nn e).2⟩
  have AiD:Ai D:=.inr (.inl rfl)
  have R':Rel K (fc A D) (eG ix ρ1 τρ) σ H2:=by
   refine ⟨by rw [kv];exact R1.len,fun j p e=>?_,fun j l p q v e1 e2 o1 o2 s1 s2=>?_,fun b z=>?_,fun b z w=>?_⟩
   .rcases get' j p e with ⟨m,v,h1,h2,h3,h4⟩ | ⟨hj,h1⟩
    .obtain ⟨v',hv',r⟩:=r2.get m p h4
     rw [h3] at hv';cases hv'
     exact ⟨v,h2,r.keeps (aU.less oo') fun _ _ _=>rfl⟩
    .obtain ⟨v,hv,r⟩:=R1.get j p h1
     refine ⟨v,hv,r.keeps k1 fun ow a ea=>?_⟩
     subst ea
     obtain ⟨a',u,e1,e2⟩:=r.ref ow
     cases e1
     rw [e2]
     exact kp1 a u (nocap j p a hj h1 ow hv) (fun z=>by rw [z,hD] at e2;cases e2) e2
   .rcases get' j p e1 with ⟨m,v1,h1,h2,h3,h4⟩ | ⟨hj,h1⟩
    .rw [s1] at h2;cases h2
     rcases get' l q e2 with ⟨m',v2,g1,g2,g3,g4⟩ | ⟨hl,g1⟩
     .rw [s2] at g2;cases g2
      have:=r2.dj m m' p q _ h4 g4 o1 o2 h3 g3
      subst this
      rw [h1] at g1;cases g1;rfl
     .exfalso
      obtain ⟨v',hv',r⟩:=r2.get m p h4
      rw [h3] at hv';cases hv'
      obtain ⟨a,u,ea,_⟩:=r.ref o1
      subst ea
      exact nocap l q a hl g1 o2 s2 (hw a ⟨m,p,h4,o1,h3⟩)
    .rcases get' l q e2 with ⟨m',v2,g1,g2,g3,g4⟩ | ⟨hl,g1⟩
     .rw [s2] at g2;cases g2
      exfalso
      obtain ⟨v',hv',r⟩:=r2.get m' q g4
      rw [g3] at hv';cases hv'
      obtain ⟨a,u,ea,_⟩:=r.ref o2
      subst ea
      exact nocap j p a hj h1 o1 s1 (hw a ⟨m',q,g4,o2,g3⟩)
     .exact R1.dj j l p q v h1 g1 o1 o2 s1 s2
   .rcases z with z | z
    .exact r2.dom b (.inl z)
    .rw [z,eD];exact nofun
   .rcases w' b w with w | w
    .rcases z with z | z
     .exact r2.sep b (.inl z) w
     .rw [z] at w;exact r2.sep D AiD w
    .rcases z with z | z
     .exact R1.sep b z w.1
     .rw [z] at w;exact nD w.1
  have f2:Fr ρ1 σ H1 (eG ix ρ1 τρ) H2:=by
   refine ⟨fun b o nn e=>kp1 b o (fun z=>nn (wsub b z)) (fun z=>by rw [z,hD] at e;cases e) e,fun b z=>F2.dm b ?_,fun b z=>?_⟩
   .intro e
    by_cases zz:b=D
    .exact z (by rw [zz];exact hD)
    .rw [show H0' b=H1 b from aA zz] at e;exact z e
   .rcases w' b z with z | z
    .exact wsub b (hw b z)
    .exact z.1
  have hD0:H D=none:=by
   cases e:H D with
   | none=>rfl
   | some o=>exact absurd hD (f1.dm D (by rw [e];exact nofun))
  exact k _ H2 (.own ys) _ q' (f1.trans f2) ⟨D,xs,rfl,fun z=>R1.dom D z hD,hD0,eD,R',fD.keeps (aU.less oo')⟩
section
variable {prog:Program}{w:World}{A:Around}{E:Value->Shared->Prop}{s:Shared}
theorem pI {it t:Addr}{items:Array Value} (hne:t≠it):∀(n i:Nat) (s:Shared) (Q:List Value->Shared->Prop),s.heap.IsListIter it t i->s.heap.IsList t items->i + n<=items.size ->
  (∀h',h'.IsListIter it t (i + n)->Heap.SameBut it s.heap h'->Q ((items.toList.drop i).take n) { s with heap:=h' })->wpAny (model prog w) A (draw (.ref it) n) Q E s
 | 0,i,s,Q,hit,_,_,hQ=>by
  show wpAny _ _ (pure []) Q E s
  exact wpAny_pure (by simpa using hQ s.heap hit (Heap.SameBut.refl ..))
 | n + 1,i,s,Q,hit,ht,hle,hQ=>by
  have hlt:i < items.size:=by omega
  show wpAny _ _ (pyNext (.ref it) >>= _) Q E s
  refine wpAny_bind (wpAny_pyNext_list_item hit ht (x:=items[i]) (by simp [hlt]) fun h₁ hit₁ hs₁=>?_)
  refine wpAny_bind (wpAny_holding (pI hne n (i + 1) _ _ hit₁ (ht.extBut hs₁.extBut hne) (by omega) fun h₂ hit₂ hs₂=>wpAny_pure ?_))
  have hd:items.toList.drop i=items[i]::items.toList.drop (i + 1):=by simp [List.drop_eq_getElem_cons,hlt]
  have:=hQ h₂ (by rw [show i + (n + 1)=i + 1 + n by omega];exact hit₂) (hs₁.trans hs₂)
  rw [hd,List.take_succ_cons] at this
  exact this
theorem kl {t:Addr}{items:Array Value}{Q:List Value->Shared->Prop} (hh:A.handled=none) (ht:s.heap.IsList t items)
  (hQ:∀h',Heap.ExtBut s.heap.objs.size s.heap h'->Q items.toList { s with heap:=h' }):wpAny (model prog w) A (unpackItems (.ref t) items.size none) Q E s:=by
 have hlt:t≠s.heap.objs.size:=by obtain ⟨o,ho,_⟩:=ht;exact Nat.ne_of_lt (Heap.lt_size ho)
 unfold unpackItems
 refine wpAny_bind ?_
 .unfold notIterableAtAll
  refine wpAny_bind (wpAny_specialOf ht.typeIs PySem.F.slot_list_iter.lookup ?_)
  refine wpAny_pure ?_
  simp only [Bool.false_eq_true,if_false]
  refine wpAny_bind (wpAny_holding (wpAny_pyIter_list ht ?_))
  refine wpAny_bind (wpAny_holding (pI hlt items.size 0 _ _ ⟨_,Heap.get?_push_size _ rfl,rfl,rfl⟩ (ht.push _) (by omega) fun h₁ hit₁ hs₁=>?_))
  have hall:List.take items.size (List.drop 0 items.toList)=items.toList:=by
   rw [List.drop_zero];exact List.take_of_length_le (by simp)
  rw [hall]
  rw [if_neg (by simp)]
  have ht₁:h₁.IsList t items:=(ht.push _).extBut hs₁.extBut hlt
  refine wpAny_bind (wpAny_holding (wpAny_pyNext_list_end hh hit₁ ht₁ (by simp) fun h₂ he₂=>?_))
  simp only [Option.isSome_none,Bool.false_eq_true,if_false]
  refine wpAny_pure (hQ h₂ fun b o hb e=>he₂ b o hb (hs₁.extBut b o hb (Heap.get?_push_of_some _ e)))
theorem jq {env:Env}{elts:List Expr}{x1}{pos:Pos}{t:Addr}{items:Array Value}{Q:Unit->Shared->Prop} (hh:A.handled=none) (ht:s.heap.IsList t items)
  (hn:(assignEach elts env).length=items.size) (hstar:(assignEach elts env).findIdx? (·.1)=none)
  (h:∀h',Heap.ExtBut s.heap.objs.size s.heap h'->wpAny (model prog w) A (assignInOrder ((assignEach elts env).map (·.2)) items.toList) Q E { s with heap:=h' }) :
  wpAny (model prog w) A (assign (.Tuple elts x1 pos) env (.ref t)) Q E s:=by
 rw [assign_Tuple]
 refine wpAny_bind (wpAny_standAt ?_)
 unfold unpack
 rw [hn,hstar]
 exact wpAny_bind (wpAny_holding (kl hh ht h))
end
def Cy (K:PySem.W.Frag) (n:Nat) (t:TGs):TG:=fun v σ H Q=>∃b a xs,v=.ref a/\Sq b K H a xs/\xs.length=n/\t xs σ H Q
section
variable {X:Cx}
theorem pJ (K:PySem.W.Frag) (eK:X.K=K) {es:List Expr}{k:Nat}{t:TGs}{n:Nat}{pos:Pos} (hc:X.calm=true) (h:PGs X es t)
  (hn:(assignEach es X.env).length=n:=by rfl) (hst:(assignEach es X.env).findIdx? (·.1)=none:=by rfl):PG X (.Tuple es k pos) (Cy K n t):=by
 subst eK
 intro pins s σ H v u Q I r hw
 obtain ⟨b,a,xs,e1,hq,hl,hw⟩:=hw
 cases b with
 | true=>exact AH hc h hn hst pins s σ H v u Q I r ⟨a,xs,e1,hq,hl,hw⟩
 | false =>
  subst e1
  cases r
  obtain ⟨its,rv,ht,hz⟩:=I.list hq
  refine jq (I.ok.hd hc) ht.isList (by simp [hn,<- hl,rv.length]) hst fun h' hx=>?_
  have I1:Inv X pins σ H { s with heap:=h' }:=I.kept (t':=s.toks) fun b o e=>hx b o (Nat.ne_of_lt (Heap.lt_size e)) e
  exact h pins _ σ H xs _ Q I1 (by simpa using rv) hw
def me (n:Nat) (gs:xp):PTG:=fun p ρ Q=>match p with | .dat (.tup ds)=>ds.length=n/\gs ds ρ Q | .dat (.lst ds)=>ds.length=n/\gs ds ρ Q | .own ds=>ds.length=n/\gs ds ρ Q | _=>False
end
section
variable {K:PySem.W.Frag}{fs:List Nat}
theorem vE {n:Nat}{gs:TGs}{pgs:xp} (h:LGs K fs gs pgs):LGd K fs (Cy K n gs) (me n pgs):=fun fx A R H0 ρ σ H d v Q Q' hf F r fv q k=>by
 unfold me at q
 split at q
 .rename_i e
  cases e
  cases fv with
  | tup nn e f=>exact ⟨true,_,_,rfl,SqT.of e,by rw [f.length];exact q.1,h fx A R H0 ρ σ H _ _ Q Q' hf F r f q.2 k⟩
 .rename_i e
  cases e
  cases fv with
  | lst nn e f=>exact ⟨false,_,_,rfl,SqL.of e,by rw [f.length];exact q.1,h fx A R H0 ρ σ H _ _ Q Q' hf F r f q.2 k⟩
 .rename_i e
  cases e
 .exact q.elim
theorem vF {n:Nat}{gs:TGs}{pgs:xp} (h:LGs K fs gs pgs):LG K fs (Cy K n gs) (me n pgs):=fun fx A R H0 ρ σ H p v Q Q' hf F o q k=>by
 unfold me at q
 split at q
 .obtain ⟨r,fv⟩:=o
  cases fv with
  | tup nn e f=>exact ⟨true,_,_,rfl,SqT.of e,by rw [f.length];exact q.1,h fx A R H0 ρ σ H _ _ Q Q' hf F r f q.2 fun ρ' σ' q' r' F' _=>k ρ' σ' H q' r' F'⟩
 .obtain ⟨r,fv⟩:=o
  cases fv with
  | lst nn e f=>exact ⟨false,_,_,rfl,SqL.of e,by rw [f.length];exact q.1,h fx A R H0 ρ σ H _ _ Q Q' hf F r f q.2 fun ρ' σ' q' r' F' _=>k ρ' σ' H q' r' F'⟩
 .obtain ⟨r,fv⟩:=o.frz
  cases fv with
  | lst nn e f=>exact ⟨false,_,_,rfl,SqL.of e,by rw [f.length];exact q.1,h fx A R H0 ρ σ H _ _ Q Q' hf F r f q.2 fun ρ' σ' q' r' F' _=>k ρ' σ' H q' r' F'⟩
 .exact q.elim
end
def gT (d:D) (xs:List D):Prop:=d=.lst xs\/d=.tup xs
theorem BS {d:D}{xs:List D}{i:Int}{Q:PV->Prop} (h:gT d xs) (q:∃x,atI xs i=some x/\Q (.dat x)):fIx d (.int i) Q:=by
 rcases h with rfl | rfl <;> exact q
theorem yl {d:D}{xs:List D}{n:Nat}{gs:xp}{ρ:PSt}{Q:PSt->Prop} (h:gT d xs) (q:xs.length=n/\gs xs ρ Q):me n gs (.dat d) ρ Q:=by
 rcases h with rfl | rfl <;> exact q
theorem gT.lst (xs:List D):gT (.lst xs) xs:=.inl rfl
theorem gT.tup (xs:List D):gT (.tup xs) xs:=.inr rfl
theorem gT.items {d:D}{xs:List D} (h:gT d xs):bd d=xs:=by rcases h with rfl | rfl <;> rfl
def nSt:Expr->Bool
 | .Starred _ _=>false
 | _=>true
theorem iu {e:Expr}{es:List Expr}{env:Env} (h:nSt e=true):starEach (e::es) env=(false,eval e env)::starEach es env:=by
 cases e <;> first | rfl | cases h
theorem gM {env:Env}{pos:Pos}:∀{es:List Expr},es.all nSt=true->(backTo pos (starEach es env)).any (·.1)=false
 | [],_=>rfl
 | e::es,h=>by
  rw [List.all_cons,Bool.and_eq_true] at h
  rw [iu h.1]
  show (false || (backTo pos (starEach es env)).any (·.1))=false
  rw [gM h.2];rfl
section
variable {X:Cx}{k:Nat}{x:Str}{ps:List Str}{sp:Sp}{e:Expr}{es:List Expr}{te:TE}{t:TA}{p pos:Pos}{dvs:List V}{C:Addr}{id T:String}{r:List V->Hp->VK->Prop}
theorem paC (ha:PE X e te) (hr:PA X es t) (hn:nSt e=true:=by rfl):PA X (e::es) (bx te t):=yO ha hr (iu hn)
theorem aD (C:Cal X.prog X.w X.K X.mg X.base k x ps sp) (hr:gq k X.A) (ha:PA X (e::es) t) (hg:Gl X x:=by rfl) (hdb:(x == ("__debug__":Str))=false:=by decide) (hn:nSt e=true:=by rfl) (hp:es.all nSt=true:=by rfl) :
  PE X (.Call (.Name x p) (e::es) [] pos) (eY sp [] E0 t):=Bf C hr ha hg hdb (iu hn) (gM hp)
theorem xF (j:Nat) (C:Bl X.prog X.w X.K X.mg X.base k x ps dvs sp) (hr:gq k X.A) (hj:j<=dvs.length) (ha:PA X (e::es) t) (hg:Gl X x:=by rfl) (hdb:(x == ("__debug__":Str))=false:=by decide) (hn:nSt e=true:=by rfl) (hp:es.all nSt=true:=by rfl) :
  PE X (.Call (.Name x p) (e::es) [] pos) (eY sp (dvs.drop j) E0 t):=zd j C hr hj ha hg hdb (iu hn) (gM hp)
theorem sj (M:Bo X.prog X.w X.K X.mg X.base k C x ps sp) (hr:gq (k + 1) X.A) (ha:PA X (e::es) t) (hg:Gl X x:=by rfl) (hdb:(x == ("__debug__":Str))=false:=by decide) (hn:nSt e=true:=by rfl) (hp:es.all nSt=true:=by rfl) :
  PE X (.Call (.Name x p) (e::es) [] pos) (wI C sp [] E0 t):=ze M hr ha hg hdb (iu hn) (gM hp)
theorem ar (hc:bZ X (.builtin id) r) (hg:Gl X x) (hm:X.mg x=none) (hv:bootBuiltins x=some (.builtin id)) (ha:PA X (e::es) t) (hnn:x≠"__name__":=by decide) (hdb:(x == ("__debug__":Str))=false:=by decide) (hn:nSt e=true:=by rfl) (hp:es.all nSt=true:=by rfl) :
  PE X (.Call (.Name x p) (e::es) [] pos) (tCB r t):=wL hc hg hm hv ha hnn hdb (iu hn) (gM hp)
theorem aS (hc:bZ X (.type T) r) (hg:Gl X x) (hm:X.mg x=none) (hv:bootBuiltins x=some (.type T)) (ha:PA X (e::es) t) (hnn:x≠"__name__":=by decide) (hdb:(x == ("__debug__":Str))=false:=by decide) (hn:nSt e=true:=by rfl) (hp:es.all nSt=true:=by rfl) :
  PE X (.Call (.Name x p) (e::es) [] pos) (tCB r t):=uF hc hg hm hv ha hnn hdb (iu hn) (gM hp)
end
def plT:Expr->Bool
 | .Call _ _ _ _=>true
 | .Name _ _=>true
 | .Subscript _ _ _=>true
 | .Attribute _ _ _=>true
 | _=>false
theorem zP {e:Expr}{env:Env} (h:plT e=true):∀whole,isTrue e env whole=(do let v <- whole;standAt e.pos;holding [v] (truthy v)):=by
 cases e <;> first | (intro _;rfl) | cases h
theorem et {X:Cx}{e:Expr}{t:TE} (h:PE X e t) (hp:plT e=true:=by rfl):PT X e (tB t):=AB h (zP hp)
def gi (a b:List Nat):Bool:=decide (0<=fnd b a 0)
def du (ps:List (List Nat)) (i:Nat):Bool:=!decide (pw ps i∈ps.take i) && !(ps.filter fun o=>decide ((pw ps i).length < o.length)).any fun o=>gi (pw ps i) o
theorem nP {a b:List Nat}:gi a b=true ↔ ∃k,stA b a k=true:=by
 unfold gi
 constructor
 .intro h
  have h0:fnd b a 0≠-1:=fun z=>by rw [z] at h;exact absurd (of_decide_eq_true h) (by decide)
  obtain ⟨k,_,_,h1,_⟩:=rQ h0
  exact ⟨k,h1⟩
 .rintro ⟨k,hk⟩
  by_cases h0:fnd b a 0=-1
  .rw [w4 h0 k (Nat.zero_le _)] at hk;cases hk
  .obtain ⟨j,e,_⟩:=rQ h0
   rw [e];exact decide_eq_true (by omega)
theorem xG (a:List Nat):gi a a=true:=nP.mpr ⟨0,decide_eq_true ⟨by omega,by rw [List.drop_zero,List.take_length]⟩⟩
theorem vG {a b c:List Nat} (h1:gi a b=true) (h2:gi b c=true):gi a c=true:=by
 obtain ⟨k1,e1⟩:=nP.mp h1
 obtain ⟨k2,e2⟩:=nP.mp h2
 obtain ⟨l1,t1⟩:=of_decide_eq_true e1
 obtain ⟨l2,t2⟩:=of_decide_eq_true e2
 refine nP.mpr ⟨k2 + k1,decide_eq_true ⟨by omega,?_⟩⟩
 have hb:b.drop k1=(c.drop (k2 + k1)).take (b.length - k1):=by
  rw [<- t2,List.drop_take,List.drop_drop,t2]
 have ha:a=((c.drop (k2 + k1)).take (b.length - k1)).take a.length:=by rw [<- hb,t1]
 rw [List.take_take,show min a.length (b.length - k1)=a.length by omega] at ha
 exact ha.symm
theorem xH {ps:List (List Nat)}{i:Nat}:du ps i=true ↔ pw ps i∉ps.take i/\∀o∈ps,(pw ps i).length < o.length->gi (pw ps i) o=false:=by
 unfold du
 rw [Bool.and_eq_true,Bool.not_eq_true',Bool.not_eq_true',decide_eq_false_iff_not,List.any_eq_false]
 constructor
 .rintro ⟨h1,h2⟩
  refine ⟨h1,fun o ho hl=>?_⟩
  have:=h2 o (List.mem_filter.mpr ⟨ho,decide_eq_true hl⟩)
  simpa using this
 .rintro ⟨h1,h2⟩
  refine ⟨h1,fun o ho=>?_⟩
  obtain ⟨m1,m2⟩:=List.mem_filter.mp ho
  rw [h2 o m1 (of_decide_eq_true m2)];decide
theorem vH {ps:List (List Nat)} (hw:∀w∈ps,w.length<=60):∀(m i:Nat),i < ps.length->(61 - (pw ps i).length) * (ps.length + 1) + i<=m->∃j,j < ps.length/\du ps j=true/\gi (pw ps i) (pw ps j)=true:=by
 intro m
 induction m with
 | zero =>
  intro i hi h
  have hl:=hw _ (List.mem_of_getElem? (iT hi))
  have:0 < (61 - (pw ps i).length) * (ps.length + 1):=Nat.mul_pos (by omega) (by omega)
  omega
 | succ m ih =>
  intro i hi h
  have hl:=hw _ (List.mem_of_getElem? (iT hi))
  by_cases hk:du ps i=true
  .exact ⟨i,hi,hk,xG _⟩
  .by_cases h1:pw ps i∈ps.take i
   .obtain ⟨i',hi'⟩:=List.mem_iff_getElem?.mp h1
    have hlt:i' < i:=by
     have:=(List.getElem?_eq_some_iff.mp hi').1
     rw [List.length_take] at this;omega
    have he:pw ps i'=pw ps i:=by
     rw [List.getElem?_take,if_pos hlt] at hi'
     have:=iT (ws:=ps) (k:=i') (by omega)
     rw [hi'] at this;exact (Option.some.inj this).symm
    obtain ⟨j,a1,a2,a3⟩:=ih i' (by omega) (by rw [he];omega)
    exact ⟨j,a1,a2,by rw [<- he];exact a3⟩
   .have h2:∃o∈ps,(pw ps i).length < o.length/\gi (pw ps i) o=true:=by
     apply Classical.byContradiction
     intro z
     refine hk (xH.mpr ⟨h1,fun o ho hlo=>?_⟩)
     cases hs:gi (pw ps i) o with
     | false=>rfl
     | true=>exact absurd ⟨o,ho,hlo,hs⟩ z
    obtain ⟨o,ho,hlo,hs⟩:=h2
    obtain ⟨i',hi'⟩:=List.mem_iff_getElem?.mp ho
    have hlt:i' < ps.length:=(List.getElem?_eq_some_iff.mp hi').1
    have he:pw ps i'=o:=by
     have:=iT hlt
     rw [hi'] at this;exact (Option.some.inj this).symm
    have hm:(61 - o.length + 1) * (ps.length + 1)<=(61 - (pw ps i).length) * (ps.length + 1):=Nat.mul_le_mul_right _ (by have:=hw o ho;omega)
    rw [Nat.add_mul,Nat.one_mul] at hm
    obtain ⟨j,a1,a2,a3⟩:=ih i' hlt (by rw [he];omega)
    rw [he] at a3
    exact ⟨j,a1,a2,vG hs a3⟩
def qR (a b:List Nat) (k:Nat):Prop:=k < min a.length b.length/\b.take k <:+ a/\∀j,j < min a.length b.length->b.take j <:+ a->j<=k
theorem qR.uniq {a b:List Nat}{j k:Nat} (x:qR a b j) (y:qR a b k):j=k:=Nat.le_antisymm (y.2.2 j x.1 x.2.1) (x.2.2 k y.1 y.2.1)
def eH (a b:List Nat):Nat:=open Classical in if h:∃k,qR a b k then Classical.choose h else 0
theorem vI {a b:List Nat} (ha:0 < a.length) (hb:0 < b.length):qR a b (eH a b):=by
 obtain ⟨k,h1,h2,h3⟩:=kT (fun k=>b.take k <:+ a) (by rw [List.take_zero];exact List.nil_suffix) (min a.length b.length) (by omega)
 have h:∃k,qR a b k:=⟨k,h1,h2,h3⟩
 unfold eH
 rw [dif_pos h]
 exact Classical.choose_spec h
theorem qS {a b:List Nat}{k:Nat} (h:qR a b k):eH a b=k:=(vI (by have:=h.1;omega) (by have:=h.1;omega)).uniq h
def aR (ps:List (List Nat)):List Nat:=(List.range ps.length).filter (du ps)
def vJ (ps:List (List Nat)):List Nat:=(List.range ps.length).filter fun i=>!decide (i∈aR ps)
def az (ps:List (List Nat)):List (List Nat):=(aR ps).map (pw ps)
theorem gA {ps:List (List Nat)}{i:Nat} (h:i∈aR ps):i < ps.length:=List.mem_range.mp (List.mem_filter.mp h).1
theorem jr (ps:List (List Nat)):(aR ps).length<=ps.length:=Nat.le_trans (List.length_filter_le ..) (by rw [List.length_range];omega)
theorem gN {m:Nat}{ps:List (List Nat)} (h:Pcs m ps):Pcs m (az ps):=fun w hw=>by
 obtain ⟨i,hi,rfl⟩:=List.mem_map.mp hw
 exact h _ (iU (gA hi))
theorem fg (ps:List (List Nat)):(az ps).length<=ps.length:=by unfold az;rw [List.length_map];exact jr ps
def ll (ps:List (List Nat)) (i:Nat):List Nat:=(aR ps).filter fun j=>gi (pw ps i) (pw ps j)
def sk (ps:List (List Nat)) (i:Nat):Nat:=(ll ps i).headD 0
theorem xI {l:List Nat} (h:l.Pairwise (· < ·)) {m:Nat} (hm:m∈l) (hle:∀a∈l,m<=a):l.headD 0=m:=by
 cases l with
 | nil=>cases hm
 | cons x r =>
  show x=m
  have h1:=hle x (List.mem_cons_self ..)
  rcases List.mem_cons.mp hm with e | e
  .exact e.symm
  .have:=(List.pairwise_cons.mp h).1 m e;omega
theorem pK (ps:List (List Nat)):(aR ps).Pairwise (· < ·):=List.pairwise_lt_range.filter _
theorem vK {ps:List (List Nat)}{i m:Nat} (hm:m∈ll ps i) (hle:∀a∈ll ps i,m<=a):sk ps i=m:=xI ((pK ps).filter _) hm hle
theorem m3 {ps:List (List Nat)} (hw:∀w∈ps,w.length<=60) {i:Nat} (hi:i < ps.length):∃j,j∈ll ps i:=by
 obtain ⟨j,h1,h2,h3⟩:=vH hw _ i hi (Nat.le_refl _)
 exact ⟨j,List.mem_filter.mpr ⟨List.mem_filter.mpr ⟨List.mem_range.mpr h1,h2⟩,h3⟩⟩
def ey (ps:List (List Nat)) (i:Nat):D:=.tup [.int (i:Int),.int (sk ps i:Int),.int (fnd (pw ps (sk ps i)) (pw ps i) 0)]
def BU (ws:List (List Nat)):D:=.tup (ws.map fun w=>.tup (ws.map fun v=>.int (eH w v:Int)))
def vL (ps:List (List Nat)):Int:=((az ps).map fun w=>(w.length:Int)).sum
def nD (k:Nat):D:=.int (k:Int)
def qT:List Str:=["pieces","kept","words","left","laps","total"]
def qU (ps:List (List Nat)):List D:=[.tup (ps.map .str),.tup ((aR ps).map nD),.tup ((az ps).map .str),.tup ((vJ ps).map (ey ps)),BU (az ps),.int (vL ps)]
theorem vM {ks:List Nat}{k:Nat} (h:k < (ks.map nD).length):itD (ks.map nD) k=.int ((ks.getD k 0:Nat):Int):=jT (by
 have h:k < ks.length:=by rwa [List.length_map] at h
 rw [List.getElem?_map,List.getD_eq_getElem?_getD,List.getElem?_eq_getElem h];rfl)
theorem nQ (w:List Nat):∀ws:List (List Nat),inD (.str w) (ws.map .str)=decide (w∈ws)
 | []=>by simp [inD]
 | v::r=>by
  have ih:=nQ w r
  unfold inD at ih ⊢
  rw [List.map_cons,List.any_cons,ih]
  show ((v == w) || decide (w∈r))=_
  by_cases h:v=w
  .subst h;simp
  .rw [beq_eq_false_iff_ne.mpr h,Bool.false_or]
   by_cases h2:w∈r
   .rw [decide_eq_true h2,decide_eq_true (List.mem_cons_of_mem _ h2)]
   .rw [decide_eq_false h2,decide_eq_false (fun z=>(List.mem_cons.mp z).elim (fun e=>h e.symm) h2)]
theorem vN (k:Nat):∀ks:List Nat,inD (.int (k:Int)) (ks.map nD)=decide (k∈ks)
 | []=>by simp [inD]
 | v::r=>by
  have ih:=vN k r
  unfold inD at ih ⊢
  rw [List.map_cons,List.any_cons,ih]
  show (((v:Int) == (k:Int)) || decide (k∈r))=_
  by_cases h:v=k
  .subst h;simp
  .rw [show ((v:Int) == (k:Int))=false from beq_eq_false_iff_ne.mpr (by omega),Bool.false_or]
   by_cases h2:k∈r
   .rw [decide_eq_true h2,decide_eq_true (List.mem_cons_of_mem _ h2)]
   .rw [decide_eq_false h2,decide_eq_false (fun z=>(List.mem_cons.mp z).elim (fun e=>h e.symm) h2)]
theorem vO (ws:List (List Nat)):(ws.map D.str).all D.fl=true:=by rw [List.all_map];exact List.all_eq_true.mpr fun _ _=>rfl
theorem BV (ks:List Nat):(ks.map nD).all D.fl=true:=by rw [List.all_map];exact List.all_eq_true.mpr fun _ _=>rfl
theorem zQ (n:Nat):pE 0 n=(List.range n).map nD:=by
 unfold pE nD
 exact List.map_congr_left fun k _=>by rw [Int.zero_add]
theorem sm (ws:List (List Nat)):(List.range ws.length).map (pw ws)=ws:=by
 apply List.ext_getElem?
 intro k
 rw [List.getElem?_map]
 by_cases hk:k < ws.length
 .rw [List.getElem?_range hk,iT hk];rfl
 .rw [List.getElem?_eq_none (by rw [List.length_range];omega),List.getElem?_eq_none (by omega)];rfl
theorem xJ {β:Type} (f:List Nat->Option β) (ws:List (List Nat)):(List.range ws.length).filterMap (fun k=>f (pw ws k))=ws.filterMap f:=by
 conv=>rhs;rw [<- sm ws]
 rw [List.filterMap_map];rfl
theorem cY {α β:Type} (p:α->Bool) (g:α->β):∀l:List α,l.filterMap (fun a=>if p a=true then some (g a) else none)=(l.filter p).map g
 | []=>rfl
 | a::r=>by
  rw [List.filterMap_cons,List.filter_cons]
  cases h:p a with
  | true=>simp [cY p g r]
  | false=>simp [cY p g r]
theorem xK {β:Type} (f:Nat->Option β) (ks:List Nat):(List.range ks.length).filterMap (fun k=>f (ks.getD k 0))=ks.filterMap f:=by
 have e:(List.range ks.length).map (fun k=>ks.getD k 0)=ks:=by
  have:=fA (fun k=>k) ks
  rw [List.map_id'] at this;exact this
 conv=>rhs;rw [<- e]
 rw [List.filterMap_map];rfl
theorem iw (n:Nat):(pE 0 n).length=n:=by unfold pE;rw [List.length_map,List.length_range]
theorem jt {n j:Nat} (h:j < (pE 0 n).length):itD (pE 0 n) j=.int (j:Int):=jT (by
 rw [iw] at h
 unfold pE
 rw [List.getElem?_map,List.getElem?_range h]
 show some (D.int (0 + (j:Int)))=_
 rw [Int.zero_add])
theorem xL (a b:List Int):deq (.lst (a.map .int)) (.lst (b.map .int))=decide (a=b):=by
 unfold deq
 show PyData.eqv (.list (D.pys _)) (.list (D.pys _))=_
 rw [nO,nO]
 simp only [PyData.eqv]
 exact kL a b
abbrev vmB:List Value:=[.type "ValueError",.type "Exception",.type "BaseException",.type "object"]
open PySem.Builtin PySem.Builtin.ObjectAttr
section
variable {prog:Program}{w:World}{A:Around}{E:Value->Shared->Prop}{K:PySem.W.Frag}{h:Heap}{g:Array GenState}{d:Drawn}{t:Nat}{os:OsState}
variable {nm q:Str}{C G N x:Addr}{bs:List Value}{sn:List Str}{sub:List Value}{ab:Bool}{col:Option Bool}{k0 k1 k2 k3 k5:Option Value}{name:Str}{v:Value}{o:Obj}{vs:Array Value}
def D0 (h h':Heap) (x:Addr) (o:Obj) (name:Str) (v:Value) (dx:Addr):Prop :=
 h'.get? x=some { o with dict:=some dx }/\h.objs.size<=dx/\dx≠x/\h'.Ns1 dx (fun y=>if y=name then some v else none)/\∀b ob,b≠x->h.get? b=some ob->h'.get? b=some ob
theorem nR {tk:Tok}{Q:Fin->Shared->Prop} (X:K.In h) (hC:h.get? C=some (excClassObj nm q C N bs (.ref G::vmB) true sn sub ab col none k0 k1 k2 k3 k5 "ValueError.__new__"))
  (hna:PySem.W.findIn K (.ref C) name=some none) (hx:h.get? x=some o) (hc:o.cls=.ref C) (hd:o.data=.fields vs) (hdn:o.dict=none)
  (hq:∀h' tk' dx,D0 h h' x o name v dx->Q (.done (.ret .none)) ⟨h',g,d,tk',os⟩) :
  wpAny (model prog w) A (Builtin.«object.__setattr__» ⟨[.ref x,.str name tk,v],[]⟩) Q E ⟨h,g,d,t,os⟩:=by
 have hpass:=PySem.F.store_ValueError.passes (.ref x)
 unfold Builtin.«object.__setattr__»
 repeat (first
  | rw [refuse_eq]
  | (rw [refuseLoop_ref,refuseLoop_ref,hpass])
  | (with_reducible refine wpAny_loadPart_at hx ?_;rw [hc])
  | with_reducible refine wpAny_mroOf_exc hC ?_
  | (with_reducible refine (PySem.W.looks_findIn X hna).at ?_)
  | wp_step)
 rw [hdn,if_neg (by simp [typeHasDict])]
 split
 .rename_i hcd
  cases hcd
 split
 .rename_i c hcd
  rw [hd] at hcd;cases hcd
 .have hx1:(h.push { cls:=.type "dict",data:=.dict #[] }).get? x=some o:=Heap.get?_push_of_some _ hx
  have hxs:x≠h.objs.size:=Nat.ne_of_lt (Heap.lt_size hx)
  refine wpAny_bind (wpAny_alloc' ?_)
  refine wpAny_bind (wpAny_update' hx1 ?_)
  refine wpAny_pure ?_
  generalize hg2:((h.push { cls:=.type "dict",data:=.dict #[] }).update x fun o=>{ cls:=o.cls,dict:=some h.objs.size,data:=o.data,slots:=o.slots })=h2
  have gd:h2.get? h.objs.size=some { cls:=.type "dict",data:=.dict #[] }:=by
   rw [<- hg2]
   exact (Heap.get?_update_ne _ _ _ _ hxs.symm).trans (Heap.get?_push_at rfl rfl)
  have gx:h2.get? x=some { o with dict:=some h.objs.size }:=by
   rw [<- hg2]
   refine Heap.get?_update_self _ hx1 ?_
   have hfr:=(Heap.get?_some_iff.mp hx).2
   obtain ⟨oc,od,odt,osl⟩:=o
   cases odt <;> first | rfl | exact hfr
  have kp:∀b ob,b≠x->h.get? b=some ob->h2.get? b=some ob:=fun b ob hb e=>by
   rw [<- hg2]
   exact (Heap.get?_update_ne _ _ _ _ hb).trans (Heap.get?_push_of_some _ e)
  have hnd:h2.Ns h.objs.size (fun _=>none):=⟨_,#[],_,gd,rfl,fun e he=>absurd he (by simp),fun _=>rfl⟩
  show wpAny _ _ (storeInDict h.objs.size (.str name tk) name v) _ _ _
  unfold storeInDict newKeyGuard
  refine wpAny_bind (wpAny_pure (wpAny_bind (wpAny_nsSet1 (Heap.Ns1.of_empty hnd) fun h' hn' hs=>?_)))
  obtain ⟨oD,esD,epD,hoD,hdD,hcD⟩:=hn'.count (Within.cons name v Within.nil)
  refine wpAny_bind (wpAny_lookBehind hoD (by
   rw [hdD]
   exact pastItsLine_dict (Nat.le_trans hcD (by rw [List.length_cons,List.length_nil,sizeLine_eq];omega))) ?_)
  wp_walk
  exact hq h' _ h.objs.size ⟨(hs.2 x hxs).trans gx,Nat.le_refl _,hxs.symm,hn',fun b ob hb e=>(hs.2 b (Nat.ne_of_lt (Heap.lt_size e))).trans (kp b ob hb e)⟩
theorem zR {Q:Unit->Shared->Prop} (X:K.In h) (hC:h.get? C=some (excClassObj nm q C N bs (.ref G::vmB) true sn sub ab col none k0 k1 k2 k3 k5 "ValueError.__new__"))
  (hsa:PySem.W.findIn K (.ref C) "__setattr__"=some (some (.builtin "object.__setattr__"))) (hna:PySem.W.findIn K (.ref C) name=some none)
  (hx:h.get? x=some o) (hc:o.cls=.ref C) (hd:o.data=.fields vs) (hdn:o.dict=none)
  (hq:∀h' tk' dx,D0 h h' x o name v dx->Q () ⟨h',g,d,tk',os⟩) :
  wpAny (model prog w) A (setAttr (.ref x) name v) Q E ⟨h,g,d,t,os⟩:=by
 have SF:=PySem.F.store_ValueError
 have u3:=SF.slot.bind (.ref x)
 unfold setAttr callSpecial? specialOf
 refine wpAny_bind (wpAny_mkText (wpAny_bind (wpAny_bind (wpAny_bind (wpAny_typeOf_ref hx ?_)))))
 rw [hc]
 refine (PySem.W.looks_findIn X hsa).at ?_
 refine wpAny_holding (wpAny_bind (wpAny_of_eq u3 (wpAny_bind (wpAny_call ?_))))
 have own:(Value.ref C::.ref G::vmB).contains (.type "object")=true:=by
  rw [List.contains_cons,List.contains_cons,SF.hasOwner,Bool.or_true,Bool.or_true]
 refine codeAny_call_builtin SF.slot.plain SF.entry ?_
 simp only [checkBuiltinCall,SF.kind,SF.split]
 have ha:=SF.args (.ref x) (.str name t) v
 show wpAny _ _ (isInstance (.ref x) (.type "object") >>= _) _ _ _
 refine wpAny_bind ?_
 unfold isInstance
 refine wpAny_bind (wpAny_typeOf_ref hx ?_)
 rw [hc]
 refine wpAny_isSubtype_exc hC ?_
 rw [own]
 have step:∀{Q':Fin->Shared->Prop},(∀s',Q () s'->Q' (.done (.ret .none)) s')->wpAny (model prog w) A.in1 (Builtin.«object.__setattr__» ⟨[.ref x,.str name t,v],[]⟩) Q' E ⟨h,g,d,t + 1,os⟩:=fun k =>
  nR X hC hna hx hc hd hdn fun h' tk' dx z=>k _ (hq h' tk' dx z)
 show wpAny _ _ (match Manifest.signature? "object.__setattr__" with | some sig=>Bind.checkArgs "object.__setattr__" sig { pos:=[Value.ref x]++[Value.str name t,v] } | x=>pure ()) _ _ _
 cases hsig:Manifest.signature? "object.__setattr__" with
 | none=>exact wpAny_pure (step fun s' z=>wpAny_pure (wpAny_pure z))
 | some sig =>
  simp only [argsOk,hsig] at ha
  have h2:Bind.checkArgs "object.__setattr__" sig ⟨[.ref x,.str name t,v],[]⟩=pure ():=ha
  show wpAny _ _ (Bind.checkArgs "object.__setattr__" sig ⟨[.ref x,.str name t,v],[]⟩) _ _ _
  rw [h2]
  exact wpAny_pure (step fun s' z=>wpAny_pure (wpAny_pure z))
end
open PySem.Builtin PySem.Builtin.ObjectAttr
open PySem.Builtin PySem.Builtin.ObjectAttr
open PySem.Builtin PySem.Builtin.ObjectAttr
section
variable {prog:Program}{w:World}{A:Around}{E:Value->Shared->Prop}{K:PySem.W.Frag}{h:Heap}{g:Array GenState}{d:Drawn}{t:Nat}{os:OsState}
variable {nm q:Str}{C G N x dx:Addr}{bs:List Value}{sn:List Str}{sub:List Value}{ab:Bool}{col:Option Bool}{k0 k1 k2 k3 k5:Option Value}{name:Str}{v:Value}{o:Obj}{vs:Array Value}{mA:Str->Option Value}
structure XC (K:PySem.W.Frag) (C G:Addr):Prop where
 obj:∃nm q N bs sn sub ab col k0 k1 k2 k3 k5,K.lookup C=some (excClassObj nm q C N bs (.ref G::vmB) true sn sub ab col none k0 k1 k2 k3 k5 "ValueError.__new__")
 ga:PySem.W.findIn K (.ref C) "__getattribute__"=some (some (.builtin "BaseException.__getattribute__"))
 gh:PySem.W.findIn K (.ref C) "__getattr__"=some none
 sa:PySem.W.findIn K (.ref C) "__setattr__"=some (some (.builtin "object.__setattr__"))
 cl:PySem.W.findIn K (.ref C) "__class__"=some (some (.builtin "object.__class__"))
end
theorem XAt.ok {P:Program}{w:World}{H:Hp}{h:Heap}{x C:Addr}{dd:Option Addr}{new:Bool} (p:XAt x C dd new h):cH P w H h x (.ext (XAt x C dd new)):=by
 obtain ⟨o,vs,h1,h2,h3,h4⟩:=id p
 exact ⟨p,⟨o,h1⟩,fun g1 g2 ⟨o',vs',a1,a2⟩ k=>⟨o',vs',k _ a1,a2⟩⟩
section
variable {X:Cx}{pins:List (Addr×Obj)}{σ:St}{H:Hp}{s:Shared}{a dx C G:Addr}{f:Str}{v:V}{fs:List (Str×V)}{A:Around}{E:Value->Shared->Prop}
theorem Un.setX {h h':Heap}{fs ex:List Addr}{o:HO}{o2:HO} (mu:Mut (H a)) (hx:H dx=none) (hd:h.get? dx=none) (k:∀b ob,b≠a->h.get? b=some ob->h'.get? b=some ob) (ha:∃o,h'.get? a=some o):Un fs ex H (upd (upd H dx o) a o2) h h':=by
 have na:∀b,H b=none->b≠a:=fun b n z=>by subst z;rw [n] at mu;exact mu
 have nd:∀b ob,h.get? b=some ob->b≠dx:=fun b ob e z=>by rw [z,hd] at e;cases e
 have hm:∀b u,H b=some u->¬ Mut (some u)->b≠a/\b≠dx:=fun b u q nm=>⟨fun z=>by subst z;rw [q] at mu;exact nm mu,fun z=>by subst z;rw [hx] at q;cases q⟩
 refine ⟨fun b u q n _ _=>k b u (na b n) q,fun b u q n _ _=>⟨u.slots,k b u (na b n) q⟩,fun b u q n _=>by rw [aA (na b n),aA (nd b u q)];exact n,fun b u q _=>?_,
  fun b xs q=>by rw [aA (hm b _ q fun z=>z).1,aA (hm b _ q fun z=>z).2];exact q,fun b u xs q=>by rw [aA (hm b _ q fun z=>z).1,aA (hm b _ q fun z=>z).2];exact q,
  fun b ps q=>⟨#[],by rw [aA (hm b _ q fun z=>z).1,aA (hm b _ q fun z=>z).2,q];simp⟩⟩
 by_cases hb:b=a
 .subst hb;exact ha
 .exact ⟨u,k b u hb q⟩
theorem setX {new:Bool}{y:V}{u:Value}{Q:Unit->Shared->Prop} (I:Inv X pins σ H s) (ea:H a=some (.ext (XAt a C none new))) (c:XC X.K C G) (n:PySem.W.findIn X.K (.ref C) f=some none) (ry:dz y u)
  (h:∀dx s',H dx=none->Inv X pins σ (upd (upd H dx (.xd [(f,y)])) a (.ext (XAt a C (some dx) new))) s'->Q () s'):wpAny (model X.prog X.w) A (setAttr (.ref a) f u) Q E s:=by
 obtain ⟨⟨o,vs,h1,h2,h3,h4,h5⟩,_,_⟩:=(show cH X.prog X.w H s.heap a (.ext (XAt a C none new)) from I.hok a _ ea)
 obtain ⟨nm,q,N,bs,sn,sub,ab,col,k0,k1,k2,k3,k5,e⟩:=c.obj
 have X2:=I.kIn
 obtain ⟨hh,g,d,t,os⟩:=s
 refine zR X2 (X2 _ _ e) c.sa n h1 h2 h4 h3 fun h' tk' dx z=>?_
 obtain ⟨z1,z2,z3,z4,z5⟩:=z
 have hdx:H dx=none:=I.hok.fresh z2
 have hg0:hh.get? dx=none:=Heap.get?_none_of_le z2
 have hne:dx≠a:=z3
 have mu:Mut (H a):=by rw [ea];exact True.intro
 refine h dx _ hdx (I.un (t':=tk') (Un.setX mu hdx hg0 z5 ⟨_,z1⟩) fun b ob eb=>?_)
 by_cases hb:b=a
 .subst hb
  rw [aO] at eb
  cases eb
  exact XAt.ok ⟨_,vs,z1,h2,rfl,h4,h5⟩
 .rw [aA hb] at eb
  by_cases hb2:b=dx
  .subst hb2
   rw [aO] at eb
   cases eb
   refine ⟨_,z4,fun y'=>?_⟩
   show ub (List.lookup y' [(f,y)]) _
   by_cases q:y'=f
   .subst q
    rw [if_pos rfl]
    have e1:List.lookup y' [(y',y)]=some y:=by simp [List.lookup]
    rw [e1];exact ry
   .rw [if_neg q]
    have:(y' == f)=false:=beq_eq_false_iff_ne.mpr q
    simp [List.lookup,this,ub]
  .rw [aA hb2] at eb
   refine (I.hok b ob eb).stay (fun c w hc e=>?_) (fun c e=>?_) fun c xs e=>?_
   .refine z5 c w ?_ e
    rintro rfl
    rcases hc with hc | hc
    .exact hb hc.symm
    .rw [ea] at hc;cases hc
   .rw [aA,aA]
    .exact e
    .rintro rfl;rw [hdx] at e;cases e
    .rintro rfl;rw [ea] at e;cases e
   .rw [aA,aA]
    .exact e
    .rintro rfl;rw [hdx] at e;cases e
    .rintro rfl;rw [ea] at e;cases e
end
section
variable {X:Cx}{o e value:Expr}{f:Str}{pos pos':Pos}{ta tv:TE}
def zS (K:PySem.W.Frag) (ta tv:TE) (f:Str):TS:=fun D σ H=>tv σ H fun y H1=>ta σ H1 fun x H2=>∃a C G new,x=.ref a/\H2 a=some (.ext (XAt a C none new))/\XC K C G/\PySem.W.findIn K (.ref C) f=some none /\
 ∀dx,H2 dx=none->D.nx σ (upd (upd H2 dx (.xd [(f,y)])) a (.ext (XAt a C (some dx) new)))
theorem zT (ha:PE X o ta) (hv:PE X value tv) (hs:swapsWith value (some (.Attribute o f pos')) pos.line X.env=pure false):PS X (.Assign [.Attribute o f pos'] value pos) (zS X.K ta tv f):=by
 intro pins s σ H D I h
 refine plainObj_wpAny_Assign_Attribute (thn (hv pins s σ H _ I h) fun u s1 ⟨y,H1,I1,ry,q⟩=>thn (ha pins s1 σ H1 _ I1 q) fun ov s2 ⟨x,H2,I2,rx,a,C,G,new,ex,ea,c,n,q2⟩=>?_) hs
 subst ex
 obtain rfl:ov=Value.ref a:=rx
 exact setX I2 ea c n ry fun dx s3 hdx I3=>⟨σ,_,I3,q2 dx hdx⟩
end
structure XM (K:PySem.W.Frag) (C G fI:Addr):Prop where
 c:XC K C G
 tail:∀h:Heap,K.In h->OwnTail h vmB (.ref G::vmB)
 init:PySem.W.findIn K (.ref C) "__init__"=some (some (.ref fI))
 fn:PySem.W.typeIn K (.ref fI)=some (.type "function")
 kp:PySem.W.keepIn K (.ref C)=true
def BW (K:PySem.W.Frag) (f:Str):Sp:=fun vs H Q _=>∃a C G new v,vs=[.ref a,v]/\H a=some (.ext (XAt a C none new))/\XC K C G/\PySem.W.findIn K (.ref C) f=some none/\∀dx,H dx=none->Q .non (upd (upd H dx (.xd [(f,v)])) a (.ext (XAt a C (some dx) new)))
structure Dr (P:Program) (w:World) (K:PySem.W.Frag) (mg:Str->Option Value) (base:Heap) (k:Nat) (C:Addr) (x f:Str):Prop where
 ex:∃(G fI:Addr) (fd:FuncData) (ps:List Str),mS P w K mg base CX0 k fI fd ps (BW K f)/\jc K fd ps []/\XM K C G fI/\PySem.W.findIn K (.ref C) f=some none/\mg x=some (.ref C)
def X0 (K:PySem.W.Frag) (C:Addr):Prop:=∀h:Heap,K.In h->∃bm N nm q bs hd sn sub ab col dd k0 k1 k2 k3 k5 mN,
 h.get? C=some (excClassObj nm q C N bs bm hd sn sub ab col dd k0 k1 k2 k3 k5 "ValueError.__new__")/\h.Ns N mN/\mN "__init__"=none/\OwnTail h vmB bm
theorem Ds {K:PySem.W.Frag}{C:Addr} (q:PySem.W.excIn K C vmB "ValueError.__new__"=true):X0 K C:=fun h X=>by
 unfold PySem.W.excIn at q
 split at q
 case h_2=>cases q
 case h_1 dd cd sl ho =>
  split at q
  case h_2=>cases q
  case h_1 C' bm k0 k1 k2 k3 n k5 hm hs =>
   simp only [Bool.and_eq_true,beq_iff_eq,Bool.not_eq_true'] at q
   obtain ⟨⟨⟨⟨⟨e1,e2⟩,hdel⟩,ht⟩,hok⟩,hni⟩:=q
   subst e1 e2
   cases cd with
   | mk nm bs mro ns qn hd sn sub ab col del =>
    cases sl with
    | mk l =>
     have hs:l=[k0,k1,k2,k3,some (.builtin "ValueError.__new__"),k5]:=hs
     have hm:mro=.ref C'::bm:=hm
     have hdel:del=false:=hdel
     subst hs hm hdel
     refine ⟨bm,ns,nm,qn,bs,hd,sn,sub,ab,col,dd,k0,k1,k2,k3,k5,_,X _ _ ho,.of_isNs (PySem.W.isNs_of_in X hok),PySem.W.nsMap_none_of_in X hok hni,PySem.W.tail_of_in X ht⟩
theorem zU {K:PySem.W.Frag}{G:Addr} (q:PySem.W.excIn K G vmB "ValueError.__new__"=true) (hg:∃nm q N bs sn sub ab col k0 k1 k2 k3 k5,K.lookup G=some (excClassObj nm q G N bs vmB true sn sub ab col none k0 k1 k2 k3 k5 "ValueError.__new__")) :
  ∀h:Heap,K.In h->OwnTail h vmB (.ref G::vmB):=fun h X=>by
 obtain ⟨bm,N,nm,qn,bs,hd,sn,sub,ab,col,dd,k0,k1,k2,k3,k5,mN,h1,h2,h3,_⟩:=Ds q h X
 exact .own h1 h2 h3 .base
def XCl (K:PySem.W.Frag) (c:Str):Prop:=∃dd cd sl,K.lookup (bL K c)=some ⟨.type "type",dd,.cls cd,sl⟩/\cd.name=c
structure Eh (K:PySem.W.Frag) (cs:List Str):Prop where
 g:XCl K "GlueError"
 n:∀c∈cs,XCl K c
 c:∀c∈cs,XC K (bL K c) (bL K "GlueError")
section
variable {P:Program}{w:World}{K:PySem.W.Frag}{mg:Str->Option Value}{base:Heap}{x qual nm:Str}{C G fI:Addr}{st:Stmt}{fd:FuncData}{N ps:List Str}
theorem vP (F:Fun K "__init__" qual st fI fd) (S:aL N ps (ao st)) (hl:ps.length=2)
  (hb:∀(kV doc pm:Value) (an:Option Addr) (cdv ct:Value) (us:List Value),us.length=ps.length->bindArgs (PySem.W.fnOf "__init__" qual (cJ st) (bK st) (ao st) .none kV doc pm an cdv ct) ⟨us,[]⟩=pure (ps.zip us))
  (hp:∀(cdv:Value) (A:Around) (outer:List Env) (s:Shared) (H:Hp) (E:XK),PSs (uD CX0 P w K mg base N qual (ao st) fI cdv A outer s H E).nox (bK st) (zS K (a9 0) (a9 1) nm))
  (m:XM K C G fI) (na:PySem.W.findIn K (.ref C) nm=some none) (hm:mg x=some (.ref C)):Dr P w K mg base 1 C x nm:=by
 refine ⟨G,fI,fd,ps,F.ok (k:=0) S (fun vs H Q E h=>?_) (fun cdv A outer s H vs Q E hr h=>⟨_,hp cdv A outer s H E,?_⟩),F.binds hb,m,na,hm⟩
 .obtain ⟨a,C,G,new,v,rfl,_⟩:=h
  exact hl.symm
 .obtain ⟨a,C,G,new,v,rfl,ea,c,n,q⟩:=h
  exact ⟨v,rfl,.ref a,rfl,a,C,G,new,rfl,ea,c,n,fun dx hdx=>q dx hdx⟩
end
section
variable {X:Cx}{e:Expr}{f:Str}{pos:Pos}{ta:TE}
theorem ss (K:PySem.W.Frag) (ek:X.K=K) {o value:Expr}{pos':Pos}{tv:TE} (ha:PE X o ta) (hv:PE X value tv) (hs:swapsWith value (some (.Attribute o f pos')) pos.line X.env=pure false):PS X (.Assign [.Attribute o f pos'] value pos) (zS K ta tv f):=by subst ek;exact zT ha hv hs
end
def XD (K:PySem.W.Frag) (D:Addr):Prop:=∃nm q N bs bm hd sn sub ab col d0 k0 k1 k2 k3 k5 nw,K.lookup D=some (excClassObj nm q D N bs bm hd sn sub ab col d0 k0 k1 k2 k3 k5 nw)/\(Value.ref D::bm).contains (.type "BaseException")=true
theorem vQ (d:D):(PV.dat d).d=d:=rfl
theorem vR (ds:List D):(PV.own ds).d=.lst ds:=rfl
theorem vS (c:Str) (ns:List Str) (ds:List D):(PV.ins c ns ds).d=.obj c ns ds:=rfl
theorem BX (ds:List D):mkL false ds=.own ds:=rfl
theorem BY (ds:List D):mkL true ds=.dat (.tup ds):=rfl
def pkm (ρ:PSt) (j:Nat):Option PV:=match ρ[j]? with
 | some v=>v
 | none=>none
theorem su (v:Option PV) (r:PSt):pkm (v::r) 0=v:=rfl
theorem sv (v:Option PV) (r:PSt) (n:Nat):pkm (v::r) (n + 1)=pkm r n:=rfl
theorem pM (ρ:PSt):bX [] ρ=[]:=rfl
theorem m4 (ix:List (Option Nat)) (ρ:PSt):bX (none::ix) ρ=none::bX ix ρ:=rfl
theorem m5 (j:Nat) (ix:List (Option Nat)) (ρ:PSt):bX (some j::ix) ρ=pkm ρ j::bX ix ρ:=rfl
theorem pN (j:Nat) (ix:List (Option Nat)) (ρ:PSt) (t:Option PV) (τ:PSt):eG (some j::ix) ρ (t::τ)=eG ix (ρ.set j t) τ:=rfl
theorem pO (ix:List (Option Nat)) (ρ:PSt) (t:Option PV) (τ:PSt):eG (none::ix) ρ (t::τ)=eG ix ρ τ:=rfl
theorem sw (ρ τ:PSt):eG [] ρ τ=ρ:=rfl
def BZ (pe:PTE):PTE:=fun ρ Q=>pe ρ fun p ρ1=>Q (.dat p.d) ρ1
theorem sx {K:PySem.W.Frag}{ta:TE}{pe:PTE} (h:LE K ta pe):LE K ta (BZ pe):=fun A ρ σ H Q Q' R q k=>h A ρ σ H _ Q' R q fun v H' p ρ' q f o=>k v H' (.dat p.d) ρ' q f o.frz
theorem zV {α:Type}{e:α->D}{xs:List α}{k:Nat} (h:k < xs.length):itD (xs.map e) k=e xs[k]:=jT (by rw [List.getElem?_map,List.getElem?_eq_getElem h];rfl)
theorem vT {α β:Type} (f:α->β) (xs:List α) (g:Nat->β) (h:∀k (hk:k < xs.length),g k=f xs[k]):(List.range xs.length).map g=xs.map f:=by
 apply List.ext_getElem?
 intro i
 rw [List.getElem?_map,List.getElem?_map]
 by_cases hi:i < xs.length
 .rw [List.getElem?_range hi,List.getElem?_eq_getElem hi]
  exact congrArg some (h i hi)
 .rw [List.getElem?_eq_none (by rw [List.length_range];omega),List.getElem?_eq_none (by omega)];rfl
section
variable {α:Type}{e:α->D}{xs:List α}{ix:List (Option Nat)}{ρ1:PSt}{g:PTG}{pt:PTT}{pe:PTE}{Q:PKt}
theorem D1 (T:PSt->Prop) (f:α->Option D) (h0:T (bX ix ρ1))
  (hs:∀x∈xs,∀τ,T τ->∀(K1:D->PSt->Prop) (K2:PSt->Prop),(∀d τ',f x=some d->T τ'->K1 d τ')->(∀τ',f x=none->T τ'->K2 τ')->g (.dat (e x)) τ fun τ2=>pt τ2 fun ok τ3=>iq ok (pe τ3 fun p τ4=>K1 p.d τ4) (K2 τ3))
  (hq:∀τ,T τ->Q (.own (xs.filterMap f)) (eG ix ρ1 τ)):l6 ix ρ1 (xs.map e).length (itD (xs.map e)) g pt pe Q:=by
 refine cfm T (fun k=>(xs[k]?).bind f) h0 (fun k τ d hk ed t K1 K2 k1 k2=>?_) fun τ t=>?_
 .rw [List.length_map] at hk
  rw [zV hk] at ed
  subst ed
  have eg:(xs[k]?).bind f=f xs[k]:=by rw [List.getElem?_eq_getElem hk];rfl
  rw [eg] at k1 k2
  exact hs _ (List.getElem_mem hk) τ t K1 K2 k1 k2
 .have e1:(List.range (xs.map e).length).filterMap (fun k=>(xs[k]?).bind f)=xs.filterMap f:=by
   rw [List.length_map]
   have h1:(List.range xs.length).map (fun k=>(xs[k]?).bind f)=xs.map f:=vT f xs _ fun k hk=>by rw [List.getElem?_eq_getElem hk];rfl
   have h2:∀l:List Nat,l.filterMap (fun k=>(xs[k]?).bind f)=(l.map fun k=>(xs[k]?).bind f).filterMap id:=fun l=>by rw [List.filterMap_map];rfl
   rw [h2,h1,List.filterMap_map];rfl
  rw [e1];exact hq τ t
theorem B0 (T:PSt->Prop) (f:α->D) (h0:T (bX ix ρ1))
  (hs:∀x∈xs,∀τ,T τ->∀K1:D->PSt->Prop,(∀τ',T τ'->K1 (f x) τ')->g (.dat (e x)) τ fun τ2=>pe τ2 fun p τ4=>K1 p.d τ4)
  (hq:∀τ,T τ->Q (.own (xs.map f)) (eG ix ρ1 τ)):l6 ix ρ1 (xs.map e).length (itD (xs.map e)) g k6 pe Q:=by
 refine D1 T (fun x=>some (f x)) h0 (fun x hx τ t K1 K2 k1 k2=>?_) fun τ t=>?_
 .exact hs x hx τ t K1 fun τ' t'=>k1 _ τ' rfl t'
 .rw [show xs.filterMap (fun x=>some (f x))=xs.map f by rw [<- List.filterMap_eq_map];rfl];exact hq τ t
theorem Dt {β:Type} (p:α->Bool) (f:α->β):∀xs:List α,xs.filterMap (fun x=>if p x=true then some (f x) else none)=(xs.filter p).map f:=cY p f
theorem cfX (T:PSt->Prop) (p:α->Bool) (f:α->D) (h0:T (bX ix ρ1))
  (hs:∀x∈xs,∀τ,T τ->∀(K1:D->PSt->Prop) (K2:PSt->Prop),(∀τ',p x=true->T τ'->K1 (f x) τ')->(∀τ',p x=false->T τ'->K2 τ')->g (.dat (e x)) τ fun τ2=>pt τ2 fun ok τ3=>iq ok (pe τ3 fun p τ4=>K1 p.d τ4) (K2 τ3))
  (hq:∀τ,T τ->Q (.own ((xs.filter p).map f)) (eG ix ρ1 τ)):l6 ix ρ1 (xs.map e).length (itD (xs.map e)) g pt pe Q:=by
 refine D1 T (fun x=>if p x=true then some (f x) else none) h0 (fun x hx τ t K1 K2 k1 k2=>hs x hx τ t K1 K2 (fun τ' h t'=>k1 _ τ' (by rw [if_pos h]) t') fun τ' h t'=>k2 τ' (by rw [if_neg (by rw [h];decide)]) t') fun τ t=>?_
 rw [Dt];exact hq τ t
theorem cm1 (f:α->D)
  (hs:∀x∈xs,∀(v:Option PV) (K1:D->PSt->Prop),(∀v',K1 (f x) (v'::(bX ix ρ1).tail))->g (.dat (e x)) (v::(bX ix ρ1).tail) fun τ2=>pe τ2 fun p τ4=>K1 p.d τ4)
  (hq:∀v:Option PV,Q (.own (xs.map f)) (eG ix ρ1 (v::(bX ix ρ1).tail))) (hx:bX ix ρ1=none::(bX ix ρ1).tail:=by rfl):l6 ix ρ1 (xs.map e).length (itD (xs.map e)) g k6 pe Q:=by
 refine B0 (fun τ=>∃v,τ=v::(bX ix ρ1).tail) f ⟨none,hx⟩ ?_ ?_
 .rintro x hx τ ⟨v,rfl⟩ K1 k1
  exact hs x hx v K1 fun v'=>k1 _ ⟨v',rfl⟩
 .rintro τ ⟨v,rfl⟩
  exact hq v
theorem cf1 (p:α->Bool) (f:α->D)
  (hs:∀x∈xs,∀(v:Option PV) (K1:D->PSt->Prop) (K2:PSt->Prop),(∀v',p x=true->K1 (f x) (v'::(bX ix ρ1).tail))->(∀v',p x=false->K2 (v'::(bX ix ρ1).tail))->g (.dat (e x)) (v::(bX ix ρ1).tail) fun τ2=>pt τ2 fun ok τ3=>iq ok (pe τ3 fun p τ4=>K1 p.d τ4) (K2 τ3))
  (hq:∀v:Option PV,Q (.own ((xs.filter p).map f)) (eG ix ρ1 (v::(bX ix ρ1).tail))) (hx:bX ix ρ1=none::(bX ix ρ1).tail:=by rfl):l6 ix ρ1 (xs.map e).length (itD (xs.map e)) g pt pe Q:=by
 refine cfX (fun τ=>∃v,τ=v::(bX ix ρ1).tail) p f ⟨none,hx⟩ ?_ ?_
 .rintro x hx τ ⟨v,rfl⟩ K1 K2 k1 k2
  exact hs x hx v K1 K2 (fun v' h=>k1 _ h ⟨v',rfl⟩) fun v' h=>k2 _ h ⟨v',rfl⟩
 .rintro τ ⟨v,rfl⟩
  exact hq v
end
theorem cfR {ix:List (Option Nat)}{ρ1:PSt}{g:PTG}{pt:PTT}{pe:PTE}{Q:PKt}{n:Nat}{it:Nat->D} (p:Nat->Bool) (f:Nat->D)
  (hs:∀k,k < n->∀(v:Option PV) (K1:D->PSt->Prop) (K2:PSt->Prop),(∀v',p k=true->K1 (f k) (v'::(bX ix ρ1).tail))->(∀v',p k=false->K2 (v'::(bX ix ρ1).tail))->g (.dat (it k)) (v::(bX ix ρ1).tail) fun τ2=>pt τ2 fun ok τ3=>iq ok (pe τ3 fun p τ4=>K1 p.d τ4) (K2 τ3))
  (hq:∀v:Option PV,Q (.own (((List.range n).filter p).map f)) (eG ix ρ1 (v::(bX ix ρ1).tail))) (hx:bX ix ρ1=none::(bX ix ρ1).tail:=by rfl):l6 ix ρ1 n it g pt pe Q:=by
 refine cfm (fun τ=>∃v,τ=v::(bX ix ρ1).tail) (fun k=>if p k=true then some (f k) else none) ⟨none,hx⟩ ?_ ?_
 .rintro k τ d hk rfl ⟨v,rfl⟩ K1 K2 k1 k2
  exact hs k hk v K1 K2 (fun v' h=>k1 _ _ (by rw [if_pos h]) ⟨v',rfl⟩) fun v' h=>k2 _ (by rw [if_neg (by rw [h];decide)]) ⟨v',rfl⟩
 .rintro τ ⟨v,rfl⟩
  rw [cY]
  exact hq v
theorem vU {α β:Type} (f:α->β) (xs:List α) (i:Nat):(xs.map f).eraseIdx i=(xs.eraseIdx i).map f:=by
 rw [List.eraseIdx_eq_take_drop_succ,List.eraseIdx_eq_take_drop_succ,List.map_append,List.map_take,List.map_drop]
theorem vV {α:Type}{js:List α}{i:Nat} (h:i < js.length):(js.eraseIdx i++[js[i]]).Perm js:=by
 rw [List.eraseIdx_eq_take_drop_succ,List.append_assoc]
 have e:js=js.take i++(js[i]::js.drop (i + 1)):=by rw [List.getElem_cons_drop,List.take_append_drop]
 conv=>rhs;rw [e]
 exact List.Perm.append_left _ (List.perm_append_singleton _ _)
theorem D2 {n i:Nat} (h:i < n):ixN n (i:Int)=some i:=by
 unfold ixN
 rw [if_pos (by omega),if_pos (by omega),Int.toNat_natCast]
theorem cm2 {α:Type}{e:α->D}{xs:List α}{ix:List (Option Nat)}{ρ1:PSt}{g:PTG}{pe:PTE}{Q:PKt} (f:α->D)
  (hs:∀x∈xs,∀(v w:Option PV) (K1:D->PSt->Prop),(∀v' w',K1 (f x) (v'::w'::(bX ix ρ1).tail.tail))->g (.dat (e x)) (v::w::(bX ix ρ1).tail.tail) fun τ2=>pe τ2 fun p τ4=>K1 p.d τ4)
  (hq:∀v w:Option PV,Q (.own (xs.map f)) (eG ix ρ1 (v::w::(bX ix ρ1).tail.tail))) (hx:bX ix ρ1=none::none::(bX ix ρ1).tail.tail:=by rfl):l6 ix ρ1 (xs.map e).length (itD (xs.map e)) g k6 pe Q:=by
 refine B0 (fun τ=>∃v w,τ=v::w::(bX ix ρ1).tail.tail) f ⟨none,none,hx⟩ ?_ ?_
 .rintro x hx τ ⟨v,w,rfl⟩ K1 k1
  exact hs x hx v w K1 fun v' w'=>k1 _ ⟨v',w',rfl⟩
 .rintro τ ⟨v,w,rfl⟩
  exact hq v w
theorem vW (a b:List Nat):(!(Builtin.Str.occurrences (S b) (S a) 0 (S b).length 1).isEmpty)=gi a b:=by
 have e:=u4 b a 0
 unfold gi
 rw [<- e]
 cases Builtin.Str.occurrences (S b) (S a) 0 (S b).length 1 with
 | nil=>rfl
 | cons k r=>exact (decide_eq_true (by omega:(0:Int)<=(k:Int))).symm
section
variable {X:Cx}{K:PySem.W.Frag}
def Du (neg:Bool):R2:=fun x y H Q=>∃a b,x=.str (S a)/\y=.str (S b)/\Q (.bl (if neg then !gi a b else gi a b)) H
theorem B1:OpR X (compareOp .In) (Du false):=by
 intro pins s σ H x y v u Q I rx ry h
 obtain ⟨a,b,rfl,rfl,q⟩:=h
 obtain ⟨t,rfl⟩:=rx
 obtain ⟨t',rfl⟩:=ry
 exact P.in_str ⟨.bl _,H,I,rfl,by rw [vW];exact q⟩
theorem vX:OpR X (compareOp .NotIn) (Du true):=by
 intro pins s σ H x y v u Q I rx ry h
 obtain ⟨a,b,rfl,rfl,q⟩:=h
 obtain ⟨t,rfl⟩:=rx
 obtain ⟨t',rfl⟩:=ry
 exact P.notIn_str ⟨.bl _,H,I,rfl,by rw [vW];exact q⟩
def B2 (K:PySem.W.Frag) (neg:Bool):R2:=fun x y H Q=>rIn K neg x y H Q\/Du neg x y H Q
theorem Dv (K:PySem.W.Frag) (e:X.K=K):OpR X (compareOp .In) (B2 K false):=OpR.or (Eg K e) B1
theorem nS (K:PySem.W.Frag) (e:X.K=K):OpR X (compareOp .NotIn) (B2 K true):=OpR.or (zp K e) vX
def Ar (neg:Bool):F2
 | .str a,.str b,Q=>Q (.dat (.bl (if neg then !gi a b else gi a b)))
 | a,.lst ds,Q=>(a.fl=true/\ds.all D.fl=true)/\Q (.dat (.bl (if neg then !inD a ds else inD a ds)))
 | a,.tup ds,Q=>(a.fl=true/\ds.all D.fl=true)/\Q (.dat (.bl (if neg then !inD a ds else inD a ds)))
 | _,_,_=>False
theorem sy {neg:Bool}:LO K (B2 K neg) (Ar neg):=by
 intro O H x y a b Q Q' dom fx fy q k
 unfold Ar at q
 split at q
 .obtain ⟨rfl,_⟩:=fx.str
  obtain ⟨rfl,_⟩:=fy.str
  exact .inr ⟨_,_,rfl,rfl,k _ H _ q (Gr.refl _) (.bl _)⟩
 .exact .inl (Bu O H x y _ _ Q Q' dom fx fy q k)
 .exact .inl (Bu O H x y _ _ Q Q' dom fx fy q k)
 .exact q.elim
end
section
variable {X:Cx}{K:PySem.W.Frag}
def ym (K:PySem.W.Frag):R2:=fun x y H Q=>∃a b ys,x=.ref a/\y=.ref b/\SqT K H a []/\SqT K H b ys/\Q (.ref b) H
theorem xM:OpR X (binaryOp .Add) (ym X.K):=by
 intro pins s σ H x y v u Q I rx ry h
 obtain ⟨a,b,ys,rfl,rfl,ha,hb,q⟩:=h
 cases rx
 cases ry
 obtain ⟨its,r1,p1,_⟩:=I.tuple ha
 obtain ⟨its2,r2,p2,_⟩:=I.tuple hb
 have e0:its=[]:=r1.nil_iff.mpr rfl
 subst e0
 obtain ⟨⟨cls,dd,data,sl⟩,ho,hc,n,hd⟩:=id p1
 obtain ⟨⟨cls2,dd2,data2,sl2⟩,ho2,hc2,n2,hd2⟩:=id p2
 simp only at hc hd hc2 hd2
 subst hc hd hc2 hd2
 exact concat_meets ⟨_,ho,rfl⟩ ⟨_,ho2,rfl⟩ noFill_tuple_add seq_tuple_add PySem.F.slot_tuple_add PySem.F.entry_tuple_add (PySem.F.args_tuple_add_2 _ _) (tuple_addW0 a b _ _ n n2 dd dd2 sl sl2 rfl) ⟨ho,ho2,.ref b,H,I,rfl,q⟩
def zW (K:PySem.W.Frag):R2:=fun x y H Q=>zl K x y H Q\/ym K x y H Q
theorem bF (K:PySem.W.Frag) (e:X.K=K):OpR X (binaryOp .Add) (zW K):=OpR.or (C6 K e) (by subst e;exact xM)
def cP:F2
 | .tup a,.tup b,Q=>a.length + b.length<=1000000/\Q (.dat (.tup (a++b)))
 | a,b,Q=>C7 a b Q
theorem a5:LO K (zW K) cP:=by
 intro O H x y a b Q Q' dom fx fy q k
 unfold cP at q
 split at q
 .rename_i Q ds es
  cases ds with
  | cons d ds=>exact .inl (yb O H x y _ _ _ Q' dom fx fy ⟨nofun,q⟩ k)
  | nil =>
   obtain ⟨p1,xs1,rfl,n1,e1,f1⟩:=fx.tup
   obtain ⟨p2,xs2,rfl,n2,e2,f2⟩:=fy.tup
   cases f1
   exact .inr ⟨p1,p2,xs2,rfl,rfl,SqT.of e1,SqT.of e2,k _ H _ q.2 (Gr.refl _) (.tup n2 e2 f2)⟩
 .exact .inl (yb O H x y _ _ _ Q' dom fx fy q k)
end
section
variable {X:Cx}
def D3:Expr->Bool
 | .ListComp .. | .SetComp .. | .DictComp ..=>false
 | _=>true
theorem vY {o i e:Expr}{p:Pos}{l:Nat}{env:Env} (h:D3 e=true):swapsWithSole [.Subscript o i p] e l env=pure false:=by
 show swapsWith e (some (.Subscript o i p)) l env=pure false
 cases e <;> first | rfl | cases h
theorem qV {o i e:Expr}{p:Pos}{env:Env}:swappedStores [.Subscript o i p] e env=pure none:=rfl
theorem lm {o i e:Expr}{p:Pos}{te:TE}{g:TG}{pos:Pos} (he:PE X e te) (hg:PG X (.Subscript o i p) g) (hn:D3 e=true:=by rfl):PS X (.Assign [.Subscript o i p] e pos) (wu te g) :=
 rH he hg (vY hn) qV rfl
end
def gn (K:PySem.W.Frag) (x:Str) (st:Stmt):Prop:=∃(f:Addr) (oc kV dc pm cd ct:Value) (od an:Option Addr) (sl:Array (Option Value)),PySem.W.nsIn K mainGlobals x=some (some (.ref f)) /\
 K.lookup f=some ⟨oc,od,.func (PySem.W.fnOf x x (cJ st) (bK st) (ao st) .none kV dc pm an cd ct),sl⟩/\PySem.W.codeIn K cd x=true/\PySem.W.keepIn K (.ref f)=true
theorem B3 {K:PySem.W.Frag}{x:Str}{st:Stmt}{f:Addr}{oc kV dc pm cd ct:Value}{od an:Option Addr}{sl:Array (Option Value)} (a:PySem.W.nsIn K mainGlobals x=some (some (.ref f))) (l:K.lookup f=some ⟨oc,od,.func (PySem.W.fnOf x x (cJ st) (bK st) (ao st) .none kV dc pm an cd ct),sl⟩)
  (c:PySem.W.codeIn K cd x=true) (k:PySem.W.keepIn K (.ref f)=true):gn K x st:=⟨f,oc,kV,dc,pm,cd,ct,od,an,sl,a,l,c,k⟩
theorem bI {K:PySem.W.Frag}{h:Heap}{mg:Str->Option Value}{x:Str}{st:Stmt} (q:gn K x st) (X:K.In h) (G:h.Ns mainGlobals mg):cE K mg x st:=by
 obtain ⟨f,oc,kV,dc,pm,cd,ct,od,an,sl,a,l,c,k⟩:=q
 exact .mk' X G a l c k
section
variable {X:Cx}{K:PySem.W.Frag}
def Dw (i j:Int):Prop:=0 < j/\j < 18446744073709551616
abbrev B4:=rI Dw fun i j=>.int (i / j)
abbrev B5:F2:=fI (fun _ j=>0 < j/\j < 18446744073709551616) fun i j=>.int (i / j)
theorem B6 {x y:Int} (h:y.natAbs < 18446744073709551616):Builtin.divisionGoesByPylong x y=false:=by
 refine PyProof.noPylong_of_log2 ?_
 by_cases h0:y.natAbs=0
 .rw [h0];decide +kernel
 .have h64:y.natAbs.log2 < 64:=(Nat.log2_lt h0).mpr h
  omega
theorem zX:OpR X (binaryOp .FloorDiv) B4:=opI fun i j _ _ _ _ _ hc q=>by
 have h1:(0:Int) < j:=hc.1
 have h2:j < 18446744073709551616:=hc.2
 exact floordiv_int (by omega) (by rw [Int.fdiv_eq_ediv_of_nonneg i (by omega)];exact q) (.inl (B6 (by omega)))
theorem xN:LO K B4 B5:=Cr fun _ _ _ _=>.int _
end
section
open PySem.AutoSeq1 (wpAny_loadPart')
open PySem.MeetsSeq PySem.MeetsSeq2 PySem.MeetsSeq3
variable {P:Program}{w:World}{A:Around}
end
def frzA (ρ:PSt):PSt:=ρ.map (Option.map fun p=>PV.dat p.d)
section
variable {K:PySem.W.Frag}{A:Addr->Prop}{ρ:PSt}{σ:St}{H H':Hp}{O O':Addr->Prop}
theorem nU {i:Nat}{p:PV} (e:(frzA ρ)[i]?=some (some p)):∃p0,ρ[i]?=some (some p0)/\p=.dat p0.d:=by
 unfold frzA at e
 rw [List.getElem?_map] at e
 cases h:ρ[i]? with
 | none=>rw [h] at e;cases e
 | some o =>
  cases o with
  | none=>rw [h] at e;cases e
  | some p0=>rw [h] at e;cases e;exact ⟨p0,rfl,rfl⟩
theorem nV {b:Addr}:¬ Wr (frzA ρ) σ b:=fun ⟨i,p,e,o,_⟩=>by
 obtain ⟨p0,_,rfl⟩:=nU e
 cases o
theorem Rel.frzA (R:Rel K A ρ σ H):Rel K A (frzA ρ) σ H:=by
 have k:aU (OO A ρ σ) H (OO A (L2.frzA ρ) σ) H:=aU.less fun b z=>z.elim .inl fun z=>(nV z).elim
 refine ⟨by unfold L2.frzA;rw [List.length_map];exact R.len,fun i p e=>?_,fun i j p q v e1 e2 o1=>?_,R.dom,fun b _ w=>nV w⟩
 .obtain ⟨p0,e0,rfl⟩:=nU e
  obtain ⟨v,s,r⟩:=R.get i p0 e0
  refine ⟨v,s,?_⟩
  have na:∀a,v=.ref a->p0.isOwn=true->¬ OO A (L2.frzA ρ) σ a:=fun a ea oo z=>by
   subst ea
   rcases z with z | z
   .exact R.sep a z ⟨i,p0,e0,oo,s⟩
   .exact nV z
  cases p0 with
  | dat d=>exact FV.keeps k r
  | own ds =>
   obtain ⟨a,xs,rfl,g,f⟩:=r
   exact .lst (na a rfl rfl) g (f.keeps k)
  | ins c ns ds =>
   obtain ⟨a,dx,fs,rfl,g,m,f⟩:=r
   exact .obj (na a rfl rfl) g m (f.keeps k)
 .obtain ⟨p0,_,rfl⟩:=nU e1
  cases o1
theorem FV.flat {v:V}{d:D} (h:FV K O H v d) (f:d.fl=true):FV K O' H' v d:=by
 cases h with
 | non=>exact .non
 | bl b=>exact .bl b
 | int i=>exact .int i
 | str l hl=>exact .str l hl
 | ty _=>cases f
 | scr _=>cases f
 | lst _ _ _=>cases f
 | tup _ _ _=>cases f
 | dic _ _ _ _=>cases f
 | obj _ _ _ _=>cases f
 | exc0 _ _=>cases f
 | exc1 _ _ _ _ _ _=>cases f
inductive Cp (K:PySem.W.Frag) (O:Addr->Prop) (H0 H:Hp):List Addr->List (List D)->Prop
 | nil:Cp K O H0 H [] []
 | cons {a:Addr}{xs:List V}{r:List D}{as:List Addr}{rows:List (List D)}:H a=some (.lst xs)->FVs K O H0 xs r->Cp K O H0 H as rows->Cp K O H0 H (a::as) (r::rows)
theorem Cp.length {H0:Hp}:∀{as:List Addr}{rows:List (List D)},Cp K O H0 H as rows->as.length=rows.length
 | _,_,.nil=>rfl
 | _,_,.cons _ _ t=>by rw [List.length_cons,List.length_cons,t.length]
theorem Cp.app {H0:Hp}{a:Addr}{xs:List V}{r:List D} (h1:H a=some (.lst xs)) (h2:FVs K O H0 xs r):∀{as:List Addr}{rows:List (List D)},Cp K O H0 H as rows->Cp K O H0 H (as++[a]) (rows++[r])
 | _,_,.nil=>.cons h1 h2 .nil
 | _,_,.cons p q t=>.cons p q (Cp.app h1 h2 t)
theorem Cp.get {H0:Hp}:∀{as:List Addr}{rows:List (List D)}{n:Nat}{r:List D},Cp K O H0 H as rows->rows[n]?=some r->∃a xs,as[n]?=some a/\H a=some (.lst xs)/\FVs K O H0 xs r
 | _,_,n,_,.nil,e=>by simp at e
 | _,_,0,_,.cons p q t,e=>by simp at e;subst e;exact ⟨_,_,rfl,p,q⟩
 | _,_,n + 1,r,.cons p q t,e=>by
  obtain ⟨a,xs,h1,h2,h3⟩:=Cp.get (n:=n) (r:=r) t (by simpa using e)
  exact ⟨a,xs,by simpa using h1,h2,h3⟩
theorem Cp.mono {H0:Hp}:∀{as:List Addr}{rows:List (List D)},(∀a∈as,∀o,H a=some o->H' a=some o)->Cp K O H0 H as rows->Cp K O H0 H' as rows
 | _,_,_,.nil=>.nil
 | _,_,k,.cons p q t=>.cons (k _ List.mem_cons_self _ p) q (t.mono fun a ha=>k a (List.mem_cons_of_mem _ ha))
theorem Cp.dom {H0:Hp}:∀{as:List Addr}{rows:List (List D)},Cp K O H0 H as rows->∀a∈as,∃o,H a=some o
 | _,_,.nil,_,h=>nomatch h
 | _,_,.cons p q t,a,h=>by
  rcases List.mem_cons.mp h with rfl | h
  .exact ⟨_,p⟩
  .exact t.dom a h
theorem Cp.put {H0:Hp}{a:Addr}{xs:List V}{r:List D} (h2:FVs K O H0 xs r):∀{as:List Addr}{rows:List (List D)}{n:Nat},as.Nodup->as[n]?=some a->Cp K O H0 H as rows->Cp K O H0 (upd H a (.lst xs)) as (rows.set n r)
 | _,_,n,_,e,.nil=>by simp at e
 | _,_,0,nd,e,.cons p q t=>by
  simp at e;subst e
  exact .cons aO h2 (t.mono fun b hb o z=>by rw [aA (fun e=>(List.nodup_cons.mp nd).1 (by rw [<- e];exact hb))];exact z)
 | _,_,n + 1,nd,e,.cons p q t=>by
  rw [List.getElem?_cons_succ] at e
  exact .cons (by rw [aA (fun z=>(List.nodup_cons.mp nd).1 (by rw [z];exact List.mem_of_getElem? e))];exact p) q (Cp.put h2 (List.nodup_cons.mp nd).2 e t)
theorem Cp.fvs {H0:Hp} (g:Gr H0 H) (ho:∀b,O' b->O b\/H0 b=none):∀{as:List Addr}{rows:List (List D)},(∀a∈as,¬ O' a)->Cp K O H0 H as rows->FVs K O' H (as.map V.ref) (rows.map D.lst)
 | _,_,_,.nil=>.nil
 | _,_,k,.cons p q t=>.cons (.lst (k _ List.mem_cons_self) p (q.keeps fun b o n e=>⟨fun z=>(ho b z).elim n (fun z=>by rw [z] at e;cases e),g b o e⟩)) (t.fvs g ho fun a ha=>k a (List.mem_cons_of_mem _ ha))
inductive fY:List D->List (List D)->Prop
 | nil:fY [] []
 | cons {d:D}{r:List D}{ds:List D}{rows:List (List D)}:gT d r->fY ds rows->fY (d::ds) (r::rows)
theorem fY.length:∀{ds:List D}{rows:List (List D)},fY ds rows->ds.length=rows.length
 | _,_,.nil=>rfl
 | _,_,.cons _ t=>by rw [List.length_cons,List.length_cons,t.length]
theorem fY.get:∀{ds:List D}{rows:List (List D)}{n:Nat}{d:D},fY ds rows->ds[n]?=some d->∃r,rows[n]?=some r/\gT d r
 | _,_,n,_,.nil,e=>by simp at e
 | _,_,0,_,.cons p t,e=>by simp at e;subst e;exact ⟨_,rfl,p⟩
 | _,_,n + 1,d,.cons p t,e=>by
  obtain ⟨r,h1,h2⟩:=fY.get (n:=n) (d:=d) t (by simpa using e)
  exact ⟨r,by simpa using h1,h2⟩
theorem FV.sq {v:V}{d:D}{ds:List D} (h:FV K O H v d) (s:gT d ds):∃(k:Bool) (a:Addr) (xs:List V),v=.ref a/\H a=some (if k then .tup xs else .lst xs)/\FVs K O H xs ds:=by
 rcases s with rfl | rfl
 .cases h with
  | lst n e f=>exact ⟨false,_,_,rfl,e,f⟩
 .cases h with
  | tup n e f=>exact ⟨true,_,_,rfl,e,f⟩
theorem vZ {y:Nat}{v:V}{ds:List D}{rows:List (List D)}{Q:VK} (hv:σ[y]?=some (some v)) (fv:∃(k:Bool) (a:Addr) (xs:List V),v=.ref a/\H a=some (if k then .tup xs else .lst xs)/\FVs K O H xs ds) (hr:fY ds rows) (hl:ds.length<=1000)
  (k:∀(D:Addr) (as:List Addr) (H1:Hp),Gr H H1->H D=none->as.Nodup->(∀a∈as,H a=none/\a≠D)->H1 D=some (.lst (as.map V.ref))->Cp K O H H1 as rows->Q (.ref D) H1) :
  l4 [none] (gm K (a9 y)) (bY 0) ja (tCB (ip K) (bx (a9 0) e9)) σ H Q:=by
 obtain ⟨kd,p,vs,rfl,ep,fvs⟩:=fv
 have hsq:∀H',Gr H H'->Sq kd K H' p vs:=fun H' g=>by
  have:=g _ _ ep
  cases kd with
  | false=>exact SqL.of this
  | true=>exact SqT.of this
 refine ⟨_,hv,.inl ⟨kd,p,vs,rfl,hsq H fun _ _ e=>e,fun D hD=>?_⟩⟩
 refine w6 (k:=kd) (K:=K) (a:=p) (xs:=vs) (fun i ys τ H1=>(∃t0,τ=[t0])/\∃as:List Addr,ys=as.map V.ref/\as.length=i/\Gr H H1/\as.Nodup/\(∀a∈as,H a=none/\a≠D)/\H1 D=some (.lst ys)/\Cp K O H H1 as (rows.take i)) ⟨⟨none,rfl⟩,[],rfl,rfl,Gr.new hD,.nil,(fun a ha=>nomatch ha),aO,.nil⟩ (fun i ys τ H1 _ z=>by obtain ⟨_,as,_,_,g,_⟩:=z;exact hsq H1 g) ?_ ?_
 .rintro i x ys τ H1 hi ⟨⟨t0,rfl⟩,as,rfl,ha,g,nd,fr,eD,cp⟩ K1 K2 k1 k2
  obtain ⟨dx,hdx,fx⟩:=fvs.get hi
  obtain ⟨r,hri,sr⟩:=hr.get hdx
  obtain ⟨kr,q,xs,rfl,eq,fq⟩:=fx.sq sr
  have hil:i < ds.length:=(List.getElem?_eq_some_iff.mp hdx).1
  show ∃v,_/\_
  refine ⟨.ref q,rfl,q,xs,rfl,?_,fun l hl=>?_⟩
  .cases kr with
   | false=>exact .inl (SqL.of (g _ _ eq))
   | true=>exact .inr (SqT.of (g _ _ eq))
  .have hlD:l≠D:=fun z=>by rw [z,eD] at hl;cases hl
   have hlH:H l=none:=by
    cases e:H l with
    | none=>rfl
    | some o=>rw [g _ _ e] at hl;cases hl
   have hla:l∉as:=fun z=>by
    obtain ⟨o,e⟩:=cp.dom l z
    rw [e] at hl;cases hl
   refine k1 _ _ _ (by rw [aA (Ne.symm hlD)];exact eD) (Nat.lt_of_lt_of_le (show _ < 1000000 by rw [List.length_map];omega) (sz _ (Nat.le_refl _))) ⟨⟨_,rfl⟩,as++[l],by rw [List.map_append];rfl,by rw [List.length_append,ha];rfl,fun b o e=>?_,?_,fun a h=>?_,aO,?_⟩
   .rw [aA (fun z=>by rw [z,hD] at e;cases e),aA (fun z=>by rw [z,hlH] at e;cases e)];exact g b o e
   .rw [List.nodup_append]
    exact ⟨nd,List.nodup_cons.mpr ⟨(fun h=>nomatch h),.nil⟩,fun x hx y hy z=>hla (by rw [<- List.mem_singleton.mp hy,<- z];exact hx)⟩
   .rcases List.mem_append.mp h with h | h
    .exact fr a h
    .rw [List.mem_singleton.mp h];exact ⟨hlH,hlD⟩
   .rw [List.take_add_one,hri]
    have ne:∀a,a∈as->a≠D:=fun a h=>(fr a h).2
    exact Cp.app (by rw [aA hlD,aO]) fq (cp.mono fun a h o z=>by rw [aA (ne a h),aA (fun z=>hla (by rw [<- z];exact h))];exact z)
 .rintro ys τ H1 ⟨_,as,rfl,ha,g,nd,fr,eD,cp⟩
  rw [List.take_of_length_le (by rw [fvs.length,hr.length];exact Nat.le_refl _)] at cp
  exact k D as H1 g hD nd fr eD cp
structure Opn (K:PySem.W.Frag) (A:Addr->Prop) (ρ:PSt) (σ:St) (H:Hp) (D:Addr) (as:List Addr) (H1:Hp) (rows:List (List L2.D)):Prop where
 gr:Gr H H1
 hD:H D=none
 nd:as.Nodup
 fr:∀a∈as,H a=none/\a≠D
 eD:H1 D=some (.lst (as.map V.ref))
 cp:Cp K (OO A ρ σ) H H1 as rows
theorem Opn.out {Da:Addr}{as:List Addr}{H1:Hp}{rows:List (List D)} (o:Opn K A ρ σ H Da as H1 rows) (R:Rel K A ρ σ H):Out K A ρ σ H H1 (.own (rows.map D.lst)) (.ref Da) :=
 px.out R o.gr ⟨Da,as.map V.ref,rfl,o.hD,o.eD,o.cp.fvs o.gr (fun b z=>z.elim .inl fun z=>.inr (by rw [z];exact o.hD)) fun a ha z=>z.elim (R.oo (o.fr a ha).1) (o.fr a ha).2⟩
abbrev opv (ρ:PSt) (x:Nat) (rows:List (List D)):PSt:=frzA (ρ.set x (some (.own (rows.map D.lst))))
def xO (ρ:PSt) (x:Nat) (pe pi pj:PTE) (rows:List (List D)) (Q:List (List D)->Prop):Prop :=
 pe (opv ρ x rows) fun v _=>v.d.fl=true/\pi (opv ρ x rows) fun vi _=>(match vi with
  | .dat (.int i)=>∃n row,ixN rows.length i=some n/\rows[n]?=some row/\pj (opv ρ x rows) fun vj _=>(match vj with
   | .dat (.int j)=>∃m,ixN row.length j=some m/\Q (rows.set n (row.set m v.d))
   | _=>False)
  | _=>False)
theorem zY {te ti tj:TE}{pe pi pj:PTE} (he:LE K te pe) (hi:LE K ti pi) (hj:LE K tj pj) {x:Nat}{Da:Addr}{as:List Addr}{H1:Hp}{rows:List (List D)}{E:yF}{Q:List (List D)->Prop} (R:Rel K A ρ σ H) (hx:x < σ.length) (o:Opn K A ρ σ H Da as H1 rows)
  (q:xO ρ x pe pi pj rows Q) (k:∀H2 rows',Q rows'->Opn K A ρ σ H Da as H2 rows'->E.nx (σ.set x (some (.ref Da))) H2) :
  wu te (Ci (tOp (mW K) (a9 x) ti) tj wN) E (σ.set x (some (.ref Da))) H1:=by
 have gx:(σ.set x (some (V.ref Da)))[x]?=some (some (.ref Da)):=List.getElem?_set_self hx
 have rel:Rel K A (opv ρ x rows) (σ.set x (some (.ref Da))) H1:=(o.out R).put.1.frzA
 have gro:∀{ρ':PSt}{H2 H3:Hp},Fr (opv ρ x rows) (σ.set x (some (.ref Da))) H2 ρ' H3->Gr H2 H3:=fun f b o e=>f.kp b o nV e
 refine he A _ _ H1 _ _ rel q fun v H2 p ρ2 q2 f2 o2=>?_
 obtain ⟨hfl,q2⟩:=q2
 have fv:=o2.frz.2
 have g2:Gr H1 H2:=gro f2
 refine ⟨.ref Da,gx,hi A _ _ H2 _ _ (rel.gr g2) q2 fun vi H3 p3 ρ3 q3 f3 o3=>?_⟩
 have g3:Gr H2 H3:=gro f3
 split at q3
 .rename_i i
  obtain ⟨n,row,hn,hrow,q3⟩:=q3
  cases o3.2
  obtain ⟨a,xs,ha,_,_⟩:=o.cp.get hrow
  have hl:(as.map V.ref).length=rows.length:=by rw [List.length_map,o.cp.length]
  refine .inl ⟨Da,as.map V.ref,i,.ref a,rfl,rfl,SqL.of (g3 _ _ (g2 _ _ o.eD)),?_,hj A _ _ H3 _ _ ((rel.gr g2).gr g3) q3 fun vj H4 p4 ρ4 q4 f4 o4=>?_⟩
  .unfold atI;rw [hl,hn];show (as.map V.ref)[n]?=_;rw [List.getElem?_map,ha];rfl
  .have g4:Gr H3 H4:=gro f4
   split at q4
   .rename_i j
    obtain ⟨m,hm,q4⟩:=q4
    cases o4.2
    obtain ⟨a',xs,ha',hxs,fxs⟩:=o.cp.get hrow
    rw [ha] at ha';cases ha'
    have g14:Gr H1 H4:=fun b o e=>g4 _ _ (g3 _ _ (g2 _ _ e))
    refine ⟨a,xs,j,m,rfl,rfl,g14 _ _ hxs,by rw [fxs.length];exact hm,k _ _ q4 ⟨fun b u e=>?_,o.hD,o.nd,o.fr,?_,?_⟩⟩
    .have:b≠a:=fun z=>by rw [z,(o.fr a (List.mem_of_getElem? ha)).1] at e;cases e
     rw [aA this];exact g14 _ _ (o.gr _ _ e)
    .rw [aA (Ne.symm (o.fr a (List.mem_of_getElem? ha)).2)];exact g14 _ _ o.eD
    .exact Cp.put (FVs.set (fv.flat hfl) m fxs) o.nd ha (o.cp.mono fun b _ u e=>g14 _ _ e)
   .exact q4.elim
 .exact q3.elim
def zZ (x y:Nat) (pe pi pj:PTE):PTS:=fun E ρ=>∃p ds rows,ρ[y]?=some (some p)/\x < ρ.length/\gT p.d ds/\fY ds rows/\ds.length<=1000/\xO ρ x pe pi pj rows fun rows'=>E.nx (ρ.set x (some (.own (rows'.map D.lst))))
theorem z0 {y:Nat}{p:PV}{ds:List D}{rows:List (List D)}{Q:VK} (R:Rel K A ρ σ H) (hy:ρ[y]?=some (some p)) (sq:gT p.d ds) (hr:fY ds rows) (hl:ds.length<=1000) (k:∀Da as H1,Opn K A ρ σ H Da as H1 rows->Q (.ref Da) H1) :
  l4 [none] (gm K (a9 y)) (bY 0) ja (tCB (ip K) (bx (a9 0) e9)) σ H Q:=by
 obtain ⟨v,hv,r⟩:=R.get y p hy
 refine vZ hv ?_ hr hl fun Da as H1 g hD nd fr eD cp=>k Da as H1 ⟨g,hD,nd,fr,eD,cp⟩
 cases p with
 | dat d=>exact FV.sq r sq
 | own es =>
  obtain ⟨a,xs,rfl,e,f⟩:=r
  rcases sq with sq | sq
  .cases sq;exact ⟨false,a,xs,rfl,e,f⟩
  .cases sq
 | ins c ns es=>rcases sq with sq | sq <;> cases sq
theorem yn {fs:List Nat}{te ti tj:TE}{pe pi pj:PTE}{tr:TS}{pr:PTS}{x y:Nat} (hx:fs.contains x=false) (he:LE K te pe) (hi:LE K ti pi) (hj:LE K tj pj) (hr:LS K fs tr pr) :
  LS K fs (AF (wu (l4 [none] (gm K (a9 y)) (bY 0) ja (tCB (ip K) (bx (a9 0) e9))) (bY x)) (AF (wu te (Ci (tOp (mW K) (a9 x) ti) tj wN)) tr)) (aF (zZ x y pe pi pj) pr):=fun fx A R H0 ρ σ H D D' hf r F q k1 k2 k3 k4=>by
 obtain ⟨p,ds,rows,hy,hxl,sq,ho,hl,q⟩:=q
 unfold AF
 unfold wu
 refine z0 r hy sq ho hl fun Da as H1 o=>?_
 unfold bY
 refine zY (E:={ D' with nx:=_ }) he hi hj r (by rw [<- r.len];exact hxl) o q fun H2 rows' q2 o2=>?_
 have ot:=(o2.out r).h0 F.dm
 exact hr fx A R H0 _ _ H2 _ _ hf ot.put.1 ((F.fr o2.gr.fr).put hf hx ot.put.2) q2 k1 k2 k3 k4
end
theorem xP {P:Program}{w:World}{A:Around}{z:Shared}{l:Addr}{xs:Array (Int×Tok)}{Q:Value->Shared->Prop}{E:Value->Shared->Prop} (hh:A.handled=none) (hl:z.heap.IsTuple l (intItems xs))
  (h:∀h' tk t',(∀b o,z.heap.get? b=some o->h'.get? b=some o)->Q (.int (preSum (numAt xs) xs.size) t') { z with heap:=h',toks:=tk }):wpAny (model P w) A (call (.builtin "sum") [.ref l]) Q E z:=by
 have hlt:l < z.heap.objs.size:=by obtain ⟨_,e,_⟩:=hl;exact Heap.lt_size e
 refine call_sum_walkG (wpAny_pyIter_tuple hl ?_)
 refine ⟨z.heap.objs.size,[z.heap.objs.size,l],[z.heap.objs.size],_,_,_,numAt xs,rfl,Walks.tuple (A:=A.in1) hh _ l (Nat.ne_of_lt hlt) (intItems xs),⟨⟨_,Heap.get?_push_size _ rfl,rfl,rfl⟩,hl.push _⟩,fun b hb=>?_,(fun _ _=>intItems_at),fun h' tk t' hk=>?_⟩
 .show b < (z.heap.push _).objs.size
  rw [Heap.size_push]
  rcases List.mem_cons.mp hb with e | hb
  .rw [e];exact Nat.lt_succ_self _
  .rw [List.mem_singleton.mp hb];exact Nat.lt_succ_of_lt hlt
 .have:=h h' tk t' fun b o e=>hk b o (fun m=>by have y:=Heap.lt_size e;rw [List.mem_singleton.mp m] at y;exact absurd y (Nat.lt_irrefl _)) (Heap.get?_push_of_some _ e)
  simpa [intItems] using this
section
variable {X:Cx}{K:PySem.W.Frag}
theorem v9 (hc:X.calm=true):bZ X (.builtin "sum") (fun xs H Q=>∃(p:Addr) (ns:List Int),xs=[.ref p]/\SqT X.K H p (ns.map V.int)/\Q (.int ns.sum) H):=by
 intro pins s σ H xs us Q I r h
 obtain ⟨p,ns,rfl,hS,q⟩:=h
 obtain ⟨u,rfl,ru⟩:=gR r
 cases (show u=Value.ref p from ru)
 obtain ⟨its,rv,pl,hz⟩:=I.tuple hS
 have hi:=gL rv
 have hl:s.heap.IsTuple p its.toArray:=pl
 obtain ⟨ys,e⟩:=hi.allInts.items
 have hns:ns=ys.toList.map (·.1):=by rw [<- hi.numsOf,<- nums_intItems,<- e]
 rw [e] at hl
 refine xP (by exact I.ok.hd hc) hl fun h' tk t' hk=>⟨.int ns.sum,H,I.kept (t':=tk) hk,⟨t',?_⟩,q⟩
 have hlen:ys.size=ns.length:=by rw [hns,List.length_map,Array.length_toList]
 have hnum:numAt ys=fun i=>ns.getD i 0:=by
  funext i
  rw [numAt_eq,hns]
 rw [hnum,hlen,jh ns ns.length (Nat.le_refl _),List.take_length]
def B7 (K:PySem.W.Frag):List V->Hp->VK->Prop:=fun xs H Q=>∃(p:Addr) (ns:List Int),xs=[.ref p]/\(SqL K H p (ns.map V.int)\/SqT K H p (ns.map V.int))/\Q (.int ns.sum) H
theorem yo (K:PySem.W.Frag) (e:X.K=K) (hc:X.calm=true):bZ X (.builtin "sum") (B7 K):=by
 subst e
 intro pins s σ H xs us Q I r ⟨p,ns,e,h,q⟩
 rcases h with h | h
 .exact pq hc pins s σ H xs us Q I r ⟨p,ns,e,h,q⟩
 .exact v9 hc pins s σ H xs us Q I r ⟨p,ns,e,h,q⟩
def xQ:FN
 | [.lst ds],Q=>∃ns:List Int,ds=ns.map .int/\Q (.dat (.int ns.sum))
 | [.tup ds],Q=>∃ns:List Int,ds=ns.map .int/\Q (.dat (.int ns.sum))
 | _,_=>False
theorem wb:LC K (B7 K) xQ:=by
 intro O H xs as Q Q' dom fs q k
 unfold xQ at q
 split at q
 .obtain ⟨ns,rfl,q⟩:=q
  cases fs with
  | cons a b =>
   cases b
   obtain ⟨p,ys,rfl,e1,f1⟩:=a.lst
   exact ⟨p,ns,rfl,.inl (SqL.of (by rw [e1,f1.ints])),k _ H _ q (Gr.refl _) (.int _)⟩
 .obtain ⟨ns,rfl,q⟩:=q
  cases fs with
  | cons a b =>
   cases b
   obtain ⟨p,ys,rfl,n1,e1,f1⟩:=a.tup
   exact ⟨p,ns,rfl,.inr (SqT.of (by rw [e1,f1.ints])),k _ H _ q (Gr.refl _) (.int _)⟩
 .exact q.elim
end
end L2
namespace K28
open PySem PySem.Spec PyProof.Rows L2
def top (i:Nat):Stmt:=PySem.Challenge.pw_shortglue_k28_price_bound.main.body.getD i (.Pass ⟨0,0,0,0⟩)
abbrev nW:Stmt:=top 1
abbrev iy:Stmt:=top 2
abbrev fB:Stmt:=top 3
abbrev gB:Stmt:=top 4
abbrev dW:Stmt:=top 5
abbrev fh:Stmt:=top 14
abbrev fC:Stmt:=top 15
abbrev fE:Stmt:=top 17
abbrev iz:Stmt:=top 18
abbrev fF:Stmt:=top 19
abbrev Aa:Stmt:=top 21
abbrev ju:Stmt:=top 22
abbrev e7:Stmt:=top 24
abbrev eA:Stmt:=top 25
abbrev ln:Stmt:=top 26
abbrev jw:Stmt:=top 27
abbrev cK:Stmt:=nv (top 28) 0
abbrev cM:Stmt:=nv (top 28) 1
abbrev jx:Stmt:=top 30
abbrev jy:Stmt:=top 31
abbrev jz:Stmt:=top 32
abbrev lp:Stmt:=top 33
abbrev jA:Stmt:=top 34
abbrev fG:Stmt:=top 35
abbrev iA:Stmt:=top 36
abbrev jB:Stmt:=top 37
abbrev iB:Stmt:=top 38
abbrev fH:Stmt:=top 39
abbrev iC:Stmt:=top 40
abbrev gC:Stmt:=top 42
abbrev gD:Stmt:=top 43
abbrev iD:Stmt:=top 44
abbrev iE:Stmt:=top 45
abbrev jC:Stmt:=top 46
abbrev gE:Stmt:=top 47
abbrev iF:Stmt:=top 48
abbrev xR:Stmt:=top 49
theorem wc:aL ["thing"] ["thing"] (ao nW):=⟨rfl,rfl,rfl,by decide +kernel,rfl,by decide +kernel,by decide +kernel⟩
theorem pP:aL ["thing"] ["thing"] (ao iy):=⟨rfl,rfl,rfl,by decide +kernel,rfl,by decide +kernel,by decide +kernel⟩
theorem mf:aL ["thing","many"] ["thing","many"] (ao fB):=⟨rfl,rfl,rfl,by decide +kernel,rfl,by decide +kernel,by decide +kernel⟩
theorem nX:aL ["thing","many"] ["thing","many"] (ao gB):=⟨rfl,rfl,rfl,by decide +kernel,rfl,by decide +kernel,by decide +kernel⟩
theorem jD:aL ["thing","many"] ["thing","many"] (ao dW):=⟨rfl,rfl,rfl,by decide +kernel,rfl,by decide +kernel,by decide +kernel⟩
theorem tU:aL ["thing","least","most"] ["thing","least","most"] (ao fh):=⟨rfl,rfl,rfl,by decide +kernel,rfl,by decide +kernel,by decide +kernel⟩
theorem mh:aL ["text","piece"] ["text","piece"] (ao fC):=⟨rfl,rfl,rfl,by decide +kernel,rfl,by decide +kernel,by decide +kernel⟩
theorem gX:aL ["many","numbers"] ["many"] (ao fE):=⟨rfl,rfl,rfl,by decide +kernel,rfl,by decide +kernel,by decide +kernel⟩
theorem gF:aL ["paper","laps","pairs","gives","takes"] ["paper","laps","pairs"] (ao iz):=⟨rfl,rfl,rfl,by decide +kernel,rfl,by decide +kernel,by decide +kernel⟩
theorem e8:aL ["family","paper","gives","takes"] ["family","paper"] (ao fF):=⟨rfl,rfl,rfl,by decide +kernel,rfl,by decide +kernel,by decide +kernel⟩
theorem yp:aL ["one","other","k"] ["one","other"] (ao Aa):=⟨rfl,rfl,rfl,by decide +kernel,rfl,by decide +kernel,by decide +kernel⟩
theorem qW:aL ["words"] ["words"] (ao ju):=⟨rfl,rfl,rfl,by decide +kernel,rfl,by decide +kernel,by decide +kernel⟩
theorem eB:aL ["things","at","thing"] ["things"] (ao e7):=⟨rfl,rfl,rfl,by decide +kernel,rfl,by decide +kernel,by decide +kernel⟩
theorem km:aL ["piece","other"] ["piece","other"] (ao eA):=⟨rfl,rfl,rfl,by decide +kernel,rfl,by decide +kernel,by decide +kernel⟩
theorem jE:aL ["pieces","at","piece","longer"] ["pieces","at"] (ao ln):=⟨rfl,rfl,rfl,by decide +kernel,rfl,by decide +kernel,by decide +kernel⟩
theorem lr:aL ["pieces","kept","at","holder"] ["pieces","kept","at"] (ao jw):=⟨rfl,rfl,rfl,by decide +kernel,rfl,by decide +kernel,by decide +kernel⟩
theorem gY:aL ["self","pieces","indexes"] ["self","pieces"] (ao cK):=⟨rfl,rfl,rfl,by decide +kernel,rfl,by decide +kernel,by decide +kernel⟩
theorem mi:aL ["self"] ["self"] (ao cM):=⟨rfl,rfl,rfl,by decide +kernel,rfl,by decide +kernel,by decide +kernel⟩
theorem c9:aL ["_law_cells","_law_many","_law_own","_law_row","_law_deck_here","_law_k","_law_at","_law_one"] ["_law_cells","_law_many"] (ao jx):=⟨rfl,rfl,rfl,by decide +kernel,rfl,by decide +kernel,by decide +kernel⟩
theorem qX:aL ["_law_deck_here"] ["_law_deck_here"] (ao jy):=⟨rfl,rfl,rfl,by decide +kernel,rfl,by decide +kernel,by decide +kernel⟩
theorem lu:aL ["_law_one","_law_other","_law_k","_law_at"] ["_law_one","_law_other","_law_k"] (ao jz):=⟨rfl,rfl,rfl,by decide +kernel,rfl,by decide +kernel,by decide +kernel⟩
theorem m7:aL ["_law_one","_law_other","_law_k"] ["_law_one","_law_other"] (ao lp):=⟨rfl,rfl,rfl,by decide +kernel,rfl,by decide +kernel,by decide +kernel⟩
theorem fJ:aL ["_law_pieces","_law_found","_law_k","_law_longer"] ["_law_pieces"] (ao jA):=⟨rfl,rfl,rfl,by decide +kernel,rfl,by decide +kernel,by decide +kernel⟩
theorem dC:aL ["_law_number","_law_letters","_law_found"] ["_law_number","_law_letters"] (ao fG):=⟨rfl,rfl,rfl,by decide +kernel,rfl,by decide +kernel,by decide +kernel⟩
theorem bw:aL ["_law_deck_here","_law_most","_law_letters","_law_text","_law_found","_law_k","_law_number","_law_at","_law_piece"] ["_law_deck_here","_law_most"] (ao iA):=⟨rfl,rfl,rfl,by decide +kernel,rfl,by decide +kernel,by decide +kernel⟩
theorem dw:aL ["_law_words","_law_order_here","_law_text","_law_k","_law_own"] ["_law_words","_law_order_here"] (ao jB):=⟨rfl,rfl,rfl,by decide +kernel,rfl,by decide +kernel,by decide +kernel⟩
theorem gG:aL ["_law_deck_here","_law_many","_law_rest","_law_found"] ["_law_deck_here","_law_many"] (ao iB):=⟨rfl,rfl,rfl,by decide +kernel,rfl,by decide +kernel,by decide +kernel⟩
theorem bz:aL ["_law_deck_here","_law_words","_law_order_here","_law_text","_law_k","_law_number","_law_own"] ["_law_deck_here","_law_words"] (ao fH):=⟨rfl,rfl,rfl,by decide +kernel,rfl,by decide +kernel,by decide +kernel⟩
theorem pQ:aL ["_law_found"] ["_law_found"] (ao iC):=⟨rfl,rfl,rfl,by decide +kernel,rfl,by decide +kernel,by decide +kernel⟩
theorem cN:aL ["_law_laps","_law_sort","_law_many","_law_gives","_law_takes","_law_i","_law_given","_law_taken"] ["_law_laps","_law_sort"] (ao gC):=⟨rfl,rfl,rfl,by decide +kernel,rfl,by decide +kernel,by decide +kernel⟩
theorem dZ:aL ["_law_laps","_law_gives","_law_many","_law_takes","_law_j"] ["_law_laps","_law_gives"] (ao gD):=⟨rfl,rfl,rfl,by decide +kernel,rfl,by decide +kernel,by decide +kernel⟩
theorem jU:aL ["_law_deck_here","_law_laps","_law_number"] ["_law_deck_here","_law_laps"] (ao iD):=⟨rfl,rfl,rfl,by decide +kernel,rfl,by decide +kernel,by decide +kernel⟩
theorem gH:aL ["_law_words","_law_laps","_law_paper_here","_law_i","_law_j"] ["_law_words","_law_laps","_law_paper_here"] (ao iE):=⟨rfl,rfl,rfl,by decide +kernel,rfl,by decide +kernel,by decide +kernel⟩
theorem dy:aL ["_law_paper_here","_law_at","_law_found","_law_which","_law_more","_law_bent_here"] ["_law_paper_here","_law_at"] (ao jC):=⟨rfl,rfl,rfl,by decide +kernel,rfl,by decide +kernel,by decide +kernel⟩
theorem cO:aL ["_law_paper_here","_law_at","_law_gives","_law_takes","_law_truth","_law_text","_law_found"] ["_law_paper_here","_law_at"] (ao gE):=⟨rfl,rfl,rfl,by decide +kernel,rfl,by decide +kernel,by decide +kernel⟩
theorem eN:aL ["_law_family","_law_words","_law_laps","_law_paper_here","_law_texts","_law_bound_here","_law_handed","_law_told"] ["_law_family","_law_words","_law_laps","_law_paper_here","_law_texts"] (ao iF):=⟨rfl,rfl,rfl,by decide +kernel,rfl,by decide +kernel,by decide +kernel⟩
theorem eO:aL ["_law_script","_law_deck_here","_law_pieces","_law_words","_law_laps","_law_family","_law_others_here","_law_texts","_law_paper_here","_law_at","_law_bent_here","_law_second","_law_laps_there","_law_thing"] ["_law_script"] (ao xR):=⟨rfl,rfl,rfl,by decide +kernel,rfl,by decide +kernel,by decide +kernel⟩
structure Txt (mg:Str->Option Value):Prop where
 b_all:mg "all"=none
 b_any:mg "any"=none
 b_bool:mg "bool"=none
 b_enumerate:mg "enumerate"=none
 b_int:mg "int"=none
 b_isinstance:mg "isinstance"=none
 b_len:mg "len"=none
 b_list:mg "list"=none
 b_max:mg "max"=none
 b_min:mg "min"=none
 b_range:mg "range"=none
 b_reversed:mg "reversed"=none
 b_str:mg "str"=none
 b_sum:mg "sum"=none
 b_tuple:mg "tuple"=none
 g_MOST_PIECES:∃t,mg "MOST_PIECES"=some (.int 40 t)
 g_MOST_SIGNS:∃t,mg "MOST_SIGNS"=some (.int 60 t)
abbrev cZ:Stmt:=nv (top 8) 0
theorem lv:aL ["self","most"] ["self","most"] (ao cZ):=⟨rfl,rfl,rfl,by decide +kernel,rfl,by decide +kernel,by decide +kernel⟩
abbrev c4:Stmt:=nv (top 9) 0
theorem lw:aL ["self","at"] ["self","at"] (ao c4):=⟨rfl,rfl,rfl,by decide +kernel,rfl,by decide +kernel,by decide +kernel⟩
abbrev xcs:List Str:=["TooMany","NoPiece"]
abbrev D4:List (Str×Str):=[("TooMany","most"),("NoPiece","at")]
structure TxX (K:PySem.W.Frag) (mg:Str->Option Value):Prop where
 all:Eh K xcs
 at_:∀c g,(c,g)∈D4->PySem.W.findIn K (.ref (bL K c)) g=some none
 m_TooMany:mg "TooMany"=some (.ref (bL K "TooMany"))
 m_NoPiece:mg "NoPiece"=some (.ref (bL K "NoPiece"))
 m_GlueError:mg "GlueError"=some (.ref (bL K "GlueError"))
 d_TooMany:XD K (bL K "TooMany")
 d_NoPiece:XD K (bL K "NoPiece")
 d_GlueError:XD K (bL K "GlueError")
structure TxC (K:PySem.W.Frag):Prop where
 cl_Family:Cls K (bL K "Family")
 n_Family_pieces:eI K (bL K "Family") "pieces"
 n_Family_kept:eI K (bL K "Family") "kept"
 n_Family_words:eI K (bL K "Family") "words"
 n_Family_left:eI K (bL K "Family") "left"
 n_Family_laps:eI K (bL K "Family") "laps"
 n_Family_total:eI K (bL K "Family") "total"
local macro_rules | `(tactic| walk_at "s")=>`(tactic| first | (with_reducible omega) | (with_reducible assumption) | (with_reducible rfl) | exact Nat.le_of_ble_eq_true rfl | (simp only [List.length_cons,List.length_nil,List.length_append,List.length_map];(with_reducible omega)) | assumption | rfl | (refine ⟨?_,?_⟩ <;> first | (with_reducible omega) | (with_reducible assumption) | (with_reducible rfl) | exact Nat.le_of_ble_eq_true rfl | assumption | rfl | (refine ⟨?_,?_⟩ <;> first | (with_reducible omega) | (with_reducible assumption) | (with_reducible rfl) | exact Nat.le_of_ble_eq_true rfl | assumption | rfl | (refine ⟨?_,?_⟩ <;> first | (with_reducible omega) | (with_reducible assumption) | (with_reducible rfl) | exact Nat.le_of_ble_eq_true rfl | assumption | rfl | fail) | fail) | fail) | omega | fail)
local macro_rules | `(tactic| walk_at "r")=>`(tactic| ((try dsimp only [List.set_cons_zero,List.set_cons_succ,vQ,vR,vS,BX,BY,pM,m4,m5,su,sv,List.tail_cons,pN,pO,sw]);(conv=>whnf);(repeat (first | ((with_reducible refine And.intro ?_ ?_);(next=>walk_at "s");(conv=>whnf)) | ((with_reducible refine (show Exists _ from ?_));(first | (refine ⟨_,rfl,?_⟩) | (refine ⟨_,gT.lst _,?_⟩) | (refine ⟨_,gT.tup _,?_⟩));(conv=>whnf)) | ((refine (show iq _ _ _ from ?_));(first | (with_reducible refine Ec (by assumption) ?_) | (with_reducible refine Ed (by assumption) ?_) | (with_reducible refine C4 (by assumption) ?_) | (with_reducible refine zh (by assumption) ?_) | ((with_reducible refine C2 ?_ ?_);(next=>(first | (with_reducible rfl) | (with_reducible assumption) | (with_reducible omega)))) | ((with_reducible refine C3 ?_ ?_);(next=>(first | (with_reducible rfl) | (with_reducible assumption) | (with_reducible omega)))) | ((with_reducible refine Bp ?_ ?_);(next=>(first | (with_reducible rfl) | (with_reducible assumption) | (with_reducible omega)))) | ((with_reducible refine Bq ?_ ?_);(next=>(first | (with_reducible rfl) | (with_reducible assumption) | (with_reducible omega)))));(conv=>whnf))));(try refine (show iq _ _ _ from ?_));(try dsimp only [List.set_cons_zero,List.set_cons_succ,vQ,vR,vS,BX,BY,pM,m4,m5,su,sv,List.tail_cons,pN,pO,sw])))
def pR:Nat:=1
def cC:FN
 | [d],Q=>d.sort=true/\Q (.dat (.bl (tO d)))
 | _,_=>False
def jV:Nat:=1
def bG:FN
 | [d],Q=>d.sort=true/\Q (.dat (.bl (lj d)))
 | _,_=>False
def gZ:Nat:=2
def bn:FN
 | [d,.int m],Q=>Srt d/\(bd d).length<=1000000/\Q (.dat (.bl (cg d m)))
 | _,_=>False
def iW:Nat:=2
theorem wd {α:Type} (f:Int->α) (zs:List Int):(List.range zs.length).map (fun k=>f (zs.getD k 0))=zs.map f:=by
 refine List.ext_getElem (by rw [List.length_map,List.length_map,List.length_range]) fun i h1 h2=>?_
 rw [List.length_map,List.length_range] at h1
 rw [List.getElem_map,List.getElem_map,List.getElem_range,List.getD_eq_getElem?_getD,List.getElem?_eq_getElem h1];rfl
def prB (d:D) (m:Int):Bool:=cg d m && (bd d).all fun x=>decide (0<=toI x)
theorem wf {d:D}{m:Int} (c:cg d m=true):∃zs:List Int,gT d (zs.map .int)/\(zs.length:Int)=m:=by
 unfold cg at c
 rw [Bool.and_eq_true,Bool.and_eq_true] at c
 obtain ⟨c1,c2,c3⟩:=c
 cases d with
 | lst ds=>exact ⟨ds.map toI,.inl (congrArg _ (qP c3)),by rw [List.length_map];exact of_decide_eq_true c2⟩
 | tup ds=>exact ⟨ds.map toI,.inr (congrArg _ (qP c3)),by rw [List.length_map];exact of_decide_eq_true c2⟩
 | _=>cases c1
theorem tV {d:D}{zs:List Int} (h:gT d (zs.map .int)):cg d zs.length=true:=by
 unfold cg
 rw [h.items,List.length_map,decide_eq_true rfl,Bool.true_and,Bool.and_eq_true]
 refine ⟨by rcases h with rfl | rfl <;> rfl,?_⟩
 rw [List.all_map];exact List.all_eq_true.mpr fun _ _=>rfl
theorem nY {d:D}{zs:List Int} (h:gT d (zs.map .int)):prB d zs.length=zs.all fun z=>decide (0<=z):=by
 unfold prB
 rw [tV h,Bool.true_and,h.items,List.all_map];rfl
def bu:FN
 | [d,.int m],Q=>Srt d/\(bd d).length<=1000000/\Q (.dat (.bl (prB d m)))
 | _,_=>False
def fi:Nat:=2
def Ei (d:D):Prop:=d.sort=true/\∀r∈bd d,r.sort=true/\∀x∈bd r,x.sort=true
theorem B8 {d:D} (h:tO d=true):gT d (bd d):=by
 cases d with
 | lst ds=>exact .inl rfl
 | tup ds=>exact .inr rfl
 | _=>cases h
theorem getElem?_itD {ds:List D}{k:Nat} (h:k < ds.length):ds[k]?=some (itD ds k):=by
 unfold itD;rw [List.getD_eq_getElem?_getD,List.getElem?_eq_getElem h];rfl
def ppB (d:D) (m:Int):Bool:=tO d && (decide ((bd d).length=2) && (bd d).all fun r=>prB r m)
def okP (d:D):Prop:=Ei d/\(bd d).length<=1000/\∀r∈bd d,(bd r).length<=1000
def aX:FN
 | [d,.int m],Q=>okP d/\Q (.dat (.bl (ppB d m)))
 | _,_=>False
def m8:Nat:=3
def cT:FN
 | [d,.int a,.int b],Q=>d.sort=true/\Dq d<=1000000/\Q (.dat (.bl (xz d a b)))
 | _,_=>False
def g7:Nat:=2
def aY:FN
 | [.str a,.str b],Q=>Q (.dat (.int (fnd a b 0)))
 | _,_=>False
def g8:Nat:=2
abbrev prT (p:Nat×Nat):D:=.tup [.int (p.1:Int),.int (p.2:Int)]
def wg (n:Nat):List (Nat×Nat):=(List.range n).flatMap fun i=>((List.range n).filter fun j=>decide (i≠j)).map fun j=>(i,j)
theorem nZ {n:Nat}{p:Nat×Nat}:p∈wg n ↔ p.1 < n/\p.2 < n/\p.1≠p.2:=by
 unfold wg
 rw [List.mem_flatMap]
 constructor
 .rintro ⟨i,hi,h⟩
  obtain ⟨j,hj,rfl⟩:=List.mem_map.mp h
  rw [List.mem_filter] at hj
  exact ⟨List.mem_range.mp hi,List.mem_range.mp hj.1,of_decide_eq_true hj.2⟩
 .rintro ⟨h1,h2,h3⟩
  exact ⟨p.1,List.mem_range.mpr h1,List.mem_map.mpr ⟨p.2,List.mem_filter.mpr ⟨List.mem_range.mpr h2,decide_eq_true h3⟩,rfl⟩⟩
theorem n0 (n:Nat):∀L:List Nat,(L.flatMap fun i=>((List.range n).filter fun j=>decide (i≠j)).map fun j=>(i,j)).length<=L.length * n
 | []=>by simp
 | i::L=>by
  rw [List.flatMap_cons,List.length_append,List.length_map,List.length_cons,Nat.succ_mul]
  have h1:=n0 n L
  have h2:((List.range n).filter fun j=>decide (i≠j)).length<=n:=Nat.le_trans (List.length_filter_le ..) (by rw [List.length_range];exact Nat.le_refl _)
  omega
def bo:FN
 | [.int m],Q=>(0<=m/\m<=40)/\Q (.own ((wg m.toNat).map prT))
 | _,_=>False
def jW:Nat:=5
def nmb (d:D) (i:Nat):Int:=toI (itD (bd d) i)
theorem tW {d:D}{zs:List Int} (h:gT d (zs.map .int)) {i:Nat} (hi:i < zs.length):nmb d i=zs.getD i 0/\atI (zs.map D.int) (i:Int)=some (.int (nmb d i)):=by
 have e:itD (zs.map D.int) i=.int (zs.getD i 0):=vt (by rw [List.length_map];exact hi)
 have e2:nmb d i=zs.getD i 0:=by unfold nmb;rw [h.items,e];rfl
 refine ⟨e2,fb (j:=i) ?_ rfl⟩
 rw [getElem?_itD (by rw [List.length_map];exact hi),e,e2]
abbrev Cz (ws:List (List Nat)) (w:List Nat):D:=.tup (ws.map fun v=>.int (eH w v:Int))
def ui (e:D) (ws:List (List Nat)):Bool:=ppB e ws.length && (wg ws.length).all fun p=>decide ((eH (pw ws p.1) (pw ws p.2):Int)<=nmb (itD (bd e) 0) p.1 + nmb (itD (bd e) 1) p.2)
theorem Ab {ws:List (List Nat)}{i:Nat} (h:i < ws.length):atI (ws.map (Cz ws)) (i:Int)=some (Cz ws (pw ws i)):=by
 refine fb (j:=i) ?_ rfl
 rw [List.getElem?_map,List.getElem?_eq_getElem h]
 unfold pw
 rw [List.getD_eq_getElem?_getD,List.getElem?_eq_getElem h];rfl
theorem pS {ws:List (List Nat)}{w:List Nat}{i:Nat} (h:i < ws.length):atI (ws.map fun v=>D.int (eH w v:Int)) (i:Int)=some (.int (eH w (pw ws i):Int)):=by
 refine fb (j:=i) ?_ rfl
 rw [List.getElem?_map,List.getElem?_eq_getElem h]
 unfold pw
 rw [List.getD_eq_getElem?_getD,List.getElem?_eq_getElem h];rfl
theorem B9 {e:D}{n:Nat} (h:ppB e n=true):∃(g t:D) (gs ts:List Int),gT e [g,t]/\gT g (gs.map .int)/\gT t (ts.map .int)/\gs.length=n/\ts.length=n/\itD (bd e) 0=g/\itD (bd e) 1=t:=by
 unfold ppB at h
 rw [Bool.and_eq_true,Bool.and_eq_true,decide_eq_true_eq] at h
 obtain ⟨h1,h2,h3⟩:=h
 have he:=B8 h1
 generalize bd e=es at h2 h3 he
 obtain ⟨g,t,rfl⟩:∃g t,es=[g,t]:=by
  match es,h2 with
  | [g,t],_=>exact ⟨g,t,rfl⟩
 have hg:=List.all_eq_true.mp h3 g (by simp)
 have ht:=List.all_eq_true.mp h3 t (by simp)
 have num:∀x:D,prB x n=true->∃zs:List Int,gT x (zs.map .int)/\(zs.length:Int)=(n:Int):=fun x hx=>wf (by unfold prB at hx;rw [Bool.and_eq_true] at hx;exact hx.1)
 obtain ⟨gs,hgs,gl⟩:=num g hg
 obtain ⟨ts,hts,tl⟩:=num t ht
 exact ⟨g,t,gs,ts,he,hgs,hts,by omega,by omega,rfl,rfl⟩
def bQ:FN
 | [e,.tup ls,.lst ps],Q=>∃ws:List (List Nat),ls=ws.map (Cz ws)/\ps=(wg ws.length).map prT/\(okP e/\ws.length<=40)/\Q (.dat (.bl (ui e ws)))
 | _,_=>False
def g9:Nat:=4
def CA (d:D):Int:=((bd d).map toI).sum
theorem ky {d:D}{zs:List Int} (h:gT d (zs.map .int)):CA d=zs.sum:=by
 unfold CA
 rw [h.items,List.map_map]
 exact congrArg List.sum (List.map_id' _)
def xS (e:D) (ps:List (List Nat)):D:=if ui e (az ps)=true then .int (vL ps - CA (itD (bd e) 0) - CA (itD (bd e) 1)) else .non
def aN:FN
 | [.obj c ns fs,e],Q=>c="Family"/\ns=qT/\∃ps:List (List Nat),fs=qU ps/\(okP e/\(az ps).length<=40)/\Q (.dat (xS e ps))
 | _,_=>False
def yq:Nat:=3
def fZ:FN
 | [.str a,.str b],Q=>(0 < a.length/\a.length<=10000)/\(0 < b.length/\b.length<=10000)/\Q (.dat (.int (eH a b:Int)))
 | _,_=>False
def lx:Nat:=1
def ci:FN
 | [.tup ds],Q=>∃ws:List (List Nat),ds=ws.map .str/\(ws.length<=1000/\∀w∈ws,0 < w.length/\w.length<=10000)/\Q (.dat (BU ws))
 | _,_=>False
def gI:Nat:=3
def bi:FN
 | [d],Q=>∃ws:List (List Nat),gT d (ws.map .str)/\(ws.length<=40/\Pcs 60 ws)/\Q (.dat .non)
 | _,_=>False
def f8:Nat:=2
def aI:FN
 | [.str a,.str b],Q=>Q (.dat (.bl (gi a b)))
 | _,_=>False
def m9:Nat:=4
def cD:FN
 | [.tup ds,.int i],Q=>∃ws:List (List Nat),ds=ws.map .str/\(ws.length<=1000/\∀w∈ws,w.length<=10000)/\(0<=i/\i < (ws.length:Int))/\Q (.dat (.bl (du ws i.toNat)))
 | _,_=>False
def ly:Nat:=4
def bV:FN
 | [.tup ds,.tup ks,.int i],Q=>∃ws:List (List Nat),ds=ws.map .str/\ks=(aR ws).map nD/\(ws.length<=1000/\∀w∈ws,w.length<=60)/\(0<=i/\i < (ws.length:Int))/\Q (.dat (ey ws i.toNat))
 | _,_=>False
def hG:Nat:=3
def bp:FR
 | .ins "Family" [] [],[d],Q=>∃ws:List (List Nat),gT d (ws.map .str)/\(ws.length<=40/\Pcs 60 ws)/\Q (.dat .non) (.ins "Family" qT (qU ws))
 | _,_,_=>False
def hU:Nat:=1
def bq:FN
 | [.obj c ns fs],Q=>c="Family"/\ns=qT/\∃ws:List (List Nat),fs=qU ws/\Q (.dat (.int ((az ws).length:Int)))
 | _,_=>False
def lA:Nat:=8
def Dk (zs:List Int):Prop:=∀x∈zs,0<=x/\x < 1000000000000000000
def cj:FN
 | [.scr ns,.int mo],Q=>(ns.length<=64/\0<=mo/\mo<=2000)/\∀zs:List Int,Dk zs->zs.length=mo.toNat->Q (.own (zs.map .int))
 | _,_=>False
def lB:Nat:=1
def aG:FR
 | .own ds,[],Q=>∃zs:List Int,ds=zs.map .int/\(Dk zs/\0 < zs.length/\zs.length<=100000)/\∀(z:Int) (ys:List Int),0<=z->z < 1000000000000000000->Dk ys->ys.length + 1=zs.length->Q (.dat (.int z)) (.own (ys.map .int))
 | _,_,_=>False
def lC:Nat:=4
theorem wj {a b:List Nat}{n:Nat} (ha:n<=a.length) (hb:n<=b.length):b.take n <:+ a ↔ ∀j,j < n->a.getD (a.length - n + j) 0=b.getD j 0:=by
 rw [List.suffix_iff_eq_drop,List.length_take,show min n b.length=n by omega]
 constructor
 .intro h j hj
  have e:=congrArg (fun l=>l[j]?) h
  simp only [List.getElem?_take_of_lt hj,List.getElem?_drop] at e
  rw [List.getD_eq_getElem?_getD,List.getD_eq_getElem?_getD,<- e]
 .intro h
  refine List.ext_getElem? fun j=>?_
  by_cases hj:j < n
  .rw [List.getElem?_take_of_lt hj,List.getElem?_drop]
   have:=h j hj
   rw [List.getD_eq_getElem?_getD,List.getD_eq_getElem?_getD,List.getElem?_eq_getElem (show a.length - n + j < a.length by omega),List.getElem?_eq_getElem (show j < b.length by omega)] at this
   rw [List.getElem?_eq_getElem (show a.length - n + j < a.length by omega),List.getElem?_eq_getElem (show j < b.length by omega)]
   exact congrArg some this.symm
  .rw [List.getElem?_eq_none (by rw [List.length_take];omega),List.getElem?_eq_none (by rw [List.length_drop];omega)]
def ck:FN
 | [.str a,.str b,.int k],Q=>∃n:Nat,k=n/\((n<=a.length/\a.length<=10000)/\n<=b.length/\b.length<=10000)/\Q (.dat (.bl (decide (b.take n <:+ a))))
 | _,_=>False
def ng:Nat:=3
def aT:FN
 | [.str a,.str b],Q=>(0 < a.length/\a.length<=10000)/\(0 < b.length/\b.length<=10000)/\Q (.dat (.int (eH a b:Int)))
 | _,_=>False
def lD:Nat:=4
theorem Ac {ps:List (List Nat)}{k:Nat}:du ps k=(decide ((ps.filter fun o=>decide ((pw ps k).length < o.length) && gi (pw ps k) o)=[]) && !decide (pw ps k∈ps.take k)):=by
 unfold du
 rw [Bool.and_comm]
 congr 1
 cases hf:(ps.filter fun o=>decide ((pw ps k).length < o.length) && gi (pw ps k) o) with
 | nil =>
  rw [decide_eq_true rfl,Bool.not_eq_true',List.any_eq_false]
  intro o ho z
  obtain ⟨m1,m2⟩:=List.mem_filter.mp ho
  have:o∈ps.filter fun o=>decide ((pw ps k).length < o.length) && gi (pw ps k) o:=List.mem_filter.mpr ⟨m1,by rw [m2];exact z⟩
  rw [hf] at this;cases this
 | cons o r =>
  rw [decide_eq_false (fun z=>nomatch z)]
  have:o∈ps.filter fun o=>decide ((pw ps k).length < o.length) && gi (pw ps k) o:=by rw [hf];exact List.mem_cons_self ..
  obtain ⟨m1,m2⟩:=List.mem_filter.mp this
  rw [Bool.and_eq_true] at m2
  rw [Bool.not_eq_false',List.any_eq_true]
  exact ⟨o,List.mem_filter.mpr ⟨m1,m2.1⟩,m2.2⟩
theorem qY {ws:List (List Nat)} (h:∀w∈ws,Lts w):ue (.lst (ws.map .str)) (.lst []):=ue.of (Sh.lstS h) (Sh.lstI [])
theorem pT (ws:List (List Nat)):deq (.lst (ws.map .str)) (.lst [])=decide (ws=[]):=by
 show PyData.eqv (.list (D.pys (ws.map .str))) (.list [])=_
 rw [qN]
 cases ws <;> simp [PyData.eqv,PyData.eqvAll]
def bN:FN
 | [.lst ds],Q=>∃ps:List (List Nat),ds=ps.map .str/\(ps.length<=40/\∀w∈ps,w.length<=60/\Lts w)/\Q (.dat (.lst ((az ps).map .str)))
 | _,_=>False
def hV:Nat:=3
def aQ:FN
 | [.int z,.str ls],Q=>(0<=z/\0 < ls.length/\ls.length<=26)/\∀w:List Nat,w.length<=9->(∀c∈w,c∈ls)->(0 < z->0 < w.length)->Q (.dat (.str w))
 | _,_=>False
def jX:Nat:=9
theorem tX (z:Int):∃ls:List Nat,atI [D.str [97,98],D.str [97,98],D.str [97,98,99],D.str [120,121,122,97,98]] (z % 4)=some (.str ls)/\0 < ls.length/\ls.length<=26/\Lts ls:=by
 have h:z % 4=0\/z % 4=1\/z % 4=2\/z % 4=3:=by omega
 rcases h with h | h | h | h <;> rw [h]
 .exact ⟨[97,98],rfl,by decide,by decide,lh.mp (by decide)⟩
 .exact ⟨[97,98],rfl,by decide,by decide,lh.mp (by decide)⟩
 .exact ⟨[97,98,99],rfl,by decide,by decide,lh.mp (by decide)⟩
 .exact ⟨[120,121,122,97,98],rfl,by decide,by decide,lh.mp (by decide)⟩
theorem jF {w ls:List Nat} (h:∀c∈w,c∈ls) (l:Lts ls):Lts w:=fun c hc=>l c (h c hc)
theorem xT {p:List Nat} (hL:Lts p) (hl:p.length<=60):Pc 60 (eC (p++[97]) none (some (if (p.length:Int) > 1 then (p.length:Int) else 1))):=by
 obtain ⟨n,hn,hn2⟩:∃n:Nat,(if (p.length:Int) > 1 then (p.length:Int) else 1)=(n:Int)/\n=max 1 p.length:=by
  refine ⟨max 1 p.length,?_,rfl⟩
  split <;> omega
 rw [hn,jd]
 have hlen:((p++[97]).take n).length=n:=by rw [List.length_take,List.length_append];show min n (p.length + 1)=n;omega
 refine ⟨by rw [hlen];omega,by rw [hlen];omega,Lts.take (hL.app (Lts.one ⟨by decide,by decide⟩)) n⟩
def bR:FR
 | .own ds,[.int m],Q=>∃zs:List Int,ds=zs.map .int/\(Dk zs/\4 + m<=(zs.length:Int)/\zs.length<=10000/\1<=m/\m<=40)/\∀(ps:List (List Nat)) (ys:List Int),0 < ps.length->(ps.length:Int)<=m->Pcs 60 ps->Dk ys->(zs.length:Int)<=ys.length + 4 + m->ys.length<=zs.length->Q (.dat (.lst (ps.map .str))) (.own (ys.map .int))
 | _,_,_=>False
def lE:Nat:=5
def glL (ws:List (List Nat)) (js:List Nat):Nat->Int
 | 0=>0
 | k + 1=>glL ws js k + (pw ws (js.getD k 0)).length - (if k=0 then 0 else (eH (pw ws (js.getD (k - 1) 0)) (pw ws (js.getD k 0)):Int))
theorem yr {a b:List Nat} (ha:0 < a.length) (hb:0 < b.length):eH a b < b.length:=by
 have:=(vI ha hb).1
 omega
def yt (ws:List (List Nat)):Prop:=ws.length<=40/\∀w∈ws,0 < w.length/\w.length<=60
theorem yt.at {ws:List (List Nat)} (h:yt ws) {i:Nat} (hi:i < ws.length):0 < (pw ws i).length/\(pw ws i).length<=60:=h.2 _ (iU hi)
theorem sA {L:List Nat}{i:Nat} (h:i < L.length):atI (L.map nD) (i:Int)=some (.int ((L.getD i 0:Nat):Int)):=by
 refine fb (j:=i) ?_ rfl
 rw [List.getElem?_map,List.getElem?_eq_getElem h,List.getD_eq_getElem?_getD,List.getElem?_eq_getElem h];rfl
def cm:FN
 | [.lst ds,.lst es],Q=>∃ws:List (List Nat),ds=ws.map .str/\∃js:List Nat,es=js.map nD/\(yt ws/\js.length<=40/\∀i,i < js.length->js.getD i 0 < ws.length)/\∀t:List Nat,glL ws js js.length<=t.length->t.length<=3000->Q (.dat (.str t))
 | _,_=>False
def jY:Nat:=4
theorem wk (js:List Nat):js.map nD=(js.map fun j=>((j:Nat):Int)).map D.int:=by rw [List.map_map];rfl
theorem wl (rs:List Nat):ue (.lst (rs.map nD)) (.lst []):=by rw [wk];exact ue.of (Sh.lstI _) (Sh.lstI [])
theorem Ad (rs:List Nat):deq (.lst (rs.map nD)) (.lst [])=decide (rs=[]):=by
 rw [wk,show (D.lst [])=D.lst (([]:List Int).map D.int) from rfl,xL]
 exact decide_eq_decide.mpr ⟨fun z=>by simpa using z,fun z=>by rw [z];rfl⟩
def b8:FR
 | .own ds,[.int m],Q=>∃zs:List Int,ds=zs.map .int/\(Dk zs/\m.toNat<=zs.length/\zs.length<=10000/\0<=m/\m<=40)/\∀(js:List Nat) (ys:List Int),js.Perm (List.range m.toNat)->Dk ys->ys.length + m.toNat=zs.length->Q (.dat (.lst (js.map nD))) (.own (ys.map .int))
 | _,_,_=>False
def hX:Nat:=7
def br:FR
 | .own ds,[.lst es],Q=>∃zs:List Int,ds=zs.map .int/\∃ws:List (List Nat),es=ws.map .str/\(yt ws/\Dk zs/\2 * ws.length + 3<=zs.length/\zs.length<=10000)/\∀(js t:List Nat) (ys:List Int),js.Perm (List.range ws.length)->glL ws js ws.length<=t.length->t.length<=4000->Dk ys->zs.length<=ys.length + 2 * ws.length + 3->ys.length<=zs.length->Q (.dat (.str t)) (.own (ys.map .int))
 | _,_,_=>False
def jZ:Nat:=1
def bS:FN
 | [.int z],Q=>Q (.dat (.bl true))
 | _,_=>False
def iX:Nat:=8
abbrev di (r:List Int):D:=.lst (r.map .int)
abbrev As (ws:List (List Nat)) (w:List Nat):D:=.lst (ws.map fun v=>.int (eH w v:Int))
abbrev gj (ws:List (List Nat)):List D:=ws.map (As ws)
theorem kz {ws:List (List Nat)}{i:Nat} (h:i < ws.length):atI (gj ws) (i:Int)=some (As ws (pw ws i)):=by
 refine fb (j:=i) ?_ rfl
 rw [List.getElem?_map,List.getElem?_eq_getElem h]
 unfold pw
 rw [List.getD_eq_getElem?_getD,List.getElem?_eq_getElem h];rfl
theorem n4 (n:Nat) (p:Nat->Bool) (f:Nat->Int):((List.range n).filter p).map (fun k=>D.int (f k))=(((List.range n).filter p).map f).map D.int:=by rw [List.map_map];rfl
theorem iG {L:List Int}{i:Nat} (h:i < L.length):atI (L.map D.int) (i:Int)=some (.int (L.getD i 0)):=by
 refine fb (j:=i) ?_ rfl
 rw [List.getElem?_map,List.getElem?_eq_getElem h,List.getD_eq_getElem?_getD,List.getElem?_eq_getElem h];rfl
theorem sB {x y z:Int} (hx:0<=x) (hy:0<=y) (hz:0<=z) (s:Int):∃r:Int,atI [D.int x,D.int y,D.int z] (s % 3)=some (.int r)/\0<=r:=by
 have h:s % 3=0\/s % 3=1\/s % 3=2:=by omega
 rcases h with h | h | h <;> rw [h]
 .exact ⟨x,rfl,hx⟩
 .exact ⟨y,rfl,hy⟩
 .exact ⟨z,rfl,hz⟩
def Prc (n:Nat) (zs:List Int):Prop:=zs.length=n/\∀z∈zs,0<=z
theorem Prc.app {zs:List Int}{k:Nat}{z:Int} (h:Prc k zs) (hz:0<=z):Prc (k + 1) (zs++[z]):=⟨by rw [List.length_append,h.1];rfl,fun x hx=>(List.mem_append.mp hx).elim (h.2 x) fun e=>by rw [List.mem_singleton.mp e];exact hz⟩
def a8:FN
 | [.lst ds,.int s],Q=>∃ws:List (List Nat),ds=gj ws/\ws.length<=40/\∀gs ts:List Int,Prc ws.length gs->Prc ws.length ts->Q (.dat (.lst [di gs,di ts]))
 | _,_=>False
def iY:Nat:=5
def bA:FN
 | [.lst ds,.lst es],Q=>∃ws:List (List Nat),ds=gj ws/\∃gs:List Int,es=gs.map .int/\(ws.length<=40/\gs.length=ws.length)/\∀ts:List Int,Prc ws.length ts->Q (.dat (.lst [di gs,di ts]))
 | _,_=>False
def j3:Nat:=3
def b9:FR
 | .own ds,[.lst es],Q=>∃zs:List Int,ds=zs.map .int/\∃ws:List (List Nat),es=gj ws/\(ws.length<=40/\Dk zs/\ws.length + 1<=zs.length/\zs.length<=10000)/\∀(gs ts ys:List Int),Prc ws.length gs->Prc ws.length ts->Dk ys->zs.length<=ys.length + ws.length + 1->ys.length<=zs.length->Q (.dat (.lst [di gs,di ts])) (.own (ys.map .int))
 | _,_,_=>False
def j4:Nat:=5
def yu (ws:List (List Nat)) (gs ts:List Int):Prop:=∀i,i < ws.length->(0<=gs.getD i 0/\0<=ts.getD i 0)/\∀j,j < ws.length->i≠j->(eH (pw ws i) (pw ws j):Int)<=gs.getD i 0 + ts.getD j 0
open Classical in
def ww (ws:List (List Nat)) (gs ts:List Int):D:=if yu ws gs ts then .int ((ws.map fun w=>(w.length:Int)).sum - gs.sum - ts.sum) else .non
theorem n5 {ws:List (List Nat)}{gs ts:List Int} (h:¬ yu ws gs ts):ww ws gs ts=.non:=by unfold ww;rw [if_neg h]
theorem sC {ws:List (List Nat)}{gs ts:List Int} (h:yu ws gs ts):ww ws gs ts=.int ((ws.map fun w=>(w.length:Int)).sum - gs.sum - ts.sum):=by unfold ww;rw [if_pos h]
def bT:FN
 | [.lst ds,.lst es,.lst ps],Q=>∃ws:List (List Nat),ds=ws.map .str/\es=gj ws/\∃gs ts:List Int,ps=[di gs,di ts]/\(ws.length<=40/\gs.length=ws.length/\ts.length=ws.length)/\Q (.dat (ww ws gs ts))
 | _,_=>False
def lF:Nat:=6
theorem jG {n i:Nat} (h:i < n):ixN n (i:Int)=some i:=by
 unfold ixN
 rw [if_pos (by omega)]
 simp;omega
def Dx (M:List (List Int)) (i j:Nat) (z:Int):List (List Int):=M.set i ((M.getD i []).set j z)
theorem yv (M:List (List Int)):fY (M.map di) (M.map fun r=>r.map D.int):=by
 induction M with
 | nil=>exact .nil
 | cons r M ih=>exact .cons (.inl rfl) ih
theorem wm (M:List (List Int)):(M.map fun r=>r.map D.int).map D.lst=M.map di:=by rw [List.map_map];rfl
theorem sD {M:List (List Int)}{i:Nat} (h:i < M.length):(M.map fun r=>r.map D.int)[i]?=some ((M.getD i []).map D.int):=by
 rw [List.getElem?_map,List.getElem?_eq_getElem h,List.getD_eq_getElem?_getD,List.getElem?_eq_getElem h];rfl
theorem sE (M:List (List Int)) (i j:Nat) (z:Int):(M.map fun r=>r.map D.int).set i (((M.getD i []).map D.int).set j (.int z))=(Dx M i j z).map fun r=>r.map D.int:=by
 unfold Dx
 rw [List.map_set,List.map_set]
theorem Ca (ρ:PSt) (x:Nat) (M:List (List Int)):opv ρ x (M.map fun r=>r.map D.int)=(ρ.map (Option.map fun p=>PV.dat p.d)).set x (some (.dat (.lst (M.map di)))):=by
 show (ρ.set x (some (PV.own ((M.map fun r=>r.map D.int).map D.lst)))).map (Option.map fun p=>PV.dat p.d)=_
 rw [List.map_set,wm];rfl
theorem wn {M:List (List Int)}{i:Nat} (h:i < M.length):atI (M.map di) (i:Int)=some (di (M.getD i [])):=by
 refine fb (j:=i) ?_ rfl
 rw [List.getElem?_map,List.getElem?_eq_getElem h,List.getD_eq_getElem?_getD,List.getElem?_eq_getElem h];rfl
abbrev prD (p:List Int×List Int):D:=.lst [di p.1,di p.2]
def Pp (n:Nat) (p:List Int×List Int):Prop:=p.1.length=n/\p.2.length=n
theorem sF {n i j:Nat}{gs ts:List Int}{z:Int} (hi:i < 2) (hg:gs.length=n) (ht:ts.length=n):∃p,(Dx [gs,ts] i j z).map di=[di p.1,di p.2]/\Pp n p:=by
 have:i=0\/i=1:=by omega
 rcases this with rfl | rfl
 .exact ⟨(gs.set j z,ts),rfl,by show (gs.set j z).length=n;rw [List.length_set,hg],ht⟩
 .exact ⟨(gs,ts.set j z),rfl,hg,by show (ts.set j z).length=n;rw [List.length_set,ht]⟩
theorem Ae {n i:Nat}{gs ts:List Int} (hi:i < 2) (hg:gs.length=n) (ht:ts.length=n):([gs,ts].getD i []).length=n:=by
 have:i=0\/i=1:=by omega
 rcases this with rfl | rfl
 .exact hg
 .exact ht
def cr:FN
 | [.lst ds,.int a],Q=>∃gs ts:List Int,ds=[di gs,di ts]/\∃j:Nat,a=j/\(gs.length=ts.length/\j < gs.length)/\∀Ms:List (List Int×List Int),(∀p∈Ms,Pp gs.length p)->Ms.length<=10->0 < Ms.length->Q (.dat (.lst (Ms.map prD)))
 | _,_=>False
def iZ:Nat:=7
def Rk (r:D):Prop:=r.sort=true/\(bd r).length<=1000/\∀x∈bd r,x.sort=true
theorem Rk.lst {xs:List D} (h:xs.length<=1000) (k:∀x∈xs,x.sort=true):Rk (.lst xs):=⟨rfl,h,k⟩
theorem Rk.row {gs:List Int} (h:gs.length<=1000):Rk (di gs):=Rk.lst (by rw [List.length_map];exact h) fun x hx=>by
 obtain ⟨z,_,rfl⟩:=List.mem_map.mp hx;rfl
theorem Rk.okP {rs:List D} (h:rs.length<=1000) (k:∀r∈rs,Rk r):okP (.lst rs):=⟨⟨rfl,fun r hr=>⟨(k r hr).1,(k r hr).2.2⟩⟩,h,fun r hr=>(k r hr).2.1⟩
theorem fj {a b:D} (ha:Rk a) (hb:Rk b):okP (.lst [a,b]):=Rk.okP (by show 2<=1000;decide) fun r hr=>by
 rcases List.mem_cons.mp hr with rfl | hr
 .exact ha
 .rw [List.mem_singleton.mp hr];exact hb
theorem xU {a b:D}{m:Int} (h:cg a m=false):ppB (.lst [a,b]) m=false:=by
 unfold ppB prB
 show (true && (decide ((2:Nat)=2) && ((cg a m && _) && _)))=false
 rw [h];rfl
theorem wo {a b:D}{m:Int} (h:cg b m=false):ppB (.lst [a,b]) m=false:=by
 unfold ppB prB
 show (true && (decide ((2:Nat)=2) && ((cg a m && _) && ((cg b m && _) && true))))=false
 rw [h]
 simp
theorem sG {xs:List D}{m:Int} (h:(xs.length:Int)≠m):cg (.lst xs) m=false:=by
 unfold cg
 show (true && (decide ((xs.length:Int)=m) && _))=false
 rw [decide_eq_false h];rfl
theorem Cb {xs:List D}{m:Int}{x:D} (h:x∈xs) (n:lj x=false):cg (.lst xs) m=false:=by
 unfold cg
 have:xs.all lj=false:=by
  rw [List.all_eq_false];exact ⟨x,h,by rw [n];decide⟩
 show (true && (decide ((xs.length:Int)=m) && xs.all lj))=false
 rw [this];simp
theorem j5 {xs:List D}{j:Nat}{x:D} (h:j < xs.length):x∈xs.set j x:=by
 refine List.mem_of_getElem? (i:=j) ?_
 rw [List.getElem?_set_self h]
theorem sH {xs:List D}{j:Nat}{x:D} (h:∀y∈xs,y.sort=true) (hx:x.sort=true):∀y∈xs.set j x,y.sort=true:=fun y hy=>by
 rcases List.mem_or_eq_of_mem_set hy with hy | rfl
 .exact h y hy
 .exact hx
theorem gJ (gs:List Int):∀y∈gs.map D.int,y.sort=true:=fun x hx=>by
 obtain ⟨z,_,rfl⟩:=List.mem_map.mp hx;rfl
theorem tY {gs ts:List Int}{j:Nat} (hl:gs.length=ts.length) (hj:j < gs.length) (hn:gs.length<=40):∀e∈[D.non,D.int 9,D.str [97,98],D.dic [] [],D.tup [],D.lst [di gs],D.lst [di gs,di ts,di ts],
      D.lst [D.lst (eC (List.map D.int gs) (some 1) none),di ts],
      D.lst [di gs,D.lst (eC (List.map D.int ts) (some 1) none)]] ++
     [D.lst [D.lst (List.map D.int gs++[D.int 9]),di ts],
      D.lst [di gs,D.lst (List.map D.int ts++[D.int 9])],
      D.lst [D.lst ((List.map D.int gs).set j (D.bl true)),di ts],
      D.lst [di gs,D.lst ((List.map D.int ts).set j (D.str [57]))],D.lst [D.non,di ts]] ++
    [D.lst [di gs,D.int 9],D.lst [di gs,D.str [97,98]]],okP e/\ppB e gs.length=false:=by
 have rg:Rk (di gs):=Rk.row (by omega)
 have rt:Rk (di ts):=Rk.row (by omega)
 have hgm:(gs.map D.int).length=gs.length:=List.length_map _
 have htm:(ts.map D.int).length=gs.length:=by rw [List.length_map,hl]
 have fl:∀e:D,e.sort=true->bd e=[]->okP e:=fun e h1 h2=>⟨⟨h1,fun r hr=>by rw [h2] at hr;cases hr⟩,by rw [h2];exact Nat.zero_le _,fun r hr=>by rw [h2] at hr;cases hr⟩
 have fr:∀e:D,e.sort=true->bd e=[]->Rk e:=fun e h1 h2=>⟨h1,by rw [h2];exact Nat.zero_le _,fun r hr=>by rw [h2] at hr;cases hr⟩
 have c1:∀xs:List Int,eC (xs.map D.int) (some 1) none=(xs.map D.int).drop 1:=fun xs=>kK ..
 have hd:∀xs:List Int,∀y∈(xs.map D.int).drop 1,y.sort=true:=fun xs y hy=>gJ xs y (List.mem_of_mem_drop hy)
 have ha:∀xs:List Int,∀y∈xs.map D.int++[D.int 9],y.sort=true:=fun xs y hy=>(List.mem_append.mp hy).elim (gJ xs y) fun h=>by rw [List.mem_singleton.mp h];rfl
 rw [c1,c1]
 intro e he
 simp only [List.cons_append,List.nil_append,List.mem_cons,List.not_mem_nil,or_false] at he
 rcases he with rfl | rfl | rfl | rfl | rfl | rfl | rfl | rfl | rfl | rfl | rfl | rfl | rfl | rfl | rfl | rfl
 .exact ⟨fl _ rfl rfl,rfl⟩
 .exact ⟨fl _ rfl rfl,rfl⟩
 .exact ⟨fl _ rfl rfl,rfl⟩
 .exact ⟨fl _ rfl rfl,rfl⟩
 .exact ⟨fl _ rfl rfl,rfl⟩
 .exact ⟨Rk.okP (by show 1<=1000;decide) fun r hr=>by rw [List.mem_singleton.mp hr];exact rg,rfl⟩
 .refine ⟨Rk.okP (by show 3<=1000;decide) fun r hr=>?_,rfl⟩
  simp only [List.mem_cons,List.not_mem_nil,or_false] at hr
  rcases hr with rfl | rfl | rfl
  .exact rg
  .exact rt
  .exact rt
 .exact ⟨fj (Rk.lst (by rw [List.length_drop];omega) (hd gs)) rt,xU (sG (by rw [List.length_drop];omega))⟩
 .exact ⟨fj rg (Rk.lst (by rw [List.length_drop];omega) (hd ts)),wo (sG (by rw [List.length_drop];omega))⟩
 .exact ⟨fj (Rk.lst (by rw [List.length_append];show _ + 1<=_;omega) (ha gs)) rt,xU (sG (by rw [List.length_append,hgm];show ((_ + 1:Nat):Int)≠_;omega))⟩
 .exact ⟨fj rg (Rk.lst (by rw [List.length_append];show _ + 1<=_;omega) (ha ts)),wo (sG (by rw [List.length_append,htm];show ((_ + 1:Nat):Int)≠_;omega))⟩
 .exact ⟨fj (Rk.lst (by rw [List.length_set];omega) (sH (gJ gs) rfl)) rt,xU (Cb (j5 (by omega)) rfl)⟩
 .exact ⟨fj rg (Rk.lst (by rw [List.length_set];omega) (sH (gJ ts) rfl)),wo (Cb (j5 (by omega)) rfl)⟩
 .exact ⟨fj (fr _ rfl rfl) rt,xU rfl⟩
 .exact ⟨fj rg (fr _ rfl rfl),wo rfl⟩
 .exact ⟨fj rg (fr _ rfl rfl),wo rfl⟩
def bB:FN
 | [.lst ds,.int a],Q=>∃gs ts:List Int,ds=[di gs,di ts]/\∃j:Nat,a=j/\(gs.length=ts.length/\j < gs.length/\gs.length<=40)/\∀es:List D,(∀e∈es,okP e/\ppB e gs.length=false)->es.length<=20->Q (.own es)
 | _,_=>False
def j6:Nat:=8
theorem sI {α:Type}{l:List α}{k:Nat}{d:α} (h:k < l.length):l.getD k d∈l:=List.mem_of_getElem? (show l[k]?=some (l.getD k d) by rw [List.getD_eq_getElem?_getD,List.getElem?_eq_getElem h];rfl)
theorem yw {α:Type}{l:List α}{d x:α} (h:x∈l):∃i,i < l.length/\l.getD i d=x:=by
 obtain ⟨i,hi,e⟩:=List.mem_iff_getElem.mp h
 exact ⟨i,hi,by rw [List.getD_eq_getElem?_getD,List.getElem?_eq_getElem hi];exact e⟩
theorem xV {e g t:D}{gs ts:List Int}{ws:List (List Nat)} (he:gT e [g,t]) (hg:gT g (gs.map .int)) (ht:gT t (ts.map .int)) (gl:gs.length=ws.length) (tl:ts.length=ws.length):ui e ws=true ↔ yu ws gs ts:=by
 have r:tO e=true:=by rcases he with rfl | rfl <;> rfl
 have i0:itD (bd e) 0=g:=by rw [he.items];rfl
 have i1:itD (bd e) 1=t:=by rw [he.items];rfl
 have p1:=nY hg
 have p2:=nY ht
 rw [gl] at p1
 rw [tl] at p2
 unfold ui ppB
 rw [r,he.items]
 show (true && (decide ((2:Nat)=2) && (prB g ws.length && (prB t ws.length && true))) && _)=true ↔ _
 rw [p1,p2]
 simp only [Bool.true_and,Bool.and_true,decide_true,Bool.and_eq_true,List.all_eq_true,decide_eq_true_eq]
 show ((∀x∈gs,0<=x)/\∀x∈ts,0<=x)/\(∀x∈wg ws.length,(eH (pw ws x.1) (pw ws x.2):Int)<=nmb g x.1 + nmb t x.2) ↔ _
 constructor
 .rintro ⟨⟨h1,h2⟩,h3⟩ i hi
  refine ⟨⟨h1 _ (sI (by omega)),h2 _ (sI (by omega))⟩,fun j hj hij=>?_⟩
  have:=h3 (i,j) (nZ.mpr ⟨hi,hj,hij⟩)
  rw [(tW hg (by omega)).1,(tW ht (by omega)).1] at this
  exact this
 .intro h
  refine ⟨⟨fun x hx=>?_,fun x hx=>?_⟩,fun p hp=>?_⟩
  .obtain ⟨i,hi,rfl⟩:=yw (d:=0) hx
   exact (h i (by omega)).1.1
  .obtain ⟨i,hi,rfl⟩:=yw (d:=0) hx
   exact (h i (by omega)).1.2
  .obtain ⟨h1,h2,h3⟩:=nZ.mp hp
   rw [(tW hg (by omega)).1,(tW ht (by omega)).1]
   exact (h p.1 h1).2 p.2 h2 h3
theorem yx {e g t:D}{gs ts:List Int}{ps:List (List Nat)} (he:gT e [g,t]) (hg:gT g (gs.map .int)) (ht:gT t (ts.map .int)) (gl:gs.length=(az ps).length) (tl:ts.length=(az ps).length):xS e ps=ww (az ps) gs ts:=by
 have i0:itD (bd e) 0=g:=by rw [he.items];rfl
 have i1:itD (bd e) 1=t:=by rw [he.items];rfl
 have h:=xV he hg ht gl tl
 unfold xS ww
 rw [i0,i1,ky hg,ky ht]
 by_cases c:yu (az ps) gs ts
 .rw [if_pos c,if_pos (h.mpr c)];rfl
 .rw [if_neg c,if_neg (fun z=>c (h.mp z))]
theorem n6 (f:Nat->Int) {a b:List Nat} (h:a.Perm b):(a.map f).sum=(b.map f).sum:=by
 induction h with
 | nil=>rfl
 | cons x _ ih=>rw [List.map_cons,List.map_cons,List.sum_cons,List.sum_cons,ih]
 | swap x y l=>simp only [List.map_cons,List.sum_cons];omega
 | trans _ _ h1 h2=>rw [h1,h2]
theorem Cc (ws:List (List Nat)):(List.range ws.length).map (fun i=>((pw ws i).length:Int))=ws.map fun w=>(w.length:Int):=by
 refine List.ext_getElem (by rw [List.length_map,List.length_map,List.length_range]) fun i h1 h2=>?_
 rw [List.length_map,List.length_range] at h1
 rw [List.getElem_map,List.getElem_map,List.getElem_range]
 unfold pw
 rw [List.getD_eq_getElem?_getD,List.getElem?_eq_getElem h1];rfl
theorem sJ {ws:List (List Nat)}{gs ts:List Int}{js:List Nat} (h:yu ws gs ts) (hr:∀i,i < js.length->js.getD i 0 < ws.length) (hd:∀i,i + 1 < js.length->js.getD i 0≠js.getD (i + 1) 0):∀k,k < js.length ->
  ((js.take (k + 1)).map fun i=>((pw ws i).length:Int)).sum - ((js.take (k + 1)).map fun i=>gs.getD i 0).sum - ((js.take (k + 1)).map fun i=>ts.getD i 0).sum + gs.getD (js.getD k 0) 0<=glL ws js (k + 1)
 | 0,hk=>by
  rw [pG hk]
  have:=(h _ (hr 0 hk)).1
  show _<=glL ws js 0 + _ - _
  simp only [List.take_zero,List.nil_append,List.map_cons,List.map_nil,List.sum_cons,List.sum_nil,glL,if_true]
  omega
 | k + 1,hk=>by
  have ih:=sJ h hr hd k (by omega)
  rw [pG hk,List.map_append,List.map_append,List.map_append,List.sum_append,List.sum_append,List.sum_append]
  have l:=(h _ (hr k (by omega))).2 _ (hr (k + 1) hk) (hd k hk)
  rw [show glL ws js (k + 1 + 1)=glL ws js (k + 1) + (pw ws (js.getD (k + 1) 0)).length - (eH (pw ws (js.getD k 0)) (pw ws (js.getD (k + 1) 0)):Int) from rfl]
  simp only [List.map_cons,List.map_nil,List.sum_cons,List.sum_nil]
  omega
theorem wp {ws:List (List Nat)}{gs ts:List Int}{js:List Nat} (h:yu ws gs ts) (gl:gs.length=ws.length) (tl:ts.length=ws.length) (hp:js.Perm (List.range ws.length)):(ws.map fun w=>(w.length:Int)).sum - gs.sum - ts.sum<=glL ws js ws.length:=by
 have hl:js.length=ws.length:=by rw [hp.length_eq,List.length_range]
 have e1:=n6 (fun i=>((pw ws i).length:Int)) hp
 have e2:=n6 (fun i=>gs.getD i 0) hp
 have e3:=n6 (fun i=>ts.getD i 0) hp
 rw [Cc] at e1
 rw [<- gl,wd (fun x=>x) gs,List.map_id'] at e2
 rw [<- tl,wd (fun x=>x) ts,List.map_id'] at e3
 have nd:js.Nodup:=hp.nodup_iff.mpr List.nodup_range
 have hr:∀i,i < js.length->js.getD i 0 < ws.length:=fun i hi=>List.mem_range.mp (hp.mem_iff.mp (sI hi))
 have hd:∀i,i + 1 < js.length->js.getD i 0≠js.getD (i + 1) 0:=fun i hi e=>by
  rw [List.getD_eq_getElem?_getD,List.getD_eq_getElem?_getD,List.getElem?_eq_getElem (show i < js.length by omega),List.getElem?_eq_getElem hi] at e
  have:=(List.getElem_inj (h₀:=show i < js.length by omega) (h₁:=hi) nd).mp (show js[i]=js[i + 1] from e)
  omega
 cases n:js.length with
 | zero =>
  rw [List.eq_nil_of_length_eq_zero n] at e1 e2 e3
  rw [<- hl,n]
  show _<=(0:Int)
  rw [<- e1,<- e2,<- e3]
  exact Int.le_refl 0
 | succ k =>
  have:=sJ h hr hd k (by omega)
  rw [<- n,List.take_length,e1,e2,e3,n,<- n,hl] at this
  have g0:=(h _ (hr k (by omega))).1.1
  omega
theorem Rk.tup {xs:List D} (h:xs.length<=1000) (k:∀x∈xs,x.sort=true):Rk (.tup xs):=⟨rfl,h,k⟩
theorem Af {a b:D} (ha:Rk a) (hb:Rk b):okP (.tup [a,b]):=⟨⟨rfl,fun r hr=>⟨((fj ha hb).1.2 r hr).1,((fj ha hb).1.2 r hr).2⟩⟩,by show 2<=1000;decide,fun r hr=>(fj ha hb).2.2 r hr⟩
theorem qZ (gs ts:List Int):Sh (.lst [.tup (gs.map .int),di ts]):=(Fl.lst (n:=1) fun d hd=>by
 rcases List.mem_cons.mp hd with rfl | hd
 .exact Fl.tup (Fl.ints gs)
 .rw [List.mem_singleton.mp hd];exact Fl.lst (Fl.ints ts)).sh (by decide)
theorem sK {ps:List (List Nat)} (hw:∀w∈ps,w.length<=60) (h:0 < ps.length):0 < (az ps).length:=by
 obtain ⟨j,hj⟩:=m3 hw h
 unfold az
 rw [List.length_map]
 exact List.length_pos_of_mem (List.mem_filter.mp hj).1
theorem D5 {ps:List (List Nat)} (hl:ps.length<=40) (h:Pcs 60 ps):yt (az ps):=⟨Nat.le_trans (fg ps) hl,fun w hw=>⟨(gN h w hw).1,(gN h w hw).2.1⟩⟩
theorem xW {e:D}{ps:List (List Nat)} (h:ppB e (az ps).length=false):xS e ps=.non:=by
 unfold xS ui
 rw [h];rfl
def bf:FN
 | [.obj c ns fs,.lst ds,.lst es,.lst ps,.lst xs],Q=>c="Family"/\ns=qT/\∃pcs:List (List Nat),fs=qU pcs/\ds=(az pcs).map .str/\es=gj (az pcs)/\∃gs ts:List Int,ps=[di gs,di ts]/\∃tx:List (List Nat),xs=tx.map .str/\((az pcs).length<=40/\gs.length=(az pcs).length/\ts.length=(az pcs).length/\(∀t∈tx,∃js:List Nat,js.Perm (List.range (az pcs).length)/\glL (az pcs) js (az pcs).length<=t.length)/\tx.length<=40)/\Q (.dat (.bl true))
 | _,_=>False
def yz:Nat:=14
abbrev sL:FN:=DX
def i3:PTS:=(bH (DS .list .tuple (pSl 0)))
theorem tZ (d:D) (Q:PV->Prop) (h:cC ([d]) Q):dg i3 pR ([d]) Q:=by
 show i3 _ [some (.dat (d))]
 obtain ⟨hd,q⟩:=h
 cases d <;> first | (cases hd;done) | (walk_at "r";exact q)
theorem wq:∀ds Q,cC ds Q->dg i3 pR ds Q:=fun ds Q h=>by
 unfold cC at h
 split at h
 .exact tZ _ _ h
 .exact h.elim
def eP:PTS:=(bH (nF (Ao .int (pSl 0)) (xm (Ao .bool (pSl 0)))))
theorem n8 (d:D) (Q:PV->Prop) (h:bG ([d]) Q):dg eP jV ([d]) Q:=by
 show eP _ [some (.dat (d))]
 obtain ⟨hd,q⟩:=h
 cases d <;> first | (cases hd;done) | (walk_at "r";exact q)
theorem pU:∀ds Q,bG ds Q->dg eP jV ds Q:=fun ds Q h=>by
 unfold bG at h
 split at h
 .exact n8 _ _ h
 .exact h.elim
def dD:PTS:=(bH (nF (bh cC (ae (pFz (aP 0)) am)) (nF (pOp uh (pFz (pCB gb (ae (pSl 0) am))) (pSl 1)) (pCB zA (ae (pFz (dr [none] (dh (aP 0)) (au 0) k6 (bh bG (ae (pFz (aP 0)) am)))) am)))))
theorem lG (d:D) (m:Int) (Q:PV->Prop) (h:bn ([d,.int m]) Q):dg dD gZ ([d,.int m]) Q:=by
 show dD _ [some (.dat (d)),some (.dat (.int m))]
 obtain ⟨⟨hd,hs⟩,hl,q⟩:=h
 have body:∀ds:List D,bd d=ds->tO d=true->(ds.length:Int)=m->cg d m=(ds.map lj).all id:=fun ds e1 e2 e3=>by
  unfold cg
  rw [e1,e2,decide_eq_true e3,Bool.true_and,Bool.true_and,List.all_map];rfl
 have no:∀ds:List D,bd d=ds->¬ (ds.length:Int)=m->cg d m=false:=fun ds e1 e3=>by
  unfold cg
  rw [e1,decide_eq_false e3,Bool.false_and,Bool.and_false]
 cases d with
 | lst ds =>
  have hl:ds.length<=1000000:=hl
  walk_at "r"
  refine eo (fun c=>?_) (fun c=>?_)
  .walk_at "r"
   refine tM (fun τ=>∃v,τ=[v]) (fun k=>.bl (lj (itD ds k))) ?_ ?_ ?_
   .exact ⟨_,rfl⟩
   .rintro k τ _ hk rfl ⟨v,rfl⟩ K1 k1
    walk_at "r"
    exact ⟨hs _ (jp hk),k1 _ ⟨_,rfl⟩⟩
   .rintro τ ⟨v,rfl⟩
    walk_at "r"
    refine ⟨(List.range ds.length).map fun k=>lj (itD ds k),by rw [List.map_map];rfl,?_⟩
    rw [body ds rfl rfl c] at q
    rw [iS]
    exact q
  .walk_at "r"
   rw [no ds rfl c] at q
   exact q
 | tup ds =>
  have hl:ds.length<=1000000:=hl
  walk_at "r"
  refine eo (fun c=>?_) (fun c=>?_)
  .walk_at "r"
   refine tM (fun τ=>∃v,τ=[v]) (fun k=>.bl (lj (itD ds k))) ?_ ?_ ?_
   .exact ⟨_,rfl⟩
   .rintro k τ _ hk rfl ⟨v,rfl⟩ K1 k1
    walk_at "r"
    exact ⟨hs _ (jp hk),k1 _ ⟨_,rfl⟩⟩
   .rintro τ ⟨v,rfl⟩
    walk_at "r"
    refine ⟨(List.range ds.length).map fun k=>lj (itD ds k),by rw [List.map_map];rfl,?_⟩
    rw [body ds rfl rfl c] at q
    rw [iS]
    exact q
  .walk_at "r"
   rw [no ds rfl c] at q
   exact q
 | str l=>walk_at "r";exact q
 | non=>walk_at "r";exact q
 | bl b=>walk_at "r";exact q
 | int i=>walk_at "r";exact q
 | ty n=>cases hd
 | scr ns=>cases hd
 | dic ks ds=>walk_at "r";exact q
 | obj c ns ds=>cases hd
 | exc c ns ds=>cases hd
theorem mj:∀ds Q,bn ds Q->dg dD gZ ds Q:=fun ds Q h=>by
 unfold bn at h
 split at h
 .exact lG _ _ _ h
 .exact h.elim
def d3:PTS:=(bH (nF (bh bn (ae (pFz (aP 0)) (ae (pFz (aP 1)) am))) (pCB zA (ae (pFz (dr [none] (dh (aP 0)) (au 0) k6 (pOp fGe (pSl 0) (pFz (pC (.int 0)))))) am))))
theorem ml (d:D) (m:Int) (Q:PV->Prop) (h:bu ([d,.int m]) Q):dg d3 iW ([d,.int m]) Q:=by
 show d3 _ [some (.dat (d)),some (.dat (.int m))]
 obtain ⟨hd,hl,q⟩:=h
 walk_at "r"
 refine rX (fun c=>?_) (fun c=>?_)
 .have c:cg d m=true:=c
  obtain ⟨zs,hz,rfl⟩:=wf c
  rw [nY hz] at q
  have hzl:(zs.map D.int).length=zs.length:=List.length_map _
  rw [hz.items,hzl] at hl
  rcases hz with rfl | rfl <;> (
   walk_at "r"
   refine tM (fun τ=>∃v,τ=[v]) (fun k=>.bl (decide (0<=zs.getD k 0))) ?_ ?_ ?_
   .exact ⟨_,rfl⟩
   .rintro k τ d hk ed ⟨v,rfl⟩ K1 k1
    rw [vt hk] at ed
    subst ed
    walk_at "r"
    exact k1 _ ⟨_,rfl⟩
   .rintro τ ⟨v,rfl⟩
    walk_at "r"
    refine ⟨(List.range (zs.map D.int).length).map fun k=>decide (0<=zs.getD k 0),by rw [List.map_map];rfl,?_⟩
    rw [hzl,wd (fun z=>decide (0<=z)) zs,List.all_map]
    exact q)
 .have c:cg d m=false:=c
  walk_at "r"
  rw [show prB d m=false by unfold prB;rw [c];rfl] at q
  exact q
theorem n9:∀ds Q,bu ds Q->dg d3 iW ds Q:=fun ds Q h=>by
 unfold bu at h
 split at h
 .exact ml _ _ _ h
 .exact h.elim
def cU:PTS:=(bH (nF (bh cC (ae (pFz (aP 0)) am)) (nF (pOp uh (pFz (pCB gb (ae (pSl 0) am))) (pFz (pC (.int 2)))) (pCB zA (ae (pFz (dr [none,some 1] (dh (aP 0)) (au 0) k6 (bh bu (ae (pFz (aP 0)) (ae (pFz (aP 1)) am))))) am)))))
theorem i4 (d:D) (m:Int) (Q:PV->Prop) (h:aX ([d,.int m]) Q):dg cU fi ([d,.int m]) Q:=by
 show cU _ [some (.dat (d)),some (.dat (.int m))]
 obtain ⟨⟨⟨hd,hs⟩,hl,hl2⟩,q⟩:=h
 cases d with
 | lst ds =>
  have hl:ds.length<=1000:=hl
  have hs:∀r∈ds,r.sort=true/\∀x∈bd r,x.sort=true:=hs
  have hl2:∀r∈ds,(bd r).length<=1000:=hl2
  walk_at "r"
  refine eo (fun c=>?_) (fun c=>?_)
  .rw [show ppB (.lst ds) m=(ds.all fun r=>prB r m) by unfold ppB;rw [decide_eq_true (show (bd (.lst ds)).length=2 by show ds.length=2;omega)];rfl] at q
   walk_at "r"
   refine tM (fun τ=>∃v,τ=[v,some (.dat (.int m))]) (fun k=>.bl (prB (itD ds k) m)) ?_ ?_ ?_
   .exact ⟨_,rfl⟩
   .rintro k τ _ hk rfl ⟨v,rfl⟩ K1 k1
    have h1:Srt (itD ds k):=hs _ (jp hk)
    have h2:(bd (itD ds k)).length<=1000000:=Nat.le_trans (hl2 _ (jp hk)) (by decide)
    walk_at "r"
    exact k1 _ ⟨_,rfl⟩
   .rintro τ ⟨v,rfl⟩
    walk_at "r"
    refine ⟨(List.range ds.length).map fun k=>prB (itD ds k) m,by rw [List.map_map];rfl,?_⟩
    rw [iS (fun r=>prB r m) ds,List.all_map]
    exact q
  .rw [show ppB (.lst ds) m=false by unfold ppB;rw [decide_eq_false (show ¬ (bd (.lst ds)).length=2 by show ¬ ds.length=2;omega),Bool.false_and,Bool.and_false]] at q
   walk_at "r"
   exact q
 | tup ds =>
  have hl:ds.length<=1000:=hl
  have hs:∀r∈ds,r.sort=true/\∀x∈bd r,x.sort=true:=hs
  have hl2:∀r∈ds,(bd r).length<=1000:=hl2
  walk_at "r"
  refine eo (fun c=>?_) (fun c=>?_)
  .rw [show ppB (.tup ds) m=(ds.all fun r=>prB r m) by unfold ppB;rw [decide_eq_true (show (bd (.tup ds)).length=2 by show ds.length=2;omega)];rfl] at q
   walk_at "r"
   refine tM (fun τ=>∃v,τ=[v,some (.dat (.int m))]) (fun k=>.bl (prB (itD ds k) m)) ?_ ?_ ?_
   .exact ⟨_,rfl⟩
   .rintro k τ _ hk rfl ⟨v,rfl⟩ K1 k1
    have h1:Srt (itD ds k):=hs _ (jp hk)
    have h2:(bd (itD ds k)).length<=1000000:=Nat.le_trans (hl2 _ (jp hk)) (by decide)
    walk_at "r"
    exact k1 _ ⟨_,rfl⟩
   .rintro τ ⟨v,rfl⟩
    walk_at "r"
    refine ⟨(List.range ds.length).map fun k=>prB (itD ds k) m,by rw [List.map_map];rfl,?_⟩
    rw [iS (fun r=>prB r m) ds,List.all_map]
    exact q
  .rw [show ppB (.tup ds) m=false by unfold ppB;rw [decide_eq_false (show ¬ (bd (.tup ds)).length=2 by show ¬ ds.length=2;omega),Bool.false_and,Bool.and_false]] at q
   walk_at "r"
   exact q
 | str l=>walk_at "r";exact q
 | non=>walk_at "r";exact q
 | bl b=>walk_at "r";exact q
 | int i=>walk_at "r";exact q
 | ty n=>cases hd
 | scr ns=>cases hd
 | dic ks ds=>walk_at "r";exact q
 | obj c ns ds=>cases hd
 | exc c ns ds=>cases hd
theorem jH:∀ds Q,aX ds Q->dg cU fi ds Q:=fun ds Q h=>by
 unfold aX at h
 split at h
 .exact i4 _ _ _ h
 .exact h.elim
def gO:PTS:=(aF (jS (pOr (xk (pB (Ao .str (pSl 0)))) (xk (pB (vf fLe fLe (pSl 1) (pFz (pCB gb (ae (pSl 0) am))) (pSl 2))))) (bH (pC (.bl false))) cF) (bH (pCB zA (ae (pFz (dr [none] (dh (aP 0)) (au 0) k6 (vf fLe fLe (pFz (pC (.str [97]))) (pSl 0) (pFz (pC (.str [122])))))) am))))
theorem q0 (d:D) (a b:Int) (Q:PV->Prop) (h:cT ([d,.int a,.int b]) Q):dg gO m8 ([d,.int a,.int b]) Q:=by
 show gO _ [some (.dat (d)),some (.dat (.int a)),some (.dat (.int b))]
 obtain ⟨hd,hl,q⟩:=h
 cases d with
 | str l =>
  have hl:l.length<=1000000:=hl
  walk_at "r"
  refine eo (fun c1=>?_) (fun c1=>?_)
  .walk_at "r"
   refine kU (fun c2=>?_) (fun c2=>?_)
   .walk_at "r"
    rw [show xz (.str l) a b=false by rw [nN,decide_eq_false c2,Bool.and_false];rfl] at q
    exact q
   .walk_at "r"
    refine tM (fun τ=>∃v,τ=[v]) (fun k=>.bl (ltB (l.getD k 0))) ?_ ?_ ?_
    .exact ⟨_,rfl⟩
    .rintro k τ _ hk rfl ⟨v,rfl⟩ K1 k1
     walk_at "r"
     refine kU (fun c=>?_) (fun c=>?_)
     .have hc:97<=l.getD k 0:=of_decide_eq_true (by rw [<- qM];rw [decide_eq_false c];rfl)
      walk_at "r"
      show K1 (.bl (!decide (([122]:List Nat) < [l.getD k 0]))) _
      rw [qM]
      rw [show ltB (l.getD k 0)=decide (l.getD k 0<=122) by unfold ltB;rw [decide_eq_true hc];rfl] at k1
      exact k1 _ ⟨_,rfl⟩
     .have hc:¬ 97<=l.getD k 0:=of_decide_eq_false (by rw [<- qM,decide_eq_true c];rfl)
      walk_at "r"
      rw [show ltB (l.getD k 0)=false by unfold ltB;rw [decide_eq_false hc];rfl] at k1
      exact k1 _ ⟨_,rfl⟩
    .rintro τ ⟨v,rfl⟩
     walk_at "r"
     refine ⟨(List.range l.length).map fun k=>ltB (l.getD k 0),by rw [List.map_map];rfl,?_⟩
     have e:xz (.str l) a b=(((List.range l.length).map fun k=>ltB (l.getD k 0)).all id):=by
      rw [nN,decide_eq_true c1,decide_eq_true c2,Bool.and_self,Bool.true_and,fA]
      rw [List.all_map];rfl
     rw [e] at q
     exact q
  .walk_at "r"
   rw [show xz (.str l) a b=false by rw [nN,decide_eq_false c1,Bool.false_and];rfl] at q
   exact q
 | non=>walk_at "r";exact q
 | bl b=>walk_at "r";exact q
 | int i=>walk_at "r";exact q
 | ty n=>cases hd
 | lst ds=>walk_at "r";exact q
 | tup ds=>walk_at "r";exact q
 | scr ns=>cases hd
 | dic ks ds=>walk_at "r";exact q
 | obj c ns ds=>cases hd
 | exc c ns ds=>cases hd
theorem t5:∀ds Q,cT ds Q->dg gO m8 ds Q:=fun ds Q h=>by
 unfold cT at h
 split at h
 .exact q0 _ _ _ _ h
 .exact h.elim
def dE:PTS:=(bH (pSM vp (aP 0) (ae (pSl 1) am)))
theorem lH (a b:List Nat) (Q:PV->Prop) (h:aY ([.str a,.str b]) Q):dg dE g7 ([.str a,.str b]) Q:=by
 show dE _ [some (.dat (.str a)),some (.dat (.str b))]
 walk_at "r"
 exact h
theorem mn:∀ds Q,aY ds Q->dg dE g7 ds Q:=fun ds Q h=>by
 unfold aY at h
 split at h
 .exact lH _ _ _ h
 .exact h.elim
def dF:PTS:=(aF (a6 (xr false (ae (pFz (aP 0)) am)) (au 1)) (bH (yk [none,none,some 1] (dh (aP 1)) (au 0) k6 (dh (aP 2)) (au 1) (pB (pOp tN (pSl 0) (pSl 1))) (Cq (ae (pFz (aP 0)) (ae (pFz (aP 1)) am))))))
theorem lI (m:Int) (Q:PV->Prop) (h:bo ([.int m]) Q):dg dF g8 ([.int m]) Q:=by
 show dF _ [some (.dat (.int m)),none]
 obtain ⟨⟨h0,h1⟩,q⟩:=h
 obtain ⟨n,rfl⟩:∃n:Nat,m=(n:Int):=⟨m.toNat,by omega⟩
 rw [Int.toNat_natCast] at q
 have hrl:(pE 0 n).length=n:=iw n
 walk_at "r"
 rw [Int.toNat_natCast,hrl]
 refine ⟨⟨fun k ys τ=>ys=((List.range k).flatMap fun i=>((List.range n).filter fun j=>decide (i≠j)).map fun j=>(i,j)).map prT/\∃v w,τ=[v,w,some (.dat (.lst (pE 0 n)))],⟨rfl,_,_,rfl⟩,?_,?_⟩⟩
 .rintro k ys τ _ hk rfl ⟨rfl,v,w,rfl⟩
  rw [jt (by rw [hrl];exact hk)]
  walk_at "r"
  rw [hrl]
  refine ⟨fun j zs τ=>zs=((List.range k).flatMap fun i=>((List.range n).filter fun j=>decide (i≠j)).map fun j=>(i,j)).map prT++(((List.range j).filter fun j=>decide (k≠j)).map fun j=>(k,j)).map prT/\∃w,τ=[some (.dat (.int (k:Int))),w,some (.dat (.lst (pE 0 n)))],⟨(List.append_nil _).symm,w,rfl⟩,?_,?_⟩
  .rintro j zs τ _ hj rfl ⟨rfl,w,rfl⟩
   rw [jt (by rw [hrl];exact hj)]
   have hlen:=n0 n (List.range k)
   have hkn:k * n<=40 * 40:=Nat.mul_le_mul (by omega) (by omega)
   walk_at "r"
   refine kU (fun c=>?_) (fun c=>?_)
   .walk_at "r"
    refine ⟨?_,?_,_,rfl⟩
    .rw [List.length_append,List.length_map,List.length_map,List.length_map]
     have h2:((List.range j).filter fun j=>decide (k≠j)).length<=j:=Nat.le_trans (List.length_filter_le ..) (by rw [List.length_range];exact Nat.le_refl _)
     rw [List.length_range] at hlen
     omega
    .rw [List.range_succ,List.filter_append,List.map_append,List.map_append,<- List.append_assoc,List.filter_cons,if_pos (decide_eq_true (show k≠j by omega))];rfl
   .refine ⟨?_,_,rfl⟩
    rw [List.range_succ,List.filter_append,List.filter_cons,if_neg (by rw [decide_eq_true_eq];omega)]
    simp
  .rintro zs τ ⟨rfl,w,rfl⟩
   refine ⟨?_,_,_,rfl⟩
   rw [List.range_succ,List.flatMap_append,List.map_append,List.flatMap_cons,List.flatMap_nil,List.append_nil]
 .rintro ys τ ⟨rfl,v,w,rfl⟩
  walk_at "r"
  exact q
theorem mq:∀ds Q,bo ds Q->dg dF g8 ds Q:=fun ds Q h=>by
 unfold bo at h
 split at h
 .exact lI _ _ h
 .exact h.elim
def eQ:PTS:=(aF (jS (xk (pB (bh aX (ae (pFz (aP 0)) (ae (pFz (pCB gb (ae (pSl 1) am))) am))))) (bH (pC (.bl false))) cF) (aF (a6 (aP 0) (me 2 (fV (au 3) (fV (au 4) qE)))) (bH (pCB zA (ae (pFz (dr [none,none,some 3,some 4,some 1] (dh (aP 2)) (me 2 (fV (au 0) (fV (au 1) qE))) k6 (pOp fGe (pFz (pOp cP (pFz (pOp fIx (pSl 2) (pSl 0))) (pFz (pOp fIx (pSl 3) (pSl 1))))) (pFz (pOp fIx (pFz (pOp fIx (pSl 4) (pSl 0))) (pSl 1)))))) am)))))
theorem oa (e:D) (ls ps:List D) (Q:PV->Prop) (h:bQ ([e,.tup ls,.lst ps]) Q):dg eQ jW ([e,.tup ls,.lst ps]) Q:=by
 show eQ _ [some (.dat (e)),some (.dat (.tup ls)),some (.dat (.lst ps)),none,none]
 obtain ⟨ws,rfl,rfl,⟨oe,hn⟩,q⟩:=h
 have hlm:(ws.map (Cz ws)).length=ws.length:=List.length_map _
 have hpl:((wg ws.length).map prT).length<=1600:=by
  rw [List.length_map]
  have:=n0 ws.length (List.range ws.length)
  rw [List.length_range] at this
  have:ws.length * ws.length<=40 * 40:=Nat.mul_le_mul hn hn
  unfold wg;omega
 walk_at "r"
 rw [hlm]
 refine ji (rX (fun c=>?_) (fun c=>?_))
 .have c:ppB e ws.length=true:=c
  obtain ⟨g,t,gs,ts,he,hg,ht,gl,tl,e0,e1⟩:=B9 c
  rw [show ui e ws=((wg ws.length).all fun p=>decide ((eH (pw ws p.1) (pw ws p.2):Int)<=nmb g p.1 + nmb t p.2)) by unfold ui;rw [c,e0,e1];rfl] at q
  walk_at "r"
  refine yl he ⟨rfl,?_⟩
  walk_at "r"
  refine cm2 (e:=prT) (xs:=wg ws.length) (fun p=>.bl (decide ((eH (pw ws p.1) (pw ws p.2):Int)<=nmb g p.1 + nmb t p.2))) (fun p hp v w K1 k1=>?_) (fun v w=>?_)
  .obtain ⟨h1,h2,h3⟩:=nZ.mp hp
   walk_at "r"
   refine BS hg ⟨_,(tW hg (by omega)).2,?_⟩
   walk_at "r"
   refine BS ht ⟨_,(tW ht (by omega)).2,?_⟩
   walk_at "r"
   refine ⟨_,Ab h1,?_⟩
   walk_at "r"
   refine ⟨_,pS h2,?_⟩
   walk_at "r"
   exact k1 _ _
  .walk_at "r"
   refine ⟨(wg ws.length).map fun p=>decide ((eH (pw ws p.1) (pw ws p.2):Int)<=nmb g p.1 + nmb t p.2),by rw [List.map_map];rfl,?_⟩
   rw [List.all_map]
   exact q
 .rw [show ui e ws=false by unfold ui;rw [show ppB e ws.length=false from c];rfl] at q
  walk_at "r"
  exact q
theorem pV:∀ds Q,bQ ds Q->dg eQ jW ds Q:=fun ds Q h=>by
 unfold bQ at h
 split at h
 .exact oa _ _ _ _ h
 .exact h.elim
def dG:PTS:=(aF (jS (xk (pB (bh bQ (ae (pFz (aP 1)) (ae (pFz (tK "Family" ["pieces","kept","words","left","laps","total"] 4 (pSl 0))) (ae (pFz (bh bo (ae (pFz (yg "Family" ["pieces","kept","words","left","laps","total"] bq (aP 0) am)) am))) am)))))) (bH (pC .non)) cF) (aF (a6 (aP 1) (me 2 (fV (au 2) (fV (au 3) qE)))) (bH (pOp xw (pFz (pOp xw (pFz (tK "Family" ["pieces","kept","words","left","laps","total"] 5 (pSl 0))) (pFz (pCB xQ (ae (pSl 2) am))))) (pFz (pCB xQ (ae (pSl 3) am)))))))
theorem lJ (c:Str) (ns:List Str) (fs:List D) (e:D) (Q:PV->Prop) (h:aN ([.obj c ns fs,e]) Q):dg dG g9 ([.obj c ns fs,e]) Q:=by
 show dG _ [some (.dat (.obj c ns fs)),some (.dat (e)),none,none]
 obtain ⟨rfl,rfl,ps,rfl,⟨oe,hn⟩,q⟩:=h
 unfold xS at q
 have hM:0<=((az ps).length:Int)/\((az ps).length:Int)<=40:=⟨by omega,by omega⟩
 walk_at "r"
 refine ji (rX (fun c=>?_) (fun c=>?_))
 .have c:ui e (az ps)=true:=c
  rw [if_pos c] at q
  obtain ⟨g,t,gs,ts,he,hg,ht,gl,tl,e0,e1⟩:=B9 (show ppB e (az ps).length=true by unfold ui at c;rw [Bool.and_eq_true] at c;exact c.1)
  rw [e0,e1,ky hg,ky ht] at q
  walk_at "r"
  refine yl he ⟨rfl,?_⟩
  walk_at "r"
  rcases hg with rfl | rfl <;> rcases ht with rfl | rfl <;> (walk_at "r";exact q)
 .rw [if_neg (by rw [show ui e (az ps)=false from c];decide)] at q
  walk_at "r"
  exact q
theorem mr:∀ds Q,aN ds Q->dg dG g9 ds Q:=fun ds Q h=>by
 unfold aN at h
 split at h
 .exact lJ _ _ _ _ _ h
 .exact h.elim
def sM:PTS:=(aF (gc (DU (ae (pFz (pOp xw (pFz (pCB xq (ae (pFz (pCB gb (ae (pSl 0) am))) (ae (pFz (pCB gb (ae (pSl 1) am))) am)))) (pFz (pC (.int 1))))) (ae (pFz (pC (.int 0))) (ae (pFz (pUn Cv (pFz (pC (.int 1))))) am)))) (au 2) (jS (pB (pSM zE (aP 0) (ae (pFz (dN (pSl 1) eJ (df (aP 2)))) am))) (bH (aP 2)) cF)) (bH (pC (.int 0))))
theorem Ag (a b:List Nat) (Q:PV->Prop) (h:fZ ([.str a,.str b]) Q):dg sM yq ([.str a,.str b]) Q:=by
 show sM _ [some (.dat (.str a)),some (.dat (.str b)),none]
 obtain ⟨⟨a0,a1⟩,⟨b0,b1⟩,q⟩:=h
 have hm:(if (b.length:Int) < (a.length:Int) then (b.length:Int) else (a.length:Int))=((min a.length b.length:Nat):Int):=by split <;> omega
 walk_at "r"
 refine ⟨fun i ρ=>(∃v2:Option PV,ρ=[some (.dat (.str a)),some (.dat (.str b)),v2])/\∀j,min a.length b.length - i<=j->j < min a.length b.length->¬ b.take j <:+ a,⟨⟨_,rfl⟩,fun j h1 h2=>by omega⟩,?_,?_⟩
 .rintro i ρ d hi ed ⟨⟨v2,rfl⟩,ih⟩
  have hi:i < (((if (b.length:Int) < (a.length:Int) then (b.length:Int) else (a.length:Int)) - 1) - 0).toNat:=hi
  have ed:d=.int (((if (b.length:Int) < (a.length:Int) then (b.length:Int) else (a.length:Int)) - 1) - (i:Int)):=ed
  rw [hm] at hi ed
  obtain ⟨k,hk,hk2⟩:∃k:Nat,(((min a.length b.length:Nat):Int) - 1) - (i:Int)=(k:Int)/\k=min a.length b.length - 1 - i:=⟨min a.length b.length - 1 - i,by omega,rfl⟩
  rw [hk] at ed
  subst ed
  walk_at "r"
  rw [jd]
  refine eo (fun c=>?_) (fun c=>?_)
  .walk_at "r"
   rw [show eH a b=k from qS ⟨by omega,c,fun j h1 h2=>by
    rcases Nat.lt_or_ge k j with h | h
    .exact absurd h2 (ih j (by omega) h1)
    .exact h⟩] at q
   exact q
  .refine ⟨⟨_,rfl⟩,fun j h1 h2=>?_⟩
   by_cases hj:j=k
   .rw [hj];exact c
   .exact ih j (by omega) h2
 .rintro ρ ⟨⟨v2,rfl⟩,ih⟩
  rw [hm] at ih
  walk_at "r"
  rw [show eH a b=0 from qS ⟨by omega,by rw [List.take_zero];exact List.nil_suffix,fun j h1 h2=>by
   rcases Nat.eq_zero_or_pos j with h | h
   .omega
   .exact absurd h2 (ih j (by omega) h1)⟩] at q
  exact q
theorem Cd:∀ds Q,fZ ds Q->dg sM yq ds Q:=fun ds Q h=>by
 unfold fZ at h
 split at h
 .exact Ag _ _ _ h
 .exact h.elim
def fK:PTS:=(bH (pCB gw (ae (pFz (dr [none,some 0] (dh (aP 0)) (au 0) k6 (pCB gw (ae (pFz (dr [none,some 0] (dh (aP 1)) (au 0) k6 (bh fZ (ae (pFz (aP 1)) (ae (pFz (aP 0)) am))))) am)))) am)))
theorem pW (ds:List D) (Q:PV->Prop) (h:ci ([.tup ds]) Q):dg fK lx ([.tup ds]) Q:=by
 show fK _ [some (.dat (.tup ds))]
 obtain ⟨ws,rfl,⟨hn,hw⟩,q⟩:=h
 have hlm:(ws.map D.str).length=ws.length:=List.length_map _
 have rr:∀f:List Nat->D,(List.range (ws.map D.str).length).map (fun k=>f (pw ws k))=ws.map f:=fun f=>by
  rw [hlm]
  apply List.ext_getElem?
  intro k
  rw [List.getElem?_map,List.getElem?_map]
  by_cases hk:k < ws.length
  .rw [List.getElem?_range hk,iT hk];rfl
  .rw [List.getElem?_eq_none (by rw [List.length_range];omega),List.getElem?_eq_none (by omega)];rfl
 walk_at "r"
 refine tM (fun τ=>∃v,τ=[v,some (.dat (.tup (ws.map .str)))]) (fun k=>.tup (ws.map fun v=>.int (eH (pw ws k) v:Int))) ?_ ?_ ?_
 .exact ⟨_,rfl⟩
 .rintro k τ d hk ed ⟨v,rfl⟩ K1 k1
  rw [gy hk] at ed
  subst ed
  have w1:=hw _ (iU (show k < ws.length by omega))
  walk_at "r"
  refine tM (fun τ=>∃v,τ=[v,some (.dat (.str (pw ws k)))]) (fun j=>.int (eH (pw ws k) (pw ws j):Int)) ?_ ?_ ?_
  .exact ⟨_,rfl⟩
  .rintro j τ d hj ed ⟨v,rfl⟩ K2 k2
   rw [gy hj] at ed
   subst ed
   have w2:=hw _ (iU (show j < ws.length by omega))
   walk_at "r"
   exact k2 _ ⟨_,rfl⟩
  .rintro τ ⟨v,rfl⟩
   rw [rr (fun w=>D.int (eH (pw ws k) w:Int))]
   walk_at "r"
   exact k1 _ ⟨_,rfl⟩
 .rintro τ ⟨v,rfl⟩
  rw [rr (fun w=>D.tup (ws.map fun v=>.int (eH w v:Int)))]
  walk_at "r"
  exact q
theorem rc:∀ds Q,ci ds Q->dg fK lx ds Q:=fun ds Q h=>by
 unfold ci at h
 split at h
 .exact pW _ _ h
 .exact h.elim
def dk:PTS:=(aF (jS (pB (pOp fGt (pFz (pCB gb (ae (pSl 0) am))) (pFz (pC (.int 40))))) qF cF) (gc (yc (ae (pFz (aP 0)) am)) (me 2 (fV (au 1) (fV (au 2) qE))) (jS (xk (pB (yj cT [] (ae (pFz (aP 2)) (ae (pFz (pC (.int 1))) (ae (pFz (pC (.int 60))) am)))))) qF cF)))
theorem kn (d:D) (Q:PV->Prop) (h:bi ([d]) Q):dg dk gI ([d]) Q:=by
 show dk _ [some (.dat (d)),none,none]
 obtain ⟨ws,hd,⟨hn,hp⟩,q⟩:=h
 have hlm:(ws.map D.str).length=ws.length:=List.length_map _
 rcases hd with rfl | rfl
 .walk_at "r"
  refine ⟨fun k ρ=>∃v1 v2:Option PV,ρ=[some (.dat (.lst (ws.map .str))),v1,v2],⟨_,_,rfl⟩,?_,?_⟩
  .rintro k ρ d hk ed ⟨v1,v2,rfl⟩
   have ed:d=.tup [.int k,itD (ws.map D.str) k]:=ed
   rw [gy hk] at ed
   subst ed
   have hw:=hp _ (iU (show k < ws.length by omega))
   have ht:xz (.str (pw ws k)) 1 60=true:=vv.mpr hw
   have h1:(pw ws k).length<=1000000:=by have:=hw.2.1;omega
   walk_at "r"
   refine zh ht ?_
   exact ⟨_,_,rfl⟩
  .rintro ρ ⟨v1,v2,rfl⟩
   exact q
 .walk_at "r"
  refine ⟨fun k ρ=>∃v1 v2:Option PV,ρ=[some (.dat (.tup (ws.map .str))),v1,v2],⟨_,_,rfl⟩,?_,?_⟩
  .rintro k ρ d hk ed ⟨v1,v2,rfl⟩
   have ed:d=.tup [.int k,itD (ws.map D.str) k]:=ed
   rw [gy hk] at ed
   subst ed
   have hw:=hp _ (iU (show k < ws.length by omega))
   have ht:xz (.str (pw ws k)) 1 60=true:=vv.mpr hw
   have h1:(pw ws k).length<=1000000:=by have:=hw.2.1;omega
   walk_at "r"
   refine zh ht ?_
   exact ⟨_,_,rfl⟩
  .rintro ρ ⟨v1,v2,rfl⟩
   exact q
theorem lK:∀ds Q,bi ds Q->dg dk gI ds Q:=fun ds Q h=>by
 unfold bi at h
 split at h
 .exact kn _ _ h
 .exact h.elim
def c6:PTS:=(bH (pOp fGe (pFz (bh aY (ae (pFz (aP 1)) (ae (pFz (aP 0)) am)))) (pFz (pC (.int 0)))))
theorem jI (a b:List Nat) (Q:PV->Prop) (h:aI ([.str a,.str b]) Q):dg c6 f8 ([.str a,.str b]) Q:=by
 show c6 _ [some (.dat (.str a)),some (.dat (.str b))]
 walk_at "r"
 exact h
theorem ko:∀ds Q,aI ds Q->dg c6 f8 ds Q:=fun ds Q h=>by
 unfold aI at h
 split at h
 .exact jI _ _ _ h
 .exact h.elim
def gP:PTS:=(aF (a6 (pOp fIx (pSl 0) (pSl 1)) (au 2)) (aF (a6 (dr [none,some 2] (dh (aP 0)) (au 0) (pB (pOp fGt (pFz (pCB gb (ae (pSl 0) am))) (pFz (pCB gb (ae (pSl 1) am))))) (aP 0)) (au 3)) (bH (nF (pOp (Ar true) (pSl 2) (pFz (dN (pSl 0) eJ (df (aP 1))))) (xm (pCB Dm (ae (pFz (dr [none,some 2] (dh (aP 3)) (au 0) k6 (bh aI (ae (pFz (aP 1)) (ae (pFz (aP 0)) am))))) am)))))))
theorem rd (ds:List D) (i:Int) (Q:PV->Prop) (h:cD ([.tup ds,.int i]) Q):dg gP m9 ([.tup ds,.int i]) Q:=by
 show gP _ [some (.dat (.tup ds)),some (.dat (.int i)),none,none]
 obtain ⟨ws,rfl,⟨hn,hw⟩,hi,q⟩:=h
 obtain ⟨k,rfl⟩:∃k:Nat,i=(k:Int):=⟨i.toNat,by omega⟩
 have hk:k < ws.length:=by omega
 have hlm:(ws.map D.str).length=ws.length:=List.length_map _
 have w1:=hw _ (iU hk)
 walk_at "r"
 refine ⟨_,dU hk rfl,?_⟩
 walk_at "r"
 refine cfm (fun τ=>∃v,τ=[v,some (.dat (.str (pw ws k)))]) (fun j=>if (pw ws k).length < (pw ws j).length then some (.str (pw ws j)) else none) ?_ ?_ ?_
 .exact ⟨_,rfl⟩
 .rintro j τ d hj ed ⟨v,rfl⟩ K1 K2 k1 k2
  rw [gy hj] at ed
  subst ed
  have w2:=hw _ (iU (show j < ws.length by omega))
  walk_at "r"
  refine eo (fun c=>?_) (fun c=>?_)
  .walk_at "r"
   exact k1 _ _ (by rw [if_pos (by omega)]) ⟨_,rfl⟩
  .exact k2 _ (by rw [if_neg (by omega)]) ⟨_,rfl⟩
 .rintro τ ⟨v,rfl⟩
  have e1:(List.range (ws.map D.str).length).filterMap (fun j=>if (pw ws k).length < (pw ws j).length then some (D.str (pw ws j)) else none)=(ws.filter fun o=>decide ((pw ws k).length < o.length)).map D.str:=by
   rw [hlm,xJ (fun w=>if (pw ws k).length < w.length then some (D.str w) else none) ws,<- cY]
   congr 1
   funext w
   by_cases h:(pw ws k).length < w.length
   .rw [if_pos h,if_pos (decide_eq_true h)]
   .rw [if_neg h,if_neg (by rw [decide_eq_false h];decide)]
  rw [e1]
  have hll:(ws.filter fun o=>decide ((pw ws k).length < o.length)).length<=ws.length:=List.length_filter_le ..
  generalize hL:(ws.filter fun o=>decide ((pw ws k).length < o.length))=ls at hll ⊢
  have hlm2:(ls.map D.str).length=ls.length:=List.length_map _
  have c1:eC (ws.map D.str) none (some (k:Int))=(ws.take k).map D.str:=by rw [jd,List.map_take]
  have hfl:(eC (ws.map D.str) none (some (k:Int))).all D.fl=true:=by rw [c1];exact vO _
  have hin:inD (.str (pw ws k)) (eC (ws.map D.str) none (some (k:Int)))=decide (pw ws k∈ws.take k):=by rw [c1];exact nQ _ _
  have hkb:du ws k=(!inD (.str (pw ws k)) (eC (ws.map D.str) none (some (k:Int))) && !ls.any fun o=>gi (pw ws k) o):=by
   unfold du;rw [hin,hL]
  rw [Int.toNat_natCast,hkb] at q
  walk_at "r"
  refine ji (rX (fun c=>?_) (fun c=>?_))
  .walk_at "r"
   have c:inD (.str (pw ws k)) (eC (ws.map D.str) none (some (k:Int)))=true:=c
   rw [c] at q
   exact q
  .have c:inD (.str (pw ws k)) (eC (ws.map D.str) none (some (k:Int)))=false:=c
   rw [c,Bool.not_false,Bool.true_and] at q
   walk_at "r"
   refine tM (fun τ=>∃v,τ=[v,some (.dat (.str (pw ws k)))]) (fun j=>.bl (gi (pw ws k) (pw ls j))) ?_ ?_ ?_
   .exact ⟨_,rfl⟩
   .rintro j τ d hj ed ⟨v,rfl⟩ K1 k1
    rw [gy hj] at ed
    subst ed
    walk_at "r"
    exact k1 _ ⟨_,rfl⟩
   .rintro τ ⟨v,rfl⟩
    walk_at "r"
    refine ⟨ls.map fun o=>gi (pw ws k) o,?_,?_⟩
    .rw [hlm2,List.map_map]
     conv=>rhs;rw [<- sm ls,List.map_map]
     rfl
    .rw [show ((ls.map fun o=>gi (pw ws k) o).any id)=ls.any (fun o=>gi (pw ws k) o) by rw [List.any_map];rfl]
     walk_at "r"
     exact q
theorem t6:∀ds Q,cD ds Q->dg gP m9 ds Q:=fun ds Q h=>by
 unfold cD at h
 split at h
 .exact rd _ _ _ h
 .exact h.elim
def fL:PTS:=(aF (a6 (pCB zy (ae (pFz (dr [none,some 0,some 2] (dh (aP 1)) (au 0) (pB (bh aI (ae (pFz (pOp fIx (pSl 1) (pSl 2))) (ae (pFz (pOp fIx (pSl 1) (pSl 0))) am)))) (aP 0))) am)) (au 3)) (bH (Cq (ae (pFz (aP 2)) (ae (pFz (aP 3)) (ae (pFz (bh aY (ae (pFz (pOp fIx (pSl 0) (pSl 3))) (ae (pFz (pOp fIx (pSl 0) (pSl 2))) am)))) am))))))
theorem pX (ds ks:List D) (i:Int) (Q:PV->Prop) (h:bV ([.tup ds,.tup ks,.int i]) Q):dg fL ly ([.tup ds,.tup ks,.int i]) Q:=by
 show fL _ [some (.dat (.tup ds)),some (.dat (.tup ks)),some (.dat (.int i)),none]
 obtain ⟨ws,rfl,rfl,⟨hn,hw⟩,hi,q⟩:=h
 obtain ⟨k,rfl⟩:∃k:Nat,i=(k:Int):=⟨i.toNat,by omega⟩
 have hk:k < ws.length:=by omega
 rw [Int.toNat_natCast] at q
 have hkl:=jr ws
 have hkm:((aR ws).map nD).length=(aR ws).length:=List.length_map _
 walk_at "r"
 refine cfm (fun τ=>∃v,τ=[v,some (.dat (.tup (ws.map .str))),some (.dat (.int (k:Int)))]) (fun j=>if gi (pw ws k) (pw ws ((aR ws).getD j 0))=true then some (nD ((aR ws).getD j 0)) else none) ?_ ?_ ?_
 .exact ⟨_,rfl⟩
 .rintro j τ d hj ed ⟨v,rfl⟩ K1 K2 k1 k2
  have hj2:(aR ws).getD j 0 < ws.length:=gA (List.mem_of_getElem? (by rw [List.getD_eq_getElem?_getD,List.getElem?_eq_getElem (show j < (aR ws).length by omega)];rfl))
  rw [vM hj] at ed
  subst ed
  generalize (aR ws).getD j 0=z at hj2 k1 k2 ⊢
  walk_at "r"
  refine ⟨_,dU hk rfl,?_⟩
  walk_at "r"
  refine ⟨_,dU hj2 rfl,?_⟩
  walk_at "r"
  cases hc:gi (pw ws k) (pw ws z) with
  | true=>walk_at "r";exact k1 _ _ (by rw [if_pos hc];rfl) ⟨_,rfl⟩
  | false=>walk_at "r";exact k2 _ (by rw [if_neg (by rw [hc];decide)]) ⟨_,rfl⟩
 .rintro τ ⟨v,rfl⟩
  have e1:(List.range ((aR ws).map nD).length).filterMap (fun j=>if gi (pw ws k) (pw ws ((aR ws).getD j 0))=true then some (nD ((aR ws).getD j 0)) else none)=((ll ws k).map fun j=>((j:Nat):Int)).map D.int:=by
   rw [hkm,xK (fun j=>if gi (pw ws k) (pw ws j)=true then some (nD j) else none) (aR ws),cY (fun j=>gi (pw ws k) (pw ws j)) nD,List.map_map]
   rfl
  rw [e1]
  obtain ⟨h0,hh0⟩:=m3 hw hk
  walk_at "r"
  refine ⟨by rw [List.length_map];exact List.length_pos_of_mem hh0,fun m hm hle=>?_⟩
  obtain ⟨z,hz,rfl⟩:=List.mem_map.mp hm
  have hz2:z < ws.length:=gA (List.mem_filter.mp hz).1
  have hho:sk ws k=z:=vK hz fun a ha=>by have:=hle _ (List.mem_map_of_mem ha);omega
  walk_at "r"
  refine ⟨_,dU hz2 rfl,?_⟩
  walk_at "r"
  refine ⟨_,dU hk rfl,?_⟩
  walk_at "r"
  unfold ey at q
  rw [hho] at q
  exact q
theorem re:∀ds Q,bV ds Q->dg fL ly ds Q:=fun ds Q h=>by
 unfold bV at h
 split at h
 .exact pX _ _ _ _ h
 .exact h.elim
def dH:PTS:=(aF (gv (bh bi (ae (pFz (aP 1)) am))) (aF (lg "Family" [] "pieces" 0 (pCB gw (ae (pSl 1) am))) (aF (a6 (xr false (ae (pFz (pCB gb (ae (pFz (tK "Family" ["pieces"] 0 (pSl 0))) am))) am)) (au 2)) (aF (lg "Family" ["pieces"] "kept" 0 (pCB gw (ae (pFz (dr [none,some 0] (dh (aP 2)) (au 0) (pB (bh cD (ae (pFz (tK "Family" ["pieces"] 0 (pSl 1))) (ae (pFz (aP 0)) am)))) (aP 0))) am))) (aF (lg "Family" ["pieces","kept"] "words" 0 (pCB gw (ae (pFz (dr [none,some 0] (dh (tK "Family" ["pieces","kept"] 1 (pSl 0))) (au 0) k6 (pOp fIx (pFz (tK "Family" ["pieces","kept"] 0 (pSl 1))) (pSl 0)))) am))) (aF (lg "Family" ["pieces","kept","words"] "left" 0 (pCB gw (ae (pFz (dr [none,some 0] (dh (aP 2)) (au 0) (pB (pOp (Ar true) (pSl 0) (pFz (tK "Family" ["pieces","kept","words"] 1 (pSl 1))))) (bh bV (ae (pFz (tK "Family" ["pieces","kept","words"] 0 (pSl 1))) (ae (pFz (tK "Family" ["pieces","kept","words"] 1 (pSl 1))) (ae (pFz (aP 0)) am)))))) am))) (aF (lg "Family" ["pieces","kept","words","left"] "laps" 0 (bh ci (ae (pFz (tK "Family" ["pieces","kept","words","left"] 2 (pSl 0))) am))) (lg "Family" ["pieces","kept","words","left","laps"] "total" 0 (pCB tH (ae (pFz (dr [none] (dh (tK "Family" ["pieces","kept","words","left","laps"] 2 (pSl 0))) (au 0) k6 (pCB gb (ae (pSl 0) am)))) am))))))))))
theorem lM (d:D) (Q:PV->PV->Prop) (h:bp (.ins "Family" [] []) ([d]) Q):ug dH hG (.ins "Family" [] []) ([d]) Q:=by
 show dH _ [some (.ins "Family" [] []),some (.dat (d)),none]
 obtain ⟨ws,hd,⟨hn,hp⟩,q⟩:=h
 have hlm:(ws.map D.str).length=ws.length:=List.length_map _
 have hkl:=jr ws
 have hkm:((aR ws).map nD).length=(aR ws).length:=List.length_map _
 have hrl:(pE 0 (((ws.map D.str).length:Nat):Int).toNat).length=ws.length:=by rw [iw];omega
 have hk1:ws.length<=1000/\∀w∈ws,w.length<=10000:=⟨by omega,fun w hw=>by have:=(hp w hw).2.1;omega⟩
 have hk2:ws.length<=1000/\∀w∈ws,w.length<=60:=⟨by omega,fun w hw=>(hp w hw).2.1⟩
 walk_at "r"
 refine ⟨ws,hd,⟨hn,hp⟩,?_⟩
 rcases hd with rfl | rfl
 .walk_at "r"
  refine cfm (fun τ=>∃v,τ=[v,some (.ins "Family" ["pieces"] [.tup (ws.map .str)])]) (fun j=>if du ws j=true then some (nD j) else none) ?_ ?_ ?_
  .exact ⟨_,rfl⟩
  .rintro j τ d hj ed ⟨v,rfl⟩ K1 K2 k1 k2
   have hj2:j < ws.length:=by rw [iw] at hj;omega
   rw [jt hj] at ed
   subst ed
   walk_at "r"
   rw [Int.toNat_natCast]
   cases hc:du ws j with
   | true=>walk_at "r";exact k1 _ _ (by rw [if_pos hc];rfl) ⟨_,rfl⟩
   | false=>walk_at "r";exact k2 _ (by rw [if_neg (by rw [hc];decide)]) ⟨_,rfl⟩
  .rintro τ ⟨v,rfl⟩
   have e1:(List.range (pE 0 (((ws.map D.str).length:Nat):Int).toNat).length).filterMap (fun j=>if du ws j=true then some (nD j) else none)=(aR ws).map nD:=by
    rw [iw,hlm,Int.toNat_natCast,cY (du ws) nD];rfl
   rw [e1]
   walk_at "r"
   refine tM (fun τ=>∃v,τ=[v,some (.ins "Family" ["pieces","kept"] [.tup (ws.map .str),.tup ((aR ws).map nD)])]) (fun k=>.str (pw ws ((aR ws).getD k 0))) ?_ ?_ ?_
   .exact ⟨_,rfl⟩
   .rintro j τ d hj ed ⟨v,rfl⟩ K1 k1
    have hj2:(aR ws).getD j 0 < ws.length:=gA (List.mem_of_getElem? (by rw [List.getD_eq_getElem?_getD,List.getElem?_eq_getElem (show j < (aR ws).length by omega)];rfl))
    rw [vM hj] at ed
    subst ed
    walk_at "r"
    refine ⟨_,dU hj2 rfl,?_⟩
    walk_at "r"
    exact k1 _ ⟨_,rfl⟩
   .rintro τ ⟨v,rfl⟩
    have e2:(List.range ((aR ws).map nD).length).map (fun k=>D.str (pw ws ((aR ws).getD k 0)))=(az ws).map D.str:=by
     rw [hkm,fA (fun j=>D.str (pw ws j)) (aR ws)]
     unfold az
     rw [List.map_map];rfl
    rw [e2]
    have hwl:=fg ws
    have hwm:((az ws).map D.str).length=(az ws).length:=List.length_map _
    have hwp:=gN hp
    have hwq:(az ws).length<=1000/\∀w∈az ws,0 < w.length/\w.length<=10000:=⟨by omega,fun w hw=>⟨(hwp w hw).1,by have:=(hwp w hw).2.1;omega⟩⟩
    have hfl:((aR ws).map nD).all D.fl=true:=BV _
    walk_at "r"
    refine cfm (fun τ=>∃v,τ=[v,some (.ins "Family" ["pieces","kept","words"] [.tup (ws.map .str),.tup ((aR ws).map nD),.tup ((az ws).map .str)])]) (fun j=>if (!decide (j∈aR ws))=true then some (ey ws j) else none) ?_ ?_ ?_
    .exact ⟨_,rfl⟩
    .rintro j τ d hj ed ⟨v,rfl⟩ K1 K2 k1 k2
     have hj2:j < ws.length:=by omega
     rw [jt hj] at ed
     subst ed
     have hin:=vN j (aR ws)
     walk_at "r"
     refine ji (rX (fun c=>?_) (fun c=>?_))
     .have c:inD (.int (j:Int)) ((aR ws).map nD)=true:=c
      rw [hin] at c
      exact k2 _ (by rw [c];rfl) ⟨_,rfl⟩
     .have c:inD (.int (j:Int)) ((aR ws).map nD)=false:=c
      rw [hin] at c
      walk_at "r"
      rw [Int.toNat_natCast]
      exact k1 _ _ (by rw [c];rfl) ⟨_,rfl⟩
    .rintro τ ⟨v,rfl⟩
     have e3:(List.range (pE 0 (((ws.map D.str).length:Nat):Int).toNat).length).filterMap (fun j=>if (!decide (j∈aR ws))=true then some (ey ws j) else none)=(vJ ws).map (ey ws):=by
      rw [hrl,cY (fun j=>!decide (j∈aR ws)) (ey ws)];rfl
     rw [e3]
     walk_at "r"
     refine tM (fun τ=>∃v,τ=[v]) (fun k=>.int ((pw (az ws) k).length:Int)) ?_ ?_ ?_
     .exact ⟨_,rfl⟩
     .rintro j τ d hj ed ⟨v,rfl⟩ K1 k1
      rw [gy hj] at ed
      subst ed
      walk_at "r"
      exact k1 _ ⟨_,rfl⟩
     .rintro τ ⟨v,rfl⟩
      have e4:(List.range ((az ws).map D.str).length).map (fun k=>D.int ((pw (az ws) k).length:Int))=((az ws).map fun w=>(w.length:Int)).map D.int:=by
       rw [hwm,List.map_map]
       conv=>rhs;rw [<- sm (az ws),List.map_map]
       rfl
      rw [e4]
      walk_at "r"
      exact q
 .walk_at "r"
  refine cfm (fun τ=>∃v,τ=[v,some (.ins "Family" ["pieces"] [.tup (ws.map .str)])]) (fun j=>if du ws j=true then some (nD j) else none) ?_ ?_ ?_
  .exact ⟨_,rfl⟩
  .rintro j τ d hj ed ⟨v,rfl⟩ K1 K2 k1 k2
   have hj2:j < ws.length:=by rw [iw] at hj;omega
   rw [jt hj] at ed
   subst ed
   walk_at "r"
   rw [Int.toNat_natCast]
   cases hc:du ws j with
   | true=>walk_at "r";exact k1 _ _ (by rw [if_pos hc];rfl) ⟨_,rfl⟩
   | false=>walk_at "r";exact k2 _ (by rw [if_neg (by rw [hc];decide)]) ⟨_,rfl⟩
  .rintro τ ⟨v,rfl⟩
   have e1:(List.range (pE 0 (((ws.map D.str).length:Nat):Int).toNat).length).filterMap (fun j=>if du ws j=true then some (nD j) else none)=(aR ws).map nD:=by
    rw [iw,hlm,Int.toNat_natCast,cY (du ws) nD];rfl
   rw [e1]
   walk_at "r"
   refine tM (fun τ=>∃v,τ=[v,some (.ins "Family" ["pieces","kept"] [.tup (ws.map .str),.tup ((aR ws).map nD)])]) (fun k=>.str (pw ws ((aR ws).getD k 0))) ?_ ?_ ?_
   .exact ⟨_,rfl⟩
   .rintro j τ d hj ed ⟨v,rfl⟩ K1 k1
    have hj2:(aR ws).getD j 0 < ws.length:=gA (List.mem_of_getElem? (by rw [List.getD_eq_getElem?_getD,List.getElem?_eq_getElem (show j < (aR ws).length by omega)];rfl))
    rw [vM hj] at ed
    subst ed
    walk_at "r"
    refine ⟨_,dU hj2 rfl,?_⟩
    walk_at "r"
    exact k1 _ ⟨_,rfl⟩
   .rintro τ ⟨v,rfl⟩
    have e2:(List.range ((aR ws).map nD).length).map (fun k=>D.str (pw ws ((aR ws).getD k 0)))=(az ws).map D.str:=by
     rw [hkm,fA (fun j=>D.str (pw ws j)) (aR ws)]
     unfold az
     rw [List.map_map];rfl
    rw [e2]
    have hwl:=fg ws
    have hwm:((az ws).map D.str).length=(az ws).length:=List.length_map _
    have hwp:=gN hp
    have hwq:(az ws).length<=1000/\∀w∈az ws,0 < w.length/\w.length<=10000:=⟨by omega,fun w hw=>⟨(hwp w hw).1,by have:=(hwp w hw).2.1;omega⟩⟩
    have hfl:((aR ws).map nD).all D.fl=true:=BV _
    walk_at "r"
    refine cfm (fun τ=>∃v,τ=[v,some (.ins "Family" ["pieces","kept","words"] [.tup (ws.map .str),.tup ((aR ws).map nD),.tup ((az ws).map .str)])]) (fun j=>if (!decide (j∈aR ws))=true then some (ey ws j) else none) ?_ ?_ ?_
    .exact ⟨_,rfl⟩
    .rintro j τ d hj ed ⟨v,rfl⟩ K1 K2 k1 k2
     have hj2:j < ws.length:=by omega
     rw [jt hj] at ed
     subst ed
     have hin:=vN j (aR ws)
     walk_at "r"
     refine ji (rX (fun c=>?_) (fun c=>?_))
     .have c:inD (.int (j:Int)) ((aR ws).map nD)=true:=c
      rw [hin] at c
      exact k2 _ (by rw [c];rfl) ⟨_,rfl⟩
     .have c:inD (.int (j:Int)) ((aR ws).map nD)=false:=c
      rw [hin] at c
      walk_at "r"
      rw [Int.toNat_natCast]
      exact k1 _ _ (by rw [c];rfl) ⟨_,rfl⟩
    .rintro τ ⟨v,rfl⟩
     have e3:(List.range (pE 0 (((ws.map D.str).length:Nat):Int).toNat).length).filterMap (fun j=>if (!decide (j∈aR ws))=true then some (ey ws j) else none)=(vJ ws).map (ey ws):=by
      rw [hrl,cY (fun j=>!decide (j∈aR ws)) (ey ws)];rfl
     rw [e3]
     walk_at "r"
     refine tM (fun τ=>∃v,τ=[v]) (fun k=>.int ((pw (az ws) k).length:Int)) ?_ ?_ ?_
     .exact ⟨_,rfl⟩
     .rintro j τ d hj ed ⟨v,rfl⟩ K1 k1
      rw [gy hj] at ed
      subst ed
      walk_at "r"
      exact k1 _ ⟨_,rfl⟩
     .rintro τ ⟨v,rfl⟩
      have e4:(List.range ((az ws).map D.str).length).map (fun k=>D.int ((pw (az ws) k).length:Int))=((az ws).map fun w=>(w.length:Int)).map D.int:=by
       rw [hwm,List.map_map]
       conv=>rhs;rw [<- sm (az ws),List.map_map]
       rfl
      rw [e4]
      walk_at "r"
      exact q
theorem mw:∀p ds Q,p.isOwn=true->bp p ds Q->ug dH hG p ds Q:=fun p ds Q _ h=>by
 unfold bp at h
 split at h
 .exact lM _ _ h
 .exact h.elim
def dI:PTS:=(bH (pCB gb (ae (pFz (tK "Family" ["pieces","kept","words","left","laps","total"] 2 (pSl 0))) am)))
theorem lN (c:Str) (ns:List Str) (fs:List D) (Q:PV->Prop) (h:bq ([.obj c ns fs]) Q):dg dI hU ([.obj c ns fs]) Q:=by
 show dI _ [some (.dat (.obj c ns fs))]
 obtain ⟨rfl,rfl,ws,rfl,q⟩:=h
 walk_at "r"
 rw [List.length_map]
 exact q
theorem mx:∀ds Q,bq ds Q->dg dI hU ds Q:=fun ds Q h=>by
 unfold bq at h
 split at h
 .exact lN _ _ _ _ h
 .exact h.elim
def fM:PTS:=(aF (a6 (pOp cP (pFz (pCB qJ (ae (pSl 0) am))) (pFz (pOp ve (pFz (eE (ae (pFz (pC (.int 0))) am))) (pFz (pCB vx (ae (pFz (pOp uh (pFz (pCB gb (ae (pSl 0) am))) (pFz (pC (.int 0))))) am)))))) (au 2)) (aF (a6 (dr [none] (dh (aP 2)) (au 0) k6 (pOp ve (pSl 0) (pFz (pCB vx (ae (pFz (pOp fGe (pSl 0) (pFz (pOp zH (pFz (pC (.int 10))) (pFz (pC (.int 18))))))) am))))) (au 3)) (aF (a6 (eE am) (au 4)) (aF (gc (r0 (ae (pFz (aP 1)) am)) (au 5) (aF (a6 (pOp jn (pSl 5) (pFz (pCB gb (ae (pSl 2) am)))) (au 6)) (aF (a6 (pOp cP (pFz (pOp ve (pFz (pOp jn (pFz (pOp cP (pFz (pOp cP (pFz (pOp fIx (pSl 2) (pSl 6))) (pFz (pOp ve (pFz (pOp ve (pSl 5) (pSl 5))) (pFz (pC (.int 16807))))))) (pFz (pOp ve (pFz (pC (.int 3))) (pSl 5))))) (pFz (pC (.int 2147483629))))) (pFz (pOp fIx (pFz (eE (ae (pFz (pC (.int 48271))) (ae (pFz (pC (.int 69621))) (ae (pFz (pC (.int 39373))) (ae (pFz (pC (.int 16807))) am)))))) (pFz (pOp jn (pSl 5) (pFz (pC (.int 4))))))))) (pFz (pC (.int 7)))) (au 7)) (aF (gv (vk 4 (pOp fIx (pFz (eE (ae (pFz (pOp jn (pFz (pOp ve (pSl 7) (pSl 7))) (pFz (pC (.int 2147483629))))) (ae (pFz (pOp jn (pFz (pOp fIx (pSl 3) (pSl 6))) (pFz (pOp zH (pFz (pC (.int 10))) (pFz (pC (.int 18))))))) am)))) (pFz (pCB vx (ae (pFz (pOp tN (pFz (pOp fIx (pSl 3) (pSl 6))) (pFz (pC (.int 0))))) am)))))) (sd 3 (pOp B5 (pFz (pOp fIx (pSl 3) (pSl 6))) (pFz (pOp zH (pFz (pC (.int 10))) (pFz (pC (.int 18)))))) (aP 6)))))) (bH (sf (pSl 4)))))))
theorem pY (ns:List Int) (mo:Int) (Q:PV->Prop) (h:cj ([.scr ns,.int mo]) Q):dg fM lA ([.scr ns,.int mo]) Q:=by
 show fM _ [some (.dat (.scr ns)),some (.dat (.int mo)),none,none,none,none,none,none]
 obtain ⟨⟨hn,h0,h1⟩,q⟩:=h
 have hnm:(ns.map D.int).length=ns.length:=List.length_map _
 walk_at "r"
 obtain ⟨cs,hcs,hc0,hc1⟩:∃cs:List Int,ns.map D.int++uc [D.int 0] (if decide ((ns.length:Int)=0)=true then 1 else 0)=cs.map D.int/\0 < cs.length/\cs.length<=65:=by
  by_cases e:ns.length=0
  .refine ⟨[0],?_,by decide,by decide⟩
   rw [if_pos (decide_eq_true (by omega)),List.length_eq_zero_iff.mp e];rfl
  .refine ⟨ns,?_,by omega,by omega⟩
   rw [if_neg (fun z=>e (by have:=of_decide_eq_true z;omega))]
   exact List.append_nil _
 have hcm:(cs.map D.int).length=cs.length:=List.length_map _
 rw [<- List.length_append,hcs,hcm]
 refine ⟨by omega,?_⟩
 walk_at "r"
 refine cm1 (fun c:Int=>.int (c * (if decide (c >= 10 ^ 18)=true then 1 else 0))) (fun c hc v K1 k1=>?_) (fun v=>?_)
 .walk_at "r"
  exact k1 _
 .walk_at "r"
  have e3:cs.map (fun c=>D.int (c * if decide (c >= 10 ^ 18)=true then 1 else 0))=(cs.map fun c=>c * if decide (c >= 10 ^ 18)=true then 1 else 0).map D.int:=by rw [List.map_map];rfl
  rw [e3]
  generalize hrs:(cs.map fun c=>c * if decide (c >= 10 ^ 18)=true then 1 else 0)=rs
  have hrl:rs.length=cs.length:=by rw [<- hrs,List.length_map]
  clear hrs e3
  refine ⟨fun k ρ=>∃(rs zs:List Int) (v5 v6 v7:Option PV),rs.length=cs.length/\Dk zs/\zs.length=k/\ρ=[some (.dat (.scr ns)),some (.dat (.int mo)),some (.dat (.lst (cs.map .int))),some (.own (rs.map .int)),some (.own (zs.map .int)),v5,v6,v7],⟨rs,[],_,_,_,hrl,(fun x hx=>nomatch hx),rfl,rfl⟩,?_,?_⟩
  .rintro k ρ _ hk rfl ⟨rs,zs,v5,v6,v7,hrl,hz,hzl,rfl⟩
   have hk:k < mo.toNat:=hk
   have hrm:(rs.map D.int).length=rs.length:=List.length_map _
   have hzm:(zs.map D.int).length=zs.length:=List.length_map _
   obtain ⟨j,hj⟩:∃j:Nat,(k:Int) % (cs.length:Int)=(j:Int):=⟨((k:Int) % (cs.length:Int)).toNat,by have:=Int.emod_nonneg (k:Int) (show (cs.length:Int)≠0 by omega);omega⟩
   have hj2:j < cs.length:=by have:=Int.emod_lt_of_pos (k:Int) (show 0 < (cs.length:Int) by omega);omega
   obtain ⟨i,hi,hi2⟩:∃i:Nat,(k:Int) % 4=(i:Int)/\i < 4:=⟨((k:Int) % 4).toNat,by omega,by omega⟩
   obtain ⟨f,ef,hf0,hf1⟩:∃f:Int,atI ([.int 48271,.int 69621,.int 39373,.int 16807]:List D) (i:Int)=some (.int f)/\0<=f/\f<=69621:=by
    rcases i with _ | _ | _ | _ | i
    .exact ⟨_,rfl,by decide,by decide⟩
    .exact ⟨_,rfl,by decide,by decide⟩
    .exact ⟨_,rfl,by decide,by decide⟩
    .exact ⟨_,rfl,by decide,by decide⟩
    .omega
   have ec:atI (cs.map D.int) (j:Int)=some (.int cs[j]):=fb (j:=j) (by rw [List.getElem?_map,List.getElem?_eq_getElem hj2];rfl) rfl
   have er:atI (rs.map D.int) (j:Int)=some (.int (rs[j]'(by omega))):=fb (j:=j) (by rw [List.getElem?_map,List.getElem?_eq_getElem (by omega)];rfl) rfl
   generalize rs[j]'(by omega)=r at er
   walk_at "r"
   rw [hcm,hj]
   walk_at "r"
   refine ⟨_,ec,?_⟩
   walk_at "r"
   rw [hi]
   refine ⟨_,ef,?_⟩
   have hb:∀a:Int,0<=a % 2147483629 * f + 7/\a % 2147483629 * f + 7<=2147483629 * 69621 + 7:=fun a=>⟨by have:=Int.mul_nonneg (Int.emod_nonneg a (show (2147483629:Int)≠0 by decide)) hf0;omega,by have:=Int.mul_le_mul (Int.le_of_lt (Int.emod_lt_of_pos a (show (0:Int) < 2147483629 by decide))) hf1 hf0 (by decide);omega⟩
   have hb:=hb (cs[j] + (k:Int) * (k:Int) * 16807 + 3 * (k:Int))
   have p18:(0:Int) < 10 ^ Int.toNat 18:=by decide
   have p18b:(10:Int) ^ Int.toNat 18 < 18446744073709551616:=by decide
   have q18:((10:Int) ^ Int.toNat 18)=1000000000000000000:=by decide
   walk_at "r"
   generalize (cs[j] + (k:Int) * (k:Int) * 16807 + 3 * (k:Int)) % 2147483629 * f + 7=x at hb
   refine ⟨_,er,?_⟩
   walk_at "r"
   refine ⟨_,er,?_⟩
   walk_at "r"
   have fin:∀z:Int,0<=z->z < 1000000000000000000->∃(rs' zs':List Int) (v5 v6 v7:Option PV),rs'.length=cs.length/\Dk zs'/\zs'.length=k + 1/\[some (.dat (.scr ns)),some (.dat (.int mo)),some (.dat (.lst (cs.map .int))),some (.own ((rs.map D.int).set j (.int (r / 10 ^ Int.toNat 18)))),some (.own (zs.map D.int++[.int z])),some (.dat (.int (k:Int))),some (.dat (.int (j:Int))),some (.dat (.int x))]=[some (PV.dat (.scr ns)),some (.dat (.int mo)),some (.dat (.lst (cs.map .int))),some (.own (rs'.map .int)),some (.own (zs'.map .int)),v5,v6,v7]:=fun z hz0 hz1=>by
    refine ⟨rs.set j (r / 10 ^ Int.toNat 18),zs++[z],_,_,_,by rw [List.length_set];exact hrl,fun y hy=>?_,by rw [List.length_append,hzl];rfl,by rw [List.map_set,List.map_append];rfl⟩
    rcases List.mem_append.mp hy with w | w
    .exact hz y w
    .rw [List.mem_singleton.mp w];exact ⟨hz0,hz1⟩
   obtain ⟨z,ez,hz0,hz1⟩:∃z:Int,atI ([.int (x * x % 2147483629),.int (r % 10 ^ Int.toNat 18)]:List D) (if (!decide (r=0))=true then 1 else 0)=some (.int z)/\0<=z/\z < 1000000000000000000:=by
    by_cases e:r=0
    .rw [decide_eq_true e]
     exact ⟨x * x % 2147483629,rfl,Int.emod_nonneg _ (by decide),Int.lt_trans (Int.emod_lt_of_pos _ (by decide)) (by decide)⟩
    .rw [decide_eq_false e]
     exact ⟨r % 10 ^ Int.toNat 18,rfl,Int.emod_nonneg _ (by decide),Int.lt_of_lt_of_le (Int.emod_lt_of_pos _ p18) (by rw [q18];decide)⟩
   refine ⟨_,ez,?_⟩
   walk_at "r"
   refine ⟨_,er,?_⟩
   walk_at "r"
   refine ⟨j,?_,fin z hz0 hz1⟩
   rw [hrm,hrl]
   exact D2 hj2
  .rintro ρ ⟨rs,zs,v5,v6,v7,hrl,hz,hzl,rfl⟩
   walk_at "r"
   rw [<- List.map_reverse]
   exact q _ (fun x hx=>hz x (List.mem_reverse.mp hx)) (by rw [List.length_reverse];exact hzl)
theorem rf:∀ds Q,cj ds Q->dg fM lA ds Q:=fun ds Q h=>by
 unfold cj at h
 split at h
 .exact pY _ _ _ h
 .exact h.elim
def fN:PTS:=(bH (Dj 0))
theorem pZ (ds:List D) (Q:PV->PV->Prop) (h:aG (.own ds) ([]) Q):ug fN lB (.own ds) ([]) Q:=by
 show fN _ [some (.own ds)]
 obtain ⟨zs,rfl,⟨hz,h0,h1⟩,q⟩:=h
 obtain ⟨ys,z,rfl⟩:∃ys z,zs=ys++[z]:=⟨zs.dropLast,zs.getLast (List.ne_nil_of_length_pos h0),(List.dropLast_concat_getLast _).symm⟩
 have hm:((ys++[z]).map D.int)=ys.map D.int++[D.int z]:=by rw [List.map_append];rfl
 have hl:(ys.map D.int++[D.int z]).length - 1=(ys.map D.int).length:=by rw [List.length_append];rfl
 rw [hm]
 walk_at "r"
 refine ⟨.int z,by rw [hl,List.getElem?_append_right (Nat.le_refl _),Nat.sub_self];rfl,?_⟩
 walk_at "r"
 rw [List.dropLast_concat]
 have hzz:=hz z (List.mem_append_right _ (List.mem_singleton.mpr rfl))
 exact q z ys hzz.1 hzz.2 (fun x hx=>hz x (List.mem_append_left _ hx)) (by rw [List.length_append];rfl)
theorem rh:∀p ds Q,p.isOwn=true->aG p ds Q->ug fN lB p ds Q:=fun p ds Q _ h=>by
 unfold aG at h
 split at h
 .exact pZ _ _ h
 .exact h.elim
def fO:PTS:=(aF (gc (r0 (ae (pFz (aP 2)) am)) (au 3) (jS (pB (pOp tN (pFz (pOp fIx (pSl 0) (pFz (pOp cP (pFz (pOp xw (pFz (pCB gb (ae (pSl 0) am))) (pSl 2))) (pSl 3))))) (pFz (pOp fIx (pSl 1) (pSl 3))))) (bH (pC (.bl false))) cF)) (bH (pC (.bl true))))
theorem p5 (a b:List Nat) (k:Int) (Q:PV->Prop) (h:ck ([.str a,.str b,.int k]) Q):dg fO lC ([.str a,.str b,.int k]) Q:=by
 show fO _ [some (.dat (.str a)),some (.dat (.str b)),some (.dat (.int k)),none]
 obtain ⟨n,rfl,⟨⟨ha,ha1⟩,hb,hb1⟩,q⟩:=h
 walk_at "r"
 rw [Int.toNat_natCast]
 refine ⟨fun i ρ=>(∃v3:Option PV,ρ=[some (.dat (.str a)),some (.dat (.str b)),some (.dat (.int (n:Int))),v3])/\∀j,j < i->a.getD (a.length - n + j) 0=b.getD j 0,⟨⟨_,rfl⟩,fun j hj=>absurd hj (Nat.not_lt_zero _)⟩,?_,?_⟩
 .rintro i ρ _ hi rfl ⟨⟨v3,rfl⟩,ih⟩
  have h1:a.length - n + i < a.length:=by omega
  have h2:i < b.length:=by omega
  walk_at "r"
  refine ⟨_,fb (j:=a.length - n + i) (List.getElem?_eq_getElem h1) (by omega),?_⟩
  walk_at "r"
  refine ⟨_,fb (j:=i) (List.getElem?_eq_getElem h2) rfl,?_⟩
  walk_at "r"
  have g1:a.getD (a.length - n + i) 0=a[a.length - n + i]:=by rw [List.getD_eq_getElem?_getD,List.getElem?_eq_getElem h1];rfl
  have g2:b.getD i 0=b[i]:=by rw [List.getD_eq_getElem?_getD,List.getElem?_eq_getElem h2];rfl
  refine kU (fun c=>?_) (fun c=>?_)
  .walk_at "r"
   rw [decide_eq_false (fun z=>c (by rw [<- g1,<- g2,(wj ha hb).mp z i hi]))] at q
   exact q
  .refine ⟨⟨_,rfl⟩,fun j hj=>?_⟩
   by_cases e:j < i
   .exact ih j e
   .rw [show j=i by omega,g1,g2];exact List.singleton_inj.mp c
 .rintro ρ ⟨⟨v3,rfl⟩,ih⟩
  walk_at "r"
  rw [decide_eq_true ((wj ha hb).mpr ih)] at q
  exact q
theorem rj:∀ds Q,ck ds Q->dg fO lC ds Q:=fun ds Q h=>by
 unfold ck at h
 split at h
 .exact p5 _ _ _ _ h
 .exact h.elim
def gQ:PTS:=(aF (gc (DW (ae (pFz (pCB xq (ae (pFz (pCB gb (ae (pSl 0) am))) (ae (pFz (pCB gb (ae (pSl 1) am))) am)))) am)) (au 2) (jS (pB (bh ck (ae (pFz (aP 0)) (ae (pFz (aP 1)) (ae (pFz (aP 2)) am))))) (bH (aP 2)) cF)) (bH (pC (.int 0))))
theorem rk (a b:List Nat) (Q:PV->Prop) (h:aT ([.str a,.str b]) Q):dg gQ ng ([.str a,.str b]) Q:=by
 show gQ _ [some (.dat (.str a)),some (.dat (.str b)),none]
 obtain ⟨⟨a0,a1⟩,⟨b0,b1⟩,q⟩:=h
 have hm:(if (b.length:Int) < (a.length:Int) then (b.length:Int) else (a.length:Int))=((min a.length b.length:Nat):Int):=by split <;> omega
 walk_at "r"
 rw [hm,Int.toNat_natCast]
 refine ⟨fun i ρ=>(∃v2:Option PV,ρ=[some (.dat (.str a)),some (.dat (.str b)),v2])/\∀j,min a.length b.length - i<=j->j < min a.length b.length->¬ b.take j <:+ a,⟨⟨_,rfl⟩,fun j h1 h2=>by omega⟩,?_,?_⟩
 .rintro i ρ d hi ed ⟨⟨v2,rfl⟩,ih⟩
  obtain ⟨k,hk,hk2⟩:∃k:Nat,(((min a.length b.length:Nat):Int) - 1) - (i:Int)=(k:Int)/\k=min a.length b.length - 1 - i:=⟨min a.length b.length - 1 - i,by omega,rfl⟩
  rw [hk] at ed
  subst ed
  have gf:(k<=a.length/\a.length<=10000)/\k<=b.length/\b.length<=10000:=⟨⟨by omega,a1⟩,by omega,b1⟩
  walk_at "r"
  refine eo (fun c=>?_) (fun c=>?_)
  .walk_at "r"
   rw [show eH a b=k from qS ⟨by omega,c,fun j h1 h2=>by
    rcases Nat.lt_or_ge k j with h | h
    .exact absurd h2 (ih j (by omega) h1)
    .exact h⟩] at q
   exact q
  .refine ⟨⟨_,rfl⟩,fun j h1 h2=>?_⟩
   by_cases hj:j=k
   .rw [hj];exact c
   .exact ih j (by omega) h2
 .rintro ρ ⟨⟨v2,rfl⟩,ih⟩
  exact absurd (show b.take 0 <:+ a by rw [List.take_zero];exact List.nil_suffix) (ih 0 (by omega) (by omega))
theorem t7:∀ds Q,aT ds Q->dg gQ ng ds Q:=fun ds Q h=>by
 unfold aT at h
 split at h
 .exact rk _ _ _ h
 .exact h.elim
def fP:PTS:=(aF (a6 (eE am) (au 1)) (aF (gc (r0 (ae (pFz (pCB gb (ae (pSl 0) am))) am)) (au 2) (aF (a6 (dr [none,some 0,some 2] (dh (aP 0)) (au 0) (zj (pB (pOp fGt (pFz (pCB gb (ae (pSl 0) am))) (pFz (pCB gb (ae (pFz (pOp fIx (pSl 1) (pSl 2))) am))))) (pB (pOp (Ar false) (pFz (pOp fIx (pSl 1) (pSl 2))) (pSl 0)))) (aP 0)) (au 3)) (jS (zj (pB (pOp uh (pSl 3) (pFz (eE am)))) (pB (pOp (Ar true) (pFz (pOp fIx (pSl 0) (pSl 2))) (pFz (dN (pSl 0) eJ (df (aP 2))))))) (gv (vk 1 (pOp fIx (pSl 0) (pSl 2)))) cF))) (bH (aP 1))))
theorem p6 (ds:List D) (Q:PV->Prop) (h:bN ([.lst ds]) Q):dg fP lD ([.lst ds]) Q:=by
 show fP _ [some (.dat (.lst ds)),none,none,none]
 obtain ⟨ps,rfl,⟨hn,hw⟩,q⟩:=h
 have hlm:(ps.map D.str).length=ps.length:=List.length_map _
 walk_at "r"
 rw [Int.toNat_natCast,hlm]
 refine ⟨fun k ρ=>∃v2 v3:Option PV,ρ=[some (.dat (.lst (ps.map .str))),some (.own ((((List.range k).filter (du ps)).map (pw ps)).map .str)),v2,v3],⟨_,_,rfl⟩,?_,?_⟩
 .rintro k ρ _ hk rfl ⟨v2,v3,rfl⟩
  have hpm:=iU hk
  obtain ⟨hpl,hpL⟩:=hw _ hpm
  have hat:atI (ps.map D.str) (k:Int)=some (.str (pw ps k)):=dU hk rfl
  have hml:((((List.range k).filter (du ps)).map (pw ps)).map D.str).length<=40:=by
   rw [List.length_map,List.length_map]
   refine Nat.le_trans (List.length_filter_le ..) ?_
   rw [List.length_range];omega
  walk_at "r"
  refine cf1 (fun o=>decide ((pw ps k).length < o.length) && gi (pw ps k) o) (fun o=>.str o) (fun o ho v K1 K2 k1 k2=>?_) (fun v=>?_)
  .walk_at "r"
   refine ⟨_,hat,?_⟩
   walk_at "r"
   refine eo (fun c=>?_) (fun c=>?_)
   .walk_at "r"
    refine ⟨_,hat,?_⟩
    walk_at "r"
    cases hs:gi (pw ps k) o with
    | true=>exact k1 _ (by rw [decide_eq_true (by omega:(pw ps k).length < o.length)];exact hs)
    | false=>exact k2 _ (by rw [hs,Bool.and_false])
   .exact k2 _ (by rw [decide_eq_false (by omega:¬ (pw ps k).length < o.length),Bool.false_and])
  .have c1:eC (ps.map D.str) none (some (k:Int))=(ps.take k).map D.str:=by rw [jd,List.map_take]
   have hfl:(eC (ps.map D.str) none (some (k:Int))).all D.fl=true:=by rw [c1];exact vO _
   have hin:inD (.str (pw ps k)) (eC (ps.map D.str) none (some (k:Int)))=decide (pw ps k∈ps.take k):=by rw [c1];exact nQ _ _
   have eF:=qY (ws:=ps.filter fun o=>decide ((pw ps k).length < o.length) && gi (pw ps k) o) fun w h=>(hw w (List.mem_filter.mp h).1).2
   have eD:=pT (ps.filter fun o=>decide ((pw ps k).length < o.length) && gi (pw ps k) o)
   have hkb:=Ac (ps:=ps) (k:=k)
   have hrs:((List.range (k + 1)).filter (du ps)).map (pw ps)=((List.range k).filter (du ps)).map (pw ps)++(if du ps k=true then [pw ps k] else []):=by
    rw [List.range_succ,List.filter_append,List.map_append]
    congr 1
    rw [List.filter_cons]
    split <;> rfl
   rw [hrs]
   generalize ((List.range k).filter (du ps)).map (pw ps)=ks at hml ⊢
   have hk1:(ks.map D.str).length<=40:=hml
   walk_at "r"
   rw [eD]
   refine eo (fun c=>?_) (fun c=>?_)
   .walk_at "r"
    refine ⟨_,hat,?_⟩
    walk_at "r"
    rw [hin]
    refine ji (rX (fun c2=>?_) (fun c2=>?_))
    .walk_at "r"
     have e:du ps k=false:=by rw [hkb,c2,Bool.not_true,Bool.and_false]
     exact ⟨_,_,by rw [e,if_neg (by decide),List.append_nil]⟩
    .walk_at "r"
     refine ⟨_,hat,?_⟩
     walk_at "r"
     have e:du ps k=true:=by rw [hkb,c2,decide_eq_true c];rfl
     exact ⟨_,_,by rw [e,if_pos rfl,List.map_append];rfl⟩
   .walk_at "r"
    have e:du ps k=false:=by rw [hkb,decide_eq_false c,Bool.false_and]
    exact ⟨_,_,by rw [e,if_neg (by decide),List.append_nil]⟩
 .rintro ρ ⟨v2,v3,rfl⟩
  walk_at "r"
  exact q
theorem rl:∀ds Q,bN ds Q->dg fP lD ds Q:=fun ds Q h=>by
 unfold bN at h
 split at h
 .exact p6 _ _ h
 .exact h.elim
def dJ:PTS:=(aF (a6 (pC (.str [])) (au 2)) (aF (qH (zj (pB (pOp fGt (pSl 0) (pFz (pC (.int 0))))) (pB (pOp fLt (pFz (pCB gb (ae (pSl 2) am))) (pFz (pC (.int 9)))))) (aF (a6 (pOp cP (pSl 2) (pFz (pOp fIx (pSl 1) (pFz (pOp jn (pSl 0) (pFz (pCB gb (ae (pSl 1) am)))))))) (au 2)) (a6 (pOp uf (pSl 0) (pFz (pCB gb (ae (pSl 1) am)))) (au 0)))) (bH (aP 2))))
theorem lO (z:Int) (ls:List Nat) (Q:PV->Prop) (h:aQ ([.int z,.str ls]) Q):dg dJ hV ([.int z,.str ls]) Q:=by
 show dJ _ [some (.dat (.int z)),some (.dat (.str ls)),none]
 obtain ⟨⟨hz,hl0,hl1⟩,q⟩:=h
 walk_at "r"
 refine ⟨fun m ρ=>∃(w:List Nat) (r:Int),w.length<=9/\(∀c∈w,c∈ls)/\0<=r/\(0 < w.length\/r=z)/\m=9 - w.length/\ρ=[some (.dat (.int r)),some (.dat (.str ls)),some (.dat (.str w))],⟨_,[],z,by decide,(fun c hc=>nomatch hc),hz,.inr rfl,rfl,rfl⟩,?_⟩
 rintro m ρ ⟨w,r,hw,hc,hr,hp,hm,rfl⟩
 walk_at "r"
 refine eo (fun c1=>?_) (fun c1=>?_)
 .walk_at "r"
  refine eo (fun c2=>?_) (fun c2=>?_)
  .obtain ⟨j,hj⟩:∃j:Nat,r % (ls.length:Int)=(j:Int):=⟨(r % (ls.length:Int)).toNat,by have:=Int.emod_nonneg r (show (ls.length:Int)≠0 by omega);omega⟩
   have hj2:j < ls.length:=by have:=Int.emod_lt_of_pos r (show 0 < (ls.length:Int) by omega);omega
   have hdv:0<=r / (ls.length:Int):=Int.ediv_nonneg hr (by omega)
   walk_at "r"
   rw [hj]
   refine ⟨_,fb (j:=j) (List.getElem?_eq_getElem hj2) rfl,?_⟩
   walk_at "r"
   refine ⟨_,?_,w++[ls[j]],r / (ls.length:Int),?_,fun c hx=>?_,hdv,.inl ?_,rfl,rfl⟩
   .rw [List.length_append];show 9 - (w.length + 1) < m;omega
   .rw [List.length_append];show w.length + 1<=9;omega
   .rcases List.mem_append.mp hx with x | x
    .exact hc c x
    .rw [List.mem_singleton.mp x];exact List.getElem_mem hj2
   .rw [List.length_append];exact Nat.succ_pos _
  .walk_at "r"
   exact q w hw hc (fun a=>by omega)
 .walk_at "r"
  exact q w hw hc (fun a=>by omega)
theorem my:∀ds Q,aQ ds Q->dg dJ hV ds Q:=fun ds Q h=>by
 unfold aQ at h
 split at h
 .exact lO _ _ _ h
 .exact h.elim
def eR:PTS:=(aF (a6 (pOp fIx (pFz (eE (ae (pFz (pC (.str [97,98]))) (ae (pFz (pC (.str [97,98]))) (ae (pFz (pC (.str [97,98,99]))) (ae (pFz (pC (.str [120,121,122,97,98]))) am)))))) (pFz (pOp jn (pFz (cX aG 0 am)) (pFz (pC (.int 4)))))) (au 2)) (aF (a6 (bh aQ (ae (pFz (pOp cP (pFz (cX aG 0 am)) (pFz (pOp zH (pFz (pC (.int 10))) (pFz (pC (.int 9))))))) (ae (pFz (aP 2)) am))) (au 3)) (aF (a6 (pOp cP (pSl 3) (pFz (bh aQ (ae (pFz (pOp cP (pFz (cX aG 0 am)) (pFz (pOp zH (pFz (pC (.int 10))) (pFz (pC (.int 9))))))) (ae (pFz (aP 2)) am))))) (au 3)) (aF (a6 (eE am) (au 4)) (aF (gc (r0 (ae (pFz (pOp cP (pFz (pC (.int 1))) (pFz (pOp jn (pFz (cX aG 0 am)) (pSl 1))))) am)) (au 5) (aF (a6 (cX aG 0 am) (au 6)) (aF (a6 (pOp jn (pSl 6) (pFz (pC (.int 12)))) (au 7)) (aF (a6 (dN (pSl 3) (df (aP 7)) (df (pOp cP (pFz (pOp cP (pSl 7) (pFz (pC (.int 1))))) (pFz (pOp jn (pFz (pOp uf (pSl 6) (pFz (pC (.int 12))))) (pFz (pC (.int 7)))))))) (au 8)) (aF (kZ (jS (pB (pOp uh (pFz (pOp jn (pFz (pOp uf (pSl 6) (pFz (pC (.int 84))))) (pFz (pC (.int 5))))) (pFz (pC (.int 0))))) (a6 (bh aQ (ae (pFz (pOp cP (pFz (pOp jn (pFz (pOp uf (pSl 6) (pFz (pC (.int 420))))) (pFz (pOp zH (pFz (pC (.int 10))) (pFz (pC (.int 4))))))) (pFz (pC (.int 1))))) (ae (pFz (aP 2)) am))) (au 8)) cF)) (aF (kZ (jS (pB (pOp uh (pFz (pOp jn (pFz (pOp uf (pSl 6) (pFz (pC (.int 84))))) (pFz (pC (.int 5))))) (pFz (pC (.int 1))))) (a6 (dN (pFz (pOp ve (pFz (dN (pSl 3) (df (aP 7)) (df (pOp cP (pFz (pOp cP (pSl 7) (pFz (pC (.int 1))))) (pFz (pOp jn (pFz (pOp uf (pSl 6) (pFz (pC (.int 12))))) (pFz (pC (.int 3))))))))) (pFz (pC (.int 9))))) eJ (df (pOp cP (pFz (pC (.int 2))) (pFz (pOp jn (pFz (pOp uf (pSl 6) (pFz (pC (.int 36))))) (pFz (pC (.int 8)))))))) (au 8)) cF)) (aF (kZ (jS (pB (pOp uh (pFz (pOp jn (pFz (pOp uf (pSl 6) (pFz (pC (.int 84))))) (pFz (pC (.int 15))))) (pFz (pC (.int 2))))) (a6 (dN (pFz (pOp ve (pFz (dN (pSl 3) (df (aP 7)) (df (pOp cP (pSl 7) (pFz (pC (.int 2))))))) (pFz (pC (.int 30))))) eJ (df (pC (.int 60)))) (au 8)) cF)) (gv (vk 4 (dN (pFz (pOp cP (pSl 8) (pFz (pC (.str [97]))))) eJ (df (pCB zw (ae (pFz (pC (.int 1))) (ae (pFz (pCB gb (ae (pSl 8) am))) am)))))))))))))) (bH (aP 4)))))))
theorem og (ds:List D) (m:Int) (Q:PV->PV->Prop) (h:bR (.own ds) ([.int m]) Q):ug eR jX (.own ds) ([.int m]) Q:=by
 show eR _ [some (.own ds),some (.dat (.int m)),none,none,none,none,none,none,none]
 obtain ⟨zs,rfl,⟨hz,h0,h1,hm0,hm1⟩,q⟩:=h
 have g0:Dk zs/\0 < zs.length/\zs.length<=100000:=⟨hz,by omega,by omega⟩
 walk_at "r"
 rintro z1 y1 hz10 hz11 hd1 hy1
 obtain ⟨ls,hls,ll0,ll1,lL⟩:=tX z1
 have g1:Dk y1/\0 < y1.length/\y1.length<=100000:=⟨hd1,by omega,by omega⟩
 walk_at "r"
 refine ⟨_,hls,?_⟩
 walk_at "r"
 rintro z2 y2 hz20 hz21 hd2 hy2
 have g2:Dk y2/\0 < y2.length/\y2.length<=100000:=⟨hd2,by omega,by omega⟩
 have s2:0<=z2 + 10 ^ Int.toNat 9/\0 < ls.length/\ls.length<=26:=⟨by show 0<=z2 + 1000000000;omega,ll0,ll1⟩
 walk_at "r"
 rintro w1 hw1 hc1 _
 walk_at "r"
 rintro z3 y3 hz30 hz31 hd3 hy3
 have g3:Dk y3/\0 < y3.length/\y3.length<=100000:=⟨hd3,by omega,by omega⟩
 have s3:0<=z3 + 10 ^ Int.toNat 9/\0 < ls.length/\ls.length<=26:=⟨by show 0<=z3 + 1000000000;omega,ll0,ll1⟩
 walk_at "r"
 rintro w2 hw2 hc2 _
 have tL:Lts (w1++w2):=(jF hc1 lL).app (jF hc2 lL)
 have tl:(w1++w2).length<=18:=by rw [List.length_append];omega
 walk_at "r"
 generalize w1++w2=t at tL tl ⊢
 rintro z4 y4 hz40 hz41 hd4 hy4
 have bm0:=Int.emod_nonneg z4 (show m≠0 by omega)
 have bm1:=Int.emod_lt_of_pos z4 (show 0 < m by omega)
 walk_at "r"
 obtain ⟨N,hN,hN1⟩:∃N:Nat,(1 + z4 % m).toNat=N/\1<=N/\(N:Int)<=m:=⟨(1 + z4 % m).toNat,rfl,by have:=Int.emod_nonneg z4 (show m≠0 by omega);have:=Int.emod_lt_of_pos z4 (show 0 < m by omega);omega⟩
 rw [hN]
 refine ⟨fun k ρ=>∃(ps:List (List Nat)) (ys:List Int) (v5 v6 v7 v8:Option PV),ps.length=k/\Pcs 60 ps/\Dk ys/\ys.length + k=y4.length/\ρ=[some (.own (ys.map .int)),some (.dat (.int m)),some (.dat (.str ls)),some (.dat (.str t)),some (.own (ps.map .str)),v5,v6,v7,v8],⟨[],y4,_,_,_,_,rfl,(fun w hw=>nomatch hw),hd4,rfl,rfl⟩,?_,?_⟩
 .rintro k ρ _ hk rfl ⟨ps,ys,v5,v6,v7,v8,hpl,hps,hdy,hyl,rfl⟩
  have g5:Dk ys/\0 < ys.length/\ys.length<=100000:=⟨hdy,by omega,by omega⟩
  have hpm:(ps.map D.str).length=ps.length:=List.length_map _
  walk_at "r"
  rintro x y5 hx0 hx1 hd5 hy5
  have ca:=ce t (some (x % 12)) (some (x % 12 + 1 + x / 12 % 7))
  have cL:Lts (eC t (some (x % 12)) (some (x % 12 + 1 + x / 12 % 7))):=tL.cut _ _
  walk_at "r"
  refine ⟨fun ρ=>∃(p:List Nat),Lts p/\p.length<=60/\ρ=[some (.own (y5.map .int)),some (.dat (.int m)),some (.dat (.str ls)),some (.dat (.str t)),some (.own (ps.map .str)),some (.dat (.int (k:Int))),some (.dat (.int x)),some (.dat (.int (x % 12))),some (.dat (.str p))],?_,?_⟩
  .walk_at "r"
   refine eo (fun c=>?_) (fun c=>?_)
   .have s5:0<=x / 420 % 10 ^ Int.toNat 4 + 1/\0 < ls.length/\ls.length<=26:=⟨by show 0<=x / 420 % 10000 + 1;omega,ll0,ll1⟩
    walk_at "r"
    rintro w hw hc _
    exact ⟨w,jF hc lL,by omega,rfl⟩
   .exact ⟨_,cL,by omega,rfl⟩
  .rintro ρ ⟨p,pL,pl,rfl⟩
   walk_at "r"
   refine ⟨fun ρ=>∃(p:List Nat),Lts p/\p.length<=60/\ρ=[some (.own (y5.map .int)),some (.dat (.int m)),some (.dat (.str ls)),some (.dat (.str t)),some (.own (ps.map .str)),some (.dat (.int (k:Int))),some (.dat (.int x)),some (.dat (.int (x % 12))),some (.dat (.str p))],?_,?_⟩
   .walk_at "r"
    refine eo (fun c=>?_) (fun c=>?_)
    .have cb:=ce t (some (x % 12)) (some (x % 12 + 1 + x / 12 % 3))
     have cbL:Lts (eC t (some (x % 12)) (some (x % 12 + 1 + x / 12 % 3))):=tL.cut _ _
     have w2:(-1000000:Int)<=9/\(9:Int)<=1000000/\Int.toNat 9 * (eC t (some (x % 12)) (some (x % 12 + 1 + x / 12 % 3))).length<=1000000:=⟨by decide,by decide,by show 9 * _<=_;omega⟩
     walk_at "r"
     refine ⟨_,(cbL.rep 9).cut _ _,?_,rfl⟩
     obtain ⟨e,he,he1⟩:∃e:Nat,2 + x / 36 % 8=(e:Int)/\e<=9:=⟨(2 + x / 36 % 8).toNat,by omega,by omega⟩
     rw [he,jd,List.length_take];omega
    .exact ⟨p,pL,pl,rfl⟩
   .rintro ρ ⟨p,pL,pl,rfl⟩
    walk_at "r"
    refine ⟨fun ρ=>∃(p:List Nat),Lts p/\p.length<=60/\ρ=[some (.own (y5.map .int)),some (.dat (.int m)),some (.dat (.str ls)),some (.dat (.str t)),some (.own (ps.map .str)),some (.dat (.int (k:Int))),some (.dat (.int x)),some (.dat (.int (x % 12))),some (.dat (.str p))],?_,?_⟩
    .walk_at "r"
     refine eo (fun c=>?_) (fun c=>?_)
     .have cb:=ce t (some (x % 12)) (some (x % 12 + 2))
      have cbL:Lts (eC t (some (x % 12)) (some (x % 12 + 2))):=tL.cut _ _
      have w2:(-1000000:Int)<=30/\(30:Int)<=1000000/\Int.toNat 30 * (eC t (some (x % 12)) (some (x % 12 + 2))).length<=1000000:=⟨by decide,by decide,by show 30 * _<=_;omega⟩
      walk_at "r"
      refine ⟨_,(cbL.rep 30).cut _ _,?_,rfl⟩
      rw [show (60:Int)=((60:Nat):Int) from rfl,jd,List.length_take];omega
     .exact ⟨p,pL,pl,rfl⟩
    .rintro ρ ⟨p,pL,pl,rfl⟩
     have hpc:=xT pL pl
     have la:[97].length=1:=rfl
     walk_at "r"
     refine ⟨ps++[_],y5,_,_,_,_,by rw [List.length_append,hpl];rfl,fun w hw=>?_,hd5,by omega,by rw [List.map_append];rfl⟩
     rcases List.mem_append.mp hw with h | h
     .exact hps w h
     .rw [List.mem_singleton.mp h];exact hpc
 .rintro ρ ⟨ps,ys,v5,v6,v7,v8,hpl,hps,hdy,hyl,rfl⟩
  walk_at "r"
  exact q ps ys (by omega) (by omega) hps hdy (by omega) (by omega)
theorem p7:∀p ds Q,p.isOwn=true->bR p ds Q->ug eR jX p ds Q:=fun p ds Q _ h=>by
 unfold bR at h
 split at h
 .exact og _ _ _ h
 .exact h.elim
def fQ:PTS:=(aF (a6 (pC (.str [])) (au 2)) (aF (gc (r0 (ae (pFz (pCB gb (ae (pSl 1) am))) am)) (au 3) (aF (a6 (pC (.int 0)) (au 4)) (aF (kZ (jS (pB (pOp fGt (pSl 3) (pFz (pC (.int 0))))) (a6 (bh aT (ae (pFz (pOp fIx (pSl 0) (pFz (pOp fIx (pSl 1) (pFz (pOp xw (pSl 3) (pFz (pC (.int 1))))))))) (ae (pFz (pOp fIx (pSl 0) (pFz (pOp fIx (pSl 1) (pSl 3))))) am))) (au 4)) cF)) (a6 (pOp cP (pSl 2) (pFz (dN (pFz (pOp fIx (pSl 0) (pFz (pOp fIx (pSl 1) (pSl 3))))) (df (aP 4)) eJ))) (au 2))))) (bH (aP 2))))
theorem p8 (ds es:List D) (Q:PV->Prop) (h:cm ([.lst ds,.lst es]) Q):dg fQ lE ([.lst ds,.lst es]) Q:=by
 show fQ _ [some (.dat (.lst ds)),some (.dat (.lst es)),none,none,none]
 obtain ⟨ws,rfl,js,rfl,⟨hw,hj,hjm⟩,q⟩:=h
 have hlm:(js.map nD).length=js.length:=List.length_map _
 have hw40:=hw.1
 walk_at "r"
 rw [Int.toNat_natCast,hlm]
 refine ⟨fun k ρ=>∃(t:List Nat) (v3 v4:Option PV),glL ws js k<=t.length/\t.length<=60 * k/\ρ=[some (.dat (.lst (ws.map .str))),some (.dat (.lst (js.map nD))),some (.dat (.str t)),v3,v4],⟨[],_,_,Int.le_refl _,Nat.le_refl _,rfl⟩,?_,?_⟩
 .rintro k ρ _ hk rfl ⟨t,v3,v4,hgl,htl,rfl⟩
  have hjk:=hjm k hk
  have hwk:=hw.at hjk
  have aj:atI (js.map nD) (k:Int)=some (.int ((js.getD k 0:Nat):Int)):=sA hk
  have aw:atI (ws.map D.str) ((js.getD k 0:Nat):Int)=some (.str (pw ws (js.getD k 0))):=dU hjk rfl
  walk_at "r"
  refine ⟨fun ρ=>∃(o:Nat),(o:Int)=(if k=0 then 0 else (eH (pw ws (js.getD (k - 1) 0)) (pw ws (js.getD k 0)):Int))/\o<=(pw ws (js.getD k 0)).length/\ρ=[some (.dat (.lst (ws.map .str))),some (.dat (.lst (js.map nD))),some (.dat (.str t)),some (.dat (.int (k:Int))),some (.dat (.int (o:Int)))],?_,?_⟩
  .walk_at "r"
   refine eo (fun c=>?_) (fun c=>?_)
   .have hjp:=hjm (k - 1) (by omega)
    have hwp:=hw.at hjp
    have ap:atI (js.map nD) ((k:Int) - 1)=some (.int ((js.getD (k - 1) 0:Nat):Int)):=by rw [show (k:Int) - 1=((k - 1:Nat):Int) by omega];exact sA (by omega)
    have awp:atI (ws.map D.str) ((js.getD (k - 1) 0:Nat):Int)=some (.str (pw ws (js.getD (k - 1) 0))):=dU hjp rfl
    have hlap:=yr hwp.1 hwk.1
    walk_at "r"
    refine ⟨_,ap,?_⟩
    walk_at "r"
    refine ⟨_,awp,?_⟩
    walk_at "r"
    refine ⟨_,aj,?_⟩
    walk_at "r"
    refine ⟨_,aw,?_⟩
    walk_at "r"
    exact ⟨_,by rw [if_neg (by omega)],by omega,rfl⟩
   .exact ⟨0,by rw [if_pos (by omega)];rfl,Nat.zero_le _,rfl⟩
  .rintro ρ ⟨o,ho,hol,rfl⟩
   have co:eC (pw ws (js.getD k 0)) (some (o:Int)) none=(pw ws (js.getD k 0)).drop o:=kK _ _
   have cl:((pw ws (js.getD k 0)).drop o).length=(pw ws (js.getD k 0)).length - o:=List.length_drop
   walk_at "r"
   refine ⟨_,aj,?_⟩
   walk_at "r"
   refine ⟨_,aw,?_⟩
   walk_at "r"
   rw [co]
   refine ⟨by omega,?_⟩
   walk_at "r"
   refine ⟨_,_,_,?_,?_,rfl⟩
   .show glL ws js k + _ - (if k=0 then 0 else _)<=_
    rw [<- ho,List.length_append,cl];omega
   .rw [List.length_append,cl];omega
 .rintro ρ ⟨t,v3,v4,hgl,htl,rfl⟩
  walk_at "r"
  exact q t hgl (by omega)
theorem rm:∀ds Q,cm ds Q->dg fQ lE ds Q:=fun ds Q h=>by
 unfold cm at h
 split at h
 .exact p8 _ _ _ h
 .exact h.elim
def eS:PTS:=(aF (a6 (xr false (ae (pFz (aP 1)) am)) (au 2)) (aF (a6 (eE am) (au 3)) (aF (qH (pB (pOp tN (pSl 2) (pFz (eE am)))) (gv (vk 3 (vB 2 (pOp jn (pFz (cX aG 0 am)) (pFz (pCB gb (ae (pSl 2) am)))))))) (bH (aP 3)))))
theorem oh (ds:List D) (m:Int) (Q:PV->PV->Prop) (h:b8 (.own ds) ([.int m]) Q):ug eS jY (.own ds) ([.int m]) Q:=by
 show eS _ [some (.own ds),some (.dat (.int m)),none,none]
 obtain ⟨zs,rfl,⟨hz,h0,h1,hm0,hm1⟩,q⟩:=h
 obtain ⟨n,rfl⟩:∃n:Nat,m=(n:Int):=⟨m.toNat,by omega⟩
 rw [Int.toNat_natCast] at q h0
 walk_at "r"
 refine ⟨fun k ρ=>∃(rs js:List Nat) (ys:List Int),(js++rs).Perm (List.range n)/\Dk ys/\ys.length + js.length=zs.length/\k=rs.length/\ρ=[some (.own (ys.map .int)),some (.dat (.int (n:Int))),some (.own (rs.map nD)),some (.own (js.map nD))],⟨n,List.range n,[],zs,List.Perm.refl _,hz,rfl,by rw [List.length_range],by rw [<- zQ];rfl⟩,?_⟩
 rintro k ρ ⟨rs,js,ys,hp,hy,hyl,rfl,rfl⟩
 have hpl:=hp.length_eq
 rw [List.length_append,List.length_range] at hpl
 have e1:=wl rs
 have e2:=Ad rs
 walk_at "r"
 rw [e2]
 refine kU (fun c=>?_) (fun c=>?_)
 .have hrl:0 < rs.length:=List.length_pos_iff.mpr c
  have g0:Dk ys/\0 < ys.length/\ys.length<=100000:=⟨hy,by omega,by omega⟩
  have hrm:(rs.map nD).length=rs.length:=List.length_map _
  have hjm:(js.map nD).length=js.length:=List.length_map _
  walk_at "r"
  rintro z y1 hz0 hz1 hd1 hy1
  obtain ⟨i,hi⟩:∃i:Nat,z % (rs.length:Int)=(i:Int):=⟨(z % (rs.length:Int)).toNat,by have:=Int.emod_nonneg z (show (rs.length:Int)≠0 by omega);omega⟩
  have hir:i < rs.length:=by have:=Int.emod_lt_of_pos z (show 0 < (rs.length:Int) by omega);omega
  walk_at "r"
  rw [hrm,hi]
  refine ⟨i,nD rs[i],⟨D2 hir,by omega⟩,by rw [List.getElem?_map,List.getElem?_eq_getElem hir];rfl,by show (js.map nD).length < _;omega,rs.length - 1,by omega,rs.eraseIdx i,js++[rs[i]],y1,?_,hd1,by rw [List.length_append];show y1.length + (js.length + 1)=_;omega,by rw [List.length_eraseIdx,if_pos hir],by rw [List.map_append,vU];rfl⟩
  rw [List.append_assoc]
  exact ((List.perm_append_comm.trans (vV hir)).append_left js).trans hp
 .have c:rs=[]:=c
  subst c
  rw [List.append_nil] at hp
  have hjl:js.length=n:=by rw [hp.length_eq,List.length_range]
  walk_at "r"
  exact q js ys hp hy (by omega)
theorem p9:∀p ds Q,p.isOwn=true->b8 p ds Q->ug eS jY p ds Q:=fun p ds Q _ h=>by
 unfold b8 at h
 split at h
 .exact oh _ _ _ h
 .exact h.elim
def dL:PTS:=(aF (a6 (cX b8 0 (ae (pFz (pCB gb (ae (pSl 1) am))) am)) (au 2)) (aF (jS (pB (pOp uh (pFz (pOp jn (pFz (cX aG 0 am)) (pFz (pC (.int 2))))) (pFz (pC (.int 0))))) (bH (bh cm (ae (pFz (aP 1)) (ae (pFz (aP 2)) am)))) cF) (aF (a6 (dN (pFz (pC (.str [98,97]))) eJ (df (pOp jn (pFz (cX aG 0 am)) (pFz (pC (.int 3)))))) (au 3)) (aF (gc (r0 (ae (pFz (pCB gb (ae (pSl 2) am))) am)) (au 4) (aF (a6 (cX aG 0 am) (au 5)) (aF (a6 (pC (.int 0)) (au 6)) (aF (kZ (jS (zj (pB (pOp fGt (pSl 4) (pFz (pC (.int 0))))) (pB (pOp fGt (pFz (pOp jn (pSl 5) (pFz (pC (.int 3))))) (pFz (pC (.int 0)))))) (a6 (bh aT (ae (pFz (pOp fIx (pSl 1) (pFz (pOp fIx (pSl 2) (pFz (pOp xw (pSl 4) (pFz (pC (.int 1))))))))) (ae (pFz (pOp fIx (pSl 1) (pFz (pOp fIx (pSl 2) (pSl 4))))) am))) (au 6)) cF)) (aF (kZ (jS (zj (pB (pOp uh (pSl 6) (pFz (pC (.int 0))))) (pB (pOp fGt (pSl 4) (pFz (pC (.int 0)))))) (a6 (pOp cP (pSl 3) (pFz (dN (pFz (pC (.str [113,97,98]))) eJ (df (pOp jn (pFz (pOp uf (pSl 5) (pFz (pC (.int 3))))) (pFz (pC (.int 4)))))))) (au 3)) cF)) (a6 (pOp cP (pSl 3) (pFz (dN (pFz (pOp fIx (pSl 1) (pFz (pOp fIx (pSl 2) (pSl 4))))) (df (aP 6)) eJ))) (au 3))))))) (bH (pOp cP (pSl 3) (pFz (dN (pFz (pC (.str [97,98]))) eJ (df (pOp jn (pFz (cX aG 0 am)) (pFz (pC (.int 3)))))))))))))
theorem lP (ds es:List D) (Q:PV->PV->Prop) (h:br (.own ds) ([.lst es]) Q):ug dL hX (.own ds) ([.lst es]) Q:=by
 show dL _ [some (.own ds),some (.dat (.lst es)),none,none,none,none,none]
 obtain ⟨zs,rfl,ws,rfl,⟨hw,hz,h0,h1⟩,q⟩:=h
 have hw40:=hw.1
 have hlm:(ws.map D.str).length=ws.length:=List.length_map _
 have g0:Dk zs/\((ws.length:Nat):Int).toNat<=zs.length/\zs.length<=10000/\0<=((ws.length:Nat):Int)/\((ws.length:Nat):Int)<=40:=⟨hz,by omega,h1,by omega,by omega⟩
 walk_at "r"
 rw [hlm]
 rintro js y1 hp hd1 hy1
 rw [Int.toNat_natCast] at hp hy1
 have hjl:js.length=ws.length:=by rw [hp.length_eq,List.length_range]
 have hjm:∀i,i < js.length->js.getD i 0 < ws.length:=fun i hi=>List.mem_range.mp (hp.mem_iff.mp (by rw [List.getD_eq_getElem?_getD,List.getElem?_eq_getElem hi];exact List.getElem_mem _))
 have hjn:(js.map nD).length=js.length:=List.length_map _
 have g1:Dk y1/\0 < y1.length/\y1.length<=100000:=⟨hd1,by omega,by omega⟩
 walk_at "r"
 rintro z2 y2 hz20 hz21 hd2 hy2
 walk_at "r"
 refine eo (fun c=>?_) (fun c=>?_)
 .have gg:yt ws/\js.length<=40/\∀i,i < js.length->js.getD i 0 < ws.length:=⟨hw,by omega,hjm⟩
  walk_at "r"
  rintro t hgl htl
  rw [hjl] at hgl
  walk_at "r"
  exact q js t y2 hp hgl (by omega) hd2 (by omega) (by omega)
 .have g2:Dk y2/\0 < y2.length/\y2.length<=100000:=⟨hd2,by omega,by omega⟩
  walk_at "r"
  rintro z3 y3 hz30 hz31 hd3 hy3
  have cb:=ce [98,97] none (some (z3 % 3))
  have lb:[98,97].length=2:=rfl
  walk_at "r"
  rw [Int.toNat_natCast,hjn]
  generalize eC [98,97] none (some (z3 % 3))=t0 at cb ⊢
  refine ⟨fun k ρ=>∃(t:List Nat) (ys:List Int) (v4 v5 v6:Option PV),glL ws js k<=t.length/\t.length<=2 + 64 * k/\Dk ys/\ys.length + k=y3.length/\ρ=[some (.own (ys.map .int)),some (.dat (.lst (ws.map .str))),some (.dat (.lst (js.map nD))),some (.dat (.str t)),v4,v5,v6],⟨t0,y3,_,_,_,by show (0:Int)<=_;omega,by omega,hd3,rfl,rfl⟩,?_,?_⟩
  .rintro k ρ _ hk rfl ⟨t,ys,v4,v5,v6,hgl,htl,hdy,hyl,rfl⟩
   have hjk:=hjm k hk
   have hwk:=hw.at hjk
   have aj:atI (js.map nD) (k:Int)=some (.int ((js.getD k 0:Nat):Int)):=sA hk
   have aw:atI (ws.map D.str) ((js.getD k 0:Nat):Int)=some (.str (pw ws (js.getD k 0))):=dU hjk rfl
   have g5:Dk ys/\0 < ys.length/\ys.length<=100000:=⟨hdy,by omega,by omega⟩
   walk_at "r"
   rintro x y5 hx0 hx1 hd5 hy5
   walk_at "r"
   refine ⟨fun ρ=>∃(o:Nat),(o:Int)<=(if k=0 then 0 else (eH (pw ws (js.getD (k - 1) 0)) (pw ws (js.getD k 0)):Int))/\o<=(pw ws (js.getD k 0)).length/\ρ=[some (.own (y5.map .int)),some (.dat (.lst (ws.map .str))),some (.dat (.lst (js.map nD))),some (.dat (.str t)),some (.dat (.int (k:Int))),some (.dat (.int x)),some (.dat (.int (o:Int)))],?_,?_⟩
   .have zero:(0:Int)<=(if k=0 then 0 else (eH (pw ws (js.getD (k - 1) 0)) (pw ws (js.getD k 0)):Int)):=by split <;> omega
    walk_at "r"
    refine eo (fun c=>?_) (fun c=>?_)
    .walk_at "r"
     refine eo (fun c2=>?_) (fun c2=>?_)
     .have hjp:=hjm (k - 1) (by omega)
      have hwp:=hw.at hjp
      have ap:atI (js.map nD) ((k:Int) - 1)=some (.int ((js.getD (k - 1) 0:Nat):Int)):=by rw [show (k:Int) - 1=((k - 1:Nat):Int) by omega];exact sA (by omega)
      have awp:atI (ws.map D.str) ((js.getD (k - 1) 0:Nat):Int)=some (.str (pw ws (js.getD (k - 1) 0))):=dU hjp rfl
      have hlap:=yr hwp.1 hwk.1
      walk_at "r"
      refine ⟨_,ap,?_⟩
      walk_at "r"
      refine ⟨_,awp,?_⟩
      walk_at "r"
      refine ⟨_,aj,?_⟩
      walk_at "r"
      refine ⟨_,aw,?_⟩
      walk_at "r"
      exact ⟨_,by rw [if_neg (by omega)];exact Int.le_refl _,by omega,rfl⟩
     .exact ⟨0,zero,Nat.zero_le _,rfl⟩
    .exact ⟨0,zero,Nat.zero_le _,rfl⟩
   .rintro ρ ⟨o,ho,hol,rfl⟩
    walk_at "r"
    refine ⟨fun ρ=>∃(u:List Nat),t.length<=u.length/\u.length<=t.length + 3/\ρ=[some (.own (y5.map .int)),some (.dat (.lst (ws.map .str))),some (.dat (.lst (js.map nD))),some (.dat (.str u)),some (.dat (.int (k:Int))),some (.dat (.int x)),some (.dat (.int (o:Int)))],?_,?_⟩
    .have cq:=ce [113,97,98] none (some (x / 3 % 4))
     have lq:[113,97,98].length=3:=rfl
     walk_at "r"
     refine eo (fun c=>?_) (fun c=>?_)
     .walk_at "r"
      refine eo (fun c2=>?_) (fun c2=>?_)
      .walk_at "r"
       refine ⟨_,?_,?_,rfl⟩
       .rw [List.length_append];omega
       .rw [List.length_append];omega
      .exact ⟨t,Nat.le_refl _,by omega,rfl⟩
     .exact ⟨t,Nat.le_refl _,by omega,rfl⟩
    .rintro ρ ⟨u,hu1,hu2,rfl⟩
     have co:eC (pw ws (js.getD k 0)) (some (o:Int)) none=(pw ws (js.getD k 0)).drop o:=kK _ _
     have cl:((pw ws (js.getD k 0)).drop o).length=(pw ws (js.getD k 0)).length - o:=List.length_drop
     walk_at "r"
     refine ⟨_,aj,?_⟩
     walk_at "r"
     refine ⟨_,aw,?_⟩
     walk_at "r"
     rw [co]
     refine ⟨by omega,?_⟩
     walk_at "r"
     refine ⟨_,y5,_,_,_,?_,?_,hd5,by omega,rfl⟩
     .show glL ws js k + _ - (if k=0 then 0 else _)<=_
      rw [List.length_append,cl]
      omega
     .rw [List.length_append,cl];omega
  .rintro ρ ⟨t,ys,v4,v5,v6,hgl,htl,hdy,hyl,rfl⟩
   have g6:Dk ys/\0 < ys.length/\ys.length<=100000:=⟨hdy,by omega,by omega⟩
   walk_at "r"
   rintro z7 y7 hz70 hz71 hd7 hy7
   have cz:=ce [97,98] none (some (z7 % 3))
   have lz:[97,98].length=2:=rfl
   walk_at "r"
   rw [hjl] at hgl
   exact q js _ y7 hp (by rw [List.length_append];omega) (by rw [List.length_append];omega) hd7 (by omega) (by omega)
theorem mz:∀p ds Q,p.isOwn=true->br p ds Q->ug dL hX p ds Q:=fun p ds Q _ h=>by
 unfold br at h
 split at h
 .exact lP _ _ _ h
 .exact h.elim
def eT:PTS:=(bH (nF (Ao .int (pSl 0)) (xm (Ao .bool (pSl 0)))))
theorem oi (z:Int) (Q:PV->Prop) (h:bS ([.int z]) Q):dg eT jZ ([.int z]) Q:=by
 show eT _ [some (.dat (.int z))]
 walk_at "r"
 exact h
theorem qa:∀ds Q,bS ds Q->dg eT jZ ds Q:=fun ds Q h=>by
 unfold bS at h
 split at h
 .exact oi _ _ h
 .exact h.elim
def d7:PTS:=(aF (a6 (pCB gb (ae (pSl 0) am)) (au 2)) (aF (a6 (eE am) (au 3)) (aF (a6 (eE am) (au 4)) (aF (gc (r0 (ae (pFz (aP 2)) am)) (au 5) (aF (a6 (pCB vA (ae (pFz (pOp cP (pFz (eE (ae (pFz (pC (.int 0))) am))) (pFz (dr [none,some 0,some 5] (r0 (ae (pFz (aP 2)) am)) (au 0) (pB (pOp tN (pSl 0) (pSl 2))) (pOp fIx (pFz (pOp fIx (pSl 1) (pSl 2))) (pSl 0)))))) am)) (au 6)) (aF (a6 (pCB vA (ae (pFz (pOp cP (pFz (eE (ae (pFz (pC (.int 0))) am))) (pFz (dr [none,some 5,some 0] (r0 (ae (pFz (aP 2)) am)) (au 0) (pB (pOp tN (pSl 0) (pSl 1))) (pOp fIx (pFz (pOp fIx (pSl 2) (pSl 0))) (pSl 1)))))) am)) (au 7)) (aF (gv (vk 3 (pOp fIx (pFz (eE (ae (pFz (aP 6)) (ae (pFz (pC (.int 0))) (ae (pFz (pOp uf (pFz (pOp cP (pSl 6) (pFz (pC (.int 1))))) (pFz (pC (.int 2))))) am))))) (pFz (pOp jn (pSl 1) (pFz (pC (.int 3)))))))) (gv (vk 4 (pOp fIx (pFz (eE (ae (pFz (pC (.int 0))) (ae (pFz (aP 7)) (ae (pFz (pOp uf (pFz (pOp cP (pSl 7) (pFz (pC (.int 1))))) (pFz (pC (.int 2))))) am))))) (pFz (pOp jn (pSl 1) (pFz (pC (.int 3)))))))))))) (bH (BZ (eE (ae (pFz (aP 3)) (ae (pFz (aP 4)) am)))))))))
theorem mB (ds:List D) (s:Int) (Q:PV->Prop) (h:a8 ([.lst ds,.int s]) Q):dg d7 iX ([.lst ds,.int s]) Q:=by
 show d7 _ [some (.dat (.lst ds)),some (.dat (.int s)),none,none,none,none,none,none]
 obtain ⟨ws,rfl,hn,q⟩:=h
 have hlm:(gj ws).length=ws.length:=List.length_map _
 walk_at "r"
 rw [Int.toNat_natCast,hlm]
 refine ⟨fun k ρ=>∃(gs ts:List Int) (v5 v6 v7:Option PV),Prc k gs/\Prc k ts/\ρ=[some (.dat (.lst (gj ws))),some (.dat (.int s)),some (.dat (.int (ws.length:Int))),some (.own (gs.map .int)),some (.own (ts.map .int)),v5,v6,v7],⟨[],[],_,_,_,⟨rfl,fun z hz=>nomatch hz⟩,⟨rfl,fun z hz=>nomatch hz⟩,rfl⟩,?_,?_⟩
 .rintro k ρ _ hk rfl ⟨gs,ts,v5,v6,v7,hg,ht,rfl⟩
  have hgm:(gs.map D.int).length=k:=by rw [List.length_map,hg.1]
  have htm:(ts.map D.int).length=k:=by rw [List.length_map,ht.1]
  walk_at "r"
  rw [Int.toNat_natCast]
  refine cfR (fun j:Nat=>decide (j≠k)) (fun j:Nat=>D.int (eH (pw ws k) (pw ws j):Int)) (fun j hj v K1 K2 k1 k2=>?_) (fun v=>?_)
  .walk_at "r"
   refine kU (fun c=>?_) (fun c=>?_)
   .walk_at "r"
    refine ⟨_,kz hk,?_⟩
    walk_at "r"
    refine ⟨_,pS hj,?_⟩
    walk_at "r"
    exact k1 _ (decide_eq_true (by omega))
   .exact k2 _ (decide_eq_false (by omega))
  .rw [n4 ws.length (fun j=>decide (j≠k)) fun j=>(eH (pw ws k) (pw ws j):Int)]
   have hA:(((List.range ws.length).filter fun j=>decide (j≠k)).map (fun j=>(eH (pw ws k) (pw ws j):Int))).length<=40:=by
    rw [List.length_map];exact Nat.le_trans (List.length_filter_le ..) (by rw [List.length_range];exact hn)
   generalize ((List.range ws.length).filter fun j=>decide (j≠k)).map (fun j=>(eH (pw ws k) (pw ws j):Int))=A at hA
   have hA2:(A.map D.int).length<=40:=by rw [List.length_map];exact hA
   walk_at "r"
   refine ⟨0::A,rfl,Nat.succ_pos _,fun m _ hmm=>?_⟩
   have hm:=hmm 0 (List.mem_cons_self ..)
   clear hA hA2 hmm
   walk_at "r"
   rw [Int.toNat_natCast]
   refine cfR (fun j:Nat=>decide (j≠k)) (fun j:Nat=>D.int (eH (pw ws j) (pw ws k):Int)) (fun j hj v K1 K2 k1 k2=>?_) (fun v=>?_)
   .walk_at "r"
    refine kU (fun c=>?_) (fun c=>?_)
    .walk_at "r"
     refine ⟨_,kz hj,?_⟩
     walk_at "r"
     refine ⟨_,pS hk,?_⟩
     walk_at "r"
     exact k1 _ (decide_eq_true (by omega))
    .exact k2 _ (decide_eq_false (by omega))
   .rw [n4 ws.length (fun j=>decide (j≠k)) fun j=>(eH (pw ws j) (pw ws k):Int)]
    have hA:(((List.range ws.length).filter fun j=>decide (j≠k)).map (fun j=>(eH (pw ws j) (pw ws k):Int))).length<=40:=by
     rw [List.length_map];exact Nat.le_trans (List.length_filter_le ..) (by rw [List.length_range];exact hn)
    generalize ((List.range ws.length).filter fun j=>decide (j≠k)).map (fun j=>(eH (pw ws j) (pw ws k):Int))=A at hA
    have hA2:(A.map D.int).length<=40:=by rw [List.length_map];exact hA
    walk_at "r"
    refine ⟨0::A,rfl,Nat.succ_pos _,fun m2 _ hmm2=>?_⟩
    have hm2:=hmm2 0 (List.mem_cons_self ..)
    clear hA hA2 hmm2
    walk_at "r"
    obtain ⟨r,er,hr⟩:=sB hm (Int.le_refl 0) (show 0<=(m + 1) / 2 by omega) s
    refine ⟨_,er,?_⟩
    walk_at "r"
    obtain ⟨r2,er2,hr2⟩:=sB (Int.le_refl 0) hm2 (show 0<=(m2 + 1) / 2 by omega) s
    refine ⟨_,er2,?_⟩
    walk_at "r"
    exact ⟨gs++[r],ts++[r2],_,_,_,hg.app hr,ht.app hr2,by rw [List.map_append,List.map_append];rfl⟩
 .rintro ρ ⟨gs,ts,v5,v6,v7,hg,ht,rfl⟩
  walk_at "r"
  exact q gs ts hg ht
theorem oj:∀ds Q,a8 ds Q->dg d7 iX ds Q:=fun ds Q h=>by
 unfold a8 at h
 split at h
 .exact mB _ _ _ h
 .exact h.elim
def ee:PTS:=(aF (a6 (pCB gb (ae (pSl 0) am)) (au 2)) (aF (a6 (eE am) (au 3)) (aF (gc (r0 (ae (pFz (aP 2)) am)) (au 4) (gv (vk 3 (pCB vA (ae (pFz (pOp cP (pFz (eE (ae (pFz (pC (.int 0))) am))) (pFz (dr [none,some 4,some 1,some 0] (r0 (ae (pFz (aP 2)) am)) (au 0) (pB (pOp tN (pSl 0) (pSl 1))) (pOp xw (pFz (pOp fIx (pFz (pOp fIx (pSl 3) (pSl 0))) (pSl 1))) (pFz (pOp fIx (pSl 2) (pSl 0)))))))) am))))) (bH (BZ (eE (ae (pFz (aP 1)) (ae (pFz (aP 3)) am))))))))
theorem mC (ds es:List D) (Q:PV->Prop) (h:bA ([.lst ds,.lst es]) Q):dg ee iY ([.lst ds,.lst es]) Q:=by
 show ee _ [some (.dat (.lst ds)),some (.dat (.lst es)),none,none,none]
 obtain ⟨ws,rfl,gs,rfl,⟨hn,hgl⟩,q⟩:=h
 have hlm:(gj ws).length=ws.length:=List.length_map _
 walk_at "r"
 rw [Int.toNat_natCast,hlm]
 refine ⟨fun k ρ=>∃(ts:List Int) (v4:Option PV),Prc k ts/\ρ=[some (.dat (.lst (gj ws))),some (.dat (.lst (gs.map .int))),some (.dat (.int (ws.length:Int))),some (.own (ts.map .int)),v4],⟨[],_,⟨rfl,fun z hz=>nomatch hz⟩,rfl⟩,?_,?_⟩
 .rintro k ρ _ hk rfl ⟨ts,v4,ht,rfl⟩
  have htm:(ts.map D.int).length=k:=by rw [List.length_map,ht.1]
  walk_at "r"
  rw [Int.toNat_natCast]
  refine cfR (fun j:Nat=>decide (j≠k)) (fun j:Nat=>D.int ((eH (pw ws j) (pw ws k):Int) - gs.getD j 0)) (fun j hj v K1 K2 k1 k2=>?_) (fun v=>?_)
  .walk_at "r"
   refine kU (fun c=>?_) (fun c=>?_)
   .walk_at "r"
    refine ⟨_,kz hj,?_⟩
    walk_at "r"
    refine ⟨_,pS hk,?_⟩
    walk_at "r"
    refine ⟨_,iG (by omega),?_⟩
    walk_at "r"
    exact k1 _ (decide_eq_true (by omega))
   .exact k2 _ (decide_eq_false (by omega))
  .rw [n4 ws.length (fun j=>decide (j≠k)) fun j=>(eH (pw ws j) (pw ws k):Int) - gs.getD j 0]
   have hA:(((List.range ws.length).filter fun j=>decide (j≠k)).map (fun j=>(eH (pw ws j) (pw ws k):Int) - gs.getD j 0)).length<=40:=by
    rw [List.length_map];exact Nat.le_trans (List.length_filter_le ..) (by rw [List.length_range];exact hn)
   generalize ((List.range ws.length).filter fun j=>decide (j≠k)).map (fun j=>(eH (pw ws j) (pw ws k):Int) - gs.getD j 0)=A at hA
   have hA2:(A.map D.int).length<=40:=by rw [List.length_map];exact hA
   walk_at "r"
   refine ⟨0::A,rfl,Nat.succ_pos _,fun m _ hmm=>?_⟩
   have hm:=hmm 0 (List.mem_cons_self ..)
   walk_at "r"
   exact ⟨ts++[m],_,ht.app hm,by rw [List.map_append];rfl⟩
 .rintro ρ ⟨ts,v4,ht,rfl⟩
  walk_at "r"
  exact q ts ht
theorem om:∀ds Q,bA ds Q->dg ee iY ds Q:=fun ds Q h=>by
 unfold bA at h
 split at h
 .exact mC _ _ _ h
 .exact h.elim
def eU:PTS:=(aF (a6 (cX aG 0 am) (au 2)) (aF (jS (pB (pOp fLt (pFz (pOp jn (pSl 2) (pFz (pC (.int 4))))) (pFz (pC (.int 3))))) (bH (BZ (bh a8 (ae (pFz (aP 1)) (ae (pFz (pOp uf (pSl 2) (pFz (pC (.int 4))))) am))))) cF) (bH (BZ (bh bA (ae (pFz (aP 1)) (ae (pFz (dr [none,some 0] (dh (aP 1)) (au 0) k6 (pOp jn (pFz (cX aG 1 am)) (pFz (pC (.int 6)))))) am)))))))
theorem oq (ds es:List D) (Q:PV->PV->Prop) (h:b9 (.own ds) ([.lst es]) Q):ug eU j3 (.own ds) ([.lst es]) Q:=by
 show eU _ [some (.own ds),some (.dat (.lst es)),none]
 obtain ⟨zs,rfl,ws,rfl,⟨hn,hd,hl,hu⟩,q⟩:=h
 walk_at "r"
 intro z y0 hz0 hz1 hd0 hy0
 walk_at "r"
 refine rX (fun c=>?_) (fun c=>?_)
 .have:=hn
  walk_at "r"
  intro gs ts hg ht
  walk_at "r"
  exact q gs ts y0 hg ht hd0 (by omega) (by omega)
 .have hlm:(gj ws).length=ws.length:=List.length_map _
  walk_at "r"
  rw [hlm]
  refine ⟨fun k xs τ=>∃(v:Option PV) (gs y:List Int),τ=[v,some (.own (y.map .int))]/\xs=gs.map .int/\Prc k gs/\Dk y/\y.length + k=y0.length,⟨none,[],y0,rfl,rfl,⟨rfl,fun w hw=>nomatch hw⟩,hd0,rfl⟩,?_,?_⟩
  .rintro k _ _ d hk ed ⟨v,gs,y,rfl,rfl,hg,hd2,hyl⟩
   have g1:Dk y/\0 < y.length/\y.length<=100000:=⟨hd2,by omega,by omega⟩
   walk_at "r"
   intro z3 y3 hz3 hz3' hd3 hy3
   walk_at "r"
   exact ⟨_,gs++[z3 % 6],y3,rfl,by rw [List.map_append];rfl,hg.app (by omega),hd3,by omega⟩
  .rintro _ _ ⟨v,gs,y,rfl,rfl,hg,hd2,hyl⟩
   have g2:ws.length<=40/\gs.length=ws.length:=⟨hn,hg.1⟩
   walk_at "r"
   intro ts ht
   walk_at "r"
   exact q gs ts y hg ht hd2 (by omega) (by omega)
theorem qb:∀p ds Q,p.isOwn=true->b9 p ds Q->ug eU j3 p ds Q:=fun p ds Q _ h=>by
 unfold b9 at h
 split at h
 .exact oq _ _ _ h
 .exact h.elim
def eV:PTS:=(aF (gc (r0 (ae (pFz (pCB gb (ae (pSl 0) am))) am)) (au 3) (aF (jS (pOr (pB (pOp fLt (pFz (pOp fIx (pFz (pOp fIx (pSl 2) (pFz (pC (.int 0))))) (pSl 3))) (pFz (pC (.int 0))))) (pB (pOp fLt (pFz (pOp fIx (pFz (pOp fIx (pSl 2) (pFz (pC (.int 1))))) (pSl 3))) (pFz (pC (.int 0)))))) (bH (pC .non)) cF) (gc (r0 (ae (pFz (pCB gb (ae (pSl 0) am))) am)) (au 4) (jS (zj (pB (pOp tN (pSl 3) (pSl 4))) (pB (pOp fLt (pFz (pOp cP (pFz (pOp fIx (pFz (pOp fIx (pSl 2) (pFz (pC (.int 0))))) (pSl 3))) (pFz (pOp fIx (pFz (pOp fIx (pSl 2) (pFz (pC (.int 1))))) (pSl 4))))) (pFz (pOp fIx (pFz (pOp fIx (pSl 1) (pSl 3))) (pSl 4)))))) (bH (pC .non)) cF)))) (bH (pOp xw (pFz (pOp xw (pFz (pCB tH (ae (pFz (dr [none] (dh (aP 0)) (au 0) k6 (pCB gb (ae (pSl 0) am)))) am))) (pFz (pCB tH (ae (pFz (pOp fIx (pSl 2) (pFz (pC (.int 0))))) am))))) (pFz (pCB tH (ae (pFz (pOp fIx (pSl 2) (pFz (pC (.int 1))))) am))))))
theorem ou (ds es ps:List D) (Q:PV->Prop) (h:bT ([.lst ds,.lst es,.lst ps]) Q):dg eV j4 ([.lst ds,.lst es,.lst ps]) Q:=by
 show eV _ [some (.dat (.lst ds)),some (.dat (.lst es)),some (.dat (.lst ps)),none,none]
 obtain ⟨ws,rfl,rfl,gs,ts,rfl,⟨hn,hg,ht⟩,q⟩:=h
 have hwm:(ws.map D.str).length=ws.length:=List.length_map _
 walk_at "r"
 rw [Int.toNat_natCast,hwm]
 refine ⟨fun k ρ=>∃(v3 v4:Option PV),(∀i,i < k->(0<=gs.getD i 0/\0<=ts.getD i 0)/\∀j,j < ws.length->i≠j->(eH (pw ws i) (pw ws j):Int)<=gs.getD i 0 + ts.getD j 0)/\ρ=[some (.dat (.lst (ws.map .str))),some (.dat (.lst (gj ws))),some (.dat (.lst [di gs,di ts])),v3,v4],⟨_,_,fun i hi=>absurd hi (Nat.not_lt_zero i),rfl⟩,?_,?_⟩
 .rintro k ρ _ hk rfl ⟨v3,v4,hI,rfl⟩
  walk_at "r"
  refine ⟨_,iG (by omega),?_⟩
  walk_at "r"
  refine rX (fun c=>?_) (fun c=>?_)
  .have c:=of_decide_eq_true c
   rw [n5 fun z=>by have:=(z k hk).1.1;omega] at q
   walk_at "r"
   exact q
  .have c1:=of_decide_eq_false c
   walk_at "r"
   refine ⟨_,iG (by omega),?_⟩
   walk_at "r"
   refine rX (fun c=>?_) (fun c=>?_)
   .have c:=of_decide_eq_true c
    rw [n5 fun z=>by have:=(z k hk).1.2;omega] at q
    walk_at "r"
    exact q
   .have c2:=of_decide_eq_false c
    walk_at "r"
    rw [Int.toNat_natCast,hwm]
    refine ⟨fun m ρ=>∃(v4:Option PV),(∀j,j < m->k≠j->(eH (pw ws k) (pw ws j):Int)<=gs.getD k 0 + ts.getD j 0)/\ρ=[some (.dat (.lst (ws.map .str))),some (.dat (.lst (gj ws))),some (.dat (.lst [di gs,di ts])),some (.dat (.int (k:Int))),v4],⟨_,fun i hi=>absurd hi (Nat.not_lt_zero i),rfl⟩,?_,?_⟩
    .rintro j ρ _ hj rfl ⟨v4,hJ,rfl⟩
     walk_at "r"
     refine kU (fun c=>?_) (fun c=>?_)
     .walk_at "r"
      refine ⟨_,iG (by omega),?_⟩
      walk_at "r"
      refine ⟨_,iG (by omega),?_⟩
      walk_at "r"
      refine ⟨_,kz hk,?_⟩
      walk_at "r"
      refine ⟨_,pS hj,?_⟩
      walk_at "r"
      refine rX (fun c3=>?_) (fun c3=>?_)
      .have c3:=of_decide_eq_true c3
       rw [n5 fun z=>by have:=(z k hk).2 j hj (by omega);omega] at q
       walk_at "r"
       exact q
      .have c3:=of_decide_eq_false c3
       walk_at "r"
       refine ⟨_,fun j2 h1 h2=>?_,rfl⟩
       by_cases e:j2=j
       .subst e;omega
       .exact hJ j2 (by omega) h2
     .walk_at "r"
      refine ⟨_,fun j2 h1 h2=>hJ j2 (by omega) h2,rfl⟩
    .rintro ρ ⟨v4,hJ,rfl⟩
     walk_at "r"
     refine ⟨_,_,fun i hi=>?_,rfl⟩
     by_cases e:i=k
     .subst e;exact ⟨⟨by omega,by omega⟩,hJ⟩
     .exact hI i (by omega)
 .rintro ρ ⟨v3,v4,hI,rfl⟩
  rw [sC hI] at q
  walk_at "r"
  refine cm1 (e:=D.str) (xs:=ws) (fun w=>.int (w.length:Int)) (fun w hw v K1 k1=>?_) (fun v=>?_)
  .walk_at "r"
   exact k1 _
  .rw [show ws.map (fun w=>D.int (w.length:Int))=(ws.map fun w=>(w.length:Int)).map D.int by rw [List.map_map];rfl]
   walk_at "r"
   exact q
theorem qc:∀ds Q,bT ds Q->dg eV j4 ds Q:=fun ds Q h=>by
 unfold bT at h
 split at h
 .exact ou _ _ _ _ h
 .exact h.elim
def fR:PTS:=(aF (a6 (eE (ae (pFz (aP 0)) am)) (au 2)) (aF (gc (dh (eE (ae (pFz (pC (.int 0))) (ae (pFz (pC (.int 1))) am)))) (au 3) (aF (gc (dh (eE (ae (pFz (pC (.int 1))) (ae (pFz (pUn Cv (pFz (pC (.int 1))))) am)))) (au 4) (aF (zZ 5 0 (pOp cP (pFz (pOp fIx (pFz (pOp fIx (pSl 5) (pSl 3))) (pSl 1))) (pSl 4)) (aP 3) (aP 1)) (gv (vk 2 (aP 5))))) (aF (zZ 5 0 (pOp cP (pFz (pOp fIx (pFz (pOp fIx (pSl 5) (pSl 3))) (pSl 1))) (pFz (pOp zH (pFz (pC (.int 10))) (pFz (pC (.int 20)))))) (aP 3) (aP 1)) (gv (vk 2 (aP 5)))))) (bH (aP 2))))
theorem qd (ds:List D) (a:Int) (Q:PV->Prop) (h:cr ([.lst ds,.int a]) Q):dg fR lF ([.lst ds,.int a]) Q:=by
 show fR _ [some (.dat (.lst ds)),some (.dat (.int a)),none,none,none,none]
 obtain ⟨gs,ts,rfl,j,rfl,⟨hl,hj⟩,q⟩:=h
 walk_at "r"
 refine ⟨fun k ρ=>∃(Ms:List (List Int×List Int)) (v3 v4 v5:Option PV),(∀p∈Ms,Pp gs.length p)/\Ms.length=1 + 3 * k/\ρ=[some (.dat (.lst [di gs,di ts])),some (.dat (.int (j:Int))),some (.own (Ms.map prD)),v3,v4,v5],⟨[(gs,ts)],_,_,_,fun p hp=>by rw [List.mem_singleton.mp hp];exact ⟨rfl,hl.symm⟩,rfl,rfl⟩,?_,?_⟩
 .rintro k ρ d hk ed ⟨Ms,v3,v4,v5,hM,hMl,rfl⟩
  have hk:k < 2:=hk
  obtain rfl:d=.int (k:Int):=by
   rw [ed]
   have:k=0\/k=1:=by omega
   rcases this with rfl | rfl <;> rfl
  have h2:=Ae (n:=gs.length) (i:=k) hk rfl hl.symm
  have hMm:(Ms.map prD).length=Ms.length:=List.length_map _
  walk_at "r"
  refine ⟨fun m ρ=>∃(Ms:List (List Int×List Int)) (v4 v5:Option PV),(∀p∈Ms,Pp gs.length p)/\Ms.length=1 + 3 * k + m/\ρ=[some (.dat (.lst [di gs,di ts])),some (.dat (.int (j:Int))),some (.own (Ms.map prD)),some (.dat (.int (k:Int))),v4,v5],⟨Ms,_,_,hM,hMl,rfl⟩,?_,?_⟩
  .clear hMl hM hMm
   rintro m ρ d hm ed2 ⟨Ms,v4,v5,hM,hMl,rfl⟩
   have hMm:(Ms.map prD).length=Ms.length:=List.length_map _
   have hm:m < 2:=hm
   obtain ⟨o,rfl⟩:∃o:Int,d=.int o:=by
    rw [ed2]
    have:m=0\/m=1:=by omega
    rcases this with rfl | rfl <;> exact ⟨_,rfl⟩
   walk_at "r"
   refine ⟨_,_,[gs,ts].map (fun r:List Int=>r.map D.int),rfl,by show 5 < 6;decide,.inl rfl,yv [gs,ts],by show 2<=1000;decide,?_⟩
   unfold xO
   simp only [Ca]
   dsimp only [List.set,List.map_cons,List.map_nil,Option.map_some,Option.map_none,PV.d]
   walk_at "r"
   refine ⟨_,wn (M:=[gs,ts]) (i:=k) hk,?_⟩
   walk_at "r"
   refine ⟨_,iG (by omega),?_⟩
   walk_at "r"
   refine ⟨k,_,jG (by show k < 2;omega),sD (M:=[gs,ts]) hk,?_⟩
   walk_at "r"
   refine ⟨j,jG (by rw [List.length_map];omega),?_⟩
   rw [sE,wm]
   obtain ⟨p,ep,hp⟩:=sF (n:=gs.length) (i:=k) (j:=j) (z:=([gs,ts].getD k []).getD j 0 + o) hk rfl hl.symm
   rw [ep]
   walk_at "r"
   refine ⟨Ms++[p],_,_,fun x hx=>?_,by rw [List.length_append];show Ms.length + 1=_;omega,by rw [List.map_append];rfl⟩
   rcases List.mem_append.mp hx with hx | hx
   .exact hM x hx
   .rw [List.mem_singleton.mp hx];exact hp
  .clear hMl hM hMm
   rintro ρ ⟨Ms,v4,v5,hM,hMl,rfl⟩
   have hMl:Ms.length=1 + 3 * k + 2:=hMl
   have hMm:(Ms.map prD).length=Ms.length:=List.length_map _
   walk_at "r"
   refine ⟨_,_,[gs,ts].map (fun r:List Int=>r.map D.int),rfl,by show 5 < 6;decide,.inl rfl,yv [gs,ts],by show 2<=1000;decide,?_⟩
   unfold xO
   simp only [Ca]
   dsimp only [List.set,List.map_cons,List.map_nil,Option.map_some,Option.map_none,PV.d]
   walk_at "r"
   refine ⟨_,wn (M:=[gs,ts]) (i:=k) hk,?_⟩
   walk_at "r"
   refine ⟨_,iG (by omega),?_⟩
   walk_at "r"
   refine ⟨k,_,jG (by show k < 2;omega),sD (M:=[gs,ts]) hk,?_⟩
   walk_at "r"
   refine ⟨j,jG (by rw [List.length_map];omega),?_⟩
   rw [sE,wm]
   obtain ⟨p,ep,hp⟩:=sF (n:=gs.length) (i:=k) (j:=j) (z:=([gs,ts].getD k []).getD j 0 + 10 ^ Int.toNat 20) hk rfl hl.symm
   rw [ep]
   walk_at "r"
   refine ⟨Ms++[p],_,_,_,fun x hx=>?_,by rw [List.length_append];show Ms.length + 1=_;omega,by rw [List.map_append];rfl⟩
   rcases List.mem_append.mp hx with hx | hx
   .exact hM x hx
   .rw [List.mem_singleton.mp hx];exact hp
 .rintro ρ ⟨Ms,v3,v4,v5,hM,hMl,rfl⟩
  have hMl:Ms.length=1 + 3 * 2:=hMl
  walk_at "r"
  exact q Ms hM (by omega) (by omega)
theorem rn:∀ds Q,cr ds Q->dg fR lF ds Q:=fun ds Q h=>by
 unfold cr at h
 split at h
 .exact qd _ _ _ h
 .exact h.elim
def eh:PTS:=(aF (a6 (aP 0) (me 2 (fV (au 2) (fV (au 3) qE)))) (aF (a6 (pCB qJ (ae (pSl 2) am)) (au 4)) (aF (sd 4 (pC (.bl true)) (aP 1)) (aF (a6 (pCB qJ (ae (pSl 3) am)) (au 5)) (aF (sd 5 (pC (.str [57])) (aP 1)) (aF (a6 (eE (ae (pFz (pC .non)) (ae (pFz (pC (.int 9))) (ae (pFz (pC (.str [97,98]))) (ae (pFz BP) (ae (pFz (Cq am)) (ae (pFz (eE (ae (pFz (aP 2)) am))) (ae (pFz (eE (ae (pFz (aP 2)) (ae (pFz (aP 3)) (ae (pFz (aP 3)) am))))) (ae (pFz (eE (ae (pFz (dN (pSl 2) (df (pC (.int 1))) eJ)) (ae (pFz (aP 3)) am)))) (ae (pFz (eE (ae (pFz (aP 2)) (ae (pFz (dN (pSl 3) (df (pC (.int 1))) eJ)) am)))) am)))))))))) (au 6)) (aF (a6 (pOp cP (pSl 6) (pFz (eE (ae (pFz (eE (ae (pFz (pOp cP (pSl 2) (pFz (eE (ae (pFz (pC (.int 9))) am))))) (ae (pFz (aP 3)) am)))) (ae (pFz (eE (ae (pFz (aP 2)) (ae (pFz (pOp cP (pSl 3) (pFz (eE (ae (pFz (pC (.int 9))) am))))) am)))) (ae (pFz (eE (ae (pFz (aP 4)) (ae (pFz (aP 3)) am)))) (ae (pFz (eE (ae (pFz (aP 2)) (ae (pFz (aP 5)) am)))) (ae (pFz (eE (ae (pFz (pC .non)) (ae (pFz (aP 3)) am)))) am)))))))) (au 6)) (bH (pOp cP (pSl 6) (pFz (eE (ae (pFz (eE (ae (pFz (aP 2)) (ae (pFz (pC (.int 9))) am)))) (ae (pFz (eE (ae (pFz (aP 2)) (ae (pFz (pC (.str [97,98]))) am)))) am)))))))))))))
theorem mD (ds:List D) (a:Int) (Q:PV->Prop) (h:bB ([.lst ds,.int a]) Q):dg eh iZ ([.lst ds,.int a]) Q:=by
 show eh _ [some (.dat (.lst ds)),some (.dat (.int a)),none,none,none,none,none]
 obtain ⟨gs,ts,rfl,j,rfl,⟨hl,hj,hn⟩,q⟩:=h
 have hgm:(gs.map D.int).length=gs.length:=List.length_map _
 have htm:(ts.map D.int).length=gs.length:=by rw [List.length_map,hl]
 walk_at "r"
 refine ⟨j,jG (by omega),?_⟩
 walk_at "r"
 refine ⟨j,jG (by omega),?_⟩
 walk_at "r"
 exact q _ (tY hl hj hn) (by show 16<=20;decide)
theorem oy:∀ds Q,bB ds Q->dg eh iZ ds Q:=fun ds Q h=>by
 unfold bB at h
 split at h
 .exact mD _ _ _ h
 .exact h.elim
def eW:PTS:=(aF (a6 (bh bT (ae (pFz (aP 1)) (ae (pFz (aP 2)) (ae (pFz (aP 3)) am)))) (au 5)) (aF (a6 (eE (ae (pFz (pCB gw (ae (pFz (pOp fIx (pSl 3) (pFz (pC (.int 0))))) am))) (ae (pFz (pCB qJ (ae (pFz (pOp fIx (pSl 3) (pFz (pC (.int 1))))) am))) am))) (au 6)) (aF (a6 (bh aN (ae (pFz (aP 0)) (ae (pFz (aP 6)) am))) (au 7)) (aF (jS (pB (pOp tN (pSl 6) (pFz (eE (ae (pFz (pCB gw (ae (pFz (pOp fIx (pSl 3) (pFz (pC (.int 0))))) am))) (ae (pFz (pCB qJ (ae (pFz (pOp fIx (pSl 3) (pFz (pC (.int 1))))) am))) am)))))) (bH (pC (.bl false))) cF) (aF (jS (pB (pOp (fIs false) (pSl 5) (pFz (pC .non)))) (bH (pOp (fIs false) (pSl 7) (pFz (pC .non)))) cF) (aF (jS (pOr (xk (pB (bh bS (ae (pFz (aP 7)) am)))) (pOr (pB (pOp tN (pSl 7) (pSl 5))) (pB (pOp tN (pFz (bh aN (ae (pFz (aP 0)) (ae (pFz (pCB gw (ae (pSl 3) am))) am)))) (pSl 5))))) (bH (pC (.bl false))) cF) (bH (pOp uh (pFz (dr [none,some 7] (dh (aP 4)) (au 0) (pB (pOp fLt (pFz (pCB gb (ae (pSl 0) am))) (pSl 1))) (aP 0))) (pFz (eE am))))))))))
theorem oz (c:Str) (ns:List Str) (fs ds es ps xs:List D) (Q:PV->Prop) (h:bf ([.obj c ns fs,.lst ds,.lst es,.lst ps,.lst xs]) Q):dg eW j6 ([.obj c ns fs,.lst ds,.lst es,.lst ps,.lst xs]) Q:=by
 show eW _ [some (.dat (.obj c ns fs)),some (.dat (.lst ds)),some (.dat (.lst es)),some (.dat (.lst ps)),some (.dat (.lst xs)),none,none,none]
 obtain ⟨rfl,rfl,pcs,rfl,rfl,rfl,gs,ts,rfl,tx,rfl,⟨hn,hg,ht,hx,hxl⟩,q⟩:=h
 have hgm:(gs.map D.int).length<=1000:=by rw [List.length_map];omega
 have ok1:okP (.lst [.tup (gs.map .int),di ts])/\(az pcs).length<=40:=⟨fj (Rk.tup hgm (gJ gs)) (Rk.row (by omega)),hn⟩
 have ok2:okP (.tup [di gs,di ts])/\(az pcs).length<=40:=⟨Af (Rk.row (by omega)) (Rk.row (by omega)),hn⟩
 have b1:xS (.lst [.tup (gs.map .int),di ts]) pcs=ww (az pcs) gs ts:=yx (.inl rfl) (.inr rfl) (.inl rfl) hg ht
 have b2:xS (.tup [di gs,di ts]) pcs=ww (az pcs) gs ts:=yx (.inr rfl) (.inl rfl) (.inl rfl) hg ht
 have e1:ue (.lst [.tup (gs.map .int),di ts]) (.lst [.tup (gs.map .int),di ts]):=ue.of (qZ gs ts) (qZ gs ts)
 have e2:=si (qZ gs ts)
 walk_at "r"
 refine ⟨gs,ts,rfl,⟨hn,hg,ht⟩,?_⟩
 walk_at "r"
 rw [show deq (D.lst [D.tup (gs.map D.int),D.lst (ts.map D.int)]) (D.lst [D.tup (gs.map D.int),D.lst (ts.map D.int)])=true from e2,show xS (D.lst [D.tup (gs.map D.int),D.lst (ts.map D.int)]) pcs=ww (az pcs) gs ts from b1]
 by_cases hp:yu (az pcs) gs ts
 .rw [sC hp] at b2 ⊢
  walk_at "r"
  rw [b2]
  walk_at "r"
  have hb:∀t∈tx,((az pcs).map fun w=>(w.length:Int)).sum - gs.sum - ts.sum<=(t.length:Int):=fun t h=>by
   obtain ⟨js,h1,h2⟩:=hx t h
   exact Int.le_trans (wp hp hg ht h1) h2
  generalize ((az pcs).map fun w=>(w.length:Int)).sum - gs.sum - ts.sum=B at hb
  refine cf1 (e:=D.str) (xs:=tx) (fun t=>decide ((t.length:Int) < B)) (fun t=>.str t) (fun t ht v K1 K2 k1 k2=>?_) (fun v=>?_)
  .walk_at "r"
   refine rX (fun c=>?_) (fun c=>?_)
   .walk_at "r"
    exact k1 _ c
   .exact k2 _ c
  .rw [List.filter_eq_nil_iff.mpr fun t h=>by have:=hb t h;rw [decide_eq_true_eq];omega]
   have e3:ue (.lst []) (.lst []):=ue.of (Sh.lstI []) (Sh.lstI [])
   have e4:deq (.lst []) (.lst [])=true:=si (Sh.lstI [])
   walk_at "r"
   rw [List.map_nil,e4]
   exact q
 .rw [n5 hp] at b2 ⊢
  walk_at "r"
  exact q
theorem qe:∀ds Q,bf ds Q->dg eW j6 ds Q:=fun ds Q h=>by
 unfold bf at h
 split at h
 .exact oz _ _ _ _ _ _ _ _ h
 .exact h.elim
def sN:PTS:=(aF (a6 (bh cj (ae (pFz (aP 0)) (ae (pFz (pC (.int 160))) am))) (au 1)) (aF (a6 (cX bR 1 (ae (pFz (pC (.int 6))) am)) (au 2)) (aF (a6 (bh bN (ae (pFz (aP 2)) am)) (au 3)) (aF (a6 (dr [none,some 3] (dh (aP 3)) (au 0) k6 (dr [none,some 0] (dh (aP 1)) (au 0) k6 (bh aT (ae (pFz (aP 1)) (ae (pFz (aP 0)) am))))) (au 4)) (aF (a6 (zG "Family" bp (ae (pFz (aP 2)) am)) (au 5)) (aF (a6 (cX bR 1 (ae (pFz (pC (.int 3))) am)) (au 6)) (aF (a6 (eE (ae (pFz (cX br 1 (ae (pFz (aP 3)) am))) (ae (pFz (cX br 1 (ae (pFz (aP 3)) am))) am))) (au 7)) (aF (a6 (cX b9 1 (ae (pFz (aP 4)) am)) (au 8)) (aF (a6 (pOp jn (pFz (cX aG 1 am)) (pFz (pCB gb (ae (pSl 3) am)))) (au 9)) (aF (gc (dh (bh cr (ae (pFz (aP 8)) (ae (pFz (aP 9)) am)))) (au 10) (jS (xk (pB (bh bf (ae (pFz (aP 5)) (ae (pFz (aP 3)) (ae (pFz (aP 4)) (ae (pFz (aP 10)) (ae (pFz (aP 7)) am)))))))) (bH (pC (.bl false))) cF)) (aF (a6 (bh bN (ae (pFz (aP 6)) am)) (au 11)) (aF (a6 (dr [none,some 11] (dh (aP 11)) (au 0) k6 (dr [none,some 0] (dh (aP 1)) (au 0) k6 (bh aT (ae (pFz (aP 1)) (ae (pFz (aP 0)) am))))) (au 12)) (aF (jS (xk (pB (bh bf (ae (pFz (zG "Family" bp (ae (pFz (aP 6)) am))) (ae (pFz (aP 11)) (ae (pFz (aP 12)) (ae (pFz (bh a8 (ae (pFz (aP 12)) (ae (pFz (aP 9)) am)))) (ae (pFz (eE am)) am)))))))) (bH (pC (.bl false))) cF) (aF (gc (dh (bh bB (ae (pFz (aP 8)) (ae (pFz (aP 9)) am)))) (au 13) (jS (pB (pOp (fIs true) (pFz (bh aN (ae (pFz (aP 5)) (ae (pFz (aP 13)) am)))) (pFz (pC .non)))) (bH (pC (.bl false))) cF)) (bH (bh bf (ae (pFz (aP 5)) (ae (pFz (aP 3)) (ae (pFz (aP 4)) (ae (pFz (aP 8)) (ae (pFz (aP 7)) am)))))))))))))))))))))
theorem Ah (ns:List Int) (h63:ns.length<=63) (Q:PV->Prop) (q:Q (.dat (.bl true))):dg sN yz [.scr ns] Q:=by
 show sN _ [some (.dat (.scr ns)),none,none,none,none,none,none,none,none,none,none,none,none,none]
 walk_at "r"
 rintro z1 hz1 hl1
 have hl1:z1.length=160:=hl1
 have g1:Dk z1/\4 + (6:Int)<=(z1.length:Int)/\z1.length<=10000/\(1:Int)<=6/\(6:Int)<=40:=⟨hz1,by omega,by omega,by decide,by decide⟩
 walk_at "r"
 rintro ps z2 hp0 hp6 hps hz2 hl2 hl2'
 have hp6:ps.length<=6:=by omega
 have hk:ps.length<=40/\∀w∈ps,w.length<=60/\Lts w:=⟨by omega,fun w hw=>⟨(hps w hw).2.1,(hps w hw).2.2⟩⟩
 have hw0:=sK (fun w hw=>(hps w hw).2.1) hp0
 have hwn:=fg ps
 have hwo:=D5 hk.1 hps
 have hwm:((az ps).map D.str).length=(az ps).length:=List.length_map _
 walk_at "r"
 refine cm1 (e:=D.str) (xs:=az ps) (fun w=>As (az ps) w) (fun w hw v K1 k1=>?_) (fun v=>?_)
 .have w1:=hwo.2 w hw
  walk_at "r"
  refine cm1 (e:=D.str) (xs:=az ps) (fun u=>.int (eH w u:Int)) (fun u hu v K1 k1=>?_) (fun v=>?_)
  .have u1:=hwo.2 u hu
   walk_at "r"
   exact k1 _
  .exact k1 _
 walk_at "r"
 rintro p2 z3 hq0 hq3 hqs hz3 hl3 hl3'
 have hq3:p2.length<=3:=by omega
 have hk2:p2.length<=40/\∀w∈p2,w.length<=60/\Lts w:=⟨by omega,fun w hw=>⟨(hqs w hw).2.1,(hqs w hw).2.2⟩⟩
 have g2:yt (az ps)/\Dk z3/\2 * (az ps).length + 3<=z3.length/\z3.length<=10000:=⟨hwo,hz3,by omega,by omega⟩
 walk_at "r"
 rintro j1 t1 z4 hj1 ht1 ht1' hz4 hl4 hl4'
 have g3:yt (az ps)/\Dk z4/\2 * (az ps).length + 3<=z4.length/\z4.length<=10000:=⟨hwo,hz4,by omega,by omega⟩
 walk_at "r"
 rintro j2 t2 z5 hj2 ht2 ht2' hz5 hl5 hl5'
 have g4:(az ps).length<=40/\Dk z5/\(az ps).length + 1<=z5.length/\z5.length<=10000:=⟨hwo.1,hz5,by omega,by omega⟩
 have hlm:((az ps).map fun w=>As (az ps) w)=gj (az ps):=rfl
 rw [hlm]
 walk_at "r"
 rintro gs ts z6 hg ht hz6 hl6 hl6'
 have g5:Dk z6/\0 < z6.length/\z6.length<=100000:=⟨hz6,by omega,by omega⟩
 walk_at "r"
 rintro y z7 hy0 hy1 hz7 hl7
 have hg1:=hg.1
 have ht1x:=ht.1
 obtain ⟨j,hj⟩:∃j:Nat,y % ((az ps).length:Int)=(j:Int):=⟨(y % ((az ps).length:Int)).toNat,by have:=Int.emod_nonneg y (show ((az ps).length:Int)≠0 by omega);omega⟩
 have hjw:j < (az ps).length:=by have:=Int.emod_lt_of_pos y (show 0 < ((az ps).length:Int) by omega);omega
 walk_at "r"
 rw [hwm,hj]
 refine ⟨gs,ts,rfl,j,rfl,⟨by omega,by omega⟩,fun Ms hM hMl hM0=>?_⟩
 have hMm:(Ms.map prD).length=Ms.length:=List.length_map _
 have hT:(∀t∈[t1,t2],∃js:List Nat,js.Perm (List.range (az ps).length)/\glL (az ps) js (az ps).length<=t.length)/\[t1,t2].length<=40:=⟨fun t h=>by
  rcases List.mem_cons.mp h with rfl | h
  .exact ⟨j1,hj1,ht1⟩
  .rw [List.mem_singleton.mp h];exact ⟨j2,hj2,ht2⟩,by show 2<=40;decide⟩
 show ∃I,_
 refine ⟨fun k ρ=>∃(f5 f7:PV) (v10:Option PV),((k=0/\f5=.ins "Family" qT (qU ps)/\f7=.own [.str t1,.str t2])\/(0 < k/\f5=.dat (.obj "Family" qT (qU ps))/\f7=.dat (.lst [.str t1,.str t2])))/\ρ=[some (.dat (.scr ns)),some (.own (z7.map .int)),some (.dat (.lst (ps.map .str))),some (.dat (.lst ((az ps).map .str))),some (.dat (.lst (gj (az ps)))),some f5,some (.dat (.lst (p2.map .str))),some f7,some (.dat (.lst [di gs,di ts])),some (.dat (.int (j:Int))),v10,none,none,none],⟨_,_,_,.inl ⟨rfl,rfl,rfl⟩,rfl⟩,?_,?_⟩
 .rintro k ρ d hk' ed ⟨f5,f7,v10,hf,rfl⟩
  have hk3:k < Ms.length:=by rw [<- hMm];exact hk'
  obtain rfl:d=prD (Ms.getD k ([],[])):=by
   rw [ed]
   exact jT (by rw [List.getElem?_map,List.getElem?_eq_getElem hk3,List.getD_eq_getElem?_getD,List.getElem?_eq_getElem hk3];rfl)
  have hm:=hM _ (sI (d:=([],[])) hk3)
  generalize Ms.getD k ([],[])=m at hm
  obtain ⟨mg,mt⟩:=m
  rcases hf with ⟨rfl,rfl,rfl⟩ | ⟨hk0,rfl,rfl⟩
  .walk_at "r"
   refine ⟨mg,mt,rfl,[t1,t2],rfl,⟨hwo.1,hm.1.trans hg1,hm.2.trans hg1,hT.1,hT.2⟩,?_⟩
   walk_at "r"
   exact ⟨_,_,_,.inr ⟨by omega,rfl,rfl⟩,rfl⟩
  .walk_at "r"
   refine ⟨mg,mt,rfl,[t1,t2],rfl,⟨hwo.1,hm.1.trans hg1,hm.2.trans hg1,hT.1,hT.2⟩,?_⟩
   walk_at "r"
   exact ⟨_,_,_,.inr ⟨by omega,rfl,rfl⟩,rfl⟩
 .rintro ρ ⟨f5,f7,v10,hf,rfl⟩
  rcases hf with ⟨e,_⟩ | ⟨_,rfl,rfl⟩
  .rw [hMm] at e;omega
  have hq0:=sK (fun w hw=>(hqs w hw).2.1) hq0
  have hqn:=fg p2
  have hqo:=D5 hk2.1 hqs
  have hqm:((az p2).map D.str).length=(az p2).length:=List.length_map _
  walk_at "r"
  refine cm1 (e:=D.str) (xs:=az p2) (fun w=>As (az p2) w) (fun w hw v K1 k1=>?_) (fun v=>?_)
  .have w1:=hqo.2 w hw
   walk_at "r"
   refine cm1 (e:=D.str) (xs:=az p2) (fun u=>.int (eH w u:Int)) (fun u hu v K1 k1=>?_) (fun v=>?_)
   .have u1:=hqo.2 u hu
    walk_at "r"
    exact k1 _
   .exact k1 _
  have hlq:((az p2).map fun w=>As (az p2) w)=gj (az p2):=rfl
  rw [hlq]
  walk_at "r"
  intro g2s t2s hg2 ht2s
  walk_at "r"
  refine ⟨g2s,t2s,rfl,[],rfl,⟨hqo.1,hg2.1,ht2s.1,(fun t h=>nomatch h),Nat.zero_le _⟩,?_⟩
  walk_at "r"
  refine ⟨gs,ts,rfl,j,rfl,⟨by omega,by omega,by omega⟩,fun es hes hel=>?_⟩
  walk_at "r"
  refine ⟨fun k ρ=>∃v13:Option PV,ρ=[some (.dat (.scr ns)),some (.own (z7.map .int)),some (.dat (.lst (ps.map .str))),some (.dat (.lst ((az ps).map .str))),some (.dat (.lst (gj (az ps)))),some (.dat (.obj "Family" qT (qU ps))),some (.dat (.lst (p2.map .str))),some (.dat (.lst [.str t1,.str t2])),some (.dat (.lst [di gs,di ts])),some (.dat (.int (j:Int))),v10,some (.dat (.lst ((az p2).map .str))),some (.dat (.lst (gj (az p2)))),v13],⟨_,rfl⟩,?_,?_⟩
  .rintro k ρ d hk4 ed ⟨v13,rfl⟩
   have hd:d∈es:=by rw [ed];exact List.mem_of_getElem? (qG hk4)
   obtain ⟨o1,o2⟩:=hes d hd
   rw [hg1] at o2
   have o3:okP d/\(az ps).length<=40:=⟨o1,hwo.1⟩
   have o4:=xW o2
   walk_at "r"
   rw [o4]
   walk_at "r"
   exact ⟨_,rfl⟩
  .rintro ρ ⟨v13,rfl⟩
   walk_at "r"
   refine ⟨gs,ts,rfl,[t1,t2],rfl,⟨hwo.1,hg1,ht1x,hT.1,hT.2⟩,?_⟩
   walk_at "r"
   exact q
theorem Ce:∀ds Q,sL ds Q->dg sN yz ds Q:=fun ds Q h=>by
 obtain ⟨ns,rfl,h63,q⟩:=h
 exact Ah ns h63 Q q
section
variable {P:Program}{w:World}{K:PySem.W.Frag}{mg:Str->Option Value}{base:Heap}
theorem qf:∀ds Q,cC ds Q->ds.length=1:=fun ds Q h=>by unfold cC at h;split at h;(first | rfl | exact h.elim);(first | rfl | exact h.elim)
theorem wt (D:cE K mg "is_row" nW) (T:Txt mg) (TC:TxC K) (TX:TxX K mg):Cal P w K mg base 1 "is_row" ["thing"] (spP K cC):=by
 refine D.ok wc (fun _ _ _ _ _ _ us hl=>match us,hl with | [_],_=>rfl) (fun vs H Q E h=>?_) (fun f cdv A outer s H vs Q E hr h=>?_)
 .exact ir qf h
 .have hu:=hr.units
  exact ⟨_,(ax (aV (ar (Df K rfl) rfl T.b_isinstance boot_isinstance (paC (pv 0) (paC (rL (paC (ij (v:=.ty "list") rfl T.b_list boot_list rfl) (paC (ij (v:=.ty "tuple") rfl T.b_tuple boot_tuple rfl) ag))) ag))))),fnP (K:=K) (c:=cC) (ps:=i3) (N:=["thing"]) (aW (Bw .list .tuple l8 (ak (i:=0)))) (fun ds Q h=>Nat.le_trans (Nat.le_of_eq (qf ds Q h)) (by decide)) wq h⟩
theorem j7:∀ds Q,bG ds Q->ds.length=1:=fun ds Q h=>by unfold bG at h;split at h;(first | rfl | exact h.elim);(first | rfl | exact h.elim)
theorem qg (D:cE K mg "is_number" iy) (T:Txt mg) (TC:TxC K) (TX:TxX K mg):Cal P w K mg base 1 "is_number" ["thing"] (spP K bG):=by
 refine D.ok pP (fun _ _ _ _ _ _ us hl=>match us,hl with | [_],_=>rfl) (fun vs H Q E h=>?_) (fun f cdv A outer s H vs Q E hr h=>?_)
 .exact ir j7 h
 .have hu:=hr.units
  exact ⟨_,(ax (aV (jM (ar (vg K rfl) rfl T.b_isinstance boot_isinstance (paC (pv 0) (paC (ij (v:=.ty "int") rfl T.b_int boot_int rfl) ag))) (mO (um (ar (vg K rfl) rfl T.b_isinstance boot_isinstance (paC (pv 0) (paC (ij (v:=.ty "bool") rfl T.b_bool boot_bool rfl) ag)))))))),fnP (K:=K) (c:=bG) (ps:=eP) (N:=["thing"]) (aW (jR (pA .int (ak (i:=0))) (vd (pA .bool (ak (i:=0)))))) (fun ds Q h=>Nat.le_trans (Nat.le_of_eq (j7 ds Q h)) (by decide)) pU h⟩
theorem hZ:∀ds Q,bn ds Q->ds.length=2:=fun ds Q h=>by unfold bn at h;split at h;(first | rfl | exact h.elim);(first | rfl | exact h.elim)
theorem mE (D:cE K mg "are_numbers" fB) (T:Txt mg) (TC:TxC K) (TX:TxX K mg) (C_is_number:Cal P w K mg base 1 "is_number" ["thing"] (spP K bG)) (C_is_row:Cal P w K mg base 1 "is_row" ["thing"] (spP K cC)):Cal P w K mg base 2 "are_numbers" ["thing","many"] (spP K bn):=by
 refine D.ok mf (fun _ _ _ _ _ _ us hl=>match us,hl with | [_,_],_=>rfl) (fun vs H Q E h=>?_) (fun f cdv A outer s H vs Q E hr h=>?_)
 .exact ir hZ h
 .have hu:=hr.units
  exact ⟨_,(ax (aV (jM (aD C_is_row (hr.mono (by decide)) (paC (pv 0) ag)) (jM (ei (l9 K rfl hu) (ar (cR K rfl) rfl T.b_len PySem.boot_len (paC (pv 0) ag)) (pv 1) (bj _)) (mO (ar (vn K rfl rfl) rfl T.b_all boot_all (paC (cf (wi:=(gm K (a9 0))) (g:=(bY 0)) (tts:=ja) (te:=(eY (spP K bG) [] E0 (bx (a9 0) e9))) ["item"] [none] rfl (bU K rfl (pv 0)) (fun _ _ _ _=>⟨(aE (i:=0) (by show List.Nodup (["item"]:List Str);decide +kernel) rfl (by first | exact Or.inl rfl | exact Or.inr rfl)),cA,(aD C_is_number (hr.mono (by decide)) (paC (pv 0) ag))⟩) (by kernel_rfl)) ag))))))),fnP (K:=K) (c:=bn) (ps:=dD) (N:=["thing","many"]) (aW (jR (aH (c:=cC) (aa (ac (ai (i:=0))) af)) (jR (al gW (ac (a4 bD (aa (ak (i:=0)) af))) (ak (i:=1))) (a4 pD (aa (ac (bE (ix:=[none]) rfl (b7 (ai (i:=0))) (fun fs hc=>(aB (i:=0) (iR hc (by decide)))) dn (aH (c:=bG) (aa (ac (ai (i:=0))) af)))) af))))) (fun ds Q h=>Nat.le_trans (Nat.le_of_eq (hZ ds Q h)) (by decide)) mj h⟩
theorem i5:∀ds Q,bu ds Q->ds.length=2:=fun ds Q h=>by unfold bu at h;split at h;(first | rfl | exact h.elim);(first | rfl | exact h.elim)
theorem oA (D:cE K mg "are_prices" gB) (T:Txt mg) (TC:TxC K) (TX:TxX K mg) (C_are_numbers:Cal P w K mg base 2 "are_numbers" ["thing","many"] (spP K bn)):Cal P w K mg base 3 "are_prices" ["thing","many"] (spP K bu):=by
 refine D.ok nX (fun _ _ _ _ _ _ us hl=>match us,hl with | [_,_],_=>rfl) (fun vs H Q E h=>?_) (fun f cdv A outer s H vs Q E hr h=>?_)
 .exact ir i5 h
 .have hu:=hr.units
  exact ⟨_,(ax (aV (jM (aD C_are_numbers (hr.mono (by decide)) (paC (pv 0) (paC (pv 1) ag))) (mO (ar (vn K rfl rfl) rfl T.b_all boot_all (paC (cf (wi:=(gm K (a9 0))) (g:=(bY 0)) (tts:=ja) (te:=(tOp Cu (a9 0) (tC (V.int 0)))) ["price"] [none] rfl (bU K rfl (pv 0)) (fun _ _ _ _=>⟨(aE (i:=0) (by show List.Nodup (["price"]:List Str);decide +kernel) rfl (by first | exact Or.inl rfl | exact Or.inr rfl)),cA,(ei Cw (pv 0) aq (bj _))⟩) (by kernel_rfl)) ag)))))),fnP (K:=K) (c:=bu) (ps:=d3) (N:=["thing","many"]) (aW (jR (aH (c:=bn) (aa (ac (ai (i:=0))) (aa (ac (ai (i:=1))) af))) (a4 pD (aa (ac (bE (ix:=[none]) rfl (b7 (ai (i:=0))) (fun fs hc=>(aB (i:=0) (iR hc (by decide)))) dn (al xo (ak (i:=0)) (ac le_int)))) af)))) (fun ds Q h=>Nat.le_trans (Nat.le_of_eq (i5 ds Q h)) (by decide)) n9 h⟩
theorem fk:∀ds Q,aX ds Q->ds.length=2:=fun ds Q h=>by unfold aX at h;split at h;(first | rfl | exact h.elim);(first | rfl | exact h.elim)
theorem jJ (D:cE K mg "is_price_paper" dW) (T:Txt mg) (TC:TxC K) (TX:TxX K mg) (C_are_prices:Cal P w K mg base 3 "are_prices" ["thing","many"] (spP K bu)) (C_is_row:Cal P w K mg base 1 "is_row" ["thing"] (spP K cC)):Cal P w K mg base 4 "is_price_paper" ["thing","many"] (spP K aX):=by
 refine D.ok jD (fun _ _ _ _ _ _ us hl=>match us,hl with | [_,_],_=>rfl) (fun vs H Q E h=>?_) (fun f cdv A outer s H vs Q E hr h=>?_)
 .exact ir fk h
 .have hu:=hr.units
  exact ⟨_,(ax (aV (jM (aD C_is_row (hr.mono (by decide)) (paC (pv 0) ag)) (jM (ei (l9 K rfl hu) (ar (cR K rfl) rfl T.b_len PySem.boot_len (paC (pv 0) ag)) aq (bj _)) (mO (ar (vn K rfl rfl) rfl T.b_all boot_all (paC (cf (wi:=(gm K (a9 0))) (g:=(bY 0)) (tts:=ja) (te:=(eY (spP K bu) [] E0 (bx (a9 0) (bx (a9 1) e9)))) ["row","many"] [none,some 1] rfl (bU K rfl (pv 0)) (fun _ _ _ _=>⟨(aE (i:=0) (by show List.Nodup (["row","many"]:List Str);decide +kernel) rfl (by first | exact Or.inl rfl | exact Or.inr rfl)),cA,(aD C_are_prices (hr.mono (by decide)) (paC (pv 0) (paC (pv 1) ag)))⟩) (by kernel_rfl)) ag))))))),fnP (K:=K) (c:=aX) (ps:=cU) (N:=["thing","many"]) (aW (jR (aH (c:=cC) (aa (ac (ai (i:=0))) af)) (jR (al gW (ac (a4 bD (aa (ak (i:=0)) af))) (ac le_int)) (a4 pD (aa (ac (bE (ix:=[none,some 1]) rfl (b7 (ai (i:=0))) (fun fs hc=>(aB (i:=0) (iR hc (by decide)))) dn (aH (c:=bu) (aa (ac (ai (i:=0))) (aa (ac (ai (i:=1))) af))))) af))))) (fun ds Q h=>Nat.le_trans (Nat.le_of_eq (fk ds Q h)) (by decide)) jH h⟩
theorem nh:∀ds Q,cT ds Q->ds.length=3:=fun ds Q h=>by unfold cT at h;split at h;(first | rfl | exact h.elim);(first | rfl | exact h.elim)
theorem t8 (D:rS K mg "is_text" fh [.int 0,.int 4000]) (T:Txt mg) (TC:TxC K) (TX:TxX K mg):Bl P w K mg base 1 "is_text" ["thing","least","most"] [.int 0,.int 4000] (spP K cT):=by
 refine D.ok tU (fun dT kV doc pm an cdv ct items us n hi hn hl=>?_) (fun vs H Q E h=>?_) (fun f cdv A outer s H vs Q E hr h=>?_)
 .obtain ⟨i0,i1,rfl⟩:∃i0 i1,items=[i0,i1]:=match items,hi with | [i0,i1],_=>⟨i0,i1,rfl⟩
  have hn':n=0\/n=1\/n=2:=by (have:n<=2:=hn);omega
  rcases hn' with rfl | rfl | rfl
  .have hl2:us.length=1:=by (simp at hl;omega)
   match us,hl2 with
   | [_],_=>exact ⟨_,rfl,rfl⟩
  .have hl2:us.length=2:=by (simp at hl;omega)
   match us,hl2 with
   | [_,_],_=>exact ⟨_,rfl,rfl⟩
  .have hl2:us.length=3:=by (simp at hl;omega)
   match us,hl2 with
   | [_,_,_],_=>exact ⟨_,rfl,rfl⟩
 .exact ir nh h
 .have hu:=hr.units
  exact ⟨_,(ah (dP (PW.pt (wA (jL (et (ar (vg K rfl) rfl T.b_isinstance boot_isinstance (paC (pv 0) (paC (ij (v:=.ty "str") rfl T.b_str boot_str rfl) ag))))) (ul (jL (wE Ct Ct (pv 1) (ar (cR K rfl) rfl T.b_len PySem.boot_len (paC (pv 0) ag)) (pv 2)))))) (ax (aV lZ)) bJ) (ax (aV (ar (vn K rfl rfl) rfl T.b_all boot_all (paC (cf (wi:=(gm K (a9 0))) (g:=(bY 0)) (tts:=ja) (te:=(rK Cs Cs (tC (V.str (S [97]))) (a9 0) (tC (V.str (S [122]))))) ["sign"] [none] rfl (bU K rfl (pv 0)) (fun _ _ _ _=>⟨(aE (i:=0) (by show List.Nodup (["sign"]:List Str);decide +kernel) rfl (by first | exact Or.inl rfl | exact Or.inr rfl)),cA,(wD Ct Ct (c8 (l:=[97]) (by decide +kernel)) (pv 0) (c8 (l:=[122]) (by decide +kernel)))⟩) (by kernel_rfl)) ag))))),fnP (K:=K) (c:=cT) (ps:=gO) (N:=["thing","least","most"]) (ay (dS (xl (jQ (ud (pA .str (ak (i:=0))))) (jQ (gk (rY xn xn (ak (i:=1)) (ac (a4 bD (aa (ak (i:=0)) af))) (ak (i:=2)))))) (aW l5) bM) (aW (a4 pD (aa (ac (bE (ix:=[none]) rfl (b7 (ai (i:=0))) (fun fs hc=>(aB (i:=0) (iR hc (by decide)))) dn (rY xn xn (ac (le_str (l:=[97]))) (ak (i:=0)) (ac (le_str (l:=[122])))))) af)))) (fun ds Q h=>Nat.le_trans (Nat.le_of_eq (nh ds Q h)) (by decide)) t5 h⟩
theorem h7:∀ds Q,aY ds Q->ds.length=2:=fun ds Q h=>by unfold aY at h;split at h;(first | rfl | exact h.elim);(first | rfl | exact h.elim)
theorem mF (D:cE K mg "first_place" fC) (T:Txt mg) (TC:TxC K) (TX:TxX K mg):Cal P w K mg base 1 "first_place" ["text","piece"] (spP K aY):=by
 refine D.ok mh (fun _ _ _ _ _ _ us hl=>match us,hl with | [_,_],_=>rfl) (fun vs H Q E h=>?_) (fun f cdv A outer s H vs Q E hr h=>?_)
 .exact ir h7 h
 .have hu:=hr.units
  exact ⟨_,(ax (aV (fU K rfl PySem.F.plainAttrs_str PySem.F.slot_str_find PySem.F.type_str_find xt (pv 0) (paC (pv 1) ag)))),fnP (K:=K) (c:=aY) (ps:=dE) (N:=["text","piece"]) (aW (BK xu (ai (i:=0)) (aa (ak (i:=1)) af))) (fun ds Q h=>Nat.le_trans (Nat.le_of_eq (h7 ds Q h)) (by decide)) mn h⟩
theorem ia:∀ds Q,bo ds Q->ds.length=1:=fun ds Q h=>by unfold bo at h;split at h;(first | rfl | exact h.elim);(first | rfl | exact h.elim)
theorem mG (D:cE K mg "other_pairs" fE) (T:Txt mg) (TC:TxC K) (TX:TxX K mg):Cal P w K mg base 1 "other_pairs" ["many"] (spP K bo):=by
 refine D.ok gX (fun _ _ _ _ _ _ us hl=>match us,hl with | [_],_=>rfl) (fun vs H Q E h=>?_) (fun f cdv A outer s H vs Q E hr h=>?_)
 .exact ir ia h
 .have hu:=hr.units
  exact ⟨_,(ah (aM (i:=1) gX.nd rfl (by first | exact Or.inl rfl | exact Or.inr rfl) (aS (vo K rfl rfl) rfl T.b_list boot_list (paC (kO rfl T.b_range (paC (pv 0) ag)) ag))) (ax (aV (xD (wi:=(gm K (a9 1))) (g:=(bY 0)) (tts:=ja) (wi2:=(gm K (a9 2))) (g2:=(bY 1)) (tts2:=(kh (tOp (pH K true) (a9 0) (a9 1)))) (te:=(Cm (bx (a9 0) (bx (a9 1) e9)))) ["i","j","numbers"] [none,none,some 1] rfl (bU K rfl (pv 1)) (fun _ _ _ _=>⟨(aE (i:=0) (by show List.Nodup (["i","j","numbers"]:List Str);decide +kernel) rfl (by first | exact Or.inl rfl | exact Or.inr rfl)),cA,(bU K rfl (pv 2)),(aE (i:=1) (by show List.Nodup (["i","j","numbers"]:List Str);decide +kernel) rfl (by first | exact Or.inl rfl | exact Or.inr rfl)),(eZ (aZ (li K rfl hu) (pv 0) (pv 1) (bj _))),(rL (paC (pv 0) (paC (pv 1) ag)))⟩) (by kernel_rfl))))),fnP (K:=K) (c:=bo) (ps:=dF) (N:=["many","numbers"]) (ay (aJ (nK false (aa (ac (ai (i:=0))) af)) (aC (i:=1) rfl)) (aW (xE (ix:=[none,none,some 1]) rfl (b7 (ai (i:=1))) (fun fs hc=>(aB (i:=0) (iR hc (by decide)))) dn (b7 (ai (i:=2))) (fun fs hc=>(aB (i:=1) (iR hc (by decide)))) (gk (al gz (ak (i:=0)) (ak (i:=1)))) (vc (aa (ac (ai (i:=0))) (aa (ac (ai (i:=1))) af)))))) (fun ds Q h=>Nat.le_trans (Nat.le_of_eq (ia ds Q h)) (by decide)) mq h⟩
theorem j8:∀ds Q,bQ ds Q->ds.length=3:=fun ds Q h=>by unfold bQ at h;split at h;(first | rfl | exact h.elim);(first | rfl | exact h.elim)
theorem qh (D:cE K mg "pays_laps" iz) (T:Txt mg) (TC:TxC K) (TX:TxX K mg) (C_is_price_paper:Cal P w K mg base 4 "is_price_paper" ["thing","many"] (spP K aX)):Cal P w K mg base 5 "pays_laps" ["paper","laps","pairs"] (spP K bQ):=by
 refine D.ok gF (fun _ _ _ _ _ _ us hl=>match us,hl with | [_,_,_],_=>rfl) (fun vs H Q E h=>?_) (fun f cdv A outer s H vs Q E hr h=>?_)
 .exact ir j8 h
 .have hu:=hr.units
  exact ⟨_,(ah (dP (jL (et (aD C_is_price_paper (hr.mono (by decide)) (paC (pv 0) (paC (ar (cR K rfl) rfl T.b_len PySem.boot_len (paC (pv 1) ag)) ag))))) (ax (aV lZ)) bJ) (ah (rH (pv 0) (pJ K rfl (n:=2) rfl (dA (aE (i:=3) gF.nd rfl (by first | exact Or.inl rfl | exact Or.inr rfl)) (dA (aE (i:=4) gF.nd rfl (by first | exact Or.inl rfl | exact Or.inr rfl)) kA)))) (ax (aV (ar (vn K rfl rfl) rfl T.b_all boot_all (paC (cf (wi:=(gm K (a9 2))) (g:=(Cy K 2 (wB (bY 0) (wB (bY 1) CD)))) (tts:=ja) (te:=(tOp Cu (tOp (zW K) (tOp (mW K) (a9 2) (a9 0)) (tOp (mW K) (a9 3) (a9 1))) (tOp (mW K) (tOp (mW K) (a9 4) (a9 0)) (a9 1)))) ["i","j","gives","takes","laps"] [none,none,some 3,some 4,some 1] rfl (bU K rfl (pv 2)) (fun _ _ _ _=>⟨(pJ K rfl (n:=2) rfl (dA (aE (i:=0) (by show List.Nodup (["i","j","gives","takes","laps"]:List Str);decide +kernel) rfl (by first | exact Or.inl rfl | exact Or.inr rfl)) (dA (aE (i:=1) (by show List.Nodup (["i","j","gives","takes","laps"]:List Str);decide +kernel) rfl (by first | exact Or.inl rfl | exact Or.inr rfl)) kA))),cA,(ei Cw (aK (bF K rfl) (ba (cV K rfl) (pv 2) (pv 0) (fun _ _=>rfl)) (ba (cV K rfl) (pv 3) (pv 1) (fun _ _=>rfl))) (ba (cV K rfl) (ba (cV K rfl) (pv 4) (pv 0) (fun _ _=>rfl)) (pv 1) (fun _ _=>rfl)) (bj _))⟩) (by kernel_rfl)) ag)))))),fnP (K:=K) (c:=bQ) (ps:=eQ) (N:=["paper","laps","pairs","gives","takes"]) (ay (dS (jQ (ud (aH (c:=aX) (aa (ac (ai (i:=0))) (aa (ac (a4 bD (aa (ak (i:=1)) af))) af))))) (aW l5) bM) (ay (aJ (ai (i:=0)) (vF (dB (aB (i:=3) rfl) (dB (aB (i:=4) rfl) kY)))) (aW (a4 pD (aa (ac (bE (ix:=[none,none,some 3,some 4,some 1]) rfl (b7 (ai (i:=2))) (fun fs hc=>(vE (dB (aB (i:=0) (iR hc (by decide))) (dB (aB (i:=1) (iR hc (by decide))) kY)))) dn (al xo (ac (al a5 (ac (al bg (ak (i:=2)) (ak (i:=0)))) (ac (al bg (ak (i:=3)) (ak (i:=1)))))) (ac (al bg (ac (al bg (ak (i:=4)) (ak (i:=0)))) (ak (i:=1))))))) af))))) (fun ds Q h=>Nat.le_trans (Nat.le_of_eq (j8 ds Q h)) (by decide)) pV h⟩
theorem ib:∀ds Q,aN ds Q->ds.length=2:=fun ds Q h=>by unfold aN at h;split at h;(first | rfl | exact h.elim);(first | rfl | exact h.elim)
theorem mH (D:cE K mg "price_bound" fF) (T:Txt mg) (TC:TxC K) (TX:TxX K mg) (C_Family_many:Cn P w K mg base 1 (bL K "Family") "many" ["self"] (spP K bq)) (C_other_pairs:Cal P w K mg base 1 "other_pairs" ["many"] (spP K bo)) (C_pays_laps:Cal P w K mg base 5 "pays_laps" ["paper","laps","pairs"] (spP K bQ)):Cal P w K mg base 6 "price_bound" ["family","paper"] (spP K aN):=by
 refine D.ok e8 (fun _ _ _ _ _ _ us hl=>match us,hl with | [_,_],_=>rfl) (fun vs H Q E h=>?_) (fun f cdv A outer s H vs Q E hr h=>?_)
 .exact ir ib h
 .have hu:=hr.units
  exact ⟨_,(ah (dP (jL (et (aD C_pays_laps (hr.mono (by decide)) (paC (pv 1) (paC (dQ K rfl (pv 0) rfl) (paC (aD C_other_pairs (hr.mono (by decide)) (paC (xh (pv 0) TC.cl_Family C_Family_many (hr.mono (by decide))) ag)) ag)))))) (ax (aV jK)) bJ) (ah (rH (pv 1) (pJ K rfl (n:=2) rfl (dA (aE (i:=2) e8.nd rfl (by first | exact Or.inl rfl | exact Or.inr rfl)) (dA (aE (i:=3) e8.nd rfl (by first | exact Or.inl rfl | exact Or.inr rfl)) kA)))) (ax (aV (aK nM (aK nM (dQ K rfl (pv 0) rfl) (ar (yo K rfl rfl) rfl T.b_sum boot_sum (paC (pv 2) ag))) (ar (yo K rfl rfl) rfl T.b_sum boot_sum (paC (pv 3) ag))))))),fnP (K:=K) (c:=aN) (ps:=dG) (N:=["family","paper","gives","takes"]) (ay (dS (jQ (ud (aH (c:=bQ) (aa (ac (ai (i:=1))) (aa (ac (fW (ns0:=["pieces","kept","words","left","laps","total"]) TC.cl_Family TC.n_Family_laps (i:=4) (by decide +kernel) (ak (i:=0)))) (aa (ac (aH (c:=bo) (aa (ac (xv (c0:="Family") (m:="many") (ns0:=["pieces","kept","words","left","laps","total"]) (c:=bq) (by decide +kernel) (ai (i:=0)) af)) af))) af)))))) (aW jP) bM) (ay (aJ (ai (i:=1)) (vF (dB (aB (i:=2) rfl) (dB (aB (i:=3) rfl) kY)))) (aW (al iN (ac (al iN (ac (fW (ns0:=["pieces","kept","words","left","laps","total"]) TC.cl_Family TC.n_Family_total (i:=5) (by decide +kernel) (ak (i:=0)))) (ac (a4 wb (aa (ak (i:=2)) af))))) (ac (a4 wb (aa (ak (i:=3)) af))))))) (fun ds Q h=>Nat.le_trans (Nat.le_of_eq (ib ds Q h)) (by decide)) mr h⟩
theorem yA:∀ds Q,fZ ds Q->ds.length=2:=fun ds Q h=>by unfold fZ at h;split at h;(first | rfl | exact h.elim);(first | rfl | exact h.elim)
theorem Cf (D:cE K mg "lap" Aa) (T:Txt mg) (TC:TxC K) (TX:TxX K mg):Cal P w K mg base 1 "lap" ["one","other"] (spP K fZ):=by
 refine D.ok yp (fun _ _ _ _ _ _ us hl=>match us,hl with | [_,_],_=>rfl) (fun vs H Q E h=>?_) (fun f cdv A outer s H vs Q E hr h=>?_)
 .exact ir yA h
 .have hu:=hr.units
  exact ⟨_,(ah (dM PassesOwn.never rfl (uR rfl T.b_range (paC (aK nM (ar (ye rfl) rfl T.b_min boot_min (paC (ar (cR K rfl) rfl T.b_len PySem.boot_len (paC (pv 0) ag)) (paC (ar (cR K rfl) rfl T.b_len PySem.boot_len (paC (pv 1) ag)) ag))) aq) (paC aq (paC (AI x0 aq) ag)))) (aE (i:=2) yp.nd rfl (by first | exact Or.inl rfl | exact Or.inr rfl)) (ax (dP (et (fU K rfl PySem.F.plainAttrs_str PySem.F.slot_str_endswith PySem.F.type_str_endswith zD (pv 0) (paC (cu (qp K rfl) (pv 1) dq (cI (pv 2))) ag))) (ax (aV (pv 2))) bJ))) (ax (aV aq))),fnP (K:=K) (c:=fZ) (ps:=sM) (N:=["one","other","k"]) (ay (dO (Dh (aa (ac (al iN (ac (a4 vm (aa (ac (a4 bD (aa (ak (i:=0)) af))) (aa (ac (a4 bD (aa (ak (i:=1)) af))) af)))) (ac le_int))) (aa (ac le_int) (aa (ac (Br yi (ac le_int))) af)))) (aB (i:=2) rfl) (dS (ud (BK zF (ai (i:=0)) (aa (ac (cv (ak (i:=1)) cS (bO (ai (i:=2))))) af))) (aW (ai (i:=2))) bM)) (aW le_int)) (fun ds Q h=>Nat.le_trans (Nat.le_of_eq (yA ds Q h)) (by decide)) Cd h⟩
theorem lQ:∀ds Q,ci ds Q->ds.length=1:=fun ds Q h=>by unfold ci at h;split at h;(first | rfl | exact h.elim);(first | rfl | exact h.elim)
theorem rp (D:cE K mg "all_laps" ju) (T:Txt mg) (TC:TxC K) (TX:TxX K mg) (C_lap:Cal P w K mg base 1 "lap" ["one","other"] (spP K fZ)):Cal P w K mg base 2 "all_laps" ["words"] (spP K ci):=by
 refine D.ok qW (fun _ _ _ _ _ _ us hl=>match us,hl with | [_],_=>rfl) (fun vs H Q E h=>?_) (fun f cdv A outer s H vs Q E hr h=>?_)
 .exact ir lQ h
 .have hu:=hr.units
  exact ⟨_,(ax (aV (aS (fz K rfl) rfl T.b_tuple boot_tuple (paC (cf (wi:=(gm K (a9 0))) (g:=(bY 0)) (tts:=ja) (te:=(tCB (zC K) (bx (l4 [none,some 0] (gm K (a9 1)) (bY 0) ja (eY (spP K fZ) [] E0 (bx (a9 1) (bx (a9 0) e9)))) e9))) ["one","words"] [none,some 0] rfl (bU K rfl (pv 0)) (fun _ _ _ _=>⟨(aE (i:=0) (by show List.Nodup (["one","words"]:List Str);decide +kernel) rfl (by first | exact Or.inl rfl | exact Or.inr rfl)),cA,(aS (fz K rfl) rfl T.b_tuple boot_tuple (paC (cf (wi:=(gm K (a9 1))) (g:=(bY 0)) (tts:=ja) (te:=(eY (spP K fZ) [] E0 (bx (a9 1) (bx (a9 0) e9)))) ["other","one"] [none,some 0] rfl (bU K rfl (pv 1)) (fun _ _ _ _=>⟨(aE (i:=0) (by show List.Nodup (["other","one"]:List Str);decide +kernel) rfl (by first | exact Or.inl rfl | exact Or.inr rfl)),cA,(aD C_lap (hr.mono (by decide)) (paC (pv 1) (paC (pv 0) ag)))⟩) (by kernel_rfl)) ag))⟩) (by kernel_rfl)) ag)))),fnP (K:=K) (c:=ci) (ps:=fK) (N:=["words"]) (aW (a4 dY (aa (ac (bE (ix:=[none,some 0]) rfl (b7 (ai (i:=0))) (fun fs hc=>(aB (i:=0) (iR hc (by decide)))) dn (a4 dY (aa (ac (bE (ix:=[none,some 0]) rfl (b7 (ai (i:=1))) (fun fs hc=>(aB (i:=0) (iR hc (by decide)))) dn (aH (c:=fZ) (aa (ac (ai (i:=1))) (aa (ac (ai (i:=0))) af))))) af)))) af))) (fun ds Q h=>Nat.le_trans (Nat.le_of_eq (lQ ds Q h)) (by decide)) rc h⟩
theorem gK:∀ds Q,bi ds Q->ds.length=1:=fun ds Q h=>by unfold bi at h;split at h;(first | rfl | exact h.elim);(first | rfl | exact h.elim)
theorem lR (D:cE K mg "check_pieces" e7) (T:Txt mg) (TC:TxC K) (TX:TxX K mg) (C_is_text:Bl P w K mg base 1 "is_text" ["thing","least","most"] [.int 0,.int 4000] (spP K cT)):Cal P w K mg base 2 "check_pieces" ["things"] (spP K bi):=by
 refine D.ok eB (fun _ _ _ _ _ _ us hl=>match us,hl with | [_],_=>rfl) (fun vs H Q E h=>?_) (fun f cdv A outer s H vs Q E hr h=>?_)
 .exact ir gK h
 .have hu:=hr.units
  exact ⟨_,(ah (dP (aZ yh (ar (cR K rfl) rfl T.b_len PySem.boot_len (paC (pv 0) ag)) (rR rfl T.g_MOST_PIECES) (bj _)) (ax rG) bJ) (ax (dM PassesOwn.never rfl (xx K rfl rfl T.b_enumerate (paC (pv 0) ag)) (pJ K rfl (n:=2) rfl (dA (aE (i:=1) eB.nd rfl (by first | exact Or.inl rfl | exact Or.inr rfl)) (dA (aE (i:=2) eB.nd rfl (by first | exact Or.inl rfl | exact Or.inr rfl)) kA))) (ax (dP (jL (et (xF 2 C_is_text (hr.mono (by decide)) (by decide) (paC (pv 2) (paC aq (paC (rR rfl T.g_MOST_SIGNS) ag)))))) (ax rG) bJ))))),fnP (K:=K) (c:=bi) (ps:=dk) (N:=["things","at","thing"]) (ay (dS (gk (al pz (ac (a4 bD (aa (ak (i:=0)) af))) (ac (le_int (i:=40))))) rZ bM) (dO (zu (aa (ac (ai (i:=0))) af)) (vE (dB (aB (i:=1) rfl) (dB (aB (i:=2) rfl) kY))) (dS (jQ (ud (xy (ds:=[]) (by repeat (first | exact .nil | exact .cons (.int _) .nil | refine .cons (.int _) ?_)) (aa (ac (ai (i:=2))) (aa (ac le_int) (aa (ac (le_int (i:=60))) af)))))) rZ bM))) (fun ds Q h=>Nat.le_trans (Nat.le_of_eq (gK ds Q h)) (by decide)) lK h⟩
theorem f9:∀ds Q,aI ds Q->ds.length=2:=fun ds Q h=>by unfold aI at h;split at h;(first | rfl | exact h.elim);(first | rfl | exact h.elim)
theorem kq (D:cE K mg "stands_within" eA) (T:Txt mg) (TC:TxC K) (TX:TxX K mg) (C_first_place:Cal P w K mg base 1 "first_place" ["text","piece"] (spP K aY)):Cal P w K mg base 2 "stands_within" ["piece","other"] (spP K aI):=by
 refine D.ok km (fun _ _ _ _ _ _ us hl=>match us,hl with | [_,_],_=>rfl) (fun vs H Q E h=>?_) (fun f cdv A outer s H vs Q E hr h=>?_)
 .exact ir f9 h
 .have hu:=hr.units
  exact ⟨_,(ax (aV (ei Cw (aD C_first_place (hr.mono (by decide)) (paC (pv 1) (paC (pv 0) ag))) aq (bj _)))),fnP (K:=K) (c:=aI) (ps:=c6) (N:=["piece","other"]) (aW (al xo (ac (aH (c:=aY) (aa (ac (ai (i:=1))) (aa (ac (ai (i:=0))) af)))) (ac le_int))) (fun ds Q h=>Nat.le_trans (Nat.le_of_eq (f9 ds Q h)) (by decide)) ko h⟩
theorem nj:∀ds Q,cD ds Q->ds.length=2:=fun ds Q h=>by unfold cD at h;split at h;(first | rfl | exact h.elim);(first | rfl | exact h.elim)
theorem t9 (D:cE K mg "is_kept" ln) (T:Txt mg) (TC:TxC K) (TX:TxX K mg) (C_stands_within:Cal P w K mg base 2 "stands_within" ["piece","other"] (spP K aI)):Cal P w K mg base 3 "is_kept" ["pieces","at"] (spP K cD):=by
 refine D.ok jE (fun _ _ _ _ _ _ us hl=>match us,hl with | [_,_],_=>rfl) (fun vs H Q E h=>?_) (fun f cdv A outer s H vs Q E hr h=>?_)
 .exact ir nj h
 .have hu:=hr.units
  exact ⟨_,(ah (aM (i:=2) jE.nd rfl (by first | exact Or.inl rfl | exact Or.inr rfl) (ba (cV K rfl) (pv 0) (pv 1) (fun _ _=>rfl))) (ah (il (wi:=(gm K (a9 0))) (g:=(bY 0)) (tts:=(kh (tOp Do (tCB (nH K) (bx (a9 0) e9)) (tCB (nH K) (bx (a9 1) e9))))) (te:=(a9 0)) (i:=3) ["other","piece"] [none,some 2] jE.nd rfl (Or.inl rfl) rfl (bU K rfl (pv 0)) (fun _ _ _ _=>⟨(aE (i:=0) (by show List.Nodup (["other","piece"]:List Str);decide +kernel) rfl (by first | exact Or.inl rfl | exact Or.inr rfl)),(eZ (aZ yh (ar (cR K rfl) rfl T.b_len PySem.boot_len (paC (pv 0) ag)) (ar (cR K rfl) rfl T.b_len PySem.boot_len (paC (pv 1) ag)) (bj _))),(pv 0)⟩) (by kernel_rfl)) (ax (aV (jM (ei (nS K rfl) (pv 2) (cu (qp K rfl) (pv 0) dq (cI (pv 1))) (by with_unfolding_all rfl)) (mO (um (ar (Dl K rfl rfl) rfl T.b_any boot_any (paC (cf (wi:=(gm K (a9 3))) (g:=(bY 0)) (tts:=ja) (te:=(eY (spP K aI) [] E0 (bx (a9 1) (bx (a9 0) e9)))) ["other","piece"] [none,some 2] rfl (bU K rfl (pv 3)) (fun _ _ _ _=>⟨(aE (i:=0) (by show List.Nodup (["other","piece"]:List Str);decide +kernel) rfl (by first | exact Or.inl rfl | exact Or.inr rfl)),cA,(aD C_stands_within (hr.mono (by decide)) (paC (pv 1) (paC (pv 0) ag)))⟩) (by kernel_rfl)) ag))))))))),fnP (K:=K) (c:=cD) (ps:=gP) (N:=["pieces","at","piece","longer"]) (ay (aJ (al bg (ak (i:=0)) (ak (i:=1))) (aC (i:=2) rfl)) (ay (aJ (bE (ix:=[none,some 2]) rfl (b7 (ai (i:=0))) (fun fs hc=>(aB (i:=0) (iR hc (by decide)))) (gk (al pz (ac (a4 bD (aa (ak (i:=0)) af))) (ac (a4 bD (aa (ak (i:=1)) af))))) (ai (i:=0))) (aC (i:=3) rfl)) (aW (jR (al sy (ak (i:=2)) (ac (cv (ak (i:=0)) cS (bO (ai (i:=1)))))) (vd (a4 BH (aa (ac (bE (ix:=[none,some 2]) rfl (b7 (ai (i:=3))) (fun fs hc=>(aB (i:=0) (iR hc (by decide)))) dn (aH (c:=aI) (aa (ac (ai (i:=1))) (aa (ac (ai (i:=0))) af))))) af))))))) (fun ds Q h=>Nat.le_trans (Nat.le_of_eq (nj ds Q h)) (by decide)) t6 h⟩
theorem lS:∀ds Q,bV ds Q->ds.length=3:=fun ds Q h=>by unfold bV at h;split at h;(first | rfl | exact h.elim);(first | rfl | exact h.elim)
theorem rq (D:cE K mg "left_row" jw) (T:Txt mg) (TC:TxC K) (TX:TxX K mg) (C_first_place:Cal P w K mg base 1 "first_place" ["text","piece"] (spP K aY)) (C_stands_within:Cal P w K mg base 2 "stands_within" ["piece","other"] (spP K aI)):Cal P w K mg base 3 "left_row" ["pieces","kept","at"] (spP K bV):=by
 refine D.ok lr (fun _ _ _ _ _ _ us hl=>match us,hl with | [_,_,_],_=>rfl) (fun vs H Q E h=>?_) (fun f cdv A outer s H vs Q E hr h=>?_)
 .exact ir lS h
 .have hu:=hr.units
  exact ⟨_,(ah (aM (i:=3) lr.nd rfl (by first | exact Or.inl rfl | exact Or.inr rfl) (ar (BG K rfl rfl) rfl T.b_min boot_min (paC (cf (wi:=(gm K (a9 1))) (g:=(bY 0)) (tts:=(tB (eY (spP K aI) [] E0 (bx (tOp (mW K) (a9 1) (a9 2)) (bx (tOp (mW K) (a9 1) (a9 0)) e9))))) (te:=(a9 0)) ["one","pieces","at"] [none,some 0,some 2] rfl (bU K rfl (pv 1)) (fun _ _ _ _=>⟨(aE (i:=0) (by show List.Nodup (["one","pieces","at"]:List Str);decide +kernel) rfl (by first | exact Or.inl rfl | exact Or.inr rfl)),(eZ (et (aD C_stands_within (hr.mono (by decide)) (paC (ba (cV K rfl) (pv 1) (pv 2) (fun _ _=>rfl)) (paC (ba (cV K rfl) (pv 1) (pv 0) (fun _ _=>rfl)) ag))))),(pv 0)⟩) (by kernel_rfl)) ag))) (ax (aV (rL (paC (pv 2) (paC (pv 3) (paC (aD C_first_place (hr.mono (by decide)) (paC (ba (cV K rfl) (pv 0) (pv 3) (fun _ _=>rfl)) (paC (ba (cV K rfl) (pv 0) (pv 2) (fun _ _=>rfl)) ag))) ag))))))),fnP (K:=K) (c:=bV) (ps:=fL) (N:=["pieces","kept","at","holder"]) (ay (aJ (a4 zB (aa (ac (bE (ix:=[none,some 0,some 2]) rfl (b7 (ai (i:=1))) (fun fs hc=>(aB (i:=0) (iR hc (by decide)))) (ud (aH (c:=aI) (aa (ac (al bg (ak (i:=1)) (ak (i:=2)))) (aa (ac (al bg (ak (i:=1)) (ak (i:=0)))) af)))) (ai (i:=0)))) af)) (aC (i:=3) rfl)) (aW (vc (aa (ac (ai (i:=2))) (aa (ac (ai (i:=3))) (aa (ac (aH (c:=aY) (aa (ac (al bg (ak (i:=0)) (ak (i:=3)))) (aa (ac (al bg (ak (i:=0)) (ak (i:=2)))) af)))) af)))))) (fun ds Q h=>Nat.le_trans (Nat.le_of_eq (lS ds Q h)) (by decide)) re h⟩
theorem ic:∀p ds Q,bp p ds Q->ds.length + 1=2:=fun p ds Q h=>by unfold bp at h;split at h;(first | rfl | exact h.elim);(first | rfl | exact h.elim)
theorem mI (D:rW K mg (bL K "Family") "Family" "Family.__init__" cK) (T:Txt mg) (TC:TxC K) (TX:TxX K mg) (C_all_laps:Cal P w K mg base 2 "all_laps" ["words"] (spP K ci)) (C_check_pieces:Cal P w K mg base 2 "check_pieces" ["things"] (spP K bi)) (C_is_kept:Cal P w K mg base 3 "is_kept" ["pieces","at"] (spP K cD)) (C_left_row:Cal P w K mg base 3 "left_row" ["pieces","kept","at"] (spP K bV)):Bo P w K mg base 4 (bL K "Family") "Family" ["self","pieces"] (spR K bp):=by
 refine D.ok gY (fun _ _ _ _ _ _ us hl=>match us,hl with | [_,_],_=>rfl) (fun vs H Q E h=>?_) (fun f cdv A outer s H vs Q E hr h=>?_)
 .exact Aq ic h
 .have hu:=hr.units
  exact ⟨_,(ah (eX (aD C_check_pieces (hr.mono (by decide)) (paC (pv 1) ag))) (ah (mR (pv 0) (aS (fz K rfl) rfl T.b_tuple boot_tuple (paC (pv 1) ag)) rfl) (ah (aM (i:=2) gY.nd rfl (by first | exact Or.inl rfl | exact Or.inr rfl) (aS (vo K rfl rfl) rfl T.b_list boot_list (paC (kO rfl T.b_range (paC (ar (cR K rfl) rfl T.b_len PySem.boot_len (paC (dQ K rfl (pv 0) rfl) ag)) ag)) ag))) (ah (mR (pv 0) (aS (fz K rfl) rfl T.b_tuple boot_tuple (paC (cf (wi:=(gm K (a9 2))) (g:=(bY 0)) (tts:=(tB (eY (spP K cD) [] E0 (bx (wv K (a9 1) "pieces") (bx (a9 0) e9))))) (te:=(a9 0)) ["at","self"] [none,some 0] rfl (bU K rfl (pv 2)) (fun _ _ _ _=>⟨(aE (i:=0) (by show List.Nodup (["at","self"]:List Str);decide +kernel) rfl (by first | exact Or.inl rfl | exact Or.inr rfl)),(eZ (et (aD C_is_kept (hr.mono (by decide)) (paC (dQ K rfl (pv 1) rfl) (paC (pv 0) ag))))),(pv 0)⟩) (by kernel_rfl)) ag)) rfl) (ah (mR (pv 0) (aS (fz K rfl) rfl T.b_tuple boot_tuple (paC (cf (wi:=(gm K (wv K (a9 0) "kept"))) (g:=(bY 0)) (tts:=ja) (te:=(tOp (mW K) (wv K (a9 1) "pieces") (a9 0))) ["at","self"] [none,some 0] rfl (bU K rfl (dQ K rfl (pv 0) rfl)) (fun _ _ _ _=>⟨(aE (i:=0) (by show List.Nodup (["at","self"]:List Str);decide +kernel) rfl (by first | exact Or.inl rfl | exact Or.inr rfl)),cA,(ba (cV K rfl) (dQ K rfl (pv 1) rfl) (pv 0) (fun _ _=>rfl))⟩) (by kernel_rfl)) ag)) rfl) (ah (mR (pv 0) (aS (fz K rfl) rfl T.b_tuple boot_tuple (paC (cf (wi:=(gm K (a9 2))) (g:=(bY 0)) (tts:=(kh (tOp (B2 K true) (a9 0) (wv K (a9 1) "kept")))) (te:=(eY (spP K bV) [] E0 (bx (wv K (a9 1) "pieces") (bx (wv K (a9 1) "kept") (bx (a9 0) e9))))) ["at","self"] [none,some 0] rfl (bU K rfl (pv 2)) (fun _ _ _ _=>⟨(aE (i:=0) (by show List.Nodup (["at","self"]:List Str);decide +kernel) rfl (by first | exact Or.inl rfl | exact Or.inr rfl)),(eZ (aZ (nS K rfl) (pv 0) (dQ K rfl (pv 1) rfl) (by with_unfolding_all rfl))),(aD C_left_row (hr.mono (by decide)) (paC (dQ K rfl (pv 1) rfl) (paC (dQ K rfl (pv 1) rfl) (paC (pv 0) ag))))⟩) (by kernel_rfl)) ag)) rfl) (ah (mR (pv 0) (aD C_all_laps (hr.mono (by decide)) (paC (dQ K rfl (pv 0) rfl) ag)) rfl) (ax (mR (pv 0) (ar (se K rfl rfl) rfl T.b_sum boot_sum (paC (cf (wi:=(gm K (wv K (a9 0) "words"))) (g:=(bY 0)) (tts:=ja) (te:=(tCB (nH K) (bx (a9 0) e9))) ["word"] [none] rfl (bU K rfl (dQ K rfl (pv 0) rfl)) (fun _ _ _ _=>⟨(aE (i:=0) (by show List.Nodup (["word"]:List Str);decide +kernel) rfl (by first | exact Or.inl rfl | exact Or.inr rfl)),cA,(ar (cR K rfl) rfl T.b_len PySem.boot_len (paC (pv 0) ag))⟩) (by kernel_rfl)) ag)) rfl))))))))),fnR (K:=K) (c:=bp) (ps:=dH) (N:=["self","pieces","indexes"]) (ay (e6 (aH (c:=bi) (aa (ac (ai (i:=1))) af))) (ay (jm (c0:="Family") (ns0:=[]) (i:=0) TC.cl_Family TC.n_Family_pieces (by decide +kernel) (a4 dY (aa (ak (i:=1)) af))) (ay (aJ (nK false (aa (ac (a4 bD (aa (ac (fW (ns0:=["pieces"]) TC.cl_Family TC.n_Family_pieces (i:=0) (by decide +kernel) (ak (i:=0)))) af))) af)) (aC (i:=2) rfl)) (ay (jm (c0:="Family") (ns0:=["pieces"]) (i:=0) TC.cl_Family TC.n_Family_kept (by decide +kernel) (a4 dY (aa (ac (bE (ix:=[none,some 0]) rfl (b7 (ai (i:=2))) (fun fs hc=>(aB (i:=0) (iR hc (by decide)))) (ud (aH (c:=cD) (aa (ac (fW (ns0:=["pieces"]) TC.cl_Family TC.n_Family_pieces (i:=0) (by decide +kernel) (ak (i:=1)))) (aa (ac (ai (i:=0))) af)))) (ai (i:=0)))) af))) (ay (jm (c0:="Family") (ns0:=["pieces","kept"]) (i:=0) TC.cl_Family TC.n_Family_words (by decide +kernel) (a4 dY (aa (ac (bE (ix:=[none,some 0]) rfl (b7 (fW (ns0:=["pieces","kept"]) TC.cl_Family TC.n_Family_kept (i:=1) (by decide +kernel) (ak (i:=0)))) (fun fs hc=>(aB (i:=0) (iR hc (by decide)))) dn (al bg (ac (fW (ns0:=["pieces","kept"]) TC.cl_Family TC.n_Family_pieces (i:=0) (by decide +kernel) (ak (i:=1)))) (ak (i:=0))))) af))) (ay (jm (c0:="Family") (ns0:=["pieces","kept","words"]) (i:=0) TC.cl_Family TC.n_Family_left (by decide +kernel) (a4 dY (aa (ac (bE (ix:=[none,some 0]) rfl (b7 (ai (i:=2))) (fun fs hc=>(aB (i:=0) (iR hc (by decide)))) (gk (al sy (ak (i:=0)) (ac (fW (ns0:=["pieces","kept","words"]) TC.cl_Family TC.n_Family_kept (i:=1) (by decide +kernel) (ak (i:=1)))))) (aH (c:=bV) (aa (ac (fW (ns0:=["pieces","kept","words"]) TC.cl_Family TC.n_Family_pieces (i:=0) (by decide +kernel) (ak (i:=1)))) (aa (ac (fW (ns0:=["pieces","kept","words"]) TC.cl_Family TC.n_Family_kept (i:=1) (by decide +kernel) (ak (i:=1)))) (aa (ac (ai (i:=0))) af)))))) af))) (ay (jm (c0:="Family") (ns0:=["pieces","kept","words","left"]) (i:=0) TC.cl_Family TC.n_Family_laps (by decide +kernel) (aH (c:=ci) (aa (ac (fW (ns0:=["pieces","kept","words","left"]) TC.cl_Family TC.n_Family_words (i:=2) (by decide +kernel) (ak (i:=0)))) af))) (jm (c0:="Family") (ns0:=["pieces","kept","words","left","laps"]) (i:=0) TC.cl_Family TC.n_Family_total (by decide +kernel) (a4 nJ (aa (ac (bE (ix:=[none]) rfl (b7 (fW (ns0:=["pieces","kept","words","left","laps"]) TC.cl_Family TC.n_Family_words (i:=2) (by decide +kernel) (ak (i:=0)))) (fun fs hc=>(aB (i:=0) (iR hc (by decide)))) dn (a4 bD (aa (ak (i:=0)) af)))) af)))))))))) (fun p ds Q h=>Nat.le_trans (Nat.le_of_eq (ic p ds Q h)) (by decide)) mw h⟩
theorem ie:∀ds Q,bq ds Q->ds.length=1:=fun ds Q h=>by unfold bq at h;split at h;(first | rfl | exact h.elim);(first | rfl | exact h.elim)
theorem mJ (D:rV K (bL K "Family") "many" "Family.many" cM) (T:Txt mg) (TC:TxC K) (TX:TxX K mg):Cn P w K mg base 1 (bL K "Family") "many" ["self"] (spP K bq):=by
 refine D.ok mi (fun _ _ _ _ _ _ us hl=>match us,hl with | [_],_=>rfl) (fun vs H Q E h=>?_) (fun f cdv A outer s H vs Q E hr h=>?_)
 .exact ir ie h
 .have hu:=hr.units
  exact ⟨_,(ax (aV (ar (cR K rfl) rfl T.b_len PySem.boot_len (paC (dQ K rfl (pv 0) rfl) ag)))),fnP (K:=K) (c:=bq) (ps:=dI) (N:=["self"]) (aW (a4 bD (aa (ac (fW (ns0:=["pieces","kept","words","left","laps","total"]) TC.cl_Family TC.n_Family_words (i:=2) (by decide +kernel) (ak (i:=0)))) af))) (fun ds Q h=>Nat.le_trans (Nat.le_of_eq (ie ds Q h)) (by decide)) mx h⟩
theorem lT:∀ds Q,cj ds Q->ds.length=2:=fun ds Q h=>by unfold cj at h;split at h;(first | rfl | exact h.elim);(first | rfl | exact h.elim)
theorem rz (D:cE K mg "_law_deck" jx) (T:Txt mg) (TC:TxC K) (TX:TxX K mg):Cal P w K mg base 1 "_law_deck" ["_law_cells","_law_many"] (spP K cj):=by
 refine D.ok c9 (fun _ _ _ _ _ _ us hl=>match us,hl with | [_,_],_=>rfl) (fun vs H Q E h=>?_) (fun f cdv A outer s H vs Q E hr h=>?_)
 .exact ir lT h
 .have hu:=hr.units
  exact ⟨_,(ah (aM (i:=2) c9.nd rfl (by first | exact Or.inl rfl | exact Or.inr rfl) (aK (bF K rfl) (aS (k9 K rfl) rfl T.b_list boot_list (paC (pv 0) ag)) (aK nG (bb (paC aq ag)) (aS zK rfl T.b_int boot_int (paC (ei (l9 K rfl hu) (ar (cR K rfl) rfl T.b_len PySem.boot_len (paC (pv 0) ag)) aq (bj _)) ag))))) (ah (il (wi:=(gm K (a9 2))) (g:=(bY 0)) (tts:=ja) (te:=(tOp zm (a9 0) (tCB zJ (bx (tOp Cu (a9 0) (tOp BO (tC (V.int 10)) (tC (V.int 18)))) e9)))) (i:=3) ["_law_cell"] [none] c9.nd rfl (Or.inl rfl) rfl (bU K rfl (pv 2)) (fun _ _ _ _=>⟨(aE (i:=0) (by show List.Nodup (["_law_cell"]:List Str);decide +kernel) rfl (by first | exact Or.inl rfl | exact Or.inr rfl)),cA,(aK nG (pv 0) (aS zK rfl T.b_int boot_int (paC (ei Cw (pv 0) (aK qL aq aq) (bj _)) ag)))⟩) (by kernel_rfl)) (ah (aM (i:=4) c9.nd rfl (by first | exact Or.inl rfl | exact Or.inr rfl) (bb ag)) (ah (dM PassesOwn.never rfl (cw rfl T.b_range (paC (pv 1) ag)) (aE (i:=5) c9.nd rfl (by first | exact Or.inl rfl | exact Or.inr rfl)) (ah (aM (i:=6) c9.nd rfl (by first | exact Or.inl rfl | exact Or.inr rfl) (aK dt (pv 5) (ar (cR K rfl) rfl T.b_len PySem.boot_len (paC (pv 2) ag)))) (ah (aM (i:=7) c9.nd rfl (by first | exact Or.inl rfl | exact Or.inr rfl) (aK (bF K rfl) (aK nG (aK dt (aK (bF K rfl) (aK (bF K rfl) (ba (cV K rfl) (pv 2) (pv 6) (fun _ _=>rfl)) (aK nG (aK nG (pv 5) (pv 5)) aq)) (aK nG aq (pv 5))) aq) (ba (cV K rfl) (bb (paC aq (paC aq (paC aq (paC aq ag))))) (aK dt (pv 5) aq) (fun _ _=>rfl))) aq)) (ah (eX (fU K rfl PySem.F.plainAttrs_list PySem.F.slot_list_append PySem.F.type_list_append cQ (pv 4) (paC (ba (cV K rfl) (bb (paC (aK dt (aK nG (pv 7) (pv 7)) aq) (paC (aK dt (ba (cV K rfl) (pv 3) (pv 6) (fun _ _=>rfl)) (aK qL aq aq)) ag))) (aS zK rfl T.b_int boot_int (paC (ei (li K rfl hu) (ba (cV K rfl) (pv 3) (pv 6) (fun _ _=>rfl)) aq (bj _)) ag)) (fun _ _=>rfl)) ag))) (ax (lm (aK zX (ba (cV K rfl) (pv 3) (pv 6) (fun _ _=>rfl)) (aK qL aq aq)) (oI (pv 3) (pv 6) iH))))))) (ax (aV (qK K rfl rfl (pv 4) rfl T.b_list rfl T.b_reversed))))))),fnP (K:=K) (c:=cj) (ps:=fM) (N:=["_law_cells","_law_many","_law_own","_law_row","_law_deck_here","_law_k","_law_at","_law_one"]) (ay (aJ (al a5 (ac (a4 lc (aa (ak (i:=0)) af))) (ac (al iO (ac (bc (aa (ac le_int) af))) (ac (a4 vy (aa (ac (al gW (ac (a4 bD (aa (ak (i:=0)) af))) (ac le_int))) af)))))) (aC (i:=2) rfl)) (ay (aJ (bE (ix:=[none]) rfl (b7 (ai (i:=2))) (fun fs hc=>(aB (i:=0) (iR hc (by decide)))) dn (al iO (ak (i:=0)) (ac (a4 vy (aa (ac (al xo (ak (i:=0)) (ac (al kX (ac le_int) (ac le_int))))) af))))) (aC (i:=3) rfl)) (ay (aJ (bc af) (aC (i:=4) rfl)) (ay (dO (jl (aa (ac (ai (i:=1))) af)) (aB (i:=5) rfl) (ay (aJ (al cB (ak (i:=5)) (ac (a4 bD (aa (ak (i:=2)) af)))) (aC (i:=6) rfl)) (ay (aJ (al a5 (ac (al iO (ac (al cB (ac (al a5 (ac (al a5 (ac (al bg (ak (i:=2)) (ak (i:=6)))) (ac (al iO (ac (al iO (ak (i:=5)) (ak (i:=5)))) (ac le_int))))) (ac (al iO (ac le_int) (ak (i:=5)))))) (ac le_int))) (ac (al bg (ac (bc (aa (ac le_int) (aa (ac le_int) (aa (ac le_int) (aa (ac le_int) af)))))) (ac (al cB (ak (i:=5)) (ac le_int))))))) (ac le_int)) (aC (i:=7) rfl)) (ay (e6 (iQ (i:=4) (al bg (ac (bc (aa (ac (al cB (ac (al iO (ak (i:=7)) (ak (i:=7)))) (ac le_int))) (aa (ac (al cB (ac (al bg (ak (i:=3)) (ak (i:=6)))) (ac (al kX (ac le_int) (ac le_int))))) af)))) (ac (a4 vy (aa (ac (al gz (ac (al bg (ak (i:=3)) (ak (i:=6)))) (ac le_int))) af)))))) (qI (i:=3) (al xN (ac (al bg (ak (i:=3)) (ak (i:=6)))) (ac (al kX (ac le_int) (ac le_int)))) (ai (i:=6))))))) (aW (tJ (ak (i:=4)))))))) (fun ds Q h=>Nat.le_trans (Nat.le_of_eq (lT ds Q h)) (by decide)) rf h⟩
theorem lU:∀p ds Q,aG p ds Q->ds.length + 1=1:=fun p ds Q h=>by unfold aG at h;split at h;(first | rfl | exact h.elim);(first | rfl | exact h.elim)
theorem rA (D:cE K mg "_law_next" jy) (T:Txt mg) (TC:TxC K) (TX:TxX K mg):Cal P w K mg base 1 "_law_next" ["_law_deck_here"] (spR K aG):=by
 refine D.ok qX (fun _ _ _ _ _ _ us hl=>match us,hl with | [_],_=>rfl) (fun vs H Q E h=>?_) (fun f cdv A outer s H vs Q E hr h=>?_)
 .exact Aq lU h
 .have hu:=hr.units
  exact ⟨_,(ax (aV (AZ PySem.F.plainAttrs_list PySem.F.slot_list_pop PySem.F.type_list_pop A0 (pv 0)))),fnR (K:=K) (c:=aG) (ps:=fN) (N:=["_law_deck_here"]) (aW (BA (i:=0))) (fun p ds Q h=>Nat.le_trans (Nat.le_of_eq (lU p ds Q h)) (by decide)) rh h⟩
theorem lV:∀ds Q,ck ds Q->ds.length=3:=fun ds Q h=>by unfold ck at h;split at h;(first | rfl | exact h.elim);(first | rfl | exact h.elim)
theorem rB (D:cE K mg "_law_fits" jz) (T:Txt mg) (TC:TxC K) (TX:TxX K mg):Cal P w K mg base 1 "_law_fits" ["_law_one","_law_other","_law_k"] (spP K ck):=by
 refine D.ok lu (fun _ _ _ _ _ _ us hl=>match us,hl with | [_,_,_],_=>rfl) (fun vs H Q E h=>?_) (fun f cdv A outer s H vs Q E hr h=>?_)
 .exact ir lV h
 .have hu:=hr.units
  exact ⟨_,(ah (dM PassesOwn.never rfl (cw rfl T.b_range (paC (pv 2) ag)) (aE (i:=3) lu.nd rfl (by first | exact Or.inl rfl | exact Or.inr rfl)) (ax (dP (aZ (li K rfl hu) (ba (cV K rfl) (pv 0) (aK (bF K rfl) (aK nM (ar (cR K rfl) rfl T.b_len PySem.boot_len (paC (pv 0) ag)) (pv 2)) (pv 3)) (fun _ _=>rfl)) (ba (cV K rfl) (pv 1) (pv 3) (fun _ _=>rfl)) (bj _)) (ax (aV lZ)) bJ))) (ax (aV lZ))),fnP (K:=K) (c:=ck) (ps:=fO) (N:=["_law_one","_law_other","_law_k","_law_at"]) (ay (dO (jl (aa (ac (ai (i:=2))) af)) (aB (i:=3) rfl) (dS (gk (al gz (ac (al bg (ak (i:=0)) (ac (al a5 (ac (al iN (ac (a4 bD (aa (ak (i:=0)) af))) (ak (i:=2)))) (ak (i:=3)))))) (ac (al bg (ak (i:=1)) (ak (i:=3)))))) (aW l5) bM)) (aW l5)) (fun ds Q h=>Nat.le_trans (Nat.le_of_eq (lV ds Q h)) (by decide)) rj h⟩
theorem nk:∀ds Q,aT ds Q->ds.length=2:=fun ds Q h=>by unfold aT at h;split at h;(first | rfl | exact h.elim);(first | rfl | exact h.elim)
theorem ua (D:cE K mg "_law_lap" lp) (T:Txt mg) (TC:TxC K) (TX:TxX K mg) (C_law_fits:Cal P w K mg base 1 "_law_fits" ["_law_one","_law_other","_law_k"] (spP K ck)):Cal P w K mg base 2 "_law_lap" ["_law_one","_law_other"] (spP K aT):=by
 refine D.ok m7 (fun _ _ _ _ _ _ us hl=>match us,hl with | [_,_],_=>rfl) (fun vs H Q E h=>?_) (fun f cdv A outer s H vs Q E hr h=>?_)
 .exact ir nk h
 .have hu:=hr.units
  exact ⟨_,(ah (dM PassesOwn.never rfl (qC rfl T.b_reversed rfl T.b_range (paC (ar (ye rfl) rfl T.b_min boot_min (paC (ar (cR K rfl) rfl T.b_len PySem.boot_len (paC (pv 0) ag)) (paC (ar (cR K rfl) rfl T.b_len PySem.boot_len (paC (pv 1) ag)) ag))) ag)) (aE (i:=2) m7.nd rfl (by first | exact Or.inl rfl | exact Or.inr rfl)) (ax (dP (et (aD C_law_fits (hr.mono (by decide)) (paC (pv 0) (paC (pv 1) (paC (pv 2) ag))))) (ax (aV (pv 2))) bJ))) (ax (aV aq))),fnP (K:=K) (c:=aT) (ps:=gQ) (N:=["_law_one","_law_other","_law_k"]) (ay (dO (Di (aa (ac (a4 vm (aa (ac (a4 bD (aa (ak (i:=0)) af))) (aa (ac (a4 bD (aa (ak (i:=1)) af))) af)))) af)) (aB (i:=2) rfl) (dS (ud (aH (c:=ck) (aa (ac (ai (i:=0))) (aa (ac (ai (i:=1))) (aa (ac (ai (i:=2))) af))))) (aW (ai (i:=2))) bM)) (aW le_int)) (fun ds Q h=>Nat.le_trans (Nat.le_of_eq (nk ds Q h)) (by decide)) t7 h⟩
theorem lW:∀ds Q,bN ds Q->ds.length=1:=fun ds Q h=>by unfold bN at h;split at h;(first | rfl | exact h.elim);(first | rfl | exact h.elim)
theorem rC (D:cE K mg "_law_kept" jA) (T:Txt mg) (TC:TxC K) (TX:TxX K mg):Cal P w K mg base 1 "_law_kept" ["_law_pieces"] (spP K bN):=by
 refine D.ok fJ (fun _ _ _ _ _ _ us hl=>match us,hl with | [_],_=>rfl) (fun vs H Q E h=>?_) (fun f cdv A outer s H vs Q E hr h=>?_)
 .exact ir lW h
 .have hu:=hr.units
  exact ⟨_,(ah (aM (i:=1) fJ.nd rfl (by first | exact Or.inl rfl | exact Or.inr rfl) (bb ag)) (ah (dM PassesOwn.never rfl (cw rfl T.b_range (paC (ar (cR K rfl) rfl T.b_len PySem.boot_len (paC (pv 0) ag)) ag)) (aE (i:=2) fJ.nd rfl (by first | exact Or.inl rfl | exact Or.inr rfl)) (ah (il (wi:=(gm K (a9 0))) (g:=(bY 0)) (tts:=(CB (kh (tOp Do (tCB (nH K) (bx (a9 0) e9)) (tCB (nH K) (bx (tOp (mW K) (a9 1) (a9 2)) e9)))) (kh (tOp (B2 K false) (tOp (mW K) (a9 1) (a9 2)) (a9 0))))) (te:=(a9 0)) (i:=3) ["_law_other","_law_pieces","_law_k"] [none,some 0,some 2] fJ.nd rfl (Or.inl rfl) rfl (bU K rfl (pv 0)) (fun _ _ _ _=>⟨(aE (i:=0) (by show List.Nodup (["_law_other","_law_pieces","_law_k"]:List Str);decide +kernel) rfl (by first | exact Or.inl rfl | exact Or.inr rfl)),(eZ (PW.pt (mM (aZ yh (ar (cR K rfl) rfl T.b_len PySem.boot_len (paC (pv 0) ag)) (ar (cR K rfl) rfl T.b_len PySem.boot_len (paC (ba (cV K rfl) (pv 1) (pv 2) (fun _ _=>rfl)) ag)) (bj _)) (jb (aZ (Dv K rfl) (ba (cV K rfl) (pv 1) (pv 2) (fun _ _=>rfl)) (pv 0) (by with_unfolding_all rfl)))))),(pv 0)⟩) (by kernel_rfl)) (ax (dP (PW.pt (mM (aZ (l9 K rfl hu) (pv 3) (bb ag) (bj _)) (jb (aZ (nS K rfl) (ba (cV K rfl) (pv 0) (pv 2) (fun _ _=>rfl)) (cu (qp K rfl) (pv 0) dq (cI (pv 2))) (by with_unfolding_all rfl))))) (ax (eX (fU K rfl PySem.F.plainAttrs_list PySem.F.slot_list_append PySem.F.type_list_append cQ (pv 1) (paC (ba (cV K rfl) (pv 0) (pv 2) (fun _ _=>rfl)) ag)))) bJ)))) (ax (aV (pv 1))))),fnP (K:=K) (c:=bN) (ps:=fP) (N:=["_law_pieces","_law_found","_law_k","_law_longer"]) (ay (aJ (bc af) (aC (i:=1) rfl)) (ay (dO (jl (aa (ac (a4 bD (aa (ak (i:=0)) af))) af)) (aB (i:=2) rfl) (ay (aJ (bE (ix:=[none,some 0,some 2]) rfl (b7 (ai (i:=0))) (fun fs hc=>(aB (i:=0) (iR hc (by decide)))) (mV (gk (al pz (ac (a4 bD (aa (ak (i:=0)) af))) (ac (a4 bD (aa (ac (al bg (ak (i:=1)) (ak (i:=2)))) af))))) (gk (al sy (ac (al bg (ak (i:=1)) (ak (i:=2)))) (ak (i:=0))))) (ai (i:=0))) (aC (i:=3) rfl)) (dS (mV (gk (al gW (ak (i:=3)) (ac (bc af)))) (gk (al sy (ac (al bg (ak (i:=0)) (ak (i:=2)))) (ac (cv (ak (i:=0)) cS (bO (ai (i:=2)))))))) (e6 (iQ (i:=1) (al bg (ak (i:=0)) (ak (i:=2))))) bM))) (aW (ai (i:=1))))) (fun ds Q h=>Nat.le_trans (Nat.le_of_eq (lW ds Q h)) (by decide)) rl h⟩
theorem ig:∀ds Q,aQ ds Q->ds.length=2:=fun ds Q h=>by unfold aQ at h;split at h;(first | rfl | exact h.elim);(first | rfl | exact h.elim)
theorem mK (D:cE K mg "_law_spelled" fG) (T:Txt mg) (TC:TxC K) (TX:TxX K mg):Cal P w K mg base 1 "_law_spelled" ["_law_number","_law_letters"] (spP K aQ):=by
 refine D.ok dC (fun _ _ _ _ _ _ us hl=>match us,hl with | [_,_],_=>rfl) (fun vs H Q E h=>?_) (fun f cdv A outer s H vs Q E hr h=>?_)
 .exact ir ig h
 .have hu:=hr.units
  exact ⟨_,(ah (aM (i:=2) dC.nd rfl (by first | exact Or.inl rfl | exact Or.inr rfl) (c8 (l:=[]) (by decide +kernel))) (ah (rJ PassesOwn.never (PW.pt (mM (aZ yh (pv 0) aq (bj _)) (jb (aZ An (ar (cR K rfl) rfl T.b_len PySem.boot_len (paC (pv 2) ag)) aq (bj _))))) (ah (aM (i:=2) dC.nd rfl (by first | exact Or.inl rfl | exact Or.inr rfl) (aK (bF K rfl) (pv 2) (ba (cV K rfl) (pv 1) (aK dt (pv 0) (ar (cR K rfl) rfl T.b_len PySem.boot_len (paC (pv 1) ag))) (fun _ _=>rfl)))) (ax (aM (i:=0) dC.nd rfl (by first | exact Or.inl rfl | exact Or.inr rfl) (aK fX (pv 0) (ar (cR K rfl) rfl T.b_len PySem.boot_len (paC (pv 1) ag))))))) (ax (aV (pv 2))))),fnP (K:=K) (c:=aQ) (ps:=dJ) (N:=["_law_number","_law_letters","_law_found"]) (ay (aJ (le_str (l:=[])) (aC (i:=2) rfl)) (ay (r8 (mV (gk (al pz (ak (i:=0)) (ac le_int))) (gk (al tG (ac (a4 bD (aa (ak (i:=2)) af))) (ac le_int)))) (ay (aJ (al a5 (ak (i:=2)) (ac (al bg (ak (i:=1)) (ac (al cB (ak (i:=0)) (ac (a4 bD (aa (ak (i:=1)) af)))))))) (aC (i:=2) rfl)) (aJ (al dR (ak (i:=0)) (ac (a4 bD (aa (ak (i:=1)) af)))) (aC (i:=0) rfl)))) (aW (ai (i:=2))))) (fun ds Q h=>Nat.le_trans (Nat.le_of_eq (ig ds Q h)) (by decide)) my h⟩
theorem j9:∀p ds Q,bR p ds Q->ds.length + 1=2:=fun p ds Q h=>by unfold bR at h;split at h;(first | rfl | exact h.elim);(first | rfl | exact h.elim)
theorem qi (D:cE K mg "_law_drawn" iA) (T:Txt mg) (TC:TxC K) (TX:TxX K mg) (C_law_next:Cal P w K mg base 1 "_law_next" ["_law_deck_here"] (spR K aG)) (C_law_spelled:Cal P w K mg base 1 "_law_spelled" ["_law_number","_law_letters"] (spP K aQ)):Cal P w K mg base 2 "_law_drawn" ["_law_deck_here","_law_most"] (spR K bR):=by
 refine D.ok bw (fun _ _ _ _ _ _ us hl=>match us,hl with | [_,_],_=>rfl) (fun vs H Q E h=>?_) (fun f cdv A outer s H vs Q E hr h=>?_)
 .exact Aq j9 h
 .have hu:=hr.units
  exact ⟨_,(ah (aM (i:=2) bw.nd rfl (by first | exact Or.inl rfl | exact Or.inr rfl) (ba (cV K rfl) (bb (paC (c8 (l:=[97,98]) (by decide +kernel)) (paC (c8 (l:=[97,98]) (by decide +kernel)) (paC (c8 (l:=[97,98,99]) (by decide +kernel)) (paC (c8 (l:=[120,121,122,97,98]) (by decide +kernel)) ag))))) (aK dt (aD C_law_next (hr.mono (by decide)) (paC (pv 0) ag)) aq) (fun _ _=>rfl))) (ah (aM (i:=3) bw.nd rfl (by first | exact Or.inl rfl | exact Or.inr rfl) (aD C_law_spelled (hr.mono (by decide)) (paC (aK (bF K rfl) (aD C_law_next (hr.mono (by decide)) (paC (pv 0) ag)) (aK qL aq aq)) (paC (pv 2) ag)))) (ah (aM (i:=3) bw.nd rfl (by first | exact Or.inl rfl | exact Or.inr rfl) (aK (bF K rfl) (pv 3) (aD C_law_spelled (hr.mono (by decide)) (paC (aK (bF K rfl) (aD C_law_next (hr.mono (by decide)) (paC (pv 0) ag)) (aK qL aq aq)) (paC (pv 2) ag))))) (ah (aM (i:=4) bw.nd rfl (by first | exact Or.inl rfl | exact Or.inr rfl) (bb ag)) (ah (dM PassesOwn.never rfl (cw rfl T.b_range (paC (aK (bF K rfl) aq (aK dt (aD C_law_next (hr.mono (by decide)) (paC (pv 0) ag)) (pv 1))) ag)) (aE (i:=5) bw.nd rfl (by first | exact Or.inl rfl | exact Or.inr rfl)) (ah (aM (i:=6) bw.nd rfl (by first | exact Or.inl rfl | exact Or.inr rfl) (aD C_law_next (hr.mono (by decide)) (paC (pv 0) ag))) (ah (aM (i:=7) bw.nd rfl (by first | exact Or.inl rfl | exact Or.inr rfl) (aK dt (pv 6) aq)) (ah (aM (i:=8) bw.nd rfl (by first | exact Or.inl rfl | exact Or.inr rfl) (cu (qp K rfl) (pv 3) (cI (pv 7)) (cI (aK (bF K rfl) (aK (bF K rfl) (pv 7) aq) (aK dt (aK fX (pv 6) aq) aq))))) (ah (jf (dP (aZ (l9 K rfl hu) (aK dt (aK fX (pv 6) aq) aq) aq (bj _)) (ax (aM (i:=8) bw.nd rfl (by first | exact Or.inl rfl | exact Or.inr rfl) (aD C_law_spelled (hr.mono (by decide)) (paC (aK (bF K rfl) (aK dt (aK fX (pv 6) aq) (aK qL aq aq)) aq) (paC (pv 2) ag))))) bJ)) (ah (jf (dP (aZ (l9 K rfl hu) (aK dt (aK fX (pv 6) aq) aq) aq (bj _)) (ax (aM (i:=8) bw.nd rfl (by first | exact Or.inl rfl | exact Or.inr rfl) (cu (qp K rfl) (aK nG (cu (qp K rfl) (pv 3) (cI (pv 7)) (cI (aK (bF K rfl) (aK (bF K rfl) (pv 7) aq) (aK dt (aK fX (pv 6) aq) aq)))) aq) dq (cI (aK (bF K rfl) aq (aK dt (aK fX (pv 6) aq) aq)))))) bJ)) (ah (jf (dP (aZ (l9 K rfl hu) (aK dt (aK fX (pv 6) aq) aq) aq (bj _)) (ax (aM (i:=8) bw.nd rfl (by first | exact Or.inl rfl | exact Or.inr rfl) (cu (qp K rfl) (aK nG (cu (qp K rfl) (pv 3) (cI (pv 7)) (cI (aK (bF K rfl) (pv 7) aq))) aq) dq (cI aq)))) bJ)) (ax (eX (fU K rfl PySem.F.plainAttrs_list PySem.F.slot_list_append PySem.F.type_list_append cQ (pv 4) (paC (cu (qp K rfl) (aK (bF K rfl) (pv 8) (c8 (l:=[97]) (by decide +kernel))) dq (cI (ar (BD rfl) rfl T.b_max boot_max (paC aq (paC (ar (cR K rfl) rfl T.b_len PySem.boot_len (paC (pv 8) ag)) ag))))) ag))))))))))) (ax (aV (pv 4)))))))),fnR (K:=K) (c:=bR) (ps:=eR) (N:=["_law_deck_here","_law_most","_law_letters","_law_text","_law_found","_law_k","_law_number","_law_at","_law_piece"]) (ay (aJ (al bg (ac (bc (aa (ac (le_str (l:=[97,98]))) (aa (ac (le_str (l:=[97,98]))) (aa (ac (le_str (l:=[97,98,99]))) (aa (ac (le_str (l:=[120,121,122,97,98]))) af)))))) (ac (al cB (ac (bP (i:=0) af)) (ac le_int)))) (aC (i:=2) rfl)) (ay (aJ (aH (c:=aQ) (aa (ac (al a5 (ac (bP (i:=0) af)) (ac (al kX (ac le_int) (ac le_int))))) (aa (ac (ai (i:=2))) af))) (aC (i:=3) rfl)) (ay (aJ (al a5 (ak (i:=3)) (ac (aH (c:=aQ) (aa (ac (al a5 (ac (bP (i:=0) af)) (ac (al kX (ac le_int) (ac le_int))))) (aa (ac (ai (i:=2))) af))))) (aC (i:=3) rfl)) (ay (aJ (bc af) (aC (i:=4) rfl)) (ay (dO (jl (aa (ac (al a5 (ac le_int) (ac (al cB (ac (bP (i:=0) af)) (ak (i:=1)))))) af)) (aB (i:=5) rfl) (ay (aJ (bP (i:=0) af) (aC (i:=6) rfl)) (ay (aJ (al cB (ak (i:=6)) (ac le_int)) (aC (i:=7) rfl)) (ay (aJ (cv (ak (i:=3)) (bO (ai (i:=7))) (bO (al a5 (ac (al a5 (ak (i:=7)) (ac le_int))) (ac (al cB (ac (al dR (ak (i:=6)) (ac le_int))) (ac le_int)))))) (aC (i:=8) rfl)) (ay (jk (dS (gk (al gW (ac (al cB (ac (al dR (ak (i:=6)) (ac le_int))) (ac le_int))) (ac le_int))) (aJ (aH (c:=aQ) (aa (ac (al a5 (ac (al cB (ac (al dR (ak (i:=6)) (ac le_int))) (ac (al kX (ac le_int) (ac le_int))))) (ac le_int))) (aa (ac (ai (i:=2))) af))) (aC (i:=8) rfl)) bM)) (ay (jk (dS (gk (al gW (ac (al cB (ac (al dR (ak (i:=6)) (ac le_int))) (ac le_int))) (ac le_int))) (aJ (cv (ac (al iO (ac (cv (ak (i:=3)) (bO (ai (i:=7))) (bO (al a5 (ac (al a5 (ak (i:=7)) (ac le_int))) (ac (al cB (ac (al dR (ak (i:=6)) (ac le_int))) (ac le_int))))))) (ac le_int))) cS (bO (al a5 (ac le_int) (ac (al cB (ac (al dR (ak (i:=6)) (ac le_int))) (ac le_int)))))) (aC (i:=8) rfl)) bM)) (ay (jk (dS (gk (al gW (ac (al cB (ac (al dR (ak (i:=6)) (ac le_int))) (ac le_int))) (ac le_int))) (aJ (cv (ac (al iO (ac (cv (ak (i:=3)) (bO (ai (i:=7))) (bO (al a5 (ak (i:=7)) (ac le_int))))) (ac le_int))) cS (bO le_int)) (aC (i:=8) rfl)) bM)) (e6 (iQ (i:=4) (cv (ac (al a5 (ak (i:=8)) (ac (le_str (l:=[97]))))) cS (bO (a4 zx (aa (ac le_int) (aa (ac (a4 bD (aa (ak (i:=8)) af))) af)))))))))))))) (aW (ai (i:=4)))))))) (fun p ds Q h=>Nat.le_trans (Nat.le_of_eq (j9 p ds Q h)) (by decide)) p7 h⟩
theorem lX:∀ds Q,cm ds Q->ds.length=2:=fun ds Q h=>by unfold cm at h;split at h;(first | rfl | exact h.elim);(first | rfl | exact h.elim)
theorem rD (D:cE K mg "_law_glue" jB) (T:Txt mg) (TC:TxC K) (TX:TxX K mg) (C_law_lap:Cal P w K mg base 2 "_law_lap" ["_law_one","_law_other"] (spP K aT)):Cal P w K mg base 3 "_law_glue" ["_law_words","_law_order_here"] (spP K cm):=by
 refine D.ok dw (fun _ _ _ _ _ _ us hl=>match us,hl with | [_,_],_=>rfl) (fun vs H Q E h=>?_) (fun f cdv A outer s H vs Q E hr h=>?_)
 .exact ir lX h
 .have hu:=hr.units
  exact ⟨_,(ah (aM (i:=2) dw.nd rfl (by first | exact Or.inl rfl | exact Or.inr rfl) (c8 (l:=[]) (by decide +kernel))) (ah (dM PassesOwn.never rfl (cw rfl T.b_range (paC (ar (cR K rfl) rfl T.b_len PySem.boot_len (paC (pv 1) ag)) ag)) (aE (i:=3) dw.nd rfl (by first | exact Or.inl rfl | exact Or.inr rfl)) (ah (aM (i:=4) dw.nd rfl (by first | exact Or.inl rfl | exact Or.inr rfl) aq) (ah (jf (dP (aZ yh (pv 3) aq (bj _)) (ax (aM (i:=4) dw.nd rfl (by first | exact Or.inl rfl | exact Or.inr rfl) (aD C_law_lap (hr.mono (by decide)) (paC (ba (cV K rfl) (pv 0) (ba (cV K rfl) (pv 1) (aK nM (pv 3) aq) (fun _ _=>rfl)) (fun _ _=>rfl)) (paC (ba (cV K rfl) (pv 0) (ba (cV K rfl) (pv 1) (pv 3) (fun _ _=>rfl)) (fun _ _=>rfl)) ag))))) bJ)) (ax (aM (i:=2) dw.nd rfl (by first | exact Or.inl rfl | exact Or.inr rfl) (aK (bF K rfl) (pv 2) (cu (qp K rfl) (ba (cV K rfl) (pv 0) (ba (cV K rfl) (pv 1) (pv 3) (fun _ _=>rfl)) (fun _ _=>rfl)) (cI (pv 4)) dq))))))) (ax (aV (pv 2))))),fnP (K:=K) (c:=cm) (ps:=fQ) (N:=["_law_words","_law_order_here","_law_text","_law_k","_law_own"]) (ay (aJ (le_str (l:=[])) (aC (i:=2) rfl)) (ay (dO (jl (aa (ac (a4 bD (aa (ak (i:=1)) af))) af)) (aB (i:=3) rfl) (ay (aJ le_int (aC (i:=4) rfl)) (ay (jk (dS (gk (al pz (ak (i:=3)) (ac le_int))) (aJ (aH (c:=aT) (aa (ac (al bg (ak (i:=0)) (ac (al bg (ak (i:=1)) (ac (al iN (ak (i:=3)) (ac le_int))))))) (aa (ac (al bg (ak (i:=0)) (ac (al bg (ak (i:=1)) (ak (i:=3)))))) af))) (aC (i:=4) rfl)) bM)) (aJ (al a5 (ak (i:=2)) (ac (cv (ac (al bg (ak (i:=0)) (ac (al bg (ak (i:=1)) (ak (i:=3)))))) (bO (ai (i:=4))) cS))) (aC (i:=2) rfl))))) (aW (ai (i:=2))))) (fun ds Q h=>Nat.le_trans (Nat.le_of_eq (lX ds Q h)) (by decide)) rm h⟩
theorem ka:∀p ds Q,b8 p ds Q->ds.length + 1=2:=fun p ds Q h=>by unfold b8 at h;split at h;(first | rfl | exact h.elim);(first | rfl | exact h.elim)
theorem qj (D:cE K mg "_law_order" iB) (T:Txt mg) (TC:TxC K) (TX:TxX K mg) (C_law_next:Cal P w K mg base 1 "_law_next" ["_law_deck_here"] (spR K aG)):Cal P w K mg base 2 "_law_order" ["_law_deck_here","_law_many"] (spR K b8):=by
 refine D.ok gG (fun _ _ _ _ _ _ us hl=>match us,hl with | [_,_],_=>rfl) (fun vs H Q E h=>?_) (fun f cdv A outer s H vs Q E hr h=>?_)
 .exact Aq ka h
 .have hu:=hr.units
  exact ⟨_,(ah (aM (i:=2) gG.nd rfl (by first | exact Or.inl rfl | exact Or.inr rfl) (aS (vo K rfl rfl) rfl T.b_list boot_list (paC (kO rfl T.b_range (paC (pv 1) ag)) ag))) (ah (aM (i:=3) gG.nd rfl (by first | exact Or.inl rfl | exact Or.inr rfl) (bb ag)) (ah (rJ PassesOwn.never (aZ (li K rfl hu) (pv 2) (bb ag) (bj _)) (ax (eX (fU K rfl PySem.F.plainAttrs_list PySem.F.slot_list_append PySem.F.type_list_append cQ (pv 3) (paC (fU K rfl PySem.F.plainAttrs_list PySem.F.slot_list_pop PySem.F.type_list_pop wP (pv 2) (paC (aK dt (aD C_law_next (hr.mono (by decide)) (paC (pv 0) ag)) (ar (cR K rfl) rfl T.b_len PySem.boot_len (paC (pv 2) ag))) ag)) ag))))) (ax (aV (pv 3)))))),fnR (K:=K) (c:=b8) (ps:=eS) (N:=["_law_deck_here","_law_many","_law_rest","_law_found"]) (ay (aJ (nK false (aa (ac (ai (i:=1))) af)) (aC (i:=2) rfl)) (ay (aJ (bc af) (aC (i:=3) rfl)) (ay (r8 (gk (al gz (ak (i:=2)) (ac (bc af)))) (e6 (iQ (i:=3) (xC (i:=2) (al cB (ac (bP (i:=0) af)) (ac (a4 bD (aa (ak (i:=2)) af)))))))) (aW (ai (i:=3)))))) (fun p ds Q h=>Nat.le_trans (Nat.le_of_eq (ka p ds Q h)) (by decide)) p9 h⟩
theorem ii:∀p ds Q,br p ds Q->ds.length + 1=2:=fun p ds Q h=>by unfold br at h;split at h;(first | rfl | exact h.elim);(first | rfl | exact h.elim)
theorem mL (D:cE K mg "_law_holding" fH) (T:Txt mg) (TC:TxC K) (TX:TxX K mg) (C_law_glue:Cal P w K mg base 3 "_law_glue" ["_law_words","_law_order_here"] (spP K cm)) (C_law_lap:Cal P w K mg base 2 "_law_lap" ["_law_one","_law_other"] (spP K aT)) (C_law_next:Cal P w K mg base 1 "_law_next" ["_law_deck_here"] (spR K aG)) (C_law_order:Cal P w K mg base 2 "_law_order" ["_law_deck_here","_law_many"] (spR K b8)):Cal P w K mg base 4 "_law_holding" ["_law_deck_here","_law_words"] (spR K br):=by
 refine D.ok bz (fun _ _ _ _ _ _ us hl=>match us,hl with | [_,_],_=>rfl) (fun vs H Q E h=>?_) (fun f cdv A outer s H vs Q E hr h=>?_)
 .exact Aq ii h
 .have hu:=hr.units
  exact ⟨_,(ah (aM (i:=2) bz.nd rfl (by first | exact Or.inl rfl | exact Or.inr rfl) (aD C_law_order (hr.mono (by decide)) (paC (pv 0) (paC (ar (cR K rfl) rfl T.b_len PySem.boot_len (paC (pv 1) ag)) ag)))) (ah (dP (aZ (l9 K rfl hu) (aK dt (aD C_law_next (hr.mono (by decide)) (paC (pv 0) ag)) aq) aq (bj _)) (ax (aV (aD C_law_glue (hr.mono (by decide)) (paC (pv 1) (paC (pv 2) ag))))) bJ) (ah (aM (i:=3) bz.nd rfl (by first | exact Or.inl rfl | exact Or.inr rfl) (cu (qp K rfl) (c8 (l:=[98,97]) (by decide +kernel)) dq (cI (aK dt (aD C_law_next (hr.mono (by decide)) (paC (pv 0) ag)) aq)))) (ah (dM PassesOwn.never rfl (cw rfl T.b_range (paC (ar (cR K rfl) rfl T.b_len PySem.boot_len (paC (pv 2) ag)) ag)) (aE (i:=4) bz.nd rfl (by first | exact Or.inl rfl | exact Or.inr rfl)) (ah (aM (i:=5) bz.nd rfl (by first | exact Or.inl rfl | exact Or.inr rfl) (aD C_law_next (hr.mono (by decide)) (paC (pv 0) ag))) (ah (aM (i:=6) bz.nd rfl (by first | exact Or.inl rfl | exact Or.inr rfl) aq) (ah (jf (dP (PW.pt (mM (aZ yh (pv 4) aq (bj _)) (jb (aZ yh (aK dt (pv 5) aq) aq (bj _))))) (ax (aM (i:=6) bz.nd rfl (by first | exact Or.inl rfl | exact Or.inr rfl) (aD C_law_lap (hr.mono (by decide)) (paC (ba (cV K rfl) (pv 1) (ba (cV K rfl) (pv 2) (aK nM (pv 4) aq) (fun _ _=>rfl)) (fun _ _=>rfl)) (paC (ba (cV K rfl) (pv 1) (ba (cV K rfl) (pv 2) (pv 4) (fun _ _=>rfl)) (fun _ _=>rfl)) ag))))) bJ)) (ah (jf (dP (PW.pt (mM (aZ (l9 K rfl hu) (pv 6) aq (bj _)) (jb (aZ yh (pv 4) aq (bj _))))) (ax (aM (i:=3) bz.nd rfl (by first | exact Or.inl rfl | exact Or.inr rfl) (aK (bF K rfl) (pv 3) (cu (qp K rfl) (c8 (l:=[113,97,98]) (by decide +kernel)) dq (cI (aK dt (aK fX (pv 5) aq) aq)))))) bJ)) (ax (aM (i:=3) bz.nd rfl (by first | exact Or.inl rfl | exact Or.inr rfl) (aK (bF K rfl) (pv 3) (cu (qp K rfl) (ba (cV K rfl) (pv 1) (ba (cV K rfl) (pv 2) (pv 4) (fun _ _=>rfl)) (fun _ _=>rfl)) (cI (pv 6)) dq))))))))) (ax (aV (aK (bF K rfl) (pv 3) (cu (qp K rfl) (c8 (l:=[97,98]) (by decide +kernel)) dq (cI (aK dt (aD C_law_next (hr.mono (by decide)) (paC (pv 0) ag)) aq)))))))))),fnR (K:=K) (c:=br) (ps:=dL) (N:=["_law_deck_here","_law_words","_law_order_here","_law_text","_law_k","_law_number","_law_own"]) (ay (aJ (bP (i:=0) (aa (ac (a4 bD (aa (ak (i:=1)) af))) af)) (aC (i:=2) rfl)) (ay (dS (gk (al gW (ac (al cB (ac (bP (i:=0) af)) (ac le_int))) (ac le_int))) (aW (aH (c:=cm) (aa (ac (ai (i:=1))) (aa (ac (ai (i:=2))) af)))) bM) (ay (aJ (cv (ac (le_str (l:=[98,97]))) cS (bO (al cB (ac (bP (i:=0) af)) (ac le_int)))) (aC (i:=3) rfl)) (ay (dO (jl (aa (ac (a4 bD (aa (ak (i:=2)) af))) af)) (aB (i:=4) rfl) (ay (aJ (bP (i:=0) af) (aC (i:=5) rfl)) (ay (aJ le_int (aC (i:=6) rfl)) (ay (jk (dS (mV (gk (al pz (ak (i:=4)) (ac le_int))) (gk (al pz (ac (al cB (ak (i:=5)) (ac le_int))) (ac le_int)))) (aJ (aH (c:=aT) (aa (ac (al bg (ak (i:=1)) (ac (al bg (ak (i:=2)) (ac (al iN (ak (i:=4)) (ac le_int))))))) (aa (ac (al bg (ak (i:=1)) (ac (al bg (ak (i:=2)) (ak (i:=4)))))) af))) (aC (i:=6) rfl)) bM)) (ay (jk (dS (mV (gk (al gW (ak (i:=6)) (ac le_int))) (gk (al pz (ak (i:=4)) (ac le_int)))) (aJ (al a5 (ak (i:=3)) (ac (cv (ac (le_str (l:=[113,97,98]))) cS (bO (al cB (ac (al dR (ak (i:=5)) (ac le_int))) (ac le_int)))))) (aC (i:=3) rfl)) bM)) (aJ (al a5 (ak (i:=3)) (ac (cv (ac (al bg (ak (i:=1)) (ac (al bg (ak (i:=2)) (ak (i:=4)))))) (bO (ai (i:=6))) cS))) (aC (i:=3) rfl))))))) (aW (al a5 (ak (i:=3)) (ac (cv (ac (le_str (l:=[97,98]))) cS (bO (al cB (ac (bP (i:=0) af)) (ac le_int))))))))))) (fun p ds Q h=>Nat.le_trans (Nat.le_of_eq (ii p ds Q h)) (by decide)) mz h⟩
theorem kc:∀ds Q,bS ds Q->ds.length=1:=fun ds Q h=>by unfold bS at h;split at h;(first | rfl | exact h.elim);(first | rfl | exact h.elim)
theorem qk (D:cE K mg "_law_whole" iC) (T:Txt mg) (TC:TxC K) (TX:TxX K mg):Cal P w K mg base 1 "_law_whole" ["_law_found"] (spP K bS):=by
 refine D.ok pQ (fun _ _ _ _ _ _ us hl=>match us,hl with | [_],_=>rfl) (fun vs H Q E h=>?_) (fun f cdv A outer s H vs Q E hr h=>?_)
 .exact ir kc h
 .have hu:=hr.units
  exact ⟨_,(ax (aV (jM (ar (vg K rfl) rfl T.b_isinstance boot_isinstance (paC (pv 0) (paC (ij (v:=.ty "int") rfl T.b_int boot_int rfl) ag))) (mO (um (ar (vg K rfl) rfl T.b_isinstance boot_isinstance (paC (pv 0) (paC (ij (v:=.ty "bool") rfl T.b_bool boot_bool rfl) ag)))))))),fnP (K:=K) (c:=bS) (ps:=eT) (N:=["_law_found"]) (aW (jR (pA .int (ak (i:=0))) (vd (pA .bool (ak (i:=0)))))) (fun ds Q h=>Nat.le_trans (Nat.le_of_eq (kc ds Q h)) (by decide)) qa h⟩
theorem i6:∀ds Q,a8 ds Q->ds.length=2:=fun ds Q h=>by unfold a8 at h;split at h;(first | rfl | exact h.elim);(first | rfl | exact h.elim)
theorem oB (D:cE K mg "_law_spread" gC) (T:Txt mg) (TC:TxC K) (TX:TxX K mg):Cal P w K mg base 1 "_law_spread" ["_law_laps","_law_sort"] (spP K a8):=by
 refine D.ok cN (fun _ _ _ _ _ _ us hl=>match us,hl with | [_,_],_=>rfl) (fun vs H Q E h=>?_) (fun f cdv A outer s H vs Q E hr h=>?_)
 .exact ir i6 h
 .have hu:=hr.units
  exact ⟨_,(ah (aM (i:=2) cN.nd rfl (by first | exact Or.inl rfl | exact Or.inr rfl) (ar (cR K rfl) rfl T.b_len PySem.boot_len (paC (pv 0) ag))) (ah (aM (i:=3) cN.nd rfl (by first | exact Or.inl rfl | exact Or.inr rfl) (bb ag)) (ah (aM (i:=4) cN.nd rfl (by first | exact Or.inl rfl | exact Or.inr rfl) (bb ag)) (ah (dM PassesOwn.never rfl (cw rfl T.b_range (paC (pv 2) ag)) (aE (i:=5) cN.nd rfl (by first | exact Or.inl rfl | exact Or.inr rfl)) (ah (aM (i:=6) cN.nd rfl (by first | exact Or.inl rfl | exact Or.inr rfl) (ar (vz K rfl rfl) rfl T.b_max boot_max (paC (aK (bF K rfl) (bb (paC aq ag)) (cf (wi:=(up (bx (a9 2) e9))) (g:=(bY 0)) (tts:=(kh (tOp (pH K true) (a9 0) (a9 2)))) (te:=(tOp (mW K) (tOp (mW K) (a9 1) (a9 2)) (a9 0))) ["_law_j","_law_laps","_law_i"] [none,some 0,some 5] rfl (cw rfl T.b_range (paC (pv 2) ag)) (fun _ _ _ _=>⟨(aE (i:=0) (by show List.Nodup (["_law_j","_law_laps","_law_i"]:List Str);decide +kernel) rfl (by first | exact Or.inl rfl | exact Or.inr rfl)),(eZ (aZ (li K rfl hu) (pv 0) (pv 2) (bj _))),(ba (cV K rfl) (ba (cV K rfl) (pv 1) (pv 2) (fun _ _=>rfl)) (pv 0) (fun _ _=>rfl))⟩) (by kernel_rfl))) ag))) (ah (aM (i:=7) cN.nd rfl (by first | exact Or.inl rfl | exact Or.inr rfl) (ar (vz K rfl rfl) rfl T.b_max boot_max (paC (aK (bF K rfl) (bb (paC aq ag)) (cf (wi:=(up (bx (a9 2) e9))) (g:=(bY 0)) (tts:=(kh (tOp (pH K true) (a9 0) (a9 1)))) (te:=(tOp (mW K) (tOp (mW K) (a9 2) (a9 0)) (a9 1))) ["_law_j","_law_i","_law_laps"] [none,some 5,some 0] rfl (cw rfl T.b_range (paC (pv 2) ag)) (fun _ _ _ _=>⟨(aE (i:=0) (by show List.Nodup (["_law_j","_law_i","_law_laps"]:List Str);decide +kernel) rfl (by first | exact Or.inl rfl | exact Or.inr rfl)),(eZ (aZ (li K rfl hu) (pv 0) (pv 1) (bj _))),(ba (cV K rfl) (ba (cV K rfl) (pv 2) (pv 0) (fun _ _=>rfl)) (pv 1) (fun _ _=>rfl))⟩) (by kernel_rfl))) ag))) (ah (eX (fU K rfl PySem.F.plainAttrs_list PySem.F.slot_list_append PySem.F.type_list_append cQ (pv 3) (paC (ba (cV K rfl) (bb (paC (pv 6) (paC aq (paC (aK fX (aK (bF K rfl) (pv 6) aq) aq) ag)))) (aK dt (pv 1) aq) (fun _ _=>rfl)) ag))) (ax (eX (fU K rfl PySem.F.plainAttrs_list PySem.F.slot_list_append PySem.F.type_list_append cQ (pv 4) (paC (ba (cV K rfl) (bb (paC aq (paC (pv 7) (paC (aK fX (aK (bF K rfl) (pv 7) aq) aq) ag)))) (aK dt (pv 1) aq) (fun _ _=>rfl)) ag)))))))) (ax (aV (bb (paC (pv 3) (paC (pv 4) ag))))))))),fnP (K:=K) (c:=a8) (ps:=d7) (N:=["_law_laps","_law_sort","_law_many","_law_gives","_law_takes","_law_i","_law_given","_law_taken"]) (ay (aJ (a4 bD (aa (ak (i:=0)) af)) (aC (i:=2) rfl)) (ay (aJ (bc af) (aC (i:=3) rfl)) (ay (aJ (bc af) (aC (i:=4) rfl)) (ay (dO (jl (aa (ac (ai (i:=2))) af)) (aB (i:=5) rfl) (ay (aJ (a4 qQ (aa (ac (al a5 (ac (bc (aa (ac le_int) af))) (ac (bE (ix:=[none,some 0,some 5]) rfl (jl (aa (ac (ai (i:=2))) af)) (fun fs hc=>(aB (i:=0) (iR hc (by decide)))) (gk (al gz (ak (i:=0)) (ak (i:=2)))) (al bg (ac (al bg (ak (i:=1)) (ak (i:=2)))) (ak (i:=0))))))) af)) (aC (i:=6) rfl)) (ay (aJ (a4 qQ (aa (ac (al a5 (ac (bc (aa (ac le_int) af))) (ac (bE (ix:=[none,some 5,some 0]) rfl (jl (aa (ac (ai (i:=2))) af)) (fun fs hc=>(aB (i:=0) (iR hc (by decide)))) (gk (al gz (ak (i:=0)) (ak (i:=1)))) (al bg (ac (al bg (ak (i:=2)) (ak (i:=0)))) (ak (i:=1))))))) af)) (aC (i:=7) rfl)) (ay (e6 (iQ (i:=3) (al bg (ac (bc (aa (ac (ai (i:=6))) (aa (ac le_int) (aa (ac (al dR (ac (al a5 (ak (i:=6)) (ac le_int))) (ac le_int))) af))))) (ac (al cB (ak (i:=1)) (ac le_int)))))) (e6 (iQ (i:=4) (al bg (ac (bc (aa (ac le_int) (aa (ac (ai (i:=7))) (aa (ac (al dR (ac (al a5 (ak (i:=7)) (ac le_int))) (ac le_int))) af))))) (ac (al cB (ak (i:=1)) (ac le_int)))))))))) (aW (sx (bc (aa (ac (ai (i:=3))) (aa (ac (ai (i:=4))) af))))))))) (fun ds Q h=>Nat.le_trans (Nat.le_of_eq (i6 ds Q h)) (by decide)) oj h⟩
theorem i8:∀ds Q,bA ds Q->ds.length=2:=fun ds Q h=>by unfold bA at h;split at h;(first | rfl | exact h.elim);(first | rfl | exact h.elim)
theorem oE (D:cE K mg "_law_mended" gD) (T:Txt mg) (TC:TxC K) (TX:TxX K mg):Cal P w K mg base 1 "_law_mended" ["_law_laps","_law_gives"] (spP K bA):=by
 refine D.ok dZ (fun _ _ _ _ _ _ us hl=>match us,hl with | [_,_],_=>rfl) (fun vs H Q E h=>?_) (fun f cdv A outer s H vs Q E hr h=>?_)
 .exact ir i8 h
 .have hu:=hr.units
  exact ⟨_,(ah (aM (i:=2) dZ.nd rfl (by first | exact Or.inl rfl | exact Or.inr rfl) (ar (cR K rfl) rfl T.b_len PySem.boot_len (paC (pv 0) ag))) (ah (aM (i:=3) dZ.nd rfl (by first | exact Or.inl rfl | exact Or.inr rfl) (bb ag)) (ah (dM PassesOwn.never rfl (cw rfl T.b_range (paC (pv 2) ag)) (aE (i:=4) dZ.nd rfl (by first | exact Or.inl rfl | exact Or.inr rfl)) (ax (eX (fU K rfl PySem.F.plainAttrs_list PySem.F.slot_list_append PySem.F.type_list_append cQ (pv 3) (paC (ar (vz K rfl rfl) rfl T.b_max boot_max (paC (aK (bF K rfl) (bb (paC aq ag)) (cf (wi:=(up (bx (a9 2) e9))) (g:=(bY 0)) (tts:=(kh (tOp (pH K true) (a9 0) (a9 1)))) (te:=(tOp BM (tOp (mW K) (tOp (mW K) (a9 3) (a9 0)) (a9 1)) (tOp (mW K) (a9 2) (a9 0)))) ["_law_i","_law_j","_law_gives","_law_laps"] [none,some 4,some 1,some 0] rfl (cw rfl T.b_range (paC (pv 2) ag)) (fun _ _ _ _=>⟨(aE (i:=0) (by show List.Nodup (["_law_i","_law_j","_law_gives","_law_laps"]:List Str);decide +kernel) rfl (by first | exact Or.inl rfl | exact Or.inr rfl)),(eZ (aZ (li K rfl hu) (pv 0) (pv 1) (bj _))),(aK nM (ba (cV K rfl) (ba (cV K rfl) (pv 3) (pv 0) (fun _ _=>rfl)) (pv 1) (fun _ _=>rfl)) (ba (cV K rfl) (pv 2) (pv 0) (fun _ _=>rfl)))⟩) (by kernel_rfl))) ag)) ag))))) (ax (aV (bb (paC (pv 1) (paC (pv 3) ag)))))))),fnP (K:=K) (c:=bA) (ps:=ee) (N:=["_law_laps","_law_gives","_law_many","_law_takes","_law_j"]) (ay (aJ (a4 bD (aa (ak (i:=0)) af)) (aC (i:=2) rfl)) (ay (aJ (bc af) (aC (i:=3) rfl)) (ay (dO (jl (aa (ac (ai (i:=2))) af)) (aB (i:=4) rfl) (e6 (iQ (i:=3) (a4 qQ (aa (ac (al a5 (ac (bc (aa (ac le_int) af))) (ac (bE (ix:=[none,some 4,some 1,some 0]) rfl (jl (aa (ac (ai (i:=2))) af)) (fun fs hc=>(aB (i:=0) (iR hc (by decide)))) (gk (al gz (ak (i:=0)) (ak (i:=1)))) (al iN (ac (al bg (ac (al bg (ak (i:=3)) (ak (i:=0)))) (ak (i:=1)))) (ac (al bg (ak (i:=2)) (ak (i:=0))))))))) af))))) (aW (sx (bc (aa (ac (ai (i:=1))) (aa (ac (ai (i:=3))) af)))))))) (fun ds Q h=>Nat.le_trans (Nat.le_of_eq (i8 ds Q h)) (by decide)) om h⟩
theorem ke:∀p ds Q,b9 p ds Q->ds.length + 1=2:=fun p ds Q h=>by unfold b9 at h;split at h;(first | rfl | exact h.elim);(first | rfl | exact h.elim)
theorem ql (D:cE K mg "_law_paper" iD) (T:Txt mg) (TC:TxC K) (TX:TxX K mg) (C_law_mended:Cal P w K mg base 1 "_law_mended" ["_law_laps","_law_gives"] (spP K bA)) (C_law_next:Cal P w K mg base 1 "_law_next" ["_law_deck_here"] (spR K aG)) (C_law_spread:Cal P w K mg base 1 "_law_spread" ["_law_laps","_law_sort"] (spP K a8)):Cal P w K mg base 2 "_law_paper" ["_law_deck_here","_law_laps"] (spR K b9):=by
 refine D.ok jU (fun _ _ _ _ _ _ us hl=>match us,hl with | [_,_],_=>rfl) (fun vs H Q E h=>?_) (fun f cdv A outer s H vs Q E hr h=>?_)
 .exact Aq ke h
 .have hu:=hr.units
  exact ⟨_,(ah (aM (i:=2) jU.nd rfl (by first | exact Or.inl rfl | exact Or.inr rfl) (aD C_law_next (hr.mono (by decide)) (paC (pv 0) ag))) (ah (dP (aZ An (aK dt (pv 2) aq) aq (bj _)) (ax (aV (aD C_law_spread (hr.mono (by decide)) (paC (pv 1) (paC (aK fX (pv 2) aq) ag))))) bJ) (ax (aV (aD C_law_mended (hr.mono (by decide)) (paC (pv 1) (paC (cf (wi:=(gm K (a9 1))) (g:=(bY 0)) (tts:=ja) (te:=(tOp BN (eY (spR K aG) [] E0 (bx (a9 1) e9)) (tC (V.int 6)))) ["_law_row","_law_deck_here"] [none,some 0] rfl (bU K rfl (pv 1)) (fun _ _ _ _=>⟨(aE (i:=0) (by show List.Nodup (["_law_row","_law_deck_here"]:List Str);decide +kernel) rfl (by first | exact Or.inl rfl | exact Or.inr rfl)),cA,(aK dt (aD C_law_next (hr.mono (by decide)) (paC (pv 1) ag)) aq)⟩) (by kernel_rfl)) ag))))))),fnR (K:=K) (c:=b9) (ps:=eU) (N:=["_law_deck_here","_law_laps","_law_number"]) (ay (aJ (bP (i:=0) af) (aC (i:=2) rfl)) (ay (dS (gk (al tG (ac (al cB (ak (i:=2)) (ac le_int))) (ac le_int))) (aW (sx (aH (c:=a8) (aa (ac (ai (i:=1))) (aa (ac (al dR (ak (i:=2)) (ac le_int))) af))))) bM) (aW (sx (aH (c:=bA) (aa (ac (ai (i:=1))) (aa (ac (bE (ix:=[none,some 0]) rfl (b7 (ai (i:=1))) (fun fs hc=>(aB (i:=0) (iR hc (by decide)))) dn (al cB (ac (bP (i:=1) af)) (ac le_int)))) af))))))) (fun p ds Q h=>Nat.le_trans (Nat.le_of_eq (ke p ds Q h)) (by decide)) qb h⟩
theorem kf:∀ds Q,bT ds Q->ds.length=3:=fun ds Q h=>by unfold bT at h;split at h;(first | rfl | exact h.elim);(first | rfl | exact h.elim)
theorem qm (D:cE K mg "_law_bound" iE) (T:Txt mg) (TC:TxC K) (TX:TxX K mg):Cal P w K mg base 1 "_law_bound" ["_law_words","_law_laps","_law_paper_here"] (spP K bT):=by
 refine D.ok gH (fun _ _ _ _ _ _ us hl=>match us,hl with | [_,_,_],_=>rfl) (fun vs H Q E h=>?_) (fun f cdv A outer s H vs Q E hr h=>?_)
 .exact ir kf h
 .have hu:=hr.units
  exact ⟨_,(ah (dM PassesOwn.never rfl (cw rfl T.b_range (paC (ar (cR K rfl) rfl T.b_len PySem.boot_len (paC (pv 0) ag)) ag)) (aE (i:=3) gH.nd rfl (by first | exact Or.inl rfl | exact Or.inr rfl)) (ah (dP (PW.pt (wA (aZ An (ba (cV K rfl) (ba (cV K rfl) (pv 2) aq (fun _ _=>rfl)) (pv 3) (fun _ _=>rfl)) aq (bj _)) (ul (aZ An (ba (cV K rfl) (ba (cV K rfl) (pv 2) aq (fun _ _=>rfl)) (pv 3) (fun _ _=>rfl)) aq (bj _))))) (ax (aV jK)) bJ) (ax (dM PassesOwn.never rfl (cw rfl T.b_range (paC (ar (cR K rfl) rfl T.b_len PySem.boot_len (paC (pv 0) ag)) ag)) (aE (i:=4) gH.nd rfl (by first | exact Or.inl rfl | exact Or.inr rfl)) (ax (dP (PW.pt (mM (aZ (li K rfl hu) (pv 3) (pv 4) (bj _)) (jb (aZ An (aK (bF K rfl) (ba (cV K rfl) (ba (cV K rfl) (pv 2) aq (fun _ _=>rfl)) (pv 3) (fun _ _=>rfl)) (ba (cV K rfl) (ba (cV K rfl) (pv 2) aq (fun _ _=>rfl)) (pv 4) (fun _ _=>rfl))) (ba (cV K rfl) (ba (cV K rfl) (pv 1) (pv 3) (fun _ _=>rfl)) (pv 4) (fun _ _=>rfl)) (bj _))))) (ax (aV jK)) bJ)))))) (ax (aV (aK nM (aK nM (ar (se K rfl rfl) rfl T.b_sum boot_sum (paC (cf (wi:=(gm K (a9 0))) (g:=(bY 0)) (tts:=ja) (te:=(tCB (nH K) (bx (a9 0) e9))) ["_law_word"] [none] rfl (bU K rfl (pv 0)) (fun _ _ _ _=>⟨(aE (i:=0) (by show List.Nodup (["_law_word"]:List Str);decide +kernel) rfl (by first | exact Or.inl rfl | exact Or.inr rfl)),cA,(ar (cR K rfl) rfl T.b_len PySem.boot_len (paC (pv 0) ag))⟩) (by kernel_rfl)) ag)) (ar (se K rfl rfl) rfl T.b_sum boot_sum (paC (ba (cV K rfl) (pv 2) aq (fun _ _=>rfl)) ag))) (ar (se K rfl rfl) rfl T.b_sum boot_sum (paC (ba (cV K rfl) (pv 2) aq (fun _ _=>rfl)) ag)))))),fnP (K:=K) (c:=bT) (ps:=eV) (N:=["_law_words","_law_laps","_law_paper_here","_law_i","_law_j"]) (ay (dO (jl (aa (ac (a4 bD (aa (ak (i:=0)) af))) af)) (aB (i:=3) rfl) (ay (dS (xl (gk (al tG (ac (al bg (ac (al bg (ak (i:=2)) (ac le_int))) (ak (i:=3)))) (ac le_int))) (gk (al tG (ac (al bg (ac (al bg (ak (i:=2)) (ac le_int))) (ak (i:=3)))) (ac le_int)))) (aW jP) bM) (dO (jl (aa (ac (a4 bD (aa (ak (i:=0)) af))) af)) (aB (i:=4) rfl) (dS (mV (gk (al gz (ak (i:=3)) (ak (i:=4)))) (gk (al tG (ac (al a5 (ac (al bg (ac (al bg (ak (i:=2)) (ac le_int))) (ak (i:=3)))) (ac (al bg (ac (al bg (ak (i:=2)) (ac le_int))) (ak (i:=4)))))) (ac (al bg (ac (al bg (ak (i:=1)) (ak (i:=3)))) (ak (i:=4))))))) (aW jP) bM)))) (aW (al iN (ac (al iN (ac (a4 nJ (aa (ac (bE (ix:=[none]) rfl (b7 (ai (i:=0))) (fun fs hc=>(aB (i:=0) (iR hc (by decide)))) dn (a4 bD (aa (ak (i:=0)) af)))) af))) (ac (a4 nJ (aa (ac (al bg (ak (i:=2)) (ac le_int))) af))))) (ac (a4 nJ (aa (ac (al bg (ak (i:=2)) (ac le_int))) af)))))) (fun ds Q h=>Nat.le_trans (Nat.le_of_eq (kf ds Q h)) (by decide)) qc h⟩
theorem lY:∀ds Q,cr ds Q->ds.length=2:=fun ds Q h=>by unfold cr at h;split at h;(first | rfl | exact h.elim);(first | rfl | exact h.elim)
theorem rE (D:cE K mg "_law_bent" jC) (T:Txt mg) (TC:TxC K) (TX:TxX K mg):Cal P w K mg base 1 "_law_bent" ["_law_paper_here","_law_at"] (spP K cr):=by
 refine D.ok dy (fun _ _ _ _ _ _ us hl=>match us,hl with | [_,_],_=>rfl) (fun vs H Q E h=>?_) (fun f cdv A outer s H vs Q E hr h=>?_)
 .exact ir lY h
 .have hu:=hr.units
  exact ⟨_,(ah (aM (i:=2) dy.nd rfl (by first | exact Or.inl rfl | exact Or.inr rfl) (bb (paC (pv 0) ag))) (ah (dM PassesOwn.never rfl (bU K rfl (bb (paC aq (paC aq ag)))) (aE (i:=3) dy.nd rfl (by first | exact Or.inl rfl | exact Or.inr rfl)) (ah (dM PassesOwn.never rfl (bU K rfl (bb (paC aq (paC (AI x0 aq) ag)))) (aE (i:=4) dy.nd rfl (by first | exact Or.inl rfl | exact Or.inr rfl)) (ah (il (wi:=(gm K (a9 0))) (g:=(bY 0)) (tts:=ja) (te:=(tCB (ip K) (bx (a9 0) e9))) (i:=5) ["_law_row"] [none] dy.nd rfl (Or.inl rfl) rfl (bU K rfl (pv 0)) (fun _ _ _ _=>⟨(aE (i:=0) (by show List.Nodup (["_law_row"]:List Str);decide +kernel) rfl (by first | exact Or.inl rfl | exact Or.inr rfl)),cA,(aS (k9 K rfl) rfl T.b_list boot_list (paC (pv 0) ag))⟩) (by kernel_rfl)) (ah (lm (aK (bF K rfl) (ba (cV K rfl) (ba (cV K rfl) (pv 5) (pv 3) (fun _ _=>rfl)) (pv 1) (fun _ _=>rfl)) (pv 4)) (oI (ba (cV K rfl) (pv 5) (pv 3) (fun _ _=>rfl)) (pv 1) iH)) (ax (eX (fU K rfl PySem.F.plainAttrs_list PySem.F.slot_list_append PySem.F.type_list_append cQ (pv 2) (paC (pv 5) ag))))))) (ah (il (wi:=(gm K (a9 0))) (g:=(bY 0)) (tts:=ja) (te:=(tCB (ip K) (bx (a9 0) e9))) (i:=5) ["_law_row"] [none] dy.nd rfl (Or.inl rfl) rfl (bU K rfl (pv 0)) (fun _ _ _ _=>⟨(aE (i:=0) (by show List.Nodup (["_law_row"]:List Str);decide +kernel) rfl (by first | exact Or.inl rfl | exact Or.inr rfl)),cA,(aS (k9 K rfl) rfl T.b_list boot_list (paC (pv 0) ag))⟩) (by kernel_rfl)) (ah (lm (aK (bF K rfl) (ba (cV K rfl) (ba (cV K rfl) (pv 5) (pv 3) (fun _ _=>rfl)) (pv 1) (fun _ _=>rfl)) (aK qL aq aq)) (oI (ba (cV K rfl) (pv 5) (pv 3) (fun _ _=>rfl)) (pv 1) iH)) (ax (eX (fU K rfl PySem.F.plainAttrs_list PySem.F.slot_list_append PySem.F.type_list_append cQ (pv 2) (paC (pv 5) ag)))))))) (ax (aV (pv 2))))),fnP (K:=K) (c:=cr) (ps:=fR) (N:=["_law_paper_here","_law_at","_law_found","_law_which","_law_more","_law_bent_here"]) (ay (aJ (bc (aa (ac (ai (i:=0))) af)) (aC (i:=2) rfl)) (ay (dO (b7 (bc (aa (ac le_int) (aa (ac le_int) af)))) (aB (i:=3) rfl) (ay (dO (b7 (bc (aa (ac le_int) (aa (ac (Br yi (ac le_int))) af)))) (aB (i:=4) rfl) (yn (x:=5) (y:=0) rfl (al a5 (ac (al bg (ac (al bg (ak (i:=5)) (ak (i:=3)))) (ak (i:=1)))) (ak (i:=4))) (ai (i:=3)) (ai (i:=1)) (e6 (iQ (i:=2) (ai (i:=5)))))) (yn (x:=5) (y:=0) rfl (al a5 (ac (al bg (ac (al bg (ak (i:=5)) (ak (i:=3)))) (ak (i:=1)))) (ac (al kX (ac le_int) (ac le_int)))) (ai (i:=3)) (ai (i:=1)) (e6 (iQ (i:=2) (ai (i:=5))))))) (aW (ai (i:=2))))) (fun ds Q h=>Nat.le_trans (Nat.le_of_eq (lY ds Q h)) (by decide)) rn h⟩
theorem i9:∀ds Q,bB ds Q->ds.length=2:=fun ds Q h=>by unfold bB at h;split at h;(first | rfl | exact h.elim);(first | rfl | exact h.elim)
theorem oF (D:cE K mg "_law_others" gE) (T:Txt mg) (TC:TxC K) (TX:TxX K mg):Cal P w K mg base 1 "_law_others" ["_law_paper_here","_law_at"] (spP K bB):=by
 refine D.ok cO (fun _ _ _ _ _ _ us hl=>match us,hl with | [_,_],_=>rfl) (fun vs H Q E h=>?_) (fun f cdv A outer s H vs Q E hr h=>?_)
 .exact ir i9 h
 .have hu:=hr.units
  exact ⟨_,(ah (rH (pv 0) (pJ K rfl (n:=2) rfl (dA (aE (i:=2) cO.nd rfl (by first | exact Or.inl rfl | exact Or.inr rfl)) (dA (aE (i:=3) cO.nd rfl (by first | exact Or.inl rfl | exact Or.inr rfl)) kA)))) (ah (aM (i:=4) cO.nd rfl (by first | exact Or.inl rfl | exact Or.inr rfl) (aS (k9 K rfl) rfl T.b_list boot_list (paC (pv 2) ag))) (ah (lm lZ (oI (pv 4) (pv 1) iH)) (ah (aM (i:=5) cO.nd rfl (by first | exact Or.inl rfl | exact Or.inr rfl) (aS (k9 K rfl) rfl T.b_list boot_list (paC (pv 3) ag))) (ah (lm (c8 (l:=[57]) (by decide +kernel)) (oI (pv 5) (pv 1) iH)) (ah (aM (i:=6) cO.nd rfl (by first | exact Or.inl rfl | exact Or.inr rfl) (bb (paC jK (paC aq (paC (c8 (l:=[97,98]) (by decide +kernel)) (paC xc (paC (rL ag) (paC (bb (paC (pv 2) ag)) (paC (bb (paC (pv 2) (paC (pv 3) (paC (pv 3) ag)))) (paC (bb (paC (cu (qp K rfl) (pv 2) (cI aq) dq) (paC (pv 3) ag))) (paC (bb (paC (pv 2) (paC (cu (qp K rfl) (pv 3) (cI aq) dq) ag))) ag))))))))))) (ah (aM (i:=6) cO.nd rfl (by first | exact Or.inl rfl | exact Or.inr rfl) (aK (bF K rfl) (pv 6) (bb (paC (bb (paC (aK (bF K rfl) (pv 2) (bb (paC aq ag))) (paC (pv 3) ag))) (paC (bb (paC (pv 2) (paC (aK (bF K rfl) (pv 3) (bb (paC aq ag))) ag))) (paC (bb (paC (pv 4) (paC (pv 3) ag))) (paC (bb (paC (pv 2) (paC (pv 5) ag))) (paC (bb (paC jK (paC (pv 3) ag))) ag)))))))) (ax (aV (aK (bF K rfl) (pv 6) (bb (paC (bb (paC (pv 2) (paC aq ag))) (paC (bb (paC (pv 2) (paC (c8 (l:=[97,98]) (by decide +kernel)) ag))) ag))))))))))))),fnP (K:=K) (c:=bB) (ps:=eh) (N:=["_law_paper_here","_law_at","_law_gives","_law_takes","_law_truth","_law_text","_law_found"]) (ay (aJ (ai (i:=0)) (vF (dB (aB (i:=2) rfl) (dB (aB (i:=3) rfl) kY)))) (ay (aJ (a4 lc (aa (ak (i:=2)) af)) (aC (i:=4) rfl)) (ay (qI (i:=4) l5 (ai (i:=1))) (ay (aJ (a4 lc (aa (ak (i:=3)) af)) (aC (i:=5) rfl)) (ay (qI (i:=5) (le_str (l:=[57])) (ai (i:=1))) (ay (aJ (bc (aa (ac jP) (aa (ac le_int) (aa (ac (le_str (l:=[97,98]))) (aa (ac zI) (aa (ac (vc af)) (aa (ac (bc (aa (ac (ai (i:=2))) af))) (aa (ac (bc (aa (ac (ai (i:=2))) (aa (ac (ai (i:=3))) (aa (ac (ai (i:=3))) af))))) (aa (ac (bc (aa (ac (cv (ak (i:=2)) (bO le_int) cS)) (aa (ac (ai (i:=3))) af)))) (aa (ac (bc (aa (ac (ai (i:=2))) (aa (ac (cv (ak (i:=3)) (bO le_int) cS)) af)))) af)))))))))) (aC (i:=6) rfl)) (ay (aJ (al a5 (ak (i:=6)) (ac (bc (aa (ac (bc (aa (ac (al a5 (ak (i:=2)) (ac (bc (aa (ac le_int) af))))) (aa (ac (ai (i:=3))) af)))) (aa (ac (bc (aa (ac (ai (i:=2))) (aa (ac (al a5 (ak (i:=3)) (ac (bc (aa (ac le_int) af))))) af)))) (aa (ac (bc (aa (ac (ai (i:=4))) (aa (ac (ai (i:=3))) af)))) (aa (ac (bc (aa (ac (ai (i:=2))) (aa (ac (ai (i:=5))) af)))) (aa (ac (bc (aa (ac jP) (aa (ac (ai (i:=3))) af)))) af)))))))) (aC (i:=6) rfl)) (aW (al a5 (ak (i:=6)) (ac (bc (aa (ac (bc (aa (ac (ai (i:=2))) (aa (ac le_int) af)))) (aa (ac (bc (aa (ac (ai (i:=2))) (aa (ac (le_str (l:=[97,98]))) af)))) af))))))))))))) (fun ds Q h=>Nat.le_trans (Nat.le_of_eq (i9 ds Q h)) (by decide)) oy h⟩
theorem kg:∀ds Q,bf ds Q->ds.length=5:=fun ds Q h=>by unfold bf at h;split at h;(first | rfl | exact h.elim);(first | rfl | exact h.elim)
theorem qo (D:cE K mg "_law_holds" iF) (T:Txt mg) (TC:TxC K) (TX:TxX K mg) (C_law_bound:Cal P w K mg base 1 "_law_bound" ["_law_words","_law_laps","_law_paper_here"] (spP K bT)) (C_law_whole:Cal P w K mg base 1 "_law_whole" ["_law_found"] (spP K bS)) (C_price_bound:Cal P w K mg base 6 "price_bound" ["family","paper"] (spP K aN)):Cal P w K mg base 7 "_law_holds" ["_law_family","_law_words","_law_laps","_law_paper_here","_law_texts"] (spP K bf):=by
 refine D.ok eN (fun _ _ _ _ _ _ us hl=>match us,hl with | [_,_,_,_,_],_=>rfl) (fun vs H Q E h=>?_) (fun f cdv A outer s H vs Q E hr h=>?_)
 .exact ir kg h
 .have hu:=hr.units
  exact ⟨_,(ah (aM (i:=5) eN.nd rfl (by first | exact Or.inl rfl | exact Or.inr rfl) (aD C_law_bound (hr.mono (by decide)) (paC (pv 1) (paC (pv 2) (paC (pv 3) ag))))) (ah (aM (i:=6) eN.nd rfl (by first | exact Or.inl rfl | exact Or.inr rfl) (bb (paC (aS (fz K rfl) rfl T.b_tuple boot_tuple (paC (ba (cV K rfl) (pv 3) aq (fun _ _=>rfl)) ag)) (paC (aS (k9 K rfl) rfl T.b_list boot_list (paC (ba (cV K rfl) (pv 3) aq (fun _ _=>rfl)) ag)) ag)))) (ah (aM (i:=7) eN.nd rfl (by first | exact Or.inl rfl | exact Or.inr rfl) (aD C_price_bound (hr.mono (by decide)) (paC (pv 0) (paC (pv 6) ag)))) (ah (dP (aZ (li K rfl hu) (pv 6) (bb (paC (aS (fz K rfl) rfl T.b_tuple boot_tuple (paC (ba (cV K rfl) (pv 3) aq (fun _ _=>rfl)) ag)) (paC (aS (k9 K rfl) rfl T.b_list boot_list (paC (ba (cV K rfl) (pv 3) aq (fun _ _=>rfl)) ag)) ag))) (bj _)) (ax (aV lZ)) bJ) (ah (dP (aZ DQ (pv 5) jK (bj _)) (ax (aV (ei DQ (pv 7) jK (bj _)))) bJ) (ah (dP (PW.pt (wA (jL (et (aD C_law_whole (hr.mono (by decide)) (paC (pv 7) ag)))) (wA (aZ (li K rfl hu) (pv 7) (pv 5) (bj _)) (ul (aZ (li K rfl hu) (aD C_price_bound (hr.mono (by decide)) (paC (pv 0) (paC (aS (fz K rfl) rfl T.b_tuple boot_tuple (paC (pv 3) ag)) ag))) (pv 5) (bj _)))))) (ax (aV lZ)) bJ) (ax (aV (ei (l9 K rfl hu) (cf (wi:=(gm K (a9 4))) (g:=(bY 0)) (tts:=(kh (tOp C9 (tCB (nH K) (bx (a9 0) e9)) (a9 1)))) (te:=(a9 0)) ["_law_text","_law_told"] [none,some 7] rfl (bU K rfl (pv 4)) (fun _ _ _ _=>⟨(aE (i:=0) (by show List.Nodup (["_law_text","_law_told"]:List Str);decide +kernel) rfl (by first | exact Or.inl rfl | exact Or.inr rfl)),(eZ (aZ An (ar (cR K rfl) rfl T.b_len PySem.boot_len (paC (pv 0) ag)) (pv 1) (bj _))),(pv 0)⟩) (by kernel_rfl)) (bb ag) (bj _)))))))))),fnP (K:=K) (c:=bf) (ps:=eW) (N:=["_law_family","_law_words","_law_laps","_law_paper_here","_law_texts","_law_bound_here","_law_handed","_law_told"]) (ay (aJ (aH (c:=bT) (aa (ac (ai (i:=1))) (aa (ac (ai (i:=2))) (aa (ac (ai (i:=3))) af)))) (aC (i:=5) rfl)) (ay (aJ (bc (aa (ac (a4 dY (aa (ac (al bg (ak (i:=3)) (ac le_int))) af))) (aa (ac (a4 lc (aa (ac (al bg (ak (i:=3)) (ac le_int))) af))) af))) (aC (i:=6) rfl)) (ay (aJ (aH (c:=aN) (aa (ac (ai (i:=0))) (aa (ac (ai (i:=6))) af))) (aC (i:=7) rfl)) (ay (dS (gk (al gz (ak (i:=6)) (ac (bc (aa (ac (a4 dY (aa (ac (al bg (ak (i:=3)) (ac le_int))) af))) (aa (ac (a4 lc (aa (ac (al bg (ak (i:=3)) (ac le_int))) af))) af)))))) (aW l5) bM) (ay (dS (gk (al zo (ak (i:=5)) (ac jP))) (aW (al zo (ak (i:=7)) (ac jP))) bM) (ay (dS (xl (jQ (ud (aH (c:=bS) (aa (ac (ai (i:=7))) af)))) (xl (gk (al gz (ak (i:=7)) (ak (i:=5)))) (gk (al gz (ac (aH (c:=aN) (aa (ac (ai (i:=0))) (aa (ac (a4 dY (aa (ak (i:=3)) af))) af)))) (ak (i:=5)))))) (aW l5) bM) (aW (al gW (ac (bE (ix:=[none,some 7]) rfl (b7 (ai (i:=4))) (fun fs hc=>(aB (i:=0) (iR hc (by decide)))) (gk (al tG (ac (a4 bD (aa (ak (i:=0)) af))) (ak (i:=1)))) (ai (i:=0)))) (ac (bc af)))))))))) (fun ds Q h=>Nat.le_trans (Nat.le_of_eq (kg ds Q h)) (by decide)) qe h⟩
theorem yB:∀ds Q,sL ds Q->ds.length=1:=fun ds Q h=>by obtain ⟨_,rfl,_⟩:=h;rfl
theorem Cg (D:cE K mg "law" xR) (T:Txt mg) (TC:TxC K) (TX:TxX K mg) (C_Family_init:Bo P w K mg base 4 (bL K "Family") "Family" ["self","pieces"] (spR K bp)) (C_law_bent:Cal P w K mg base 1 "_law_bent" ["_law_paper_here","_law_at"] (spP K cr)) (C_law_deck:Cal P w K mg base 1 "_law_deck" ["_law_cells","_law_many"] (spP K cj)) (C_law_drawn:Cal P w K mg base 2 "_law_drawn" ["_law_deck_here","_law_most"] (spR K bR)) (C_law_holding:Cal P w K mg base 4 "_law_holding" ["_law_deck_here","_law_words"] (spR K br)) (C_law_holds:Cal P w K mg base 7 "_law_holds" ["_law_family","_law_words","_law_laps","_law_paper_here","_law_texts"] (spP K bf)) (C_law_kept:Cal P w K mg base 1 "_law_kept" ["_law_pieces"] (spP K bN)) (C_law_lap:Cal P w K mg base 2 "_law_lap" ["_law_one","_law_other"] (spP K aT)) (C_law_next:Cal P w K mg base 1 "_law_next" ["_law_deck_here"] (spR K aG)) (C_law_others:Cal P w K mg base 1 "_law_others" ["_law_paper_here","_law_at"] (spP K bB)) (C_law_paper:Cal P w K mg base 2 "_law_paper" ["_law_deck_here","_law_laps"] (spR K b9)) (C_law_spread:Cal P w K mg base 1 "_law_spread" ["_law_laps","_law_sort"] (spP K a8)) (C_price_bound:Cal P w K mg base 6 "price_bound" ["family","paper"] (spP K aN)):Cal P w K mg base 8 "law" ["_law_script"] (spP K sL):=by
 refine D.ok eO (fun _ _ _ _ _ _ us hl=>match us,hl with | [_],_=>rfl) (fun vs H Q E h=>?_) (fun f cdv A outer s H vs Q E hr h=>?_)
 .exact ir yB h
 .have hu:=hr.units
  exact ⟨_,(ah (aM (i:=1) eO.nd rfl (by first | exact Or.inl rfl | exact Or.inr rfl) (aD C_law_deck (hr.mono (by decide)) (paC (pv 0) (paC aq ag)))) (ah (aM (i:=2) eO.nd rfl (by first | exact Or.inl rfl | exact Or.inr rfl) (aD C_law_drawn (hr.mono (by decide)) (paC (pv 1) (paC aq ag)))) (ah (aM (i:=3) eO.nd rfl (by first | exact Or.inl rfl | exact Or.inr rfl) (aD C_law_kept (hr.mono (by decide)) (paC (pv 2) ag))) (ah (il (wi:=(gm K (a9 3))) (g:=(bY 0)) (tts:=ja) (te:=(l4 [none,some 0] (gm K (a9 1)) (bY 0) ja (eY (spP K aT) [] E0 (bx (a9 1) (bx (a9 0) e9))))) (i:=4) ["_law_one","_law_words"] [none,some 3] eO.nd rfl (Or.inl rfl) rfl (bU K rfl (pv 3)) (fun _ _ _ _=>⟨(aE (i:=0) (by show List.Nodup (["_law_one","_law_words"]:List Str);decide +kernel) rfl (by first | exact Or.inl rfl | exact Or.inr rfl)),cA,(cf (wi:=(gm K (a9 1))) (g:=(bY 0)) (tts:=ja) (te:=(eY (spP K aT) [] E0 (bx (a9 1) (bx (a9 0) e9)))) ["_law_other","_law_one"] [none,some 0] rfl (bU K rfl (pv 1)) (fun _ _ _ _=>⟨(aE (i:=0) (by show List.Nodup (["_law_other","_law_one"]:List Str);decide +kernel) rfl (by first | exact Or.inl rfl | exact Or.inr rfl)),cA,(aD C_law_lap (hr.mono (by decide)) (paC (pv 1) (paC (pv 0) ag)))⟩) (by kernel_rfl))⟩) (by kernel_rfl)) (ah (aM (i:=5) eO.nd rfl (by first | exact Or.inl rfl | exact Or.inr rfl) (sj C_Family_init (hr.mono (by decide)) (paC (pv 2) ag))) (ah (aM (i:=6) eO.nd rfl (by first | exact Or.inl rfl | exact Or.inr rfl) (aD C_law_drawn (hr.mono (by decide)) (paC (pv 1) (paC aq ag)))) (ah (aM (i:=7) eO.nd rfl (by first | exact Or.inl rfl | exact Or.inr rfl) (bb (paC (aD C_law_holding (hr.mono (by decide)) (paC (pv 1) (paC (pv 3) ag))) (paC (aD C_law_holding (hr.mono (by decide)) (paC (pv 1) (paC (pv 3) ag))) ag)))) (ah (aM (i:=8) eO.nd rfl (by first | exact Or.inl rfl | exact Or.inr rfl) (aD C_law_paper (hr.mono (by decide)) (paC (pv 1) (paC (pv 4) ag)))) (ah (aM (i:=9) eO.nd rfl (by first | exact Or.inl rfl | exact Or.inr rfl) (aK dt (aD C_law_next (hr.mono (by decide)) (paC (pv 1) ag)) (ar (cR K rfl) rfl T.b_len PySem.boot_len (paC (pv 3) ag)))) (ah (dM PassesOwn.never rfl (bU K rfl (aD C_law_bent (hr.mono (by decide)) (paC (pv 8) (paC (pv 9) ag)))) (aE (i:=10) eO.nd rfl (by first | exact Or.inl rfl | exact Or.inr rfl)) (ax (dP (jL (et (aD C_law_holds (hr.mono (by decide)) (paC (pv 5) (paC (pv 3) (paC (pv 4) (paC (pv 10) (paC (pv 7) ag)))))))) (ax (aV lZ)) bJ))) (ah (aM (i:=11) eO.nd rfl (by first | exact Or.inl rfl | exact Or.inr rfl) (aD C_law_kept (hr.mono (by decide)) (paC (pv 6) ag))) (ah (il (wi:=(gm K (a9 11))) (g:=(bY 0)) (tts:=ja) (te:=(l4 [none,some 0] (gm K (a9 1)) (bY 0) ja (eY (spP K aT) [] E0 (bx (a9 1) (bx (a9 0) e9))))) (i:=12) ["_law_one","_law_second"] [none,some 11] eO.nd rfl (Or.inl rfl) rfl (bU K rfl (pv 11)) (fun _ _ _ _=>⟨(aE (i:=0) (by show List.Nodup (["_law_one","_law_second"]:List Str);decide +kernel) rfl (by first | exact Or.inl rfl | exact Or.inr rfl)),cA,(cf (wi:=(gm K (a9 1))) (g:=(bY 0)) (tts:=ja) (te:=(eY (spP K aT) [] E0 (bx (a9 1) (bx (a9 0) e9)))) ["_law_other","_law_one"] [none,some 0] rfl (bU K rfl (pv 1)) (fun _ _ _ _=>⟨(aE (i:=0) (by show List.Nodup (["_law_other","_law_one"]:List Str);decide +kernel) rfl (by first | exact Or.inl rfl | exact Or.inr rfl)),cA,(aD C_law_lap (hr.mono (by decide)) (paC (pv 1) (paC (pv 0) ag)))⟩) (by kernel_rfl))⟩) (by kernel_rfl)) (ah (dP (jL (et (aD C_law_holds (hr.mono (by decide)) (paC (sj C_Family_init (hr.mono (by decide)) (paC (pv 6) ag)) (paC (pv 11) (paC (pv 12) (paC (aD C_law_spread (hr.mono (by decide)) (paC (pv 12) (paC (pv 9) ag))) (paC (bb ag) ag)))))))) (ax (aV lZ)) bJ) (ah (dM PassesOwn.never rfl (bU K rfl (aD C_law_others (hr.mono (by decide)) (paC (pv 8) (paC (pv 9) ag)))) (aE (i:=13) eO.nd rfl (by first | exact Or.inl rfl | exact Or.inr rfl)) (ax (dP (aZ zn (aD C_price_bound (hr.mono (by decide)) (paC (pv 5) (paC (pv 13) ag))) jK (bj _)) (ax (aV lZ)) bJ))) (ax (aV (aD C_law_holds (hr.mono (by decide)) (paC (pv 5) (paC (pv 3) (paC (pv 4) (paC (pv 8) (paC (pv 7) ag)))))))))))))))))))))),fnP (K:=K) (c:=sL) (ps:=sN) (N:=["_law_script","_law_deck_here","_law_pieces","_law_words","_law_laps","_law_family","_law_others_here","_law_texts","_law_paper_here","_law_at","_law_bent_here","_law_second","_law_laps_there","_law_thing"]) (ay (aJ (aH (c:=cj) (aa (ac (ai (i:=0))) (aa (ac le_int) af))) (aC (i:=1) rfl)) (ay (aJ (bP (i:=1) (aa (ac le_int) af)) (aC (i:=2) rfl)) (ay (aJ (aH (c:=bN) (aa (ac (ai (i:=2))) af)) (aC (i:=3) rfl)) (ay (aJ (bE (ix:=[none,some 3]) rfl (b7 (ai (i:=3))) (fun fs hc=>(aB (i:=0) (iR hc (by decide)))) dn (bE (ix:=[none,some 0]) rfl (b7 (ai (i:=1))) (fun fs hc=>(aB (i:=0) (iR hc (by decide)))) dn (aH (c:=aT) (aa (ac (ai (i:=1))) (aa (ac (ai (i:=0))) af))))) (aC (i:=4) rfl)) (ay (aJ (vq (aa (ac (ai (i:=2))) af)) (aC (i:=5) rfl)) (ay (aJ (bP (i:=1) (aa (ac le_int) af)) (aC (i:=6) rfl)) (ay (aJ (bc (aa (ac (bP (i:=1) (aa (ac (ai (i:=3))) af))) (aa (ac (bP (i:=1) (aa (ac (ai (i:=3))) af))) af))) (aC (i:=7) rfl)) (ay (aJ (bP (i:=1) (aa (ac (ai (i:=4))) af)) (aC (i:=8) rfl)) (ay (aJ (al cB (ac (bP (i:=1) af)) (ac (a4 bD (aa (ak (i:=3)) af)))) (aC (i:=9) rfl)) (ay (dO (b7 (aH (c:=cr) (aa (ac (ai (i:=8))) (aa (ac (ai (i:=9))) af)))) (aB (i:=10) rfl) (dS (jQ (ud (aH (c:=bf) (aa (ac (ai (i:=5))) (aa (ac (ai (i:=3))) (aa (ac (ai (i:=4))) (aa (ac (ai (i:=10))) (aa (ac (ai (i:=7))) af)))))))) (aW l5) bM)) (ay (aJ (aH (c:=bN) (aa (ac (ai (i:=6))) af)) (aC (i:=11) rfl)) (ay (aJ (bE (ix:=[none,some 11]) rfl (b7 (ai (i:=11))) (fun fs hc=>(aB (i:=0) (iR hc (by decide)))) dn (bE (ix:=[none,some 0]) rfl (b7 (ai (i:=1))) (fun fs hc=>(aB (i:=0) (iR hc (by decide)))) dn (aH (c:=aT) (aa (ac (ai (i:=1))) (aa (ac (ai (i:=0))) af))))) (aC (i:=12) rfl)) (ay (dS (jQ (ud (aH (c:=bf) (aa (ac (vq (aa (ac (ai (i:=6))) af))) (aa (ac (ai (i:=11))) (aa (ac (ai (i:=12))) (aa (ac (aH (c:=a8) (aa (ac (ai (i:=12))) (aa (ac (ai (i:=9))) af)))) (aa (ac (bc af)) af)))))))) (aW l5) bM) (ay (dO (b7 (aH (c:=bB) (aa (ac (ai (i:=8))) (aa (ac (ai (i:=9))) af)))) (aB (i:=13) rfl) (dS (gk (al zo (ac (aH (c:=aN) (aa (ac (ai (i:=5))) (aa (ac (ai (i:=13))) af)))) (ac jP))) (aW l5) bM)) (aW (aH (c:=bf) (aa (ac (ai (i:=5))) (aa (ac (ai (i:=3))) (aa (ac (ai (i:=4))) (aa (ac (ai (i:=8))) (aa (ac (ai (i:=7))) af))))))))))))))))))))) (fun ds Q h=>Nat.le_trans (Nat.le_of_eq (yB ds Q h)) (by decide)) Ce h⟩
end
theorem Ch {l:PySem.W.OpenLaw}{w:World}{K:PySem.W.Frag}{h:Heap}{mg:Str->Option Value}{fa:Addr} (X:K.In h) (G:h.Ns mainGlobals mg) (hfa:mg "law"=some (.ref fa))
  {C_Family:Addr} (aC_Family:PySem.W.nsIn K mainGlobals "Family"=some (some (.ref C_Family))) (pg_Family:PySem.W.plainGet K C_Family Str.empty=true) (hd_Family:PySem.W.hasDictIn K C_Family=true) (po_Family:PySem.W.plainOver K C_Family=true) (sa_Family:PySem.W.findIn K (.ref C_Family) "__setattr__"=some (some (.builtin "object.__setattr__"))) (mk_Family:PySem.W.makesIn K C_Family=true) (kc_Family:PySem.W.keepIn K (.ref C_Family)=true)
  (n_Family_pieces:PySem.W.findIn K (.ref C_Family) "pieces"=some none)
  (n_Family_kept:PySem.W.findIn K (.ref C_Family) "kept"=some none)
  (n_Family_words:PySem.W.findIn K (.ref C_Family) "words"=some none)
  (n_Family_left:PySem.W.findIn K (.ref C_Family) "left"=some none)
  (n_Family_laps:PySem.W.findIn K (.ref C_Family) "laps"=some none)
  (n_Family_total:PySem.W.findIn K (.ref C_Family) "total"=some none)
  {C_GlueError:Addr} (aC_GlueError:PySem.W.nsIn K mainGlobals "GlueError"=some (some (.ref C_GlueError))) {q_GlueError:Str}{N_GlueError:Addr}{bs_GlueError sub_GlueError:List Value}{sn_GlueError:List Str}{ab_GlueError:Bool}{col_GlueError:Option Bool}{k0_GlueError k1_GlueError k2_GlueError k3_GlueError k5_GlueError:Option Value} (lC_GlueError:K.lookup C_GlueError=some (excClassObj "GlueError" q_GlueError C_GlueError N_GlueError bs_GlueError [.type "ValueError",.type "Exception",.type "BaseException",.type "object"] true sn_GlueError sub_GlueError ab_GlueError col_GlueError none k0_GlueError k1_GlueError k2_GlueError k3_GlueError k5_GlueError "ValueError.__new__")) (xq_GlueError:PySem.W.excIn K C_GlueError [.type "ValueError",.type "Exception",.type "BaseException",.type "object"] "ValueError.__new__"=true)
  {C_TooMany:Addr} (aC_TooMany:PySem.W.nsIn K mainGlobals "TooMany"=some (some (.ref C_TooMany))) {q_TooMany:Str}{N_TooMany:Addr}{bs_TooMany sub_TooMany:List Value}{sn_TooMany:List Str}{ab_TooMany:Bool}{col_TooMany:Option Bool}{k0_TooMany k1_TooMany k2_TooMany k3_TooMany k5_TooMany:Option Value} (lC_TooMany:K.lookup C_TooMany=some (excClassObj "TooMany" q_TooMany C_TooMany N_TooMany bs_TooMany (.ref C_GlueError::[.type "ValueError",.type "Exception",.type "BaseException",.type "object"]) true sn_TooMany sub_TooMany ab_TooMany col_TooMany none k0_TooMany k1_TooMany k2_TooMany k3_TooMany k5_TooMany "ValueError.__new__")) (ga_TooMany:PySem.W.findIn K (.ref C_TooMany) "__getattribute__"=some (some (.builtin "BaseException.__getattribute__"))) (gh_TooMany:PySem.W.findIn K (.ref C_TooMany) "__getattr__"=some none) (sa_TooMany:PySem.W.findIn K (.ref C_TooMany) "__setattr__"=some (some (.builtin "object.__setattr__"))) (cl_TooMany:PySem.W.findIn K (.ref C_TooMany) "__class__"=some (some (.builtin "object.__class__"))) (kc_TooMany:PySem.W.keepIn K (.ref C_TooMany)=true)
  {fx_TooMany:Addr}{xoc_TooMany xkV_TooMany xdc_TooMany xpm_TooMany xcd_TooMany xct_TooMany:Value}{xod_TooMany xan_TooMany:Option Addr}{xsl_TooMany:Array (Option Value)} (xi_TooMany:PySem.W.findIn K (.ref C_TooMany) "__init__"=some (some (.ref fx_TooMany))) (xt_TooMany:PySem.W.typeIn K (.ref fx_TooMany)=some (.type "function")) (xl_TooMany:K.lookup fx_TooMany=some ⟨xoc_TooMany,xod_TooMany,.func (PySem.W.fnOf "__init__" "TooMany.__init__" (cJ cZ) (bK cZ) (ao cZ) .none xkV_TooMany xdc_TooMany xpm_TooMany xan_TooMany xcd_TooMany xct_TooMany),xsl_TooMany⟩) (xc0_TooMany:PySem.W.codeIn K xcd_TooMany "TooMany.__init__"=true) (xk_TooMany:PySem.W.keepIn K (.ref fx_TooMany)=true) (xn_TooMany:PySem.W.findIn K (.ref C_TooMany) "most"=some none)
  {C_NoPiece:Addr} (aC_NoPiece:PySem.W.nsIn K mainGlobals "NoPiece"=some (some (.ref C_NoPiece))) {q_NoPiece:Str}{N_NoPiece:Addr}{bs_NoPiece sub_NoPiece:List Value}{sn_NoPiece:List Str}{ab_NoPiece:Bool}{col_NoPiece:Option Bool}{k0_NoPiece k1_NoPiece k2_NoPiece k3_NoPiece k5_NoPiece:Option Value} (lC_NoPiece:K.lookup C_NoPiece=some (excClassObj "NoPiece" q_NoPiece C_NoPiece N_NoPiece bs_NoPiece (.ref C_GlueError::[.type "ValueError",.type "Exception",.type "BaseException",.type "object"]) true sn_NoPiece sub_NoPiece ab_NoPiece col_NoPiece none k0_NoPiece k1_NoPiece k2_NoPiece k3_NoPiece k5_NoPiece "ValueError.__new__")) (ga_NoPiece:PySem.W.findIn K (.ref C_NoPiece) "__getattribute__"=some (some (.builtin "BaseException.__getattribute__"))) (gh_NoPiece:PySem.W.findIn K (.ref C_NoPiece) "__getattr__"=some none) (sa_NoPiece:PySem.W.findIn K (.ref C_NoPiece) "__setattr__"=some (some (.builtin "object.__setattr__"))) (cl_NoPiece:PySem.W.findIn K (.ref C_NoPiece) "__class__"=some (some (.builtin "object.__class__"))) (kc_NoPiece:PySem.W.keepIn K (.ref C_NoPiece)=true)
  {fx_NoPiece:Addr}{xoc_NoPiece xkV_NoPiece xdc_NoPiece xpm_NoPiece xcd_NoPiece xct_NoPiece:Value}{xod_NoPiece xan_NoPiece:Option Addr}{xsl_NoPiece:Array (Option Value)} (xi_NoPiece:PySem.W.findIn K (.ref C_NoPiece) "__init__"=some (some (.ref fx_NoPiece))) (xt_NoPiece:PySem.W.typeIn K (.ref fx_NoPiece)=some (.type "function")) (xl_NoPiece:K.lookup fx_NoPiece=some ⟨xoc_NoPiece,xod_NoPiece,.func (PySem.W.fnOf "__init__" "NoPiece.__init__" (cJ c4) (bK c4) (ao c4) .none xkV_NoPiece xdc_NoPiece xpm_NoPiece xan_NoPiece xcd_NoPiece xct_NoPiece),xsl_NoPiece⟩) (xc0_NoPiece:PySem.W.codeIn K xcd_NoPiece "NoPiece.__init__"=true) (xk_NoPiece:PySem.W.keepIn K (.ref fx_NoPiece)=true) (xn_NoPiece:PySem.W.findIn K (.ref C_NoPiece) "at"=some none)
  (d1:gn K "is_row" nW)
  (d2:gn K "is_number" iy)
  {f3:Addr}{oc3 kV3 dc3 pm3 cd3 ct3:Value}{od3 an3 dd3:Option Addr}{sl3 st3:Array (Option Value)}{dT3:Addr}{n3:Nat}{u3_0 u3_1:Tok} (a3:PySem.W.nsIn K mainGlobals "is_text"=some (some (.ref f3))) (l3:K.lookup f3=some ⟨oc3,od3,.func (PySem.W.fnOf "is_text" "is_text" (cJ fh) (bK fh) (ao fh) (.ref dT3) kV3 dc3 pm3 an3 cd3 ct3),sl3⟩) (c3:PySem.W.codeIn K cd3 "is_text"=true) (k3:PySem.W.keepIn K (.ref f3)=true) (t3:K.lookup dT3=some ⟨.type "tuple",dd3,.seq [.int 0 u3_0,.int 4000 u3_1].toArray n3,st3⟩)
  (d4:gn K "first_place" fC)
  (d5:gn K "other_pairs" fE)
  (d6:gn K "lap" Aa)
  {f7:Addr}{oc7 kV7 dc7 pm7 cd7 ct7:Value}{od7 an7:Option Addr}{sl7:Array (Option Value)} (a7:PySem.W.findIn K (.ref C_Family) "many"=some (some (.ref f7))) (i7:PySem.W.isFn K (.ref f7)=true) (l7:K.lookup f7=some ⟨oc7,od7,.func (PySem.W.fnOf "many" "Family.many" (cJ cM) (bK cM) (ao cM) .none kV7 dc7 pm7 an7 cd7 ct7),sl7⟩) (c7:PySem.W.codeIn K cd7 "Family.many"=true) (k7:PySem.W.keepIn K (.ref f7)=true)
  (d8:gn K "_law_deck" jx)
  (d9:gn K "_law_next" jy)
  (d10:gn K "_law_fits" jz)
  (d11:gn K "_law_kept" jA)
  (d12:gn K "_law_spelled" fG)
  (d13:gn K "_law_whole" iC)
  (d14:gn K "_law_spread" gC)
  (d15:gn K "_law_mended" gD)
  (d16:gn K "_law_bound" iE)
  (d17:gn K "_law_bent" jC)
  (d18:gn K "_law_others" gE)
  (d19:gn K "are_numbers" fB)
  (d20:gn K "all_laps" ju)
  (d21:gn K "check_pieces" e7)
  (d22:gn K "stands_within" eA)
  (d23:gn K "_law_lap" lp)
  (d24:gn K "_law_drawn" iA)
  (d25:gn K "_law_order" iB)
  (d26:gn K "_law_paper" iD)
  (d27:gn K "are_prices" gB)
  (d28:gn K "is_kept" ln)
  (d29:gn K "left_row" jw)
  (d30:gn K "_law_glue" jB)
  (d31:gn K "is_price_paper" dW)
  {f32:Addr}{oc32 kV32 dc32 pm32 cd32 ct32:Value}{od32 an32:Option Addr}{sl32:Array (Option Value)} (a32:PySem.W.findIn K (.ref C_Family) "__init__"=some (some (.ref f32))) (i32:PySem.W.isFn K (.ref f32)=true) (l32:K.lookup f32=some ⟨oc32,od32,.func (PySem.W.fnOf "__init__" "Family.__init__" (cJ cK) (bK cK) (ao cK) .none kV32 dc32 pm32 an32 cd32 ct32),sl32⟩) (c32:PySem.W.codeIn K cd32 "Family.__init__"=true) (k32:PySem.W.keepIn K (.ref f32)=true)
  (d33:gn K "_law_holding" fH)
  (d34:gn K "pays_laps" iz)
  (d35:gn K "price_bound" fF)
  (d36:gn K "_law_holds" iF)
  (d37:gn K "law" xR)
  (z1:PySem.W.nsIn K mainGlobals "all"=some none)
  (z2:PySem.W.nsIn K mainGlobals "any"=some none)
  (z3:PySem.W.nsIn K mainGlobals "bool"=some none)
  (z4:PySem.W.nsIn K mainGlobals "enumerate"=some none)
  (z5:PySem.W.nsIn K mainGlobals "int"=some none)
  (z6:PySem.W.nsIn K mainGlobals "isinstance"=some none)
  (z7:PySem.W.nsIn K mainGlobals "len"=some none)
  (z8:PySem.W.nsIn K mainGlobals "list"=some none)
  (z9:PySem.W.nsIn K mainGlobals "max"=some none)
  (z10:PySem.W.nsIn K mainGlobals "min"=some none)
  (z11:PySem.W.nsIn K mainGlobals "range"=some none)
  (z12:PySem.W.nsIn K mainGlobals "reversed"=some none)
  (z13:PySem.W.nsIn K mainGlobals "str"=some none)
  (z14:PySem.W.nsIn K mainGlobals "sum"=some none)
  (z15:PySem.W.nsIn K mainGlobals "tuple"=some none)
  {ty1:Tok} (y1:PySem.W.nsIn K mainGlobals "MOST_PIECES"=some (some (.int 40 ty1)))
  {ty2:Tok} (y2:PySem.W.nsIn K mainGlobals "MOST_SIGNS"=some (some (.int 60 ty2))) :
  ∃fd:FuncData,(∀(s:Shared) (v:Value),BindsTo s fd ⟨[v],[]⟩ [("_law_script",v)])/\∀base:Heap,K.In base->base.Ns mainGlobals mg->mS l.prog w K mg base CX0 8 fa fd ["_law_script"] (tu K):=by
 have eC_Family:=ku aC_Family
 have TC:TxC K:=⟨by rw [eC_Family];exact ⟨pg_Family,hd_Family,po_Family,sa_Family⟩,by show PySem.W.findIn K (.ref (bL K "Family")) "pieces"=some none;rw [eC_Family];exact n_Family_pieces,by show PySem.W.findIn K (.ref (bL K "Family")) "kept"=some none;rw [eC_Family];exact n_Family_kept,by show PySem.W.findIn K (.ref (bL K "Family")) "words"=some none;rw [eC_Family];exact n_Family_words,by show PySem.W.findIn K (.ref (bL K "Family")) "left"=some none;rw [eC_Family];exact n_Family_left,by show PySem.W.findIn K (.ref (bL K "Family")) "laps"=some none;rw [eC_Family];exact n_Family_laps,by show PySem.W.findIn K (.ref (bL K "Family")) "total"=some none;rw [eC_Family];exact n_Family_total⟩
 have eC_GlueError:=ku aC_GlueError
 have tl_:=zU xq_GlueError ⟨_,_,_,_,_,_,_,_,_,_,_,_,_,lC_GlueError⟩
 have eC_TooMany:=ku aC_TooMany
 have xc_TooMany:XC K C_TooMany C_GlueError:=⟨⟨_,_,_,_,_,_,_,_,_,_,_,_,_,lC_TooMany⟩,ga_TooMany,gh_TooMany,sa_TooMany,cl_TooMany⟩
 have eC_NoPiece:=ku aC_NoPiece
 have xc_NoPiece:XC K C_NoPiece C_GlueError:=⟨⟨_,_,_,_,_,_,_,_,_,_,_,_,_,lC_NoPiece⟩,ga_NoPiece,gh_NoPiece,sa_NoPiece,cl_NoPiece⟩
 have TX:TxX K mg:=⟨⟨by rw [XCl,eC_GlueError];exact ⟨_,_,_,lC_GlueError,rfl⟩,fun c hc=>by
  simp only [xcs,List.mem_cons,List.not_mem_nil,or_false] at hc
  rcases hc with rfl | rfl
  .rw [XCl,eC_TooMany];exact ⟨_,_,_,lC_TooMany,rfl⟩
  .rw [XCl,eC_NoPiece];exact ⟨_,_,_,lC_NoPiece,rfl⟩,fun c hc=>by
  simp only [xcs,List.mem_cons,List.not_mem_nil,or_false] at hc
  rcases hc with rfl | rfl
  .rw [eC_TooMany,eC_GlueError];exact xc_TooMany
  .rw [eC_NoPiece,eC_GlueError];exact xc_NoPiece⟩,fun c g hc=>by
  simp only [D4,List.mem_cons,List.not_mem_nil,or_false,Prod.mk.injEq] at hc
  rcases hc with ⟨rfl,rfl⟩ | ⟨rfl,rfl⟩
  .rw [eC_TooMany];exact xn_TooMany
  .rw [eC_NoPiece];exact xn_NoPiece,by rw [eC_TooMany];exact PySem.W.mg_of X G aC_TooMany,by rw [eC_NoPiece];exact PySem.W.mg_of X G aC_NoPiece,by rw [eC_GlueError];exact PySem.W.mg_of X G aC_GlueError,by rw [eC_TooMany];exact ⟨_,_,_,_,_,_,_,_,_,_,_,_,_,_,_,_,_,lC_TooMany,rfl⟩,by rw [eC_NoPiece];exact ⟨_,_,_,_,_,_,_,_,_,_,_,_,_,_,_,_,_,lC_NoPiece,rfl⟩,by rw [eC_GlueError];exact ⟨_,_,_,_,_,_,_,_,_,_,_,_,_,_,_,_,_,lC_GlueError,rfl⟩⟩
 have D_is_row:=bI d1 X G
 have D_is_number:=bI d2 X G
 have D_is_text:rS K mg "is_text" fh [.int 0,.int 4000]:=⟨⟨f3,dT3,oc3,od3,an3,dd3,kV3,dc3,pm3,cd3,ct3,sl3,st3,[.int 0 u3_0,.int 4000 u3_1],n3,l3,c3,k3,PySem.W.mg_of X G a3,t3,(.cons ⟨_,rfl⟩ (.cons ⟨_,rfl⟩ .nil))⟩⟩
 have D_first_place:=bI d4 X G
 have D_other_pairs:=bI d5 X G
 have D_lap:=bI d6 X G
 have D_Family_many:rV K (bL K "Family") "many" "Family.many" cM:=by rw [eC_Family];exact ⟨⟨f7,_,oW (st:=cM) l7 c7 k7,⟨a7,i7,k7⟩⟩⟩
 have D_law_deck:=bI d8 X G
 have D_law_next:=bI d9 X G
 have D_law_fits:=bI d10 X G
 have D_law_kept:=bI d11 X G
 have D_law_spelled:=bI d12 X G
 have D_law_whole:=bI d13 X G
 have D_law_spread:=bI d14 X G
 have D_law_mended:=bI d15 X G
 have D_law_bound:=bI d16 X G
 have D_law_bent:=bI d17 X G
 have D_law_others:=bI d18 X G
 have D_are_numbers:=bI d19 X G
 have D_all_laps:=bI d20 X G
 have D_check_pieces:=bI d21 X G
 have D_stands_within:=bI d22 X G
 have D_law_lap:=bI d23 X G
 have D_law_drawn:=bI d24 X G
 have D_law_order:=bI d25 X G
 have D_law_paper:=bI d26 X G
 have D_are_prices:=bI d27 X G
 have D_is_kept:=bI d28 X G
 have D_left_row:=bI d29 X G
 have D_law_glue:=bI d30 X G
 have D_is_price_paper:=bI d31 X G
 have D_Family_init:rW K mg (bL K "Family") "Family" "Family.__init__" cK:=by rw [eC_Family];exact ⟨⟨f32,_,oW (st:=cK) l32 c32 k32,⟨mk_Family,a32,i32,kc_Family⟩,PySem.W.mg_of X G aC_Family⟩⟩
 have D_law_holding:=bI d33 X G
 have D_pays_laps:=bI d34 X G
 have D_price_bound:=bI d35 X G
 have D_law_holds:=bI d36 X G
 have D_law:=bI d37 X G
 have T:Txt mg:=⟨PySem.W.mg_none_of X G z1,PySem.W.mg_none_of X G z2,PySem.W.mg_none_of X G z3,PySem.W.mg_none_of X G z4,PySem.W.mg_none_of X G z5,PySem.W.mg_none_of X G z6,PySem.W.mg_none_of X G z7,PySem.W.mg_none_of X G z8,PySem.W.mg_none_of X G z9,PySem.W.mg_none_of X G z10,PySem.W.mg_none_of X G z11,PySem.W.mg_none_of X G z12,PySem.W.mg_none_of X G z13,PySem.W.mg_none_of X G z14,PySem.W.mg_none_of X G z15,⟨_,PySem.W.mg_of X G y1⟩,⟨_,PySem.W.mg_of X G y2⟩⟩
 refine Bg (st:=xR) hfa D_law (fun _ _ _ _ _ _ s v=>.of_eq rfl) fun base=>?_
 have C_TooMany_init:Dr l.prog w K mg base 1 (bL K "TooMany") "TooMany" "most":=by
  rw [eC_TooMany]
  exact vP (oW (st:=cZ) xl_TooMany xc0_TooMany xk_TooMany) lv rfl (fun _ _ _ _ _ _ us hl=>match us,hl with | [_,_],_=>rfl) (fun cdv A outer s H E=>ax (ss K rfl (pv 0) (pv 1) rfl)) ⟨xc_TooMany,tl_,xi_TooMany,xt_TooMany,kc_TooMany⟩ xn_TooMany (PySem.W.mg_of X G aC_TooMany)
 have C_NoPiece_init:Dr l.prog w K mg base 1 (bL K "NoPiece") "NoPiece" "at":=by
  rw [eC_NoPiece]
  exact vP (oW (st:=c4) xl_NoPiece xc0_NoPiece xk_NoPiece) lw rfl (fun _ _ _ _ _ _ us hl=>match us,hl with | [_,_],_=>rfl) (fun cdv A outer s H E=>ax (ss K rfl (pv 0) (pv 1) rfl)) ⟨xc_NoPiece,tl_,xi_NoPiece,xt_NoPiece,kc_NoPiece⟩ xn_NoPiece (PySem.W.mg_of X G aC_NoPiece)
 have C_is_row:=wt (P:=l.prog) (w:=w) (base:=base) D_is_row T TC TX
 have C_is_number:=qg (P:=l.prog) (w:=w) (base:=base) D_is_number T TC TX
 have C_is_text:=t8 (P:=l.prog) (w:=w) (base:=base) D_is_text T TC TX
 have C_first_place:=mF (P:=l.prog) (w:=w) (base:=base) D_first_place T TC TX
 have C_other_pairs:=mG (P:=l.prog) (w:=w) (base:=base) D_other_pairs T TC TX
 have C_lap:=Cf (P:=l.prog) (w:=w) (base:=base) D_lap T TC TX
 have C_Family_many:=mJ (P:=l.prog) (w:=w) (base:=base) D_Family_many T TC TX
 have C_law_deck:=rz (P:=l.prog) (w:=w) (base:=base) D_law_deck T TC TX
 have C_law_next:=rA (P:=l.prog) (w:=w) (base:=base) D_law_next T TC TX
 have C_law_fits:=rB (P:=l.prog) (w:=w) (base:=base) D_law_fits T TC TX
 have C_law_kept:=rC (P:=l.prog) (w:=w) (base:=base) D_law_kept T TC TX
 have C_law_spelled:=mK (P:=l.prog) (w:=w) (base:=base) D_law_spelled T TC TX
 have C_law_whole:=qk (P:=l.prog) (w:=w) (base:=base) D_law_whole T TC TX
 have C_law_spread:=oB (P:=l.prog) (w:=w) (base:=base) D_law_spread T TC TX
 have C_law_mended:=oE (P:=l.prog) (w:=w) (base:=base) D_law_mended T TC TX
 have C_law_bound:=qm (P:=l.prog) (w:=w) (base:=base) D_law_bound T TC TX
 have C_law_bent:=rE (P:=l.prog) (w:=w) (base:=base) D_law_bent T TC TX
 have C_law_others:=oF (P:=l.prog) (w:=w) (base:=base) D_law_others T TC TX
 have C_are_numbers:=mE (P:=l.prog) (w:=w) (base:=base) D_are_numbers T TC TX C_is_number C_is_row
 have C_all_laps:=rp (P:=l.prog) (w:=w) (base:=base) D_all_laps T TC TX C_lap
 have C_check_pieces:=lR (P:=l.prog) (w:=w) (base:=base) D_check_pieces T TC TX C_is_text
 have C_stands_within:=kq (P:=l.prog) (w:=w) (base:=base) D_stands_within T TC TX C_first_place
 have C_law_lap:=ua (P:=l.prog) (w:=w) (base:=base) D_law_lap T TC TX C_law_fits
 have C_law_drawn:=qi (P:=l.prog) (w:=w) (base:=base) D_law_drawn T TC TX C_law_next C_law_spelled
 have C_law_order:=qj (P:=l.prog) (w:=w) (base:=base) D_law_order T TC TX C_law_next
 have C_law_paper:=ql (P:=l.prog) (w:=w) (base:=base) D_law_paper T TC TX C_law_mended C_law_next C_law_spread
 have C_are_prices:=oA (P:=l.prog) (w:=w) (base:=base) D_are_prices T TC TX C_are_numbers
 have C_is_kept:=t9 (P:=l.prog) (w:=w) (base:=base) D_is_kept T TC TX C_stands_within
 have C_left_row:=rq (P:=l.prog) (w:=w) (base:=base) D_left_row T TC TX C_first_place C_stands_within
 have C_law_glue:=rD (P:=l.prog) (w:=w) (base:=base) D_law_glue T TC TX C_law_lap
 have C_is_price_paper:=jJ (P:=l.prog) (w:=w) (base:=base) D_is_price_paper T TC TX C_are_prices C_is_row
 have C_Family_init:=mI (P:=l.prog) (w:=w) (base:=base) D_Family_init T TC TX C_all_laps C_check_pieces C_is_kept C_left_row
 have C_law_holding:=mL (P:=l.prog) (w:=w) (base:=base) D_law_holding T TC TX C_law_glue C_law_lap C_law_next C_law_order
 have C_pays_laps:=qh (P:=l.prog) (w:=w) (base:=base) D_pays_laps T TC TX C_is_price_paper
 have C_price_bound:=mH (P:=l.prog) (w:=w) (base:=base) D_price_bound T TC TX C_Family_many C_other_pairs C_pays_laps
 have C_law_holds:=qo (P:=l.prog) (w:=w) (base:=base) D_law_holds T TC TX C_law_bound C_law_whole C_price_bound
 exact (Cg (P:=l.prog) (w:=w) (base:=base) D_law T TC TX C_Family_init C_law_bent C_law_deck C_law_drawn C_law_holding C_law_holds C_law_kept C_law_lap C_law_next C_law_others C_law_paper C_law_spread C_price_bound).imp fun _ _ _ _ h=>zv h
end K28

open PySem PySem.W PyProof.Rows
local macro_rules | `(tactic| walk_at "fn") => `(tactic| (refine' L2.B3 ?a ?l ?c ?k; (case a => k_is); (case l => k_is); (case c => k_is); (case k => k_is)))
set_option maxRecDepth 100000 in
set_option maxHeartbeats 0 in
theorem PySem.Challenge.cw_shortglue_k28_price_bound_holds : PySem.Challenge.rw_shortglue_k28_price_bound.Holds := by
  refine topHd ?_
  k_fill
  refine L2.Bh (l := PySem.Challenge.rw_shortglue_k28_price_bound) (k := 8) (x := "_law_script") rfl rfl ⟨rfl, by decide, by decide⟩ (fun w h Y => PySem.W.kIn_of Y) ?F
  case F =>
    intro w mg fa h KX G hmg
    refine' K28.Ch KX G hmg ?aC_Family ?pg_Family ?hd_Family ?po_Family ?sa_Family ?mk_Family ?kc_Family ?n_Family_pieces ?n_Family_kept ?n_Family_words ?n_Family_left ?n_Family_laps ?n_Family_total ?aC_GlueError ?lC_GlueError ?xq_GlueError ?aC_TooMany ?lC_TooMany ?ga_TooMany ?gh_TooMany ?sa_TooMany ?cl_TooMany ?kc_TooMany ?xi_TooMany ?xt_TooMany ?xl_TooMany ?xc0_TooMany ?xk_TooMany ?xn_TooMany ?aC_NoPiece ?lC_NoPiece ?ga_NoPiece ?gh_NoPiece ?sa_NoPiece ?cl_NoPiece ?kc_NoPiece ?xi_NoPiece ?xt_NoPiece ?xl_NoPiece ?xc0_NoPiece ?xk_NoPiece ?xn_NoPiece ?d1 ?d2 ?a3 ?l3 ?c3 ?k3 ?t3 ?d4 ?d5 ?d6 ?a7 ?i7 ?l7 ?c7 ?k7 ?d8 ?d9 ?d10 ?d11 ?d12 ?d13 ?d14 ?d15 ?d16 ?d17 ?d18 ?d19 ?d20 ?d21 ?d22 ?d23 ?d24 ?d25 ?d26 ?d27 ?d28 ?d29 ?d30 ?d31 ?a32 ?i32 ?l32 ?c32 ?k32 ?d33 ?d34 ?d35 ?d36 ?d37 ?z1 ?z2 ?z3 ?z4 ?z5 ?z6 ?z7 ?z8 ?z9 ?z10 ?z11 ?z12 ?z13 ?z14 ?z15 ?y1 ?y2
    (case aC_Family => k_is)
    (case pg_Family => k_is)
    (case hd_Family => k_is)
    (case po_Family => k_is)
    (case sa_Family => k_is)
    (case mk_Family => k_is)
    (case kc_Family => k_is)
    (case n_Family_pieces => k_is)
    (case n_Family_kept => k_is)
    (case n_Family_words => k_is)
    (case n_Family_left => k_is)
    (case n_Family_laps => k_is)
    (case n_Family_total => k_is)
    (case aC_GlueError => k_is)
    (case lC_GlueError => k_is)
    (case xq_GlueError => k_exc)
    (case aC_TooMany => k_is)
    (case lC_TooMany => k_is)
    (case ga_TooMany => k_is)
    (case gh_TooMany => k_is)
    (case sa_TooMany => k_is)
    (case cl_TooMany => k_is)
    (case kc_TooMany => k_is)
    (case xi_TooMany => k_is)
    (case xt_TooMany => k_is)
    (case xl_TooMany => k_is)
    (case xc0_TooMany => k_is)
    (case xk_TooMany => k_is)
    (case xn_TooMany => k_is)
    (case aC_NoPiece => k_is)
    (case lC_NoPiece => k_is)
    (case ga_NoPiece => k_is)
    (case gh_NoPiece => k_is)
    (case sa_NoPiece => k_is)
    (case cl_NoPiece => k_is)
    (case kc_NoPiece => k_is)
    (case xi_NoPiece => k_is)
    (case xt_NoPiece => k_is)
    (case xl_NoPiece => k_is)
    (case xc0_NoPiece => k_is)
    (case xk_NoPiece => k_is)
    (case xn_NoPiece => k_is)
    (case d1 => walk_at "fn")
    (case d2 => walk_at "fn")
    (case a3 => k_is)
    (case l3 => k_is)
    (case c3 => k_is)
    (case k3 => k_is)
    (case t3 => k_is)
    (case d4 => walk_at "fn")
    (case d5 => walk_at "fn")
    (case d6 => walk_at "fn")
    (case a7 => k_is)
    (case i7 => k_is)
    (case l7 => k_is)
    (case c7 => k_is)
    (case k7 => k_is)
    (case d8 => walk_at "fn")
    (case d9 => walk_at "fn")
    (case d10 => walk_at "fn")
    (case d11 => walk_at "fn")
    (case d12 => walk_at "fn")
    (case d13 => walk_at "fn")
    (case d14 => walk_at "fn")
    (case d15 => walk_at "fn")
    (case d16 => walk_at "fn")
    (case d17 => walk_at "fn")
    (case d18 => walk_at "fn")
    (case d19 => walk_at "fn")
    (case d20 => walk_at "fn")
    (case d21 => walk_at "fn")
    (case d22 => walk_at "fn")
    (case d23 => walk_at "fn")
    (case d24 => walk_at "fn")
    (case d25 => walk_at "fn")
    (case d26 => walk_at "fn")
    (case d27 => walk_at "fn")
    (case d28 => walk_at "fn")
    (case d29 => walk_at "fn")
    (case d30 => walk_at "fn")
    (case d31 => walk_at "fn")
    (case a32 => k_is)
    (case i32 => k_is)
    (case l32 => k_is)
    (case c32 => k_is)
    (case k32 => k_is)
    (case d33 => walk_at "fn")
    (case d34 => walk_at "fn")
    (case d35 => walk_at "fn")
    (case d36 => walk_at "fn")
    (case d37 => walk_at "fn")
    (case z1 => k_is)
    (case z2 => k_is)
    (case z3 => k_is)
    (case z4 => k_is)
    (case z5 => k_is)
    (case z6 => k_is)
    (case z7 => k_is)
    (case z8 => k_is)
    (case z9 => k_is)
    (case z10 => k_is)
    (case z11 => k_is)
    (case z12 => k_is)
    (case z13 => k_is)
    (case z14 => k_is)
    (case z15 => k_is)
    (case y1 => k_is)
    (case y2 => k_is)
