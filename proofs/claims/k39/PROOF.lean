import PyProof.Rows.All
import Wide.All
import OpenK.AllK
import Wide.FinOn
import Lean
import PyProof.EqAt
import PyProof.EqKinds
import PyProof.TupleCall
import KE.KSortTup
import PyProof.FString
import PyProof.StrBlock
import KE.KRevSl
import PyProof.StrLawsReplace
import PyProof.StrCalls6
import PyProof.MinMaxWalk
import PyProof.WalkInts
import PyProof.NeKinds
import KE.KEqDict
import PyProof.Rows.SumAny
import KE.KMinKey
import PyProof.Rows.CallKwBuiltin
import PySem.Challenge.RW_shortglue_k39_case_ends
set_option Elab.async false
set_option linter.all false
set_option maxRecDepth 100000
set_option maxHeartbeats 4000000
noncomputable section
namespace L2
open PySem PySem.W
def mL (tb:String->Option Builtin) (p:Program) (w:World) (n₀:Nat) (ann:Option Value):Nat->SharedT->Thread->Option SharedT
 | 0,_,_=>none
 | n + 1,s,t=>match through t with
  | true=>some s
  | false=>match stepOk n₀ ann t with
   | false=>none
   | true=>match stepT (denote tb) p w s t with
    | some (s',t')=>mL tb p w n₀ ann n s' t'
    | none=>none
theorem oq {tb:String->Option Builtin}{p:Program}{w:World}{n₀:Nat}{ann:Option Value}:∀{n:Nat}{s s':SharedT}{t:Thread},mL tb p w n₀ ann n s t=some s'->topRun tb p w n₀ ann n s.abs t=some s'.abs
 | 0,_,_,_,h=>by cases h
 | n + 1,s,s',t,h=>by
  unfold mL at h
  unfold topRun
  cases he:through t with
  | true=>rw [he] at h;cases h;rfl
  | false =>
   rw [he] at h
   cases hk:stepOk n₀ ann t with
   | false=>rw [hk] at h;cases h
   | true =>
    rw [hk] at h
    cases hs:stepT (denote tb) p w s t with
    | none=>rw [hs] at h;cases h
    | some r=>obtain ⟨s₂,t₂⟩:=r;rw [hs] at h;rw [stepT_spec hs];exact oq h
def xI:List Obj->Nat->BT->BT
 | [],_,t=>t
 | o::r,i,t=>xI r (i + 1) (t.ins i o)
def yq (P:Params):BT:=xI (boot_heap P).objs.toList 0 .nil
theorem wo:∀P,absHeap (yq P) (boot_heap P).objs.size (boot_heap P).life=boot_heap P:=fun P=>by kernel_rfl
theorem Aw {p q:Program}{loose:List Str}{Xt:Shared->Bool}{α:Type}{Yf:Shared->α}{Ya:World->α}{N:Nat}{g0:Bool}{m₀:Nat}{ann:Option Value}
  (e:opening p=plainProg p.main.scope.names) (hN:Nat.ble 600 N=true) (f:∀s,fenceModules? p s=some s)
  (size:∀w:World,((boot_heap w.params).isNs mainGlobals && (Array.mk []:Array GenState).size == 0,(boot_heap w.params).objs.size,(boot_heap w.params).nsMap mainGlobals "__annotations__")=(true,m₀,ann))
  (run:∀(w:World) (os:OsState),(mL treeTable p w m₀ ann N ⟨yq w.params,m₀,(boot_heap w.params).life,Array.mk [],boot_drawn,boot_toks,os⟩ (topStub p)).map (fun sT=>((staticsOk (importedModules p.main.body) (boot_heap w.params) sT.abs.heap && namesBound p sT.abs.heap && gensDone sT.abs && laidKept (boot_heap w.params) sT.abs.heap),openSeen q loose (importedModules p.main.body) Xt g0 sT.abs,Yf sT.abs))=some (true,openGood q loose,Ya w)):LeftO p q loose Xt Yf Ya N g0:=fun w=>by
 obtain ⟨⟨h,gs,d,k,os⟩,e,e'⟩:=Option.map_eq_some_iff.mp (boot_open e hN f w)
 obtain ⟨rfl,rfl,rfl,rfl⟩:h=boot_heap w.params/\gs=Array.mk []/\d=boot_drawn/\k=boot_toks:=by simpa using e'
 obtain ⟨z1,z2,z3⟩:_/\_/\_:=by simpa only [Prod.mk.injEq] using size w
 obtain ⟨sT,r,l⟩:=Option.map_eq_some_iff.mp (run w os)
 obtain ⟨l1,l2,l3⟩:_/\_/\_:=by simpa only [Prod.mk.injEq] using l
 have r:=oq r
 rw [show SharedT.abs ⟨yq w.params,m₀,(boot_heap w.params).life,Array.mk [],boot_drawn,boot_toks,os⟩=⟨boot_heap w.params,Array.mk [],boot_drawn,boot_toks,os⟩ by
  unfold SharedT.abs;dsimp only;rw [<- z2,wo]] at r
 have t:topFrom treeTable p w N ⟨boot_heap w.params,Array.mk [],boot_drawn,boot_toks,os⟩=some sT.abs:=by
  unfold topFrom
  dsimp only
  rw [z1,z2,z3,r]
  show (match staticsOk (importedModules p.main.body) (boot_heap w.params) sT.abs.heap && namesBound p sT.abs.heap && gensDone sT.abs && laidKept (boot_heap w.params) sT.abs.heap with | true=>_ | false=>_)=_
  rw [l1]
 unfold openEnds
 rw [e]
 show (topFrom treeTable p w N _).map _=_
 rw [t]
 exact congrArg some (Prod.ext l2 l3)
end L2
section
open PySem PySem.W PyProof.Rows
def yr:Program:=PySem.W.view PySem.Challenge.pw_shortglue_k39_case_ends [1,2,3,4,6,7,8,9,10,11,12,13,14,15,16,17,18,20,21,22,24,25,27,28,29,31,33,34,35,36,37,39,40,41,42,43,44,45,46,47,48,49,50]
local macro_rules | `(tactic| o_head $H)=>`(tactic| (refine holds_open (q:=yr) (loose:=[PySem.Str.ofString "is_text"]) (Xt:=fun s=>xlAt yr [] s && recOk (RowW.records (OpenRow.toRowW (OpenLaw.row PySem.Challenge.rw_shortglue_k39_case_ends))) s) (XP:=XL yr []) (Yf:=Hook.obs $H) (Ya:=Hook.val $H) (YP:=Hook.says $H) (N:=4268) ?hl (Hook.of $H) (Hook.keeps $H) (fun s e=>xl_of s (Bool.and_eq_true_iff.mp e).1) XL.keeps (by rfl) (by rfl) (by rfl) (fun s e=>recFacts_of (Bool.and_eq_true_iff.mp e).2) (by rfl) (by first | assumption | decide +kernel) (by decide +kernel) ⟨rfl,rfl,rfl,rfl,rfl,by decide +kernel⟩ ?hw ?hc;(case hl=>(refine L2.Aw (m₀:=11) (ann:=some (.ref 6)) (by kernel_rfl) (by rfl) (fun s=>by kernel_rfl) (fun w=>by kernel_rfl) ?_;intro w os;kernel_rfl))))
set_option maxRecDepth 100000 in
set_option maxHeartbeats 0 in
open_top topHd for PySem.Challenge.rw_shortglue_k39_case_ends
end
-- CHANGE: your row's module here,as the last of these rows
namespace L2
open PySem PySem.Spec PyProof.Rows
abbrev Key:=Sum Int Str
def Ax:Key->Value->Bool
 | .inl k,v=>Value.isInt k v
 | .inr x,v=>Value.isStrOf x v
def Eb (w:World):Key->Int
 | .inl k=>hashInt k
 | .inr x=>hashStr w x
theorem cq:∀{k:Key}{v:Value},Ax k v=true->(∃i t,k=Sum.inl i/\v=Value.int i t)\/(∃x t,k=Sum.inr x/\v=Value.str x t)
 | .inl i,v,h=>by
  obtain ⟨t,e⟩:=Value.isInt_shape (k:=i) (v:=v) h
  exact .inl ⟨i,t,rfl,e⟩
 | .inr x,v,h=>by
  obtain ⟨t,e⟩:=Value.isStrOf_shape (x:=x) (v:=v) h
  exact .inr ⟨x,t,rfl,e⟩
theorem Ay (a b:Int):decide ((Sum.inl a:Key)=Sum.inl b)=(a == b):=by
 by_cases e:a=b
 .subst e;simp
 .have h:¬ (Sum.inl a:Key)=Sum.inl b:=fun q=>e (Sum.inl.inj q)
  rw [decide_eq_false h]
  exact (beq_eq_false_iff_ne.mpr e).symm
theorem Az (a b:Str):decide ((Sum.inr a:Key)=Sum.inr b)=decide (a=b):=by
 by_cases e:a=b
 .subst e;simp
 .have h:¬ (Sum.inr a:Key)=Sum.inr b:=fun q=>e (Sum.inr.inj q)
  rw [decide_eq_false h,decide_eq_false e]
theorem AA (a:Int) (b:Str):decide ((Sum.inl a:Key)=Sum.inr b)=false:=decide_eq_false (fun q=>nomatch q)
theorem AB (a:Str) (b:Int):decide ((Sum.inr a:Key)=Sum.inl b)=false:=decide_eq_false (fun q=>nomatch q)
def qj (prog:Program) (w:World):PySem.KeyKind prog w Key where
 is:=Ax
 hash:=Eb w
 inj:=fun v a b ha hb=>by
  rcases cq ha with ⟨i,t,rfl,rfl⟩ | ⟨x,t,rfl,rfl⟩
  .rcases cq hb with ⟨j,u,rfl,e⟩ | ⟨y,u,rfl,e⟩
   .injection e with e1 _;rw [e1]
   .exact nomatch e
  .rcases cq hb with ⟨j,u,rfl,e⟩ | ⟨y,u,rfl,e⟩
   .exact nomatch e
   .injection e with e1 _;rw [e1]
 byValue:=fun k v h=>by
  rcases cq h with ⟨i,t,rfl,rfl⟩ | ⟨x,t,rfl,rfl⟩ <;> rfl
 pyHash:=fun hv h=>by
  rcases cq hv with ⟨i,t,rfl,rfl⟩ | ⟨x,t,rfl,rfl⟩
  .exact wpAny_pyHash_int h
  .exact wpAny_pyHash_str h
 eqBool:=fun hu hv h=>by
  rcases cq hu with ⟨i,t,rfl,rfl⟩ | ⟨x,t,rfl,rfl⟩
  .rcases cq hv with ⟨j,u,rfl,rfl⟩ | ⟨y,u,rfl,rfl⟩
   .rw [Ay] at h;exact wpAny_eqBool_int h
   .rw [AA] at h;exact SeqAt.EqAt.int_str i t y u _ _ _ _ h
  .rcases cq hv with ⟨j,u,rfl,rfl⟩ | ⟨y,u,rfl,rfl⟩
   .rw [AB] at h;exact SeqAt.EqAt.str_int x t j u _ _ _ _ h
   .rw [Az] at h;exact wpAny_eqBool_str h
 «strs»:=fun k x t v h=>by
  rcases cq h with ⟨i,u,rfl,e⟩ | ⟨y,u,rfl,e⟩
  .exact nomatch e
  .injection e with e1 _
   subst e1
   cases v <;> rfl
inductive V where
 | non | bl (b:Bool) | int (i:Int) | str (x:Str) | byt (b:Array UInt8) | flt (b:UInt64) | ref (a:Addr) | ty (n:String)
 deriving DecidableEq
def di:V->Value->Prop
 | .non,u=>u=Value.none
 | .bl b,u=>u=Value.bool b
 | .int i,u=>∃t,u=Value.int i t
 | .str x,u=>∃t,u=Value.str x t
 | .byt b,u=>∃t,u=Value.bytes b t
 | .flt b,u=>∃t,u=Value.float b t
 | .ref a,u=>u=Value.ref a
 | .ty n,u=>u=Value.type n
abbrev bV:List V->List Value->Prop:=Paired di
theorem bV.length {xs:List V}{us:List Value} (r:bV xs us):xs.length=us.length:=Paired.length r
theorem bV.get:∀{xs:List V}{us:List Value}{i:Nat}{x:V},bV xs us->xs[i]?=some x->∃u,us[i]?=some u/\di x u
 | _,_,_,_,.nil,e=>by simp at e
 | _,_,0,_,.cons r _,e=>by simp at e;subst e;exact ⟨_,rfl,r⟩
 | _,_,i + 1,x,.cons _ t,e=>by
  obtain ⟨u,h1,h2⟩:=bV.get (i:=i) (x:=x) t (by simpa using e)
  exact ⟨u,by simpa using h1,h2⟩
theorem bV.set {x:V}{u:Value} (r:di x u):∀{xs:List V}{us:List Value} (i:Nat),bV xs us->bV (xs.set i x) (us.set i u)
 | _,_,_,.nil=>.nil
 | _,_,0,.cons _ t=>.cons r t
 | _,_,i + 1,.cons q t=>.cons q (bV.set r i t)
theorem bV.append:∀{xs ys:List V}{us ws:List Value},bV xs us->bV ys ws->bV (xs++ys) (us++ws)
 | _,_,_,_,.nil,s=>s
 | _,_,_,_,.cons r t,s=>.cons r (bV.append t s)
theorem bV.take:∀{xs:List V}{us:List Value} (n:Nat),bV xs us->bV (xs.take n) (us.take n)
 | _,_,0,_=>.nil
 | _,_,_ + 1,.nil=>.nil
 | _,_,n + 1,.cons r t=>.cons r (bV.take n t)
theorem bV.drop:∀{xs:List V}{us:List Value} (n:Nat),bV xs us->bV (xs.drop n) (us.drop n)
 | _,_,0,r=>r
 | _,_,_ + 1,.nil=>.nil
 | _,_,n + 1,.cons _ t=>bV.drop n t
def tV:Option V->Option Value->Prop
 | some v,some u=>di v u
 | none,none=>True
 | _,_=>False
def KV {κ:Type}:List (κ×V)->List (κ×Value)->Prop:=Paired fun (p:κ×V) (q:κ×Value)=>p.1=q.1/\di p.2 q.2
def kV:Key->V
 | .inl i=>.int i
 | .inr x=>.str x
inductive HO where
 /-- a list -/
 | lst (xs:List V)
 /-- a tuple (never changes) -/
 | tup (xs:List V)
 /-- a dict whose keys are ints and texts;one whose keys are tuples of ints and texts (the empty one is both) -/
 | dK (kvs:List (Key×V)) | dT (kvs:List (List Key×V))
 /-- a set of ints: its members,its size -/
 | set (S:Int->Bool) (n:Nat)
 /-- an instance of the class at C,its dict at dx,its attributes -/
 | ins (C dx:Addr) (fs:List (Str×V))
 /-- the dict of the instance at x -/
 | own (x:Addr)
 /-- the dict of an exception -/
 | xd (fs:List (Str×V))
 /-- a bound method,f of x -/
 | met (f x:Addr)
 /-- a range object lo,lo + 1,.. below hi -/
 | rng (lo hi:Int)
 /-- a thing that is known to the object (the script;a dict while a loop walks it): read,never written while it is so -/
 | frz (o:Obj) (u:HO)
 /-- a code object's table -/
 | tbl (ps:Array Value)
 /-- any other thing,by what is true of its one object (a def of one's own: SetO a S n:=HO.ext fun h=>..) -/
 | ext (φ:Heap->Prop)
abbrev Hp:=Addr->Option HO
def upd (H:Hp) (a:Addr) (o:HO):Hp:=fun b=>if b=a then some o else H b
theorem aE {H:Hp}{a:Addr}{o:HO}:upd H a o a=some o:=by unfold upd;rw [if_pos rfl]
theorem au {H:Hp}{a b:Addr}{o:HO} (h:b≠a):upd H a o b=H b:=by unfold upd;rw [if_neg h]
theorem aW {H:Hp}{a b:Addr}{o:HO} (h:H a=some o) (h':H b=none):a≠b:=by
 intro e;subst e;rw [h] at h';cases h'
section
variable (P:Program) (w:World)
def cr (H:Hp) (h:Heap) (a:Addr):HO->Prop
 | .lst xs=>xs.length<=sizeLine/\∃(its:List Value) (n:Nat),bV xs its/\h.get? a=some { cls:=.type "list",data:=.seq its.toArray n }
 | .tup xs=>xs.length<=sizeLine/\∃its:List Value,bV xs its/\IsTup h a its.toArray
 | .dK kvs=>kvs.length<=sizeLine/\(a == sysModules)=false/\∃vs,KV kvs vs/\h.DictOf (qj P w) a vs
 | .dT kvs=>kvs.length<=sizeLine/\(a == sysModules)=false/\∃xs:List (List Key×Addr×Value),
   Paired (fun (p:List Key×V) (q:List Key×Addr×Value)=>p.1=q.1/\H q.2.1=some (.tup (p.1.map kV))/\di p.2 q.2.2) kvs xs /\
   ∃o es ep,h.get? a=some o/\o.ExactDict/\o.data=.dict es ep/\es.toList=xs.map (entryOfKey (tupleKind (qj P w)))/\(xs.map (·.1)).Nodup
 | .set S n=>h.SetOf (intKind P w) a S n
 | .ins C dx fs=>H dx=some (.own a)/\fs.length<=1000/\dx≠a/\h.get? a=some (PySem.W.instObj C dx) /\
   ∃mA,h.Ns1 dx mA/\(∀f,tV (fs.lookup f) (mA f))/\PySem.Within mA (fs.map (·.1))
 | .own _=>∃o,h.get? a=some o
 | .xd fs=>∃mA,h.Ns1 a mA/\∀f,tV (fs.lookup f) (mA f)
 | .rng lo hi=>∃t u v,h.get? a=some { cls:=.type "range",data:=.fields #[.int lo t,.int hi u,.int 1 v] }
 | .frz o u=>h.get? a=some o/\cr H h a u
 | .tbl ps=>h.get? a=some { cls:=.none,data:=.fields ps }
 | .met f x=>h.get? a=some (PySem.W.methodObj (.ref f) (.ref x))
 | .ext φ=>φ h/\(∃o,h.get? a=some o)/\∀h1 h2:Heap,φ h1->(∀o,h1.get? a=some o->h2.get? a=some o)->φ h2
def HOk (H:Hp) (h:Heap):Prop:=∀a o,H a=some o->cr P w H h a o
end
section
variable {P:Program}{w:World}{H H':Hp}{h h':Heap}{a:Addr}{o:HO}
theorem cr.lt (x:cr P w H h a o):a < h.objs.size:=by
 cases o with
 | lst xs=>obtain ⟨_,_,_,_,e⟩:=x;exact Heap.lt_size e
 | tup xs=>obtain ⟨_,_,_,p⟩:=x;exact p.lt
 | dK kvs=>obtain ⟨_,_,_,_,o,_,_,e,_⟩:=x;exact Heap.lt_size e
 | dT kvs=>obtain ⟨_,_,_,_,o,_,_,e,_⟩:=x;exact Heap.lt_size e
 | set S n=>obtain ⟨o,_,_,_,e,_⟩:=x;exact Heap.lt_size e
 | ins C dx fs=>obtain ⟨_,_,_,e,_⟩:=x;exact Heap.lt_size e
 | own y=>obtain ⟨_,e⟩:=x;exact Heap.lt_size e
 | xd fs=>obtain ⟨_,⟨_,_,_,e,_⟩,_⟩:=x;exact Heap.lt_size e
 | rng lo hi=>obtain ⟨_,_,_,e⟩:=x;exact Heap.lt_size e
 | frz ob u=>obtain ⟨e,_⟩:=x;exact Heap.lt_size e
 | tbl ps=>exact Heap.lt_size (show h.get? a=some _ from x)
 | met f y=>exact Heap.lt_size (show h.get? a=some _ from x)
 | ext φ=>obtain ⟨_,⟨_,e⟩,_⟩:=x;exact Heap.lt_size e
theorem Paired.mapP {α β:Type}{F G:α->β->Prop}:∀{l₁:List α}{l₂:List β},Paired F l₁ l₂->(∀a b,F a b->G a b)->Paired G l₁ l₂
 | _,_,.nil,_=>.nil
 | _,_,.cons r t,f=>.cons (f _ _ r) (Paired.mapP t f)
theorem cr.stay (x:cr P w H h a o) (k:∀b u,(b=a\/H b=some (.own a))->h.get? b=some u->h'.get? b=some u)
  (ho:∀b,H b=some (.own a)->H' b=some (.own a)) (ht:∀b xs,H b=some (.tup xs)->H' b=some (.tup xs)):cr P w H' h' a o:=by
 induction o with
 | lst xs=>obtain ⟨z,its,n,r,e⟩:=x;exact ⟨z,its,n,r,k _ _ (.inl rfl) e⟩
 | tup xs=>obtain ⟨z,its,r,ob,e,c⟩:=x;exact ⟨z,its,r,ob,k _ _ (.inl rfl) e,c⟩
 | dK kvs=>obtain ⟨z,y,vs,r,ob,es,ep,e,c⟩:=x;exact ⟨z,y,vs,r,ob,es,ep,k _ _ (.inl rfl) e,c⟩
 | dT kvs =>
  obtain ⟨z,y,xs,r,ob,es,ep,e,c⟩:=x
  exact ⟨z,y,xs,Paired.mapP r fun p q z=>⟨z.1,ht _ _ z.2.1,z.2.2⟩,ob,es,ep,k _ _ (.inl rfl) e,c⟩
 | set S n=>obtain ⟨ob,es,ep,t,e,c⟩:=x;exact ⟨ob,es,ep,t,k _ _ (.inl rfl) e,c⟩
 | ins C dx fs =>
  obtain ⟨d,z,ne,e,mA,⟨od,es,ep,e2,c⟩,r⟩:=x
  exact ⟨ho _ d,z,ne,k _ _ (.inl rfl) e,mA,⟨od,es,ep,k _ _ (.inr d) e2,c⟩,r⟩
 | own y=>obtain ⟨ob,e⟩:=x;exact ⟨ob,k _ _ (.inl rfl) e⟩
 | xd fs=>obtain ⟨mA,⟨od,es,ep,e,c⟩,r⟩:=x;exact ⟨mA,⟨od,es,ep,k _ _ (.inl rfl) e,c⟩,r⟩
 | rng lo hi=>obtain ⟨t,u,v,e⟩:=x;exact ⟨t,u,v,k _ _ (.inl rfl) e⟩
 | frz ob u ih=>obtain ⟨e,q⟩:=x;exact ⟨k _ _ (.inl rfl) e,ih q⟩
 | tbl ps =>
  have e:h.get? a=some { cls:=.none,data:=.fields ps }:=x
  show h'.get? a=some { cls:=.none,data:=.fields ps }
  exact k a _ (.inl rfl) e
 | met f y =>
  have e:h.get? a=some (PySem.W.methodObj (.ref f) (.ref y)):=x
  show h'.get? a=some (PySem.W.methodObj (.ref f) (.ref y))
  exact k a _ (.inl rfl) e
 | ext φ=>obtain ⟨p,⟨o,e⟩,st⟩:=x;exact ⟨st _ _ p fun o q=>k _ _ (.inl rfl) q,⟨o,k _ _ (.inl rfl) e⟩,st⟩
theorem HOk.lt (x:HOk P w H h) (e:H a=some o):a < h.objs.size:=(x a o e).lt
theorem HOk.fresh (x:HOk P w H h) (e:h.objs.size<=a):H a=none:=by
 cases q:H a with
 | none=>rfl
 | some u=>exact absurd (Nat.lt_of_lt_of_le (x.lt q) e) (Nat.lt_irrefl _)
theorem HOk.kept (x:HOk P w H h) (k:∀b u,h.get? b=some u->h'.get? b=some u):HOk P w H h':=fun a o e =>
 (x a o e).stay (fun b u _ q=>k b u q) (fun _ q=>q) fun _ _ q=>q
theorem HOk.laid (x:HOk P w H h) (k:∀b u,h.get? b=some u->h'.get? b=some u) (hp:h.objs.size<=a) (new:cr P w (upd H a o) h' a o):HOk P w (upd H a o) h':=fun b u e=>by
 have hn:=x.fresh hp
 by_cases hb:b=a
 .subst hb;rw [aE] at e;cases e;exact new
 .rw [au hb] at e
  exact (x b u e).stay (fun c v _ q=>k c v q) (fun c q=>by rw [au (aW q hn)];exact q) fun c xs q=>by rw [au (aW q hn)];exact q
end
def Rd (H:Hp) (a:Addr) (u:HO):Prop:=H a=some u\/∃o,H a=some (.frz o u)
theorem Rd.ok {P:Program}{w:World}{H:Hp}{h:Heap}{a:Addr}{u:HO} (r:Rd H a u) (x:HOk P w H h):cr P w H h a u:=by
 rcases r with r | ⟨o,r⟩
 .exact x a u r
 .obtain ⟨_,q⟩:=x a _ r
  exact q
def Mut:Option HO->Prop
 | some (.lst _)=>True
 | some (.dK _)=>True
 | some (.dT _)=>True
 | some (.set _ _)=>True
 | some (.ins _ _ _)=>True
 | some (.ext _)=>True
 | _=>False
section
variable {P:Program}{w:World}{H:Hp}{h h':Heap}{x e:Addr}{o':HO}
theorem HOk.write (ok:HOk P w H h) (mu:Mut (H x)) (he:e=x\/H e=some (.own x)) (k:∀b u,b≠e->h.get? b=some u->h'.get? b=some u) (heo:∃u,h'.get? e=some u)
  (new:cr P w (upd H x o') h' x o'):HOk P w (upd H x o') h':=fun b u q=>by
 have nown:∀c y,H c=some (.own y)->c≠x:=fun c y r z=>by subst z;rw [r] at mu;exact mu
 have ntup:∀c xs,H c=some (.tup xs)->c≠x:=fun c xs r z=>by subst z;rw [r] at mu;exact mu
 by_cases hb:b=x
 .subst hb;rw [aE] at q;cases q;exact new
 .rw [au hb] at q
  by_cases hbe:b=e
  .have q':H b=some (.own x):=by
    rcases he with z | z
    .exact absurd (hbe.trans z) hb
    .rw [hbe];exact z
   rw [q] at q';cases q'
   obtain ⟨v,hv⟩:=heo
   exact ⟨v,by rw [hbe];exact hv⟩
  .refine (ok b u q).stay (fun c v hc r=>k c v ?_ r) (fun c r=>by rw [au (nown c b r)];exact r) fun c xs r=>by rw [au (ntup c xs r)];exact r
   rcases hc with rfl | hc
   .exact hbe
   .rintro rfl
    rcases he with z | z
    .exact nown c b hc z
    .rw [hc] at z;cases z;exact hb rfl
end
structure Un (fs ex:List Addr) (H H':Hp) (h h':Heap):Prop where
 keep:∀b o,h.get? b=some o->H b=none->b∉fs->b∉ex->h'.get? b=some o
 slot:∀b o,h.get? b=some o->H b=none->b∈fs->b∉ex->∃sl,h'.get? b=some { o with slots:=sl }
 free:∀b o,h.get? b=some o->H b=none->b∉ex->H' b=none
 there:∀b o,h.get? b=some o->b∉ex->∃o',h'.get? b=some o'
 tups:∀b xs,H b=some (.tup xs)->H' b=some (.tup xs)
 frzs:∀b o u,H b=some (.frz o u)->H' b=some (.frz o u)
 tbls:∀b ps,H b=some (.tbl ps)->∃more,H' b=some (.tbl (ps++more))
section
variable {fs fs' ex ex':List Addr}{H H1 H2:Hp}{h h1 h2 h':Heap}{a x e:Addr}{o:HO}
theorem Un.any (u:Un fs ex H H1 h h1) {b:Addr}{ob:Obj} (q:h.get? b=some ob) (n:H b=none) (hx:b∉ex):∃sl,h1.get? b=some { ob with slots:=sl }:=by
 by_cases hb:b∈fs
 .exact u.slot b ob q n hb hx
 .exact ⟨ob.slots,u.keep b ob q n hb hx⟩
theorem Un.kept (k:∀b u,h.get? b=some u->h'.get? b=some u):Un fs ex H H h h' :=
 ⟨fun b ob q _ _ _=>k b ob q,fun b ob q _ _ _=>⟨ob.slots,k b ob q⟩,fun _ _ _ n _=>n,fun b ob q _=>⟨ob,k b ob q⟩,fun _ _ q=>q,fun _ _ _ q=>q,fun _ ps q=>⟨#[],by rw [q];simp⟩⟩
theorem Un.refl:Un fs ex H H h h:=Un.kept fun _ _ q=>q
theorem Un.laid (k:∀b u,h.get? b=some u->h'.get? b=some u) (hp:h.objs.size<=a) (hn:H a=none):Un fs ex H (upd H a o) h h' where
 keep:=fun b u q _ _ _=>k b u q
 slot:=fun b u q _ _ _=>⟨u.slots,k b u q⟩
 free:=fun b u q n _=>by rw [au (Nat.ne_of_lt (Nat.lt_of_lt_of_le (Heap.lt_size q) hp))];exact n
 there:=fun b u q _=>⟨u,k b u q⟩
 tups:=fun b xs q=>by rw [au (aW q hn)];exact q
 frzs:=fun b u xs q=>by rw [au (aW q hn)];exact q
 tbls:=fun b ps q=>⟨#[],by rw [au (aW q hn),q];simp⟩
theorem Un.write (mu:Mut (H x)) (he:e=x\/H e=some (.own x)) (k:∀b u,b≠e->h.get? b=some u->h'.get? b=some u) (heo:∃u,h'.get? e=some u):Un fs ex H (upd H x o) h h':=by
 have hx:∀b,H b=none->b≠x:=fun b n z=>by subst z;rw [n] at mu;exact mu
 have hb:∀b,H b=none->b≠e:=fun b n z=>by
  subst z
  rcases he with r | r
  .exact hx b n r
  .rw [n] at r;cases r
 have hm:∀b u,H b=some u->¬ Mut (some u)->b≠x:=fun b u q nm z=>by subst z;rw [q] at mu;exact nm mu
 refine ⟨fun b u q n _ _=>k b u (hb b n) q,fun b u q n _ _=>⟨u.slots,k b u (hb b n) q⟩,fun b u q n _=>by rw [au (hx b n)];exact n,fun b u q _=>?_,
  fun b xs q=>by rw [au (hm b _ q fun z=>z)];exact q,fun b u xs q=>by rw [au (hm b _ q fun z=>z)];exact q,fun b ps q=>⟨#[],by rw [au (hm b _ q fun z=>z),q];simp⟩⟩
 by_cases hbe:b=e
 .subst hbe;exact heo
 .exact ⟨u,k b u hbe q⟩
end
def trk (h:Heap) (H:Hp):List Addr:=(List.range h.objs.size).filter fun a=>(H a).isSome
def wp (h:Heap) (H:Hp):Heap:=PySem.W.hideAll h (trk h H)
theorem t5 (h:Heap) (H:Hp):(wp h H).objs.size=h.objs.size:=PySem.W.hideAll_size _ _
theorem wq {h:Heap}{H:Hp}{b:Addr}{o:Obj} (e:h.get? b=some o) (n:H b=none):(wp h H).get? b=some o :=
 PySem.W.hideAll_get _ e fun hm=>by
  have q:(H b).isSome=true:=(List.mem_filter.mp hm).2
  rw [n] at q;simp at q
theorem yt {h:Heap}{H:Hp}{b:Addr}{o:Obj} (e:(wp h H).get? b=some o):h.get? b=some o/\H b=none:=by
 have e':h.get? b=some o:=PySem.W.of_hideAll (trk h H) e
 refine ⟨e',?_⟩
 cases q:H b with
 | none=>rfl
 | some x =>
  have hm:b∈trk h H:=List.mem_filter.mpr ⟨List.mem_range.mpr (Heap.lt_size e'),by simp [q]⟩
  have z:(wp h H).get? b=none:=PySem.W.hideAll_none (trk h H) hm
  rw [z] at e;cases e
structure Mod (K:PySem.W.Frag) (mg:Str->Option Value) (base:Heap):Prop where
 kin:K.In base
 glob:base.Ns mainGlobals mg
 blt:∃mb,base.Ns builtinsNs mb/\∀x:Str,x≠"__name__"->mb x=bootBuiltins x
 nolimit:base.NoLimit
structure Cx where
 prog:Program
 w:World
 K:PySem.W.Frag
 mg:Str->Option Value
 base:Heap
 A:Around
 N:List Str
 s₀:Shared
 H₀:Hp
 env:Env
 outer:List Env
 stack:List Env
 ex:List Addr
 fn:Str->Bool
 calm:Bool
 pn:List (Addr×Obj)
 xe:Value->Shared->Prop
def frs (l:List Env):List Addr:=l.filterMap (·.frame)
abbrev Cx.fs (X:Cx):List Addr:=frs X.outer
def Vis (sc:Scope) (x:Str):Prop:=sc.names.lookup x=some .local\/sc.names.lookup x=some .cell\/sc.names.lookup x=some .free
def Loc (sc:Scope) (x:Str):Prop:=sc.names.lookup x=some .local\/sc.names.lookup x=some .cell
def Ec (env:Env) (h:Heap) (m:Str->Option Value) (x:Str) (u:Value):Prop :=
 (env.kindOf x=some .local/\m x=some u)\/((env.kindOf x=some .cell\/env.kindOf x=some .free)/\∃c,env.cells.lookup x=some c/\h.IsCell c (some u))
structure Cx.Ok (X:Cx):Prop where
 mod:Mod X.K X.mg X.base
 kind:X.env.scope.kind=.function
 glob:X.env.globals=mainGlobals
 blt:X.env.builtins=builtinsNs
 above:X.s₀.heap.objs.size<=X.env.locals
 inj:∀x y c,X.env.cells.lookup x=some c->X.env.cells.lookup y=some c->x=y
 has:∀x,(X.env.kindOf x=some .cell\/X.env.kindOf x=some .free)->∃c,X.env.cells.lookup x=some c
 cab:∀x c,X.fn x=true->X.env.cells.lookup x=some c->X.s₀.heap.objs.size<=c
 hd:X.calm=true->X.A.handled=none
 frames:X.A.frames=some X.stack
 stk:X.stack=X.outer\/(X.stack=X.env::X.outer/\X.env.frame=some X.env.locals)
 exf:∀b∈X.ex,b≠X.env.locals/\∀x c,X.env.cells.lookup x=some c->c≠b
 bs:∀b o,X.base.get? b=some o->X.s₀.heap.get? b=some o/\X.H₀ b=none
 bsz:X.base.objs.size<=X.s₀.heap.objs.size
 noex:∀b o,X.base.get? b=some o->b∉X.ex
 exfs:∀b∈X.ex,b∉X.fs
 funs:X.s₀.heap.FunFrames X.base X.outer
 frf:∀b∈X.fs,X.H₀ b=none
structure Inv (X:Cx) (pins:List (Addr×Obj)) (σ:List (Option V)) (H:Hp) (s:Shared):Prop where
 ok:X.Ok
 os:s.os=X.s₀.os
 bare:AllBare s.gens
 base:Un X.fs X.ex X.H₀ H X.s₀.heap s.heap
 loc:∃m,s.heap.Ns X.env.locals m/\∀(i:Nat) (x:Str) (v:V),X.N[i]?=some x->σ[i]?=some (some v)->Vis X.env.scope x->∃u,di v u/\Ec X.env s.heap m x u
 cell:∀x c,X.env.cells.lookup x=some c->∃v,s.heap.IsCell c v
 free:H X.env.locals=none
 freeC:∀x c,X.env.cells.lookup x=some c->H c=none
 pin:∀p∈X.pn++pins,s.heap.get? p.1=some p.2/\H p.1=none/\p.1≠X.env.locals/\p.1∉X.fs/\∀v,p.2.data≠.cell v
 hok:HOk X.prog X.w H s.heap
 len:σ.length=X.N.length
section
variable {X:Cx}{pins:List (Addr×Obj)}{σ:List (Option V)}{H H':Hp}{s:Shared}{h':Heap}
theorem Cx.Ok.nofr (ok:X.Ok) {b:Addr}{o:Obj} (e:X.base.get? b=some o):b∉X.fs:=fun hb=>by
 have:=(ok.funs.mem hb).1
 rw [e] at this;cases this
theorem Inv.bs (I:Inv X pins σ H s):∀b o,X.base.get? b=some o->s.heap.get? b=some o/\H b=none:=fun b o e =>
 ⟨I.base.keep b o (I.ok.bs b o e).1 (I.ok.bs b o e).2 (I.ok.nofr e) (I.ok.noex b o e),I.base.free b o (I.ok.bs b o e).1 (I.ok.bs b o e).2 (I.ok.noex b o e)⟩
theorem Inv.bk (I:Inv X pins σ H s):∀b o,X.base.get? b=some o->s.heap.get? b=some o:=fun b o e=>(I.bs b o e).1
theorem Inv.mod (I:Inv X pins σ H s):Mod X.K X.mg X.base:=I.ok.mod
theorem Inv.kIn (I:Inv X pins σ H s):X.K.In s.heap:=I.ok.mod.kin.keeps I.bk
theorem Inv.lt (I:Inv X pins σ H s):X.env.locals < s.heap.objs.size:=let ⟨_,hn,_⟩:=I.loc;hn.lt
theorem Inv.sz (I:Inv X pins σ H s):X.s₀.heap.objs.size<=s.heap.objs.size:=Nat.le_trans I.ok.above (Nat.le_of_lt I.lt)
theorem Inv.nofs (I:Inv X pins σ H s) {a:Addr} (h:s.heap.objs.size<=a):a∉X.fs:=fun hb=>by
 obtain ⟨_,o,ho,_⟩:=I.ok.funs.mem hb
 exact absurd (Nat.lt_of_lt_of_le (Heap.lt_size ho) (Nat.le_trans I.sz h)) (Nat.lt_irrefl _)
theorem Inv.cne (I:Inv X pins σ H s):∀x c,X.env.cells.lookup x=some c->c≠X.env.locals:=fun x c e z=>by
 obtain ⟨v,o,ho,hd⟩:=I.cell x c e
 obtain ⟨m,⟨o',es,ep,ho',hd',_⟩,_⟩:=I.loc
 rw [z,ho'] at ho;cases ho;rw [hd'] at hd;cases hd
theorem Inv.funs (I:Inv X pins σ H s):s.heap.FunFrames X.base X.outer:=by
 have all:∀(l:List Env),(∀b∈frs l,b∈X.fs)->X.s₀.heap.FunFrames X.base l->s.heap.FunFrames X.base l:=by
  intro l
  induction l with
  | nil=>intro _ _;trivial
  | cons env r ih =>
   intro hs hl
   obtain ⟨hk,⟨L,o,hf,hn,ho,hd⟩,hr⟩:=hl
   have hL:L∈X.fs:=hs L (by unfold frs;rw [List.filterMap_cons,hf];exact List.mem_cons_self)
   obtain ⟨sl,e⟩:=I.base.slot L o ho (I.ok.frf L hL) hL fun z=>I.ok.exfs L z hL
   exact ⟨hk,⟨L,_,hf,hn,e,hd⟩,ih (fun b hb=>hs b (by unfold frs;rw [List.filterMap_cons,hf];exact List.mem_cons_of_mem _ hb)) hr⟩
 exact all X.outer (fun _ hb=>hb) I.ok.funs
theorem Inv.stack (I:Inv X pins σ H s):s.heap.FunFrames X.base X.stack:=by
 rcases I.ok.stk with e | ⟨e,hf⟩
 .rw [e];exact I.funs
 .rw [e]
  obtain ⟨m,hn,_⟩:=I.loc
  refine .cons (by rw [I.ok.kind];decide) hf hn ?_ I.funs
  exact Heap.get?_none_of_le (Nat.le_trans I.ok.bsz I.ok.above)
theorem Inv.stkSub (I:Inv X pins σ H s):∀b∈frs X.stack,b∈X.env.locals::X.fs:=fun b hb=>by
 rcases I.ok.stk with e | ⟨e,hf⟩
 .rw [e] at hb;exact List.mem_cons_of_mem _ hb
 .rw [e] at hb
  unfold frs at hb
  rw [List.filterMap_cons,hf] at hb
  exact hb
theorem Inv.stkFree (I:Inv X pins σ H s):∀b∈frs X.stack,H b=none:=fun b hb=>by
 rcases List.mem_cons.mp (I.stkSub b hb) with e | hb
 .rw [e];exact I.free
 .obtain ⟨_,o,ho,_⟩:=I.ok.funs.mem hb
  exact I.base.free b o ho (I.ok.frf b hb) fun z=>I.ok.exfs b z hb
theorem Inv.step {g':Array GenState}{t':Nat}{d':Drawn}{ch:List Addr} (I:Inv X pins σ H s)
  (hch:∀b∈ch,(b∈X.ex\/X.s₀.heap.objs.size<=b)/\b≠X.env.locals/\(∀x c,X.env.cells.lookup x=some c->c≠b)/\∀p∈X.pn++pins,p.1≠b)
  (keep:∀b o,b≠X.env.locals->b∉X.fs->b∉ch->s.heap.get? b=some o->H b=none->h'.get? b=some o)
  (slot:∀b o,b≠X.env.locals->b∈X.fs->b∉ch->s.heap.get? b=some o->H b=none->∃sl,h'.get? b=some { o with slots:=sl }) (free:∀b o,b∉ch->s.heap.get? b=some o->H b=none->H' b=none)
  (there:∀b o,b∉ch->s.heap.get? b=some o->∃o',h'.get? b=some o')
  (tups:∀b xs,H b=some (.tup xs)->H' b=some (.tup xs)) (frzs:∀b o u,H b=some (.frz o u)->H' b=some (.frz o u)) (tbls:∀b ps,H b=some (.tbl ps)->∃more,H' b=some (.tbl (ps++more)))
  (ns:∀m,s.heap.Ns X.env.locals m->h'.Ns X.env.locals m) (hok:HOk X.prog X.w H' h') (hg:AllBare g') :
  Inv X pins σ H' { s with heap:=h',gens:=g',drawn:=d',toks:=t' }:=by
 have neL:∀b o,X.s₀.heap.get? b=some o->b≠X.env.locals:=fun b o e=>Nat.ne_of_lt (Nat.lt_of_lt_of_le (Heap.lt_size e) I.ok.above)
 have neC:∀b o,X.s₀.heap.get? b=some o->b∉X.ex->b∉ch:=fun b o e hx hb=>by
  rcases (hch b hb).1 with z | z
  .exact hx z
  .exact absurd (Nat.lt_of_lt_of_le (Heap.lt_size e) z) (Nat.lt_irrefl _)
 have cellK:∀x c,X.env.cells.lookup x=some c->∀v,s.heap.IsCell c v->h'.IsCell c v:=fun x c e v ⟨o,ho,hd⟩=>by
  have nch:c∉ch:=fun z=>(hch c z).2.2.1 x c e rfl
  by_cases hc:c∈X.fs
  .obtain ⟨sl,q⟩:=slot c o (I.cne x c e) hc nch ho (I.freeC x c e)
   exact ⟨_,q,hd⟩
  .exact ⟨o,keep c o (I.cne x c e) hc nch ho (I.freeC x c e),hd⟩
 refine ⟨I.ok,I.os,hg,⟨fun b o e n hb hx=>?_,fun b o e n hb hx=>?_,fun b o e n hx=>?_,fun b o e hx=>?_,fun b xs e=>tups b xs (I.base.tups b xs e),fun b o xs e=>frzs b o xs (I.base.frzs b o xs e),fun b ps e=>?_⟩,?_,fun x c e=>?_,?_,fun x c e=>?_,fun p hp=>?_,hok,I.len⟩
 .exact keep b o (neL b o e) hb (neC b o e hx) (I.base.keep b o e n hb hx) (I.base.free b o e n hx)
 .obtain ⟨sl,e1⟩:=I.base.slot b o e n hb hx
  obtain ⟨sl',e2⟩:=slot b _ (neL b o e) hb (neC b o e hx) e1 (I.base.free b o e n hx)
  exact ⟨sl',e2⟩
 .obtain ⟨o',e1⟩:=I.base.there b o e hx
  exact free b o' (neC b o e hx) e1 (I.base.free b o e n hx)
 .obtain ⟨o',e1⟩:=I.base.there b o e hx
  exact there b o' (neC b o e hx) e1
 .obtain ⟨m1,e1⟩:=I.base.tbls b ps e
  obtain ⟨m2,e2⟩:=tbls b _ e1
  exact ⟨m1++m2,by rw [e2,Array.append_assoc]⟩
 .obtain ⟨m,hn,hl⟩:=I.loc
  refine ⟨m,ns m hn,fun i x v e1 e2 e3=>?_⟩
  obtain ⟨u,r,l⟩:=hl i x v e1 e2 e3
  refine ⟨u,r,?_⟩
  rcases l with l | ⟨k,c,e,z⟩
  .exact .inl l
  .exact .inr ⟨k,c,e,cellK x c e _ z⟩
 .obtain ⟨v,z⟩:=I.cell x c e
  exact ⟨v,cellK x c e v z⟩
 .obtain ⟨m,⟨o,_,_,ho,_⟩,_⟩:=I.loc
  exact free _ o (fun z=>(hch _ z).2.1 rfl) ho I.free
 .obtain ⟨v,o,ho,hd⟩:=I.cell x c e
  exact free c o (fun z=>(hch c z).2.2.1 x c e rfl) ho (I.freeC x c e)
 .obtain ⟨e,n,ne,nf,d⟩:=I.pin p hp
  have nch:p.1∉ch:=fun z=>(hch p.1 z).2.2.2 p hp rfl
  exact ⟨keep p.1 p.2 ne nf nch e n,free p.1 p.2 nch e n,ne,nf,d⟩
theorem Inv.un {t':Nat} (I:Inv X pins σ H s) (u:Un X.fs [] H H' s.heap h') (hok:HOk X.prog X.w H' h'):Inv X pins σ H' { s with heap:=h',toks:=t' }:=by
 obtain ⟨m,⟨o,es,ep,ho,r⟩,_⟩:=id I.loc
 obtain ⟨sl,hL⟩:=u.any ho I.free (by simp)
 exact I.step (g':=s.gens) (d':=s.drawn) (ch:=[]) (fun _ z=>nomatch z) (fun b o _ hb _ e n=>u.keep b o e n hb (by simp)) (fun b o _ hb _ e n=>u.slot b o e n hb (by simp)) (fun b o _ e n=>u.free b o e n (by simp)) (fun b o _ e=>u.there b o e (by simp)) u.tups u.frzs u.tbls (fun m' hm=>by
  obtain ⟨o',es',ep',ho',r'⟩:=hm
  rw [ho] at ho';cases ho'
  exact ⟨_,es',ep',hL,r'⟩) hok I.bare
theorem Inv.call {g':Array GenState}{t':Nat}{d':Drawn}{ch:List Addr} (I:Inv X pins σ H s) (u:Un (frs X.stack) ch H H' s.heap h') (hok:HOk X.prog X.w H' h') (hg:AllBare g')
  (hch:∀b∈ch,(b∈X.ex\/X.s₀.heap.objs.size<=b)/\b≠X.env.locals/\(∀x c,X.env.cells.lookup x=some c->c≠b)/\∀p∈X.pn++pins,p.1≠b) :
  Inv X pins σ H' { s with heap:=h',gens:=g',drawn:=d',toks:=t' }:=by
 obtain ⟨m,⟨o,es,ep,ho,r⟩,_⟩:=id I.loc
 obtain ⟨sl,hL⟩:=u.any ho I.free fun z=>(hch _ z).2.1 rfl
 exact I.step (ch:=ch) hch (fun b o hL hb hc e n=>u.keep b o e n (fun z=>(List.mem_cons.mp (I.stkSub b z)).elim hL hb) hc) (fun b o _ _ hc e n=>u.any e n hc) (fun b o hc e n=>u.free b o e n hc) (fun b o hc e=>u.there b o e hc) u.tups u.frzs u.tbls (fun m' hm=>by
  obtain ⟨o',es',ep',ho',r'⟩:=hm
  rw [ho] at ho';cases ho'
  exact ⟨_,es',ep',hL,r'⟩) hok hg
theorem Inv.turned {t':Nat}{it:Addr} (I:Inv X pins σ H s) (k:∀b o,b≠it->s.heap.get? b=some o->h'.get? b=some o) (hn:H it=none) (hL:it≠X.env.locals)
  (h1:it∈X.ex\/X.s₀.heap.objs.size<=it) (h2:∀x c,X.env.cells.lookup x=some c->c≠it) (h3:∀p∈X.pn++pins,p.1≠it):Inv X pins σ H { s with heap:=h',toks:=t' }:=by
 have nit:∀b u,H b=some u->b≠it:=fun b u e z=>by rw [z,hn] at e;cases e
 refine I.step (g':=s.gens) (d':=s.drawn) (ch:=[it]) (fun b hb=>?_) (fun b o _ _ hc e _=>k b o (fun z=>hc (by simp [z])) e) (fun b o _ _ hc e _=>⟨o.slots,k b o (fun z=>hc (by simp [z])) e⟩) (fun _ _ _ _ n=>n)
  (fun b o hc e=>⟨o,k b o (fun z=>hc (by simp [z])) e⟩) (fun _ _ e=>e) (fun _ _ _ e=>e) (fun b ps e=>⟨#[],by rw [e];simp⟩) (fun m hm=>?_) (fun b u e=>?_) I.bare
 .have e:b=it:=by simpa using hb
  subst e
  exact ⟨h1,hL,h2,h3⟩
 .obtain ⟨o,es,ep,ho,r⟩:=hm
  exact ⟨o,es,ep,k _ o (Ne.symm hL) ho,r⟩
 .refine (I.hok b u e).stay (fun c v hc q=>k c v ?_ q) (fun _ q=>q) fun _ _ q=>q
  rcases hc with z | z
  .rw [z];exact nit b u e
  .exact nit c _ z
theorem Inv.tok (I:Inv X pins σ H s) (t:Nat):Inv X pins σ H { s with toks:=t }:=I.un (h':=s.heap) (t':=t) Un.refl I.hok
theorem Inv.kept {t':Nat} (I:Inv X pins σ H s) (k:∀b u,s.heap.get? b=some u->h'.get? b=some u):Inv X pins σ H { s with heap:=h',toks:=t' }:=I.un (Un.kept k) (I.hok.kept k)
theorem Inv.laid {a:Addr}{o:HO}{t':Nat} (I:Inv X pins σ H s) (k:∀b u,s.heap.get? b=some u->h'.get? b=some u) (hp:s.heap.objs.size<=a) (new:cr X.prog X.w (upd H a o) h' a o) :
  Inv X pins σ (upd H a o) { s with heap:=h',toks:=t' }:=I.un (Un.laid k hp (I.hok.fresh hp)) (I.hok.laid k hp new)
theorem Inv.write {x e:Addr}{o:HO}{t':Nat} (I:Inv X pins σ H s) (mu:Mut (H x)) (he:e=x\/H e=some (.own x)) (k:∀b u,b≠e->s.heap.get? b=some u->h'.get? b=some u) (heo:∃u,h'.get? e=some u)
  (new:cr X.prog X.w (upd H x o) h' x o):Inv X pins σ (upd H x o) { s with heap:=h',toks:=t' }:=I.un (Un.write mu he k heo) (I.hok.write mu he k heo new)
theorem Inv.pins_of {pins':List (Addr×Obj)} (I:Inv X pins σ H s) (h:∀p∈pins',s.heap.get? p.1=some p.2/\H p.1=none/\p.1≠X.env.locals/\p.1∉X.fs/\∀v,p.2.data≠.cell v):Inv X pins' σ H s :=
 ⟨I.ok,I.os,I.bare,I.base,I.loc,I.cell,I.free,I.freeC,fun p hp=>(List.mem_append.mp hp).elim (fun z=>I.pin p (List.mem_append_left _ z)) (h p),I.hok,I.len⟩
theorem rp {N:List Str} (hN:N.Nodup) {i j:Nat}{x:Str} (a:N[i]?=some x) (b:N[j]?=some x):i=j:=by
 obtain ⟨h1,e1⟩:=List.getElem?_eq_some_iff.mp a
 obtain ⟨h2,e2⟩:=List.getElem?_eq_some_iff.mp b
 exact (List.getElem_inj hN).mp (e1.trans e2.symm)
theorem t6 {M:Model}{A:Around}{E:Value->Shared->Prop}{i:Nat}{x:Str}{v:V}{u:Value}{Q:Unit->Shared->Prop} (I:Inv X pins σ H s) (hN:X.N.Nodup) (hi:X.N[i]?=some x) (hx:Loc X.env.scope x) (r:di v u)
  (h:∀s',Inv X pins (σ.set i (some v)) H s'->(∃a,Heap.SameBut a s.heap s'.heap/\(a=X.env.locals\/X.env.cells.lookup x=some a))->Q () s') (hf:X.fn x=true\/X.env.scope.names.lookup x=some .local:=by first | exact .inl rfl | exact .inr rfl | assumption):wpAny M A (storeName X.env x u) Q E s:=by
 obtain ⟨m,hn,hl⟩:=id I.loc
 have hcls:(X.env.scope.kind == .class || (X.env.scope.kind == .module && X.env.locals != X.env.globals))=false:=by rw [I.ok.kind];rfl
 have hiσ:i < σ.length:=by rw [I.len];exact (List.getElem?_eq_some_iff.mp hi).1
 have cne:=I.cne
 have tracked:∀{a:Addr}{h':Heap},(∃o,s.heap.get? a=some o/\H a=none)->Heap.SameBut a s.heap h'->HOk X.prog X.w H h':=fun {a h'} ha hs b ob e=>by
  obtain ⟨_,_,hfree⟩:=ha
  refine (I.hok b ob e).stay (fun c w' hc q=>(hs.2 c ?_).trans q) (fun _ q=>q) fun _ _ q=>q
  rintro rfl
  rcases hc with rfl | hc
  .rw [hfree] at e;cases e
  .rw [hfree] at hc;cases hc
 rcases hx with hk | hk
 .refine wpAny_storeName_local hk hn (fun h' hn' hs=>?_) hcls
  obtain ⟨oL,_,_,hoL,_⟩:=id hn
  refine h _ ⟨I.ok,I.os,I.bare,⟨fun b o e n hb hx=>?_,fun b o e n hb hx=>?_,I.base.free,fun b o e hx=>?_,I.base.tups,I.base.frzs,I.base.tbls⟩,⟨_,hn',fun j y v' e1 e2 e3=>?_⟩,fun y c e=>?_,I.free,I.freeC,fun p hp=>?_,tracked ⟨oL,hoL,I.free⟩ hs,by simpa using I.len⟩ ⟨_,hs,.inl rfl⟩
  .exact (hs.2 b (Nat.ne_of_lt (Nat.lt_of_lt_of_le (Heap.lt_size e) I.ok.above))).trans (I.base.keep b o e n hb hx)
  .obtain ⟨sl,e1⟩:=I.base.slot b o e n hb hx
   exact ⟨sl,(hs.2 b (Nat.ne_of_lt (Nat.lt_of_lt_of_le (Heap.lt_size e) I.ok.above))).trans e1⟩
  .obtain ⟨o',e1⟩:=I.base.there b o e hx
   exact ⟨o',(hs.2 b (Nat.ne_of_lt (Nat.lt_of_lt_of_le (Heap.lt_size e) I.ok.above))).trans e1⟩
  .by_cases hj:j=i
   .subst hj
    rw [hi] at e1;cases e1
    rw [List.getElem?_set_self hiσ] at e2
    cases e2
    exact ⟨u,r,.inl ⟨hk,by simp⟩⟩
   .rw [List.getElem?_set_ne (Ne.symm hj)] at e2
    obtain ⟨u',r',q⟩:=hl j y v' e1 e2 e3
    refine ⟨u',r',?_⟩
    rcases q with ⟨k,e⟩ | ⟨k,c,e,z⟩
    .refine .inl ⟨k,?_⟩
     have:y≠x:=fun e=>hj (rp hN e1 (e ▸ hi))
     simp [this,e]
    .exact .inr ⟨k,c,e,z.sameBut hs (cne y c e)⟩
  .obtain ⟨w',z⟩:=I.cell y c e
   exact ⟨w',z.sameBut hs (cne y c e)⟩
  .obtain ⟨e,n,ne,nf,d⟩:=I.pin p hp
   exact ⟨(hs.2 p.1 ne).trans e,n,ne,nf,d⟩
 .have hfn:X.fn x=true:=by
   rcases hf with z | z
   .exact z
   .rw [z] at hk;cases hk
  obtain ⟨c,hc⟩:=I.ok.has x (.inl hk)
  obtain ⟨w',z⟩:=I.cell x c hc
  refine wpAny_storeName_cell I.ok.kind hk hc z (fun h' hc' hs=>?_)
  obtain ⟨oc,hoc,hocd⟩:=id z
  refine h { s with heap:=h' } ⟨I.ok,I.os,I.bare,⟨fun b o e n hb hx=>?_,fun b o e n hb hx=>?_,I.base.free,fun b o e hx=>?_,I.base.tups,I.base.frzs,I.base.tbls⟩,⟨m,hn.sameBut hs (Ne.symm (cne x c hc)),fun j y v' e1 e2 e3=>?_⟩,fun y c' e=>?_,I.free,I.freeC,fun p hp=>?_,tracked ⟨oc,hoc,I.freeC x c hc⟩ hs,by simpa using I.len⟩ ⟨c,hs,.inr hc⟩
  .exact (hs.2 b (Nat.ne_of_lt (Nat.lt_of_lt_of_le (Heap.lt_size e) (I.ok.cab x c hfn hc)))).trans (I.base.keep b o e n hb hx)
  .obtain ⟨sl,e1⟩:=I.base.slot b o e n hb hx
   exact ⟨sl,(hs.2 b (Nat.ne_of_lt (Nat.lt_of_lt_of_le (Heap.lt_size e) (I.ok.cab x c hfn hc)))).trans e1⟩
  .obtain ⟨o',e1⟩:=I.base.there b o e hx
   exact ⟨o',(hs.2 b (Nat.ne_of_lt (Nat.lt_of_lt_of_le (Heap.lt_size e) (I.ok.cab x c hfn hc)))).trans e1⟩
  .by_cases hj:j=i
   .subst hj
    rw [hi] at e1;cases e1
    rw [List.getElem?_set_self hiσ] at e2
    cases e2
    exact ⟨u,r,.inr ⟨.inl hk,c,hc,hc'⟩⟩
   .rw [List.getElem?_set_ne (Ne.symm hj)] at e2
    obtain ⟨u',r',q⟩:=hl j y v' e1 e2 e3
    refine ⟨u',r',?_⟩
    rcases q with q | ⟨k,c',e,z'⟩
    .exact .inl q
    .refine .inr ⟨k,c',e,z'.sameBut hs ?_⟩
     rintro rfl
     exact hj (rp hN e1 (I.ok.inj _ _ _ e hc ▸ hi))
  .by_cases hcc:c'=c
   .subst hcc;exact ⟨_,hc'⟩
   .obtain ⟨w2,z2⟩:=I.cell y c' e
    exact ⟨w2,z2.sameBut hs hcc⟩
  .obtain ⟨e,n,ne,nf,d⟩:=I.pin p hp
   refine ⟨(hs.2 p.1 ?_).trans e,n,ne,nf,d⟩
   intro q
   rw [q,hoc] at e
   have q':oc=p.2:=Option.some.inj e
   exact d w' (by rw [<- q'];exact hocd)
theorem mM {M:Model}{A:Around}{E:Value->Shared->Prop}{i:Nat}{x:Str}{v:V}{u:Value}{Q:Unit->Shared->Prop} (I:Inv X pins σ H s) (hN:X.N.Nodup) (hi:X.N[i]?=some x) (hx:Loc X.env.scope x) (r:di v u)
  (h:∀s',Inv X pins (σ.set i (some v)) H s'->Q () s') (hf:X.fn x=true\/X.env.scope.names.lookup x=some .local:=by first | exact .inl rfl | exact .inr rfl | assumption):wpAny M A (storeName X.env x u) Q E s :=
 t6 I hN hi hx r (fun s' I' _=>h s' I') hf
theorem Inv.call' {s':Shared}{ch:List Addr} (I:Inv X pins σ H s) (ho:s'.os=s.os) (u:Un (frs X.stack) ch H H' s.heap s'.heap) (hok:HOk X.prog X.w H' s'.heap) (hg:AllBare s'.gens)
  (hch:∀b∈ch,(b∈X.ex\/X.s₀.heap.objs.size<=b)/\b≠X.env.locals/\(∀x c,X.env.cells.lookup x=some c->c≠b)/\∀p∈X.pn++pins,p.1≠b):Inv X pins σ H' s':=by
 obtain ⟨h',g',d',t',o'⟩:=s'
 have e:o'=s.os:=ho
 subst e
 exact I.call (g':=g') (t':=t') (d':=d') u hok hg hch
end
abbrev XK:=Value->Option Addr->Hp->Prop
abbrev St:=List (Option V)
abbrev VK:=V->Hp->Prop
abbrev TE:=St->Hp->VK->Prop
abbrev TT:=St->Hp->(Bool->Hp->Prop)->Prop
abbrev TA:=St->Hp->(List V->Hp->Prop)->Prop
structure xJ where
 nx:St->Hp->Prop
 rt:VK
 bk:St->Hp->Prop:=fun _ _=>False
 ct:St->Hp->Prop:=fun _ _=>False
abbrev TS:=xJ->St->Hp->Prop
def EP (X:Cx) (pins:List (Addr×Obj)) (σ:St) (Q:VK) (u:Value) (s':Shared):Prop:=∃v H',Inv X pins σ H' s'/\di v u/\Q v H'
def TP (X:Cx) (pins:List (Addr×Obj)) (σ:St) (Q:Bool->Hp->Prop) (b:Bool) (s':Shared):Prop:=∃H',Inv X pins σ H' s'/\Q b H'
def AP (X:Cx) (pins:List (Addr×Obj)) (σ:St) (Q:List V->Hp->Prop) (us:List Value) (s':Shared):Prop:=∃vs H',Inv X pins σ H' s'/\bV vs us/\Q vs H'
def SP (X:Cx) (pins:List (Addr×Obj)) (D:xJ) (f:Flow) (s':Shared):Prop :=
 match f with
 | .next=>∃σ' H',Inv X pins σ' H' s'/\D.nx σ' H'
 | .brk=>∃σ' H',Inv X pins σ' H' s'/\D.bk σ' H'
 | .cont=>∃σ' H',Inv X pins σ' H' s'/\D.ct σ' H'
 | .ret u=>∃v σ' H',Inv X pins σ' H' s'/\di v u/\D.rt v H'
def PE (X:Cx) (e:Expr) (t:TE):Prop :=
 ∀(pins:List (Addr×Obj)) (s:Shared) (σ:St) (H:Hp) (Q:VK),Inv X pins σ H s->t σ H Q->wpAny (model X.prog X.w) X.A (eval e X.env) (EP X pins σ Q) X.xe s
def PT (X:Cx) (e:Expr) (t:TT):Prop :=
 ∀(pins:List (Addr×Obj)) (s:Shared) (σ:St) (H:Hp) (Q:Bool->Hp->Prop),Inv X pins σ H s->t σ H Q->wpAny (model X.prog X.w) X.A (isTrue e X.env (eval e X.env)) (TP X pins σ Q) X.xe s
def PW (X:Cx) (e:Expr) (t:TT):Prop :=
 ∀(whole:Sem Value) (pins:List (Addr×Obj)) (s:Shared) (σ:St) (H:Hp) (Q:Bool->Hp->Prop),Inv X pins σ H s->t σ H Q->wpAny (model X.prog X.w) X.A (isTrue e X.env whole) (TP X pins σ Q) X.xe s
theorem PW.pt {X:Cx}{e:Expr}{t:TT} (h:PW X e t):PT X e t:=h _
def PA (X:Cx) (es:List Expr) (t:TA):Prop :=
 ∀(pos:Pos) (pins:List (Addr×Obj)) (s:Shared) (σ:St) (H:Hp) (Q:List V->Hp->Prop),Inv X pins σ H s->t σ H Q->wpAny (model X.prog X.w) X.A (spliced (backTo pos (starEach es X.env))) (AP X pins σ Q) X.xe s
def PS (X:Cx) (st:Stmt) (t:TS):Prop :=
 ∀(pins:List (Addr×Obj)) (s:Shared) (σ:St) (H:Hp) (D:xJ),Inv X pins σ H s->t D σ H->wpAny (model X.prog X.w) X.A (exec st X.env) (SP X pins D) X.xe s
def PSs (X:Cx) (st:List Stmt) (t:TS):Prop :=
 ∀(pins:List (Addr×Obj)) (s:Shared) (σ:St) (H:Hp) (D:xJ),Inv X pins σ H s->t D σ H->wpAny (model X.prog X.w) X.A (execs st X.env) (SP X pins D) X.xe s
theorem thn {α:Type}{t:Sem α}{Q Q':α->Shared->Prop}{M:Model}{A:Around}{E:Value->Shared->Prop}{s:Shared} (h:wpAny M A t Q E s) (hQ:∀a s,Q a s->Q' a s):wpAny M A t Q' E s:=wpAny_mono h hQ fun _ _ x=>x
section
variable {X:Cx}
def a4 (i:Nat):TE:=fun σ H Q=>∃v,σ[i]?=some (some v)/\Q v H
def tC (v:V):TE:=fun _ H Q=>Q v H
theorem AC {i:Nat}{x:Str}{pos:Pos} (hN:X.N[i]?=some x) (hv:Vis X.env.scope x) (hd:(x == ("__debug__":Str))=false:=by decide) (hcd:(x == ("__classdict__":Str))=false:=by decide):PE X (.Name x pos) (a4 i):=by
 intro pins s σ H Q I h
 obtain ⟨v,e,h⟩:=h
 obtain ⟨m,hn,hl⟩:=I.loc
 obtain ⟨u,r,l⟩:=hl i x v hN e hv
 have fin:EP X pins σ Q u s:=⟨v,H,I,r,h⟩
 rcases l with ⟨hk,hm⟩ | ⟨hk,c,hc,hcell⟩
 .exact wpAny_Name (wpAny_loadName_local I.ok.kind hk hn hm fin) hd
 .rcases hk with hk | hk
  .exact wpAny_Name (wpAny_loadName_cell I.ok.kind hk hc hcell fin) hd
  .exact wpAny_Name (wpAny_loadName_free I.ok.kind hk hc hcell fin hcd) hd
theorem ap {i j pos}:PE X (.Constant (.int i) j pos) (tC (.int i)):=fun _ _ _ H _ I h=>wpAny_Constant_int ⟨.int i,H,I.tok _,⟨_,rfl⟩,h⟩
theorem ou {b j pos}:PE X (.Constant (.bool b) j pos) (tC (.bl b)):=fun _ _ _ H _ I h=>Constant_bool ⟨.bl b,H,I,rfl,h⟩
theorem cM {j pos}:PE X (.Constant .none j pos) (tC .non):=fun _ _ _ H _ I h=>Constant_none ⟨.non,H,I,rfl,h⟩
theorem AD {x j pos}:PE X (.Constant (.str x) j pos) (tC (.str x)):=fun _ _ _ H _ I h=>Calls.Constant_str ⟨.str x,H,I.tok _,⟨_,rfl⟩,h⟩
def Gl (X:Cx) (x:Str):Prop:=X.env.kindOf x=some .globalImplicit
theorem qk {E:Value->Shared->Prop}{pins:List (Addr×Obj)}{s:Shared}{σ:St}{H:Hp}{x:Str}{u:Value}{pos:Pos}{Q:Value->Shared->Prop} (I:Inv X pins σ H s) (hg:Gl X x) (hm:X.mg x=some u) (h:Q u s)
  (hd:(x == ("__debug__":Str))=false:=by decide):wpAny (model X.prog X.w) X.A (eval (.Name x pos) X.env) Q E s :=
 Calls.Name_function_global I.ok.kind hg (Calls.loadGlobal_global (by rw [I.ok.glob];exact I.mod.glob.keeps I.bk) hm h) hd
theorem ip {E:Value->Shared->Prop}{pins:List (Addr×Obj)}{s:Shared}{σ:St}{H:Hp}{x:Str}{u:Value}{pos:Pos}{Q:Value->Shared->Prop} (I:Inv X pins σ H s) (hg:Gl X x) (hm:X.mg x=none) (hv:bootBuiltins x=some u) (h:Q u s)
  (hn:x≠"__name__":=by decide) (hd:(x == ("__debug__":Str))=false:=by decide):wpAny (model X.prog X.w) X.A (eval (.Name x pos) X.env) Q E s:=by
 obtain ⟨mb,h1,h2⟩:=I.mod.blt
 exact Calls.Name_function_global I.ok.kind hg (Calls.loadGlobal_builtin (by rw [I.ok.glob];exact I.mod.glob.keeps I.bk) hm (by rw [I.ok.blt];exact h1.keeps I.bk) ((h2 x hn).trans hv) h) hd
theorem yu {x:Str}{v:V}{u:Value}{pos:Pos} (hg:Gl X x) (hm:X.mg x=some u) (r:di v u) (hd:(x == ("__debug__":Str))=false:=by decide):PE X (.Name x pos) (tC v) :=
 fun _ _ _ H _ I h=>qk I hg hm ⟨v,H,I,r,h⟩ hd
theorem j1 {x:Str}{v:V}{u:Value}{pos:Pos} (hg:Gl X x) (hm:X.mg x=none) (hv:bootBuiltins x=some u) (r:di v u) (hn:x≠"__name__":=by decide) (hd:(x == ("__debug__":Str))=false:=by decide):PE X (.Name x pos) (tC v) :=
 fun _ _ _ H _ I h=>ip I hg hm hv ⟨v,H,I,r,h⟩ hn hd
variable {a b:Expr}{ta tb:TE}{pos:Pos}
def tB (t:TE):TT:=fun σ H Q=>t σ H fun x H1=>∃c,x=.bl c/\Q c H1
theorem AE {e:Expr}{t:TE} (h:PE X e t) (he:∀whole,isTrue e X.env whole=(do let v <- whole;standAt e.pos;holding [v] (truthy v)):=by intro _;rfl):PT X e (tB t):=by
 intro pins s σ H Q I hw
 refine isTrue_plain (thn (h pins s σ H _ I hw) fun v s1 ⟨x,H1,I1,r1,q1⟩=>?_) (he _)
 obtain ⟨d,rfl,q⟩:=q1
 cases r1
 exact wpAny_truthy_bool ⟨H1,I1,q⟩
variable {tA tB':TT}{rest:List Expr}
def AF (t u:TT):TT:=fun σ H Q=>t σ H fun c H1=>if c=true then u σ H1 Q else Q false H1
def tOr (t u:TT):TT:=fun σ H Q=>t σ H fun c H1=>if c=true then Q true H1 else u σ H1 Q
def DD (t:TT):TT:=fun σ H Q=>t σ H fun c H1=>Q (!c) H1
theorem hU (ha:PT X a tA):PW X (.BoolOp .And [a] pos) tA:=by
 intro wh pins s σ H Q I h
 refine isTrue_and (thn (ha pins s σ H Q I h) fun c s1 e=>?_)
 cases c with
 | true=>exact isTrue_and_nil e
 | false=>exact e
theorem oz (ha:PT X a tA):PW X (.BoolOp .Or [a] pos) tA:=by
 intro wh pins s σ H Q I h
 refine isTrue_or (thn (ha pins s σ H Q I h) fun c s1 e=>?_)
 cases c with
 | false=>exact isTrue_or_nil e
 | true=>exact e
theorem j2 (ha:PT X a tA) (hb:PW X (.BoolOp .And (b::rest) pos) tB'):PW X (.BoolOp .And (a::b::rest) pos) (AF tA tB'):=by
 intro wh pins s σ H Q I h
 refine isTrue_and (thn (ha pins s σ H _ I h) fun c s1 ⟨H1,I1,q1⟩=>?_)
 cases c with
 | true=>exact hb wh pins s1 σ H1 Q I1 q1
 | false=>exact ⟨H1,I1,q1⟩
theorem t7 (ha:PT X a tA) (hb:PW X (.BoolOp .Or (b::rest) pos) tB'):PW X (.BoolOp .Or (a::b::rest) pos) (tOr tA tB'):=by
 intro wh pins s σ H Q I h
 refine isTrue_or (thn (ha pins s σ H _ I h) fun c s1 ⟨H1,I1,q1⟩=>?_)
 cases c with
 | true=>exact ⟨H1,I1,q1⟩
 | false=>exact hb wh pins s1 σ H1 Q I1 q1
theorem j3 (ha:PT X a tA):PT X (.UnaryOp .Not a pos) (DD tA):=by
 intro pins s σ H Q I h
 exact isTrue_not (ha pins s σ H (fun c H1=>Q (!c) H1) I h)
def AG (ta tb:TE):TE:=fun σ H Q=>ta σ H fun x H1=>∃c,x=.bl c/\if c=true then tb σ H1 Q else Q (.bl false) H1
def AH (ta:TE):TE:=fun σ H Q=>ta σ H fun x H1=>∃c,x=.bl c/\Q (.bl (!c)) H1
theorem rq {op}{t:TE} (h:PE X a t):PE X (.BoolOp op [a] pos) t:=fun pins s σ H Q I hw=>BoolOp_one (h pins s σ H Q I hw)
theorem oA (ha:PE X a ta) (hb:PE X (.BoolOp .And (b::rest) pos) tb):PE X (.BoolOp .And (a::b::rest) pos) (AG ta tb):=by
 intro pins s σ H Q I h
 refine BoolOp_and (thn (ha pins s σ H _ I h) fun v s1 ⟨x,H1,I1,r1,q1⟩=>?_)
 obtain ⟨c,rfl,q1⟩:=q1
 cases r1
 refine wpAny_truthy_bool ?_
 cases c with
 | true=>exact hb pins s1 σ H1 Q I1 q1
 | false=>exact ⟨.bl false,H1,I1,rfl,q1⟩
theorem xK (ha:PE X a ta):PE X (.UnaryOp .Not a pos) (AH ta):=by
 intro pins s σ H Q I h
 refine UnaryOp_ (thn (ha pins s σ H _ I h) fun v s1 ⟨x,H1,I1,r1,q1⟩=>?_)
 obtain ⟨c,rfl,q1⟩:=q1
 cases r1
 exact not_of (wpAny_truthy_bool ⟨.bl (!c),H1,I1,rfl,q1⟩)
def tIf (t:TT) (ta tb:TE):TE:=fun σ H Q=>t σ H fun c H1=>if c=true then ta σ H1 Q else tb σ H1 Q
theorem wt {c:Expr} (hc:PT X c tA) (ha:PE X a ta) (hb:PE X b tb):PE X (.IfExp c a b pos) (tIf tA ta tb):=by
 intro pins s σ H Q I h
 refine wpAny_IfExp (thn (hc pins s σ H _ I h) fun d s1 ⟨H1,I1,q1⟩=>?_)
 cases d with
 | true=>exact ha pins s1 σ H1 Q I1 q1
 | false=>exact hb pins s1 σ H1 Q I1 q1
end
def SqL (K:PySem.W.Frag) (H:Hp) (a:Addr) (xs:List V):Prop :=
 Rd H a (.lst xs) \/
  ∃(o:Obj) (its:Array Value) (n:Nat),K.lookup a=some o/\o.cls=.type "list"/\o.dict=none/\o.data=.seq its n/\its.size<=sizeLine/\bV xs its.toList
def SqT (K:PySem.W.Frag) (H:Hp) (a:Addr) (xs:List V):Prop :=
 Rd H a (.tup xs) \/
  ∃(o:Obj) (its:Array Value) (n:Nat),K.lookup a=some o/\o.cls=.type "tuple"/\o.data=.seq its n/\its.size<=sizeLine/\bV xs its.toList
def Ed:Value->Option V
 | .none=>some .non
 | .bool b=>some (.bl b)
 | .int i _=>some (.int i)
 | .str x _=>some (.str x)
 | .bytes b _=>some (.byt b)
 | .float b _=>some (.flt b)
 | .ref a=>some (.ref a)
 | .type n=>some (.ty n)
 | _=>none
theorem di.abs {x:V}{u:Value} (r:di x u):Ed u=some x:=by
 cases x with
 | non=>cases r;rfl
 | bl _=>cases r;rfl
 | int _=>obtain ⟨t,rfl⟩:=r;rfl
 | str _=>obtain ⟨t,rfl⟩:=r;rfl
 | byt _=>obtain ⟨t,rfl⟩:=r;rfl
 | flt _=>obtain ⟨t,rfl⟩:=r;rfl
 | ref _=>cases r;rfl
 | ty _=>cases r;rfl
theorem di.inj {x y:V}{u:Value} (r:di x u) (q:di y u):x=y:=Option.some.inj (r.abs.symm.trans q.abs)
theorem bV.inj:∀{xs ys:List V}{us:List Value},bV xs us->bV ys us->xs=ys
 | _,_,_,.nil,.nil=>rfl
 | _,_,_,.cons r t,.cons r' t'=>by rw [r.inj r',bV.inj t t']
section
variable {X:Cx}{pins:List (Addr×Obj)}{σ:St}{H:Hp}{s:Shared}{a:Addr}{xs ys:List V}
theorem SqL.of {K:PySem.W.Frag} (h:H a=some (.lst xs)):SqL K H a xs:=.inl (.inl h)
theorem SqT.of {K:PySem.W.Frag} (h:H a=some (.tup xs)):SqT K H a xs:=.inl (.inl h)
theorem Inv.list (I:Inv X pins σ H s) (h:SqL X.K H a xs):∃its:List Value,bV xs its/\PlainL s.heap a its.toArray/\xs.length<=sizeLine:=by
 rcases h with h | ⟨o,its,n,hk,hc,hd,hs,hz,r⟩
 .obtain ⟨z,its,n,r,e⟩:=h.ok I.hok
  exact ⟨its,r,⟨_,n,e,rfl,rfl,rfl⟩,z⟩
 .refine ⟨its.toList,r,⟨o,n,I.kIn a o hk,hc,hd,by simpa using hs⟩,?_⟩
  have e:=r.length
  simp only [Array.length_toList] at e
  omega
theorem Inv.tuple (I:Inv X pins σ H s) (h:SqT X.K H a xs):∃its:List Value,bV xs its/\IsTup s.heap a its.toArray/\xs.length<=sizeLine:=by
 rcases h with h | ⟨o,its,n,hk,hc,hs,hz,r⟩
 .obtain ⟨z,its,r,p⟩:=h.ok I.hok
  exact ⟨its,r,p,z⟩
 .refine ⟨its.toList,r,⟨o,I.kIn a o hk,hc,n,by simpa using hs⟩,?_⟩
  have e:=r.length
  simp only [Array.length_toList] at e
  omega
theorem Inv.list_inj (I:Inv X pins σ H s) (h:SqL X.K H a xs) (h':SqL X.K H a ys):xs=ys:=by
 obtain ⟨its,r,⟨o,n,e,_,_,d⟩,_⟩:=I.list h
 obtain ⟨its',r',⟨o',n',e',_,_,d'⟩,_⟩:=I.list h'
 rw [e] at e';cases e'
 rw [d] at d'
 injection d' with d1 _
 have:its=its':=by simpa using congrArg Array.toList d1
 subst this
 exact r.inj r'
theorem Inv.tuple_inj (I:Inv X pins σ H s) (h:SqT X.K H a xs) (h':SqT X.K H a ys):xs=ys:=by
 obtain ⟨its,r,⟨o,e,_,n,d⟩,_⟩:=I.tuple h
 obtain ⟨its',r',⟨o',e',_,n',d'⟩,_⟩:=I.tuple h'
 rw [e] at e';cases e'
 rw [d] at d'
 injection d' with d1 _
 have:its=its':=by simpa using congrArg Array.toList d1
 subst this
 exact r.inj r'
end
abbrev Cx.wish (X:Cx) (E:Value->Shared->Prop):Cx:={ X with xe:=E }
abbrev Cx.nox (X:Cx):Cx:=X.wish fun _ _=>False
theorem Cx.Ok.wish {X:Cx} (ok:X.Ok) (E:Value->Shared->Prop):(X.wish E).Ok :=
 ⟨ok.mod,ok.kind,ok.glob,ok.blt,ok.above,ok.inj,ok.has,ok.cab,ok.hd,ok.frames,ok.stk,ok.exf,ok.bs,ok.bsz,ok.noex,ok.exfs,ok.funs,ok.frf⟩
theorem Cx.Ok.unwish {X:Cx}{E:Value->Shared->Prop} (ok:(X.wish E).Ok):X.Ok :=
 ⟨ok.mod,ok.kind,ok.glob,ok.blt,ok.above,ok.inj,ok.has,ok.cab,ok.hd,ok.frames,ok.stk,ok.exf,ok.bs,ok.bsz,ok.noex,ok.exfs,ok.funs,ok.frf⟩
section
variable {X:Cx}{pins:List (Addr×Obj)}{σ:St}{H:Hp}{s:Shared}{E:Value->Shared->Prop}
theorem Inv.wish (I:Inv X pins σ H s) (E:Value->Shared->Prop):Inv (X.wish E) pins σ H s:=⟨I.ok.wish E,I.os,I.bare,I.base,I.loc,I.cell,I.free,I.freeC,I.pin,I.hok,I.len⟩
theorem Inv.unwish (I:Inv (X.wish E) pins σ H s):Inv X pins σ H s:=⟨I.ok.unwish,I.os,I.bare,I.base,I.loc,I.cell,I.free,I.freeC,I.pin,I.hok,I.len⟩
theorem SP.unwish {D:xJ}{f:Flow}{s':Shared} (h:SP (X.wish E) pins D f s'):SP X pins D f s':=by
 cases f with
 | next=>obtain ⟨σ',H',I,q⟩:=h;exact ⟨σ',H',I.unwish,q⟩
 | brk=>obtain ⟨σ',H',I,q⟩:=h;exact ⟨σ',H',I.unwish,q⟩
 | cont=>obtain ⟨σ',H',I,q⟩:=h;exact ⟨σ',H',I.unwish,q⟩
 | ret u=>obtain ⟨v,σ',H',I,r,q⟩:=h;exact ⟨v,σ',H',I.unwish,r,q⟩
theorem PSs.nox {st:List Stmt}{t:TS} (h:PSs X.nox st t):PSs X st t:=fun pins s σ H D I hw =>
 wpAny_mono (h pins s σ H D (I.wish _) hw) (fun _ _ q=>q.unwish) fun _ _ z=>False.elim z
end
section
variable {X:Cx}{st:Stmt}{rest:List Stmt}{t u:TS}{e:Expr}{te:TE}{pos:Pos}
def AI:TS:=fun D σ H=>D.nx σ H
def Ak (t u:TS):TS:=fun D σ H=>t { D with nx:=u D } σ H
theorem bH:PSs X [] AI:=fun _ _ σ H _ I h=>wpAny_execs_nil ⟨σ,H,I,h⟩
theorem ah (h1:PS X st t) (h2:PSs X rest u):PSs X (st::rest) (Ak t u):=by
 intro pins s σ H D I h
 refine wpAny_execs_cons (thn (h1 pins s σ H { D with nx:=u D } I h) fun f s1 q=>?_)
 cases f with
 | next =>
  obtain ⟨σ',H',I',q⟩:=q
  exact h2 pins s1 σ' H' D I' q
 | ret v=>exact q
 | brk=>exact q
 | cont=>exact q
theorem ar (h1:PS X st t):PSs X [st] t:=by
 intro pins s σ H D I h
 refine wpAny_execs_cons (thn (h1 pins s σ H D I h) fun f s1 q=>?_)
 cases f with
 | next=>exact wpAny_execs_nil q
 | ret v=>exact q
 | brk=>exact q
 | cont=>exact q
theorem Inv.quiet {pins:List (Addr×Obj)}{σ:St}{H:Hp}{s:Shared} (I:Inv X pins σ H s):interactive X.env=false:=by simp [interactive,I.ok.kind]
def AJ (te:TE):TS:=fun D σ H=>te σ H fun _ H1=>D.nx σ H1
theorem iY (he:PE X e te) (hs:swapsWith e none pos.line X.env=pure false:=by rfl):PS X (.Expr e pos) (AJ te):=by
 intro pins s σ H D I h
 exact wpAny_Expr_any (thn (he pins s σ H _ I h) fun v s1 ⟨x,H1,I1,r1,q1⟩=>⟨σ,H1,I1,q1⟩) I.quiet hs
def DE (te:TE):TS:=fun D σ H=>te σ H D.rt
theorem aU (he:PE X e te):PS X (.Return (some e) pos) (DE te):=by
 intro pins s σ H D I h
 exact wpAny_Return_some (thn (he pins s σ H _ I h) fun v s1 ⟨x,H1,I1,r1,q1⟩=>⟨x,σ,H1,I1,r1,q1⟩)
def CJ (c:TT) (t u:TS):TS:=fun D σ H=>c σ H fun b H1=>if b=true then t D σ H1 else u D σ H1
theorem dA {c:Expr}{a b:List Stmt}{tc:TT} (hc:PT X c tc) (ha:PSs X a t) (hb:PSs X b u):PS X (.If c a b pos) (CJ tc t u):=by
 intro pins s σ H D I h
 refine wpAny_If (thn (hc pins s σ H _ I h) fun d s1 ⟨H1,I1,q1⟩=>?_)
 cases d with
 | true=>exact ha pins s1 σ H1 D I1 q1
 | false=>exact hb pins s1 σ H1 D I1 q1
def t9:TS:=fun _ _ _=>False
theorem rz:PS X st t9:=fun _ _ _ _ _ _ h=>h.elim
end
abbrev TG:=V->St->Hp->(St->Hp->Prop)->Prop
abbrev TGs:=List V->St->Hp->(St->Hp->Prop)->Prop
def PG (X:Cx) (target:Expr) (t:TG):Prop :=
 ∀(pins:List (Addr×Obj)) (s:Shared) (σ:St) (H:Hp) (v:V) (u:Value) (Q:St->Hp->Prop),Inv X pins σ H s->di v u->t v σ H Q ->
  wpAny (model X.prog X.w) X.A (assign target X.env u) (fun _ s'=>∃σ' H',Inv X pins σ' H' s'/\Q σ' H') X.xe s
def PGs (X:Cx) (ts:List Expr) (t:TGs):Prop :=
 ∀(pins:List (Addr×Obj)) (s:Shared) (σ:St) (H:Hp) (vs:List V) (us:List Value) (Q:St->Hp->Prop),Inv X pins σ H s->bV vs us->t vs σ H Q ->
  wpAny (model X.prog X.w) X.A (assignInOrder ((assignEach ts X.env).map (·.2)) us) (fun _ s'=>∃σ' H',Inv X pins σ' H' s'/\Q σ' H') X.xe s
abbrev CK:=V->V->V->Hp->(Hp->Prop)->Prop
def DF (X:Cx) (t:CK):Prop :=
 ∀(pins:List (Addr×Obj)) (s:Shared) (σ:St) (H:Hp) (o i v:V) (ov iv u:Value) (Q:Hp->Prop),Inv X pins σ H s->di o ov->di i iv->di v u->t o i v H Q ->
  wpAny (model X.prog X.w) X.A (setItem ov iv u) (fun _ s'=>∃H',Inv X pins σ H' s'/\Q H') X.xe s
section
variable {X:Cx}{pos:Pos}
def ca (i:Nat):TG:=fun v σ H Q=>Q (σ.set i (some v)) H
theorem aC {i:Nat}{x:Str} (hN:X.N.Nodup) (hi:X.N[i]?=some x) (hx:Loc X.env.scope x) (hf:X.fn x=true\/X.env.scope.names.lookup x=some .local:=by first | exact .inl rfl | exact .inr rfl | assumption):PG X (.Name x pos) (ca i):=by
 intro pins s σ H v u Q I r h
 exact wpAny_assign_Name (mM I hN hi hx r (fun s' I'=>⟨_,H,I',h⟩) hf)
def AK:TGs:=fun vs σ H Q=>vs=[]/\Q σ H
def oB (t:TG) (u:TGs):TGs:=fun vs σ H Q=>∃v r,vs=v::r/\t v σ H fun σ' H'=>u r σ' H' Q
theorem fQ:PGs X [] AK:=by
 intro pins s σ H vs us Q I r h
 obtain ⟨e,h⟩:=h
 subst e
 cases r
 exact assignInOrder_nil ⟨σ,H,I,h⟩
theorem ce {e:Expr}{es:List Expr}{t:TG}{u:TGs} (h1:PG X e t) (h2:PGs X es u)
  (hs:(assignEach (e::es) X.env).map (·.2)=assign e X.env::(assignEach es X.env).map (·.2):=by rfl):PGs X (e::es) (oB t u):=by
 intro pins s σ H vs us Q I r h
 obtain ⟨v,vr,e1,h⟩:=h
 subst e1
 cases r with
 | cons r rr =>
  rw [hs]
  refine assignInOrder_cons (thn (h1 pins s σ H _ _ _ I r h) fun _ s1 ⟨σ1,H1,I1,q1⟩=>?_)
  exact h2 pins s1 σ1 H1 _ _ Q I1 rr q1
def Ee (K:PySem.W.Frag) (n:Nat) (t:TGs):TG:=fun v σ H Q=>∃a xs,v=.ref a/\SqT K H a xs/\xs.length=n/\t xs σ H Q
theorem AL {es:List Expr}{k:Nat}{t:TGs}{n:Nat} (hc:X.calm=true) (h:PGs X es t)
  (hn:(assignEach es X.env).length=n:=by rfl) (hst:(assignEach es X.env).findIdx? (·.1)=none:=by rfl):PG X (.Tuple es k pos) (Ee X.K n t):=by
 intro pins s σ H v u Q I r hw
 obtain ⟨a,xs,e1,hq,hl,hw⟩:=hw
 subst e1
 cases r
 obtain ⟨its,rv,ht,hz⟩:=I.tuple hq
 refine assign_Tuple_tuple (I.ok.hd hc) ht (by simp [hn,<- hl,rv.length]) hst fun h' hx=>?_
 have I1:Inv X pins σ H { s with heap:=h' }:=I.kept (t':=s.toks) fun b o e=>hx b o (Nat.ne_of_lt (Heap.lt_size e)) e
 exact h pins _ σ H xs _ Q I1 (by simpa using rv) hw
def AM (to ti:TE) (t:CK):TG:=fun v σ H Q=>to σ H fun o H1=>ti σ H1 fun i H2=>t o i v H2 fun H3=>Q σ H3
theorem ua {o i:Expr}{to ti:TE}{t:CK} (ho:PE X o to) (hi:PE X i ti) (hs:DF X t)
  (ha:∀v,assign (.Subscript o i pos) X.env v=(do
   let ov <- holding [v] (eval o X.env)
   let iv <- holding [v,ov] (eval i X.env)
   standAt pos
   holding [v,ov,iv] (setItem ov iv v)
   release [v,ov,iv] []):=by intro _;rfl):PG X (.Subscript o i pos) (AM to ti t):=by
 intro pins s σ H v u Q I r h
 rw [ha]
 refine wpAny_bind (wpAny_holding (thn (ho pins s σ H _ I h) fun ov s1 ⟨x,H1,I1,r1,q1⟩=>?_))
 refine wpAny_bind (wpAny_holding (thn (hi pins s1 σ H1 _ I1 q1) fun iv s2 ⟨y,H2,I2,r2,q2⟩=>?_))
 refine wpAny_bind (wpAny_standAt (wpAny_bind (wpAny_holding (thn (hs pins s2 σ H2 x y v ov iv u _ I2 r1 r2 r q2) fun _ s3 ⟨H3,I3,q3⟩=>?_))))
 exact wpAny_release ⟨σ,H3,I3,q3⟩
def uc (te:TE) (g:TG):TS:=fun D σ H=>te σ H fun x H1=>g x σ H1 D.nx
theorem ud {tg e:Expr}{te:TE}{g:TG} (he:PE X e te) (hg:PG X tg g) (hs:swapsWithSole [tg] e pos.line X.env=pure false:=by rfl) (hw:swappedStores [tg] e X.env=pure none:=by rfl)
  (h1:(assignEach [tg] X.env).map (·.2)=[assign tg X.env]:=by rfl):PS X (.Assign [tg] e pos) (uc te g):=by
 intro pins s σ H D I h
 refine wpAny_Assign_stores (thn (he pins s σ H _ I h) fun v s1 ⟨x,H1,I1,r1,q1⟩=>?_) hs hw
 rw [h1]
 exact thn (hg pins s1 σ H1 x v _ I1 r1 q1) fun _ s2 q=>q
theorem aN {i:Nat}{x:Str}{e:Expr}{te:TE}{pos':Pos} (hN:X.N.Nodup) (hi:X.N[i]?=some x) (hx:Loc X.env.scope x) (he:PE X e te) (hs:swapsWith e (some (.Name x pos')) pos.line X.env=pure false:=by rfl) (hf:X.fn x=true\/X.env.scope.names.lookup x=some .local:=by first | exact .inl rfl | exact .inr rfl | assumption) :
  PS X (.Assign [.Name x pos'] e pos) (uc te (ca i)):=by
 intro pins s σ H D I h
 refine wpAny_Assign_Name (thn (he pins s σ H _ I h) fun v s1 ⟨y,H1,I1,r1,q1⟩=>?_) hs
 exact mM I1 hN hi hx r1 (fun s2 I2=>⟨_,H1,I2,q1⟩) hf
end
section
variable {X:Cx}{pos:Pos}
def xL (c:TT) (tb:TS):TS:=fun D σ H=>∃W:Nat->St->Hp->Prop,(∃m,W m σ H)/\∀m σ H,W m σ H ->
 c σ H fun b H1=>if b=true then ∃N:St->Hp->Prop,(∀σ' H',N σ' H'->∃m',m' < m/\W m' σ' H')/\tb { D with nx:=N,ct:=N,bk:=D.nx } σ H1 else D.nx σ H1
theorem mO {c:Expr}{body:List Stmt}{tc:TT}{tb:TS} (hp:PassesOwn (model X.prog X.w) X.A X.env X.xe) (hc:PT X c tc) (hb:PSs X body tb):PS X (.While c body [] pos) (xL tc tb):=by
 intro pins s σ H D I h
 obtain ⟨W,⟨m0,w0⟩,turn⟩:=h
 refine wpAny_While (codeAny_whileLoop (fun n s'=>∃σ' H',Inv X pins σ' H' s'/\W n σ' H') ?_ m0 ⟨σ,H,I,w0⟩)
 rintro n s1 ⟨σ1,H1,I1,w1⟩
 refine wpAny_passesOwn hp (thn (hc pins s1 σ1 H1 _ I1 (turn n σ1 H1 w1)) fun b s2 ⟨H2,I2,q2⟩=>?_)
 cases b with
 | true =>
  obtain ⟨N,hN,q2⟩:=q2
  rw [if_pos rfl]
  refine wpAny_passesOwn hp (thn (hb pins s2 σ1 H2 _ I2 q2) fun f s3 q3=>?_)
  cases f with
  | next =>
   obtain ⟨σ3,H3,I3,n3⟩:=q3
   obtain ⟨m',hm,w3⟩:=hN σ3 H3 n3
   exact ⟨m',hm,σ3,H3,I3,w3⟩
  | cont =>
   obtain ⟨σ3,H3,I3,n3⟩:=q3
   obtain ⟨m',hm,w3⟩:=hN σ3 H3 n3
   exact ⟨m',hm,σ3,H3,I3,w3⟩
  | brk=>exact q3
  | ret v=>exact q3
 | false =>
  rw [if_neg Bool.false_ne_true]
  exact wpAny_execs_nil ⟨σ1,H2,I2,q2⟩
end
structure It where
 go:Nat->Hp->Prop
 yld:Nat->Hp->V->Hp->Prop
 stop:Nat->Hp->Prop
def ql (X:Cx) (pins:List (Addr×Obj)) (H:Hp) (b:Addr):Prop :=
 H b=none/\b≠X.env.locals/\b∉X.fs/\(b∈X.ex\/X.s₀.heap.objs.size<=b)/\(∀x c,X.env.cells.lookup x=some c->c≠b)/\∀p∈X.pn++pins,p.1≠b
theorem Inv.fpOk {X:Cx}{pins:List (Addr×Obj)}{σ:St}{H H':Hp}{s:Shared}{b:Addr} (I:Inv X pins σ H s) (hb:s.heap.objs.size<=b) (hn:H' b=none):ql X pins H' b:=by
 refine ⟨hn,Nat.ne_of_gt (Nat.lt_of_lt_of_le I.lt hb),I.nofs hb,.inr (Nat.le_trans I.sz hb),fun x c e z=>?_,fun p hp z=>?_⟩
 .obtain ⟨v,q⟩:=I.cell x c e
  exact absurd (Nat.lt_of_lt_of_le q.lt (by rw [z];exact hb)) (Nat.lt_irrefl _)
 .exact absurd (Nat.lt_of_lt_of_le (Heap.lt_size (I.pin p hp).1) (by rw [z];exact hb)) (Nat.lt_irrefl _)
structure Al (P:Program) (w:World) (K:PySem.W.Frag) (tg:Expr) (J:It) (fp:List Addr) (it:Addr) (tn:Nat->Heap->Prop):Prop where
 mem:it∈fp
 obj:∀i h,tn i h->∀b∈fp,∃o,h.get? b=some o/\∀v,o.data≠.cell v
 keep:∀i h h',tn i h->(∀b∈fp,∀o,h.get? b=some o->h'.get? b=some o)->tn i h'
 item:∀(X:Cx),X.prog=P->X.w=w->X.K=K->X.calm=true->∀(i:Nat) (pins:List (Addr×Obj)) (s:Shared) (σ:St) (H:Hp) (E:Value->Shared->Prop),Inv X pins σ H s->(∀b∈fp,ql X pins H b)->tn i s.heap->J.go i H ->
  wpAny (model P w) X.A (pyNext (.ref it)) (fun r s1=>∃u,r=some u /\
   wpAny (model P w) X.A (letOwnedTupleGo tg (.ref it) u) (fun _ s2=>∃x H',Inv X pins σ H' s2/\di x u/\J.yld i H x H'/\tn (i + 1) s2.heap/\∀b∈fp,H' b=none) E s1) E s
 done:∀(X:Cx),X.prog=P->X.w=w->X.K=K->X.calm=true->∀(i:Nat) (pins:List (Addr×Obj)) (s:Shared) (σ:St) (H:Hp) (E:Value->Shared->Prop),Inv X pins σ H s->(∀b∈fp,ql X pins H b)->tn i s.heap->J.stop i H ->
  wpAny (model P w) X.A (pyNext (.ref it)) (fun r s1=>r=none/\Inv X pins σ H s1) E s
 self:∀(A:Around) (i:Nat) (s:Shared) (Q:Value->Shared->Prop) (E:Value->Shared->Prop),tn i s.heap->Q (.ref it) s->wpAny (model P w) A (pyIter (.ref it)) Q E s
abbrev TI:=St->Hp->(It->Hp->Prop)->Prop
def PIE (X:Cx) (pins:List (Addr×Obj)) (σ:St) (tg:Expr) (R:It->Hp->Prop) (itv:Value) (s2:Shared):Prop :=
 ∃(it:Addr) (fp:List Addr) (tn:Nat->Heap->Prop) (J:It) (H':Hp),itv=.ref it/\Inv X pins σ H' s2/\Al X.prog X.w X.K tg J fp it tn/\tn 0 s2.heap/\(∀b∈fp,ql X pins H' b)/\R J H'
def PI (X:Cx) (tg iter:Expr) (wi:TI):Prop :=
 ∀(pins:List (Addr×Obj)) (s:Shared) (σ:St) (H:Hp) (R:It->Hp->Prop),Inv X pins σ H s->wi σ H R ->
  wpAny (model X.prog X.w) X.A (eval iter X.env) (fun v s1=>wpAny (model X.prog X.w) X.A (pyIter v) (PIE X pins σ tg R) X.xe s1) X.xe s
theorem yv {M:Model}{A:Around}{E:Value->Shared->Prop}{s:Shared}{tg:Expr}{it:Addr}{u:Value}{o:Obj}{n:String}{vs:Array Value}{Q:Unit->Shared->Prop} (ho:s.heap.get? it=some o) (hc:o.cls=.type n) (hd:o.data=.fields vs)
    (hn:["enumerate","zip","dict_itemiterator","dict_reverseitemiterator","odict_iterator","itertools.zip_longest","itertools.pairwise"].contains n=false) (hQ:Q () s):wpAny M A (letOwnedTupleGo tg (.ref it) u) Q E s:=by
  unfold letOwnedTupleGo
  cases tg <;> first
    | exact wpAny_pure hQ
    | (cases u <;> first
        | exact wpAny_pure hQ
        | (refine wpAny_bind (wpAny_load ho ?_)
           rw [hc,hd]
           show wpAny M A (if (["enumerate","zip","dict_itemiterator","dict_reverseitemiterator","odict_iterator","itertools.zip_longest","itertools.pairwise"].contains n && vs[0]? == some (rawInt _))=true then _ else _) Q E s
           rw [if_neg (by intro h;rw [hn,Bool.false_and] at h;cases h)]
           exact wpAny_pure hQ))
def Itl (K:PySem.W.Frag) (a:Addr):It :=
 ⟨fun i H=>∃xs x,SqL K H a xs/\xs[i]?=some x,fun i H x H'=>H'=H/\∀xs,SqL K H a xs->xs[i]?=some x,fun i H=>∃xs,SqL K H a xs/\xs.length<=i⟩
def Itt (K:PySem.W.Frag) (a:Addr):It :=
 ⟨fun i H=>∃xs x,SqT K H a xs/\xs[i]?=some x,fun i H x H'=>H'=H/\∀xs,SqT K H a xs->xs[i]?=some x,fun i H=>∃xs,SqT K H a xs/\xs.length<=i⟩
def Itr (lo:Int) (n:Nat):It:=⟨fun i _=>i < n,fun i H x H'=>H'=H/\x=.int (lo + i),fun i _=>n<=i⟩
theorem ue {P:Program}{w:World}{K:PySem.W.Frag}{tg:Expr} (a it:Addr):Al P w K tg (Itl K a) [it] it (fun i h=>h.IsListIter it a i) where
 mem:=by simp
 obj:=fun i h st b hb=>by
  have e:b=it:=by simpa using hb
  subst e
  obtain ⟨o,e,c,d⟩:=st
  exact ⟨o,e,fun v z=>by rw [d] at z;cases z⟩
 keep:=fun i h h' st k=>st.at fun o e=>k it (by simp) o e
 item:=by
  intro X hP hw hK hc i pins s σ H E I hf st hg
  subst hP hw hK
  obtain ⟨xs,x,hq,hx⟩:=hg
  obtain ⟨its,rv,p,hz⟩:=I.list hq
  obtain ⟨u,hu,ru⟩:=rv.get hx
  obtain ⟨f0,f1,f2,f3,f4,f5⟩:=hf it (by simp)
  refine wpAny_pyNext_list_item st p.isList (x:=u) (by simpa using hu) fun h' st' sb=>?_
  have I1:Inv X pins σ H { s with heap:=h' }:=I.turned (t':=s.toks) (fun b o hb e=>(sb.2 b hb).trans e) f0 f1 f3 f4 f5
  obtain ⟨o,e,c,d⟩:=id st'
  exact ⟨u,rfl,yv (s:={ s with heap:=h' }) e c d (by decide) ⟨x,H,I1,ru,⟨rfl,fun ys hy=>by rw [I.list_inj hy hq];exact hx⟩,st',fun b hb=>(hf b hb).1⟩⟩
 done:=by
  intro X hP hw hK hc i pins s σ H E I hf st hg
  subst hP hw hK
  obtain ⟨xs,hq,hx⟩:=hg
  obtain ⟨its,rv,p,hz⟩:=I.list hq
  obtain ⟨f0,f1,f2,f3,f4,f5⟩:=hf it (by simp)
  have hl:=rv.length
  exact wpAny_pyNext_list_end (I.ok.hd hc) st p.isList (by simp;omega) fun h' eb=>⟨rfl,I.turned (t':=s.toks) (fun b o hb e=>eb b o hb e) f0 f1 f3 f4 f5⟩
 self:=fun _ _ _ _ _ st h=>wpAny_pyIter_listiter st h
theorem sv {P:Program}{w:World}{K:PySem.W.Frag}{tg:Expr} (a it:Addr):Al P w K tg (Itt K a) [it] it (fun i h=>h.IsTupleIter it a i) where
 mem:=by simp
 obj:=fun i h st b hb=>by
  have e:b=it:=by simpa using hb
  subst e
  obtain ⟨o,e,c,d⟩:=st
  exact ⟨o,e,fun v z=>by rw [d] at z;cases z⟩
 keep:=fun i h h' st k=>st.at fun o e=>k it (by simp) o e
 item:=by
  intro X hP hw hK hc i pins s σ H E I hf st hg
  subst hP hw hK
  obtain ⟨xs,x,hq,hx⟩:=hg
  obtain ⟨its,rv,p,hz⟩:=I.tuple hq
  obtain ⟨u,hu,ru⟩:=rv.get hx
  obtain ⟨f0,f1,f2,f3,f4,f5⟩:=hf it (by simp)
  refine wpAny_pyNext_tuple_item st (show s.heap.IsTuple a its.toArray from p) (x:=u) (by simpa using hu) fun h' st' sb=>?_
  have I1:Inv X pins σ H { s with heap:=h' }:=I.turned (t':=s.toks) (fun b o hb e=>(sb.2 b hb).trans e) f0 f1 f3 f4 f5
  obtain ⟨o,e,c,d⟩:=id st'
  exact ⟨u,rfl,yv (s:={ s with heap:=h' }) e c d (by decide) ⟨x,H,I1,ru,⟨rfl,fun ys hy=>by rw [I.tuple_inj hy hq];exact hx⟩,st',fun b hb=>(hf b hb).1⟩⟩
 done:=by
  intro X hP hw hK hc i pins s σ H E I hf st hg
  subst hP hw hK
  obtain ⟨xs,hq,hx⟩:=hg
  obtain ⟨its,rv,p,hz⟩:=I.tuple hq
  obtain ⟨f0,f1,f2,f3,f4,f5⟩:=hf it (by simp)
  have hl:=rv.length
  exact wpAny_pyNext_tuple_end (I.ok.hd hc) st (show s.heap.IsTuple a its.toArray from p) (by simp;omega) fun h' eb=>⟨rfl,I.turned (t':=s.toks) (fun b o hb e=>eb b o hb e) f0 f1 f3 f4 f5⟩
 self:=fun _ _ _ _ _ st h=>wpAny_pyIter_tupleiter st h
theorem sw {P:Program}{w:World}{K:PySem.W.Frag}{tg:Expr} (it:Addr) (lo:Int) (n:Nat):Al P w K tg (Itr lo n) [it] it (fun i h=>IsRangeIter h it (lo + (i:Nat) * 1) ((n:Int) - (i:Nat)) 1) where
 mem:=by simp
 obj:=fun i h st b hb=>by
  have e:b=it:=by simpa using hb
  subst e
  exact ⟨_,st,fun v z=>by
   have z':Data.fields _=Data.cell v:=z
   cases z'⟩
 keep:=fun i h h' st k=>k it (by simp) _ st
 item:=by
  intro X hP hw hK hc i pins s σ H E I hf st hg
  subst hP hw hK
  obtain ⟨f0,f1,f2,f3,f4,f5⟩:=hf it (by simp)
  have W:=Walks.range (prog:=X.prog) (w:=X.w) (I.ok.hd hc) it lo 1 n
  refine W.item i s _ _ hg st fun v h' tk hv st' kk=>?_
  obtain ⟨t,rfl⟩:=hv
  have I1:Inv X pins σ H { s with heap:=h',toks:=tk }:=I.turned (fun b o hb e=>kk b o (by simpa using hb) e) f0 f1 f3 f4 f5
  refine ⟨_,rfl,yv (s:={ s with heap:=h',toks:=tk }) (n:="range_iterator") st' rfl rfl (by decide) ⟨.int (lo + i),H,I1,⟨t,?_⟩,⟨rfl,rfl⟩,st',fun b hb=>(hf b hb).1⟩⟩
  rw [Int.mul_one]
 done:=by
  intro X hP hw hK hc i pins s σ H E I hf st hg
  subst hP hw hK
  obtain ⟨f0,f1,f2,f3,f4,f5⟩:=hf it (by simp)
  exact wpAny_pyNext_range_end (I.ok.hd hc) st (by have:n<=i:=hg;omega) fun h' eb=>⟨rfl,I.turned (t':=s.toks) (fun b o hb e=>eb b o hb e) f0 f1 f3 f4 f5⟩
 self:=fun _ _ _ _ _ st h=>wpAny_pyIter_rangeiter st h
section
variable {X:Cx}{tg:Expr}
theorem wu {pins:List (Addr×Obj)}{σ:St}{H:Hp}{s:Shared}{R:It->Hp->Prop}{E:Value->Shared->Prop}{lo hi:Int}{t u v:Tok}{tk:Nat} (I:Inv X pins σ H s) (h1:-(2 ^ 62)<=lo) (h2:lo < 2 ^ 62) (h3:-(2 ^ 62)<=hi) (h4:hi < 2 ^ 62)
  (q:R (Itr lo (hi - lo).toNat) H):wpAny (model X.prog X.w) X.A (pyIter (.ref s.heap.objs.size)) (PIE X pins σ tg R) E { s with heap:=s.heap.push { cls:=.type "range",data:=.fields #[.int lo t,.int hi u,.int 1 v] },toks:=tk }:=by
 refine wpAny_pyIter_range (IsRange.new ..) (small_one h1 h2 h3 h4) ?_
 have I1:Inv X pins σ H { s with heap:=s.heap.push { cls:=.type "range",data:=.fields #[.int lo t,.int hi u,.int 1 v] },toks:=tk }:=I.kept fun b o e=>Heap.get?_push_of_some _ e
 refine ⟨(s.heap.push { cls:=.type "range",data:=.fields #[.int lo t,.int hi u,.int 1 v] }).objs.size,[(s.heap.push { cls:=.type "range",data:=.fields #[.int lo t,.int hi u,.int 1 v] }).objs.size],_,_,H,rfl,
  I1.kept (t':=tk) fun b o e=>Heap.get?_push_of_some _ e,sw _ lo (hi - lo).toNat,?_,fun b hb=>?_,q⟩
 .have e1:lo + ((0:Nat):Int) * 1=lo:=by simp
  have e2:(((hi - lo).toNat:Nat):Int) - ((0:Nat):Int)=Builtin.Range.rangeSize lo hi 1:=by rw [rangeSize_one];split <;> omega
  show IsRangeIter _ _ (lo + ((0:Nat):Int) * 1) ((((hi - lo).toNat:Nat):Int) - ((0:Nat):Int)) 1
  rw [e1,e2]
  exact Heap.get?_push_size _ rfl
 .have e:b=(s.heap.push { cls:=.type "range",data:=.fields #[.int lo t,.int hi u,.int 1 v] }).objs.size:=by simpa using hb
  subst e
  exact I1.fpOk (Nat.le_refl _) (I1.hok.fresh (Nat.le_refl _))
def sy (ta:TA):TI:=fun σ H R=>ta σ H fun vs H1=>∃j:Int,vs=[.int j]/\-(2 ^ 62)<=j/\j < 2 ^ 62/\R (Itr 0 j.toNat) H1
theorem du {a:Expr}{ta:TA}{p pos:Pos} (hg:Gl X "range") (hm:X.mg "range"=none) (ha:PA X [a] ta) (hs:starEach [a] X.env=[(false,eval a X.env)]:=by rfl):PI X tg (.Call (.Name "range" p) [a] [] pos) (sy ta):=by
 intro pins s σ H R I h
 refine Call_ (ip I hg hm boot_range (PyProof.Rows.callWith_type1 (thn (ha pos pins s σ H _ I h) fun us s1 ⟨vs,H1,I1,r1,q1⟩=>?_) hs rfl))
 obtain ⟨j,e,q1,q2,q⟩:=q1
 subst e
 cases r1 with
 | cons r rr =>
  cases rr
  obtain ⟨t,rfl⟩:=r
  exact call_range_1 (wu I1 (by omega) (by omega) q1 q2 (by simpa using q))
def DG (wi:TI) (g:TG) (tb:TS):TS:=fun D σ H=>wi σ H fun J H1=>∃W:Nat->Nat->St->Hp->Prop,(∃m,W 0 m σ H1)/\∀i m σ H,W i m σ H ->
 (J.stop i H/\D.nx σ H)\/(J.go i H/\∃N:St->Hp->Prop,(∀σ' H',N σ' H'->∃m',m' < m/\W (i + 1) m' σ' H')/\∀x H',J.yld i H x H'->g x σ H' fun σ2 H2=>tb { D with nx:=N,ct:=N,bk:=D.nx } σ2 H2)
def j4 (fp:List Addr) (h:Heap):List (Addr×Obj):=fp.filterMap fun b=>(h.get? b).map fun o=>(b,o)
theorem cT {fp:List Addr}{h:Heap}{b:Addr}{o:Obj} (hb:b∈fp) (e:h.get? b=some o):(b,o)∈j4 fp h:=List.mem_filterMap.mpr ⟨b,hb,by rw [e];rfl⟩
theorem uf {fp:List Addr}{h:Heap}{p:Addr×Obj} (hp:p∈j4 fp h):p.1∈fp/\h.get? p.1=some p.2:=by
 obtain ⟨b,hb,e⟩:=List.mem_filterMap.mp hp
 cases q:h.get? b with
 | none=>rw [q] at e;cases e
 | some o =>
  rw [q] at e
  have e':(b,o)=p:=Option.some.inj e
  subst e'
  exact ⟨hb,q⟩
theorem Inv.pinned {pins:List (Addr×Obj)}{σ:St}{H:Hp}{s:Shared}{fp:List Addr} (I:Inv X pins σ H s) (hf:∀b∈fp,ql X pins H b) (ho:∀b∈fp,∃o,s.heap.get? b=some o/\∀v,o.data≠.cell v):Inv X (pins++j4 fp s.heap) σ H s :=
 I.pins_of fun p hp=>(List.mem_append.mp hp).elim (fun z=>I.pin p (List.mem_append_right _ z)) fun z=>by
  obtain ⟨hb,e⟩:=uf z
  obtain ⟨f0,f1,f2,_⟩:=hf p.1 hb
  obtain ⟨o,e',d⟩:=ho p.1 hb
  rw [e] at e';cases e'
  exact ⟨e,f0,f1,f2,d⟩
theorem Inv.unpinned {pins pl:List (Addr×Obj)}{σ:St}{H:Hp}{s:Shared} (I:Inv X (pins++pl) σ H s):Inv X pins σ H s:=I.pins_of fun p hp=>I.pin p (List.mem_append_right _ (List.mem_append_left _ hp))
theorem fC {iter:Expr}{body:List Stmt}{wi:TI}{g:TG}{tb:TS}{pos:Pos} (hp:PassesOwn (model X.prog X.w) X.A X.env X.xe) (hc:X.calm=true) (hi:PI X tg iter wi) (hg:PG X tg g) (hb:PSs X body tb)
  (hs:∀x,foldedSetIterable iter X.env x=pure x:=by intro _;rfl):PS X (.For tg iter body [] pos) (DG wi g tb):=by
 intro pins s σ H D I h
 refine wpAny_For (thn (hi pins s σ H _ I h) fun v s1 h1=>thn h1 fun itv s2 h2=>?_) hs
 obtain ⟨it,fp,tn,J,H2,e,I2,T,st2,f2,W,⟨m0,w0⟩,turn⟩:=h2
 subst e
 -- what stays true of the iterator's objects through the loop
 have stat:∀{H':Hp},(∀b∈fp,H' b=none)->∀b∈fp,ql X pins H' b:=fun hn b hb=>⟨hn b hb,(f2 b hb).2⟩
 refine codeAny_forLoop_any (fun n s'=>∃i σ' H',Inv X pins σ' H' s'/\tn i s'.heap/\(∀b∈fp,H' b=none)/\W i n σ' H') ?_ m0 ⟨0,σ,H2,I2,st2,fun b hb=>(f2 b hb).1,w0⟩
 rintro n s3 ⟨i,σ3,H3,I3,st3,fr3,w3⟩
 rcases turn i n σ3 H3 w3 with ⟨stop,qn⟩ | ⟨go,N,hN,step⟩
 .refine wpAny_passesOwn hp (thn (T.done X rfl rfl rfl hc i pins s3 σ3 H3 X.xe I3 (stat fr3) st3 stop) fun r s4 ⟨hr,I4⟩=>?_)
  subst hr
  exact wpAny_execs_nil ⟨σ3,H3,I4,qn⟩
 .refine wpAny_passesOwn hp (thn (T.item X rfl rfl rfl hc i pins s3 σ3 H3 X.xe I3 (stat fr3) st3 go) fun r s4 ⟨u,hr,h4⟩=>?_)
  subst hr
  refine wpAny_passesOwn hp (thn h4 fun _ s5 ⟨x,H5,I5,r5,y5,st5,fr5⟩=>?_)
  have I5':=I5.pinned (stat fr5) (T.obj _ _ st5)
  refine wpAny_passesOwn hp (thn (hg _ s5 σ3 H5 x u _ I5' r5 (step x H5 y5)) fun _ s6 ⟨σ6,H6,I6,q6⟩=>?_)
  refine wpAny_passesOwn hp (thn (hb _ s6 σ6 H6 _ I6 q6) fun f s7 q7=>?_)
  have again:∀{σ7:St}{H7:Hp},Inv X (pins++j4 fp s5.heap) σ7 H7 s7->N σ7 H7->∃m,m < n/\∃i σ' H',Inv X pins σ' H' s7/\tn i s7.heap/\(∀b∈fp,H' b=none)/\W i m σ' H':=fun {σ7 H7} I7 n7=>by
   obtain ⟨m',hm,w7⟩:=hN σ7 H7 n7
   refine ⟨m',hm,i + 1,σ7,H7,I7.unpinned,T.keep _ _ _ st5 fun b hb o e=>(I7.pin (b,o) (List.mem_append_right _ (List.mem_append_right _ (cT hb e)))).1,fun b hb=>?_,w7⟩
   obtain ⟨o,e,d⟩:=T.obj _ _ st5 b hb
   exact (I7.pin (b,o) (List.mem_append_right _ (List.mem_append_right _ (cT hb e)))).2.1
  cases f with
  | next=>obtain ⟨σ7,H7,I7,n7⟩:=q7;exact again I7 n7
  | cont=>obtain ⟨σ7,H7,I7,n7⟩:=q7;exact again I7 n7
  | brk=>obtain ⟨σ7,H7,I7,q7⟩:=q7;exact ⟨σ7,H7,I7.unpinned,q7⟩
  | ret v=>obtain ⟨x7,σ7,H7,I7,r7,q7⟩:=q7;exact ⟨x7,σ7,H7,I7.unpinned,r7,q7⟩
end
abbrev R2:=V->V->Hp->VK->Prop
def OpR (X:Cx) (f:Value->Value->Sem Value) (r:R2):Prop :=
 ∀(pins:List (Addr×Obj)) (s:Shared) (σ:St) (H:Hp) (x y:V) (v u:Value) (Q:VK),Inv X pins σ H s->di x v->di y u->r x y H Q ->
  wpAny (model X.prog X.w) X.A (f v u) (EP X pins σ Q) X.xe s
def UnR (X:Cx) (f:Value->Sem Value) (r:V->Hp->VK->Prop):Prop :=
 ∀(pins:List (Addr×Obj)) (s:Shared) (σ:St) (H:Hp) (x:V) (v:Value) (Q:VK),Inv X pins σ H s->di x v->r x H Q ->
  wpAny (model X.prog X.w) X.A (f v) (EP X pins σ Q) X.xe s
def bX (X:Cx) (f:Value) (r:List V->Hp->VK->Prop):Prop :=
 ∀(pins:List (Addr×Obj)) (s:Shared) (σ:St) (H:Hp) (xs:List V) (us:List Value) (Q:VK),Inv X pins σ H s->bV xs us->r xs H Q ->
  wpAny (model X.prog X.w) X.A (call f us) (EP X pins σ Q) X.xe s
def tOp (r:R2) (ta tb:TE):TE:=fun σ H Q=>ta σ H fun x H1=>tb σ H1 fun y H2=>r x y H2 Q
def tUn (r:V->Hp->VK->Prop) (ta:TE):TE:=fun σ H Q=>ta σ H fun x H1=>r x H1 Q
def rI (C:Int->Int->Prop) (g:Int->Int->V):R2:=fun x y H Q=>∃i j,x=.int i/\y=.int j/\C i j/\Q (g i j) H
def rI0 (g:Int->Int->V):R2:=fun x y H Q=>∃i j,x=.int i/\y=.int j/\Q (g i j) H
def rU (g:Int->V):V->Hp->VK->Prop:=fun x H Q=>∃i,x=.int i/\Q (g i) H
section
variable {X:Cx}{a b c:Expr}{ta tb tc:TE}{pos:Pos}
theorem CL (ha:PE X a ta) (hb:PE X b tb) {pins:List (Addr×Obj)}{s:Shared}{σ:St}{H:Hp}{R:V->V->Hp->Prop} (I:Inv X pins σ H s)
  (h:ta σ H fun x H1=>tb σ H1 fun y H2=>R x y H2) {Q:Value->Shared->Prop}{f:Value->Value->Sem Value}
  (hf:∀v u s2 x y H2,Inv X pins σ H2 s2->di x v->di y u->R x y H2->wpAny (model X.prog X.w) X.A (f v u) Q X.xe s2) :
  wpAny (model X.prog X.w) X.A (eval a X.env) (fun v s₁=>wpAny (model X.prog X.w) X.A (eval b X.env) (fun u s₂=>wpAny (model X.prog X.w) X.A (f v u) Q X.xe s₂) X.xe s₁) X.xe s:=by
 refine thn (ha pins s σ H _ I h) fun v s1 ⟨x,H1,I1,r1,q1⟩=>?_
 refine thn (hb pins s1 σ H1 _ I1 q1) fun u s2 ⟨y,H2,I2,r2,q2⟩=>?_
 exact hf v u s2 x y H2 I2 r1 r2 q2
theorem aG {op:Operator}{r:R2} (ho:OpR X (binaryOp op) r) (ha:PE X a ta) (hb:PE X b tb):PE X (.BinOp a op b pos) (tOp r ta tb):=by
 intro pins s σ H Q I h
 exact wpAny_BinOp (CL ha hb I h fun v u s2 x y H2 I2 rx ry q=>ho pins s2 σ H2 x y v u Q I2 rx ry q)
theorem yw {op:UnaryOp}{r:V->Hp->VK->Prop} (ho:UnR X (unaryOp op) r) (ha:PE X a ta):PE X (.UnaryOp op a pos) (tUn r ta):=by
 intro pins s σ H Q I h
 exact UnaryOp_ (thn (ha pins s σ H _ I h) fun v s1 ⟨x,H1,I1,r1,q1⟩=>ho pins s1 σ H1 x v Q I1 r1 q1)
theorem opI {f:Value->Value->Sem Value}{C:Int->Int->Prop}{g:Int->Int->Int}
  (rule:∀(i j:Int) (t u:Tok) (s:Shared) (Q:Value->Shared->Prop) (E:Value->Shared->Prop),C i j->Q (.int (g i j) s.toks) { s with toks:=s.toks + 1 }->wpAny (model X.prog X.w) X.A (f (.int i t) (.int j u)) Q E s) :
  OpR X f (rI C fun i j=>.int (g i j)):=by
 intro pins s σ H x y v u Q I rx ry h
 obtain ⟨i,j,rfl,rfl,hc,q⟩:=h
 obtain ⟨t,rfl⟩:=rx
 obtain ⟨t',rfl⟩:=ry
 exact rule i j t t' s _ _ hc ⟨.int (g i j),H,I.tok _,⟨_,rfl⟩,q⟩
theorem DH {f:Value->Value->Sem Value}{g:Int->Int->Int}
  (rule:∀(i j:Int) (t u:Tok) (s:Shared) (Q:Value->Shared->Prop) (E:Value->Shared->Prop),Q (.int (g i j) s.toks) { s with toks:=s.toks + 1 }->wpAny (model X.prog X.w) X.A (f (.int i t) (.int j u)) Q E s) :
  OpR X f (rI0 fun i j=>.int (g i j)):=by
 intro pins s σ H x y v u Q I rx ry h
 obtain ⟨i,j,rfl,rfl,q⟩:=h
 obtain ⟨t,rfl⟩:=rx
 obtain ⟨t',rfl⟩:=ry
 exact rule i j t t' s _ _ ⟨.int (g i j),H,I.tok _,⟨_,rfl⟩,q⟩
theorem Am {f:Value->Value->Sem Value}{g:Int->Int->Bool}
  (rule:∀(i j:Int) (t u:Tok) (s:Shared) (Q:Value->Shared->Prop) (E:Value->Shared->Prop),Q (.bool (g i j)) s->wpAny (model X.prog X.w) X.A (f (.int i t) (.int j u)) Q E s) :
  OpR X f (rI0 fun i j=>.bl (g i j)):=by
 intro pins s σ H x y v u Q I rx ry h
 obtain ⟨i,j,rfl,rfl,q⟩:=h
 obtain ⟨t,rfl⟩:=rx
 obtain ⟨t',rfl⟩:=ry
 exact rule i j t t' s _ _ ⟨.bl (g i j),H,I,rfl,q⟩
def CM (i j:Int):Prop:=0 < j/\j < 1073741824
def CN (i j:Int):Prop:=0<=j/\j<=1000000/\i.natAbs < 2 ^ 64
def Cy (i j:Int):Prop:=(-(2 ^ 64) < i/\i < 2 ^ 64)\/(-(2 ^ 64) < j/\j < 2 ^ 64)
theorem Cy.ok {i j:Int} (h:Cy i j):IntMulOk i j:=by
 rcases h with ⟨h1,h2⟩ | ⟨h1,h2⟩
 .exact .of_left (intBits_le_64 h1 h2)
 .exact .of_right (intBits_le_64 h1 h2)
theorem AN:OpR X (binaryOp .Add) (rI0 fun i j=>.int (i + j)):=DH fun _ _ _ _ _ _ _ q=>add_int q
theorem AO:OpR X (binaryOp .Sub) (rI0 fun i j=>.int (i - j)):=DH fun _ _ _ _ _ _ _ q=>sub_int q
theorem AQ:OpR X (binaryOp .Mult) (rI Cy fun i j=>.int (i * j)):=opI fun _ _ _ _ _ _ _ hc q=>mul_int q hc.ok
theorem yx:OpR X (binaryOp .FloorDiv) (rI CM fun i j=>.int (i / j)):=opI fun i j _ _ _ _ _ hc q=>by
 have h1:(0:Int) < j:=hc.1
 have h2:j < 1073741824:=hc.2
 exact floordiv_int (by omega) (by rw [Int.fdiv_eq_ediv_of_nonneg i (by omega)];exact q) (.inl (PyProof.noPylong_small (by omega)))
theorem AR:OpR X (binaryOp .Mod) (rI (fun _ j=>0 < j) fun i j=>.int (i % j)):=opI fun i j _ _ _ _ _ hc q=>by
 have h1:(0:Int) < j:=hc
 exact mod_int' (by omega) (by rw [Int.fmod_eq_emod_of_nonneg i (by omega)];exact q)
theorem AS:OpR X (binaryOp .Pow) (rI CN fun i j=>.int (i ^ j.toNat)):=opI fun _ _ _ _ _ _ _ hc q=>pow_int_small hc.1 hc.2.1 hc.2.2 q
theorem unI {f:Value->Sem Value}{g:Int->Int}
  (rule:∀(i:Int) (t:Tok) (s:Shared) (Q:Value->Shared->Prop) (E:Value->Shared->Prop),Q (.int (g i) s.toks) { s with toks:=s.toks + 1 }->wpAny (model X.prog X.w) X.A (f (.int i t)) Q E s) :
  UnR X f (rU fun i=>.int (g i)):=by
 intro pins s σ H x v Q I rx h
 obtain ⟨i,rfl,q⟩:=h
 obtain ⟨t,rfl⟩:=rx
 exact rule i t s _ _ ⟨.int (g i),H,I.tok _,⟨_,rfl⟩,q⟩
theorem ug:UnR X (unaryOp .USub) (rU fun i=>.int (-i)):=unI fun _ _ _ _ _ q=>neg_int q
end
def DI:V->V->Bool
 | .non,.non=>true | .non,.int _=>true | .int _,.non=>true | .non,.bl _=>true | .bl _,.non=>true | .non,.str _=>true | .str _,.non=>true
 | .int _,.int _=>true | .bl _,.bl _=>true | .str _,.str _=>true | .byt _,.byt _=>true
 | .int _,.str _=>true | .str _,.int _=>true | .bl _,.str _=>true | .str _,.bl _=>true
 | _,_=>false
def rEq:R2:=fun x y H Q=>DI x y=true/\Q (.bl (decide (x=y))) H
def rNe:R2:=fun x y H Q=>DI x y=true/\Q (.bl (!decide (x=y))) H
theorem uh {i j:Int}:decide (V.int i=V.int j)=(i == j):=by
 rw [Bool.eq_iff_iff]
 simp
theorem xM {i j:Bool}:decide (V.bl i=V.bl j)=(i == j):=by
 rw [Bool.eq_iff_iff]
 simp
theorem ui {i j:Str}:decide (V.str i=V.str j)=(i == j):=by
 rw [Bool.eq_iff_iff]
 simp
theorem uj {i j:Array UInt8}:decide (V.byt i=V.byt j)=(i.toList == j.toList):=by
 rw [Bool.eq_iff_iff]
 cases i
 cases j
 simp
section
variable {X:Cx}{a b c:Expr}{ta tb tc:TE}{pos:Pos}
theorem bz {pins:List (Addr×Obj)}{σ:St}{H:Hp}{s:Shared}{Q:VK}{k k':Bool} (I:Inv X pins σ H s) (q:Q (.bl k) H) (e:k=k'):EP X pins σ Q (.bool k') s:=by
 subst e
 exact ⟨.bl k,H,I,rfl,q⟩
theorem CO:OpR X (compareOp .Eq) rEq:=by
 intro pins s σ H x y v u Q I rx ry h
 obtain ⟨hs,q⟩:=h
 cases x with
 | non =>
  cases rx
  cases y with
  | non=>cases ry;exact PySem.EqNone.eq_none_none (bz I q (by simp))
  | bl j=>cases ry;exact PySem.EqNone.eq_none_bool (bz I q (by simp))
  | int j=>obtain ⟨t',rfl⟩:=ry;exact PySem.EqNone.eq_none_int (bz I q (by simp))
  | str j=>obtain ⟨t',rfl⟩:=ry;exact PySem.EqNone.eq_none_str (bz I q (by simp))
  | _=>exact absurd (show false=true from hs) Bool.false_ne_true
 | bl i =>
  cases rx
  cases y with
  | non=>cases ry;exact PySem.EqNone.eq_bool_none (bz I q (by simp))
  | bl j=>cases ry;exact eq_bool (bz I q xM)
  | str j=>obtain ⟨t',rfl⟩:=ry;exact PySem.EqMixed.eq_bool_str (bz I q (by simp))
  | _=>exact absurd (show false=true from hs) Bool.false_ne_true
 | int i =>
  obtain ⟨t,rfl⟩:=rx
  cases y with
  | non=>cases ry;exact PySem.EqNone.eq_int_none (bz I q (by simp))
  | int j=>obtain ⟨t',rfl⟩:=ry;exact eq_int (bz I q uh)
  | str j=>obtain ⟨t',rfl⟩:=ry;exact PySem.EqMixed.eq_int_str (bz I q (by simp))
  | _=>exact absurd (show false=true from hs) Bool.false_ne_true
 | str i =>
  obtain ⟨t,rfl⟩:=rx
  cases y with
  | non=>cases ry;exact PySem.EqNone.eq_str_none (bz I q (by simp))
  | bl j=>cases ry;exact PySem.EqMixed.eq_str_bool (bz I q (by simp))
  | int j=>obtain ⟨t',rfl⟩:=ry;exact PySem.EqMixed.eq_str_int (bz I q (by simp))
  | str j=>obtain ⟨t',rfl⟩:=ry;exact eq_str (bz I q ui)
  | _=>exact absurd (show false=true from hs) Bool.false_ne_true
 | byt i =>
  obtain ⟨t,rfl⟩:=rx
  cases y with
  | byt j=>obtain ⟨t',rfl⟩:=ry;exact PySem.W.eq_bytes (bz I q uj)
  | _=>exact absurd (show false=true from hs) Bool.false_ne_true
 | _=>cases y <;> exact absurd (show false=true from hs) Bool.false_ne_true
theorem CP:OpR X (compareOp .NotEq) rNe:=by
 intro pins s σ H x y v u Q I rx ry h
 obtain ⟨hs,q⟩:=h
 cases x with
 | non =>
  cases rx
  cases y with
  | non=>cases ry;exact PySem.EqNone.ne_none_none (bz I q (by simp))
  | bl j=>cases ry;exact PySem.EqNone.ne_none_bool (bz I q (by simp))
  | int j=>obtain ⟨t',rfl⟩:=ry;exact PySem.EqNone.ne_none_int (bz I q (by simp))
  | str j=>obtain ⟨t',rfl⟩:=ry;exact PySem.EqNone.ne_none_str (bz I q (by simp))
  | _=>exact absurd (show false=true from hs) Bool.false_ne_true
 | bl i =>
  cases rx
  cases y with
  | non=>cases ry;exact PySem.EqNone.ne_bool_none (bz I q (by simp))
  | bl j=>cases ry;exact ne_bool (bz I q (congrArg not xM))
  | str j=>obtain ⟨t',rfl⟩:=ry;exact PySem.EqMixed.ne_bool_str (bz I q (by simp))
  | _=>exact absurd (show false=true from hs) Bool.false_ne_true
 | int i =>
  obtain ⟨t,rfl⟩:=rx
  cases y with
  | non=>cases ry;exact PySem.EqNone.ne_int_none (bz I q (by simp))
  | int j=>obtain ⟨t',rfl⟩:=ry;exact ne_int (bz I q (congrArg not uh))
  | str j=>obtain ⟨t',rfl⟩:=ry;exact PySem.EqMixed.ne_int_str (bz I q (by simp))
  | _=>exact absurd (show false=true from hs) Bool.false_ne_true
 | str i =>
  obtain ⟨t,rfl⟩:=rx
  cases y with
  | non=>cases ry;exact PySem.EqNone.ne_str_none (bz I q (by simp))
  | bl j=>cases ry;exact PySem.EqMixed.ne_str_bool (bz I q (by simp))
  | int j=>obtain ⟨t',rfl⟩:=ry;exact PySem.EqMixed.ne_str_int (bz I q (by simp))
  | str j=>obtain ⟨t',rfl⟩:=ry;exact ne_str (bz I q (congrArg not ui))
  | _=>exact absurd (show false=true from hs) Bool.false_ne_true
 | byt i =>
  obtain ⟨t,rfl⟩:=rx
  cases y with
  | byt j=>obtain ⟨t',rfl⟩:=ry;exact PySem.W.ne_bytes (bz I q (congrArg not uj))
  | _=>exact absurd (show false=true from hs) Bool.false_ne_true
 | _=>cases y <;> exact absurd (show false=true from hs) Bool.false_ne_true
theorem CQ:OpR X (compareOp .Lt) (rI0 fun i j=>.bl (decide (i < j))):=Am fun _ _ _ _ _ _ _ q=>lt_int q
theorem CS:OpR X (compareOp .LtE) (rI0 fun i j=>.bl (decide (i<=j))):=Am fun _ _ _ _ _ _ _ q=>le_int q
theorem CT:OpR X (compareOp .Gt) (rI0 fun i j=>.bl (decide (j < i))):=Am fun _ _ _ _ _ _ _ q=>gt_int q
theorem CU:OpR X (compareOp .GtE) (rI0 fun i j=>.bl (decide (j<=i))):=Am fun _ _ _ _ _ _ _ q=>ge_int q
theorem uk:OpR X (compareOp .Lt) (fun x y H Q=>∃i j,x=.str i/\y=.str j/\Q (.bl (decide (i.cps.toList < j.cps.toList))) H):=by
 intro pins s σ H x y v u Q I rx ry h
 obtain ⟨i,j,rfl,rfl,q⟩:=h
 obtain ⟨t,rfl⟩:=rx
 obtain ⟨t',rfl⟩:=ry
 exact lt_str (bz I q rfl)
theorem AT:OpR X (compareOp .Is) (fun x y H Q=>y=.non/\Q (.bl (decide (x=.non))) H):=by
 intro pins s σ H x y v u Q I rx ry h
 obtain ⟨rfl,q⟩:=h
 cases ry
 refine is_none_gen (bz I q ?_)
 cases x <;> first
  | (cases rx;rfl)
  | (obtain ⟨t,rfl⟩:=rx;rfl)
theorem yz:OpR X (compareOp .IsNot) (fun x y H Q=>y=.non/\Q (.bl (!decide (x=.non))) H):=by
 intro pins s σ H x y v u Q I rx ry h
 obtain ⟨rfl,q⟩:=h
 cases ry
 refine isnot_none_gen (bz I q ?_)
 cases x <;> first
  | (cases rx;rfl)
  | (obtain ⟨t,rfl⟩:=rx;rfl)
theorem OpR.or {f:Value->Value->Sem Value}{r r':R2} (h:OpR X f r) (h':OpR X f r'):OpR X f (fun x y H Q=>r x y H Q\/r' x y H Q):=by
 intro pins s σ H x y v u Q I rx ry q
 rcases q with q | q
 .exact h pins s σ H x y v u Q I rx ry q
 .exact h' pins s σ H x y v u Q I rx ry q
theorem bi (b:Expr) {op:CmpOp} (h:op≠.In:=by decide) (h2:op≠.NotIn:=by decide):behindInMarks op b=false:=by
 have e1:(op == CmpOp.In)=false:=by cases op <;> first | rfl | exact absurd rfl h
 have e2:(op == CmpOp.NotIn)=false:=by cases op <;> first | rfl | exact absurd rfl h2
 cases b <;> simp [behindInMarks,e1,e2]
theorem iZ {op:CmpOp}{r:R2} (ho:OpR X (compareOp op) r) (ha:PE X a ta) (hb:PE X b tb) (hm:behindInMarks op b=false):PE X (.Compare a [op] [b] pos) (tOp r ta tb):=by
 intro pins s σ H Q I h
 exact wpAny_Compare1 (CL ha hb I h fun v u s2 x y H2 I2 rx ry q=>ho pins s2 σ H2 x y v u Q I2 rx ry q) hm
def hV (t:TE):TT:=fun σ H Q=>t σ H fun x H'=>∃k,x=.bl k/\Q k H'
theorem aQ {op:CmpOp}{r:R2} (ho:OpR X (compareOp op) r) (ha:PE X a ta) (hb:PE X b tb) (hm:behindInMarks op b=false):PT X (.Compare a [op] [b] pos) (hV (tOp r ta tb)):=by
 intro pins s σ H Q I h
 refine wpAny_isTrue_Compare1 (thn (ha pins s σ H _ I h) fun v s1 ⟨x,H1,I1,r1,q1⟩=>thn (hb pins s1 σ H1 _ I1 q1) fun u s2 ⟨y,H2,I2,r2,q2⟩ =>
  thn (ho pins s2 σ H2 x y v u _ I2 r1 r2 q2) fun c s3 ⟨z,H3,I3,r3,k,e,q3⟩=>?_) hm
 subst e
 cases r3
 exact wpAny_truthy_bool ⟨H3,I3,q3⟩
def rA (r r':R2) (ta tb tc:TE):TE:=fun σ H Q=>ta σ H fun x H1=>tb σ H1 fun y H2=>r x y H2 fun z H3=>∃k,z=.bl k /\
 (if k=true then tc σ H3 fun w' H4=>r' y w' H4 Q else Q (.bl false) H3)
theorem wv {op op':CmpOp}{r r':R2} (ho:OpR X (compareOp op) r) (ho':OpR X (compareOp op') r') (ha:PE X a ta) (hb:PE X b tb) (hc:PE X c tc)
  (hm:lastMarks [op,op'] [b,c]=false:=by with_unfolding_all rfl):PE X (.Compare a [op,op'] [b,c] pos) (rA r r' ta tb tc):=by
 intro pins s σ H Q I h
 refine Compare_chain (thn (ha pins s σ H _ I h) fun v s1 ⟨x,H1,I1,r1,q1⟩=>chain_link (thn (hb pins s1 σ H1 _ I1 q1) fun u s2 ⟨y,H2,I2,r2,q2⟩ =>
  thn (ho pins s2 σ H2 x y v u _ I2 r1 r2 q2) fun d s3 ⟨z,H3,I3,r3,k,e,q3⟩=>?_)) hm
 subst e
 cases r3
 refine wpAny_truthy_bool ?_
 cases k with
 | false=>exact ite_ff ⟨.bl false,H3,I3,rfl,q3⟩
 | true=>exact ite_tt (chain_last (thn (hc pins s3 σ H3 _ I3 q3) fun w' s4 ⟨z',H4,I4,r4,q4⟩=>ho' pins s4 σ H4 y z' u w' Q I4 r2 r4 q4))
theorem wx {op op':CmpOp}{r r':R2} (ho:OpR X (compareOp op) r) (ho':OpR X (compareOp op') r') (ha:PE X a ta) (hb:PE X b tb) (hc:PE X c tc)
  (hm:lastMarks [op,op'] [b,c]=false:=by with_unfolding_all rfl):PT X (.Compare a [op,op'] [b,c] pos) (hV (rA r r' ta tb tc)):=by
 intro pins s σ H Q I h
 refine isTrue_chain (thn (ha pins s σ H _ I h) fun v s1 ⟨x,H1,I1,r1,q1⟩=>test_link (thn (hb pins s1 σ H1 _ I1 q1) fun u s2 ⟨y,H2,I2,r2,q2⟩ =>
  thn (ho pins s2 σ H2 x y v u _ I2 r1 r2 q2) fun d s3 ⟨z,H3,I3,r3,k,e,q3⟩=>?_)) hm
 subst e
 cases r3
 refine wpAny_truthy_bool ?_
 cases k with
 | false =>
  obtain ⟨k',e',q'⟩:=q3
  cases e'
  exact ite_ff ⟨H3,I3,q'⟩
 | true =>
  refine ite_tt (test_last (thn (hc pins s3 σ H3 _ I3 q3) fun w' s4 ⟨z',H4,I4,r4,q4⟩=>thn (ho' pins s4 σ H4 y z' u w' _ I4 r2 r4 q4) fun d' s5 ⟨z2,H5,I5,r5,k2,e2,q5⟩=>?_))
  subst e2
  cases r5
  exact wpAny_truthy_bool ⟨H5,I5,q5⟩
theorem ma:(sizeLine:Nat) < 2 ^ 63:=by rw [sizeLine_eq];decide
theorem sA:OpR X (binaryOp .Add) (fun x y H Q=>∃i j,x=.str i/\y=.str j/\i.length + j.length<=sizeLine/\Q (.str (i++j)) H):=by
 intro pins s σ H x y v u Q I rx ry h
 obtain ⟨i,j,rfl,rfl,hz,q⟩:=h
 obtain ⟨t,rfl⟩:=rx
 obtain ⟨t',rfl⟩:=ry
 exact add_str (fun t' tk=>⟨.str (i++j),H,I.tok _,⟨_,rfl⟩,q⟩) hz
theorem hX {x:V}{us:List Value} (r:bV [x] us):∃u,us=[u]/\di x u:=by
 cases r with
 | cons r1 r2=>cases r2;exact ⟨_,rfl,r1⟩
theorem wy {x y:V}{us:List Value} (r:bV [x,y] us):∃u w',us=[u,w']/\di x u/\di y w':=by
 cases r with
 | cons r1 r2 =>
  cases r2 with
  | cons r3 r4=>cases r4;exact ⟨_,_,rfl,r1,r3⟩
theorem ul (hc:X.calm=true):bX X (.builtin "max") (fun xs H Q=>∃i j,xs=[.int i,.int j]/\Q (.int (if j > i then j else i)) H):=by
 intro pins s σ H xs us Q I r h
 obtain ⟨i,j,rfl,q⟩:=h
 obtain ⟨u,w',rfl,⟨t,rfl⟩,⟨t',rfl⟩⟩:=wy r
 refine max_two_ints (I.ok.hd hc) fun h' tk k=>⟨_,H,I.kept k,?_,q⟩
 by_cases hj:j > i
 .rw [if_pos hj,if_pos hj];exact ⟨_,rfl⟩
 .rw [if_neg hj,if_neg hj];exact ⟨_,rfl⟩
theorem um (hc:X.calm=true):bX X (.builtin "min") (fun xs H Q=>∃i j,xs=[.int i,.int j]/\Q (.int (if j < i then j else i)) H):=by
 intro pins s σ H xs us Q I r h
 obtain ⟨i,j,rfl,q⟩:=h
 obtain ⟨u,w',rfl,⟨t,rfl⟩,⟨t',rfl⟩⟩:=wy r
 refine min_two_ints (I.ok.hd hc) fun h' tk k=>⟨_,H,I.kept k,?_,q⟩
 by_cases hj:j < i
 .rw [if_pos hj,if_pos hj];exact ⟨_,rfl⟩
 .rw [if_neg hj,if_neg hj];exact ⟨_,rfl⟩
end
structure yA (h:Heap) (x dx C:Addr) (mA:Str->Option Value):Prop where
 obj:h.get? x=some (PySem.W.instObj C dx)
 ns:h.Ns1 dx mA
 ne:dx≠x
theorem uo {h:Heap}{dx:Addr}{mA:Str->Option Value} (n:h.Ns1 dx mA):∃od,h.get? dx=some od/\∀name,PySem.W.lookIn name od=some (mA name):=by
 obtain ⟨o,es,ep,ho,hd,hk,_,hm⟩:=n
 refine ⟨o,ho,fun name=>?_⟩
 have e:=hm name
 unfold nsFind findBy at e
 rw [<- Array.find?_toList] at e
 unfold PySem.W.lookIn
 rw [hd]
 dsimp only
 split
 .rename_i y q
  rw [q] at e
  exact congrArg some e
 .rename_i q
  rw [q] at e
  have a:es.toList.any (·.refKey)=false:=by
   rw [List.any_eq_false]
   intro y hy
   obtain ⟨z,t,hkey⟩:=hk y (Array.mem_toList_iff.mp hy)
   simp [DictEntry.refKey,hkey]
  have a':¬ es.toList.any (·.refKey)=true:=by rw [a];exact Bool.false_ne_true
  rw [if_neg a']
  exact congrArg some e
theorem yA.look {h:Heap}{x dx C:Addr}{mA:Str->Option Value} (I:yA h x dx C mA):∃od,PySem.W.InstAt h x (PySem.W.instObj C dx) C (some od)/\∀name,PySem.W.lookIn name od=some (mA name) :=
 let ⟨od,ho,hl⟩:=uo I.ns
 ⟨od,⟨I.obj,rfl,rfl,ho⟩,hl⟩
section
variable {prog:Program}{w:World}{A:Around}{E:Value->Shared->Prop}{s:Shared}{K:PySem.W.Frag}{x dx C f:Addr}{mA:Str->Option Value}{name:Str}{v:Value}
theorem yB {expr:Bool}{Q:Value->Shared->Prop} (X:K.In s.heap) (I:yA s.heap x dx C mA) (hg:PySem.W.plainGet K C name=true) (hh:PySem.W.hasDictIn K C=true)
  (ha:PySem.W.findIn K (.ref C) name=some none) (hv:mA name=some v) (hv':PySem.W.handedIn v=true) (h:Q v { s with toks:=s.toks + 1 }) :
  wpAny (model prog w) A (getAttr (.ref x) name expr) Q E s:=by
 obtain ⟨od,J,hl⟩:=I.look
 exact PySem.W.get_value X J (PySem.W.plainGet_of hg).1 (PySem.W.findObj_own hh ha rfl (by rw [hl,hv])) hv' h
theorem wz {pl:Sem Bool}{Q:Value×List Value->Shared->Prop} (X:K.In s.heap) (I:yA s.heap x dx C mA) (hg:PySem.W.plainGet K C name=true)
  (hf:PySem.W.findIn K (.ref C) name=some (some (.ref f))) (ht:PySem.W.isFn K (.ref f)=true) (hv:mA name=none) (h:Q (.ref f,[.ref x]) s) :
  wpAny (model prog w) A (getMethod (.ref x) name pl) Q E s:=by
 obtain ⟨od,J,hl⟩:=I.look
 exact PySem.W.method_fn X J (PySem.W.plainGet_of hg).1 (PySem.W.plainGet_of hg).2 hf (beq_iff_eq.mp ht) (by show (PySem.W.lookIn name od).map (·.isSome)=some false;rw [hl,hv];rfl) h
theorem yC {ns:List Str}{Q:Unit->Shared->Prop} (X:K.In s.heap) (I:yA s.heap x dx C mA)
  (hs:PySem.W.findIn K (.ref C) "__setattr__"=some (some (.builtin "object.__setattr__"))) (hp:PySem.W.plainOver K C=true) (ht:PySem.W.takerIn K C name=some none) (hh:PySem.W.hasDictIn K C=true)
  (hw:PySem.Within mA ns) (hsz:ns.length<=sizeLine)
  (h:∀h',yA h' x dx C (fun y=>if y=name then some v else mA y)->Heap.SameBut dx s.heap h'->Q () { s with heap:=h',toks:=s.toks + 2 }) :
  wpAny (model prog w) A (setAttr (.ref x) name v) Q E s:=by
 obtain ⟨od,J,hl⟩:=I.look
 refine PySem.W.set_plain X J hs (PySem.W.osa_open (s:={ s with toks:=s.toks + 1 }) (r:=none) X J hp ht fun b=>?_)
 obtain ⟨cd,hc,hd'⟩:=PySem.W.any_some hh
 have hx:s.heap.get? x=some ⟨.ref C,some dx,.plain,#[]⟩:=I.obj
 refine wpAny_bind (wpAny_pure (wpAny_bind (wpAny_bind (wpAny_loadPart hx (wpAny_bind (PySem.W.Looks.here (s:={ s with toks:=s.toks + 1 }) (PySem.W.looks_clsIn X hc) ?_))))))
 rw [hd']
 refine wpAny_pure (a:=some dx) (wpAny_bind (wpAny_pure (wpAny_bind ?_)))
 refine wpAny_nsSet1 (s:={ s with toks:=s.toks + 1 }) I.ns fun h' hn2 hs2=>?_
 obtain ⟨oD,esD,epD,hoD,hdD,hcD⟩:=hn2.count (PySem.Within.cons name v hw)
 refine wpAny_bind (wpAny_lookBehind hoD (by rw [hdD];exact pastItsLine_dict (Nat.le_trans hcD (by rw [List.length_cons];omega))) ?_)
 exact wpAny_pure (h _ ⟨(hs2.2 _ (Ne.symm I.ne)).trans I.obj,hn2,I.ne⟩ hs2)
theorem wA {R:Result->Shared->Prop}{vs:List Value}{kw:List (Str×Value)} (X:K.In s.heap) (hm:PySem.W.makesIn K C=true)
  (hi:PySem.W.findIn K (.ref C) "__init__"=some (some (.ref f))) (hf:PySem.W.typeIn K (.ref f)=some (.type "function"))
  (h:codeAny (model prog w) (A.under (.builtin "type.__call__" ⟨.ref C::vs,kw⟩)) (.call (.ref f) ⟨.ref (s.heap.objs.size + 1)::vs,kw⟩) (PySem.W.InitBack (s.heap.objs.size + 1) R)
   { s with heap:=(s.heap.push PySem.W.emptyDict).push (PySem.W.instObj C s.heap.objs.size) }) :
  codeAny (model prog w) A (.call (.ref C) ⟨vs,kw⟩) R s:=by
 obtain ⟨hh,g,d,t,os⟩:=s
 exact PySem.W.make_core (PySem.W.makes_of X hm) (PySem.W.looks_findIn X hi) (fun self=>PySem.W.bind_fn X self hf) (.inl rfl) h
end
def md (f:Str) (v:V):List (Str×V)->List (Str×V)
 | []=>[(f,v)]
 | (g,x)::r=>if g=f then (g,v)::r else (g,x)::md f v r
theorem j5 (f g:Str) (v:V):∀fs:List (Str×V),(md f v fs).lookup g=if g=f then some v else fs.lookup g
 | []=>by
  show List.lookup g [(f,v)]=_
  by_cases h:g=f
  .have hb:(g == f)=true:=beq_iff_eq.mpr h
   simp only [List.lookup,hb,if_pos h]
  .have hb:(g == f)=false:=beq_eq_false_iff_ne.mpr h
   simp only [List.lookup,hb,if_neg h]
 | (k,x)::r=>by
  have ih:=j5 f g v r
  rw [show md f v ((k,x)::r)=(if k=f then (k,v)::r else (k,x)::md f v r) from rfl]
  by_cases hk:k=f
  .rw [if_pos hk]
   by_cases h:g=k
   .have hb:(g == k)=true:=beq_iff_eq.mpr h
    simp only [List.lookup,hb,if_pos (h.trans hk)]
   .have hb:(g == k)=false:=beq_eq_false_iff_ne.mpr h
    simp only [List.lookup,hb,if_neg (fun e:g=f=>h (e.trans hk.symm))]
  .rw [if_neg hk]
   by_cases h:g=k
   .have hb:(g == k)=true:=beq_iff_eq.mpr h
    simp only [List.lookup,hb,if_neg (fun e:g=f=>hk (h.symm.trans e))]
   .have hb:(g == k)=false:=beq_eq_false_iff_ne.mpr h
    simp only [List.lookup,hb]
    exact ih
theorem j6 (f:Str) (v:V):∀fs:List (Str×V),f∈(md f v fs).map (·.1)/\∀g,g∈fs.map (·.1)->g∈(md f v fs).map (·.1)
 | []=>⟨by simp [md],fun g h=>by simp at h⟩
 | (k,x)::r=>by
  obtain ⟨i1,i2⟩:=j6 f v r
  rw [show md f v ((k,x)::r)=(if k=f then (k,v)::r else (k,x)::md f v r) from rfl]
  by_cases hk:k=f
  .rw [if_pos hk]
   subst hk
   exact ⟨by simp,fun g h=>by simpa using h⟩
  .rw [if_neg hk]
   refine ⟨?_,fun g h=>?_⟩
   .rw [List.map_cons]
    exact List.mem_cons_of_mem _ i1
   .rw [List.map_cons] at h ⊢
    rcases List.mem_cons.mp h with e | e
    .exact List.mem_cons.mpr (.inl e)
    .exact List.mem_cons_of_mem _ (i2 g e)
theorem j7 (f:Str) (v:V):∀fs:List (Str×V),(md f v fs).length<=fs.length + 1
 | []=>by simp [md]
 | (k,x)::r=>by
  have ih:=j7 f v r
  rw [show md f v ((k,x)::r)=(if k=f then (k,v)::r else (k,x)::md f v r) from rfl]
  by_cases hk:k=f
  .rw [if_pos hk,List.length_cons,List.length_cons];omega
  .rw [if_neg hk,List.length_cons,List.length_cons];omega
theorem tV.some_of {v:V}{o:Option Value} (r:tV (some v) o):∃u,o=some u/\di v u:=by
 cases o with
 | none=>exact (show False from r).elim
 | some u=>exact ⟨u,rfl,r⟩
theorem tV.none_of {o:Option Value} (r:tV none o):o=none:=by
 cases o with
 | none=>rfl
 | some u=>exact (show False from r).elim
theorem uq {v:V}{u:Value} (r:di v u):PySem.W.handedIn u=true:=by
 cases v with
 | non=>cases (show u=Value.none from r);rfl
 | bl b=>cases (show u=Value.bool b from r);rfl
 | int i=>obtain ⟨t,e⟩:=(show ∃t,u=Value.int i t from r);cases e;rfl
 | str x=>obtain ⟨t,e⟩:=(show ∃t,u=Value.str x t from r);cases e;rfl
 | byt b=>obtain ⟨t,e⟩:=(show ∃t,u=Value.bytes b t from r);cases e;rfl
 | flt b=>obtain ⟨t,e⟩:=(show ∃t,u=Value.float b t from r);cases e;rfl
 | ref a=>cases (show u=Value.ref a from r);rfl
 | ty n=>cases (show u=Value.type n from r);rfl
section
variable {P:Program}{w:World}{H H':Hp}{h h':Heap}{a C dx:Addr}{fs fs':List (Str×V)}
theorem j8 (hok:HOk P w H h) (e:H a=some (.ins C dx fs)):∃mA,yA h a dx C mA/\(∀f,tV (fs.lookup f) (mA f))/\PySem.Within mA (fs.map (·.1))/\fs.length<=1000/\H dx=some (.own a):=by
 obtain ⟨d,z,ne,ob,mA,n,r,q⟩:=(show cr P w H h a (.ins C dx fs) from hok a _ e)
 exact ⟨mA,⟨ob,n,ne⟩,r,q,z,d⟩
end
structure Cls (K:PySem.W.Frag) (C:Addr):Prop where
 pg:PySem.W.plainGet K C Str.empty=true
 hd:PySem.W.hasDictIn K C=true
 po:PySem.W.plainOver K C=true
 sa:PySem.W.findIn K (.ref C) "__setattr__"=some (some (.builtin "object.__setattr__"))
theorem Cls.get {K:PySem.W.Frag}{C:Addr} (c:Cls K C) (f:Str):PySem.W.plainGet K C f=true:=c.pg
def er (K:PySem.W.Frag) (C:Addr) (f:Str):Prop:=PySem.W.findIn K (.ref C) f=some none
theorem er.taker {K:PySem.W.Frag}{C:Addr}{f:Str} (n:er K C f):PySem.W.takerIn K C f=some none:=by
 unfold PySem.W.takerIn
 rw [show PySem.W.findIn K (.ref C) f=some none from n]
 rfl
structure Cz (K:PySem.W.Frag) (C:Addr) (m:Str) (f:Addr):Prop where
 at_:PySem.W.findIn K (.ref C) m=some (some (.ref f))
 fn:PySem.W.isFn K (.ref f)=true
 kp:PySem.W.keepIn K (.ref f)=true
section
variable {X:Cx}{pins:List (Addr×Obj)}{σ:St}{H:Hp}{s:Shared}{a C dx:Addr}{fs:List (Str×V)}{f:Str}{v:V}{A:Around}{E:Value->Shared->Prop}
theorem sB {b:Bool}{Q:Value->Shared->Prop} (I:Inv X pins σ H s) (e:H a=some (.ins C dx fs)) (c:Cls X.K C) (n:er X.K C f) (l:fs.lookup f=some v)
  (h:∀u s',Inv X pins σ H s'->di v u->Q u s'):wpAny (model X.prog X.w) A (getAttr (.ref a) f b) Q E s:=by
 obtain ⟨mA,O,r,_,_,_⟩:=j8 I.hok e
 obtain ⟨u,hu,ru⟩:=tV.some_of (v:=v) (o:=mA f) (by rw [<- l];exact r f)
 exact yB I.kIn O (c.get f) c.hd n hu (uq ru) (h u _ (I.tok _) ru)
theorem sC {m:Str}{g:Addr}{pl:Sem Bool}{Q:Value×List Value->Shared->Prop} (I:Inv X pins σ H s) (e:H a=some (.ins C dx fs)) (c:Cls X.K C) (k:Cz X.K C m g) (l:fs.lookup m=none)
  (h:Q (.ref g,[.ref a]) s):wpAny (model X.prog X.w) A (getMethod (.ref a) m pl) Q E s:=by
 obtain ⟨mA,O,r,_,_,_⟩:=j8 I.hok e
 have hn:mA m=none:=tV.none_of (by rw [<- l];exact r m)
 exact wz I.kIn O (c.get m) k.at_ k.fn hn h
theorem sD {y:V}{u:Value}{Q:Unit->Shared->Prop} (I:Inv X pins σ H s) (e:H a=some (.ins C dx fs)) (c:Cls X.K C) (n:er X.K C f) (hl:fs.length < 1000) (ry:di y u)
  (h:∀s',Inv X pins σ (upd H a (.ins C dx (md f y fs))) s'->Q () s'):wpAny (model X.prog X.w) A (setAttr (.ref a) f u) Q E s:=by
 obtain ⟨mA,O,r,wi,_,ho⟩:=j8 I.hok e
 have hz:(fs.map (·.1)).length<=sizeLine:=by rw [List.length_map,sizeLine_eq];omega
 refine yC I.kIn O c.sa c.po n.taker c.hd wi hz fun h' O' sb=>h _ ?_
 have hd:∃o,h'.get? dx=some o:=let ⟨o,_,_,e',_⟩:=O'.ns;⟨o,e'⟩
 refine I.write (x:=a) (e:=dx) (by rw [e];exact True.intro) (.inr ho) (fun b q hb z=>(sb.2 b hb).trans z) hd ?_
 refine ⟨by rw [au O.ne];exact ho,?_,O.ne,O'.obj,_,O'.ns,fun g=>?_,fun g hg=>?_⟩
 .have:=j7 f y fs;omega
 .show tV ((md f y fs).lookup g) (if g=f then some u else mA g)
  rw [j5]
  by_cases q:g=f
  .rw [if_pos q,if_pos q];exact ry
  .rw [if_neg q,if_neg q];exact r g
 .by_cases q:g=f
  .rw [q];exact (j6 f y fs).1
  .refine (j6 f y fs).2 g (wi g fun z=>hg ?_)
   show (if g=f then some u else mA g)=none
   rw [if_neg q];exact z
theorem Inv.made (I:Inv X pins σ H s):Inv X pins σ (upd (upd H s.heap.objs.size (.own (s.heap.objs.size + 1))) (s.heap.objs.size + 1) (.ins C s.heap.objs.size []))
  { s with heap:=(s.heap.push PySem.W.emptyDict).push (PySem.W.instObj C s.heap.objs.size) }:=by
 have e1:(s.heap.push PySem.W.emptyDict).get? s.heap.objs.size=some PySem.W.emptyDict:=Heap.get?_push_size s.heap rfl
 have e2:((s.heap.push PySem.W.emptyDict).push (PySem.W.instObj C s.heap.objs.size)).get? (s.heap.objs.size + 1)=some (PySem.W.instObj C s.heap.objs.size):=by
  have:=Heap.get?_push_size (s.heap.push PySem.W.emptyDict) (o:=PySem.W.instObj C s.heap.objs.size) rfl
  rwa [Heap.size_push] at this
 have e3:(s.heap.push PySem.W.emptyDict).Ns s.heap.objs.size (fun _=>none):=⟨PySem.W.emptyDict,#[],_,e1,rfl,(fun e he=>absurd he (by simp)),fun _=>rfl⟩
 have I1:=I.laid (a:=s.heap.objs.size) (o:=.own (s.heap.objs.size + 1)) (h':=s.heap.push PySem.W.emptyDict) (t':=s.toks) (fun b u q=>Heap.get?_push_of_some _ q) (Nat.le_refl _) ⟨_,e1⟩
 refine I1.laid (a:=s.heap.objs.size + 1) (o:=.ins C s.heap.objs.size []) (t':=s.toks) (fun b u q=>Heap.get?_push_of_some _ q) (Nat.le_of_eq (Heap.size_push _ _)) ?_
 have ne:s.heap.objs.size≠s.heap.objs.size + 1:=Nat.ne_of_lt (Nat.lt_succ_self _)
 refine ⟨by rw [au ne,aE],Nat.zero_le _,ne,e2,fun _=>none,(Heap.Ns1.of_empty e3).at fun o q=>Heap.get?_push_of_some _ q,fun _=>True.intro,fun y hy=>absurd rfl hy⟩
theorem yD {prog:Program}{w:World}{env:Env}{e:Expr}{f:Str}{pos:Pos}{s:Shared}{Q:Value->Shared->Prop} (hb:attributeBase e f env (eval e env)=eval e env)
  (h:wpAny (model prog w) A (eval e env) (fun o s₁=>wpAny (model prog w) A (getAttr o f true) Q E s₁) E s):wpAny (model prog w) A (eval (.Attribute e f pos) env) Q E s :=
 Attribute_any_ h (by rw [arm_eval_Attribute,hb])
end
def sE (K:PySem.W.Frag) (ta:TE) (f:Str):TE:=fun σ H Q=>ta σ H fun x H1=>∃a C dx fs v,x=.ref a/\H1 a=some (.ins C dx fs)/\Cls K C/\er K C f/\fs.lookup f=some v/\Q v H1
def DJ (K:PySem.W.Frag) (ta tv:TE) (f:Str):TS:=fun D σ H=>tv σ H fun y H1=>ta σ H1 fun x H2=>∃a C dx fs,x=.ref a/\H2 a=some (.ins C dx fs)/\Cls K C/\er K C f/\fs.length < 1000 /\
 D.nx σ (upd H2 a (.ins C dx (md f y fs)))
section
variable {X:Cx}{o e value:Expr}{f:Str}{pos pos' tpos:Pos}{ta tv:TE}
theorem AU (he:PE X e ta) (hb:attributeBase e f X.env (eval e X.env)=eval e X.env):PE X (.Attribute e f pos) (sE X.K ta f):=by
 intro pins s σ H Q I h
 refine yD hb (thn (he pins s σ H _ I h) fun u s1 ⟨x,H1,I1,rx,a,C,dx,fs,v,ex,ea,c,n,l,q⟩=>?_)
 subst ex
 obtain rfl:u=Value.ref a:=rx
 exact sB I1 ea c n l fun u' s2 I2 ru=>⟨v,H1,I2,ru,q⟩
theorem me (ha:PE X o ta) (hv:PE X value tv) (hs:swapsWith value (some (.Attribute o f pos')) pos.line X.env=pure false):PS X (.Assign [.Attribute o f pos'] value pos) (DJ X.K ta tv f):=by
 intro pins s σ H D I h
 refine plainObj_wpAny_Assign_Attribute (thn (hv pins s σ H _ I h) fun u s1 ⟨y,H1,I1,ry,q⟩=>thn (ha pins s1 σ H1 _ I1 q) fun ov s2 ⟨x,H2,I2,rx,a,C,dx,fs,ex,ea,c,n,l,q2⟩=>?_) hs
 subst ex
 obtain rfl:ov=Value.ref a:=rx
 exact sD I2 ea c n l ry fun s3 I3=>⟨σ,_,I3,q2⟩
end
section
variable {X:Cx}{pins:List (Addr×Obj)}{σ:St}{H:Hp}{s:Shared}{A:Around}{E:Value->Shared->Prop}{Q:Value->Shared->Prop}{c:Value}{b:Bool}
inductive om (K:PySem.W.Frag) (H:Hp):V->Value->Prop where
 | non:om K H .non (.type "NoneType")
 | bl (x:Bool):om K H (.bl x) (.type "bool")
 | int (i:Int):om K H (.int i) (.type "int")
 | str (x:Str):om K H (.str x) (.type "str")
 | flt (x:UInt64):om K H (.flt x) (.type "float")
 | lst {a:Addr}{xs:List V} (e:H a=some (.lst xs)):om K H (.ref a) (.type "list")
 | frz {a:Addr}{o:Obj}{xs:List V} (e:H a=some (.frz o (.lst xs))):om K H (.ref a) (.type "list")
 | tup {a:Addr}{xs:List V} (e:H a=some (.tup xs)):om K H (.ref a) (.type "tuple")
 | dK {a:Addr}{kvs:List (Key×V)} (e:H a=some (.dK kvs)):om K H (.ref a) (.type "dict")
 | dT {a:Addr}{kvs:List (List Key×V)} (e:H a=some (.dT kvs)):om K H (.ref a) (.type "dict")
 | ins {a C dx:Addr}{fs:List (Str×V)} (e:H a=some (.ins C dx fs)) (cl:Cls K C) (ha:PySem.W.findIn K (.ref C) "__class__"=some (some (.builtin "object.__class__")))
   (hn:PySem.W.specialIn K (.builtin "object.__class__") "__get__"=some (some (.builtin "getset_descriptor.__get__"))) (htk:PySem.W.takesIn K (.builtin "object.__class__")=some true)
   (hm:PySem.W.mroIn K C (.type "object")=some true):om K H (.ref a) (.ref C)
theorem ur {x:V}{u t:Value} (I:Inv X pins σ H s) (rx:di x u) (ty:om X.K H x t) (e:PySem.W.kitOne X.K t c=some b) (h:∀tk,Q (.bool b) { s with toks:=tk }) :
  wpAny (model X.prog X.w) A (call (.builtin "isinstance") [u,c]) Q E s:=by
 cases ty with
 | non=>cases (show u=Value.none from rx);exact PySem.W.kia_one PySem.W.kitx_none I.kIn True.intro e (fun z=>nomatch z) h
 | bl y=>cases (show u=Value.bool y from rx);exact PySem.W.kia_one PySem.W.kitx_bool I.kIn True.intro e (fun z=>nomatch z) h
 | int i=>obtain ⟨t,q⟩:=(show ∃t,u=Value.int i t from rx);cases q;exact PySem.W.kia_one PySem.W.kitx_int I.kIn True.intro e (fun z=>nomatch z) h
 | str y=>obtain ⟨t,q⟩:=(show ∃t,u=Value.str y t from rx);cases q;exact PySem.W.kia_one PySem.W.kitx_str I.kIn True.intro e (fun z=>nomatch z) h
 | flt y=>obtain ⟨t,q⟩:=(show ∃t,u=Value.float y t from rx);cases q;exact PySem.W.kia_one PySem.W.kitx_float I.kIn True.intro e (fun z=>nomatch z) h
 | @lst a xs ea =>
  cases (show u=Value.ref a from rx)
  obtain ⟨_,_,n,_,h1⟩:=(show cr X.prog X.w H s.heap a (.lst xs) from I.hok a _ ea)
  exact PySem.W.kia_one PySem.W.kitx_list I.kIn ⟨_,h1,rfl⟩ e (fun z=>nomatch z) h
 | @frz a ob xs ea =>
  cases (show u=Value.ref a from rx)
  obtain ⟨_,_,_,n,_,h1⟩:=(show cr X.prog X.w H s.heap a (.frz ob (.lst xs)) from I.hok a _ ea)
  exact PySem.W.kia_one PySem.W.kitx_list I.kIn ⟨_,h1,rfl⟩ e (fun z=>nomatch z) h
 | @tup a xs ea =>
  cases (show u=Value.ref a from rx)
  obtain ⟨_,_,_,p⟩:=(show cr X.prog X.w H s.heap a (.tup xs) from I.hok a _ ea)
  obtain ⟨o,h1,h2,_⟩:=p
  exact PySem.W.kia_one PySem.W.kitx_tuple I.kIn ⟨o,h1,h2⟩ e (fun z=>nomatch z) h
 | @dK a kvs ea =>
  cases (show u=Value.ref a from rx)
  obtain ⟨_,_,vs,_,p⟩:=(show cr X.prog X.w H s.heap a (.dK kvs) from I.hok a _ ea)
  obtain ⟨o,es,ep,h1,h2,_⟩:=p
  exact PySem.W.kia_one PySem.W.kitx_dict I.kIn ⟨o,h1,h2.1⟩ e (fun z=>nomatch z) h
 | @dT a kvs ea =>
  cases (show u=Value.ref a from rx)
  obtain ⟨_,_,xs,_,o,es,ep,h1,h2,_⟩:=(show cr X.prog X.w H s.heap a (.dT kvs) from I.hok a _ ea)
  exact PySem.W.kia_one PySem.W.kitx_dict I.kIn ⟨o,h1,h2.1⟩ e (fun z=>nomatch z) h
 | @ins a C dx fs ea cl ha hn htk hm =>
  cases (show u=Value.ref a from rx)
  obtain ⟨mA,O,_⟩:=j8 I.hok ea
  obtain ⟨od,J,_⟩:=O.look
  exact PySem.W.kia_one (PySem.W.kitx_own (cl.get _) cl.hd ha hn htk hm) I.kIn J e (fun z=>nomatch z) h
end
structure fR (k:Nat) (A:Around):Prop where
 hd:A.handled=none
 dp:A.depth + 3 * k + 5 < recursionLimit
 un:A.units + 16 * k + 200 < cLine
theorem fR.mono {j k:Nat}{A:Around} (r:fR k A) (h:j<=k):fR j A:=⟨r.hd,by have:=r.dp;omega,by have:=r.un;omega⟩
theorem fR.deeper {k:Nat}{A:Around} (r:fR (k + 1) A) (env:Env):fR k (A.deeper env) :=
 ⟨r.hd,by have:=r.dp;show A.depth + 1 + 3 * k + 5 < _;omega,by have:=r.un;show A.units + 3 + 16 * k + 200 < _;omega⟩
theorem sF {A:Around}{C:Addr}{us:List Value}{kw:List (Str×Value)}:(A.under (.builtin "type.__call__" ⟨.ref C::us,kw⟩)).depth=A.depth + 1:=by
 first | rfl | simp [Around.under,Code.weight,Code.isCreation,Code.isGuard,Code.isCaller,Code.frames,Code.isFrame,guardIds]
theorem sG {A:Around}{C:Addr}{us:List Value}{kw:List (Str×Value)}:(A.under (.builtin "type.__call__" ⟨.ref C::us,kw⟩)).units=A.units + 1:=by
 first | rfl | simp [Around.under,Code.cUnits,Code.frames,Code.isFrame]
theorem fR.make {k:Nat}{A:Around} (r:fR (k + 1) A) (C:Addr) (us:List Value) (kw:List (Str×Value)):fR k (A.under (.builtin "type.__call__" ⟨.ref C::us,kw⟩)) :=
 ⟨r.hd,by have:=r.dp;rw [sF];omega,by have:=r.un;rw [sG];omega⟩
theorem fR.depth {k:Nat}{A:Around} (r:fR k A):A.depth < recursionLimit:=by have:=r.dp;omega
theorem fR.units {k:Nat}{A:Around} (r:fR k A):A.units + 64 < cLine:=by have:=r.un;omega
def eM:TA:=fun _ H Q=>Q [] H
def bp (ta:TE) (tr:TA):TA:=fun σ H Q=>ta σ H fun x H1=>tr σ H1 fun xs H2=>Q (x::xs) H2
section
variable {X:Cx}{e:Expr}{es:List Expr}{te:TE}{t:TA}{pos:Pos}
theorem ag:PA X [] eM:=fun _ _ _ _ H Q I h=>Calls.spliced_nil ⟨[],H,I,.nil,h⟩
theorem yE (ha:PE X e te) (hr:PA X es t) (hs:starEach (e::es) X.env=(false,eval e X.env)::starEach es X.env:=by rfl):PA X (e::es) (bp te t):=by
 intro pos pins s σ H Q I h
 rw [hs]
 show wpAny _ _ (spliced ((false,eval e X.env)::backTo pos (starEach es X.env))) _ _ s
 refine Calls.spliced_cons (thn (ha pins s σ H _ I h) fun u s1 ⟨x,H1,I1,r1,q1⟩=>?_)
 exact thn (hr pos pins s1 σ H1 _ I1 q1) fun us s2 ⟨xs,H2,I2,r2,q2⟩=>⟨x::xs,H2,I2,.cons r1 r2,q2⟩
def CV (t:TA):TE:=fun σ H Q=>t σ H fun xs H1=>xs.length<=sizeLine/\∀p,H1 p=none->Q (.ref p) (upd H1 p (.tup xs))
def CA (t:TA):TE:=fun σ H Q=>t σ H fun xs H1=>xs.length<=sizeLine/\∀p,H1 p=none->Q (.ref p) (upd H1 p (.lst xs))
theorem ju {x1} (h:PA X es t):PE X (.Tuple es x1 pos) (CV t):=by
 intro pins s σ H Q I hq
 refine wpAny_Tuple_spliced (thn (h pos pins s σ H _ I hq) fun us s1 ⟨xs,H1,I1,r,z,q⟩=>⟨by rw [<- r.length];exact z,?_⟩)
 have hf:H1 s1.heap.objs.size=none:=I1.hok.fresh (Nat.le_refl _)
 refine ⟨.ref s1.heap.objs.size,upd H1 s1.heap.objs.size (.tup xs),I1.laid (t':=s1.toks) (fun b u e=>Heap.get?_push_of_some _ e) (Nat.le_refl _) ?_,rfl,q _ hf⟩
 exact ⟨z,us,r,⟨_,Heap.get?_push_size _ rfl,rfl,_,rfl⟩⟩
theorem bq (h:PA X es t):PE X (.List es pos) (CA t):=by
 intro pins s σ H Q I hq
 refine wpAny_List_spliced (thn (h pos pins s σ H _ I hq) fun us s1 ⟨xs,H1,I1,r,z,q⟩=>⟨by rw [<- r.length];exact z,?_⟩)
 have hf:H1 s1.heap.objs.size=none:=I1.hok.fresh (Nat.le_refl _)
 refine ⟨.ref s1.heap.objs.size,upd H1 s1.heap.objs.size (.lst xs),I1.laid (t':=s1.toks) (fun b u e=>Heap.get?_push_of_some _ e) (Nat.le_refl _) ?_,rfl,q _ hf⟩
 exact ⟨z,us,0,r,Heap.get?_push_size _ rfl⟩
end
abbrev Sp:=List V->Hp->VK->XK->Prop
abbrev CXT:=List Env->Hp->Shared->XK->Value->Shared->Prop
structure yF (P:Program) (w:World) (K:PySem.W.Frag) (mg:Str->Option Value) (base:Heap) (A:Around) (outer:List Env) (s:Shared) (H:Hp):Prop where
 frames:A.frames=some outer
 mod:Mod K mg base
 bs:∀b o,base.get? b=some o->s.heap.get? b=some o/\H b=none
 bsz:base.objs.size<=s.heap.objs.size
 funs:s.heap.FunFrames base outer
 frf:∀b∈frs outer,H b=none
 hok:HOk P w H s.heap
 bare:AllBare s.gens
def CE (outer:List Env) (P:Program) (w:World) (H:Hp) (s:Shared) (Q:VK) (u:Value) (s':Shared):Prop :=
 ∃v H',s'.os=s.os/\AllBare s'.gens/\Un (frs outer) [] H H' s.heap s'.heap/\HOk P w H' s'.heap/\di v u/\Q v H'
def CR (CX:CXT) (outer:List Env) (P:Program) (w:World) (H:Hp) (s:Shared) (Q:VK) (E:XK) (r:Result) (s':Shared):Prop :=
 match r with
 | .ok (.ret u)=>CE outer P w H s Q u s'
 | .ok _=>False
 | .error e=>CX outer H s E e s'
structure mf (P:Program) (w:World) (K:PySem.W.Frag) (mg:Str->Option Value) (base:Heap) (CX:CXT) (k:Nat) (f:Addr) (fd:FuncData) (ps:List Str) (sp:Sp):Prop where
 len:∀vs H Q E,sp vs H Q E->vs.length=ps.length
 run:∀(A:Around) (outer:List Env) (s:Shared) (H:Hp) (args:Args) (us:List Value) (vs:List V) (Q:VK) (E:XK),fR k A->yF P w K mg base A outer s H->BindsTo s fd args (ps.zip us)->bV vs us->sp vs H Q E ->
  codeAny (model P w) A (.call (.ref f) args) (CR CX outer P w H s Q E) s
theorem mf.imp {P:Program}{w:World}{K:PySem.W.Frag}{mg:Str->Option Value}{base:Heap}{CX:CXT}{k:Nat}{f:Addr}{fd:FuncData}{ps:List Str}{sp sp':Sp} (F:mf P w K mg base CX k f fd ps sp)
  (h:∀vs H Q E,sp' vs H Q E->sp vs H Q E):mf P w K mg base CX k f fd ps sp' :=
 ⟨fun vs H Q E q=>F.len vs H Q E (h _ _ _ _ q),fun A outer s H args us vs Q E hr he hb hv hs=>F.run A outer s H args us vs Q E hr he hb hv (h _ _ _ _ hs)⟩
theorem yF.make {P:Program}{w:World}{K:PySem.W.Frag}{mg:Str->Option Value}{base:Heap}{A:Around}{outer:List Env}{s:Shared}{H:Hp} (e:yF P w K mg base A outer s H) (C:Addr) (us:List Value) (kw:List (Str×Value)) :
  yF P w K mg base (A.under (.builtin "type.__call__" ⟨.ref C::us,kw⟩)) outer s H:=⟨by first | exact e.frames | (simpa [Around.under,Code.envs,Code.isFrame,pushEnvs] using e.frames),e.mod,e.bs,e.bsz,e.funs,e.frf,e.hok,e.bare⟩
section
variable {X:Cx}{pins:List (Addr×Obj)}{σ:St}{H:Hp}{s s':Shared}
theorem Inv.env0 (I:Inv X pins σ H s):yF X.prog X.w X.K X.mg X.base X.A X.stack s H :=
 ⟨I.ok.frames,I.ok.mod,I.bs,Nat.le_trans I.ok.bsz I.sz,I.stack,I.stkFree,I.hok,I.bare⟩
theorem Inv.after {Q:VK}{u:Value} (I:Inv X pins σ H s) (h:CE X.stack X.prog X.w H s Q u s'):EP X pins σ Q u s':=by
 obtain ⟨v,H',os,bare,un,hok,r,q⟩:=h
 obtain ⟨hh,g,d,t,os'⟩:=s'
 obtain rfl:os'=s.os:=os
 exact ⟨v,H',I.call (h':=hh) (g':=g) (d':=d) (t':=t) (ch:=[]) un hok bare (fun b z=>absurd z (by simp)),r,q⟩
end
def eN (sp:Sp) (dvs:List V) (E:XK) (t:TA):TE:=fun σ H Q=>t σ H fun vs H1=>sp (vs++dvs) H1 Q E
def yG (C:Addr) (m:Str) (sp:Sp) (dvs:List V) (E:XK) (ta:TE) (t:TA):TE:=fun σ H Q=>ta σ H fun x H1=>∃a dx fs,x=.ref a/\H1 a=some (.ins C dx fs)/\fs.lookup m=none /\
 t σ H1 fun vs H2=>sp (x::(vs++dvs)) H2 Q E
def wB (C:Addr) (sp:Sp) (dvs:List V) (E:XK) (t:TA):TE:=fun σ H Q=>t σ H fun vs H1=>∀x dx,H1 x=none->H1 dx=none->dx≠x ->
 sp (.ref x::(vs++dvs)) (upd (upd H1 dx (.own x)) x (.ins C dx [])) (fun v H2=>v=.non/\Q (.ref x) H2) E
def i3 (K:PySem.W.Frag) (fd:FuncData) (ps:List Str) (ds:List Value):Prop :=
 ∀(s:Shared) (us:List Value),K.In s.heap->(us++ds).length=ps.length->BindsTo s fd ⟨us,[]⟩ (ps.zip (us++ds))
theorem i3.all {K:PySem.W.Frag}{fd:FuncData}{ps:List Str} (h:∀us:List Value,us.length=ps.length->bindArgs fd ⟨us,[]⟩=pure (ps.zip us)):i3 K fd ps []:=fun s us _ hl=>by
 rw [List.append_nil] at hl ⊢
 exact .of_eq (h us hl)
def mh (CX:CXT) (X:Cx) (E:XK):Prop:=∀(pins:List (Addr×Obj)) (σ:St) (H:Hp) (s:Shared) (e:Value) (s':Shared),Inv X pins σ H s->CX X.stack H s E e s'->X.xe e s'
section
variable {X:Cx}{CX:CXT}{k:Nat}{f C:Addr}{fd:FuncData}{ps:List Str}{sp:Sp}{dvs:List V}{ds:List Value}{E:XK}{x m:Str}{p pos apos:Pos}{e o:Expr}{es:List Expr}{ta:TE}{t:TA}
theorem xN {pins:List (Addr×Obj)}{σ:St}{H:Hp}{s:Shared}{Q:VK}{us:List Value}{vs:List V} (F:mf X.prog X.w X.K X.mg X.base CX k f fd ps sp) (hr:fR k X.A) (hb:i3 X.K fd ps ds) (hd:bV dvs ds) (hx:mh CX X E)
  (I:Inv X pins σ H s) (r:bV vs us) (h:sp (vs++dvs) H Q E):wpAny (model X.prog X.w) X.A (call (.ref f) us) (EP X pins σ Q) X.xe s:=by
 have r2:bV (vs++dvs) (us++ds):=r.append hd
 have hl:(us++ds).length=ps.length:=by rw [<- r2.length];exact F.len _ _ _ _ h
 refine wpAny_call (codeAny_mono (F.run X.A X.stack s H ⟨us,[]⟩ (us++ds) (vs++dvs) Q E hr I.env0 (hb s us I.kIn hl) r2 h) fun r s' hq=>?_)
 cases r with
 | error e=>exact hx pins σ H s e s' I hq
 | ok fl =>
  cases fl with
  | ret u=>exact I.after hq
  | next=>exact False.elim hq
  | brk=>exact False.elim hq
  | cont=>exact False.elim hq
theorem ut (F:mf X.prog X.w X.K X.mg X.base CX k f fd ps sp) (hr:fR k X.A) (hg:Gl X x) (hm:X.mg x=some (.ref f)) (hk:PySem.W.keepIn X.K (.ref f)=true) (hb:i3 X.K fd ps ds) (hd:bV dvs ds) (hx:mh CX X E)
  (ha:PA X (e::es) t) (hdb:(x == ("__debug__":Str))=false:=by decide) (he:starEach (e::es) X.env=(false,eval e X.env)::starEach es X.env:=by rfl) (hpl:(backTo pos (starEach es X.env)).any (·.1)=false:=by rfl) :
  PE X (.Call (.Name x p) (e::es) [] pos) (eN sp dvs E t):=by
 intro pins s σ H Q I h
 refine wpAny_Call_Name_kw (qk I hg hm ?_ hdb)
 refine PySem.W.callWith_K (h₀:=X.base) I.ok.mod.kin hk (thn (ha pos pins s σ H _ I h) fun us s1 ⟨vs,H1,I1,r,q⟩=>⟨I1.kIn,?_⟩) he hpl
 exact xN F hr hb hd hx I1 r q
theorem wC {pl:Sem Bool} (he:PE X o ta) (c:Cls X.K C) (hm:Cz X.K C m f) (F:mf X.prog X.w X.K X.mg X.base CX k f fd ps sp) (hr:fR k X.A) (hb:i3 X.K fd ps ds) (hd:bV dvs ds) (hx:mh CX X E)
  (ht:eval (.Call (.Attribute o m apos) [] [] pos) X.env=(do
   let ov <- eval o X.env
   standAt apos.atName
   let (f,first) <- holding [ov] (getMethod ov m pl)
   callWith pos f first (backTo pos (starEach [] X.env)) (backToKw pos (keywordEach [] X.env))):=by rfl) :
  PE X (.Call (.Attribute o m apos) [] [] pos) (yG C m sp dvs E ta eM):=by
 intro pins s σ H Q I h
 refine PySem.W.methodCall_KW (pl:=pl) (thn (he pins s σ H _ I h) fun u s1 ⟨x,H1,I1,rx,a,dx,fs,ex,ea,l,q⟩=>?_) ht
 subst ex
 obtain rfl:u=Value.ref a:=rx
 refine sC I1 ea c hm l ?_
 exact PySem.W.callWith_K0 (first:=[.ref a]) I1.kIn hm.kp (xN (us:=[.ref a]) (vs:=[.ref a]) F hr hb hd hx I1 (.cons rfl .nil) q)
structure Mk (K:PySem.W.Frag) (C f:Addr):Prop where
 makes:PySem.W.makesIn K C=true
 init:PySem.W.findIn K (.ref C) "__init__"=some (some (.ref f))
 fn:PySem.W.isFn K (.ref f)=true
 kp:PySem.W.keepIn K (.ref C)=true
theorem wD {pins:List (Addr×Obj)}{σ:St}{H:Hp}{s:Shared}{Q:VK}{us:List Value}{vs:List V} (M:Mk X.K C f) (F:mf X.prog X.w X.K X.mg X.base CX k f fd ps sp) (hr:fR (k + 1) X.A) (hb:i3 X.K fd ps ds) (hd:bV dvs ds)
  (hx:mh CX X E) (I:Inv X pins σ H s) (r:bV vs us)
  (h:∀x dx,H x=none->H dx=none->dx≠x->sp (.ref x::(vs++dvs)) (upd (upd H dx (.own x)) x (.ins C dx [])) (fun v H2=>v=.non/\Q (.ref x) H2) E) :
  wpAny (model X.prog X.w) X.A (call (.ref C) us) (EP X pins σ Q) X.xe s:=by
 have hq:=h (s.heap.objs.size + 1) s.heap.objs.size (I.hok.fresh (Nat.le_succ _)) (I.hok.fresh (Nat.le_refl _)) (Nat.ne_of_lt (Nat.lt_succ_self _))
 have I2:=Inv.made (C:=C) I
 have r2:bV (V.ref (s.heap.objs.size + 1)::(vs++dvs)) (Value.ref (s.heap.objs.size + 1)::(us++ds)):=.cons rfl (r.append hd)
 have hl:(Value.ref (s.heap.objs.size + 1)::us++ds).length=ps.length:=by
  have e:=r2.length
  rw [F.len _ _ _ _ hq] at e
  exact e.symm
 refine wpAny_call (wA (f:=f) I.kIn M.makes M.init (beq_iff_eq.mp M.fn) (codeAny_mono (F.run _ X.stack _ _ ⟨Value.ref (s.heap.objs.size + 1)::us,[]⟩ (Value.ref (s.heap.objs.size + 1)::(us++ds)) _ _ E (hr.make C us [])
  (I2.env0.make C us []) (hb _ (Value.ref (s.heap.objs.size + 1)::us) I2.kIn hl) r2 hq) fun r s' hq'=>?_))
 cases r with
 | error e=>exact hx pins σ _ _ e s' I2 hq'
 | ok fl =>
  cases fl with
  | ret u =>
   obtain ⟨v,H',I3,rv,ev,q3⟩:=I2.after hq'
   subst ev
   exact ⟨rv,⟨V.ref (s.heap.objs.size + 1),H',I3,rfl,q3⟩⟩
  | next=>exact False.elim hq'
  | brk=>exact False.elim hq'
  | cont=>exact False.elim hq'
theorem yH (M:Mk X.K C f) (F:mf X.prog X.w X.K X.mg X.base CX k f fd ps sp) (hr:fR (k + 1) X.A) (hg:Gl X x) (hm:X.mg x=some (.ref C)) (hb:i3 X.K fd ps ds) (hd:bV dvs ds) (hx:mh CX X E)
  (ha:PA X (e::es) t) (hdb:(x == ("__debug__":Str))=false:=by decide) (he:starEach (e::es) X.env=(false,eval e X.env)::starEach es X.env:=by rfl) (hpl:(backTo pos (starEach es X.env)).any (·.1)=false:=by rfl) :
  PE X (.Call (.Name x p) (e::es) [] pos) (wB C sp dvs E t):=by
 intro pins s σ H Q I h
 refine wpAny_Call_Name_kw (qk I hg hm ?_ hdb)
 refine PySem.W.callWith_K (h₀:=X.base) I.ok.mod.kin M.kp (thn (ha pos pins s σ H _ I h) fun us s1 ⟨vs,H1,I1,r,q⟩=>⟨I1.kIn,?_⟩) he hpl
 exact wD M F hr hb hd hx I1 r q
end
structure aK (N P:List Str) (sc:Scope):Prop where
 kind:sc.kind=.function
 co:sc.isCoroutine=false
 gen:sc.isGenerator=false
 nd:N.Nodup
 pre:N.take P.length=P
 par:∀x∈P,sc.names.lookup x=some .local\/sc.names.lookup x=some .cell
 nofree:∀y∈sc.names,y.2≠.free
theorem oE {kindOf:Str->Option NameKind}{x:Str}:∀{binds:List (Str×Value)}{m:Str->Option Value},(∀v,(x,v)∉binds)->bindL kindOf binds m x=m x
 | [],_,_=>rfl
 | (n,v)::r,m,h=>by
  unfold bindL
  rw [oE fun w hw=>h w (List.mem_cons_of_mem _ hw)]
  split
  .have:x≠n:=by rintro rfl;exact h v List.mem_cons_self
   simp [this]
  .rfl
theorem oF {kindOf:Str->Option NameKind}{x:Str}:∀{binds:List (Str×Value)}{m:Str->Option Value},(∀v,(x,v)∉binds)->bindC kindOf binds m x=m x
 | [],_,_=>rfl
 | (n,v)::r,m,h=>by
  unfold bindC
  rw [oF fun w hw=>h w (List.mem_cons_of_mem _ hw)]
  split
  .rfl
  .have:x≠n:=by rintro rfl;exact h v List.mem_cons_self
   simp [this]
theorem oG {kindOf:Str->Option NameKind}{x:Str}{v:Value}:∀{P:List Str}{vs:List Value}{i:Nat}{m:Str->Option Value},P.Nodup->P[i]?=some x->vs[i]?=some v->kindOf x=some .local ->
  bindL kindOf (P.zip vs) m x=some v
 | [],_,_,_,_,h,_,_=>by simp at h
 | _::_,[],_,_,_,_,h,_=>by simp at h
 | p::P,w::vs,0,m,nd,h1,h2,hk=>by
  simp at h1 h2;subst h1;subst h2
  show bindL kindOf ((p,w)::P.zip vs) m p=_
  unfold bindL
  rw [oE fun v hv=>(List.nodup_cons.mp nd).1 (List.of_mem_zip hv).1,if_pos hk]
  simp
 | p::P,w::vs,i + 1,m,nd,h1,h2,hk=>by
  show bindL kindOf ((p,w)::P.zip vs) m x=_
  unfold bindL
  exact oG (i:=i) (List.nodup_cons.mp nd).2 (by simpa using h1) (by simpa using h2) hk
theorem oH {kindOf:Str->Option NameKind}{x:Str}{v:Value}:∀{P:List Str}{vs:List Value}{i:Nat}{m:Str->Option Value},P.Nodup->P[i]?=some x->vs[i]?=some v->kindOf x≠some .local ->
  bindC kindOf (P.zip vs) m x=some v
 | [],_,_,_,_,h,_,_=>by simp at h
 | _::_,[],_,_,_,_,h,_=>by simp at h
 | p::P,w::vs,0,m,nd,h1,h2,hk=>by
  simp at h1 h2;subst h1;subst h2
  show bindC kindOf ((p,w)::P.zip vs) m p=_
  unfold bindC
  rw [oF fun v hv=>(List.nodup_cons.mp nd).1 (List.of_mem_zip hv).1,if_neg hk]
  simp
 | p::P,w::vs,i + 1,m,nd,h1,h2,hk=>by
  show bindC kindOf ((p,w)::P.zip vs) m x=_
  unfold bindC
  exact oH (i:=i) (List.nodup_cons.mp nd).2 (by simpa using h1) (by simpa using h2) hk
def start (N:List Str) (vs:List V):St:=vs.map some++List.replicate (N.length - vs.length) none
def uu (CX:CXT) (P:Program) (w:World) (K:PySem.W.Frag) (mg:Str->Option Value) (base:Heap) (N:List Str) (qual:Str) (scope:Scope) (f:Addr) (cd:Value) (A:Around) (outer:List Env) (s:Shared) (H:Hp) (E:XK):Cx where
 prog:=P
 w:=w
 K:=K
 mg:=mg
 base:=base
 A:=A.deeper (envOfC qual scope s.heap.objs.size f cd)
 N:=N
 s₀:=s
 H₀:=H
 env:=envOfC qual scope s.heap.objs.size f cd
 outer:=outer
 stack:=envOfC qual scope s.heap.objs.size f cd::outer
 ex:=[]
 calm:=true
 fn:=fun _=>true
 pn:=[]
 xe:=fun e s'=>wpAny (model P w) (A.deeper (envOfC qual scope s.heap.objs.size f cd)) (leaving (envOfC qual scope s.heap.objs.size f cd) e) (fun _ s''=>CX outer H s E e s'') (fun e' s''=>CX outer H s E e' s'') s'
theorem rB {sc:Scope}{n:Nat}{x:Str} (h:sc.names.lookup x=some .cell):∃c,(cellsFrom n sc.names []).lookup x=some c:=by
 have q:=PySem.W.cellsFrom_some sc.names n [] (.inl h)
 exact Option.isSome_iff_exists.mp q
theorem uv {CX:CXT}{P:Program}{w:World}{K:PySem.W.Frag}{mg:Str->Option Value}{base:Heap}{N ps:List Str}{qual:Str}{scope:Scope}{f:Addr}{cd:Value}{A:Around}{outer:List Env}{s s1:Shared}{H:Hp}{E:XK}{us:List Value}{vs:List V}
  (S:aK N ps scope) (hd:A.handled=none) (e0:yF P w K mg base A outer s H) (hl:vs.length=ps.length) (r:bV vs us)
  (x:InCallC s s.heap.objs.size (bindL (envOfC qual scope s.heap.objs.size f cd).kindOf (ps.zip us) fun _=>none) (cellsFrom (s.heap.objs.size + 1) scope.names []) (bindC (envOfC qual scope s.heap.objs.size f cd).kindOf (ps.zip us) fun _=>none) s1) :
  Inv (uu CX P w K mg base N qual scope f cd A outer s H E) [] (start N vs) H s1:=by
 have hpl:ps.length<=N.length:=by have:=congrArg List.length S.pre;rw [List.length_take] at this;omega
 obtain ⟨h1,tk,rfl,hk⟩:=x.done
 have noA:∀b:Addr,b∉(uu CX P w K mg base N qual scope f cd A outer s H E).ex:=fun b z=>absurd (show b∈([]:List Addr) from z) (by simp)
 refine ⟨⟨e0.mod,S.kind,rfl,rfl,Nat.le_refl _,fun y z c h1 h2=>?_,fun y hy=>?_,fun y c _ h=>?_,fun _=>hd,Around.frames_deeper e0.frames,.inr ⟨rfl,rfl⟩,fun b z=>absurd z (noA b),e0.bs,e0.bsz,fun b _ _=>noA b,fun b z=>absurd z (noA b),e0.funs,e0.frf⟩,
  rfl,e0.bare,Un.kept hk,⟨_,x.toInCall.ns,fun i y v h1 h2 h3=>?_⟩,fun y c h=>⟨_,x.cell y c h⟩,e0.hok.fresh (Nat.le_refl _),fun y c h=>?_,fun p hp=>absurd (show p∈([]:List (Addr×Obj)) from hp) (by simp),e0.hok.kept hk,?_⟩
 .exact name_of_addr x.apart (PySem.mem_of_lookup h1) (PySem.mem_of_lookup h2)
 .have hy:scope.names.lookup y=some .cell\/scope.names.lookup y=some .free:=hy
  rcases hy with hy | hy
  .exact rB hy
  .exact absurd rfl (S.nofree _ (PySem.mem_of_lookup hy))
 .exact Nat.le_of_lt (x.above y c (PySem.mem_of_lookup h))
 .have hi:i < vs.length:=by
   unfold start at h2
   by_cases hi:i < vs.length
   .exact hi
   .rw [List.getElem?_append_right (by simpa using hi)] at h2
    rw [List.getElem?_replicate] at h2
    split at h2 <;> cases h2
  have ha:vs[i]?=some v:=by
   unfold start at h2
   rw [List.getElem?_append_left (by simpa using hi),List.getElem?_map] at h2
   cases e:vs[i]? with
   | none=>rw [e] at h2;cases h2
   | some a=>rw [e] at h2;cases h2;rfl
  obtain ⟨u,hu,rv⟩:=r.get ha
  have hp:ps[i]?=some y:=by
   rw [<- S.pre,List.getElem?_take_of_lt (by omega)];exact h1
  have ndP:ps.Nodup:=by rw [<- S.pre];exact S.nd.sublist (List.take_sublist _ _)
  refine ⟨u,rv,?_⟩
  rcases S.par y (List.mem_of_getElem? hp) with k | k
  .exact .inl ⟨k,oG ndP hp hu k⟩
  .obtain ⟨c,e⟩:=rB (n:=s.heap.objs.size + 1) k
   refine .inr ⟨.inl k,c,e,?_⟩
   have q:=x.cell y c e
   rw [oH ndP hp hu (by show scope.names.lookup y≠_;rw [k];decide)] at q
   exact q
 .exact e0.hok.fresh (Nat.le_of_lt (x.above y c (PySem.mem_of_lookup h)))
 .unfold start
  show _=N.length
  rw [List.length_append,List.length_map,List.length_replicate]
  omega
theorem AW {CX:CXT}{P:Program}{w:World}{K:PySem.W.Frag}{mg:Str->Option Value}{base:Heap}{k:Nat}{f:Addr}{name qual:Str}{params:Arguments}{body:List Stmt}{scope:Scope}{dV kV doc pm cdv ct oc:Value}{an od:Option Addr}
  {osl:Array (Option Value)}{N ps:List Str}{sp:Sp} (lk:K.lookup f=some ⟨oc,od,.func (PySem.W.fnOf name qual params body scope dV kV doc pm an cdv ct),osl⟩) (hcd:PySem.W.codeIn K cdv qual=true) (S:aK N ps scope)
  (len:∀vs H Q E,sp vs H Q E->vs.length=ps.length)
  (hbody:∀(A:Around) (outer:List Env) (s:Shared) (H:Hp) (vs:List V) (Q:VK) (E:XK),fR k (A.deeper (envOfC qual scope s.heap.objs.size f cdv))->sp vs H Q E ->
   ∃t,PSs (uu CX P w K mg base N qual scope f cdv A outer s H E) body t/\t { nx:=fun _ H'=>Q .non H',rt:=Q } (start N vs) H) :
  mf P w K mg base CX (k + 1) f (PySem.W.fnOf name qual params body scope dV kV doc pm an cdv ct) ps sp:=by
 refine ⟨len,fun A outer s H args us vs Q E hr e0 hb r hsp=>?_⟩
 have hl:=len _ _ _ _ hsp
 have KX:K.In s.heap:=e0.mod.kin.keeps fun b o e=>(e0.bs b o e).1
 have lim:s.heap.NoLimit:=e0.mod.nolimit.keeps fun b o e=>(e0.bs b o e).1
 have hkind:∀y∈ps.zip us,scope.names.lookup y.1=some .local\/(scope.names.lookup y.1=some .cell/\((cellsFrom (s.heap.objs.size + 1) scope.names []).lookup y.1).isSome=true):=fun ⟨n,v⟩ hy=>by
  rcases S.par n (List.of_mem_zip hy).1 with q | q
  .exact .inl q
  .exact .inr ⟨q,PySem.W.cellsFrom_some _ _ _ (.inl q)⟩
 refine codeAny_call_function hr.depth (KX _ _ lk) rfl S.co S.gen rfl (PySem.W.codeRec_of KX hcd) (hb _ _ _ _ ?_)
 refine wpAny_newFunctionEnv_cells S.kind hkind fun env he s1 x=>?_
 subst he
 refine ⟨lim.keeps x.toInCall.keep,codeAny_func ?_⟩
 obtain ⟨t,ht,hq⟩:=hbody A outer s H vs Q E (hr.deeper _) hsp
 have I:Inv (uu CX P w K mg base N qual scope f cdv A outer s H E) [] (start N vs) H s1:=uv S hr.hd e0 hl r x
 refine wpAny_mono (ht [] s1 (start N vs) H _ I hq) (fun fl s' hs=>?_) fun e s' hs=>hs
 have fin:∀{σ':St}{H':Hp}{v:V}{u:Value},Inv (uu CX P w K mg base N qual scope f cdv A outer s H E) [] σ' H' s'->di v u->Q v H'->CE outer P w H s Q u s' :=
  fun {σ' H' v u} J rv q=>⟨v,H',J.os,J.bare,J.base,J.hok,rv,q⟩
 cases fl with
 | ret u =>
  obtain ⟨v,σ',H',J,rv,q⟩:=hs
  exact fin J rv q
 | next =>
  obtain ⟨σ',H',J,q⟩:=hs
  exact fin (v:=V.non) (u:=Value.none) J rfl q
 | brk =>
  obtain ⟨_,_,_,q⟩:=hs
  exact False.elim q
 | cont =>
  obtain ⟨_,_,_,q⟩:=hs
  exact False.elim q
section
variable {X:Cx}{x:Str}{p pos:Pos}{e:Expr}{es:List Expr}{t:TA}{id T:String}{r:List V->Hp->VK->Prop}
def tCB (r:List V->Hp->VK->Prop) (t:TA):TE:=fun σ H Q=>t σ H fun vs H1=>r vs H1 Q
theorem wE (hc:bX X (.builtin id) r) (hg:Gl X x) (hm:X.mg x=none) (hv:bootBuiltins x=some (.builtin id)) (ha:PA X (e::es) t) (hn:x≠"__name__":=by decide) (hdb:(x == ("__debug__":Str))=false:=by decide)
  (he:starEach (e::es) X.env=(false,eval e X.env)::starEach es X.env:=by rfl) (hpl:(backTo pos (starEach es X.env)).any (·.1)=false:=by rfl):PE X (.Call (.Name x p) (e::es) [] pos) (tCB r t):=by
 intro pins s σ H Q I h
 refine wpAny_Call_Name_kw (ip I hg hm hv ?_ hn hdb)
 exact PyProof.Rows.callWith_builtin1 (thn (ha pos pins s σ H _ I h) fun us s1 ⟨vs,H1,I1,r1,q1⟩=>hc pins s1 σ H1 vs us Q I1 r1 q1) he hpl
theorem uw (hc:bX X (.type T) r) (hg:Gl X x) (hm:X.mg x=none) (hv:bootBuiltins x=some (.type T)) (ha:PA X (e::es) t) (hn:x≠"__name__":=by decide) (hdb:(x == ("__debug__":Str))=false:=by decide)
  (he:starEach (e::es) X.env=(false,eval e X.env)::starEach es X.env:=by rfl) (hpl:(backTo pos (starEach es X.env)).any (·.1)=false:=by rfl):PE X (.Call (.Name x p) (e::es) [] pos) (tCB r t):=by
 intro pins s σ H Q I h
 refine wpAny_Call_Name_kw (ip I hg hm hv ?_ hn hdb)
 exact PyProof.Rows.callWith_type1 (thn (ha pos pins s σ H _ I h) fun us s1 ⟨vs,H1,I1,r1,q1⟩=>hc pins s1 σ H1 vs us Q I1 r1 q1) he hpl
end
end L2
namespace HT
open PySem PyProof.Rows
section
open PySem.SeqAt
open PySem.AutoSeq1 (wpAny_loadPart')
open PySem.MeetsSeq PySem.MeetsSeq2 PySem.MeetsSeq3
end
section
variable {prog:Program}{w:World}{A:Around}{E:Value->Shared->Prop}{s:Shared}
theorem cat_tup {t b:Addr}{vs ws:List Value}{Q:Value->Shared->Prop} (ht:IsTup s.heap t vs.toArray) (hb:IsTup s.heap b ws.toArray) (hv:vs≠[])
  (h1:ws=[]->Q (.ref t) s) (h2:ws≠[]->Q (.ref s.heap.objs.size) { s with heap:=s.heap.push { cls:=.type "tuple",data:=.seq (vs++ws).toArray } })
  (hsz:vs.length + ws.length<=sizeLine):wpAny (model prog w) A (binaryOp .Add (.ref t) (.ref b)) Q E s:=by
 obtain ⟨⟨cls,dd,data,sl⟩,ho,hc,n,hd⟩:=id ht
 obtain ⟨⟨cls2,dd2,data2,sl2⟩,ho2,hc2,n2,hd2⟩:=id hb
 simp only at hc hd hc2 hd2
 subst hc hd hc2 hd2
 have e:vs.toArray++ws.toArray=(vs++ws).toArray:=by simp
 by_cases hw:ws=[]
 .exact concat_meets ⟨_,ho,rfl⟩ ⟨_,ho2,rfl⟩ noFill_tuple_add seq_tuple_add PySem.F.slot_tuple_add PySem.F.entry_tuple_add (PySem.F.args_tuple_add_2 _ _)
   (tuple_addW1 t b vs.toArray ws.toArray n n2 dd dd2 sl sl2 (by simpa using hv) (by simp [hw])) ⟨ho,ho2,h1 hw⟩
 .refine concat_meets ⟨_,ho,rfl⟩ ⟨_,ho2,rfl⟩ noFill_tuple_add seq_tuple_add PySem.F.slot_tuple_add PySem.F.entry_tuple_add (PySem.F.args_tuple_add_2 _ _)
   (tuple_addW2 t b vs.toArray ws.toArray n n2 dd dd2 sl sl2 (by simpa using hv) (by simpa using hw) (by rw [List.size_toArray,List.size_toArray];exact hsz)) ⟨ho,ho2,?_⟩
  rw [e]
  exact h2 hw
def sIx (n d:Nat):Option Int->Nat
 | none=>d
 | some v=>if v < 0 then (v + (n:Int)).toNat else min v.toNat n
theorem sIx_nat (n d k:Nat):sIx n d (some (k:Int))=min k n:=by
 show (if (k:Int) < 0 then ((k:Int) + (n:Int)).toNat else min (k:Int).toNat n)=min k n
 rw [if_neg (by omega),Int.toNat_natCast]
theorem sIx_le (n d:Nat) (hd:d<=n) (o:Option Int):sIx n d o<=n:=by
 cases o with
 | none=>exact hd
 | some v =>
  show (if v < 0 then (v + (n:Int)).toNat else min v.toNat n)<=n
  by_cases hv:v < 0
  .rw [if_pos hv];omega
  .rw [if_neg hv];exact Nat.min_le_right _ _
theorem clip_eq (v:Int) (n d:Nat):(if v < 0 then max (v + (n:Int)) 0 else min v (n:Int))=((sIx n d (some v):Nat):Int):=by
 show (if v < 0 then max (v + (n:Int)) 0 else min v (n:Int))=(((if v < 0 then (v + (n:Int)).toNat else min v.toNat n):Nat):Int)
 by_cases hv:v < 0
 .simp only [if_pos hv];omega
 .simp only [if_neg hv];omega
theorem sH (lo hi:Option Int) (n:Nat):Builtin.Slice.sliceAdjust lo hi 1 (n:Int)=(((sIx n 0 lo:Nat):Int),((sIx n n hi:Nat):Int)):=by
 have h1:¬ ((1:Int) < 0):=by omega
 unfold Builtin.Slice.sliceAdjust
 simp only [h1,if_false]
 refine Prod.ext ?_ ?_
 .cases lo with
  | none=>rfl
  | some v=>exact clip_eq v n 0
 .cases hi with
  | none=>rfl
  | some v=>exact clip_eq v n n
theorem sI (i j:Nat):Builtin.Slice.slicePlaces (i:Int) (j:Int) 1=j - i:=by
 unfold Builtin.Slice.slicePlaces
 have h1:(1:Int) > 0:=by omega
 simp only [h1,if_true,Int.ediv_one]
 split <;> omega
theorem mi {v:Value}{o:Option Int}{Q:Option Int->Shared->Prop} (p:IsPart v o) (h:Q o s):wpAny (model prog w) A (Builtin.Slice.slicePartIndex v) Q E s:=by
 cases p with
 | none=>exact slicePart_none h
 | int i t=>exact slicePart_int h
theorem fE {sl:Addr}{vl vu:Value}{lo hi:Option Int}{n:Nat}{Q:Int×Int×Nat->Shared->Prop} (hs:s.heap.IsSliceOf sl vl vu .none) (pl:IsPart vl lo) (pu:IsPart vu hi)
  (h:Q (((sIx n 0 lo:Nat):Int),1,sIx n n hi - sIx n 0 lo) s):wpAny (model prog w) A (Builtin.Slice.sliceApplied (.ref sl) (pure (n:Int))) Q E s:=by
 obtain ⟨os,hos,hcs,hds⟩:=id hs
 unfold Builtin.Slice.sliceApplied Builtin.Slice.sliceFields
 refine wpAny_bind (wpAny_bind (wpAny_field hos hds (x:=vl) rfl (wpAny_bind (wpAny_field hos hds (x:=vu) rfl (wpAny_bind (wpAny_field hos hds (x:=.none) rfl (wpAny_pure ?_)))))))
 refine wpAny_bind (slicePart_none ?_)
 show wpAny _ _ (if ((1:Int) == 0)=true then _ else _) _ _ s
 rw [if_neg (by decide)]
 refine wpAny_bind (mi pl (wpAny_bind (mi pu (wpAny_bind (wpAny_pure ?_)))))
 show wpAny _ _ (match Builtin.Slice.sliceAdjust lo hi 1 (n:Int) with | (lo,hi)=>pure (lo,(1:Int),Builtin.Slice.slicePlaces lo hi 1)) _ _ s
 rw [sH lo hi n]
 show wpAny _ _ (pure (((sIx n 0 lo:Nat):Int),(1:Int),Builtin.Slice.slicePlaces ((sIx n 0 lo:Nat):Int) ((sIx n n hi:Nat):Int) 1)) _ _ s
 rw [sI]
 exact wpAny_pure h
theorem wF (xs:Array Value) (i k:Nat):((List.range k).filterMap fun (m:Nat)=>xs[((i:Int) + (m:Int) * 1).toNat]?).toArray=((xs.toList.drop i).take k).toArray:=by
 have e:(fun (m:Nat)=>xs[((i:Int) + (m:Int) * 1).toNat]?)=fun m=>xs[i + m]?:=by
  funext m
  have:((i:Int) + (m:Int) * 1).toNat=i + m:=by omega
  rw [this]
 rw [e]
 have:=pick_run xs i k
 rw [List.filterMap_map] at this
 have e2:((fun x=>xs[x]?) ∘ fun x=>i + x)=fun m=>xs[i + m]?:=rfl
 rw [e2] at this
 rw [this]
theorem getItem_tuple_cut {t sl:Addr}{items:Array Value}{vl vu:Value}{lo hi:Option Int}{Q:Value->Shared->Prop} (ht:IsTup s.heap t items) (hs:s.heap.IsSliceOf sl vl vu .none) (pl:IsPart vl lo) (pu:IsPart vu hi)
  (hw:¬ (sIx items.size 0 lo=0/\sIx items.size items.size hi=items.size))
  (h:Q (.ref s.heap.objs.size) { s with heap:=s.heap.push { cls:=.type "tuple",data:=.seq ((items.toList.drop (sIx items.size 0 lo)).take (sIx items.size items.size hi - sIx items.size 0 lo)).toArray } })
  (hsz:items.size<=sizeLine):wpAny (model prog w) A (getItem (.ref t) (.ref sl)) Q E s:=by
 have htake:sizeOk (.seq ((items.toList.drop (sIx items.size 0 lo)).take (sIx items.size items.size hi - sIx items.size 0 lo)).toArray):=by
  show ((items.toList.drop (sIx items.size 0 lo)).take (sIx items.size items.size hi - sIx items.size 0 lo)).toArray.size<=sizeLine
  rw [List.size_toArray,List.length_take,List.length_drop,Array.length_toList]
  omega
 have hj:sIx items.size items.size hi<=items.size:=sIx_le _ _ (Nat.le_refl _) hi
 obtain ⟨os,hos,hcs,hds⟩:=id hs
 have hTs:s.TypeIs (.ref sl) "slice":=⟨os,hos,hcs⟩
 unfold getItem
 try with_reducible refine wpAny_holding ?_
 first | refine wpAny_bind (wpAny_pure ?_) | skip
 refine wpAny_bind (wpAny_sequenceKey ht.typeIs (by decide) ?_)
 refine wpAny_bind (wpAny_callSpecial?_slot (name:=Str.ofString "__getitem__") ht.typeIs PyProof.Rows.slot_tuple_getitem
  (wpAny_call_entry PyProof.Rows.slot_tuple_getitem ht.typeIs entry_tuple_getitem ?_ (args_tuple_getitem _ _)))
 show wpAny _ _ (Builtin.Tuple.tupleItemsOf (.ref t) >>= _) _ _ s
 refine wpAny_bind (tupleItemsOf_ ht ?_)
 refine wpAny_bind (wpAny_typeOf hTs ?_)
 rw [if_pos (by decide)]
 refine wpAny_bind (fE hs pl pu ?_)
 have hno:¬ ((((sIx items.size 0 lo:Nat):Int) == 0 && (1:Int) == 1 && (sIx items.size items.size hi - sIx items.size 0 lo) == items.size)=true):=by
  intro q
  rw [Bool.and_eq_true,Bool.and_eq_true] at q
  have q1:((sIx items.size 0 lo:Nat):Int)=0:=eq_of_beq q.1.1
  have q2:sIx items.size items.size hi - sIx items.size 0 lo=items.size:=eq_of_beq q.2
  exact hw ⟨by omega,by omega⟩
 show wpAny _ _ (if (((sIx items.size 0 lo:Nat):Int) == 0 && (1:Int) == 1 && (sIx items.size items.size hi - sIx items.size 0 lo) == items.size)=true then _ else _) _ _ s
 rw [if_neg hno,wF]
 first
  | exact wpAny_bind (m:=Builtin.Tuple.tupleExact _) (wpAny_newObj_type (wpAny_pure ⟨_,rfl,wpAny_pure h⟩) htake)
  | exact wpAny_bind (m:=Builtin.Tuple.tupleExact _) (wpAny_newObj_type (wpAny_bind (wpAny_pure (wpAny_pure ⟨_,rfl,wpAny_pure h⟩))) htake)
  | exact wpAny_bind (wpAny_bind (m:=Builtin.Tuple.tupleExact _) (wpAny_newObj_type (wpAny_pure (wpAny_pure ⟨_,rfl,wpAny_pure h⟩)) htake))
  | exact wpAny_bind (wpAny_bind (m:=Builtin.Tuple.tupleExact _) (wpAny_newObj_type (wpAny_pure ⟨_,rfl,wpAny_pure h⟩) htake))
end
end HT
namespace L2
open PySem PySem.Spec PyProof.Rows
abbrev TO:=St->Hp->(Option Int->Hp->Prop)->Prop
def PO (X:Cx) (e:Option Expr) (t:TO):Prop :=
 ∀(pins:List (Addr×Obj)) (s:Shared) (σ:St) (H:Hp) (Q:Option Int->Hp->Prop),Inv X pins σ H s->t σ H Q ->
  wpAny (model X.prog X.w) X.A (evalPart e X.env) (fun u s'=>∃o H',Inv X pins σ H' s'/\IsPart u o/\Q o H') X.xe s
def uy:TO:=fun _ H Q=>Q none H
def AX (t:TE):TO:=fun σ H Q=>t σ H fun x H1=>∃i,x=.int i/\Q (some i) H1
theorem eU {ns:List Int}:∀{us:List Value},bV (ns.map V.int) us->IntsAre us ns:=by
 induction ns with
 | nil=>intro us r;rw [List.map_nil] at r;cases r;exact .nil
 | cons n ns ih =>
  intro us r
  rw [List.map_cons] at r
  cases r with
  | cons r1 r2 =>
   obtain ⟨t,e⟩:=r1
   subst e
   exact .cons n t (ih r2)
section
variable {X:Cx}{e:Expr}{te:TE}{lo hi:Option Expr}{tl th:TO}{pos p2:Pos}
theorem hZ:PO X none uy:=by
 intro pins s σ H Q I h
 rw [evalPart_none]
 exact wpAny_pure ⟨none,H,I,.none,h⟩
theorem e5 (h:PE X e te):PO X (some e) (AX te):=by
 intro pins s σ H Q I hw
 rw [evalPart_some]
 refine thn (h pins s σ H _ I hw) fun u s1 ⟨x,H1,I1,r1,q1⟩=>?_
 obtain ⟨i,rfl,q⟩:=q1
 obtain ⟨t,rfl⟩:=r1
 exact ⟨some i,H1,I1,.int i t,q⟩
def SlR (X:Cx) (r:V->Option Int->Option Int->Hp->VK->Prop):Prop :=
 ∀(pins:List (Addr×Obj)) (s:Shared) (σ:St) (H:Hp) (x:V) (v vl vu:Value) (lo hi:Option Int) (sl:Addr) (Q:VK),Inv X pins σ H s->di x v->s.heap.IsSliceOf sl vl vu .none->IsPart vl lo->IsPart vu hi->r x lo hi H Q ->
  ∃T id,typeLookup (.type T) "__getitem__"=pure (some (.builtin id))/\s.TypeIs v T/\wpAny (model X.prog X.w) X.A (getItem v (.ref sl)) (EP X pins σ Q) X.xe s
theorem SlR.or {r r':V->Option Int->Option Int->Hp->VK->Prop} (h:SlR X r) (h':SlR X r'):SlR X (fun x lo hi H Q=>r x lo hi H Q\/r' x lo hi H Q):=by
 intro pins s σ H x v vl vu lo hi sl Q I rx hs pl pu q
 rcases q with q | q
 .exact h pins s σ H x v vl vu lo hi sl Q I rx hs pl pu q
 .exact h' pins s σ H x v vl vu lo hi sl Q I rx hs pl pu q
def tSl (r:V->Option Int->Option Int->Hp->VK->Prop) (te:TE) (tl th:TO):TE:=fun σ H Q=>te σ H fun x H1=>tl σ H1 fun l H2=>th σ H2 fun u H3=>r x l u H3 Q
theorem ey {r:V->Option Int->Option Int->Hp->VK->Prop} (hr:SlR X r) (he:PE X e te) (hl:PO X lo tl) (hu:PO X hi th):PE X (.Subscript e (.Slice lo hi none p2) pos) (tSl r te tl th):=by
 intro pins s σ H Q I h
 refine Subscript_ (thn (he pins s σ H _ I h) fun v s1 ⟨x,H1,I1,r1,q1⟩=>?_)
 refine wpAny_Slice (thn (hl pins s1 σ H1 _ I1 q1) fun vl s2 ⟨l,H2,I2,pl,q2⟩=>thn (hu pins s2 σ H2 _ I2 q2) fun vu s3 ⟨u,H3,I3,pu,q3⟩=>?_)
 rw [evalPart_none]
 refine wpAny_pure ?_
 have I4:Inv X pins σ H3 { s3 with heap:=s3.heap.push { cls:=.type "slice",data:=.fields #[vl,vu,.none] } }:=I3.kept (t':=s3.toks) fun b ob q=>Heap.get?_push_of_some _ q
 obtain ⟨T,id,hT,ht,hg⟩:=hr pins { s3 with heap:=s3.heap.push { cls:=.type "slice",data:=.fields #[vl,vu,.none] } } σ H3 x v vl vu l u s3.heap.objs.size Q I4 r1 (Heap.IsSliceOf.new ..) pl pu q3
 show wpAny (model X.prog X.w) X.A (subscriptTail e (.Slice lo hi none p2) v (.ref s3.heap.objs.size)) (EP X pins σ Q) X.xe { s3 with heap:=s3.heap.push { cls:=.type "slice",data:=.fields #[vl,vu,.none] } }
 exact tail_any (ops:=[.ref s3.heap.objs.size,v]) ht hT hg (by with_unfolding_all rfl)
def yI (xs:List V) (lo hi:Option Int):List V:=(xs.drop (HT.sIx xs.length 0 lo)).take (HT.sIx xs.length xs.length hi - HT.sIx xs.length 0 lo)
theorem j9 (xs:List V) (lo hi:Option Int):(yI xs lo hi).length<=xs.length:=by
 unfold yI
 rw [List.length_take,List.length_drop]
 omega
def DK (K:PySem.W.Frag):V->Option Int->Option Int->Hp->VK->Prop:=fun x lo hi H Q=>∃a xs,x=.ref a/\SqT K H a xs /\
 ¬ (HT.sIx xs.length 0 lo=0/\HT.sIx xs.length xs.length hi=xs.length)/\∀p,H p=none->Q (.ref p) (upd H p (.tup (yI xs lo hi)))
theorem AY:SlR X (DK X.K):=by
 intro pins s σ H x v vl vu lo hi sl Q I rx hs pl pu h
 obtain ⟨a,xs,rfl,hx,hw,q⟩:=h
 cases rx
 obtain ⟨its,r,ht,hz⟩:=I.tuple hx
 have hlen:its.toArray.size=xs.length:=by rw [List.size_toArray];exact r.length.symm
 refine ⟨"tuple",_,PyProof.Rows.slot_tuple_getitem.lookup,ht.typeIs,?_⟩
 refine HT.getItem_tuple_cut ht hs pl pu (by rw [hlen];exact hw) ?_ (by rw [hlen];exact hz)
 rw [hlen]
 refine ⟨.ref s.heap.objs.size,_,I.laid (t':=s.toks) (o:=.tup (yI xs lo hi)) (fun b ob q=>Heap.get?_push_of_some _ q) (Nat.le_refl _) ?_,rfl,q _ (I.hok.fresh (Nat.le_refl _))⟩
 exact ⟨Nat.le_trans (j9 xs lo hi) hz,_,(r.drop (HT.sIx xs.length 0 lo)).take (HT.sIx xs.length xs.length hi - HT.sIx xs.length 0 lo),IsTup.new _ _⟩
def AZ (K:PySem.W.Frag):R2:=fun x y H Q=>∃a b xs ys,x=.ref a/\y=.ref b/\SqT K H a xs/\SqT K H b ys/\xs≠[]/\xs.length + ys.length<=sizeLine /\
 (ys=[]->Q (.ref a) H)/\(ys≠[]->∀p,H p=none->Q (.ref p) (upd H p (.tup (xs++ys))))
theorem bV.nil_iff {xs:List V}{us:List Value} (r:bV xs us):us=[] ↔ xs=[]:=by
 cases r with
 | nil=>simp
 | cons _ _=>simp
theorem yJ:OpR X (binaryOp .Add) (AZ X.K):=by
 intro pins s σ H x y v u Q I rx ry h
 obtain ⟨a,b,xs,ys,rfl,rfl,ha,hb,hx,hz,q1,q2⟩:=h
 cases rx
 cases ry
 obtain ⟨its,r1,p1,_⟩:=I.tuple ha
 obtain ⟨its2,r2,p2,_⟩:=I.tuple hb
 refine HT.cat_tup p1 p2 (fun z=>hx (r1.nil_iff.mp z)) (fun z=>⟨.ref a,H,I,rfl,q1 (r2.nil_iff.mp z)⟩) (fun z=>?_) (by rw [<- r1.length,<- r2.length];exact hz)
 refine ⟨.ref s.heap.objs.size,_,I.laid (t':=s.toks) (o:=.tup (xs++ys)) (fun b ob q=>Heap.get?_push_of_some _ q) (Nat.le_refl _) ?_,rfl,q2 (fun w=>z (r2.nil_iff.mpr w)) _ (I.hok.fresh (Nat.le_refl _))⟩
 exact ⟨by rw [List.length_append];exact hz,_,r1.append r2,IsTup.new _ _⟩
end
def ixN (n:Nat) (i:Int):Option Nat:=if 0<=i then (if i < n then some i.toNat else none) else if -(n:Int)<=i then some (i + n).toNat else none
def atI {α:Type} (xs:List α) (i:Int):Option α:=(ixN xs.length i).bind fun j=>xs[j]?
theorem uz {n:Nat}{i:Int}{j:Nat} (h:ixN n i=some j):seqIndex? i n=some j/\j < n/\-(n:Int)<=i/\i < n:=by
 unfold ixN at h
 by_cases h0:0<=i
 .rw [if_pos h0] at h
  by_cases h1:i < n
  .rw [if_pos h1] at h
   have e:i.toNat=j:=Option.some.inj h
   exact ⟨by rw [seqIndex_of h0 h1,e],by omega,by omega,h1⟩
  .rw [if_neg h1] at h;cases h
 .rw [if_neg h0] at h
  by_cases h1:-(n:Int)<=i
  .rw [if_pos h1] at h
   have e:(i + n).toNat=j:=Option.some.inj h
   exact ⟨by rw [seqIndex_neg (by omega) h1,e],by omega,h1,by omega⟩
  .rw [if_neg h1] at h;cases h
theorem qm {α:Type}{xs:List α}{i:Int}{v:α} (h:atI xs i=some v):∃j,seqIndex? i xs.length=some j/\xs[j]?=some v/\j < xs.length/\-(xs.length:Int)<=i/\i < xs.length:=by
 unfold atI at h
 cases e:ixN xs.length i with
 | none=>rw [e] at h;cases h
 | some j =>
  rw [e] at h
  obtain ⟨h1,h2,h3,h4⟩:=uz e
  exact ⟨j,h1,h,h2,h3,h4⟩
theorem yK {α:Type}{xs:List α}{j:Nat}{v:α} (h:xs[j]?=some v):atI xs (j:Int)=some v:=by
 have hj:j < xs.length:=(List.getElem?_eq_some_iff.mp h).1
 have e:ixN xs.length (j:Int)=some j:=by
  unfold ixN
  rw [if_pos (by omega),if_pos (by omega)];simp
 unfold atI;rw [e];exact h
def yL (b:Expr):Prop:=∀o i,subscripted b false o i=operate [o,i] (getItem o i)
def IxR (X:Cx) (r:R2):Prop :=
 ∀(value slice:Expr) (pins:List (Addr×Obj)) (s:Shared) (σ:St) (H:Hp) (x y:V) (v u:Value) (Q:VK),Inv X pins σ H s->di x v->di y u->r x y H Q ->
  subscripted slice false v u=operate [v,u] (getItem v u)->wpAny (model X.prog X.w) X.A (subscriptTail value slice v u) (EP X pins σ Q) X.xe s
def MtR (X:Cx) (id:String) (r:V->List V->Hp->VK->Prop):Prop :=
 ∀(pins:List (Addr×Obj)) (s:Shared) (σ:St) (H:Hp) (x:V) (xs:List V) (v:Value) (us:List Value) (Q:VK),Inv X pins σ H s->di x v->bV xs us->r x xs H Q ->
  wpAny (model X.prog X.w) X.A (call (.builtin id) (v::us)) (EP X pins σ Q) X.xe s
section
variable {X:Cx}{a b:Expr}{ta tb:TE}{pos:Pos}
theorem IxR.or {r r':R2} (h:IxR X r) (h':IxR X r'):IxR X (fun x y H Q=>r x y H Q\/r' x y H Q):=by
 intro value slice pins s σ H x y v u Q I rx ry q hs
 rcases q with q | q
 .exact h value slice pins s σ H x y v u Q I rx ry q hs
 .exact h' value slice pins s σ H x y v u Q I rx ry q hs
theorem bB {r:R2} (hr:IxR X r) (ha:PE X a ta) (hb:PE X b tb) (hs:yL b):PE X (.Subscript a b pos) (tOp r ta tb):=by
 intro pins s σ H Q I h
 exact Subscript_ (CL ha hb I h fun v u s2 x y H2 I2 rx ry q=>hr a b pins s2 σ H2 x y v u Q I2 rx ry q (hs _ _))
def DL (K:PySem.W.Frag):R2:=fun x y H Q=>∃p xs i v,x=.ref p/\y=.int i/\SqL K H p xs/\atI xs i=some v/\Q v H
def DM (K:PySem.W.Frag):R2:=fun x y H Q=>∃p xs i v,x=.ref p/\y=.int i/\SqT K H p xs/\atI xs i=some v/\Q v H
def Ef:R2:=fun x y H Q=>∃z i c,x=.str z/\y=.int i/\z.length<=sizeLine/\atI z.cps.toList i=some c/\Q (.str ⟨#[c]⟩) H
theorem yM:IxR X (DL X.K):=by
 intro value slice pins s σ H x y v u Q I rx ry h hs
 obtain ⟨p,xs,i,z,rfl,rfl,hq,he,q⟩:=h
 cases rx
 obtain ⟨t,rfl⟩:=ry
 obtain ⟨its,r,pl,hz⟩:=I.list hq
 obtain ⟨j,h1,h2,h3,h4,h5⟩:=qm he
 obtain ⟨w,ew,rw'⟩:=r.get h2
 have hl:=r.length
 have hn:=ma
 have fin:EP X pins σ Q w s:=⟨z,H,I,rw',q⟩
 by_cases h0:0<=i
 .have hj:i.toNat=j:=by
   rw [seqIndex_of h0 h5] at h1
   exact Option.some.inj h1
  exact item_listR pl.isList h0 (by omega) (by rw [hj];simpa using ew) fin hs
 .have hj:(i + (its.toArray.size:Int)).toNat=j:=by
   rw [seqIndex_neg (by omega) h4] at h1
   rw [List.size_toArray,<- hl]
   exact Option.some.inj h1
  exact subscriptTail_builtinR (x:=w) pl.isList.typeIs slot_list_getitem.lookup
   (wpAny_getItem_list_neg (Q:=fun r s'=>r=w/\EP X pins σ Q r s') pl.isList (by omega) (by rw [List.size_toArray] <;> omega) (by omega) (by rw [hj];simpa using ew) ⟨rfl,fin⟩) hs
theorem A0:IxR X (DM X.K):=by
 intro value slice pins s σ H x y v u Q I rx ry h hs
 obtain ⟨p,xs,i,z,rfl,rfl,hq,he,q⟩:=h
 cases rx
 obtain ⟨t,rfl⟩:=ry
 obtain ⟨its,r,pl,hz⟩:=I.tuple hq
 obtain ⟨j,h1,h2,h3,h4,h5⟩:=qm he
 obtain ⟨w,ew,rw'⟩:=r.get h2
 have hl:=r.length
 have hn:=ma
 have fin:EP X pins σ Q w s:=⟨z,H,I,rw',q⟩
 exact subscriptTail_builtinR (x:=w) pl.typeIs slot_tuple_getitem.lookup
  (getItem_tuple (j:=j) (Q:=fun r s'=>r=w/\EP X pins σ Q r s') pl (by omega) (by omega) (by rw [List.size_toArray,<- hl];exact h1) (by simpa using ew) ⟨rfl,fin⟩) hs
theorem A1:IxR X Ef:=by
 intro value slice pins s σ H x y v u Q I rx ry h hs
 obtain ⟨z,i,c,rfl,rfl,hz,he,q⟩:=h
 obtain ⟨t,rfl⟩:=rx
 obtain ⟨t',rfl⟩:=ry
 obtain ⟨j,h1,h2,h3,h4,h5⟩:=qm he
 have hl:z.cps.toList.length=z.length:=by simp [Str.length]
 rw [hl] at h1 h4 h5
 have hn:=ma
 exact tail_any (typeIs_str s z t) slot_str_getitem.lookup (getItem_str (c:=c) (by
  have e1:decide (i < -(2 ^ 63:Int))=false:=decide_eq_false (by omega)
  have e2:decide (i >= 2 ^ 63)=false:=decide_eq_false (by omega)
  rw [e1,e2,Bool.or_false]) (by rw [h1];simpa using h2) ⟨.str ⟨#[c]⟩,H,I.tok _,⟨_,rfl⟩,q⟩) hs
theorem sJ (its:List Value) (n j:Nat) (u:Value):Obj.mapSeq (·.setIfInBounds j u) { cls:=.type "list",data:=.seq its.toArray n }={ cls:=.type "list",data:=.seq (its.set j u).toArray n }:=by
 simp [Obj.mapSeq]
theorem Inv.lst {pins:List (Addr×Obj)}{σ:St}{H:Hp}{s:Shared}{p:Addr}{xs:List V} (I:Inv X pins σ H s) (h:H p=some (.lst xs)) :
  ∃(its:List Value) (n:Nat),bV xs its/\s.heap.get? p=some { cls:=.type "list",data:=.seq its.toArray n }/\xs.length<=sizeLine:=by
 obtain ⟨z,its,n,r,e⟩:=I.hok p _ h
 exact ⟨its,n,r,e,z⟩
theorem Inv.lstUpd {pins:List (Addr×Obj)}{σ:St}{H:Hp}{s:Shared}{p:Addr}{xs ys:List V}{its its':List Value}{n n':Nat}{f:Obj->Obj} (I:Inv X pins σ H s) (h:H p=some (.lst xs))
  (ho:s.heap.get? p=some { cls:=.type "list",data:=.seq its.toArray n }) (hf:f { cls:=.type "list",data:=.seq its.toArray n }={ cls:=.type "list",data:=.seq its'.toArray n' }) (r:bV ys its') (hz:ys.length<=sizeLine) (t:Nat) :
  Inv X pins σ (upd H p (.lst ys)) { s with heap:=s.heap.update p f,toks:=t }:=by
 have e:(s.heap.update p f).get? p=some { cls:=.type "list",data:=.seq its'.toArray n' }:=by
  rw [Heap.get?_update_self f ho (by rw [hf] <;> rfl),hf]
 refine I.write (x:=p) (e:=p) (by rw [h];trivial) (.inl rfl) (fun b u hb q=>(Heap.get?_update_other _ _ (Ne.symm hb)).trans q) ⟨_,e⟩ ?_
 exact ⟨hz,its',n',r,e⟩
def uA:V->V->V->Hp->(Hp->Prop)->Prop:=fun o i v H Q=>∃p xs k j,o=.ref p/\i=.int k/\H p=some (.lst xs)/\ixN xs.length k=some j/\Q (upd H p (.lst (xs.set j v)))
theorem mP:DF X uA:=by
 intro pins s σ H o i v ov iv u Q I ro ri rv h
 obtain ⟨p,xs,k,j,rfl,rfl,hp,hj,q⟩:=h
 cases ro
 obtain ⟨t,rfl⟩:=ri
 obtain ⟨its,n,r,ho,hz⟩:=I.lst hp
 obtain ⟨h1,h2,h3,h4⟩:=uz hj
 have hl:=r.length
 have hn:=ma
 have I':Inv X pins σ (upd H p (.lst (xs.set j v))) { s with heap:=s.heap.update p (Obj.mapSeq (·.setIfInBounds j u)) } :=
  I.lstUpd hp ho (sJ its n j u) (r.set rv j) (by rw [List.length_set];exact hz) s.toks
 by_cases h0:0<=k
 .have hk:k.toNat=j:=by
   rw [seqIndex_of h0 h4] at h1
   exact Option.some.inj h1
  exact PySem.W.ki_setAt ho h0 (by omega) (by rw [List.size_toArray,<- hl];exact h4) (by rw [hk];exact ⟨_,I',q⟩)
 .have hk:(k + (its.toArray.size:Int)).toNat=j:=by
   rw [seqIndex_neg (by omega) h3] at h1
   rw [List.size_toArray,<- hl]
   exact Option.some.inj h1
  exact PySem.W.ki_setBack ho (by omega) (by rw [List.size_toArray,<- hl];exact h3) (by omega) (by rw [hk];exact ⟨_,I',q⟩)
theorem oI (lo hi:Option Int) (n:Nat):(sliceBounds lo hi none n).1=((HT.sIx n 0 lo:Nat):Int)/\(sliceBounds lo hi none n).2.1=((HT.sIx n n hi:Nat):Int)/\(sliceBounds lo hi none n).2.2=1:=by
 refine ⟨?_,?_,rfl⟩
 .cases lo with
  | none=>simp [sliceBounds,HT.sIx]
  | some i =>
   simp only [sliceBounds,HT.sIx,Option.getD_none,show (1:Int) > 0 by decide,if_true]
   by_cases h:i < 0
   .simp only [h,if_true] <;> omega
   .simp only [h,if_false] <;> omega
 .cases hi with
  | none=>simp [sliceBounds,HT.sIx]
  | some i =>
   simp only [sliceBounds,HT.sIx,Option.getD_none,show (1:Int) > 0 by decide,if_true]
   by_cases h:i < 0
   .simp only [h,if_true] <;> omega
   .simp only [h,if_false] <;> omega
theorem mQ (its:List Value) (lo hi:Option Int):slicePick its.toArray lo hi none=((its.drop (HT.sIx its.length 0 lo)).take (HT.sIx its.length its.length hi - HT.sIx its.length 0 lo)).toArray:=by
 obtain ⟨h1,h2,h3⟩:=oI lo hi its.toArray.size
 unfold slicePick
 rw [h1,h2,h3]
 simp only [sliceRange_one,pick_run,List.size_toArray] <;> rfl
def DN (K:PySem.W.Frag):V->Option Int->Option Int->Hp->VK->Prop:=fun x lo hi H Q=>∃a xs,x=.ref a/\SqL K H a xs/\∀p,H p=none->Q (.ref p) (upd H p (.lst (yI xs lo hi)))
theorem yN:SlR X (DN X.K):=by
 intro pins s σ H x v vl vu lo hi sl Q I rx hs pl pu h
 obtain ⟨a,xs,rfl,hx,q⟩:=h
 cases rx
 obtain ⟨its,r,ht,hz⟩:=I.list hx
 have hlen:=r.length
 refine ⟨"list",_,slot_list_getitem.lookup,ht.isList.typeIs,?_⟩
 refine wpAny_getItem_list_slice ht.isList hs pl pu .none (by simp) ?_ (by rw [List.size_toArray] <;> omega)
 rw [mQ,<- hlen]
 refine ⟨.ref s.heap.objs.size,_,I.laid (t':=s.toks) (o:=.lst (yI xs lo hi)) (fun b ob q=>Heap.get?_push_of_some _ q) (Nat.le_refl _) ?_,rfl,q _ (I.hok.fresh (Nat.le_refl _))⟩
 exact ⟨Nat.le_trans (j9 xs lo hi) hz,_,0,(r.drop (HT.sIx xs.length 0 lo)).take (HT.sIx xs.length xs.length hi - HT.sIx xs.length 0 lo),Heap.get?_push_size _ rfl⟩
def lB:V->Bool
 | .non=>true
 | .bl _=>true
 | .int _=>true
 | .str _=>true
 | _=>false
def eqV:V->V->Bool
 | .non,.non=>true
 | .bl a,.bl b=>a == b
 | .bl a,.int b=>(if a then 1 else 0) == b
 | .int a,.bl b=>a == (if b then 1 else 0)
 | .int a,.int b=>a == b
 | .str a,.str b=>a == b
 | _,_=>false
theorem A2 {A:Around}{s:Shared}{y x:V}{u v:Value} (ry:di y u) (rx:di x v) (fy:lB y=true) (fx:lB x=true):SeqAt.EqAt A s u v (eqV y x):=by
 cases y with
 | non =>
  cases ry
  cases x with
  | non=>cases rx;exact SeqAt.EqAt.same _
  | bl b=>cases rx;exact SeqAt.EqAt.none_bool b
  | int b=>obtain ⟨t,rfl⟩:=rx;exact SeqAt.EqAt.none_int b t
  | str b=>obtain ⟨t,rfl⟩:=rx;exact SeqAt.EqAt.none_str b t
  | _=>exact absurd (show false=true from fx) Bool.false_ne_true
 | bl a =>
  cases ry
  cases x with
  | non=>cases rx;exact SeqAt.EqAt.bool_none a
  | bl b=>cases rx;exact SeqAt.EqAt.bool_bool a b
  | int b=>obtain ⟨t,rfl⟩:=rx;exact SeqAt.EqAt.bool_int a b t
  | str b=>obtain ⟨t,rfl⟩:=rx;exact SeqAt.EqAt.bool_str a b t
  | _=>exact absurd (show false=true from fx) Bool.false_ne_true
 | int a =>
  obtain ⟨t',rfl⟩:=ry
  cases x with
  | non=>cases rx;exact SeqAt.EqAt.int_none a t'
  | bl b=>cases rx;exact SeqAt.EqAt.int_bool a t' b
  | int b=>obtain ⟨t,rfl⟩:=rx;exact SeqAt.EqAt.int_int a t' b t
  | str b=>obtain ⟨t,rfl⟩:=rx;exact SeqAt.EqAt.int_str a t' b t
  | _=>exact absurd (show false=true from fx) Bool.false_ne_true
 | str a =>
  obtain ⟨t',rfl⟩:=ry
  cases x with
  | non=>cases rx;exact SeqAt.EqAt.str_none a t'
  | bl b=>cases rx;exact SeqAt.EqAt.str_bool a t' b
  | int b=>obtain ⟨t,rfl⟩:=rx;exact SeqAt.EqAt.str_int a t' b t
  | str b=>obtain ⟨t,rfl⟩:=rx;exact SeqAt.EqAt.str_str a t' b t
  | _=>exact absurd (show false=true from fx) Bool.false_ne_true
 | _=>exact absurd (show false=true from fy) Bool.false_ne_true
def eqU (x:V) (u:Value):Bool:=match u with
 | .none=>eqV .non x
 | .bool b=>eqV (.bl b) x
 | .int i _=>eqV (.int i) x
 | .str z _=>eqV (.str z) x
 | _=>false
theorem xO {x y:V}{u:Value} (r:di y u) (f:lB y=true):eqU x u=eqV y x:=by
 cases y with
 | non=>cases r;rfl
 | bl b=>cases r;rfl
 | int i=>obtain ⟨t,rfl⟩:=r;rfl
 | str z=>obtain ⟨t,rfl⟩:=r;rfl
 | _=>exact absurd (show false=true from f) Bool.false_ne_true
theorem ka {x:V}:∀{xs:List V}{us:List Value},bV xs us->xs.all lB=true->us.any (eqU x)=xs.any fun y=>eqV y x
 | _,_,.nil,_=>rfl
 | y::xs,u::us,.cons r t,f=>by
  rw [List.all_cons,Bool.and_eq_true] at f
  rw [List.any_cons,List.any_cons,xO r f.1,ka t f.2]
theorem iq {A:Around}{s:Shared}{x:V}{v:Value} (rx:di x v) (fx:lB x=true):∀{xs:List V}{us:List Value},bV xs us->xs.all lB=true->∀u∈us,SeqAt.EqAt A s u v (eqU x u)
 | _,_,.nil,_=>fun u hu=>by cases hu
 | y::xs,u::us,.cons r t,f=>fun u' hu=>by
  rw [List.all_cons,Bool.and_eq_true] at f
  rcases List.mem_cons.mp hu with rfl | hu
  .rw [xO r f.1];exact A2 r rx f.1 fx
  .exact iq rx fx t f.2 u' hu
def inV (x:V) (xs:List V):Bool:=xs.any fun y=>eqV y x
def rIn (K:PySem.W.Frag) (neg:Bool):R2:=fun x y H Q=>∃p xs,y=.ref p/\(SqL K H p xs\/SqT K H p xs)/\lB x=true/\xs.all lB=true/\Q (.bl (if neg then !inV x xs else inV x xs)) H
theorem uB:OpR X (compareOp .In) (rIn X.K false):=by
 intro pins s σ H x y v u Q I rx ry h
 obtain ⟨p,xs,rfl,hq,fx,fs,q⟩:=h
 cases ry
 rcases hq with hq | hq
 .obtain ⟨its,r,pl,hz⟩:=I.list hq
  refine SeqAt.in_listAt (eqU x) pl.isList (fun w hw=>iq rx fx r fs w (by simpa using hw)) ⟨.bl _,H,I,rfl,?_⟩
  rw [show its.toArray.any (eqU x)=its.any (eqU x) by simp,ka r fs]
  exact q
 .obtain ⟨its,r,pl,hz⟩:=I.tuple hq
  refine SeqAt.in_tupleAt (eqU x) pl (fun w hw=>iq rx fx r fs w (by simpa using hw)) ⟨.bl _,H,I,rfl,?_⟩
  rw [show its.toArray.any (eqU x)=its.any (eqU x) by simp,ka r fs]
  exact q
theorem oJ:OpR X (compareOp .NotIn) (rIn X.K true):=by
 intro pins s σ H x y v u Q I rx ry h
 obtain ⟨p,xs,rfl,hq,fx,fs,q⟩:=h
 cases ry
 rcases hq with hq | hq
 .obtain ⟨its,r,pl,hz⟩:=I.list hq
  refine SeqAt.notIn_listAt (eqU x) pl.isList (fun w hw=>iq rx fx r fs w (by simpa using hw)) ⟨.bl _,H,I,rfl,?_⟩
  rw [show its.toArray.any (eqU x)=its.any (eqU x) by simp,ka r fs]
  exact q
 .obtain ⟨its,r,pl,hz⟩:=I.tuple hq
  refine SeqAt.notIn_tupleAt (eqU x) pl (fun w hw=>iq rx fx r fs w (by simpa using hw)) ⟨.bl _,H,I,rfl,?_⟩
  rw [show its.toArray.any (eqU x)=its.any (eqU x) by simp,ka r fs]
  exact q
theorem jw:bX X (.builtin "len") (fun xs H Q=>∃p ys,xs=[.ref p]/\(SqL X.K H p ys\/SqT X.K H p ys)/\Q (.int ys.length) H):=by
 intro pins s σ H xs us Q I r h
 obtain ⟨p,ys,rfl,hq,q⟩:=h
 obtain ⟨u,rfl,rx⟩:=hX r
 cases rx
 have hn:=ma
 rcases hq with hq | hq
 .obtain ⟨its,r',pl,hz⟩:=I.list hq
  have hlen:=r'.length
  exact Calls.call_len_list pl.isList (by simp only [List.size_toArray] <;> omega) ⟨.int ys.length,H,I.tok _,⟨s.toks + 1,by rw [List.size_toArray,hlen]⟩,q⟩
 .obtain ⟨its,r',pl,hz⟩:=I.tuple hq
  have hlen:=r'.length
  exact len_tuple pl (by simp only [List.size_toArray] <;> omega) ⟨.int ys.length,H,I.tok _,⟨s.toks + 1,by rw [List.size_toArray,hlen]⟩,q⟩
theorem oK:bX X (.builtin "len") (fun xs H Q=>∃z,xs=[.str z]/\z.length<=sizeLine/\Q (.int z.length) H):=by
 intro pins s σ H xs us Q I r h
 obtain ⟨z,rfl,hz,q⟩:=h
 obtain ⟨u,rfl,t,rfl⟩:=hX r
 have hn:=ma
 exact len_str (by omega) ⟨.int z.length,H,I.tok _,⟨_,rfl⟩,q⟩
theorem bX.or {f:Value}{r r':List V->Hp->VK->Prop} (h:bX X f r) (h':bX X f r'):bX X f (fun xs H Q=>r xs H Q\/r' xs H Q):=by
 intro pins s σ H xs us Q I rs q
 rcases q with q | q
 .exact h pins s σ H xs us Q I rs q
 .exact h' pins s σ H xs us Q I rs q
theorem oM:bX X (.type "list") (fun xs H Q=>∃p ys,xs=[.ref p]/\(SqL X.K H p ys\/SqT X.K H p ys)/\∀l,H l=none->Q (.ref l) (upd H l (.lst ys))):=by
 intro pins s σ H xs us Q I r h
 obtain ⟨p,ys,rfl,hq,q⟩:=h
 obtain ⟨u,rfl,rx⟩:=hX r
 cases rx
 have fin:∀(its:List Value),bV ys its->ys.length<=sizeLine->∀(h':Heap) (c':Nat),(∀b o',s.heap.get? b=some o'->h'.get? b=some o') ->
   h'.get? s.heap.objs.size=some { cls:=.type "list",dict:=none,data:=.seq its.toArray c',slots:=#[] }->EP X pins σ Q (.ref s.heap.objs.size) { s with heap:=h' }:=fun its r' hz h' c' kp e =>
  ⟨.ref s.heap.objs.size,_,I.laid (t':=s.toks) kp (Nat.le_refl _) (show cr X.prog X.w _ h' _ (.lst ys) from ⟨hz,its,c',r',e⟩),rfl,q _ (I.hok.fresh (Nat.le_refl _))⟩
 rcases hq with hq | hq
 .obtain ⟨its,r',pl,hz⟩:=I.list hq
  have hlen:=r'.length
  obtain ⟨o,ho,hc,n,hd⟩:=pl.isList
  exact call_list_seq p (.inl rfl) ho hc hd (fun h' c' kp e=>fin its r' hz h' c' kp e) (by simp only [List.size_toArray] <;> omega)
 .obtain ⟨its,r',pl,hz⟩:=I.tuple hq
  have hlen:=r'.length
  obtain ⟨o,ho,hc,n,hd⟩:=pl
  exact call_list_seq p (.inr rfl) ho hc hd (fun h' c' kp e=>fin its r' hz h' c' kp e) (by simp only [List.size_toArray] <;> omega)
theorem mR:bX X (.type "tuple") (fun xs H Q=>∃p ys,xs=[.ref p]/\((SqL X.K H p ys/\∀l,H l=none->Q (.ref l) (upd H l (.tup ys)))\/(SqT X.K H p ys/\Q (.ref p) H))):=by
 intro pins s σ H xs us Q I r h
 obtain ⟨p,ys,rfl,h⟩:=h
 obtain ⟨u,rfl,rx⟩:=hX r
 cases rx
 rcases h with ⟨hq,q⟩ | ⟨hq,q⟩
 .obtain ⟨its,r',pl,hz⟩:=I.list hq
  have hlen:=r'.length
  refine call_tuple_list pl.isList (fun h' kp=>?_) (by simp only [List.size_toArray] <;> omega)
  have I1:Inv X pins σ H { s with heap:=h' }:=I.kept (t':=s.toks) kp
  have I2:Inv X pins σ (upd H h'.objs.size (.tup ys)) { s with heap:=h'.push { cls:=.type "tuple",data:=.seq its.toArray } } :=
   I1.laid (t':=s.toks) (fun b o e=>Heap.get?_push_of_some _ e) (Nat.le_refl _) (show cr X.prog X.w _ _ _ (.tup ys) from ⟨hz,its,r',IsTup.new _ _⟩)
  exact ⟨.ref h'.objs.size,_,I2,rfl,q _ (I1.hok.fresh (Nat.le_refl _))⟩
 .obtain ⟨its,r',pl,hz⟩:=I.tuple hq
  exact call_tuple_same pl ⟨.ref p,H,I,rfl,q⟩
def tyV (K:PySem.W.Frag) (T:String) (x:V) (H:Hp):Prop:=match x with
 | .str _=>T="str"
 | .int _=>T="int"
 | .ref p=>(T="list"/\∃xs,SqL K H p xs)\/(T="tuple"/\∃o,K.lookup p=some o/\o.cls=.type "tuple"/\o.dict=none) \/
   (T="dict"/\((∃kvs,H p=some (.dK kvs))\/∃kvs,H p=some (.dT kvs)))\/(T="set"/\∃S n,H p=some (.set S n))
 | _=>False
theorem xP {pins:List (Addr×Obj)}{σ:St}{H:Hp}{s:Shared}{T:String}{x:V}{v:Value} (I:Inv X pins σ H s) (r:di x v) (ty:tyV X.K T x H) :
  s.TypeIs v T/\∀a,v=.ref a->∃ob,s.heap.get? a=some ob/\ob.dict=none:=by
 cases x with
 | str z =>
  obtain ⟨t,rfl⟩:=r
  cases (show T="str" from ty)
  exact ⟨typeIs_str s z t,fun _ e=>nomatch e⟩
 | int i =>
  obtain ⟨t,rfl⟩:=r
  cases (show T="int" from ty)
  exact ⟨typeIs_int s i t,fun _ e=>nomatch e⟩
 | ref p =>
  cases r
  rcases ty with ⟨rfl,xs,hq⟩ | ⟨rfl,o,hk,hc,hd⟩ | ⟨rfl,hk⟩ | ⟨rfl,S,n,hk⟩
  .obtain ⟨its,_,pl,_⟩:=I.list hq
   refine ⟨pl.isList.typeIs,fun a e=>?_⟩
   cases e
   obtain ⟨o,n,e,c,hd,_⟩:=pl
   exact ⟨o,e,hd⟩
  .refine ⟨⟨o,I.kIn p o hk,hc⟩,fun a e=>?_⟩
   cases e
   exact ⟨o,I.kIn _ o hk,hd⟩
  .have z:∃o,s.heap.get? p=some o/\o.ExactDict:=by
    rcases hk with ⟨kvs,hk⟩ | ⟨kvs,hk⟩
    .obtain ⟨_,_,_,_,o,_,_,e,ex,_⟩:=I.hok p _ hk
     exact ⟨o,e,ex⟩
    .obtain ⟨_,_,_,_,o,_,_,e,ex,_⟩:=I.hok p _ hk
     exact ⟨o,e,ex⟩
   obtain ⟨o,e,ex⟩:=z
   refine ⟨⟨o,e,ex.1⟩,fun a e2=>?_⟩
   cases e2
   exact ⟨o,e,ex.2.1⟩
  .obtain ⟨o,_,_,_,e,ex,_⟩:=I.hok p _ hk
   refine ⟨⟨o,e,ex.1⟩,fun a e2=>?_⟩
   cases e2
   exact ⟨o,e,ex.2.1⟩
 | _=>exact False.elim ty
def DO (K:PySem.W.Frag) (T:String) (r:V->List V->Hp->VK->Prop) (to:TE):TE:=fun σ H Q=>to σ H fun x H1=>tyV K T x H1/\r x [] H1 Q
def tBM (K:PySem.W.Frag) (T:String) (r:V->List V->Hp->VK->Prop) (to:TE) (t:TA):TE:=fun σ H Q=>to σ H fun x H1=>tyV K T x H1/\t σ H1 fun xs H2=>r x xs H2 Q
variable {o e:Expr}{es:List Expr}{to:TE}{t:TA}{name:Str}{apos cpos:Pos}{T id:String}{r:V->List V->Hp->VK->Prop}
theorem A3 (pa:PlainAttrs T) (slot:Slot T name id) (hty:typeOf (.builtin id)=pure (.type "method_descriptor")) (hm:MtR X id r) (ho:PE X o to)
  (hbase:attributeBase o name X.env (eval o X.env)=eval o X.env:=by rfl) (hline:(apos.endLine == cpos.line)=true:=by rfl):PE X (.Call (.Attribute o name apos) [] [] cpos) (DO X.K T r to):=by
 intro pins s σ H Q I h
 refine wpAny_Call_method0_late hbase hline (thn (ho pins s σ H _ I h) fun v s1 ⟨x,H1,I1,r1,ty,q1⟩=>?_)
 obtain ⟨h1,h2⟩:=xP I1 r1 ty
 exact ⟨T,id,pa,slot,hty,h1,h2,Calls.callWith_builtin rfl (PySem.evalArgs_none (hm pins s1 σ H1 x [] v [] Q I1 r1 .nil q1))⟩
theorem CW (pa:PlainAttrs T) (slot:Slot T name id) (hty:typeOf (.builtin id)=pure (.type "method_descriptor")) (hm:MtR X id r) (ho:PE X o to) (ha:PA X (e::es) t)
  (hbase:attributeBase o name X.env (eval o X.env)=eval o X.env:=by rfl)
  (hfew:((backTo cpos (starEach (e::es) X.env)).all (fun x=>!x.1) && (backToKw cpos (keywordEach [] X.env)).all (fun x=>x.1.isSome)
   && decide ((e::es).length + ([]:List Keyword).length + (if ([]:List Keyword).isEmpty then 0 else 1) < 30))=true:=by rfl)
  (hline:(apos.endLine == cpos.line)=true:=by rfl) (hs:starEach (e::es) X.env=(false,eval e X.env)::starEach es X.env:=by rfl) (hplain:(backTo cpos (starEach es X.env)).any (·.1)=false:=by rfl) :
  PE X (.Call (.Attribute o name apos) (e::es) [] cpos) (tBM X.K T r to t):=by
 intro pins s σ H Q I h
 refine wpAny_Call_method_late hbase hfew hline rfl (thn (ho pins s σ H _ I h) fun v s1 ⟨x,H1,I1,r1,ty,q1⟩=>?_)
 obtain ⟨h1,h2⟩:=xP I1 r1 ty
 refine ⟨T,id,pa,slot,hty,h1,h2,?_⟩
 have hA:=ha cpos pins s1 σ H1 _ I1 q1
 rw [hs] at hA ⊢
 refine Calls.callWith_builtin (by show (false || (backTo cpos (starEach es X.env)).any (·.1))=false;rw [hplain] <;> rfl) (Calls.evalArgs_plain ?_)
 exact thn hA fun us s2 ⟨vs,H2,I2,r2,q2⟩=>hm pins s2 σ H2 x vs v us Q I2 r1 r2 q2
end
def MtM (X:Cx) (id:String) (r:V->List V->Hp->VK->Prop):Prop :=
 ∀(pins:List (Addr×Obj)) (s:Shared) (σ:St) (H:Hp) (x:V) (xs:List V) (v:Value) (us:List Value) (Q:VK),Inv X pins σ H s->di x v->bV xs us->r x xs H Q ->
  wpAny (model X.prog X.w) X.A (call (.builtin id) (v::us)) (EP X pins σ Q) X.xe s
theorem bV.one:∀{x:V}{us:List Value},bV [x] us->∃u,us=[u]/\di x u
 | _,_,.cons r .nil=>⟨_,rfl,r⟩
theorem bV.zero:∀{us:List Value},bV [] us->us=[]
 | _,.nil=>rfl
theorem bV.dropLast {xs:List V}{us:List Value} (h:bV xs us):bV xs.dropLast us.dropLast:=by
 induction h with
 | nil=>exact .nil
 | cons r t ih =>
  cases t with
  | nil=>exact .nil
  | cons q t'=>exact .cons r ih
theorem bV.reverse {xs:List V}{us:List Value} (h:bV xs us):bV xs.reverse us.reverse:=by
 induction h with
 | nil=>exact .nil
 | cons r t ih=>rw [List.reverse_cons,List.reverse_cons];exact bV.append ih (.cons r .nil)
theorem bV.rep {xs:List V}{us:List Value} (h:bV xs us):∀k:Nat,bV (List.replicate k xs).flatten (List.replicate k us).flatten
 | 0=>.nil
 | k + 1=>by
  rw [List.replicate_succ,List.replicate_succ,List.flatten_cons,List.flatten_cons]
  exact bV.append h (bV.rep h k)
theorem sK {α:Type} (l:List α):l.eraseIdx (l.length - 1)=l.dropLast:=by
 induction l with
 | nil=>rfl
 | cons a r ih =>
  cases r with
  | nil=>rfl
  | cons b r =>
   have e:(a::b::r).length - 1=((b::r).length - 1) + 1:=by
    have h1:(a::b::r).length=r.length + 2:=rfl
    have h2:(b::r).length=r.length + 1:=rfl
    omega
   rw [e,List.eraseIdx_cons_succ,ih]
   all_goals rfl
theorem oN (its:List Value):∀(k:Nat) (acc:List Value),
  List.foldl (fun x1 x2=>x1++x2) acc.toArray (List.replicate k its.toArray)=(acc++(List.replicate k its).flatten).toArray
 | 0,acc=>by simp
 | k + 1,acc=>by
  have e:acc.toArray++its.toArray=(acc++its).toArray:=by simp
  have e2:(acc++its)++(List.replicate k its).flatten=acc++(List.replicate (k + 1) its).flatten:=by
   rw [List.replicate_succ,List.flatten_cons,List.append_assoc]
  rw [<- e2,<- oN its k (acc++its),<- e,List.replicate_succ,List.foldl_cons]
section
variable {X:Cx}{pins:List (Addr×Obj)}{σ:St}{H:Hp}{s:Shared}{l b:Addr}{xs ys zs:List V}
theorem Inv.lset {its its':List Value}{n:Nat}{f:Array Value->Array Value}{t':Nat} (I:Inv X pins σ H s) (hH:H l=some (.lst xs))
  (e:s.heap.get? l=some { cls:=.type "list",data:=.seq its.toArray n }) (hf:f its.toArray=its'.toArray) (hv:bV ys its') (hz:ys.length<=sizeLine) :
  Inv X pins σ (upd H l (.lst ys)) { s with heap:=s.heap.update l (Obj.mapSeq f),toks:=t' }:=by
 have q:=PySem.IsL.update e f
 rw [hf] at q
 refine I.write (x:=l) (e:=l) (by rw [hH];exact trivial) (.inl rfl) (fun b' u hb hu=>(Heap.get?_update_other s.heap (Obj.mapSeq f) (Ne.symm hb)).trans hu) ⟨_,q⟩ ?_
 exact ⟨hz,its',_,hv,q⟩
theorem Inv.lnew {its:List Value}{t':Nat} (I:Inv X pins σ H s) (hv:bV ys its) (hz:ys.length<=sizeLine) :
  Inv X pins σ (upd H s.heap.objs.size (.lst ys)) { s with heap:=s.heap.push { cls:=.type "list",data:=.seq its.toArray },toks:=t' } :=
 I.laid (fun _ _ q=>Heap.get?_push_of_some _ q) (Nat.le_refl _) ⟨hz,its,0,hv,Heap.get?_push_size _ rfl⟩
theorem Inv.fresh (I:Inv X pins σ H s):H s.heap.objs.size=none:=I.hok.fresh (Nat.le_refl _)
theorem Inv.lstM (I:Inv X pins σ H s) (hH:H l=some (.lst xs)):xs.length<=sizeLine/\∃(its:List Value) (n:Nat),bV xs its/\xs.length=its.length/\s.heap.get? l=some { cls:=.type "list",data:=.seq its.toArray n }:=by
 obtain ⟨z,its,n,r,e⟩:=I.hok l _ hH
 exact ⟨z,its,n,r,r.length,e⟩
theorem wG {n:Nat} (h:n<=sizeLine):Builtin.List.listTooLong n=false:=by
 unfold Builtin.List.listTooLong
 exact decide_eq_false (by omega)
end
section
variable {X:Cx}
def uC:V->List V->Hp->VK->Prop:=fun x vs H Q=>∃l xs y,x=.ref l/\vs=[y]/\H l=some (.lst xs)/\xs.length < sizeLine/\Q .non (upd H l (.lst (xs++[y])))
theorem dS:MtM X "list.append" uC:=by
 intro pins s σ H x vs v us Q I rx rv h
 obtain ⟨l,xs,y,rfl,rfl,hH,hz,q⟩:=h
 cases rx
 obtain ⟨u,rfl,ru⟩:=rv.one
 obtain ⟨z,its,n,r,hl,e⟩:=I.lstM hH
 refine call_meets F.slot_list_append ⟨_,e,rfl⟩ F.entry_list_append (F.args_list_append_2 _ _) (PySem.list_append l its.toArray n u (by rw [List.size_toArray];omega)) ⟨e,?_⟩
 refine ⟨.non,_,I.lset (its':=its++[u]) hH e (by simp) (r.append (.cons ru .nil)) ?_,rfl,q⟩
 rw [List.length_append,List.length_singleton]
 omega
def DP:V->List V->Hp->VK->Prop:=fun x vs H Q=>∃l xs y,x=.ref l/\vs=[]/\H l=some (.lst xs)/\xs[xs.length - 1]?=some y/\Q y (upd H l (.lst xs.dropLast))
theorem A4:MtM X "list.pop" DP:=by
 intro pins s σ H x vs v us Q I rx rv h
 obtain ⟨l,xs,y,rfl,rfl,hH,hy,q⟩:=h
 cases rx
 have hus:=rv.zero
 subst hus
 obtain ⟨z,its,n,r,hl,e⟩:=I.lstM hH
 obtain ⟨u,hu,ru⟩:=r.get hy
 have hy':its.toArray[its.toArray.size - 1]?=some u:=by
  show its.toArray[its.length - 1]?=some u
  rw [<- Array.getElem?_toList,<- hl]
  exact hu
 refine call_meets F.slot_list_pop ⟨_,e,rfl⟩ F.entry_list_pop (F.args_list_pop_1 _) (MeetsSeq.list_pop_last l its.toArray n u hy' (by rw [List.size_toArray];omega)) ⟨e,?_⟩
 refine ⟨y,_,I.lset (its':=its.dropLast) hH e ?_ r.dropLast ?_,ru,q⟩
 .show its.toArray.eraseIdxIfInBounds (its.toArray.size - 1)=its.dropLast.toArray
  rw [List.size_toArray,List.eraseIdxIfInBounds_toArray,sK]
 .rw [List.length_dropLast]
  omega
def DQ:R2:=fun x y H Q=>∃l k xs,x=.ref l/\y=.int k/\H l=some (.lst xs)/\-(2 ^ 63)<=k/\k < 2 ^ 63/\xs.length * k.toNat<=sizeLine /\
 ∀p,H p=none->Q (.ref p) (upd H p (.lst (List.replicate k.toNat xs).flatten))
theorem yO {α:Type} (xs:List α) (k:Nat):(List.replicate k xs).flatten.length=k * xs.length:=by
 induction k with
 | zero=>simp
 | succ k ih=>rw [List.replicate_succ,List.flatten_cons,List.length_append,ih,Nat.succ_mul,Nat.add_comm]
theorem A5:OpR X (binaryOp .Mult) DQ:=by
 intro pins s σ H x y v u Q I rx ry h
 obtain ⟨l,k,xs,rfl,rfl,hH,h1,h2,hz,q⟩:=h
 cases rx
 obtain ⟨t,rfl⟩:=ry
 obtain ⟨z,its,n,r,hl,e⟩:=I.lstM hH
 have hlen:its.toArray.size * k.toNat<=sizeLine:=by rw [List.size_toArray,<- hl];exact hz
 have hcap:¬ its.toArray.size * k.toNat > (2 ^ 63 - 1) / 8:=by
  have:(sizeLine:Nat)<=(2 ^ 63 - 1) / 8:=by decide
  omega
 have hfit:¬ (!Builtin.List.listFitsIndex k)=true:=by
  rw [fitsIndex_both h1 h2]
  exact Bool.false_ne_true
 have hlong:¬ Builtin.List.listTooLong (its.toArray.size * k.toNat)=true:=by
  rw [wG hlen]
  exact Bool.false_ne_true
 have hnew:List.foldl (fun x1 x2=>x1++x2) #[] (List.replicate (if its.toArray.isEmpty=true then 0 else k.toNat) its.toArray)=(List.replicate k.toNat its).flatten.toArray:=by
  have f0:∀m:Nat,List.foldl (fun x1 x2=>x1++x2) #[] (List.replicate m its.toArray)=(List.replicate m its).flatten.toArray:=fun m=>by
   have:=oN its m []
   rw [List.nil_append] at this
   exact this
  rw [f0]
  cases its with
  | nil=>simp
  | cons a r'=>rw [if_neg (by simp)]
 refine wpAny_binaryOp_repeat_ref (T:="list") (U:="int") (by decide) ⟨_,e,rfl⟩ (fun s'=>typeIs_int s' k t) noFill_list_mul F.fills_int_mul F.slot_int_rmul repeat_list F.slot_int_index.lookup
  (call_meets F.slot_int_rmul (typeIs_int s k t) F.entry_int_rmul (F.args_int_rmul_2 _ _) (int___rmul___int_list k t l its.toArray n)
   ⟨e,rfl,⟨_,e,rfl⟩,call_meets F.slot_list_mul ⟨_,e,rfl⟩ F.entry_list_mul (F.args_list_mul_2 _ _) (AutoListH.list___mul___list_int_3 l its.toArray n k t hfit hcap hlong) ⟨e,?_⟩⟩)
 rw [hnew]
 exact ⟨.ref _,_,I.lnew (t':=s.toks) (r.rep k.toNat) (by rw [yO,Nat.mul_comm];exact hz),rfl,q _ I.fresh⟩
end
end L2
namespace Att
open PySem PySem.W PySem.Calls PyProof.Rows
theorem kc {P:Params}{h:Heap}:∀(ns:List Int) (vs:List Value),WellAll P h vs (ns.map WData.int)->IntsAre vs ns:=by
 intro ns
 induction ns with
 | nil =>
  intro vs w
  rw [List.map_nil] at w
  cases w
  exact .nil
 | cons n ns ih =>
  intro vs w
  rw [List.map_cons] at w
  cases w with
  | cons a b =>
   cases a
   exact .cons _ _ (ih _ b)
theorem uD {l:OpenLaw}{n:Nat} (hn:l.most=some n) {P:Params}{h:Heap}{args:List WData}{vals:List Value}
  (hpre:l.row.toRowW.claim.pre args=true) (hwl:WellAll P h vals args) :
  ∃a vs ns,vals=[Value.ref a]/\args=[WData.list (ns.map WData.int)]/\h.get? a=some { cls:=.type "list",data:=.seq vs.toArray }/\IntsAre vs ns/\ns.length<=n:=by
 have hsh:WShape.hasAll [] args [.list .int]=true:=(pre_splitW hpre).1
 have hc:l.pre.holds [] { args:=args }=true:=(pre_splitW hpre).2
 obtain ⟨d,r,rfl,h1,h2⟩:=hasAllW_cons hsh
 obtain rfl:=hasAllW_nil h2
 obtain ⟨xs,rfl,h3⟩:=hasW_list h1
 obtain ⟨ns,rfl⟩:=items_int h3
 have hlen:ns.length<=n:=by
  unfold OpenLaw.pre at hc
  have h4:(WTm.not (.lt (.lit (.int (n:Int))) (.len (.arg 0)))).holds [] { args:=[.list (ns.map .int)] }=true:=by
   have h4:=(holds_andW hc).1
   rw [hn] at h4
   exact h4
  have h5:=condW_of h4 (w_not (w_lt w_lit (w_len_list (w_arg rfl))))
  rw [List.length_map] at h5
  refine Nat.le_of_not_lt fun q=>?_
  have q':(n:Int) < ((ns.length:Nat):Int):=by omega
  first
   | (rw [decide_eq_true q'] at h5;exact absurd h5 (by decide))
   | (simp at h5;omega)
 cases hwl with
 | cons w1 w2 =>
  cases w2
  cases w1 with
  | list ho hall=>exact ⟨_,_,ns,rfl,rfl,ho,kc ns _ hall,hlen⟩
theorem uE (l:OpenLaw) (args:List WData):l.row.toRowW.claim.post args (.bool true) args=true :=
 postW_of (r:=l.row.toRowW) (X:=(true == true))
  (show WShape.has [] (.bool true) .bool=true by first | rfl | decide | simp [WShape.has,WShape.arms,WShape.armsAll])
  (show (WTm.eq .res (.lit (.bool true))).value [] { args:=args,res:=some (.bool true),after:=args }=some (.bool (true == true)) from w_eq_bool (w_res rfl) w_lit) rfl
theorem attach_call {l:OpenLaw}{n:Nat}{q:Program}{loose:List Str}{XP:(Str->Option Value)->Heap->Prop}{YP:World->Heap->Prop}{d:DefRec}
  (hn:l.most=some n) (hdf:d.params.defaults=[])
  (call:∀(w:World) (s₀ s₁:Shared) (mg mb:Str->Option Value) (fa:Addr) (o:Obj) (pm cd doc:Value) (a:Addr) (vs:List Value) (ns:List Int),
   Ground q loose [] XP w s₀ mg mb s₁.heap->YP w s₁.heap ->
   s₁.heap.get? fa=some o->o.data=.func (docDef d.name d.params d.body d.scope pm cd doc)->s₁.heap.CodeRec cd d.name->mg d.name=some (.ref fa) ->
   s₁.heap.get? a=some { cls:=.type "list",data:=.seq vs.toArray }->IntsAre vs ns->ns.length<=n->s₁.gens=#[] ->
   codeAny (model l.prog w) callerA (.call (.ref fa) ⟨[.ref a],[]⟩) (fun r s'=>r=.ok (.ret (.bool true))/\OldK s₁.heap s'.heap/\s'.os=s₁.os/\AllBare s'.gens) s₁) :
  WalkO q loose XP YP l.row.toRowW d [] (fun f vs=>PySem.call f vs):=by
 intro w s₀ s₁ mg mb G Y fa o pm cd doc dV kV ho hd hcd hD hmg hg args vals as hpre hlay hrd hwl hlo
 obtain rfl:dV=.none:=Dflts.none hD hdf
 obtain rfl:kV=.none:=Dflts.noKw hD
 obtain ⟨a,vs,ns,rfl,rfl,hobj,hints,hlen⟩:=uD hn hpre hwl
 refine enter_call (codeAny_mono (call w s₀ s₁ mg mb fa o pm cd doc a vs ns G Y ho (fd_plain hd) hcd hmg hobj hints hlen hg) fun r s' hq=>?_)
 obtain ⟨rfl,h2,h3,h4⟩:=hq
 exact ⟨.inl ⟨.bool true,.bool true,[],rfl,fun _=>rfl,.bool true,uE l _,fun _=>⟨List.Pairwise.nil,fun _ hm=>(nomatch hm)⟩⟩,h2,h3,h4⟩
end Att
namespace L2
open PySem PySem.Spec PyProof.Rows
theorem oO:∀{vs:List Value}{ns:List Int},IntsAre vs ns->bV (ns.map V.int) vs
 | _,_,.nil=>.nil
 | _,_,.cons n t h=>.cons ⟨t,rfl⟩ (oO h)
def CY (H:Hp):Prop:=∀b,H b=none\/∃o xs,H b=some (.frz o (.lst xs))
theorem wH {P:Program}{w:World}{K:PySem.W.Frag}{mg mb:Str->Option Value}{CX:CXT}{k:Nat}{fa a:Addr}{fd:FuncData}{x:Str}{sp:Sp}{s₁:Shared}{vs:List Value}{ns:List Int}
  (KX:K.In s₁.heap) (hns:s₁.heap.Ns mainGlobals mg) (hb:s₁.heap.Ns builtinsNs mb) (hbb:∀x:Str,x≠"__name__"->mb x=bootBuiltins x) (hlim:s₁.heap.NoLimit) (hg:s₁.gens=#[])
  (ha:s₁.heap.get? a=some { cls:=.type "list",data:=.seq vs.toArray }) (hi:IntsAre vs ns) (hl:ns.length<=sizeLine) (hr:fR k callerA)
  (F:∀base:Heap,K.In base->base.Ns mainGlobals mg->mf P w K mg base CX k fa fd [x] sp) (hbind:∀(s:Shared) (u:Value),BindsTo s fd ⟨[u],[]⟩ [(x,u)])
  (hsp:∀H:Hp,CY H->SqL K H a (ns.map V.int)->sp [.ref a] H (fun v _=>v=.bl true) fun _ _ _=>False)
  (hCX:∀H e s',CX [] H s₁ (fun _ _ _=>False) e s'->False) :
  codeAny (model P w) callerA (.call (.ref fa) ⟨[.ref a],[]⟩) (fun r s'=>r=.ok (.ret (.bool true))/\OldK s₁.heap s'.heap/\s'.os=s₁.os/\AllBare s'.gens) s₁:=by
 have rv:=oO hi
 have lenV:=hi.length
 -- from an abstract heap in which nothing but the script may be tracked
 have core:∀H:Hp,CY H->SqL K H a (ns.map V.int)->HOk P w H s₁.heap->(∀b,H b≠none->b=a)->(H a≠none->K.lookup a=none) ->
   codeAny (model P w) callerA (.call (.ref fa) ⟨[.ref a],[]⟩) (fun r s'=>r=.ok (.ret (.bool true))/\OldK s₁.heap s'.heap/\s'.os=s₁.os/\AllBare s'.gens) s₁:=by
  intro H hO hS hok hA hK
  have base_of:∀{b:Addr}{o:Obj},s₁.heap.get? b=some o->H b=none->(wp s₁.heap H).get? b=some o:=fun e n=>wq e n
  have noA:∀{b:Addr}{o:Obj}{es:Array DictEntry}{ep:Nat},s₁.heap.get? b=some o->o.data=.dict es ep->H b=none:=fun {b o es ep} e d=>by
   cases q:H b with
   | none=>rfl
   | some u =>
    have e':b=a:=hA b (by rw [q];simp)
    subst e'
    rw [ha] at e;cases e
    have d':Data.seq vs.toArray _=Data.dict es ep:=d
    cases d'
  have nsK:∀{b:Addr}{m:Str->Option Value},s₁.heap.Ns b m->(wp s₁.heap H).Ns b m:=fun {b m} ⟨o,es,ep,e,d,r⟩=>⟨o,es,ep,base_of e (noA e d),d,r⟩
  have hKb:K.In (wp s₁.heap H):=fun b o e=>base_of (KX b o e) (by
   cases q:H b with
   | none=>rfl
   | some u =>
    have e':b=a:=hA b (by rw [q];simp)
    subst e'
    rw [hK (by rw [q];simp)] at e;cases e)
  have hM:Mod K mg (wp s₁.heap H):=⟨hKb,nsK hns,⟨mb,nsK hb,hbb⟩,let ⟨mc,h1,h2⟩:=hlim;⟨mc,nsK h1,h2⟩⟩
  have e0:yF P w K mg (wp s₁.heap H) callerA [] s₁ H:=⟨rfl,hM,fun b o e=>yt e,Nat.le_of_eq (t5 _ _),trivial,fun b hb=>absurd (show b∈([]:List Addr) from hb) (by simp),hok,.of_eq hg⟩
  refine codeAny_mono ((F _ hKb (nsK hns)).run callerA [] s₁ H ⟨[.ref a],[]⟩ [.ref a] [.ref a] _ _ hr e0 (hbind s₁ (.ref a)) (.cons rfl .nil) (hsp H hO hS)) fun r s' h=>?_
  cases r with
  | error e=>exact (hCX H e s' h).elim
  | ok fl =>
   cases fl with
   | next=>exact False.elim h
   | brk=>exact False.elim h
   | cont=>exact False.elim h
   | ret u =>
    obtain ⟨v,H',os,bare,un,hok',r',q⟩:=h
    have q':v=.bl true:=q
    subst q'
    obtain rfl:u=Value.bool true:=r'
    refine ⟨rfl,OldK.of_keep fun b o e=>?_,os,bare⟩
    cases q:H b with
    | none=>exact un.keep b o e q (by intro z;exact absurd (show b∈([]:List Addr) from z) (by simp)) (by simp)
    | some u =>
     rcases hO b with z | ⟨ob,xs,z⟩
     .rw [q] at z;cases z
     .have z2:=un.frzs b ob _ z
      obtain ⟨e1,_⟩:=hok b _ z
      obtain ⟨e2,_⟩:=hok' b _ z2
      rw [e] at e1;cases e1
      exact e2
 cases hk:K.lookup a with
 | some o =>
  -- the script is one of the module's own objects
  have e:=KX a o hk
  rw [ha] at e
  cases e
  refine core (fun _=>none) (fun _=>.inl rfl) (.inr ⟨_,vs.toArray,_,hk,rfl,rfl,rfl,by rw [List.size_toArray,lenV];exact hl,by simpa using rv⟩) (fun b u z=>by have z':(none:Option HO)=some u:=z;cases z') (fun b z=>absurd rfl z) fun z=>absurd rfl z
 | none =>
  refine core (fun b=>if b=a then some (.frz { cls:=.type "list",data:=.seq vs.toArray } (.lst (ns.map V.int))) else none) (fun b=>?_) (.inl (.inr ⟨{ cls:=.type "list",data:=.seq vs.toArray },if_pos rfl⟩)) (fun b u z=>?_) (fun b z=>?_) fun _=>hk
  .by_cases hb:b=a
   .exact .inr ⟨_,_,if_pos hb⟩
   .exact .inl (if_neg hb)
  .by_cases hb:b=a
   .have z':=(if_pos hb).symm.trans z
    cases z'
    subst hb
    exact ⟨ha,by rw [List.length_map];exact hl,vs,_,rv,ha⟩
   .have z':=(if_neg hb).symm.trans z
    cases z'
  .by_cases hb:b=a
   .exact hb
   .exact absurd (if_neg hb) z
theorem yP {l:PySem.W.OpenLaw}{n k:Nat}{q:Program}{loose:List Str}{XP:(Str->Option Value)->Heap->Prop}{YP:World->Heap->Prop}{d:DefRec}{K:Params->PySem.W.Frag}{CX:World->CXT}{sp:World->Sp}{x:Str}
  (hn:l.most=some n) (hn2:n<=sizeLine) (hdf:d.params.defaults=[]) (hr:fR k callerA)
  (hY:∀(w:World) (h:Heap),YP w h->(K w.params).In h)
  (F:∀(w:World) (mg:Str->Option Value) (fa:Addr) (h:Heap),(K w.params).In h->h.Ns mainGlobals mg->mg d.name=some (.ref fa) ->
   ∃fd:FuncData,(∀(s:Shared) (u:Value),BindsTo s fd ⟨[u],[]⟩ [(x,u)]) /\
    ∀base:Heap,(K w.params).In base->base.Ns mainGlobals mg->mf l.prog w (K w.params) mg base (CX w) k fa fd [x] (sp w))
  (hsp:∀(w:World) (H:Hp) (a:Addr) (ns:List Int),ns.length<=n->CY H->SqL (K w.params) H a (ns.map V.int)->sp w [.ref a] H (fun v _=>v=.bl true) fun _ _ _=>False)
  (hCX:∀(w:World) (H:Hp) (s:Shared) (e:Value) (s':Shared),CX w [] H s (fun _ _ _=>False) e s'->False) :
  PySem.W.WalkO q loose XP YP l.row.toRowW d [] (fun f vs=>PySem.call f vs):=by
 refine Att.attach_call hn hdf fun w s₀ s₁ mg mb fa o pm cd doc a vs ns G Y ho hd hcd hmg hobj hints hlen hg=>?_
 have KX:=hY w _ Y
 obtain ⟨fd,hb,hF⟩:=F w mg fa _ KX G.T.g hmg
 exact wH KX G.T.g G.T.b G.T.builtins G.T.nolimit hg hobj hints (Nat.le_trans hlen hn2) hr hF hb (fun H hO hS=>hsp w H a ns hlen hO hS) fun H e s'=>hCX w H s₁ e s'
def mS (s:Stmt) (j:Nat):Stmt:=match s with
 | .ClassDef _ _ _ body _ _ _ _ _ _ _=>body.getD j (.Pass ⟨0,0,0,0⟩)
 | _=>.Pass ⟨0,0,0,0⟩
def cu (s:Stmt):Arguments:=match s with
 | .FunctionDef _ a _ _ _ _ _ _ _ _=>a
 | _=>{ posonlyargs:=[],args:=[],vararg:=none,kwonlyargs:=[],kw_defaults:=[],kwarg:=none,defaults:=[] }
def bE (s:Stmt):List Stmt:=match s with
 | .FunctionDef _ _ b _ _ _ _ _ _ _=>b
 | _=>[]
def ao (s:Stmt):Scope:=match s with
 | .FunctionDef _ _ _ _ _ _ sc _ _ _=>sc
 | _=>{ kind:=.function,names:=[],isGenerator:=false,isCoroutine:=false }
abbrev CX0:CXT:=fun _ _ _ _ _ _=>False
abbrev E0:XK:=fun _ _ _=>False
theorem wI {X:Cx}:mh CX0 X E0:=fun _ _ _ _ _ _ _ h=>h.elim
structure Fun (K:PySem.W.Frag) (x qual:Str) (st:Stmt) (f:Addr) (fd:FuncData):Prop where
 ex:∃(oc:Value) (od:Option Addr) (kV doc pm:Value) (an:Option Addr) (cdv ct:Value) (osl:Array (Option Value)),
  fd=PySem.W.fnOf x qual (cu st) (bE st) (ao st) .none kV doc pm an cdv ct/\K.lookup f=some ⟨oc,od,.func fd,osl⟩/\PySem.W.codeIn K cdv qual=true
 kp:PySem.W.keepIn K (.ref f)=true
section
variable {P:Program}{w:World}{K:PySem.W.Frag}{mg:Str->Option Value}{base:Heap}
theorem Fun.ok {x qual:Str}{st:Stmt}{f:Addr}{fd:FuncData}{N ps:List Str}{k:Nat}{sp:Sp} (F:Fun K x qual st f fd) (S:aK N ps (ao st)) (len:∀vs H Q E,sp vs H Q E->vs.length=ps.length)
  (hbody:∀(cdv:Value) (A:Around) (outer:List Env) (s:Shared) (H:Hp) (vs:List V) (Q:VK) (E:XK),fR k (A.deeper (envOfC qual (ao st) s.heap.objs.size f cdv))->sp vs H Q E ->
   ∃t,PSs (uu CX0 P w K mg base N qual (ao st) f cdv A outer s H E).nox (bE st) t/\t { nx:=fun _ H'=>Q .non H',rt:=Q } (start N vs) H):mf P w K mg base CX0 (k + 1) f fd ps sp:=by
 obtain ⟨oc,od,kV,doc,pm,an,cdv,ct,osl,rfl,lk,hcd⟩:=F.ex
 refine AW lk hcd S len fun A outer s H vs Q E hr hsp=>?_
 obtain ⟨t,h,q⟩:=hbody cdv A outer s H vs Q E hr hsp
 exact ⟨t,h.nox,q⟩
theorem Fun.binds {x qual:Str}{st:Stmt}{f:Addr}{fd:FuncData}{ps:List Str} (F:Fun K x qual st f fd)
  (h:∀(kV doc pm:Value) (an:Option Addr) (cdv ct:Value) (us:List Value),us.length=ps.length->bindArgs (PySem.W.fnOf x qual (cu st) (bE st) (ao st) .none kV doc pm an cdv ct) ⟨us,[]⟩=pure (ps.zip us)):i3 K fd ps []:=by
 obtain ⟨oc,od,kV,doc,pm,an,cdv,ct,osl,rfl,lk,hcd⟩:=F.ex
 exact .all (h kV doc pm an cdv ct)
theorem oP {x qual:Str}{st:Stmt}{f:Addr}{oc:Value}{od an:Option Addr}{osl:Array (Option Value)}{kV doc pm cdv ct:Value} (l:K.lookup f=some ⟨oc,od,.func (PySem.W.fnOf x qual (cu st) (bE st) (ao st) .none kV doc pm an cdv ct),osl⟩)
  (c:PySem.W.codeIn K cdv qual=true) (k:PySem.W.keepIn K (.ref f)=true):Fun K x qual st f (PySem.W.fnOf x qual (cu st) (bE st) (ao st) .none kV doc pm an cdv ct):=⟨⟨oc,od,kV,doc,pm,an,cdv,ct,osl,rfl,l,c⟩,k⟩
end
section
variable {X:Cx}
theorem pv (i:Nat) {x:Str}{pos:Pos} (hN:X.N[i]?=some x:=by rfl) (hv:Vis X.env.scope x:=by first | exact Or.inl rfl | exact Or.inr (Or.inl rfl) | exact Or.inr (Or.inr rfl)) (hd:(x == ("__debug__":Str))=false:=by decide)
  (hcd:(x == ("__classdict__":Str))=false:=by decide):PE X (.Name x pos) (a4 i):=AC hN hv hd hcd
end
def S (l:List Nat):Str:=⟨l.toArray⟩
theorem gI (l:List Nat):(S l).length=l.length:=by simp [S,Str.length]
theorem CZ (a b:List Nat):S a++S b=S (a++b):=by
 show (⟨a.toArray++b.toArray⟩:Str)=⟨(a++b).toArray⟩
 rw [List.append_toArray]
theorem A6 {a b:List Nat} (h:S a=S b):a=b:=by
 have h':=congrArg (fun x:Str=>x.cps.toList) h
 simpa [S] using h'
theorem Eg {a b:List Nat} (h:a≠b):S a≠S b:=fun e=>h (A6 e)
theorem A7 {a b:List Nat}:V.str (S a)=V.str (S b) ↔ a=b:=⟨fun h=>A6 (V.str.inj h),fun h=>by rw [h]⟩
theorem A8 (a b:List Nat):decide (V.str (S a)=V.str (S b))=decide (a=b):=by
 by_cases h:a=b
 .rw [decide_eq_true h,decide_eq_true (A7.mpr h)]
 .rw [decide_eq_false h,decide_eq_false (fun z=>h (A7.mp z))]
def e6 {α:Type} (xs:List α) (lo hi:Option Int):List α:=(xs.drop (HT.sIx xs.length 0 lo)).take (HT.sIx xs.length xs.length hi - HT.sIx xs.length 0 lo)
theorem lC {α:Type} (xs:List α) (lo hi:Option Int):(e6 xs lo hi).length<=xs.length:=by
 unfold e6
 rw [List.length_take,List.length_drop]
 omega
theorem uF (xs:List V) (lo hi:Option Int):yI xs lo hi=e6 xs lo hi:=rfl
theorem A9 (lo hi:Option Int) (n:Nat):Builtin.Str.strSliceIndices lo hi 1 n=(List.range (HT.sIx n n hi - HT.sIx n 0 lo)).map (fun k=>HT.sIx n 0 lo + k):=by
 have key:∀(o:Option Int) (d:Nat),d<=n->(match o with | none=>(d:Int) | some i=>max 0 (min (if i < 0 then i + (n:Int) else i) (n:Int)))=((HT.sIx n d o:Nat):Int):=by
  intro o d hd
  cases o with
  | none=>rfl
  | some i =>
   show max 0 (min (if i < 0 then i + (n:Int) else i) (n:Int))=_
   rw [<- HT.clip_eq i n d]
   by_cases h:i < 0
   .rw [if_pos h,if_pos h];omega
   .rw [if_neg h,if_neg h];omega
 have k1:=key lo 0 (Nat.zero_le _)
 have k2:=key hi n (Nat.le_refl _)
 unfold Builtin.Str.strSliceIndices
 simp only [show (1:Int) > 0 by decide,if_true]
 refine Eq.trans (congrArg (fun a=>sliceRange a _ 1) k1) (Eq.trans (congrArg (fun b=>sliceRange _ b 1) k2) ?_)
 unfold sliceRange
 simp only [show (1:Int) > 0 by decide,if_true]
 generalize HT.sIx n 0 lo=a
 generalize HT.sIx n n hi=b
 have ec:(if (a:Int) < (b:Int) then ((b:Int) - (a:Int) + 1 - 1) / 1 else 0).toNat=b - a:=by
  split <;> omega
 rw [ec]
 apply List.map_congr_left
 intro k _
 omega
theorem uG {α:Type} (l:List α) (a m:Nat):((List.range m).map (fun k=>a + k)).filterMap (fun i=>l[i]?)=(l.drop a).take m:=by
 induction m generalizing a with
 | zero=>simp
 | succ m ih =>
  rw [List.range_succ_eq_map,List.map_cons,List.map_map,List.filterMap_cons]
  have e:((fun k=>a + k) ∘ Nat.succ)=fun k=>(a + 1) + k:=by funext k;simp;omega
  rw [e,ih (a + 1)]
  cases h:l[a + 0]? with
  | none =>
   have hl:l.length<=a:=by simpa using List.getElem?_eq_none_iff.mp h
   rw [List.drop_eq_nil_of_le hl,List.drop_eq_nil_of_le (by omega)];simp
  | some v =>
   have hl:a < l.length:=by simpa using (List.getElem?_eq_some_iff.mp h).1
   have hv:l[a]=v:=by simpa using (List.getElem?_eq_some_iff.mp h).2
   rw [List.drop_eq_getElem_cons hl,hv];rfl
theorem yQ (l:List Nat) (lo hi:Option Int):Txt.slice (S l) lo hi=S (e6 l lo hi):=by
 have e1:(Builtin.Str.strSliceIndices lo hi 1 (S l).length).filterMap ((S l).cps[·]?)=e6 l lo hi:=by
  rw [A9,gI]
  have e:(fun i:Nat=>(S l).cps[i]?)=fun i:Nat=>l[i]?:=by funext i;simp [S]
  rw [e]
  exact uG l _ _
 unfold Txt.slice
 split
 .rename_i h
  have h2:(Builtin.Str.strSliceIndices lo hi 1 (S l).length).length=(S l).length:=by simpa using h
  rw [A9,gI,List.length_map,List.length_range] at h2
  have a0:=HT.sIx_le l.length 0 (Nat.zero_le _) lo
  have b0:=HT.sIx_le l.length l.length (Nat.le_refl _) hi
  unfold e6
  by_cases hz:l.length=0
  .have:l=[]:=List.length_eq_zero_iff.mp hz
   subst this;simp
  .have ha:HT.sIx l.length 0 lo=0:=by omega
   have hb:HT.sIx l.length l.length hi=l.length:=by omega
   rw [ha,hb]
   simp
 .rw [e1];rfl
theorem kd {α:Type} (l:List α) (k:Nat):e6 l none (some (k:Int))=l.take k:=by
 unfold e6
 rw [HT.sIx_nat]
 show (l.drop 0).take (min k l.length - 0)=l.take k
 rw [List.drop_zero,Nat.sub_zero]
 by_cases h:k<=l.length
 .rw [Nat.min_eq_left h]
 .rw [Nat.min_eq_right (by omega),List.take_of_length_le (Nat.le_refl _),List.take_of_length_le (by omega)]
theorem oQ {α:Type} (l:List α) (k:Nat):e6 l (some (k:Int)) none=l.drop k:=by
 unfold e6
 rw [HT.sIx_nat]
 show (l.drop (min k l.length)).take (l.length - min k l.length)=l.drop k
 by_cases h:k<=l.length
 .rw [Nat.min_eq_left h,List.take_of_length_le (by rw [List.length_drop];exact Nat.le_refl _)]
 .rw [Nat.min_eq_right (by omega),Nat.sub_self,List.take_zero,List.drop_eq_nil_of_le (by omega)]
theorem uH {α:Type} (l:List α) (i j:Nat):e6 l (some (i:Int)) (some (j:Int))=(l.drop i).take (j - i):=by
 unfold e6
 rw [HT.sIx_nat,HT.sIx_nat]
 by_cases h:i<=l.length
 .rw [Nat.min_eq_left h]
  by_cases h2:j<=l.length
  .rw [Nat.min_eq_left h2]
  .rw [Nat.min_eq_right (by omega),List.take_of_length_le (by rw [List.length_drop];omega),List.take_of_length_le (by rw [List.length_drop];omega)]
 .have e:min i l.length=l.length:=Nat.min_eq_right (by omega)
  rw [e,List.drop_eq_nil_of_le (Nat.le_refl _),List.drop_eq_nil_of_le (by omega),List.take_nil,List.take_nil]
section
variable {X:Cx}
def DR:V->Option Int->Option Int->Hp->VK->Prop:=fun x lo hi H Q=>∃l,x=.str (S l)/\l.length<=sizeLine/\Q (.str (S (e6 l lo hi))) H
theorem Ba:SlR X DR:=by
 intro pins s σ H x v vl vu lo hi sl Q I rx hs pl pu h
 obtain ⟨l,rfl,hz,q⟩:=h
 obtain ⟨t,rfl⟩:=rx
 refine ⟨"str",_,slot_str_getitem.lookup,typeIs_str s _ t,?_⟩
 obtain ⟨l',hl',el⟩:∃l':Option (Int×Tok),vl=partValue l'/\l'.map (·.1)=lo:=by
  cases pl with
  | none=>exact ⟨none,rfl,rfl⟩
  | int i t=>exact ⟨some (i,t),rfl,rfl⟩
 obtain ⟨u',hu',eu⟩:∃l':Option (Int×Tok),vu=partValue l'/\l'.map (·.1)=hi:=by
  cases pu with
  | none=>exact ⟨none,rfl,rfl⟩
  | int i t=>exact ⟨some (i,t),rfl,rfl⟩
 subst hl' hu'
 refine wpAny_getItem_str_slice (l:=l') (u:=u') (st:=none) hs rfl ?_
 have hm:∀t' k,EP X pins σ Q (.str (Txt.slice (S l) lo hi) t') { s with toks:=k }:=fun t' k=>⟨.str (S (e6 l lo hi)),H,I.tok _,⟨t',by rw [yQ]⟩,q⟩
 have hlen:(Txt.slice (S l) lo hi).length<=sizeLine:=Nat.le_trans (Txt.slice_le _ _ _) (by rw [gI];exact hz)
 subst el eu
 exact post_val_or_str ⟨hlen,hm⟩
def ke {α:Type} (l:List α) (n:Int):List α:=(List.replicate n.toNat l).flatten
theorem uI (k:Nat) (l acc:List Nat):(List.replicate k l.toArray).foldl (·++·) acc.toArray=(acc++(List.replicate k l).flatten).toArray:=by
 induction k generalizing acc with
 | zero=>simp
 | succ k ih =>
  rw [List.replicate_succ,List.foldl_cons,List.append_toArray,ih (acc++l),List.replicate_succ,List.flatten_cons,List.append_assoc]
theorem C1 (l:List Nat) (n:Int):Txt.mul (S l) n=S (ke l n):=by
 unfold Txt.mul ke
 by_cases h:n < 1
 .rw [if_pos h]
  have:n.toNat=0:=by omega
  rw [this];rfl
 .rw [if_neg h]
  split
  .rename_i h2
   rw [gI] at h2
   simp only [Bool.or_eq_true,beq_iff_eq] at h2
   rcases h2 with h2 | h2
   .subst h2;simp [S]
   .have:l=[]:=List.length_eq_zero_iff.mp h2
    subst this;simp [S]
  .have e:=uI n.toNat l []
   show (⟨_⟩:Str)=_
   have e':(List.replicate n.toNat (S l).cps).foldl (·++·) #[]=((List.replicate n.toNat l).flatten).toArray:=by
    simpa [S] using e
   rw [e'];rfl
theorem e7 {α:Type} (l:List α) (n:Int):(ke l n).length=n.toNat * l.length:=by
 unfold ke
 rw [List.length_flatten,List.map_replicate,List.sum_replicate_nat]
theorem sL:OpR X (binaryOp .Mult) (fun x y H Q=>∃l n,x=.str (S l)/\y=.int n/\-1000000<=n/\n<=1000000/\n.toNat * l.length<=sizeLine/\Q (.str (S (ke l n))) H):=by
 intro pins s σ H x y v u Q I rx ry h
 obtain ⟨l,n,rfl,rfl,h1,h2,hz,q⟩:=h
 obtain ⟨t,rfl⟩:=rx
 obtain ⟨t',rfl⟩:=ry
 have hs:sizeLine=16777216:=sizeLine_eq
 have hz':n.toNat * l.length<=16777216:=by rw [<- hs];exact hz
 refine SB.mul ⟨?_,fun hn hc=>?_,fun hn hc=>?_⟩ fun t' k=>⟨.str (S (ke l n)),H,I.tok _,⟨t',by rw [C1]⟩,q⟩
 .rw [decide_eq_false (by omega),decide_eq_false (by omega)];rfl
 .rw [gI]
  intro hgt
  have hl:l.length<=16777216:=by
   have:1 * l.length<=n.toNat * l.length:=Nat.mul_le_mul_right _ (by omega)
   omega
  have hdiv:(2 ^ 63 - 1:Int) / 1000000<=(2 ^ 63 - 1) / n:=by
   apply Int.le_ediv_of_mul_le (by omega)
   have:=Int.mul_le_mul_of_nonneg_left h2 (show (0:Int)<=(2 ^ 63 - 1) / 1000000 by decide)
   have e2:((2 ^ 63 - 1:Int) / 1000000) * 1000000<=2 ^ 63 - 1:=by decide
   omega
  have e3:(2 ^ 63 - 1:Int) / 1000000=9223372036854:=by decide
  omega
 .rw [gI]
  have:l.length * n.toNat<=16777216:=by rw [Nat.mul_comm];exact hz'
  exact decide_eq_false (by omega)
theorem uJ:OpR X (compareOp .LtE) (fun x y H Q=>∃i j,x=.str i/\y=.str j/\Q (.bl (!decide (j.cps.toList < i.cps.toList))) H):=by
 intro pins s σ H x y v u Q I rx ry h
 obtain ⟨i,j,rfl,rfl,q⟩:=h
 obtain ⟨t,rfl⟩:=rx
 obtain ⟨t',rfl⟩:=ry
 exact PySem.P.le_str ⟨.bl _,H,I,rfl,q⟩
end
def Its (xs:List V):It:=⟨fun i _=>i < xs.length,fun i H x H'=>H'=H/\xs[i]?=some x,fun i _=>xs.length=i⟩
theorem uK {M:Model}{A:Around}{E:Value->Shared->Prop}{s:Shared}{tg:Expr}{it:Addr}{u:Value}{Q:Unit->Shared->Prop} (hu:∀a,u≠.ref a) (hQ:Q () s):wpAny M A (letOwnedTupleGo tg (.ref it) u) Q E s:=by
 unfold letOwnedTupleGo
 cases tg <;> first
  | exact wpAny_pure hQ
  | (cases u <;> first
    | exact wpAny_pure hQ
    | exact absurd rfl (hu _))
theorem kf {P:Program}{w:World}{K:PySem.W.Frag}{tg:Expr}{it:Addr}{xs:List V}{n:Nat}{Pt:Nat->Value->Prop}{St:Nat->Heap->Prop}
  (W:∀A:Around,A.handled=none->Walks P w A it [it] [it] n Pt St) (hn:xs.length=n)
  (hv:∀i v,i < n->Pt i v->∃x,xs[i]?=some x/\di x v) (hsc:∀i v,Pt i v->∀a,v≠.ref a)
  (hobj:∀i h,St i h->∃o,h.get? it=some o/\∀v,o.data≠.cell v)
  (hfr:∀i h h',St i h->(∀b∈[it],∀o,h.get? b=some o->h'.get? b=some o)->St i h')
  (hself:∀(A:Around) (i:Nat) (s:Shared) (Q:Value->Shared->Prop) (E:Value->Shared->Prop),St i s.heap->Q (.ref it) s->wpAny (model P w) A (pyIter (.ref it)) Q E s) :
  Al P w K tg (Its xs) [it] it St where
 mem:=by simp
 obj:=fun i h st b hb=>by
  have e:b=it:=by simpa using hb
  subst e
  exact hobj i h st
 keep:=fun i h h' st k=>hfr i h h' st k
 item:=by
  intro X hP hw hK hc i pins s σ H E I hf st hg
  subst hP hw hK
  obtain ⟨f0,f1,f2,f3,f4,f5⟩:=hf it (by simp)
  refine (W X.A (I.ok.hd hc)).item i s _ _ (by rw [<- hn];exact hg) st fun v h' tk hp st' kk=>?_
  obtain ⟨x,hx,rx⟩:=hv i v (by rw [<- hn];exact hg) hp
  have I1:Inv X pins σ H { s with heap:=h',toks:=tk }:=I.turned (fun b o hb e=>kk b o (by simpa using hb) e) f0 f1 f3 f4 f5
  exact ⟨v,rfl,uK (s:={ s with heap:=h',toks:=tk }) (hsc i v hp) ⟨x,H,I1,rx,⟨rfl,hx⟩,st',fun b hb=>(hf b hb).1⟩⟩
 done:=by
  intro X hP hw hK hc i pins s σ H E I hf st hg
  subst hP hw hK
  obtain ⟨f0,f1,f2,f3,f4,f5⟩:=hf it (by simp)
  have e:n=i:=hn.symm.trans hg
  subst e
  exact (W X.A (I.ok.hd hc)).done s _ _ st fun h' tk kk=>⟨rfl,I.turned (fun b o hb e=>kk b o (by simpa using hb) e) f0 f1 f3 f4 f5⟩
 self:=hself
section
variable {X:Cx}{tg:Expr}
def fS (l:List Nat):List V:=l.map fun c=>V.str (S [c])
theorem sM {l:List Nat}{i:Nat}{x:V} (h:(fS l)[i]?=some x):∃c,l[i]?=some c/\x=.str (S [c]):=by
 unfold fS at h
 rw [List.getElem?_map] at h
 cases e:l[i]? with
 | none=>rw [e] at h;cases h
 | some c=>rw [e] at h;exact ⟨c,rfl,(Option.some.inj h).symm⟩
theorem i4 (l:List Nat):(fS l).length=l.length:=List.length_map _
def mT (i:Int) (n:Nat):List V:=(List.range n).map fun (k:Nat)=>V.int (i - k)
theorem kg (i:Int) (n:Nat):(mT i n).length=n:=by simp [mT]
theorem uL {i:Int}{n k:Nat}{x:V} (h:(mT i n)[k]?=some x):k < n/\x=.int (i - k):=by
 unfold mT at h
 rw [List.getElem?_map] at h
 by_cases hk:k < n
 .rw [List.getElem?_range hk] at h
  exact ⟨hk,(Option.some.inj h).symm⟩
 .rw [List.getElem?_eq_none (by simp;omega)] at h
  cases h
def Bb (ta:TA):TI:=fun σ H R=>ta σ H fun vs H1=>∃i j:Int,vs=[.int i,.int j,.int (-1)]/\(-(2 ^ 60)<=i/\i < 2 ^ 60/\-(2 ^ 60)<=j/\j < 2 ^ 60)/\R (Its (mT i (i - j).toNat)) H1
theorem gM (i j:Int):Builtin.Range.rangeSize i j (-1)=(((i - j).toNat:Nat):Int):=by
 unfold Builtin.Range.rangeSize
 rw [if_neg (by decide)]
 simp only [Int.neg_neg,Int.ediv_one]
 split <;> omega
theorem oR {a b c:Expr}{ta:TA}{p pos:Pos} (hg:Gl X "range") (hm:X.mg "range"=none) (ha:PA X [a,b,c] ta)
  (hs:starEach [a,b,c] X.env=[(false,eval a X.env),(false,eval b X.env),(false,eval c X.env)]:=by rfl) (hs2:starEach [b,c] X.env=[(false,eval b X.env),(false,eval c X.env)]:=by rfl) :
  PI X tg (.Call (.Name "range" p) [a,b,c] [] pos) (Bb ta):=by
 intro pins s σ H R I h
 refine Call_ (ip I hg hm boot_range (PyProof.Rows.callWith_type1 (thn (ha pos pins s σ H _ I h) fun us s1 ⟨vs,H1,I1,r1,q1⟩=>?_) (by rw [hs,hs2]) (by rw [hs2];rfl)))
 obtain ⟨i,j,e,⟨q1,q2,q3,q4⟩,q⟩:=q1
 subst e
 cases r1 with
 | cons r rr =>
  cases rr with
  | cons r' rr =>
   cases rr with
   | cons r'' rr =>
    cases rr
    obtain ⟨t,rfl⟩:=r
    obtain ⟨t',rfl⟩:=r'
    obtain ⟨t'',rfl⟩:=r''
    refine call_range_3 (by decide) ?_ (.inl (PyProof.noPylong_small (by decide)))
    refine wpAny_pyIter_range (IsRange.new ..) ?_ ?_
    .unfold Builtin.Range.small
     rw [gM]
     simp only [Builtin.Range.rangeFitsLong,Bool.and_eq_true,Bool.or_eq_true,decide_eq_true_eq,beq_iff_eq,show ¬ (-1:Int) > 0 by decide,if_false]
     omega
    have I2:Inv X pins σ H1 { s1 with heap:=s1.heap.push { cls:=.type "range",data:=.fields #[.int i t,.int j t',.int (-1) t''] },toks:=s1.toks }:=I1.kept fun b o e=>Heap.get?_push_of_some _ e
    refine ⟨_,[(s1.heap.push { cls:=.type "range",data:=.fields #[.int i t,.int j t',.int (-1) t''] }).objs.size],_,Its (mT i (i - j).toNat),H1,rfl,I2.kept (t':=s1.toks) fun b o e=>Heap.get?_push_of_some _ e,
     kf (fun A hA=>Walks.range hA _ i (-1) (i - j).toNat) (kg _ _) ?_ ?_ ?_ ?_ (fun A i s Q E st q=>wpAny_pyIter_rangeiter st q),?_,fun b hb=>?_,q⟩
    .rintro k v hk ⟨t,rfl⟩
     refine ⟨.int (i - k),?_,t,?_⟩
     .unfold mT
      rw [List.getElem?_map,List.getElem?_range hk];rfl
     .have e:i + (k:Int) * (-1)=i - k:=by omega
      rw [e]
    .rintro k v ⟨t,rfl⟩ a z
     cases z
    .exact fun k h st=>⟨_,st,fun v z=>by
      have z':Data.fields _=Data.cell v:=z
      cases z'⟩
    .exact fun k h h' st kk=>kk _ (by simp) _ st
    .show IsRangeIter _ _ (i + ((0:Nat):Int) * (-1)) ((((i - j).toNat:Nat):Int) - ((0:Nat):Int)) (-1)
     rw [<- gM]
     simp only [Int.natCast_zero,Int.zero_mul,Int.add_zero,Int.sub_zero]
     exact Heap.get?_push_size _ rfl
    .have e:b=(s1.heap.push { cls:=.type "range",data:=.fields #[.int i t,.int j t',.int (-1) t''] }).objs.size:=by simpa using hb
     subst e
     exact I2.fpOk (Nat.le_refl _) (I2.hok.fresh (Nat.le_refl _))
end
section
variable {X:Cx}
theorem qo:bX X (.builtin "isinstance") (fun xs H Q=>∃x n t b,xs=[x,.ty n]/\om X.K H x t/\PySem.W.kitOne X.K t (.type n)=some b/\Q (.bl b) H):=by
 intro pins s σ H xs us Q I r h
 obtain ⟨x,n,t,b,rfl,ty,e,q⟩:=h
 obtain ⟨u,w',rfl,rx,ry⟩:=wy r
 cases (show w'=Value.type n from ry)
 exact ur I rx ty e fun tk=>⟨.bl b,H,I.tok _,rfl,q⟩
mutual
inductive DV (K:PySem.W.Frag) (H:Hp):V->PyData->Prop
 | non:DV K H .non .none
 | bl (b:Bool):DV K H (.bl b) (.bool b)
 | int (i:Int):DV K H (.int i) (.int i)
 | str (x:Str):DV K H (.str x) (.str x)
 | lst {a:Addr}{xs:List V}{ds:List PyData}:SqL K H a xs->DVs K H xs ds->DV K H (.ref a) (.list ds)
 | tup {a:Addr}{xs:List V}{ds:List PyData}:SqT K H a xs->DVs K H xs ds->DV K H (.ref a) (.tuple ds)
inductive DVs (K:PySem.W.Frag) (H:Hp):List V->List PyData->Prop
 | nil:DVs K H [] []
 | cons {x:V}{d:PyData}{xs:List V}{ds:List PyData}:DV K H x d->DVs K H xs ds->DVs K H (x::xs) (d::ds)
end
mutual
theorem DV.reads {pins:List (Addr×Obj)}{σ:St}{H:Hp}{s:Shared} (I:Inv X pins σ H s):∀{x:V}{d:PyData}{u:Value},DV X.K H x d->di x u->∃as,Reads s.heap u d as
 | _,_,u,.non,r=>by cases (show u=Value.none from r);exact ⟨_,.none⟩
 | _,_,u,.bl b,r=>by cases (show u=Value.bool b from r);exact ⟨_,.bool b⟩
 | _,_,u,.int i,r=>by obtain ⟨t,e⟩:=(show ∃t,u=Value.int i t from r);subst e;exact ⟨_,.int i t⟩
 | _,_,u,.str x,r=>by obtain ⟨t,e⟩:=(show ∃t,u=Value.str x t from r);subst e;exact ⟨_,.str x t⟩
 | _,_,u,.lst (a:=a) hq hs,r=>by
  cases (show u=Value.ref a from r)
  obtain ⟨its,rv,pl,_⟩:=I.list hq
  obtain ⟨o,ho,hc,n,hd⟩:=pl.isList
  obtain ⟨as,ra⟩:=DVs.reads I hs rv
  exact ⟨_,.list ho hc hd ra⟩
 | _,_,u,.tup (a:=a) hq hs,r=>by
  cases (show u=Value.ref a from r)
  obtain ⟨its,rv,pl,_⟩:=I.tuple hq
  obtain ⟨o,ho,hc,n,hd⟩:=pl
  obtain ⟨as,ra⟩:=DVs.reads I hs rv
  exact ⟨_,.tuple ho hc hd ra⟩
theorem DVs.reads {pins:List (Addr×Obj)}{σ:St}{H:Hp}{s:Shared} (I:Inv X pins σ H s):∀{xs:List V}{ds:List PyData}{us:List Value},DVs X.K H xs ds->bV xs us->∃as,ReadsAll s.heap us ds as
 | _,_,_,.nil,.nil=>⟨_,.nil⟩
 | _,_,_,.cons h hs,.cons r rs=>by
  obtain ⟨as,ra⟩:=DV.reads I h r
  obtain ⟨bs,rb⟩:=DVs.reads I hs rs
  exact ⟨_,.cons ra rb⟩
end
def C2 (K:PySem.W.Frag) (neg:Bool):R2:=fun x y H Q=>∃da db,DV K H x da/\DV K H y db/\SeqAt.shaped da=true/\SeqAt.shaped db=true/\Q (.bl (if neg then !PyData.eqv da db else PyData.eqv da db)) H
theorem Bc (hu:X.A.units + 64 < cLine):OpR X (compareOp .Eq) (C2 X.K false):=by
 intro pins s σ H x y v u Q I rx ry h
 obtain ⟨da,db,ha,hb,sa,sb,q⟩:=h
 obtain ⟨as,ra⟩:=DV.reads I ha rx
 obtain ⟨bs,rb⟩:=DV.reads I hb ry
 exact eq_dataH ra rb sa sb hu ⟨.bl _,H,I,rfl,q⟩
theorem Bd (hu:X.A.units + 64 < cLine):OpR X (compareOp .NotEq) (C2 X.K true):=by
 intro pins s σ H x y v u Q I rx ry h
 obtain ⟨da,db,ha,hb,sa,sb,q⟩:=h
 obtain ⟨as,ra⟩:=DV.reads I ha rx
 obtain ⟨bs,rb⟩:=DV.reads I hb ry
 exact ne_dataH ra rb sa sb hu ⟨.bl _,H,I,rfl,q⟩
theorem DVs.ints {K:PySem.W.Frag}{H:Hp}:∀ns:List Int,DVs K H (ns.map V.int) (ns.map PyData.int)
 | []=>.nil
 | n::ns=>.cons (.int n) (DVs.ints ns)
theorem kh:∀ns ms:List Int,PyData.eqvAll (ns.map PyData.int) (ms.map PyData.int)=decide (ns=ms)
 | [],[]=>by simp [PyData.eqvAll]
 | [],_::_=>by simp [PyData.eqvAll]
 | _::_,[]=>by simp [PyData.eqvAll]
 | a::r,b::t=>by
  simp only [List.map_cons,PyData.eqvAll,PyData.eqv,kh r t]
  by_cases h:a=b <;> by_cases h':r=t <;> simp [h,h']
theorem qp:MtR X "str.endswith" (fun x xs H Q=>∃a b,x=.str (S a)/\xs=[.str (S b)]/\Q (.bl (decide (b <:+ a))) H):=by
 intro pins s σ H x xs v us Q I rx rs h
 obtain ⟨a,b,rfl,rfl,q⟩:=h
 obtain ⟨t,rfl⟩:=rx
 obtain ⟨u,rfl,t',rfl⟩:=hX rs
 have e:Txt.endswith (S a) (S b)=decide (b <:+ a):=by
  unfold Txt.endswith Builtin.Str.subAt
  rw [gI,gI]
  have e1:((S a).cps.extract (a.length - b.length) (a.length - b.length + b.length))=((a.drop (a.length - b.length)).take b.length).toArray:=by
   show a.toArray.extract _ _=_
   rw [List.extract_toArray,List.extract_eq_take_drop]
   have e2:a.length - b.length + b.length - (a.length - b.length)=b.length:=by omega
   rw [e2]
  rw [e1]
  by_cases h:b <:+ a
  .rw [decide_eq_true h]
   have hl:=h.length_le
   have hd:a.drop (a.length - b.length)=b:=(List.suffix_iff_eq_drop.mp h).symm
   rw [hd]
   simp [S,hl]
  .rw [decide_eq_false h]
   by_cases hl:b.length<=a.length
   .have hne:¬ (a.drop (a.length - b.length)).take b.length=b:=fun z=>h (by
     rw [List.take_of_length_le (by rw [List.length_drop];omega)] at z
     exact List.suffix_iff_eq_drop.mpr z.symm)
    simp only [Bool.and_eq_false_imp]
    intro _
    show (((a.drop (a.length - b.length)).take b.length).toArray == b.toArray)=false
    rw [beq_eq_false_iff_ne]
    intro z
    exact hne (by simpa using congrArg Array.toList z)
   .rw [decide_eq_false (by omega)];rfl
 exact SC.endswith ⟨.bl _,H,I,rfl,by rw [e];exact q⟩
end
section
variable {X:Cx}{a b:Expr}{ta tb:TE}{pos:Pos}
theorem bT {x:Str}{l:List Nat}{j:Nat} (h:x=S l):PE X (.Constant (.str x) j pos) (tC (.str (S l))):=by
 subst h
 exact AD
theorem uM:bX X (.builtin "len") (fun xs H Q=>∃l,xs=[.str (S l)]/\l.length<=sizeLine/\Q (.int l.length) H):=by
 intro pins s σ H xs us Q I r h
 obtain ⟨l,rfl,hz,q⟩:=h
 exact oK pins s σ H _ us Q I r ⟨S l,rfl,by rw [gI];exact hz,by rw [gI];exact q⟩
def Be:R2:=fun x y H Q=>∃l i c,x=.str (S l)/\y=.int i/\l.length<=sizeLine/\atI l i=some c/\Q (.str (S [c])) H
theorem yR:IxR X Be:=by
 intro value slice pins s σ H x y v u Q I rx ry q hs
 obtain ⟨l,i,c,rfl,rfl,hz,ha,q⟩:=q
 exact A1 value slice pins s σ H _ _ v u Q I rx ry ⟨S l,i,c,rfl,rfl,by rw [gI];exact hz,ha,q⟩ hs
theorem yS:OpR X (binaryOp .Add) (fun x y H Q=>∃i j,x=.str (S i)/\y=.str (S j)/\i.length + j.length<=sizeLine/\Q (.str (S (i++j))) H):=by
 intro pins s σ H x y v u Q I rx ry h
 obtain ⟨i,j,rfl,rfl,hz,q⟩:=h
 exact sA pins s σ H _ _ v u Q I rx ry ⟨S i,S j,rfl,rfl,by rw [gI,gI];exact hz,by rw [CZ];exact q⟩
theorem Bf:OpR X (compareOp .Eq) (fun x y H Q=>∃i j,x=.str (S i)/\y=.str (S j)/\Q (.bl (decide (i=j))) H):=by
 intro pins s σ H x y v u Q I rx ry h
 obtain ⟨i,j,rfl,rfl,q⟩:=h
 exact CO pins s σ H _ _ v u Q I rx ry ⟨rfl,by rw [A8];exact q⟩
theorem Bg:OpR X (compareOp .NotEq) (fun x y H Q=>∃i j,x=.str (S i)/\y=.str (S j)/\Q (.bl (!decide (i=j))) H):=by
 intro pins s σ H x y v u Q I rx ry h
 obtain ⟨i,j,rfl,rfl,q⟩:=h
 exact CP pins s σ H _ _ v u Q I rx ry ⟨rfl,by rw [A8];exact q⟩
theorem Bh:OpR X (compareOp .Eq) (rI0 fun i j=>.bl (decide (i=j))):=Am fun _ _ _ _ _ _ _ q=>eq_int (by rw [Bool.beq_eq_decide_eq];exact q)
theorem Bi:OpR X (compareOp .NotEq) (rI0 fun i j=>.bl (!decide (i=j))):=Am fun _ _ _ _ _ _ _ q=>ne_int (by rw [bne,Bool.beq_eq_decide_eq];exact q)
theorem uN:bX X (.builtin "len") (fun xs H Q=>∃p ys,xs=[.ref p]/\SqL X.K H p ys/\Q (.int ys.length) H):=by
 intro pins s σ H xs us Q I r h
 obtain ⟨p,ys,e,hq,q⟩:=h
 exact jw pins s σ H xs us Q I r ⟨p,ys,e,.inl hq,q⟩
theorem uO:bX X (.builtin "len") (fun xs H Q=>∃p ys,xs=[.ref p]/\SqT X.K H p ys/\Q (.int ys.length) H):=by
 intro pins s σ H xs us Q I r h
 obtain ⟨p,ys,e,hq,q⟩:=h
 exact jw pins s σ H xs us Q I r ⟨p,ys,e,.inr hq,q⟩
end
structure Cal (P:Program) (w:World) (K:PySem.W.Frag) (mg:Str->Option Value) (base:Heap) (k:Nat) (x:Str) (ps:List Str) (sp:Sp):Prop where
 ex:∃(f:Addr) (fd:FuncData),mf P w K mg base CX0 k f fd ps sp/\i3 K fd ps []/\PySem.W.keepIn K (.ref f)=true/\mg x=some (.ref f)/\∃oc od osl,K.lookup f=some ⟨oc,od,.func fd,osl⟩
structure cv (K:PySem.W.Frag) (mg:Str->Option Value) (x:Str) (st:Stmt):Prop where
 ex:∃(f:Addr) (fd:FuncData),Fun K x x st f fd/\mg x=some (.ref f)
section
variable {P:Program}{w:World}{K:PySem.W.Frag}{mg:Str->Option Value}{base:Heap}{x:Str}{st:Stmt}{N ps:List Str}{k:Nat}{sp:Sp}
theorem cv.ok (D:cv K mg x st) (S:aK N ps (ao st))
  (hb:∀(kV doc pm:Value) (an:Option Addr) (cdv ct:Value) (us:List Value),us.length=ps.length->bindArgs (PySem.W.fnOf x x (cu st) (bE st) (ao st) .none kV doc pm an cdv ct) ⟨us,[]⟩=pure (ps.zip us))
  (len:∀vs H Q E,sp vs H Q E->vs.length=ps.length)
  (hbody:∀(f:Addr) (cdv:Value) (A:Around) (outer:List Env) (s:Shared) (H:Hp) (vs:List V) (Q:VK) (E:XK),fR k (A.deeper (envOfC x (ao st) s.heap.objs.size f cdv))->sp vs H Q E ->
   ∃t,PSs (uu CX0 P w K mg base N x (ao st) f cdv A outer s H E).nox (bE st) t/\t { nx:=fun _ H'=>Q .non H',rt:=Q } (start N vs) H):Cal P w K mg base (k + 1) x ps sp:=by
 obtain ⟨f,fd,F,hm⟩:=D.ex
 have lk:∃oc od osl,K.lookup f=some ⟨oc,od,.func fd,osl⟩:=by
  obtain ⟨oc,od,kV,doc,pm,an,cdv,ct,osl,rfl,lk,hcd⟩:=F.ex
  exact ⟨oc,od,osl,lk⟩
 exact ⟨f,fd,F.ok S len fun cdv A outer s H vs Q E hr h=>hbody f cdv A outer s H vs Q E hr h,F.binds hb,F.kp,hm,lk⟩
theorem cv.mk' {K:PySem.W.Frag}{h:Heap}{mg:Str->Option Value}{x:Str}{st:Stmt}{f:Addr}{oc:Value}{od an:Option Addr}{osl:Array (Option Value)}{kV doc pm cdv ct:Value} (X:K.In h) (G:h.Ns mainGlobals mg)
  (a:PySem.W.nsIn K mainGlobals x=some (some (.ref f))) (l:K.lookup f=some ⟨oc,od,.func (PySem.W.fnOf x x (cu st) (bE st) (ao st) .none kV doc pm an cdv ct),osl⟩)
  (c:PySem.W.codeIn K cdv x=true) (k:PySem.W.keepIn K (.ref f)=true):cv K mg x st:=⟨f,_,oP (st:=st) l c k,PySem.W.mg_of X G a⟩
end
section
variable {X:Cx}{k:Nat}{x:Str}{ps:List Str}{sp:Sp}{p pos:Pos}{e:Expr}{es:List Expr}{t:TA}
theorem Bj (C:Cal X.prog X.w X.K X.mg X.base k x ps sp) (hr:fR k X.A) (ha:PA X (e::es) t) (hg:Gl X x:=by rfl) (hdb:(x == ("__debug__":Str))=false:=by decide) (he:starEach (e::es) X.env=(false,eval e X.env)::starEach es X.env:=by rfl)
  (hpl:(backTo pos (starEach es X.env)).any (·.1)=false:=by rfl):PE X (.Call (.Name x p) (e::es) [] pos) (eN sp [] E0 t):=by
 obtain ⟨f,fd,F,hb,hk,hm,_⟩:=C.ex
 exact ut F hr hg hm hk hb .nil wI ha hdb he hpl
end
def sN (K:PySem.W.Frag):Sp:=fun vs H Q _=>∃(a:Addr) (ns:List Int),vs=[.ref a]/\SqL K H a (ns.map V.int)/\ns.length<=63/\∀H',Q (.bl true) H'
theorem Bk {P:Program}{w:World}{K:PySem.W.Frag}{mg:Str->Option Value}{fa:Addr}{st:Stmt}{k:Nat}{x:Str} (hfa:mg "law"=some (.ref fa)) (D:cv K mg "law" st)
  (hbind:∀(kV doc pm:Value) (an:Option Addr) (cdv ct:Value) (s:Shared) (v:Value),BindsTo s (PySem.W.fnOf "law" "law" (cu st) (bE st) (ao st) .none kV doc pm an cdv ct) ⟨[v],[]⟩ [(x,v)])
  (h:∀base:Heap,Cal P w K mg base k "law" [x] (sN K)) :
  ∃fd:FuncData,(∀(s:Shared) (v:Value),BindsTo s fd ⟨[v],[]⟩ [(x,v)])/\∀base:Heap,K.In base->base.Ns mainGlobals mg->mf P w K mg base CX0 k fa fd [x] (sN K):=by
 obtain ⟨f,fd,F,hm⟩:=D.ex
 have e:=hfa.symm.trans hm
 cases e
 obtain ⟨oc,od,kV,doc,pm,an,cdv,ct,osl,rfl,lk,hcd⟩:=F.ex
 refine ⟨_,fun s v=>hbind kV doc pm an cdv ct s v,fun base kb nb=>?_⟩
 obtain ⟨f',fd',F',_,_,hm',oc',od',osl',lk'⟩:=(h base).ex
 have e:=hfa.symm.trans hm'
 cases e
 rw [lk] at lk'
 cases lk'
 exact F'
theorem Bl {l:PySem.W.OpenLaw}{q:Program}{loose:List Str}{XP:(Str->Option Value)->Heap->Prop}{YP:World->Heap->Prop}{d:DefRec}{K:Params->PySem.W.Frag}{k:Nat}{x:Str} (hn:l.most=some 63) (hdf:d.params.defaults=[]) (hr:fR k callerA)
  (hY:∀(w:World) (h:Heap),YP w h->(K w.params).In h)
  (F:∀(w:World) (mg:Str->Option Value) (fa:Addr) (h:Heap),(K w.params).In h->h.Ns mainGlobals mg->mg d.name=some (.ref fa) ->
   ∃fd:FuncData,(∀(s:Shared) (u:Value),BindsTo s fd ⟨[u],[]⟩ [(x,u)])/\∀base:Heap,(K w.params).In base->base.Ns mainGlobals mg->mf l.prog w (K w.params) mg base CX0 k fa fd [x] (sN (K w.params))) :
  PySem.W.WalkO q loose XP YP l.row.toRowW d [] (fun f vs=>PySem.call f vs) :=
 yP (n:=63) (k:=k) (x:=x) (CX:=fun _=>CX0) (sp:=fun w=>sN (K w.params)) hn (by decide) hdf hr hY F (fun _ _ a ns hl _ hS=>⟨a,ns,rfl,hS,hl,fun _=>rfl⟩) fun _ _ _ _ _ z=>z
theorem yT {α β:Type}{f:α->β}{xs:List α}{i:Int}{v:α} (h:atI xs i=some v):atI (xs.map f) i=some (f v):=by
 unfold atI at h ⊢
 rw [List.length_map]
 cases e:ixN xs.length i with
 | none=>rw [e] at h;cases h
 | some j =>
  rw [e] at h
  show (xs.map f)[j]?=some (f v)
  have h':xs[j]?=some v:=h
  rw [List.getElem?_map,h'];rfl
theorem jx {α:Type}{xs:List α}{i:Int}{j:Nat}{v:α} (h:xs[j]?=some v) (e:i=(j:Int)):atI xs i=some v:=by subst e;exact yK h
theorem sz (n:Nat) (h:n<=1000000):n<=sizeLine:=by rw [sizeLine_eq];omega
theorem wJ {ns:List Int}{i:Nat}{x:V} (h:(ns.map V.int)[i]?=some x):∃z,ns[i]?=some z/\x=.int z:=by
 rw [List.getElem?_map] at h
 cases e:ns[i]? with
 | none=>rw [e] at h;cases h
 | some z=>rw [e] at h;exact ⟨z,rfl,(Option.some.inj h).symm⟩
section
variable {X:Cx}{st:Stmt}{t:TS}
def yU (t:TS):TS:=fun D σ H=>∃J:St->Hp->Prop,t { D with nx:=J } σ H/\∀σ' H',J σ' H'->D.nx σ' H'
theorem i5 (h:PS X st t):PS X st (yU t):=by
 intro pins s σ H D I q
 obtain ⟨J,q1,q2⟩:=q
 refine thn (h pins s σ H _ I q1) fun f s' r=>?_
 cases f with
 | next=>obtain ⟨σ',H',I',r'⟩:=r;exact ⟨σ',H',I',q2 σ' H' r'⟩
 | brk=>exact r
 | cont=>exact r
 | ret u=>exact r
end
theorem wK {α β:Type} (f:α->β) (xs:List α) (lo hi:Option Int):e6 (xs.map f) lo hi=(e6 xs lo hi).map f:=by
 unfold e6
 rw [List.length_map,List.map_take,List.map_drop]
theorem dU {x:Str}{c:Addr}:∀(names:List (Str×NameKind)) (n:Nat) (acc:List (Str×Addr)),(cellsFrom n names acc).lookup x=some c->(n<=c/\(x,NameKind.cell)∈names)\/acc.lookup x=some c
 | [],n,acc,h=>.inr h
 | (y,k)::r,n,acc,h=>by
  unfold cellsFrom at h
  split at h
  .rename_i hk
   have hk':k=.cell:=by simpa using hk
   subst hk'
   rcases dU r (n + 1) ((y,n)::acc) h with ⟨h1,h2⟩ | h1
   .exact .inl ⟨by omega,List.mem_cons_of_mem _ h2⟩
   .rw [List.lookup_cons] at h1
    cases e:x == y with
    | true =>
     rw [e] at h1
     have:n=c:=Option.some.inj h1
     have ex:x=y:=by simpa using e
     subst ex
     exact .inl ⟨by omega,List.mem_cons_self⟩
    | false=>rw [e] at h1;exact .inr h1
  .rcases dU r n acc h with ⟨h1,h2⟩ | h1
   .exact .inl ⟨h1,List.mem_cons_of_mem _ h2⟩
   .exact .inr h1
theorem e8 {x:Str}:∀(names:List (Str×NameKind)) (n:Nat) (acc:List (Str×Addr)),(x,NameKind.cell)∉names->(cellsFrom n names acc).lookup x=acc.lookup x
 | [],_,_,_=>rfl
 | (y,k)::r,n,acc,h=>by
  unfold cellsFrom
  split
  .rename_i hk
   have hk':k=.cell:=by simpa using hk
   subst hk'
   rw [e8 r (n + 1) _ (fun z=>h (List.mem_cons_of_mem _ z)),List.lookup_cons]
   have:(x == y)=false:=by
    rw [beq_eq_false_iff_ne]
    intro e;subst e;exact h List.mem_cons_self
   rw [this]
  .exact e8 r n acc (fun z=>h (List.mem_cons_of_mem _ z))
theorem e9 {x y:Str}{c:Addr}:∀(names:List (Str×NameKind)) (n:Nat) (acc:List (Str×Addr)),(∀z d,acc.lookup z=some d->d < n) ->
  (cellsFrom n names acc).lookup x=some c->(cellsFrom n names acc).lookup y=some c->n<=c->x=y
 | [],n,acc,ha,h1,h2,hc=>absurd (ha x c h1) (Nat.not_lt.mpr hc)
 | (z,k)::r,n,acc,ha,h1,h2,hc=>by
  unfold cellsFrom at h1 h2
  split at h1
  .rename_i hk
   rw [if_pos hk] at h2
   have ha':∀w d,((z,n)::acc).lookup w=some d->d < n + 1:=fun w d e=>by
    rw [List.lookup_cons] at e
    cases q:w == z with
    | true=>rw [q] at e;cases e;exact Nat.lt_succ_self _
    | false=>rw [q] at e;exact Nat.lt_succ_of_lt (ha w d e)
   by_cases hcn:n + 1<=c
   .exact e9 r (n + 1) _ ha' h1 h2 hcn
   .have e:c=n:=Nat.le_antisymm (Nat.not_lt.mp hcn) hc
    subst e
    have key:∀w:Str,(cellsFrom (c + 1) r ((z,c)::acc)).lookup w=some c->w=z:=fun w hw=>by
     rcases dU r (c + 1) _ hw with ⟨q,_⟩ | q
     .exact absurd q (Nat.not_succ_le_self _)
     .rw [List.lookup_cons] at q
      cases q2:w == z with
      | true=>simpa using q2
      | false=>rw [q2] at q;exact absurd (ha w c q) (Nat.lt_irrefl _)
    rw [key x h1,key y h2]
  .rename_i hk
   rw [if_neg hk] at h2
   exact e9 r n acc ha h1 h2 hc
def h7 (env:Env):List (Str×NameKind)->List (Str×Addr)->List (Str×Addr)
 | [],acc=>acc
 | (n,k)::r,acc=>if (k == .free)=true then h7 env r ((n,(env.cells.lookup n).getD 0)::acc) else h7 env r acc
theorem fb {env:Env}{x:Str}{c:Addr}:∀(names:List (Str×NameKind)) (acc:List (Str×Addr)),(h7 env names acc).lookup x=some c->((x,NameKind.free)∈names/\c=(env.cells.lookup x).getD 0)\/acc.lookup x=some c
 | [],acc,h=>.inr h
 | (y,k)::r,acc,h=>by
  unfold h7 at h
  split at h
  .rename_i hk
   have hk':k=.free:=by simpa using hk
   subst hk'
   rcases fb r _ h with ⟨h1,h2⟩ | h1
   .exact .inl ⟨List.mem_cons_of_mem _ h1,h2⟩
   .rw [List.lookup_cons] at h1
    cases e:x == y with
    | true =>
     rw [e] at h1
     have ex:x=y:=by simpa using e
     subst ex
     exact .inl ⟨List.mem_cons_self,(Option.some.inj h1).symm⟩
    | false=>rw [e] at h1;exact .inr h1
  .rcases fb r acc h with ⟨h1,h2⟩ | h1
   .exact .inl ⟨List.mem_cons_of_mem _ h1,h2⟩
   .exact .inr h1
theorem ir {env:Env}{x:Str}:∀(names:List (Str×NameKind)) (acc:List (Str×Addr)),((x,NameKind.free)∈names\/(acc.lookup x).isSome=true)->((h7 env names acc).lookup x).isSome=true
 | [],acc,h=>h.elim (fun z=>nomatch z) id
 | (y,k)::r,acc,h=>by
  unfold h7
  split
  .rename_i hk
   refine ir r _ ?_
   by_cases e:(x == y)=true
   .exact .inr (by rw [List.lookup_cons,e];rfl)
   .rcases h with h | h
    .rcases List.mem_cons.mp h with z | z
     .cases z;exact absurd (by simp) e
     .exact .inl z
    .exact .inr (by rw [List.lookup_cons];rw [Bool.not_eq_true] at e;rw [e];exact h)
  .rename_i hk
   refine ir r acc ?_
   rcases h with h | h
   .rcases List.mem_cons.mp h with z | z
    .cases z;exact absurd rfl hk
    .exact .inl z
   .exact .inr h
theorem fF {scope:Scope}{env:Env} (h:∀x∈scope.names,x.2=.free->∃c,env.cells.lookup x.1=some c):closureFor scope env=pure (h7 env scope.names []):=by
 unfold closureFor
 have key:∀(names:List (Str×NameKind)) (acc:List (Str×Addr)),(∀x∈names,x.2=.free->∃c,env.cells.lookup x.1=some c) ->
   (forIn names acc fun (x:Str×NameKind) (r:List (Str×Addr))=>(if (x.2 == NameKind.free)=true then do let y <- cellOf env x.1;pure (ForInStep.yield ((x.1,y)::r)) else pure (ForInStep.yield r):Sem _))=pure (h7 env names acc):=by
  intro names
  induction names with
  | nil=>intro acc _;rfl
  | cons p r ih =>
   intro acc hp
   obtain ⟨n,k⟩:=p
   rw [List.forIn_cons]
   have hr:∀x∈r,x.2=.free->∃c,env.cells.lookup x.1=some c:=fun x hx=>hp x (List.mem_cons_of_mem _ hx)
   unfold h7
   by_cases hk:(k == NameKind.free)=true
   .obtain ⟨c,hc⟩:=hp (n,k) List.mem_cons_self (by simpa using hk)
    have hc':env.cells.lookup n=some c:=hc
    have e1:cellOf env n=pure c:=by unfold cellOf;rw [hc']
    simp only [hk,if_true]
    rw [e1,hc']
    simp only [pure_bind]
    exact ih _ hr
   .rw [if_neg hk,if_neg hk]
    simp only [pure_bind]
    exact ih _ hr
 have e:=key scope.names [] h
 have e2:∀(m:Sem (List (Str×Addr))),(m >>= fun r=>pure r)=m:=fun m=>bind_pure m
 rw [<- e]
 first
  | rfl
  | exact (e2 _)
def mU (scope:Scope) (C:Addr) (env:Env):Env :=
 { scope:=relabel scope env,locals:=C,globals:=env.globals,cells:=cellsFrom (C + 1) scope.names (h7 env scope.names []),qual:=env.qual,func:=none,code:=env.code,frame:=env.frame,builtins:=env.builtins }
def bj (X:Cx) (N':List Str) (scope:Scope) (s:Shared) (H:Hp) (fp:List Addr) (pins:List (Addr×Obj)):Cx :=
 { X with N:=N',s₀:=s,H₀:=H,env:=mU scope s.heap.objs.size X.env,outer:=X.stack,stack:=X.stack,ex:=fp,fn:=fun x=>decide ((x,NameKind.cell)∈scope.names),pn:=X.pn++pins,xe:=fun _ _=>False }
def ki (sc0:Scope) (N:List Str) (scope:Scope) (N':List Str) (ix:List (Option Nat)):Bool :=
 decide (scope.kind=.function) && scope.names.all (fun y=>(!decide (y.2=.local) || decide (scope.names.lookup y.1=some .local)) &&
  (!decide (y.2=.free) || ((decide (sc0.names.lookup y.1=some .cell) || decide (sc0.names.lookup y.1=some .free)) && !decide ((y.1,NameKind.cell)∈scope.names)))) &&
 decide (N'.length=ix.length) && (N'.zip ix).all (fun p=>match p.2 with | none=>true | some j=>decide (N[j]?=some p.1) && decide (scope.names.lookup p.1=some .free))
structure rC (env:Env) (N:List Str) (scope:Scope) (N':List Str) (ix:List (Option Nat)):Prop where
 kind:scope.kind=.function
 loc:∀y∈scope.names,y.2=.local->scope.names.lookup y.1=some .local
 free:∀y∈scope.names,y.2=.free->(env.kindOf y.1=some .cell\/env.kindOf y.1=some .free)/\(y.1,NameKind.cell)∉scope.names
 len:N'.length=ix.length
 slot:∀(i:Nat) (x:Str) (j:Nat),N'[i]?=some x->ix[i]?=some (some j)->N[j]?=some x/\scope.names.lookup x=some .free
theorem kj {env:Env}{N:List Str}{scope:Scope}{N':List Str}{ix:List (Option Nat)} (h:ki env.scope N scope N' ix=true):rC env N scope N' ix:=by
 unfold ki at h
 simp only [Bool.and_eq_true,decide_eq_true_eq,List.all_eq_true] at h
 obtain ⟨⟨⟨h1,h2⟩,h3⟩,h4⟩:=h
 refine ⟨h1,fun y hy e=>?_,fun y hy e=>?_,h3,fun i x j e1 e2=>?_⟩
 .have:=(h2 y hy).1
  rw [e] at this
  simpa using this
 .have:=(h2 y hy).2
  rw [e] at this
  simpa [Env.kindOf] using this
 .have hm:(x,some j)∈N'.zip ix:=by
   refine List.mem_of_getElem? (i:=i) ?_
   rw [List.getElem?_zip_eq_some]
   exact ⟨e1,e2⟩
  have:=h4 _ hm
  simpa using this
def rlf (env:Env) (p:Str×NameKind):Str×NameKind:=match p with | (n,k)=>if (k == NameKind.free && env.scope.kind == .function && env.kindOf n == some .cell) then (n,.cell) else (n,k)
theorem uP (env:Env) (n:Str) (k:NameKind):∃k',rlf env (n,k)=(n,k')/\(k'=k\/(k=.free/\k'=.cell)):=by
 unfold rlf
 by_cases c:(k == NameKind.free && env.scope.kind == .function && env.kindOf n == some .cell)=true
 .refine ⟨.cell,if_pos c,.inr ⟨?_,rfl⟩⟩
  simp only [Bool.and_eq_true,beq_iff_eq] at c
  exact c.1.1
 .exact ⟨k,if_neg c,.inl rfl⟩
theorem rD {env:Env}:∀{names:List (Str×NameKind)}{x:Str},names.lookup x=some .free->(names.map (rlf env)).lookup x=some .cell\/(names.map (rlf env)).lookup x=some .free
 | [],_,h=>by simp at h
 | (n,k)::r,x,h=>by
  have ih:=@rD env r x
  obtain ⟨k',e,hk'⟩:=uP env n k
  rw [List.map_cons,e]
  cases hx:x == n with
  | true =>
   simp only [List.lookup_cons,hx] at h ⊢
   have hk:k=.free:=Option.some.inj h
   rcases hk' with z | z
   .right;rw [z,hk]
   .left;rw [z.2]
  | false =>
   simp only [List.lookup_cons,hx] at h ⊢
   exact ih h
theorem mV {env:Env}:∀{names:List (Str×NameKind)}{x:Str}{k':NameKind},(names.map (rlf env)).lookup x=some k'->k'=.cell\/k'=.free->names.lookup x=some .cell\/names.lookup x=some .free
 | [],_,_,h,_=>by simp at h
 | (n,k)::r,x,k',h,hk'=>by
  have ih:=@mV env r x k'
  obtain ⟨k2,e,hk2⟩:=uP env n k
  rw [List.map_cons,e] at h
  cases hx:x == n with
  | true =>
   simp only [List.lookup_cons,hx] at h ⊢
   have:k2=k':=Option.some.inj h
   subst this
   rcases hk2 with z | z
   .rw [<- z]
    rcases hk' with q | q
    .left;rw [q]
    .right;rw [q]
   .right;rw [z.1]
  | false =>
   simp only [List.lookup_cons,hx] at h ⊢
   exact ih h hk'
theorem oS {x:Str}{c:Addr}:∀(names:List (Str×NameKind)) (n:Nat) (acc:List (Str×Addr)),(cellsFrom n names acc).lookup x=some c->(x,c)∈cellsFrom n names []\/acc.lookup x=some c:=by
 have app:∀(names:List (Str×NameKind)) (n:Nat) (acc:List (Str×Addr)),cellsFrom n names acc=cellsFrom n names []++acc:=by
  intro names
  induction names with
  | nil=>intro n acc;rfl
  | cons p r ih =>
   intro n acc
   obtain ⟨y,k⟩:=p
   unfold cellsFrom
   split
   .rw [ih (n + 1) ((y,n)::acc),ih (n + 1) [(y,n)],List.append_assoc];rfl
   .exact ih n acc
 intro names n acc h
 rw [app] at h
 rw [List.lookup_append] at h
 cases e:(cellsFrom n names []).lookup x with
 | some d =>
  rw [e] at h
  have:d=c:=by simpa using h
  subst this
  exact .inl (mem_of_lookup e)
 | none=>rw [e] at h;exact .inr (by simpa using h)
def oU (ix:List (Option Nat)) (σ:St):St:=ix.map fun o=>match o with
 | none=>none
 | some j=>match σ[j]? with
  | some v=>v
  | none=>none
section
variable {X:Cx}{pins:List (Addr×Obj)}{σ:St}{H:Hp}{s:Shared}
theorem rE {N':List Str}{ix:List (Option Nat)}{scope:Scope}{fp:List Addr} (ok:rC X.env X.N scope N' ix) (I:Inv X pins σ H s) (hf:∀b∈fp,ql X pins H b) (hfl:∀b∈fp,b < s.heap.objs.size) :
  Inv (bj X N' scope s H fp pins) [] (oU ix σ) H { s with heap:=pushCells (s.heap.push { cls:=.type "dict",data:=.dict #[] }) scope.names }:=by
 have hk4:∀b o,s.heap.get? b=some o->(pushCells (s.heap.push { cls:=.type "dict",data:=.dict #[] }) scope.names).get? b=some o:=fun b o e=>pushCells_keeps _ _ b o (Heap.get?_push_of_some _ e)
 have hclo:∀x c,(h7 X.env scope.names []).lookup x=some c->X.env.cells.lookup x=some c:=fun x c e=>by
  rcases fb scope.names [] e with ⟨h1,h2⟩ | h1
  .obtain ⟨d,hd⟩:=I.ok.has x (ok.free _ h1 rfl).1
   rw [hd] at h2 ⊢
   rw [h2];rfl
  .cases h1
 have hcl:∀x c,X.env.cells.lookup x=some c->c < s.heap.objs.size:=fun x c e=>by
  obtain ⟨v,q⟩:=I.cell x c e
  exact q.lt
 have own:=cellsFrom_ok scope.names (s.heap.push { cls:=.type "dict",data:=.dict #[] }) (s.heap.objs.size + 1) [] ⟨fun _ _ hm=>(nomatch hm),List.Pairwise.nil⟩ (by rw [Heap.size_push];exact Nat.le_refl _)
 rw [Heap.size_push] at own
 have cases:∀x c,(cellsFrom (s.heap.objs.size + 1) scope.names (h7 X.env scope.names [])).lookup x=some c ->
   ((pushCells (s.heap.push { cls:=.type "dict",data:=.dict #[] }) scope.names).IsCell c none/\s.heap.objs.size + 1<=c)\/X.env.cells.lookup x=some c:=fun x c e=>by
  rcases oS _ _ _ e with h | h
  .exact .inl (own.empty x c h)
  .exact .inr (hclo x c h)
 have fs':∀b,b∈frs X.stack->b < s.heap.objs.size:=fun b hb=>by
  rcases List.mem_cons.mp (I.stkSub b hb) with z | z
  .rw [z];exact I.lt
  .by_cases q:b < s.heap.objs.size
   .exact q
   .exact absurd z (I.nofs (Nat.not_lt.mp q))
 have cix:(bj X N' scope s H fp pins).Ok:=by
  refine ⟨I.ok.mod,ok.kind,I.ok.glob,I.ok.blt,Nat.le_refl _,fun x y c h1 h2=>?_,fun x hx=>?_,fun x c hx e=>?_,I.ok.hd,I.ok.frames,.inl rfl,fun b hb=>⟨Nat.ne_of_lt (hfl b hb),fun x c e=>?_⟩,fun b o e=>I.bs b o e,Nat.le_trans I.ok.bsz I.sz,fun b o e hb=>?_,fun b hb=>?_,I.stack,I.stkFree⟩
  .rcases cases x c h1 with ⟨_,z⟩ | z
   .exact e9 scope.names _ _ (fun w d e=>Nat.lt_succ_of_lt (hcl w d (hclo w d e))) h1 h2 z
   .rcases cases y c h2 with ⟨_,z2⟩ | z2
    .exact absurd (hcl x c z) (Nat.not_lt.mpr (Nat.le_of_succ_le z2))
    .exact I.ok.inj x y c z z2
  .have hx':scope.names.lookup x=some .cell\/scope.names.lookup x=some .free:=by
    rcases hx with z | z
    .exact mV (env:=X.env) z (.inl rfl)
    .exact mV (env:=X.env) z (.inr rfl)
   rcases hx' with z | z
   .exact Option.isSome_iff_exists.mp (PySem.W.cellsFrom_some scope.names _ _ (.inl z))
   .exact Option.isSome_iff_exists.mp (PySem.W.cellsFrom_some scope.names _ _ (.inr (ir _ _ (.inl (mem_of_lookup z)))))
  .have hx':(x,NameKind.cell)∈scope.names:=of_decide_eq_true hx
   rcases cases x c e with ⟨_,z⟩ | z
   .exact Nat.le_of_succ_le z
   .rcases oS _ _ _ e with h | h
    .exact Nat.le_of_succ_le (own.empty x c h).2
    .rcases fb scope.names [] h with ⟨h1,_⟩ | h1
     .exact absurd hx' (ok.free _ h1 rfl).2
     .cases h1
  .intro z
   rcases cases x c e with ⟨_,z2⟩ | z2
   .rw [z] at z2;exact absurd (hfl b hb) (Nat.not_lt.mpr (Nat.le_of_succ_le z2))
   .exact (hf b hb).2.2.2.2.1 x c z2 z
  .rcases (hf b hb).2.2.2.1 with z | z
   .exact I.ok.noex b o e z
   .exact absurd (Heap.lt_size (I.ok.bs b o e).1) (Nat.not_lt.mpr z)
  .intro z
   rcases List.mem_cons.mp (I.stkSub b z) with q | q
   .exact (hf b hb).2.1 q
   .exact (hf b hb).2.2.1 q
 refine ⟨cix,rfl,I.bare,Un.kept hk4,⟨fun _=>none,?_,fun i x v e1 e2 e3=>?_⟩,fun x c e=>?_,I.hok.fresh (Nat.le_refl _),fun x c e=>?_,fun p hp=>?_,I.hok.kept hk4,?_⟩
 .exact (Heap.Ns.new s.heap (.type "dict")).keeps (pushCells_keeps _ _)
 .have e2':∃j,ix[i]?=some (some j)/\σ[j]?=some (some v):=by
   unfold oU at e2
   rw [List.getElem?_map] at e2
   cases q:ix[i]? with
   | none=>rw [q] at e2;cases e2
   | some o =>
    rw [q] at e2
    cases o with
    | none=>cases (Option.some.inj e2)
    | some j =>
     refine ⟨j,rfl,?_⟩
     have e2'':(match σ[j]? with | some v=>v | none=>none)=some v:=Option.some.inj e2
     cases r:σ[j]? with
     | none=>rw [r] at e2'';cases e2''
     | some w=>rw [r] at e2'';exact congrArg some e2''
  obtain ⟨j,hj,hv⟩:=e2'
  obtain ⟨hN,hfr⟩:=ok.slot i x j e1 hj
  have hk:=(ok.free _ (mem_of_lookup hfr) rfl).1
  have hvis:Vis X.env.scope x:=by
   rcases hk with z | z
   .exact .inr (.inl z)
   .exact .inr (.inr z)
  obtain ⟨m,hn,hl⟩:=I.loc
  obtain ⟨u,ru,lk⟩:=hl j x v hN hv hvis
  refine ⟨u,ru,.inr ⟨?_,?_⟩⟩
  .exact rD (env:=X.env) hfr
  .rcases lk with ⟨z,_⟩ | ⟨_,c,hc,hcell⟩
   .rcases hk with q | q
    .rw [z] at q;cases q
    .rw [z] at q;cases q
   .refine ⟨c,?_,hcell.keeps hk4⟩
    show (cellsFrom (s.heap.objs.size + 1) scope.names (h7 X.env scope.names [])).lookup x=some c
    rw [e8 scope.names _ _ (ok.free _ (mem_of_lookup hfr) rfl).2]
    obtain ⟨d,hd⟩:=Option.isSome_iff_exists.mp (ir (env:=X.env) scope.names [] (.inl (mem_of_lookup hfr)))
    rw [hd,<- hclo x d hd,hc]
 .rcases cases x c e with ⟨z,_⟩ | z
  .exact ⟨none,z⟩
  .obtain ⟨v,q⟩:=I.cell x c z
   exact ⟨v,q.keeps hk4⟩
 .rcases cases x c e with ⟨_,z⟩ | z
  .exact I.hok.fresh (Nat.le_of_succ_le z)
  .exact I.freeC x c z
 .have hp':p∈X.pn++pins:=by simpa [bj] using hp
  obtain ⟨q1,q2,q3,q4,q5⟩:=I.pin p hp'
  refine ⟨hk4 _ _ q1,q2,Nat.ne_of_lt (Heap.lt_size q1),fun z=>?_,q5⟩
  rcases List.mem_cons.mp (I.stkSub p.1 z) with q | q
  .exact q3 q
  .exact q4 q
 .unfold oU
  rw [List.length_map]
  exact ok.len.symm
end
section
variable {M:Model}{A:Around}{E:Value->Shared->Prop}{s:Shared}
theorem dW {scope:Scope}{globals:Addr}{cl:List (Str×Addr)}{qual:Str}{func:Option Addr}{code:Value}{env:Env}{Q:Env->Shared->Prop}
  (hQ:Q { scope:=scope,locals:=s.heap.objs.size,globals:=globals,cells:=cellsFrom (s.heap.objs.size + 1) scope.names cl,qual:=qual,func:=func,code:=env.code,frame:=env.frame,builtins:=env.builtins }
   { s with heap:=pushCells (s.heap.push { cls:=.type "dict",data:=.dict #[] }) scope.names }) :
  wpAny M A (newFunctionEnv scope globals cl [] qual func code (some env)) Q E s:=by
 simp only [newFunctionEnv,Option.isSome_some,if_true]
 refine wpAny_bind (wpAny_alloc ?_)
 refine wpAny_bind (wpAny_layCells _ (fun name kind cells=>by cases hkc:kind == NameKind.cell <;> simp [hkc]) _ _ _ _ ?_)
 rw [show ({ s with heap:=s.heap.push { cls:=.type "dict",data:=.dict #[] } }:Shared).heap.objs.size=s.heap.objs.size + 1 from Heap.size_push ..]
 simp only [List.forIn_nil]
 exact wpAny_bind (wpAny_pure (wpAny_pure hQ))
end
section
variable {prog:Program}{w:World}{A:Around}{R:Result->Shared->Prop}{s:Shared}
theorem oV {elt target iter:Expr}{ifs:List Expr}{scope:Scope}{pos:Pos}{it acc:Value}{env:Env} (I:Nat->Shared->Prop)
  (turn:∀n s,I n s->wpAny (model prog w) A (pyNext it) (fun r s₁=>match r with
   | none=>R (.ok .next) s₁
   | some v=>wpAny (model prog w) A (letOwnedTupleGo target it v) (fun _ s₂=>wpAny (model prog w) A (assign target env v) (fun _ s₃ =>
     wpAny (model prog w) A (forIn ifs true fun c r=>if r=true then do let ok <- isTrue c env (eval c env);pure (ForInStep.yield ok) else pure (ForInStep.yield r)) (fun ok s₄ =>
      if ok=true then wpAny (model prog w) A (eval elt env) (fun x s₅ =>
       wpAny (model prog w) A (call (.builtin "list.append") [acc,x]) (fun _ s₆=>∃m,m < n/\I m s₆) (fun _ _=>False) s₅) (fun _ _=>False) s₄
      else ∃m,m < n/\I m s₄) (fun _ _=>False) s₃) (fun _ _=>False) s₂) (fun _ _=>False) s₁) (fun _ _=>False) s)
  (n:Nat) (h:I n s) :
  codeAny (model prog w) A (.compLoop (.ListComp elt [⟨target,iter,ifs,0⟩] scope pos) 0 it acc env) R s:=by
 refine codeAny_loop rfl I (fun n s hI=>?_) n h
 show wpAny _ A ((compTurn (.ListComp elt [⟨target,iter,ifs,0⟩] scope pos) 0 it acc env).onRaise (fun x=>do noteFrame x env;theTreesLotGoes x)) _ _ s
 refine wpAny_noted ?_
 rw [compTurn_list]
 refine wpAny_bind (wpAny_standAt (wpAny_bind (wpAny_mono (turn n s hI) (fun r s₁ h₁=>?_) fun _ _ h'=>h'.elim)))
 cases r with
 | none=>exact wpAny_pure h₁
 | some v =>
  refine wpAny_bind (wpAny_mono h₁ (fun _ s₂ h₂=>?_) fun _ _ h'=>h'.elim)
  refine wpAny_bind (wpAny_mono h₂ (fun _ s₃ h₃=>wpAny_bind (wpAny_mono h₃ (fun ok s₄ h₄=>?_) fun _ _ h'=>h'.elim)) fun _ _ h'=>h'.elim)
  cases ok with
  | false=>exact wpAny_pure ⟨rfl,h₄⟩
  | true =>
   exact wpAny_bind (wpAny_bind (wpAny_mono h₄ (fun x s₅ h₅=>wpAny_bind (wpAny_mono h₅ (fun _ s₆ h₆=>wpAny_pure (wpAny_pure ⟨rfl,h₆⟩)) fun _ _ h'=>h'.elim)) fun _ _ h'=>h'.elim))
end
def PIf (X:Cx) (ifs:List Expr) (t:TT):Prop :=
 ∀(pins:List (Addr×Obj)) (s:Shared) (σ:St) (H:Hp) (Q:Bool->Hp->Prop),Inv X pins σ H s->t σ H Q ->
  wpAny (model X.prog X.w) X.A (forIn ifs true fun c r=>if r=true then do let ok <- isTrue c X.env (eval c X.env);pure (ForInStep.yield ok) else pure (ForInStep.yield r)) (TP X pins σ Q) X.xe s
def kl:TT:=fun _ H Q=>Q true H
section
variable {X:Cx}
theorem cw:PIf X [] kl:=fun _ _ _ H _ I h=>wpAny_tests_nil ⟨H,I,h⟩
theorem dX {c:Expr}{t:TT} (h:PT X c t):PIf X [c] t:=fun pins s σ H Q I q=>wpAny_tests_one (h pins s σ H Q I q)
end
def sO (ix:List (Option Nat)) (wi:TI) (g:TG) (tts:TT) (te:TE):TE:=fun σ H Q=>wi σ H fun J H1=>∀D,H1 D=none->∃W:Nat->Nat->St->Hp->Prop,(∃m,W 0 m (oU ix σ) (upd H1 D (.lst [])))/\∀i m τ H2,W i m τ H2 ->
 (J.stop i H2/\Q (.ref D) H2)\/(J.go i H2/\∀x H3,J.yld i H2 x H3->g x τ H3 fun τ2 H4=>tts τ2 H4 fun ok H5=>if ok=true then te τ2 H5 fun v H6=>∃ys,H6 D=some (.lst ys)/\ys.length < sizeLine/\∃m',m' < m/\W (i + 1) m' τ2 (upd H6 D (.lst (ys++[v])))
  else ∃m',m' < m/\W (i + 1) m' τ2 H5)
section
variable {X:Cx}{tg iter elt:Expr}{ifs:List Expr}{scope:Scope}{N':List Str}{ix:List (Option Nat)}{wi:TI}{g:TG}{tts:TT}{te:TE}
theorem oW {use:Option (Value->Sem Unit)}{Qf:Value->Shared->Prop}{pos p':Pos}{pins:List (Addr×Obj)}{σ:St}{H:Hp}{s:Shared}{Q:VK} (hc:X.calm=true) (ok:rC X.env X.N scope N' ix) (hi:PI X tg iter wi)
  (blk:∀s H fp pn,PG (bj X N' scope s H fp pn) tg g/\PIf (bj X N' scope s H fp pn) ifs tts/\PE (bj X N' scope s H fp pn) elt te)
  (hs:∀x,foldedSetIterable iter X.env x=pure x) (I:Inv X pins σ H s) (hw:sO ix wi g tts te σ H Q)
  (fin:∀D C H' s',Inv X pins σ H' s'->Q (.ref D) H'->(∃m,s'.heap.Ns C m)->H' C=none->X.s₀.heap.objs.size<=C->C≠X.env.locals->(∀x c,X.env.cells.lookup x=some c->c≠C)->C∉X.fs->(∀p∈X.pn++pins,p.1≠C) ->
   compPost (model X.prog X.w) X.A X.xe use Qf (.ref D) C (.ok .next) s') :
  wpAny (model X.prog X.w) X.A (comprehension (.ListComp elt [⟨tg,iter,ifs,0⟩] scope pos) scope X.env p' (newList []) false (eval iter X.env) use) Qf X.xe s:=by
 have hclos:closureFor scope X.env=pure (h7 X.env scope.names []):=fF fun y hy e=>I.ok.has y.1 (ok.free y hy e).1
 refine wpAny_comprehension_free (use:=use) rfl hs hclos ok.kind ok.loc (thn (hi pins s σ H _ I hw) fun v s1 h1=>thn h1 fun itv s2 h2=>?_)
 obtain ⟨it,fp,tn,J,H2,e,I2,T,st2,f2,hW⟩:=h2
 subst e
 obtain ⟨W,⟨m0,w0⟩,turn⟩:=hW s2.heap.objs.size (I2.hok.fresh (Nat.le_refl _))
 have hfl:∀b∈fp,b < s2.heap.objs.size:=fun b hb=>by
  obtain ⟨o,e,_⟩:=T.obj 0 _ st2 b hb
  exact Heap.lt_size e
 refine wpAny_newObj_type ?_
 have I3:Inv X pins σ (upd H2 s2.heap.objs.size (.lst [])) { s2 with heap:=s2.heap.push { cls:=.type "list",dict:=none,data:=.seq ([]:List Value).toArray } } :=
  I2.laid (t':=s2.toks) (fun b o e=>Heap.get?_push_of_some _ e) (Nat.le_refl _) (show cr X.prog X.w _ _ _ (.lst []) from ⟨Nat.zero_le _,[],0,.nil,Heap.get?_push_size _ rfl⟩)
 have st3:tn 0 (s2.heap.push { cls:=.type "list",dict:=none,data:=.seq ([]:List Value).toArray }):=T.keep 0 _ _ st2 fun b _ o e=>Heap.get?_push_of_some _ e
 have f3:∀b∈fp,ql X pins (upd H2 s2.heap.objs.size (.lst [])) b:=fun b hb=>⟨by rw [au (Nat.ne_of_lt (hfl b hb))];exact (f2 b hb).1,(f2 b hb).2⟩
 have hfl3:∀b∈fp,b < (s2.heap.push { cls:=.type "list",dict:=none,data:=.seq ([]:List Value).toArray }).objs.size:=fun b hb=>by rw [Heap.size_push];exact Nat.lt_succ_of_lt (hfl b hb)
 generalize hs3:({ s2 with heap:=s2.heap.push { cls:=.type "list",dict:=none,data:=.seq ([]:List Value).toArray } }:Shared)=s3 at I3 ⊢
 have eh3:s3.heap=s2.heap.push { cls:=.type "list",dict:=none,data:=.seq ([]:List Value).toArray }:=by rw [<- hs3]
 rw [<- eh3] at st3 hfl3
 generalize hH3:upd H2 s2.heap.objs.size (.lst [])=H3 at I3 f3 w0
 generalize hD:s2.heap.objs.size=D at *
 refine dW ?_
 have I4:=rE ok I3 f3 hfl3
 obtain ⟨hg,ht,he⟩:=blk s3 H3 fp pins
 have st4:tn 0 (pushCells (s3.heap.push { cls:=.type "dict",data:=.dict #[] }) scope.names):=T.keep 0 _ _ st3 fun b _ o e=>pushCells_keeps _ _ b o (Heap.get?_push_of_some _ e)
 have stat:∀{H':Hp},(∀b∈fp,H' b=none)->∀b∈fp,ql (bj X N' scope s3 H3 fp pins) [] H' b:=fun hn b hb=>by
  refine ⟨hn b hb,Nat.ne_of_lt (hfl3 b hb),I4.ok.exfs b hb,.inl hb,(I4.ok.exf b hb).2,fun p hp=>?_⟩
  have hp':p∈X.pn++pins:=by simpa [bj] using hp
  exact (f2 b hb).2.2.2.2.2 p hp'
 have loop:∀(s4:Shared),Inv (bj X N' scope s3 H3 fp pins) [] (oU ix σ) H3 s4->tn 0 s4.heap ->
   codeAny (model X.prog X.w) X.A (.compLoop (.ListComp elt [⟨tg,iter,ifs,0⟩] scope pos) 0 (.ref it) (.ref D) (mU scope s3.heap.objs.size X.env)) (compPost (model X.prog X.w) X.A X.xe use Qf (.ref D) s3.heap.objs.size) s4:=by
  intro s4 I4 st4
  refine oV (fun n s'=>∃i τ H',Inv (bj X N' scope s3 H3 fp pins) [] τ H' s'/\tn i s'.heap/\(∀b∈fp,H' b=none)/\W i n τ H') ?_ m0 ⟨0,_,H3,I4,st4,fun b hb=>(f3 b hb).1,w0⟩
  rintro n s5 ⟨i,τ,H5,I5,st5,fr5,w5⟩
  rcases turn i n τ H5 w5 with ⟨stop,qn⟩ | ⟨go,step⟩
  .refine thn (T.done (bj X N' scope s3 H3 fp pins) rfl rfl rfl hc i [] s5 τ H5 (fun _ _=>False) I5 (stat fr5) st5 stop) fun r s6 ⟨hr,I6⟩=>?_
   subst hr
   have I7:Inv X pins σ H5 s6:=I3.call' (ch:=fp) I6.os I6.base I6.hok I6.bare fun b hb=>⟨(f2 b hb).2.2.2.1,(f2 b hb).2.1,(f2 b hb).2.2.2.2.1,(f2 b hb).2.2.2.2.2⟩
   obtain ⟨m6,hn6,_⟩:=I6.loc
   refine fin D s3.heap.objs.size H5 s6 I7 qn ⟨m6,hn6⟩ I6.free ?_ ?_ ?_ ?_ ?_
   .exact I3.sz
   .exact Nat.ne_of_gt I3.lt
   .intro x c e z
    obtain ⟨v,q⟩:=I3.cell x c e
    have:=q.lt
    rw [z] at this
    exact Nat.lt_irrefl _ this
   .exact I3.nofs (Nat.le_refl _)
   .intro p hp z
    have:=Heap.lt_size (I3.pin p hp).1
    rw [z] at this
    exact Nat.lt_irrefl _ this
  .refine thn (T.item (bj X N' scope s3 H3 fp pins) rfl rfl rfl hc i [] s5 τ H5 (fun _ _=>False) I5 (stat fr5) st5 go) fun r s6 ⟨u,hr,h6⟩=>?_
   subst hr
   refine thn h6 fun _ s7 ⟨x,H7,I7,r7,y7,st7,fr7⟩=>?_
   have I7':=I7.pinned (stat fr7) (T.obj _ _ st7)
   have again:∀{s8:Shared}{τ8:St}{H8:Hp},Inv (bj X N' scope s3 H3 fp pins) ([]++j4 fp s7.heap) τ8 H8 s8->(∃m',m' < n/\W (i + 1) m' τ8 H8) ->
     ∃m,m < n/\∃i τ H',Inv (bj X N' scope s3 H3 fp pins) [] τ H' s8/\tn i s8.heap/\(∀b∈fp,H' b=none)/\W i m τ H':=fun {s8 τ8 H8} I8 ⟨m',hm,w8⟩=>by
    refine ⟨m',hm,i + 1,τ8,H8,I8.unpinned,T.keep _ _ _ st7 fun b hb o e=>(I8.pin (b,o) (List.mem_append_right _ (List.mem_append_right _ (cT hb e)))).1,fun b hb=>?_,w8⟩
    obtain ⟨o,e,d⟩:=T.obj _ _ st7 b hb
    exact (I8.pin (b,o) (List.mem_append_right _ (List.mem_append_right _ (cT hb e)))).2.1
   refine thn (hg _ s7 τ H7 x u _ I7' r7 (step x H7 y7)) fun _ s8 ⟨τ8,H8,I8,q8⟩=>?_
   refine thn (ht _ s8 τ8 H8 _ I8 q8) fun okb s9 ⟨H9,I9,q9⟩=>?_
   cases okb with
   | false =>
    rw [if_neg Bool.false_ne_true] at q9
    rw [if_neg Bool.false_ne_true]
    exact again I9 q9
   | true =>
    rw [if_pos rfl] at q9
    rw [if_pos rfl]
    refine thn (he _ s9 τ8 H9 _ I9 q9) fun v10 s10 ⟨x10,H10,I10,r10,q10⟩=>?_
    obtain ⟨ys,hD10,hz,m',hm,w10⟩:=q10
    refine thn (dS (X:=bj X N' scope s3 H3 fp pins) _ s10 τ8 H10 (.ref D) [x10] (.ref D) [v10] (fun _ H'=>∃m',m' < n/\W (i + 1) m' τ8 H') I10 rfl (.cons r10 .nil) ⟨D,ys,x10,rfl,rfl,hD10,hz,m',hm,w10⟩) fun _ s11 ⟨_,H11,I11,_,q11⟩=>?_
    exact again I11 q11
 exact codeAny_compStart_list (loop _ I4 st4) (T.self X.A 0 _ _ _ st4 (loop _ I4 st4))
theorem bI {pos:Pos} (N':List Str) (ix:List (Option Nat)) (hc:X.calm=true) (hi:PI X tg iter wi)
  (blk:∀s H fp pn,PG (bj X N' scope s H fp pn) tg g/\PIf (bj X N' scope s H fp pn) ifs tts/\PE (bj X N' scope s H fp pn) elt te)
  (chk:ki X.env.scope X.N scope N' ix=true) (hs:∀x,foldedSetIterable iter X.env x=pure x:=by intro _;rfl) :
  PE X (.ListComp elt [⟨tg,iter,ifs,0⟩] scope pos) (sO ix wi g tts te):=by
 intro pins s σ H Q I hw
 rw [eval_ListComp]
 refine oW (use:=none) hc (kj chk) hi blk hs I hw fun D C H' s' I' q hm hn h1 h2 h3 h4 h5=>?_
 obtain ⟨m,hm⟩:=hm
 refine ⟨m,hm,fun h' sb=>⟨.ref D,H',?_,rfl,q⟩⟩
 exact I'.turned (t':=s'.toks) (fun b o hb e=>(sb.2 b hb).trans e) hn h2 (.inr h1) h3 h5
end
section
variable {X:Cx}{tg iter elt:Expr}{ifs:List Expr}{scope:Scope}{N':List Str}{ix:List (Option Nat)}{wi:TI}{g:TG}{tts:TT}{te:TE}
theorem mW {i:Nat}{x:Str}{pos pos' cpos:Pos} (N':List Str) (ix:List (Option Nat)) (hN:X.N.Nodup) (hi:X.N[i]?=some x) (hx:Loc X.env.scope x) (hc:X.calm=true) (hit:PI X tg iter wi)
  (blk:∀s H fp pn,PG (bj X N' scope s H fp pn) tg g/\PIf (bj X N' scope s H fp pn) ifs tts/\PE (bj X N' scope s H fp pn) elt te)
  (chk:ki X.env.scope X.N scope N' ix=true) (hsw:swapsWith (.ListComp elt [⟨tg,iter,ifs,0⟩] scope cpos) (some (.Name x pos')) pos.line X.env=pure true:=by rfl)
  (hs:∀x,foldedSetIterable iter X.env x=pure x:=by intro _;rfl) (hf:X.fn x=true\/X.env.scope.names.lookup x=some .local:=by first | exact .inl rfl | exact .inr rfl | assumption) :
  PS X (.Assign [.Name x pos'] (.ListComp elt [⟨tg,iter,ifs,0⟩] scope cpos) pos) (uc (sO ix wi g tts te) (ca i)):=by
 intro pins s σ H D I hw
 rw [exec_Assign_Name_used _ _ _ _ hsw]
 refine wpAny_bind (wpAny_standAt (wpAny_bind ?_))
 show wpAny _ X.A (do let _ <- comprehension (.ListComp elt [⟨tg,iter,ifs,0⟩] scope cpos) scope X.env _ (newList []) false (eval iter X.env) (some (assign (.Name x pos') X.env))) _ _ s
 refine wpAny_bind (thn (oW (use:=some (assign (.Name x pos') X.env)) (Qf:=fun _ s'=>SP X pins D .next s') hc (kj chk) hit blk hs I hw fun D' C H' s' I' q hm hn h1 h2 h3 h4 h5=>?_) fun _ s' q=>wpAny_pure (wpAny_pure q))
 obtain ⟨m,oC,es,ep,hoC,hdC,hrC⟩:=hm
 have Ip:Inv X (pins++[(C,oC)]) σ H' s':=I'.pins_of fun p hp=>(List.mem_append.mp hp).elim (fun z=>I'.pin p (List.mem_append_right _ z)) fun z=>by
  have e:p=(C,oC):=by simpa using z
  subst e
  exact ⟨hoC,hn,h2,h4,fun v z=>by rw [hdC] at z;cases z⟩
 refine wpAny_assign_Name (mM (v:=.ref D') Ip hN hi hx rfl (fun s2 I2=>?_) hf)
 have hC2:s2.heap.get? C=some oC:=(I2.pin (C,oC) (by simp)).1
 have I2':Inv X pins (σ.set i (some (.ref D'))) H' s2:=I2.pins_of fun p hp=>I2.pin p (List.mem_append_right _ (List.mem_append_left _ hp))
 refine ⟨m,⟨oC,es,ep,hC2,hdC,hrC⟩,fun h' sb=>⟨_,H',?_,q⟩⟩
 exact I2'.turned (t':=s2.toks) (fun b o hb e=>(sb.2 b hb).trans e) hn h2 (.inr h1) h3 h5
end
def xQ (p:Addr) (a b c:Int):HO:=.ext fun h=>∃t u v,IsRange h p a b c t u v
def qq (a c:Int) (n:Nat):List V:=(List.range n).map fun (k:Nat)=>V.int (a + k * c)
theorem sP {a c:Int}{n:Nat}{acc:Array Value} (h:ItemsOf (fun i v=>∃t,v=.int (a + i * c) t) acc n):bV (qq a c n) acc.toList:=by
 obtain ⟨hn,hi⟩:=h
 have key:∀(m:Nat) (us:List Value) (f:Nat->Int),us.length=m->(∀i u,us[i]?=some u->∃t,u=Value.int (f i) t)->bV ((List.range m).map fun k=>V.int (f k)) us:=by
  intro m
  induction m with
  | zero=>intro us f hl _;rw [List.length_eq_zero_iff] at hl;subst hl;exact .nil
  | succ m ih =>
   intro us f hl hu
   cases us with
   | nil=>simp at hl
   | cons u r =>
    rw [List.range_succ_eq_map,List.map_cons,List.map_map]
    refine .cons (hu 0 u rfl) (ih r (fun k=>f (k + 1)) (by simpa using hl) fun i v e=>hu (i + 1) v (by simpa using e))
 refine key n acc.toList (fun k=>a + k * c) (by simpa using hn) fun i u e=>?_
 exact hi i u (by simpa using e)
theorem uQ (a c:Int) (n:Nat):(qq a c n).length=n:=by simp [qq]
section
variable {X:Cx}
theorem wL {pins:List (Addr×Obj)}{σ:St}{H:Hp}{s:Shared}{a b c:Int}{t u v:Tok}{tk:Nat} (I:Inv X pins σ H s) :
  Inv X pins σ (upd H s.heap.objs.size (xQ s.heap.objs.size a b c)) { s with heap:=s.heap.push { cls:=.type "range",data:=.fields #[.int a t,.int b u,.int c v] },toks:=tk }:=by
 refine I.laid (fun b o e=>Heap.get?_push_of_some _ e) (Nat.le_refl _) ⟨⟨t,u,v,IsRange.new ..⟩,⟨_,Heap.get?_push_size _ rfl⟩,fun h1 h2 ⟨t,u,v,z⟩ k=>⟨t,u,v,k _ z⟩⟩
theorem uR {a:Expr}{ta:TA}{p pos:Pos} (hg:Gl X "range") (hm:X.mg "range"=none) (ha:PA X [a] ta) (hs:starEach [a] X.env=[(false,eval a X.env)]:=by rfl) :
  PE X (.Call (.Name "range" p) [a] [] pos) (fun σ H Q=>ta σ H fun vs H1=>∃j:Int,vs=[.int j]/\∀p,H1 p=none->Q (.ref p) (upd H1 p (xQ p 0 j 1))):=by
 intro pins s σ H Q I h
 refine Call_ (ip I hg hm boot_range (PyProof.Rows.callWith_type1 (thn (ha pos pins s σ H _ I h) fun us s1 ⟨vs,H1,I1,r1,q1⟩=>?_) hs rfl))
 obtain ⟨j,e,q⟩:=q1
 subst e
 cases r1 with
 | cons r rr =>
  cases rr
  obtain ⟨t,rfl⟩:=r
  exact call_range_1 ⟨.ref s1.heap.objs.size,_,wL I1,rfl,q _ (I1.hok.fresh (Nat.le_refl _))⟩
def C3 (K:PySem.W.Frag) (mk:List V->HO):List V->Hp->VK->Prop:=fun xs H Q=>∃p a b c n,xs=[.ref p]/\H p=some (xQ p a b c)/\Builtin.Range.small a b c=true/\Builtin.Range.rangeSize a b c=((n:Nat):Int)/\n<=1000000/\∀l,H l=none->Q (.ref l) (upd H l (mk (qq a c n)))
theorem sQ (hc:X.calm=true):bX X (.type "list") (C3 X.K .lst):=by
 intro pins s σ H xs us Q I r h
 obtain ⟨p,a,b,c,n,rfl,hp,hsm,hsz,hn,q⟩:=h
 obtain ⟨u,rfl,rx⟩:=hX r
 cases rx
 obtain ⟨⟨t,u,v,hr⟩,_,_⟩:=(show cr X.prog X.w H s.heap p (xQ p a b c) from I.hok p _ hp)
 have hs:sizeLine=16777216:=sizeLine_eq
 refine call_list_range (I.ok.hd hc) hr hsm hsz (by omega) fun h' tk acc c' hk e hacc=>?_
 exact ⟨.ref s.heap.objs.size,_,I.laid (t':=tk) hk (Nat.le_refl _) (show cr X.prog X.w _ h' _ (.lst (qq a c n)) from ⟨by rw [uQ];omega,acc.toList,c',sP hacc,by simpa using e⟩),rfl,q _ (I.hok.fresh (Nat.le_refl _))⟩
end
theorem uS:typeLookup (.type "list_reverseiterator") "__len__"=pure none:=by rw [typeLookup_type,builtinLookup_eq_fast];kernel_rfl
theorem wM:typeLookup (.type "list_reverseiterator") "__length_hint__"=pure (some (.builtin "list_reverseiterator.__length_hint__")):=by rw [typeLookup_type,builtinLookup_eq_fast];kernel_rfl
section
variable {prog:Program}{w:World}{A:Around}{E:Value->Shared->Prop}{s:Shared}{I l:Addr}{items:Array Value}
theorem wN {Q:Bool->Shared->Prop}{i:Int} (hit:s.heap.IsRevIter I l i) (h:Q false s):wpAny (model prog w) A (Builtin.List.listLengthHint (.ref I)) Q E s:=by
 unfold Builtin.List.listLengthHint
 refine wpAny_bind (wpAny_specialOf hit.typeIs uS ?_)
 show wpAny _ A (specialOf (Value.ref I) (Str.ofString "__length_hint__") >>= _) _ _ _
 refine wpAny_bind (wpAny_specialOf hit.typeIs wM ?_)
 (generalize hid:("list_reverseiterator.__length_hint__":String)=id0;(fail_if_success (clear hid id0));wp_delta;rw [show splitId id0=some ("list_reverseiterator","__length_hint__") from by subst hid;decide +kernel];subst hid)
 refine wpAny_bind (wpAny_isInstance (b:=true) hit.typeIs (by rw [isSubtype_type];kernel_rfl) ?_)
 exact wpAny_pure h
theorem sR {R:Result->Shared->Prop} (hh:A.handled=none) (hit:s.heap.IsRevIter I l ((items.size:Int) - 1)) (hl:s.heap.IsList l items) (hlI:l≠I) (hsz:items.size<=sizeLine) (Sx:Addr) (res:Value) (c₀:Nat)
  (hS:s.heap.get? Sx=some { cls:=.type "list",data:=.seq #[] c₀ }) (hSI:Sx≠I) (hSl:Sx≠l)
  (hR:∀h' tk acc' c',(∀b o,b≠Sx->b≠I->s.heap.get? b=some o->h'.get? b=some o)->h'.get? Sx=some { cls:=.type "list",dict:=none,data:=.seq acc' c',slots:=#[] } ->
   ItemsOf (fun i v=>items[items.size - 1 - i]?=some v) acc' items.size->R (.ok (.ret res)) { s with heap:=h',toks:=tk }) :
  wpAny (model prog w) A.in1 (Builtin.List.listExtendWith (.ref Sx) (.ref I) res)
   (fun fin s'=>match fin with | .done f=>R (.ok f) s' | .again c'=>c'.quiet=true/\codeAny (model prog w) A c' R s') (fun e s'=>R (.error e) s') s:=by
 have hSf:Sx∉[I,l]:=fun hm=>by
  rcases List.mem_cons.mp hm with e | e
  .exact hSI e
  .exact hSl (List.mem_singleton.mp e)
 have W:=(Walks.listRev (prog:=prog) (w:=w) (A:=A.in1) hh I l hlI items).toS
 unfold Builtin.List.listExtendWith
 refine wpAny_bind (wpAny_typeOf (T:="list_reverseiterator") hit.typeIs ?_)
 have h1:Builtin.List.listSameRef (.ref Sx) (.ref I)=false:=by simp [Builtin.List.listSameRef,hSI]
 have h2:(Value.type "list_reverseiterator" == Value.type "list")=false:=by decide
 have h3:(Value.type "list_reverseiterator" == Value.type "tuple")=false:=by decide
 simp only [h1,h2,h3,Bool.or_false,Bool.false_eq_true,if_false]
 refine wpAny_bind (wpAny_pyIter_revIter hit ?_)
 refine wpAny_bind (wpAny_holding (wN hit ?_))
 refine wpAny_ite_split (fun hab=>absurd hab (by decide)) (fun _=>?_)
 refine wpAny_pure ⟨plainId_quiet F.plain_extend_loop _,codeAny_extend_loopS W hsz Sx hSf res items.size 0 _ #[] c₀ rfl (Nat.zero_le _) ⟨Nat.zero_le _,by simpa using hit,hl⟩ hS (ItemsOf.nil _) fun s' acc' c' hm hS' hacc=>?_⟩
 rw [Moved.eq_with hm]
 refine hR s'.heap s'.toks acc' c' (fun b o hb hbI e=>hm.heap b o (fun hmem=>?_) e) hS' hacc
 rcases List.mem_cons.mp hmem with e' | hmem
 .exact hb e'
 .exact hbI (List.mem_singleton.mp hmem)
theorem mX {R:Result->Shared->Prop} (hh:A.handled=none) (hit:s.heap.IsRevIter I l ((items.size:Int) - 1)) (hl:s.heap.IsList l items) (hlI:l≠I) (hsz:items.size<=sizeLine) (Sx:Addr)
  (hS:s.heap.get? Sx=some { cls:=.type "list",data:=.seq #[] }) (hSI:Sx≠I) (hSl:Sx≠l)
  (hR:∀h' tk acc' c',(∀b o,b≠Sx->b≠I->s.heap.get? b=some o->h'.get? b=some o)->h'.get? Sx=some { cls:=.type "list",dict:=none,data:=.seq acc' c',slots:=#[] } ->
   ItemsOf (fun i v=>items[items.size - 1 - i]?=some v) acc' items.size->R (.ok (.ret .none)) { s with heap:=h',toks:=tk }) :
  wpAny (model prog w) A.in1 (Builtin.«list.__init__» ⟨[.ref Sx,.ref I],[]⟩)
   (fun fin s'=>match fin with | .done f=>R (.ok f) s' | .again c'=>c'.quiet=true/\codeAny (model prog w) A c' R s') (fun e s'=>R (.error e) s') s:=by
 show wpAny _ _ (do let old <- Builtin.List.listItems (.ref Sx);Builtin.List.listUpdate (.ref Sx) (fun _=>#[]);letGo old.toList.reverse;Builtin.List.listExtendWith (.ref Sx) (.ref I) .none) _ _ s
 refine wpAny_bind ?_
 unfold Builtin.List.listItems
 refine wpAny_bind (wpAny_seqItems hS rfl (wpAny_pure ?_))
 show wpAny _ _ (updateSeq Sx (fun _=>#[]) >>= fun _=>letGo (#[]:Array Value).toList.reverse >>= fun _=>Builtin.List.listExtendWith (.ref Sx) (.ref I) .none) _ _ s
 refine wpAny_bind (wpAny_updateSeq hS rfl ?_)
 have hS₂:=Heap.get?_update_self (Obj.mapSeq (fun _=>(#[]:Array Value))) hS rfl
 have oth:∀b o,b≠Sx->s.heap.get? b=some o->(s.heap.update Sx (Obj.mapSeq (fun _=>(#[]:Array Value)))).get? b=some o :=
  fun b o hb e=>(Heap.get?_update_other _ _ (Ne.symm hb)).trans e
 refine wpAny_bind (wpAny_letGo ?_)
 refine sR hh (hit.at fun o e=>oth I o (Ne.symm hSI) e) (hl.at fun o e=>oth l o (Ne.symm hSl) e) hlI hsz Sx .none _ hS₂ hSI hSl fun h' tk acc' c' hk hS' hacc=>?_
 exact hR h' tk acc' c' (fun b o hb hbI e=>hk b o hb hbI (oth b o hb e)) hS' hacc
theorem mY {Q:Value->Shared->Prop} (hh:A.handled=none) (hit:s.heap.IsRevIter I l ((items.size:Int) - 1)) (hl:s.heap.IsList l items) (hlI:l≠I) (hsz:items.size<=sizeLine)
  (hQ:∀h' tk acc' c',(∀b o,b≠I->s.heap.get? b=some o->h'.get? b=some o) ->
   h'.get? s.heap.objs.size=some { cls:=.type "list",dict:=none,data:=.seq acc' c',slots:=#[] }->ItemsOf (fun i v=>items[items.size - 1 - i]?=some v) acc' items.size->Q (.ref s.heap.objs.size) { s with heap:=h',toks:=tk }) :
  wpAny (model prog w) A (call (.type "list") [.ref I]) Q E s:=by
 refine callType_codes (Q₁:=fun obj s₁=>obj=.ref s.heap.objs.size/\s₁={ s with heap:=s.heap.push { cls:=.type "list",data:=.seq #[] } }) F.called_list (F.typeCall_list_1 _) F.entry_list_init
  (code_list_new _ ⟨rfl,rfl⟩) fun obj s₁ h₁=>?_
 obtain ⟨rfl,rfl⟩:=h₁
 have hS:(s.heap.push { cls:=.type "list",data:=.seq #[] }).get? s.heap.objs.size=some { cls:=.type "list",data:=.seq #[] }:=Heap.get?_push_size _ rfl
 have hSI:s.heap.objs.size≠I:=by
  obtain ⟨o,ho,_⟩:=hit
  exact Nat.ne_of_gt (Heap.lt_size ho)
 have hSl:s.heap.objs.size≠l:=by
  obtain ⟨o,ho,_⟩:=hl
  exact Nat.ne_of_gt (Heap.lt_size ho)
 refine ⟨⟨_,hS,rfl⟩,F.args_list_init_2 _ _,mX (A:=A.in1) hh (hit.at fun o e=>Heap.get?_push_of_some _ e) (hl.push _) hlI hsz _ hS hSI hSl fun h' tk acc' c' hk hS' hacc=>?_⟩
 exact ⟨rfl,hQ h' tk acc' c' (fun b o hb e=>hk b o (Nat.ne_of_lt (Heap.lt_size e)) hb (Heap.get?_push_of_some _ e)) hS' hacc⟩
end
theorem wO {xs:List V}{its:List Value} (r:bV xs its) {acc:Array Value} (h:ItemsOf (fun i v=>its.toArray[its.toArray.size - 1 - i]?=some v) acc its.toArray.size):bV xs.reverse acc.toList:=by
 have e:acc.toList=its.reverse:=by
  obtain ⟨hn,hi⟩:=h
  apply List.ext_getElem?
  intro i
  by_cases hil:i < its.length
  .have hia:i < acc.size:=by rw [hn];simpa using hil
   have:=hi i acc[i] (by simp)
   rw [List.getElem?_reverse hil]
   have e1:acc.toList[i]?=some acc[i]:=by simp
   rw [e1,<- this]
   simp
  .have hna:acc.toList.length=its.length:=by simpa using hn
   rw [List.getElem?_eq_none (by omega),List.getElem?_eq_none (by rw [List.length_reverse];omega)]
 rw [e]
 exact r.reverse
section
variable {X:Cx}{e:Expr}{te:TE}{p p1 p2 pos:Pos}
theorem sS (hc:X.calm=true) (he:PE X e te) (hg1:Gl X "list") (hm1:X.mg "list"=none) (hg2:Gl X "reversed") (hm2:X.mg "reversed"=none)
  (hs:starEach [.Call (.Name "reversed" p1) [e] [] p2] X.env=[(false,eval (.Call (.Name "reversed" p1) [e] [] p2) X.env)]:=by rfl) (hs2:starEach [e] X.env=[(false,eval e X.env)]:=by rfl) :
  PE X (.Call (.Name "list" p) [.Call (.Name "reversed" p1) [e] [] p2] [] pos) (fun σ H Q=>te σ H fun x H1=>∃a xs,x=.ref a/\SqL X.K H1 a xs/\∀l,H1 l=none->Q (.ref l) (upd H1 l (.lst xs.reverse))):=by
 intro pins s σ H Q I h
 refine Call_ (ip I hg1 hm1 boot_list (PyProof.Rows.callWith_type1 ?_ hs rfl))
 rw [hs]
 show wpAny _ _ (spliced ((false,eval (.Call (.Name "reversed" p1) [e] [] p2) X.env)::backTo pos [])) _ _ s
 refine Calls.spliced_cons ?_
 refine Call_ (ip I hg2 hm2 boot_reversed (PyProof.Rows.callWith_type1 ?_ hs2 rfl))
 rw [hs2]
 show wpAny _ _ (spliced ((false,eval e X.env)::backTo p2 [])) _ _ s
 refine Calls.spliced_cons (thn (he pins s σ H _ I h) fun u s1 ⟨x,H1,I1,r1,q1⟩=>Calls.spliced_nil ?_)
 obtain ⟨a,xs,rfl,hS,q⟩:=q1
 cases r1
 obtain ⟨its,rv,pl,hz⟩:=I1.list hS
 have hlen:=rv.length
 refine call_reversed_list pl.isList ?_
 refine Calls.spliced_nil ?_
 have hal:a < s1.heap.objs.size:=by
  obtain ⟨o,ho,_⟩:=pl.isList
  exact Heap.lt_size ho
 have I2:Inv X pins σ H1 { s1 with heap:=s1.heap.push (revObj a ((its.toArray.size:Int) - 1)) }:=I1.kept (t':=s1.toks) fun b o e=>Heap.get?_push_of_some _ e
 refine mY (I1.ok.hd hc) (I:=s1.heap.objs.size) (l:=a) (items:=its.toArray) ⟨_,Heap.get?_push_size _ rfl,rfl,rfl⟩ (pl.isList.push _) (Nat.ne_of_lt hal) (by rw [List.size_toArray];omega) fun h' tk acc' c' hk eL hacc=>?_
 have hfI:=I1.fpOk (H':=H1) (Nat.le_refl s1.heap.objs.size) (I1.hok.fresh (Nat.le_refl _))
 obtain ⟨f0,f1,f2,f3,f4,f5⟩:=hfI
 have hLn:H1 (s1.heap.push (revObj a ((its.toArray.size:Int) - 1))).objs.size=none:=I2.hok.fresh (Nat.le_refl _)
 have hLlt:∀b o,(s1.heap.push (revObj a ((its.toArray.size:Int) - 1))).get? b=some o->b≠(s1.heap.push (revObj a ((its.toArray.size:Int) - 1))).objs.size:=fun b o e=>Nat.ne_of_lt (Heap.lt_size e)
 have nit:∀b u,H1 b=some u->b≠s1.heap.objs.size:=fun b u e z=>by rw [z,f0] at e;cases e
 have neL:∀b u,H1 b=some u->b≠(s1.heap.push (revObj a ((its.toArray.size:Int) - 1))).objs.size:=fun b u e z=>by rw [z,hLn] at e;cases e
 have hokT:HOk X.prog X.w H1 h':=fun b u e=>by
  refine (I2.hok b u e).stay (fun c v hc q=>hk c v ?_ q) (fun _ q=>q) fun _ _ q=>q
  rcases hc with z | z
  .rw [z];exact nit b u e
  .exact nit c _ z
 refine ⟨.ref _,upd H1 (s1.heap.push (revObj a ((its.toArray.size:Int) - 1))).objs.size (.lst xs.reverse),?_,rfl,q _ hLn⟩
 refine I2.step (g':=s1.gens) (d':=s1.drawn) (t':=tk) (ch:=[s1.heap.objs.size]) (fun b hb=>?_) (fun b o _ _ hc e _=>hk b o (fun z=>hc (by simp [z])) e) (fun b o _ _ hc e _=>⟨o.slots,hk b o (fun z=>hc (by simp [z])) e⟩)
  (fun b o _ e n=>by rw [au (hLlt b o e)];exact n) (fun b o hc e=>⟨o,hk b o (fun z=>hc (by simp [z])) e⟩) (fun b ys e=>by rw [au (neL b _ e)];exact e) (fun b o u e=>by rw [au (neL b _ e)];exact e)
  (fun b ps e=>⟨#[],by rw [au (neL b _ e),e];simp⟩) (fun m hm=>?_) ?_ I2.bare
 .have e:b=s1.heap.objs.size:=by simpa using hb
  subst e
  exact ⟨f3,f1,f4,f5⟩
 .obtain ⟨o,es,ep,ho,r⟩:=hm
  exact ⟨o,es,ep,hk _ o (Ne.symm f1) ho,r⟩
 .intro b u e
  by_cases hb:b=(s1.heap.push (revObj a ((its.toArray.size:Int) - 1))).objs.size
  .subst hb
   rw [aE] at e
   cases e
   exact ⟨by rw [List.length_reverse];exact hz,acc'.toList,c',wO rv hacc,by simpa using eL⟩
  .rw [au hb] at e
   refine (hokT b u e).stay (fun c v _ q=>q) (fun c q=>?_) fun c ys q=>?_
   .rw [au (neL c _ q)];exact q
   .rw [au (neL c _ q)];exact q
end
def km (k:Bool) (h:Heap) (a:Addr) (its:Array Value):Prop:=∃o,h.get? a=some o/\o.cls=.type (cond k "tuple" "list")/\∃n,o.data=.seq its n
def iu (k:Bool) (h:Heap) (it a:Addr) (i:Nat):Prop:=∃o,h.get? it=some o/\o.cls=.type (cond k "tuple_iterator" "list_iterator")/\o.data=.fields #[.ref a,.int i 0]
theorem km.mv {k:Bool}{h h':Heap}{a:Addr}{its:Array Value} (r:km k h a its) (f:∀o,h.get? a=some o->h'.get? a=some o):km k h' a its:=let ⟨o,e,q⟩:=r;⟨o,f o e,q⟩
theorem iu.mv {k:Bool}{h h':Heap}{it a:Addr}{i:Nat} (r:iu k h it a i) (f:∀o,h.get? it=some o->h'.get? it=some o):iu k h' it a i:=let ⟨o,e,q⟩:=r;⟨o,f o e,q⟩
section
variable {P:Program}{w:World}{A:Around}{E:Value->Shared->Prop}{s:Shared}{k:Bool}{it a:Addr}{i:Nat}{its:Array Value}
theorem oX {x:Value}{Q:Value->Shared->Prop} (W:s.heap.IsTupleIter it a i) (R:s.heap.IsTuple a its) (hx:its[i]?=some x)
  (hQ:∀h',h'.IsTupleIter it a (i + 1)->Heap.SameBut it s.heap h'->Q x { s with heap:=h' }):wpAny (model P w) A (Builtin.SmallTypes.nextOf (.ref it)) Q E s:=by
 have hT:=W.typeIs
 obtain ⟨o,ho,c,d⟩:=W
 obtain ⟨ol,hol,_,nl,dl⟩:=R
 unfold Builtin.SmallTypes.nextOf
 refine wpAny_bind (wpAny_callSpecial?_slot (name:=Str.ofString "__next__") hT F.slot_tuple_iterator_next (wpAny_call_entry F.slot_tuple_iterator_next hT F.entry_tuple_iterator_next ?_ (F.args_tuple_iterator_next_1 _)))
 refine wpAny_bind (m:=field (.ref it) 0) (wpAny_field ho d (x:=.ref a) rfl ?_)
 have nn:¬ ((Value.ref a == Value.none)=true):=Bool.false_ne_true
 show wpAny _ _ (if (Value.ref a == Value.none)=true then _ else _) _ _ s
 rw [if_neg nn]
 refine wpAny_bind (m:=field (.ref it) 1) (wpAny_field ho d (x:=.int i 0) rfl ?_)
 refine wpAny_bind (m:=seqItems? (.ref a)) (wpAny_seqItems hol dl ?_)
 simp only [Int.toNat_natCast,hx]
 exact wpAny_bind (wpAny_setField ho d (by simp) (wpAny_pure ⟨x,rfl,wpAny_pure (hQ _ ⟨_,Heap.get?_update_self _ ho (Obj.isFreed_of_fields (Obj.data_mapFields d _)),(Obj.cls_mapFields ..).trans c,by rw [Obj.data_mapFields d];simp [rawInt]⟩ (Heap.SameBut.update ..))⟩))
theorem qs {Q:Value->Shared->Prop} (hh:A.handled=none) (W:s.heap.IsTupleIter it a i) (R:s.heap.IsTuple a its) (hx:its[i]?=none)
  (hE:∀h' e,Heap.ExtBut it s.heap h'->(∃o,h'.get? e=some o/\o.cls=.type "StopIteration")->E (.ref e) { s with heap:=h' }):wpAny (model P w) A (Builtin.SmallTypes.nextOf (.ref it)) Q E s:=by
 have hT:=W.typeIs
 obtain ⟨o,ho,c,d⟩:=W
 obtain ⟨ol,hol,_,nl,dl⟩:=R
 unfold Builtin.SmallTypes.nextOf
 refine wpAny_bind (wpAny_callSpecial?_slot (name:=Str.ofString "__next__") hT F.slot_tuple_iterator_next (wpAny_call_entry F.slot_tuple_iterator_next hT F.entry_tuple_iterator_next ?_ (F.args_tuple_iterator_next_1 _)))
 refine wpAny_bind (m:=field (.ref it) 0) (wpAny_field ho d (x:=.ref a) rfl ?_)
 have nn:¬ ((Value.ref a == Value.none)=true):=Bool.false_ne_true
 show wpAny _ _ (if (Value.ref a == Value.none)=true then _ else _) _ _ s
 rw [if_neg nn]
 refine wpAny_bind (m:=field (.ref it) 1) (wpAny_field ho d (x:=.int i 0) rfl ?_)
 refine wpAny_bind (m:=seqItems? (.ref a)) (wpAny_seqItems hol dl ?_)
 simp only [Int.toNat_natCast,hx]
 refine wpAny_bind (wpAny_rule (wpAny_bind (wpAny_setField ho d (by simp) (wpAny_bind (m:=newExc (.type "StopIteration") []) ?_))))
 simp only [newExc,newTuple]
 refine wpAny_bind (wpAny_newObj_type (wpAny_bind (m:=firstArgMember _ _) (wpAny_of_eq (a:=Value.none) (by first | rfl | (simp only [firstArgMember];rfl)) (wpAny_newObj_type ?_ (by size_fits)))) (by size_fits))
 simp only [raiseNew]
 refine wpAny_bind (wpAny_handled ?_)
 first | rw [show A.in1.handled=none from hh] | rw [hh]
 exact wpAny_bind (wpAny_pure (wpAny_throw (hE _ _ (((Heap.SameBut.update ..).extBut.push _).push _) ⟨_,Heap.get?_push_size _ rfl,rfl⟩)))
theorem oY {x:Value}{Q:Value->Shared->Prop} (W:iu k s.heap it a i) (R:km k s.heap a its) (hx:its[i]?=some x)
  (hQ:∀h',iu k h' it a (i + 1)->Heap.SameBut it s.heap h'->Q x { s with heap:=h' }):wpAny (model P w) A (Builtin.SmallTypes.nextOf (.ref it)) Q E s:=by
 cases k with
 | false=>exact wpAny_nextOf_list_item W R hx hQ
 | true=>exact oX W R hx hQ
theorem kn {Q:Value->Shared->Prop} (hh:A.handled=none) (W:iu k s.heap it a i) (R:km k s.heap a its) (hx:its[i]?=none)
  (hE:∀h' e,Heap.ExtBut it s.heap h'->(∃o,h'.get? e=some o/\o.cls=.type "StopIteration")->E (.ref e) { s with heap:=h' }):wpAny (model P w) A (Builtin.SmallTypes.nextOf (.ref it)) Q E s:=by
 cases k with
 | false=>exact wpAny_nextOf_list_end hh W R hx hE
 | true=>exact qs hh W R hx hE
end
def Sq (k:Bool) (K:PySem.W.Frag) (H:Hp) (a:Addr) (xs:List V):Prop:=cond k (SqT K H a xs) (SqL K H a xs)
section
variable {X:Cx}{pins:List (Addr×Obj)}{σ:St}{H:Hp}{s:Shared}{k l:Bool}{a b c:Addr}{xs ys:List V}
theorem Inv.row (I:Inv X pins σ H s) (h:Sq k X.K H a xs):∃its:List Value,bV xs its/\km k s.heap a its.toArray/\xs.length<=sizeLine:=by
 cases k with
 | false=>obtain ⟨its,r,p,z⟩:=I.list h;exact ⟨its,r,p.isList,z⟩
 | true=>obtain ⟨its,r,p,z⟩:=I.tuple h;exact ⟨its,r,p,z⟩
theorem Inv.row_inj (I:Inv X pins σ H s) (h:Sq k X.K H a xs) (h':Sq k X.K H a ys):xs=ys:=by
 cases k with
 | false=>exact I.list_inj h h'
 | true=>exact I.tuple_inj h h'
theorem uT {u:HO} (r:Rd H a u):∃v,H a=some v:=by
 rcases r with r | ⟨o,r⟩ <;> exact ⟨_,r⟩
theorem Inv.row_ne (I:Inv X pins σ H s) (h:Sq k X.K H a xs) (f:ql X pins H b):a≠b:=by
 have kk:∀o,X.K.lookup a=some o->a≠b:=fun o e z=>by
  have e1:=I.ok.mod.kin a o e
  rcases f.2.2.2.1 with q | q
  .exact I.ok.noex a o e1 (z ▸ q)
  .exact absurd (Nat.lt_of_lt_of_le (Heap.lt_size (I.ok.bs a o e1).1) (z ▸ q)) (Nat.lt_irrefl _)
 have hh:∀u,H a=some u->a≠b:=fun u e z=>by rw [z,f.1] at e;cases e
 cases k with
 | false =>
  rcases h with r | ⟨o,its,n,e,_⟩
  .obtain ⟨v,e⟩:=uT r;exact hh v e
  .exact kk o e
 | true =>
  rcases h with r | ⟨o,its,n,e,_⟩
  .obtain ⟨v,e⟩:=uT r;exact hh v e
  .exact kk o e
theorem Inv.yielded {h':Heap}{T:Addr}{zs:List V}{t':Nat}{ch:List Addr} (I:Inv X pins σ H s) (hf:∀b∈ch,ql X pins H b) (hT:s.heap.objs.size<=T)
  (kp:∀b o,b∉ch->s.heap.get? b=some o->h'.get? b=some o) (new:cr X.prog X.w (upd H T (.tup zs)) h' T (.tup zs)):Inv X pins σ (upd H T (.tup zs)) { s with heap:=h',toks:=t' }:=by
 have hn:H T=none:=I.hok.fresh hT
 have nT:∀b u,H b=some u->b≠T:=fun b u e z=>by rw [z,hn] at e;cases e
 have oT:∀b o,s.heap.get? b=some o->b≠T:=fun b o e z=>absurd (Nat.lt_of_lt_of_le (Heap.lt_size e) (z ▸ hT)) (Nat.lt_irrefl _)
 have nc:∀b u,H b=some u->b∉ch:=fun b u e z=>by rw [(hf b z).1] at e;cases e
 refine I.step (g':=s.gens) (d':=s.drawn) (ch:=ch) (fun b hb=>⟨(hf b hb).2.2.2.1,(hf b hb).2.1,(hf b hb).2.2.2.2.1,(hf b hb).2.2.2.2.2⟩) (fun b o _ _ hc e _=>kp b o hc e) (fun b o _ _ hc e _=>⟨o.slots,kp b o hc e⟩)
  (fun b o _ e n=>by rw [au (oT b o e)];exact n) (fun b o hc e=>⟨o,kp b o hc e⟩) (fun b xs e=>by rw [au (nT b _ e)];exact e) (fun b o u e=>by rw [au (nT b _ e)];exact e)
  (fun b ps e=>⟨#[],by rw [au (nT b _ e),e];simp⟩) (fun m hm=>?_) (fun b u e=>?_) I.bare
 .obtain ⟨o,es,ep,ho,r⟩:=hm
  exact ⟨o,es,ep,kp _ o (fun z=>(hf _ z).2.1 rfl) ho,r⟩
 .by_cases hb:b=T
  .subst hb;rw [aE] at e;cases e;exact new
  .rw [au hb] at e
   refine (I.hok b u e).stay (fun c v hc q=>kp c v ?_ q) (fun c q=>by rw [au (nT c _ q)];exact q) fun c xs q=>by rw [au (nT c _ q)];exact q
   rcases hc with z | z
   .rw [z];exact nc b u e
   .exact nc c _ z
end
section
variable {P:Program}{w:World}{A:Around}{E:Value->Shared->Prop}{s:Shared}{k l:Bool}
abbrev qt (k:Bool) (a:Addr):Obj:={ cls:=.type (cond k "tuple_iterator" "list_iterator"),data:=.fields #[.ref a,.int 0 0] }
theorem i6 {a:Addr}{its:Array Value}{Q:Value->Shared->Prop} (R:km k s.heap a its) (hQ:Q (.ref s.heap.objs.size) { s with heap:=s.heap.push (qt k a) }):wpAny (model P w) A (pyIter (.ref a)) Q E s:=by
 cases k with
 | false=>exact wpAny_pyIter_list R hQ
 | true=>exact wpAny_pyIter_tuple R hQ
end
def stA (a b:List Nat) (i:Nat):Bool:=decide (i + b.length<=a.length/\(a.drop i).take b.length=b)
def fnd (a b:List Nat) (lo:Nat):Int:=match (List.range' lo (a.length + 1 - lo)).find? (stA a b) with | some k=>(k:Int) | none=>-1
theorem oZ (s sub:Str) (hi:Nat):∀(l:List Nat) (st:Array Nat×Nat),st.fst.size=1->(forIn l st (StrLaws.occBody s sub hi 1)).run.fst=st.fst
 | [],_,_=>rfl
 | x::l,st,h=>by
  rw [List.forIn_cons]
  unfold StrLaws.occBody
  rw [if_neg (fun z=>by have:=z.1.1.1;omega)]
  exact oZ s sub hi l (st.fst,st.snd) h
theorem o5 (s sub:Str) (hi:Nat) (p:Nat->Bool) (hp:∀i,p i=true ↔ (i + sub.length<=hi/\Builtin.Str.subAt s sub i=true)):∀(l:List Nat) (free:Nat),(∀i∈l,free<=i) ->
  (forIn l ((#[]:Array Nat),free) (StrLaws.occBody s sub hi 1)).run.fst=(match l.find? p with | some k=>#[k] | none=>#[])
 | [],_,_=>rfl
 | x::l,free,hf=>by
  rw [List.forIn_cons,List.find?_cons]
  unfold StrLaws.occBody
  have hx:free<=x:=hf x (List.mem_cons_self ..)
  cases c:p x with
  | true =>
   have hc:=(hp x).mp c
   rw [if_pos ⟨⟨⟨by simp,hx⟩,hc.1⟩,hc.2⟩]
   exact oZ s sub hi l (#[x],x + sub.length) rfl
  | false =>
   rw [if_neg (fun z=>by
    have:=(hp x).mpr ⟨z.1.2,z.2⟩
    rw [c] at this;cases this)]
   exact o5 s sub hi p hp l free fun i h=>hf i (List.mem_cons_of_mem _ h)
theorem yV (a b:List Nat) (i:Nat):Builtin.Str.subAt (S a) (S b) i=decide ((a.drop i).take b.length=b):=by
 unfold Builtin.Str.subAt
 rw [gI]
 have e1:((S a).cps.extract i (i + b.length))=((a.drop i).take b.length).toArray:=by
  show a.toArray.extract _ _=_
  rw [List.extract_toArray,List.extract_eq_take_drop]
  congr 2
  omega
 rw [e1]
 show (((a.drop i).take b.length).toArray == b.toArray)=_
 by_cases h:(a.drop i).take b.length=b
 .rw [decide_eq_true h,h];simp
 .rw [decide_eq_false h,beq_eq_false_iff_ne]
  intro z
  exact h (by simpa using congrArg Array.toList z)
theorem uU (a b:List Nat) (lo:Nat):(match Builtin.Str.occurrences (S a) (S b) lo (S a).length 1 with | k::_=>(k:Int) | []=>-1)=fnd a b lo:=by
 rw [StrLaws.occ_eq,gI,o5 (S a) (S b) a.length (stA a b) (fun i=>?_) _ lo (fun i hi=>(List.mem_range'_1.mp hi).1)]
 .unfold fnd
  cases (List.range' lo (a.length + 1 - lo)).find? (stA a b) <;> rfl
 .unfold stA
  rw [yV,gI]
  simp
section
variable {X:Cx}
theorem wP:MtR X "str.find" (fun x xs H Q=>∃a b,x=.str (S a)/\xs=[.str (S b)]/\Q (.int (fnd a b 0)) H):=by
 intro pins s σ H x xs v us Q I rx rs h
 obtain ⟨a,b,rfl,rfl,q⟩:=h
 obtain ⟨t,rfl⟩:=rx
 obtain ⟨u,rfl,t',rfl⟩:=hX rs
 have e:Txt.find (S a) (S b)=fnd a b 0:=uU a b 0
 exact SC.find ⟨.int _,H,I.tok _,⟨_,rfl⟩,by rw [e];exact q⟩
end
theorem rF {a b:List Nat}{lo:Nat} (h:fnd a b lo≠-1):∃k:Nat,fnd a b lo=(k:Int)/\lo<=k/\stA a b k=true/\∀j,lo<=j->j < k->stA a b j=false:=by
 unfold fnd at h ⊢
 cases e:(List.range' lo (a.length + 1 - lo)).find? (stA a b) with
 | none=>rw [e] at h;exact absurd rfl h
 | some k =>
  obtain ⟨h1,h2⟩:=List.find?_eq_some_iff_append.mp e
  obtain ⟨as,bs,hl,hn⟩:=h2
  have hk:k∈List.range' lo (a.length + 1 - lo):=by rw [hl];simp
  refine ⟨k,rfl,(List.mem_range'_1.mp hk).1,h1,fun j hj1 hj2=>?_⟩
  have hj:j∈List.range' lo (a.length + 1 - lo):=List.mem_range'_1.mpr ⟨hj1,by have:=(List.mem_range'_1.mp hk).2;omega⟩
  have hs:(List.range' lo (a.length + 1 - lo)).Pairwise (· < ·):=List.pairwise_lt_range'
  rw [hl] at hj hs
  rcases List.mem_append.mp hj with z | z
  .have:=hn j z
   simpa using this
  .rcases List.mem_cons.mp z with z | z
   .omega
   .have:=(List.pairwise_cons.mp (List.pairwise_append.mp hs).2.1).1 j z
    omega
theorem wQ {a b:List Nat}{lo:Nat} (h:fnd a b lo=-1):∀j,lo<=j->stA a b j=false:=by
 unfold fnd at h
 cases e:(List.range' lo (a.length + 1 - lo)).find? (stA a b) with
 | some k=>rw [e] at h;simp only at h;omega
 | none =>
  intro j hj
  by_cases hlt:j < a.length + 1
  .have:=List.find?_eq_none.mp e j (List.mem_range'_1.mpr ⟨hj,by omega⟩)
   simpa using this
  .unfold stA
   rw [decide_eq_false (fun z=>by have:=z.1;omega)]
section
variable {X:Cx}{tg:Expr}
def Itk (k:Bool) (K:PySem.W.Frag) (a:Addr):It:=cond k (Itt K a) (Itl K a)
def Bm (K:PySem.W.Frag):R2:=fun x y H Q=>∃l b xs zs,x=.ref l/\y=.ref b/\SqL K H l xs/\SqL K H b zs/\xs.length + zs.length<=sizeLine/\∀p,H p=none->Q (.ref p) (upd H p (.lst (xs++zs)))
theorem yW:OpR X (binaryOp .Add) (Bm X.K):=by
 intro pins s σ H x y v u Q I rx ry h
 obtain ⟨l,b,xs,zs,rfl,rfl,hH,hB,hz,q⟩:=h
 cases rx
 cases ry
 obtain ⟨its,r,pl,hl⟩:=I.list hH
 obtain ⟨its2,r2,pl2,hl2⟩:=I.list hB
 obtain ⟨⟨cls,dd,data,sl⟩,ho,hc,n,hd⟩:=pl.isList
 obtain ⟨⟨cls2,dd2,data2,sl2⟩,ho2,hc2,n2,hd2⟩:=pl2.isList
 simp only at hc hd hc2 hd2
 subst hc hd hc2 hd2
 have n1:=r.length
 have n2':=r2.length
 have ea:its.toArray++its2.toArray=(its++its2).toArray:=by simp
 have fin:EP X pins σ Q (.ref s.heap.objs.size) { s with heap:=s.heap.push { cls:=.type "list",data:=.seq (its.toArray++its2.toArray) } }:=by
  rw [ea]
  exact ⟨.ref _,_,I.lnew (t':=s.toks) (r.append r2) (by rw [List.length_append];omega),rfl,q _ I.fresh⟩
 exact concat_meets ⟨_,ho,rfl⟩ ⟨_,ho2,rfl⟩ noFill_list_add seq_list_add PySem.F.slot_list_add PySem.F.entry_list_add (PySem.F.args_list_add_2 _ _) (list_addW l b its.toArray its2.toArray n n2 dd dd2 sl sl2 (by simp;omega)) ⟨ho,ho2,fin⟩
end
def mj (n:Nat) (d:PyData):Prop:=d.canLay0=true/\d.depth<=n
theorem mj.shaped {n:Nat}{d:PyData} (h:mj n d) (hn:n<=64):SeqAt.shaped d=true:=by
 unfold SeqAt.shaped
 rw [h.1,decide_eq_true (Nat.le_trans h.2 hn)];rfl
theorem uV {n:Nat}:∀{ds:List PyData},(∀d∈ds,mj n d)->PyData.canLayAll0 ds=true/\PyData.depthAll ds<=n
 | [],_=>⟨rfl,Nat.zero_le _⟩
 | d::ds,h=>by
  obtain ⟨a,b⟩:=uV (ds:=ds) fun x hx=>h x (List.mem_cons_of_mem _ hx)
  obtain ⟨c,e⟩:=h d List.mem_cons_self
  simp only [PyData.canLayAll0,PyData.depthAll,a,c]
  exact ⟨rfl,Nat.max_le.mpr ⟨e,b⟩⟩
theorem mj.list {n:Nat}{ds:List PyData} (h:∀d∈ds,mj n d):mj (n + 1) (.list ds):=by
 obtain ⟨a,b⟩:=uV h
 exact ⟨by simp only [PyData.canLay0];exact a,by simp only [PyData.depth];omega⟩
theorem mj.int (i:Int):mj 0 (.int i):=⟨by simp [PyData.canLay0],by simp [PyData.depth]⟩
def Lts (l:List Nat):Prop:=∀c∈l,97<=c/\c<=122
theorem Lts.nil:Lts []:=fun c h=>nomatch h
theorem Lts.app {a b:List Nat} (x:Lts a) (y:Lts b):Lts (a++b):=fun c h=>(List.mem_append.mp h).elim (x c) (y c)
theorem Lts.one {c:Nat} (h:97<=c/\c<=122):Lts [c]:=fun d hd=>by
 have:d=c:=by simpa using hd
 subst this;exact h
theorem Lts.take {a:List Nat} (x:Lts a) (n:Nat):Lts (a.take n):=fun c h=>x c (List.mem_of_mem_take h)
theorem Lts.drop {a:List Nat} (x:Lts a) (n:Nat):Lts (a.drop n):=fun c h=>x c (List.mem_of_mem_drop h)
theorem Lts.rep {a:List Nat} (x:Lts a) (n:Int):Lts (ke a n):=fun c h=>by
 unfold ke at h
 obtain ⟨l,h1,h2⟩:=List.mem_flatten.mp h
 rw [List.eq_of_mem_replicate h1] at h2
 exact x c h2
theorem mj.str {l:List Nat} (h:Lts l):mj 0 (.str (S l)):=by
 refine ⟨?_,by simp [PyData.depth]⟩
 simp only [PyData.canLay0,PyData.strOk,S]
 rw [Array.all_eq_true]
 intro i hi
 have:=h l[i] (List.getElem_mem _)
 simp only [List.getElem_toArray,decide_eq_true_eq]
 omega
theorem uW (ns:List Int):∀d∈ns.map PyData.int,mj 0 d:=fun d hd=>by
 obtain ⟨i,_,rfl⟩:=List.mem_map.mp hd
 exact mj.int i
theorem sU {ws:List (List Nat)} (h:∀w∈ws,Lts w):∀d∈ws.map (fun w=>PyData.str (S w)),mj 0 d:=fun d hd=>by
 obtain ⟨i,hi,rfl⟩:=List.mem_map.mp hd
 exact mj.str (h i hi)
theorem o7 {ws:List (List Nat)} (h:∀w∈ws,Lts w):SeqAt.shaped (.list (ws.map fun w=>PyData.str (S w)))=true:=(mj.list (sU h)).shaped (by decide)
theorem ko (p:Nat->Prop) (h0:p 0):∀n,0 < n->∃k,k < n/\p k/\∀j,j < n->p j->j<=k
 | 0,h=>absurd h (by decide)
 | 1,_=>⟨0,by decide,h0,fun j hj _=>by omega⟩
 | n + 2,_=>by
  obtain ⟨k,h1,h2,h3⟩:=ko p h0 (n + 1) (by omega)
  by_cases c:p (n + 1)
  .exact ⟨n + 1,by omega,c,fun j hj _=>by omega⟩
  .refine ⟨k,by omega,h2,fun j hj hp=>?_⟩
   by_cases e:j=n + 1
   .subst e;exact absurd hp c
   .exact h3 j (by omega) hp
section
variable {κ:Type} [DecidableEq κ]
theorem KV.length {kvs:List (κ×V)}{vs:List (κ×Value)} (r:KV kvs vs):kvs.length=vs.length:=Paired.length r
end
section
variable {P:Program}{w:World}{H:Hp}{h:Heap}{a:Addr}
theorem C4 {u:HO} (ok:HOk P w H h) (e:Rd H a u):cr P w H h a u:=e.ok ok
theorem C5 {kvs:List (Key×V)} (ok:HOk P w H h) (e:Rd H a (.dK kvs)):kvs.length<=sizeLine/\(a == sysModules)=false/\∃vs,KV kvs vs/\h.DictOf (qj P w) a vs :=
 show cr P w H h a (.dK kvs) from C4 ok e
end
section
variable {X:Cx}{pins:List (Addr×Obj)}{σ:St}{H:Hp}{s:Shared}{a:Addr}{y v:V}{u r:Value}{o:Option V}{A:Around}{E:Value->Shared->Prop}
theorem Inv.big (I:Inv X pins σ H s):sysModules < s.heap.objs.size:=by
 have h:mainGlobals < s.heap.objs.size:=(I.mod.glob.keeps I.bk).lt
 exact Nat.lt_trans (by decide) h
end
section
variable {X:Cx}{pins:List (Addr×Obj)}{σ:St}{H:Hp}{s:Shared}{a:Addr}{kvs:List (Key×V)}{k:Key}{u:Value}{A:Around}{E:Value->Shared->Prop}
theorem C6 {Q:Value->Shared->Prop} (I:Inv X pins σ H s) (e:Rd H a (.dK kvs)) (h:∀t s',Inv X pins σ H s'->Q (.int kvs.length t) s'):wpAny (model X.prog X.w) A (call (.builtin "len") [.ref a]) Q E s:=by
 obtain ⟨z,hd,vs,rel,dd⟩:=C5 I.hok e
 refine call_len_dict hd dd (by rw [<- rel.length];rw [sizeLine_eq] at z;omega) ?_
 rw [<- rel.length]
 exact h _ _ (I.tok _)
end
theorem wR {P:Program}{w:World}{H:Hp} (h:Heap) (hb:sysModules < h.objs.size):cr P w H (h.push { cls:=.type "dict",data:=.dict #[] }) h.objs.size (.dK []) :=
 ⟨Nat.zero_le _,beq_eq_false_iff_ne.mpr (Ne.symm (Nat.ne_of_lt hb)),[],.nil,Heap.DictOf.new h⟩
def xR:TE:=fun _ H Q=>∀p,H p=none->Q (.ref p) (upd H p (.dK []))
section
variable {X:Cx}{pos:Pos}
theorem rG:PE X (.Dict [] [] pos) xR:=fun pins s σ H Q I h =>
 wpAny_Dict_empty ⟨.ref s.heap.objs.size,_,I.laid (a:=s.heap.objs.size) (o:=.dK []) (t':=s.toks) (fun _ _ q=>Heap.get?_push_of_some _ q) (Nat.le_refl _) (wR s.heap I.big),rfl,h _ (I.hok.fresh (Nat.le_refl _))⟩
end
section
variable {X:Cx}
theorem mZ {x:Str}{i:Int}{pos:Pos} (hg:Gl X x) (h:∃t,X.mg x=some (.int i t)) (hd:(x == ("__debug__":Str))=false:=by decide):PE X (.Name x pos) (tC (.int i)):=by
 obtain ⟨t,e⟩:=h
 exact yu (u:=.int i t) hg e ⟨t,rfl⟩ hd
end
structure Bn (P:Program) (w:World) (K:PySem.W.Frag) (mg:Str->Option Value) (base:Heap) (k:Nat) (x:Str) (ps:List Str) (dvs:List V) (sp:Sp):Prop where
 ex:∃(f:Addr) (fd:FuncData),mf P w K mg base CX0 k f fd ps sp/\(∀n,n<=dvs.length->∃ds,bV (dvs.drop n) ds/\i3 K fd ps ds)/\PySem.W.keepIn K (.ref f)=true/\mg x=some (.ref f)
structure rH (K:PySem.W.Frag) (mg:Str->Option Value) (x:Str) (st:Stmt) (dvs:List V):Prop where
 ex:∃(f dT:Addr) (oc:Value) (od an dd:Option Addr) (kV doc pm cdv ct:Value) (osl sl:Array (Option Value)) (items:List Value) (n:Nat),
  K.lookup f=some ⟨oc,od,.func (PySem.W.fnOf x x (cu st) (bE st) (ao st) (.ref dT) kV doc pm an cdv ct),osl⟩/\PySem.W.codeIn K cdv x=true/\PySem.W.keepIn K (.ref f)=true/\mg x=some (.ref f) /\
  K.lookup dT=some ⟨.type "tuple",dd,.seq items.toArray n,sl⟩/\bV dvs items
section
variable {P:Program}{w:World}{K:PySem.W.Frag}{mg:Str->Option Value}{base:Heap}{x:Str}{st:Stmt}{N ps:List Str}{k:Nat}{sp:Sp}{dvs:List V}
theorem rH.ok (D:rH K mg x st dvs) (S:aK N ps (ao st))
  (hb:∀(dT:Addr) (kV doc pm:Value) (an:Option Addr) (cdv ct:Value) (items:List Value) (us:List Value) (n:Nat),items.length=dvs.length->n<=dvs.length->(us++items.drop n).length=ps.length ->
   ∃k,bindArgs (PySem.W.fnOf x x (cu st) (bE st) (ao st) (.ref dT) kV doc pm an cdv ct) ⟨us,[]⟩=seqItems? (.ref dT) >>= k/\k (some items.toArray)=pure (ps.zip (us++items.drop n)))
  (len:∀vs H Q E,sp vs H Q E->vs.length=ps.length)
  (hbody:∀(f:Addr) (cdv:Value) (A:Around) (outer:List Env) (s:Shared) (H:Hp) (vs:List V) (Q:VK) (E:XK),fR k (A.deeper (envOfC x (ao st) s.heap.objs.size f cdv))->sp vs H Q E ->
   ∃t,PSs (uu CX0 P w K mg base N x (ao st) f cdv A outer s H E).nox (bE st) t/\t { nx:=fun _ H'=>Q .non H',rt:=Q } (start N vs) H):Bn P w K mg base (k + 1) x ps dvs sp:=by
 obtain ⟨f,dT,oc,od,an,dd,kV,doc,pm,cdv,ct,osl,sl,items,n,lk,hcd,kp,hm,lt,rv⟩:=D.ex
 have hl:=rv.length
 refine ⟨f,_,AW lk hcd S len fun A outer s H vs Q E hr hsp=>?_,fun j hj=>⟨items.drop j,rv.drop j,fun s us X hlen=>?_⟩,kp,hm⟩
 .obtain ⟨t,h,q⟩:=hbody f cdv A outer s H vs Q E hr hsp
  exact ⟨t,h.nox,q⟩
 .obtain ⟨k,h1,h2⟩:=hb dT kV doc pm an cdv ct items us j hl.symm hj hlen
  exact BindsTo.of_defaults rfl (X dT _ lt) rfl h1 h2
end
section
variable {X:Cx}{k:Nat}{x:Str}{ps:List Str}{sp:Sp}{p pos:Pos}{e:Expr}{es:List Expr}{t:TA}{dvs:List V}
theorem yX (j:Nat) (C:Bn X.prog X.w X.K X.mg X.base k x ps dvs sp) (hr:fR k X.A) (hj:j<=dvs.length) (ha:PA X (e::es) t) (hg:Gl X x:=by rfl) (hdb:(x == ("__debug__":Str))=false:=by decide) (he:starEach (e::es) X.env=(false,eval e X.env)::starEach es X.env:=by rfl)
  (hpl:(backTo pos (starEach es X.env)).any (·.1)=false:=by rfl):PE X (.Call (.Name x p) (e::es) [] pos) (eN sp (dvs.drop j) E0 t):=by
 obtain ⟨f,fd,F,hb,hk,hm⟩:=C.ex
 obtain ⟨ds,rv,hb⟩:=hb j hj
 exact ut F hr hg hm hk hb rv wI ha hdb he hpl
theorem Bo {pins:List (Addr×Obj)}{σ:St}{H:Hp}{s:Shared}{x:V}{u t:Value} (I:Inv X pins σ H s) (rx:di x u) (ty:om X.K H x t) :
  ∃Hq:Heap->Prop,PySem.W.KitX X.K u t Hq/\Hq s.heap/\u≠.builtin "__main__.__loader__#opaque":=by
 cases ty with
 | non=>cases (show u=Value.none from rx);exact ⟨_,PySem.W.kitx_none,True.intro,fun z=>nomatch z⟩
 | bl y=>cases (show u=Value.bool y from rx);exact ⟨_,PySem.W.kitx_bool,True.intro,fun z=>nomatch z⟩
 | int i=>obtain ⟨t,q⟩:=(show ∃t,u=Value.int i t from rx);cases q;exact ⟨_,PySem.W.kitx_int,True.intro,fun z=>nomatch z⟩
 | str y=>obtain ⟨t,q⟩:=(show ∃t,u=Value.str y t from rx);cases q;exact ⟨_,PySem.W.kitx_str,True.intro,fun z=>nomatch z⟩
 | flt y=>obtain ⟨t,q⟩:=(show ∃t,u=Value.float y t from rx);cases q;exact ⟨_,PySem.W.kitx_float,True.intro,fun z=>nomatch z⟩
 | @lst a xs ea =>
  cases (show u=Value.ref a from rx)
  obtain ⟨_,_,n,_,h1⟩:=(show cr X.prog X.w H s.heap a (.lst xs) from I.hok a _ ea)
  exact ⟨_,PySem.W.kitx_list,⟨_,h1,rfl⟩,fun z=>nomatch z⟩
 | @frz a ob xs ea =>
  cases (show u=Value.ref a from rx)
  obtain ⟨_,_,_,n,_,h1⟩:=(show cr X.prog X.w H s.heap a (.frz ob (.lst xs)) from I.hok a _ ea)
  exact ⟨_,PySem.W.kitx_list,⟨_,h1,rfl⟩,fun z=>nomatch z⟩
 | @tup a xs ea =>
  cases (show u=Value.ref a from rx)
  obtain ⟨_,_,_,p⟩:=(show cr X.prog X.w H s.heap a (.tup xs) from I.hok a _ ea)
  obtain ⟨o,h1,h2,_⟩:=p
  exact ⟨_,PySem.W.kitx_tuple,⟨o,h1,h2⟩,fun z=>nomatch z⟩
 | @dK a kvs ea =>
  cases (show u=Value.ref a from rx)
  obtain ⟨_,_,vs,_,p⟩:=(show cr X.prog X.w H s.heap a (.dK kvs) from I.hok a _ ea)
  obtain ⟨o,es,ep,h1,h2,_⟩:=p
  exact ⟨_,PySem.W.kitx_dict,⟨o,h1,h2.1⟩,fun z=>nomatch z⟩
 | @dT a kvs ea =>
  cases (show u=Value.ref a from rx)
  obtain ⟨_,_,xs,_,o,es,ep,h1,h2,_⟩:=(show cr X.prog X.w H s.heap a (.dT kvs) from I.hok a _ ea)
  exact ⟨_,PySem.W.kitx_dict,⟨o,h1,h2.1⟩,fun z=>nomatch z⟩
 | @ins a C dx fs ea cl ha hn htk hm =>
  cases (show u=Value.ref a from rx)
  obtain ⟨mA,O,_⟩:=j8 I.hok ea
  obtain ⟨od,J,_⟩:=O.look
  exact ⟨_,PySem.W.kitx_own (cl.get _) cl.hd ha hn htk hm,J,fun z=>nomatch z⟩
theorem rJ:∀{ts:List String}{us:List Value},bV (ts.map V.ty) us->us=ts.map Value.type
 | [],_,.nil=>rfl
 | t::ts,_,.cons r rr=>by rw [rJ rr,show _=Value.type t from r];rfl
theorem o8:bX X (.builtin "isinstance") (fun xs H Q=>∃(x:V) (p:Addr) (ts:List String) (t:Value) (b:Bool),xs=[x,.ref p]/\om X.K H x t/\H p=some (.tup (ts.map V.ty))/\PySem.W.kitAny X.K t (ts.map Value.type)=some b/\Q (.bl b) H):=by
 intro pins s σ H xs us Q I r h
 obtain ⟨x,p,ts,t,b,rfl,ty,hp,e,q⟩:=h
 obtain ⟨u,w',rfl,rx,ry⟩:=wy r
 cases (show w'=Value.ref p from ry)
 obtain ⟨Hq,Z,hq,hx⟩:=Bo I rx ty
 obtain ⟨its,rv,⟨⟨cls,dd,data,sl⟩,ho,hc,n,hd⟩,_⟩:=I.tuple (SqT.of hp)
 simp only at hc hd
 subst hc hd
 exact PySem.W.kia_tup Z I.kIn hq ho (by rw [rJ rv];exact e) hx fun tk=>⟨.bl b,H,I.tok _,rfl,q⟩
theorem Bp:OpR X (compareOp .Is) (fun x y H Q=>∃b c,x=.bl b/\y=.bl c/\Q (.bl (decide (b=c))) H):=by
 intro pins s σ H x y v u Q I rx ry h
 obtain ⟨b,c,rfl,rfl,q⟩:=h
 cases (show v=Value.bool b from rx)
 cases (show u=Value.bool c from ry)
 cases b <;> cases c <;> exact wpAny_pure (bz I q (by first | rfl | decide))
theorem uX:OpR X (compareOp .IsNot) (fun x y H Q=>∃b c,x=.bl b/\y=.bl c/\Q (.bl (!decide (b=c))) H):=by
 intro pins s σ H x y v u Q I rx ry h
 obtain ⟨b,c,rfl,rfl,q⟩:=h
 cases (show v=Value.bool b from rx)
 cases (show u=Value.bool c from ry)
 cases b <;> cases c <;> exact wpAny_pure (bz I q (by first | rfl | decide))
theorem m3 (bs:List Bool):(List.range bs.length).all (fun i=>bs.getD i false)=bs.all id:=by
 induction bs with
 | nil=>rfl
 | cons b bs ih=>rw [List.length_cons,List.range_succ_eq_map,List.all_cons,List.all_map,List.all_cons,<- ih];rfl
theorem m4 (bs:List Bool):(List.range bs.length).any (fun i=>bs.getD i false)=bs.any id:=by
 induction bs with
 | nil=>rfl
 | cons b bs ih=>rw [List.length_cons,List.range_succ_eq_map,List.any_cons,List.any_map,List.any_cons,<- ih];rfl
theorem uY {bs:List Bool}{its:List Value} (r:bV (bs.map V.bl) its) {i:Nat}{v:Value} (h:its.toArray[i]?=some v):v=.bool (bs.getD i false):=by
 have h':its[i]?=some v:=by simpa using h
 have hl:=r.length
 rw [List.length_map] at hl
 have hi:i < bs.length:=by have:=(List.getElem?_eq_some_iff.mp h').1;omega
 obtain ⟨u,e1,e2⟩:=r.get (i:=i) (x:=V.bl bs[i]) (by rw [List.getElem?_map,List.getElem?_eq_getElem hi];rfl)
 rw [h'] at e1
 cases e1
 rw [show v=Value.bool bs[i] from e2,List.getD_eq_getElem?_getD,List.getElem?_eq_getElem hi];rfl
theorem wS (hc:X.calm=true):bX X (.builtin "all") (fun xs H Q=>∃(p:Addr) (bs:List Bool),xs=[.ref p]/\SqL X.K H p (bs.map V.bl)/\Q (.bl (bs.all id)) H):=by
 intro pins s σ H xs us Q I r h
 obtain ⟨p,bs,rfl,hS,q⟩:=h
 obtain ⟨u,rfl,ru⟩:=hX r
 cases (show u=Value.ref p from ru)
 obtain ⟨its,rv,pl,hz⟩:=I.list hS
 have hl:=rv.length
 rw [List.length_map] at hl
 have hps:p < s.heap.objs.size:=let ⟨o,ho,_⟩:=pl.isList;Heap.lt_size ho
 obtain ⟨f0,f1,f2,f3,f4,f5⟩:=I.fpOk (H':=H) (Nat.le_refl s.heap.objs.size) (I.hok.fresh (Nat.le_refl _))
 refine call_all_walk (wpAny_pyIter_list pl.isList ⟨s.heap.objs.size,_,_,its.toArray.size,_,_,fun i=>bs.getD i false,rfl,Walks.list (by exact I.ok.hd hc) s.heap.objs.size p (Nat.ne_of_lt hps) its.toArray,⟨⟨_,Heap.get?_push_size _ rfl,rfl,rfl⟩,pl.isList.push _⟩,fun i v s Q E hP hQ=>?_,fun h' tk hk=>?_⟩)
 .rw [uY rv hP];exact wpAny_truthy_bool hQ
 .have I1:Inv X pins σ H { s with heap:=s.heap.push { cls:=.type "list_iterator",data:=.fields #[.ref p,.int 0 0] } }:=I.kept (t':=s.toks) fun b o e=>Heap.get?_push_of_some _ e
  have I2:=I1.turned (h':=h') (t':=tk) (it:=s.heap.objs.size) (fun b o hb e=>hk b o (by simpa using hb) e) f0 f1 f3 f4 f5
  refine ⟨.bl (bs.all id),H,I2,?_,q⟩
  show Value.bool _=Value.bool _
  rw [List.size_toArray,<- hl,m3]
theorem wT (hc:X.calm=true):bX X (.builtin "any") (fun xs H Q=>∃(p:Addr) (bs:List Bool),xs=[.ref p]/\SqL X.K H p (bs.map V.bl)/\Q (.bl (bs.any id)) H):=by
 intro pins s σ H xs us Q I r h
 obtain ⟨p,bs,rfl,hS,q⟩:=h
 obtain ⟨u,rfl,ru⟩:=hX r
 cases (show u=Value.ref p from ru)
 obtain ⟨its,rv,pl,hz⟩:=I.list hS
 have hl:=rv.length
 rw [List.length_map] at hl
 have hps:p < s.heap.objs.size:=let ⟨o,ho,_⟩:=pl.isList;Heap.lt_size ho
 obtain ⟨f0,f1,f2,f3,f4,f5⟩:=I.fpOk (H':=H) (Nat.le_refl s.heap.objs.size) (I.hok.fresh (Nat.le_refl _))
 refine call_any_walk (wpAny_pyIter_list pl.isList ⟨s.heap.objs.size,_,_,its.toArray.size,_,_,fun i=>bs.getD i false,rfl,Walks.list (by exact I.ok.hd hc) s.heap.objs.size p (Nat.ne_of_lt hps) its.toArray,⟨⟨_,Heap.get?_push_size _ rfl,rfl,rfl⟩,pl.isList.push _⟩,fun i v s Q E hP hQ=>?_,fun h' tk hk=>?_⟩)
 .rw [uY rv hP];exact wpAny_truthy_bool hQ
 .have I1:Inv X pins σ H { s with heap:=s.heap.push { cls:=.type "list_iterator",data:=.fields #[.ref p,.int 0 0] } }:=I.kept (t':=s.toks) fun b o e=>Heap.get?_push_of_some _ e
  have I2:=I1.turned (h':=h') (t':=tk) (it:=s.heap.objs.size) (fun b o hb e=>hk b o (by simpa using hb) e) f0 f1 f3 f4 f5
  refine ⟨.bl (bs.any id),H,I2,?_,q⟩
  show Value.bool _=Value.bool _
  rw [List.size_toArray,<- hl,m4]
end
section
variable {X:Cx}{o e f:Expr}{apos cpos:Pos}{td ty tx:TE}
theorem uZ:bX X (.builtin "len") (fun xs H Q=>∃p kvs,xs=[.ref p]/\Rd H p (.dK kvs)/\Q (.int kvs.length) H):=by
 intro pins s σ H xs us Q I r h
 obtain ⟨p,kvs,rfl,hd,q⟩:=h
 obtain ⟨u,rfl,ru⟩:=hX r
 cases (show u=Value.ref p from ru)
 exact C6 I hd fun t s' I'=>⟨.int kvs.length,H,I',⟨t,rfl⟩,q⟩
end
def bC (K:PySem.W.Frag) (x:Str):Addr:=match PySem.W.nsIn K mainGlobals x with
 | some (some (.ref C))=>C
 | _=>0
theorem jU {K:PySem.W.Frag}{x:Str}{C:Addr} (h:PySem.W.nsIn K mainGlobals x=some (some (.ref C))):bC K x=C:=by unfold bC;rw [h]
structure Bq (P:Program) (w:World) (K:PySem.W.Frag) (mg:Str->Option Value) (base:Heap) (k:Nat) (C:Addr) (m:Str) (ps:List Str) (sp:Sp):Prop where
 ex:∃(f:Addr) (fd:FuncData),mf P w K mg base CX0 k f fd ps sp/\i3 K fd ps []/\Cz K C m f
structure Br (P:Program) (w:World) (K:PySem.W.Frag) (mg:Str->Option Value) (base:Heap) (k:Nat) (C:Addr) (x:Str) (ps:List Str) (sp:Sp):Prop where
 ex:∃(f:Addr) (fd:FuncData),mf P w K mg base CX0 k f fd ps sp/\i3 K fd ps []/\Mk K C f/\mg x=some (.ref C)
structure rK (K:PySem.W.Frag) (C:Addr) (m qual:Str) (st:Stmt):Prop where
 ex:∃(f:Addr) (fd:FuncData),Fun K m qual st f fd/\Cz K C m f
structure rL (K:PySem.W.Frag) (mg:Str->Option Value) (C:Addr) (x qual:Str) (st:Stmt):Prop where
 ex:∃(f:Addr) (fd:FuncData),Fun K "__init__" qual st f fd/\Mk K C f/\mg x=some (.ref C)
section
variable {P:Program}{w:World}{K:PySem.W.Frag}{mg:Str->Option Value}{base:Heap}{x m qual:Str}{C:Addr}{st:Stmt}{N ps:List Str}{k:Nat}{sp:Sp}
theorem rK.ok (D:rK K C m qual st) (S:aK N ps (ao st))
  (hb:∀(kV doc pm:Value) (an:Option Addr) (cdv ct:Value) (us:List Value),us.length=ps.length->bindArgs (PySem.W.fnOf m qual (cu st) (bE st) (ao st) .none kV doc pm an cdv ct) ⟨us,[]⟩=pure (ps.zip us))
  (len:∀vs H Q E,sp vs H Q E->vs.length=ps.length)
  (hbody:∀(f:Addr) (cdv:Value) (A:Around) (outer:List Env) (s:Shared) (H:Hp) (vs:List V) (Q:VK) (E:XK),fR k (A.deeper (envOfC qual (ao st) s.heap.objs.size f cdv))->sp vs H Q E ->
   ∃t,PSs (uu CX0 P w K mg base N qual (ao st) f cdv A outer s H E).nox (bE st) t/\t { nx:=fun _ H'=>Q .non H',rt:=Q } (start N vs) H):Bq P w K mg base (k + 1) C m ps sp:=by
 obtain ⟨f,fd,F,hm⟩:=D.ex
 exact ⟨f,fd,F.ok S len fun cdv A outer s H vs Q E hr h=>hbody f cdv A outer s H vs Q E hr h,F.binds hb,hm⟩
theorem rL.ok (D:rL K mg C x qual st) (S:aK N ps (ao st))
  (hb:∀(kV doc pm:Value) (an:Option Addr) (cdv ct:Value) (us:List Value),us.length=ps.length->bindArgs (PySem.W.fnOf "__init__" qual (cu st) (bE st) (ao st) .none kV doc pm an cdv ct) ⟨us,[]⟩=pure (ps.zip us))
  (len:∀vs H Q E,sp vs H Q E->vs.length=ps.length)
  (hbody:∀(f:Addr) (cdv:Value) (A:Around) (outer:List Env) (s:Shared) (H:Hp) (vs:List V) (Q:VK) (E:XK),fR k (A.deeper (envOfC qual (ao st) s.heap.objs.size f cdv))->sp vs H Q E ->
   ∃t,PSs (uu CX0 P w K mg base N qual (ao st) f cdv A outer s H E).nox (bE st) t/\t { nx:=fun _ H'=>Q .non H',rt:=Q } (start N vs) H):Br P w K mg base (k + 1) C x ps sp:=by
 obtain ⟨f,fd,F,hm,e⟩:=D.ex
 exact ⟨f,fd,F.ok S len fun cdv A outer s H vs Q E hr h=>hbody f cdv A outer s H vs Q E hr h,F.binds hb,hm,e⟩
end
section
variable {X:Cx}{k:Nat}{x m:Str}{C:Addr}{ps:List Str}{sp:Sp}{p pos apos:Pos}{o e:Expr}{es:List Expr}{ta:TE}{t:TA}
theorem yY (M:Br X.prog X.w X.K X.mg X.base k C x ps sp) (hr:fR (k + 1) X.A) (ha:PA X (e::es) t) (hg:Gl X x:=by rfl) (hdb:(x == ("__debug__":Str))=false:=by decide) (he:starEach (e::es) X.env=(false,eval e X.env)::starEach es X.env:=by rfl)
  (hpl:(backTo pos (starEach es X.env)).any (·.1)=false:=by rfl):PE X (.Call (.Name x p) (e::es) [] pos) (wB C sp [] E0 t):=by
 obtain ⟨f,fd,F,hb,hk,hm⟩:=M.ex
 exact yH hk F hr hg hm hb .nil wI ha hdb he hpl
theorem m5 {pl:Sem Bool} (he:PE X o ta) (c:Cls X.K C) (M:Bq X.prog X.w X.K X.mg X.base k C m ps sp) (hr:fR k X.A)
  (ht:eval (.Call (.Attribute o m apos) [] [] pos) X.env=(do
   let ov <- eval o X.env
   standAt apos.atName
   let (f,first) <- holding [ov] (getMethod ov m pl)
   callWith pos f first (backTo pos (starEach [] X.env)) (backToKw pos (keywordEach [] X.env))):=by rfl) :
  PE X (.Call (.Attribute o m apos) [] [] pos) (yG C m sp [] E0 ta eM):=by
 obtain ⟨f,fd,F,hb,hm⟩:=M.ex
 exact wC (pl:=pl) he c hm F hr hb .nil wI ht
end
theorem u0 {prog:Program}{w:World}{A:Around} (k:Bool) (hh:A.handled=none) (it a:Addr) (hne:a≠it) (its:Array Value) :
  Draws prog w A it [it,a] its.size (fun i v=>its[i]?=some v) (fun i h=>iu k h it a i/\km k h a its) where
 live:=fun _ _ st=>let ⟨o,ho,_⟩:=st.1;⟨o,ho⟩
 frame:=fun _ _ _ st hk=>⟨st.1.mv fun o e=>hk it (by simp) o e,st.2.mv fun o e=>hk a (by simp) o e⟩
 item:=fun i s Q E hi st hQ=>by
  refine oY st.1 st.2 (x:=its[i]) (by simp [hi]) fun h' hit' hs'=>?_
  exact hQ _ h' s.toks (by simp [hi]) ⟨hit',st.2.mv fun o e=>hs'.extBut _ o hne e⟩ hs'
 done:=fun s Q E st hE=>kn hh st.1 st.2 (by simp) hE
def Ite (k:Bool) (K:PySem.W.Frag) (a:Addr):It :=
  ⟨fun i H=>∃xs x,Sq k K H a xs/\xs[i]?=some x,
   fun i H p H'=>∃T x,H T=none/\p=.ref T/\(∀xs,Sq k K H a xs->xs[i]?=some x)/\H'=upd H T (.tup [.int (i:Int),x]),
   fun i H=>∃xs,Sq k K H a xs/\xs.length<=i⟩
theorem u4 {P:Program}{w:World}{K:PySem.W.Frag}{es:List Expr}{ct:Nat}{tp:Pos}{k:Bool}{a e it:Addr} (hei:e≠it) :
  Al P w K (.Tuple es ct tp) (Ite k K a) [e,it] e (fun n h=>(∃old,IsEnum h e it ((n:Nat):Int) old)/\iu k h it a n) where
 mem:=by simp
 obj:=fun n h st b hb=>by
  obtain ⟨⟨old,he⟩,o1,g1,c1,d1⟩:=st
  simp only [List.mem_cons,List.not_mem_nil,or_false] at hb
  rcases hb with rfl | rfl
  .exact ⟨_,he,fun v q=>by cases q⟩
  .exact ⟨_,g1,fun v q=>by rw [d1] at q;cases q⟩
 keep:=fun n h h' st kk=>by
  obtain ⟨⟨old,he⟩,w1⟩:=st
  exact ⟨⟨old,kk e (by simp) _ he⟩,w1.mv fun o q=>kk it (by simp) o q⟩
 item:=by
  intro X hP hw hK hc n pins s σ H E I hf st hg
  subst hP hw hK
  obtain ⟨xs,x,q1,hx⟩:=hg
  obtain ⟨⟨old,he⟩,w1⟩:=st
  obtain ⟨its,rv,p,_⟩:=I.row q1
  obtain ⟨ux,hux,rx⟩:=rv.get hx
  have ne:=I.row_ne q1 (hf e (by simp))
  have ni:=I.row_ne q1 (hf it (by simp))
  have hlt:n < its.toArray.size:=by
   have:=(List.getElem?_eq_some_iff.mp hux).1
   simpa using this
  have hhd:X.A.in1.handled=none:=by exact I.ok.hd hc
  refine wpAny_pyNext_enum_itemD (u0 k hhd it a ni its.toArray) he ⟨w1,p⟩ hlt hei (by simp [hei,Ne.symm ne]) fun y h' tk hP ho hst ht hsz hk=>?_
  have hy:y=ux:=by
   have h1:its[n]?=some y:=by simpa using hP
   rw [hux] at h1;exact (Option.some.inj h1).symm
  subst hy
  refine ⟨_,rfl,wpAny_letOwnedTupleGo_enum ho fun g ge gs=>?_⟩
  have lt:∀{b o},s.heap.get? b=some o->s.heap.objs.size≠b:=fun q=>Nat.ne_of_gt (Heap.lt_size q)
  have kp:∀b o,b∉[e,it]->s.heap.get? b=some o->g.get? b=some o:=fun b o hb q=>by
   simp only [List.mem_cons,List.not_mem_nil,or_false,not_or] at hb
   exact gs.extBut _ _ hb.1 (hk b o hb.1 hb.2 q)
  have I2:Inv X pins σ (upd H s.heap.objs.size (.tup [.int (n:Int),x])) { s with heap:=g,toks:=tk + 1 }:=I.yielded (ch:=[e,it]) (fun b hb=>hf b hb) (Nat.le_refl _) kp
   ⟨by show 2<=sizeLine;decide,[.int (n:Int) tk,y],.cons ⟨tk,rfl⟩ (.cons rx .nil),_,gs.extBut _ _ (lt he) ht,rfl,_,rfl⟩
  refine ⟨.ref s.heap.objs.size,_,I2,rfl,⟨_,x,I.hok.fresh (Nat.le_refl _),rfl,fun xs' q=>by rw [I.row_inj q q1];exact hx,rfl⟩,⟨⟨y,by simpa using ge⟩,hst.1.mv fun o q=>gs.extBut _ o (Ne.symm hei) q⟩,fun b hb=>?_⟩
  rw [au ?_]
  .exact (hf b hb).1
  .intro q
   subst q
   simp only [List.mem_cons,List.not_mem_nil,or_false] at hb
   obtain ⟨o1,g1,_⟩:=w1
   rcases hb with q | q
   .exact lt he q
   .exact lt g1 q
 done:=by
  intro X hP hw hK hc n pins s σ H E I hf st hg
  subst hP hw hK
  obtain ⟨xs,q1,hend⟩:=hg
  obtain ⟨⟨old,he⟩,w1⟩:=st
  obtain ⟨its,rv,p,_⟩:=I.row q1
  have e1:=rv.length
  have ni:=I.row_ne q1 (hf it (by simp))
  have hhd:X.A.in1.handled=none:=by exact I.ok.hd hc
  obtain ⟨f0,f1,f2,f3,f4,f5⟩:=hf it (by simp)
  -- the walk's end is wherever the row has no item
  have hT:s.TypeIs (.ref e) "enumerate":=⟨_,he,rfl⟩
  unfold pyNext
  refine wpAny_bind (wpAny_attempt (wpAny_callSpecial?_slot (name:=Str.ofString "__next__") hT F.slot_enumerate_next
   (wpAny_call_entry F.slot_enumerate_next hT F.entry_enumerate_next ?_ (F.args_enumerate_next_1 _))))
  show wpAny _ _ (field (.ref e) 2 >>= _) _ _ _
  refine wpAny_bind (wpAny_field he rfl (x:=.ref it) rfl ?_)
  refine wpAny_bind (kn hhd w1 p (by simp;omega) fun h' x he' hx'=>?_)
  obtain ⟨o,ho,hcl⟩:=hx'
  refine wpAny_bind (wpAny_isInstance (T:="StopIteration") (b:=true) ⟨o,ho,hcl⟩ isSubtype_stop ?_)
  exact wpAny_pure ⟨rfl,I.turned (t':=s.toks) (fun b o hb q=>he' b o hb q) f0 f1 f3 f4 f5⟩
 self:=fun _ _ _ _ _ st h=>let ⟨⟨_,he⟩,_⟩:=st;wpAny_pyIter_enum he h
section
variable {P:Program}{w:World}{A:Around}{E:Value->Shared->Prop}{s:Shared}{k:Bool}
theorem wU (k:Bool) (a:Addr) (xs:Array Value):Meets (Builtin.«enumerate.__new__» ⟨[.type "enumerate",.ref a],[]⟩) (fun _ R s=>km k s.heap a xs /\
   R (.ok (.ret (.ref (s.heap.push (qt k a)).objs.size))) { s with heap:=(s.heap.push (qt k a)).push { cls:=.type "enumerate",data:=.fields #[.none,.bool false,.ref s.heap.objs.size,rawInt 0,.none,.none] } }) :=
 .of_wp fun prog w A R s h=>by
  obtain ⟨hp,g,d,tk,os⟩:=s
  obtain ⟨r1,h⟩:=h
  have hsub:=sub_enumerate
  have R1:km k (Shared.heap ⟨hp,g,d,tk,os⟩) a xs:=r1
  obtain ⟨⟨cls,dd,data,sl⟩,ho,hc,n,hd⟩:=id r1
  simp only at hc hd
  subst hc hd
  wp_walk using AutoSeq1.wpAny_loadPart' ho
  refine wpAny_stack_any fun st=>wpAny_pure ?_
  split
  .rename_i c _ _ _ _ _
   cases (c == Value.type "enumerate")
   .wp_walk using AutoSeq1.wpAny_loadPart' ho,i6 R1
    exact ⟨_,rfl,h⟩
   .wp_walk using AutoSeq1.wpAny_loadPart' ho,i6 R1
    exact ⟨_,rfl,h⟩
  .wp_walk using AutoSeq1.wpAny_loadPart' ho,i6 R1
   exact ⟨_,rfl,h⟩
theorem wV {a:Addr}{xs:Array Value}{Q:Value->Shared->Prop} (r1:km k s.heap a xs)
  (h:∀h',IsEnum h' (s.heap.objs.size + 1) s.heap.objs.size 0 .none->iu k h' s.heap.objs.size a 0->(∀b o,s.heap.get? b=some o->h'.get? b=some o)->Q (.ref (s.heap.objs.size + 1)) { s with heap:=h' }) :
  wpAny (model P w) A (call (.type "enumerate") [.ref a]) Q E s:=by
 refine callType_new F.called_enumerate (by decide) (F.typeCall_enumerate_1 _) (F.newCall_enumerate_1 _) (fun obj=>F.args_object_init_2 obj _) F.entry_enumerate_new (wU k a xs) ⟨r1,?_⟩
 have z1:(s.heap.push (qt k a)).objs.size=s.heap.objs.size + 1:=Heap.size_push ..
 have g2:((s.heap.push (qt k a)).push { cls:=.type "enumerate",data:=.fields #[.none,.bool false,.ref s.heap.objs.size,rawInt 0,.none,.none] }).get? (s.heap.push (qt k a)).objs.size=some _:=Heap.get?_push_size _ rfl
 have g1:=Heap.get?_push_of_some { cls:=.type "enumerate",data:=.fields #[.none,.bool false,.ref s.heap.objs.size,rawInt 0,.none,.none] } (Heap.get?_push_size s.heap (o:=qt k a) rfl)
 show _/\_
 rw [z1] at g2 ⊢
 exact ⟨⟨_,g2,rfl⟩,h _ g2 ⟨_,g1,rfl,rfl⟩ fun b o q=>Heap.get?_push_of_some _ (Heap.get?_push_of_some _ q)⟩
end
section
variable {X:Cx}{es:List Expr}{ct:Nat}{tp:Pos}
def sV (K:PySem.W.Frag) (ta:TA):TI:=fun σ H R=>ta σ H fun vs H1=>∃k a,vs=[.ref a]/\(∃xs,Sq k K H1 a xs)/\R (Ite k K a) H1
theorem yZ {a:Expr}{ta:TA}{p pos:Pos} (hg:Gl X "enumerate") (hm:X.mg "enumerate"=none) (ha:PA X [a] ta) (hs:starEach [a] X.env=[(false,eval a X.env)]:=by rfl) :
  PI X (.Tuple es ct tp) (.Call (.Name "enumerate" p) [a] [] pos) (sV X.K ta):=by
 intro pins s σ H R I h
 refine Call_ (ip I hg hm boot_enumerate (PyProof.Rows.callWith_type1 (thn (ha pos pins s σ H _ I h) fun us s1 ⟨vs,H1,I1,r1,q1⟩=>?_) hs rfl))
 obtain ⟨k,a,e,⟨xs,q1⟩,q⟩:=q1
 subst e
 cases r1 with
 | cons r rr =>
  cases rr
  cases r
  obtain ⟨its,rv,p,_⟩:=I1.row q1
  refine wV p fun h' g1 g2 kk=>wpAny_pyIter_enum g1 ?_
  have I2:Inv X pins σ H1 { s1 with heap:=h',toks:=s1.toks }:=I1.kept kk
  refine ⟨s1.heap.objs.size + 1,[s1.heap.objs.size + 1,s1.heap.objs.size],_,_,H1,rfl,I2,u4 (k:=k) (a:=a) (it:=s1.heap.objs.size) (Nat.ne_of_gt (Nat.lt_succ_self _)),⟨⟨_,g1⟩,g2⟩,fun b hb=>?_,q⟩
  have hle:s1.heap.objs.size<=b:=by
   simp only [List.mem_cons,List.not_mem_nil,or_false] at hb
   rcases hb with e | e
   .rw [e];exact Nat.le_add_right _ _
   .rw [e];exact Nat.le_refl _
  exact I1.fpOk hle (I1.hok.fresh hle)
end
section
variable {X:Cx}
theorem u5 (hc:X.calm=true):bX X (.builtin "min") (fun xs H Q=>∃(p:Addr) (ns:List Int),xs=[.ref p]/\SqL X.K H p (ns.map V.int)/\0 < ns.length/\∀m:Int,m∈ns->(∀a∈ns,m<=a)->Q (.int m) H):=by
 intro pins s σ H xs us Q I r h
 obtain ⟨p,ns,rfl,hS,hne,q⟩:=h
 obtain ⟨u,rfl,ru⟩:=hX r
 cases (show u=Value.ref p from ru)
 obtain ⟨its,rv,pl,hz⟩:=I.list hS
 have hi:=eU rv
 have hl:=pl.isList
 obtain ⟨ys,e⟩:=hi.allInts.items
 have hns:ns=ys.toList.map (·.1):=by rw [<- hi.numsOf,<- nums_intItems,<- e]
 have hsz:0 < ys.size:=by
  have h3:=hne;rw [hns,List.length_map,Array.length_toList] at h3;exact h3
 rw [e] at hl
 refine min_intList (by exact I.ok.hd hc) hl hsz fun v h' tk hv hk=>?_
 obtain ⟨t,rfl⟩:=intItems_at hv
 obtain ⟨h1,h2⟩:=argBest_lt (numAt ys) (ys.size - 1)
 refine ⟨.int _,H,I.kept (t':=tk) hk,⟨t,rfl⟩,q _ ?_ fun a ha=>?_⟩
 .rw [hns,numAt_eq];exact getD_mem (by rw [List.length_map,Array.length_toList];omega)
 .rw [hns] at ha
  obtain ⟨j,hj,rfl⟩:=mem_getD ha
  rw [List.length_map,Array.length_toList] at hj
  rw [<- numAt_eq];exact h2 j (by omega)
theorem i7 (ns:List Int):∀k,k<=ns.length->preSum (fun i=>ns.getD i 0) k=(ns.take k).sum
 | 0,_=>rfl
 | k + 1,h=>by
  rw [preSum,i7 ns k (by omega),List.take_add_one,List.getElem?_eq_getElem (by omega),List.sum_append,List.getD_eq_getElem?_getD,List.getElem?_eq_getElem (by omega)]
  simp
theorem o9 (hc:X.calm=true):bX X (.builtin "sum") (fun xs H Q=>∃(p:Addr) (ns:List Int),xs=[.ref p]/\SqL X.K H p (ns.map V.int)/\Q (.int ns.sum) H):=by
 intro pins s σ H xs us Q I r h
 obtain ⟨p,ns,rfl,hS,q⟩:=h
 obtain ⟨u,rfl,ru⟩:=hX r
 cases (show u=Value.ref p from ru)
 obtain ⟨its,rv,pl,hz⟩:=I.list hS
 have hi:=eU rv
 have hl:=pl.isList
 obtain ⟨ys,e⟩:=hi.allInts.items
 have hns:ns=ys.toList.map (·.1):=by rw [<- hi.numsOf,<- nums_intItems,<- e]
 rw [e] at hl
 refine sum_intListG (by exact I.ok.hd hc) hl fun h' tk t' hk=>⟨.int ns.sum,H,I.kept (t':=tk) hk,⟨t',?_⟩,q⟩
 have hlen:ys.size=ns.length:=by rw [hns,List.length_map,Array.length_toList]
 have hnum:numAt ys=fun i=>ns.getD i 0:=by
  funext i
  rw [numAt_eq,hns]
 rw [hnum,hlen,i7 ns ns.length (Nat.le_refl _),List.take_length]
end
section
variable {X:Cx}{e:Expr}{ta:TE}{f:Str}{pos:Pos}
theorem cV (K:PySem.W.Frag) (eK:X.K=K) (he:PE X e ta) (hb:attributeBase e f X.env (eval e X.env)=eval e X.env):PE X (.Attribute e f pos) (sE K ta f):=eK ▸ AU he hb
def C7 (K:PySem.W.Frag):List V->Hp->VK->Prop:=fun xs H Q=>∃p ys,xs=[.ref p]/\SqL K H p ys/\Q (.int ys.length) H
def C8 (K:PySem.W.Frag):List V->Hp->VK->Prop:=fun xs H Q=>∃p ys,xs=[.ref p]/\SqT K H p ys/\Q (.int ys.length) H
def DS (K:PySem.W.Frag):List V->Hp->VK->Prop:=fun xs H Q=>∃x n t b,xs=[x,.ty n]/\om K H x t/\PySem.W.kitOne K t (.type n)=some b/\Q (.bl b) H
def m7 (K:PySem.W.Frag):List V->Hp->VK->Prop:=fun xs H Q=>∃p ys,xs=[.ref p]/\(SqL K H p ys\/SqT K H p ys)/\∀l,H l=none->Q (.ref l) (upd H l (.lst ys))
end
section
variable {X:Cx}{o e:Expr}{es:List Expr}{to:TE}{t:TA}{name:Str}{apos cpos:Pos}{T id:String}{r:V->List V->Hp->VK->Prop}
theorem jy (K:PySem.W.Frag) (eK:X.K=K) (pa:PlainAttrs T) (slot:Slot T name id) (hty:typeOf (.builtin id)=pure (.type "method_descriptor")) (hm:MtR X id r) (ho:PE X o to) (ha:PA X (e::es) t)
  (hbase:attributeBase o name X.env (eval o X.env)=eval o X.env:=by rfl)
  (hfew:((backTo cpos (starEach (e::es) X.env)).all (fun x=>!x.1) && (backToKw cpos (keywordEach [] X.env)).all (fun x=>x.1.isSome)
   && decide ((e::es).length + ([]:List Keyword).length + (if ([]:List Keyword).isEmpty then 0 else 1) < 30))=true:=by rfl)
  (hline:(apos.endLine == cpos.line)=true:=by rfl) (hs:starEach (e::es) X.env=(false,eval e X.env)::starEach es X.env:=by rfl) (hplain:(backTo cpos (starEach es X.env)).any (·.1)=false:=by rfl) :
  PE X (.Call (.Attribute o name apos) (e::es) [] cpos) (tBM K T r to t):=eK ▸ CW pa slot hty hm ho ha hbase hfew hline hs hplain
end
def gz (c:Bool) (A B:Prop):Prop:=match c with | true=>A | false=>B
theorem tW {c:Bool}{A B:Prop} (h1:c=true->A) (h2:c=false->B):gz c A B:=by
 cases c with
 | true=>exact h1 rfl
 | false=>exact h2 rfl
theorem dF {p:Prop} [Decidable p] {A B:Prop} (h1:p->A) (h2:¬ p->B):gz (decide p) A B:=tW (fun h=>h1 (of_decide_eq_true h)) (fun h=>h2 (of_decide_eq_false h))
theorem kq {p:Prop} [Decidable p] {A B:Prop} (h1:¬ p->A) (h2:p->B):gz (!decide p) A B:=tW (fun h=>h1 fun z=>by rw [decide_eq_true z] at h;cases h) (fun h=>h2 (by
 by_cases z:p
 .exact z
 .rw [decide_eq_false z] at h;cases h))
theorem C9 {p:Prop} [Decidable p] {A B:Prop} (h:p) (hA:A):gz (decide p) A B:=dF (fun _=>hA) (fun z=>absurd h z)
theorem Db {p:Prop} [Decidable p] {A B:Prop} (h:¬ p) (hB:B):gz (decide p) A B:=dF (fun z=>absurd z h) (fun _=>hB)
theorem Bs {p:Prop} [Decidable p] {A B:Prop} (h:¬ p) (hA:A):gz (!decide p) A B:=kq (fun _=>hA) (fun z=>absurd z h)
theorem Bt {p:Prop} [Decidable p] {A B:Prop} (h:p) (hB:B):gz (!decide p) A B:=kq (fun z=>absurd h z) (fun _=>hB)
theorem ia {c:Bool}{A B:Prop} (h:gz c B A):gz (!c) A B:=by
 cases c <;> exact h
theorem Eh {c:Bool}{A B:Prop} (h:c=true) (hA:A):gz c A B:=by subst h;exact hA
theorem Ei {c:Bool}{A B:Prop} (h:c=false) (hB:B):gz c A B:=by subst h;exact hB
theorem Bu {c:Bool}{A B:Prop} (h:c=false) (hA:A):gz (!c) A B:=by subst h;exact hA
theorem y0 {c:Bool}{A B:Prop} (h:c=true) (hB:B):gz (!c) A B:=by subst h;exact hB
inductive D where
 | non | bl (b:Bool) | int (i:Int) | str (l:List Nat) | ty (n:String)
 | lst (ds:List D) | tup (ds:List D) | scr (ns:List Int) | dic (ks:List Key) (ds:List D) | obj (c:Str) (ns:List Str) (ds:List D) | exc (c:Str) (ns:List Str) (ds:List D)
def XAt (x C:Addr) (dd:Option Addr) (new:Bool) (h:Heap):Prop:=∃o vs,h.get? x=some o/\o.cls=.ref C/\o.dict=dd/\o.data=.fields vs/\1 < vs.size/\(new=true->vs[1]?=some .none)
def eT (A:Addr->Prop) (a:Addr):Addr->Prop:=fun b=>A b\/b=a
def An (K:PySem.W.Frag) (O:Addr->Prop) (H:Hp) (a:Addr) (xs:List V):Prop :=
 (¬ O a/\Rd H a (.lst xs))\/∃(o:Obj) (its:Array Value) (n:Nat),K.lookup a=some o/\o.cls=.type "list"/\o.dict=none/\o.data=.seq its n/\its.size<=sizeLine/\bV xs its.toList
theorem An.sq {K:PySem.W.Frag}{O:Addr->Prop}{H:Hp}{a:Addr}{xs:List V} (h:An K O H a xs):SqL K H a xs:=h.elim (fun z=>.inl z.2) .inr
def aO (O:Addr->Prop) (H:Hp) (O':Addr->Prop) (H':Hp):Prop:=∀b o,¬ O b->H b=some o->¬ O' b/\H' b=some o
theorem Rd.keeps {O O':Addr->Prop}{H H':Hp}{a:Addr}{u:HO} (k:aO O H O' H') (n:¬ O a) (r:Rd H a u):¬ O' a/\Rd H' a u:=by
 rcases r with e | ⟨o,e⟩
 .exact ⟨(k _ _ n e).1,.inl (k _ _ n e).2⟩
 .exact ⟨(k _ _ n e).1,.inr ⟨o,(k _ _ n e).2⟩⟩
theorem An.keeps {K:PySem.W.Frag}{O O':Addr->Prop}{H H':Hp}{a:Addr}{xs:List V} (k:aO O H O' H') (h:An K O H a xs):An K O' H' a xs:=by
 rcases h with ⟨n,r⟩ | r
 .exact .inl (r.keeps k n)
 .exact .inr r
mutual
inductive FV (K:PySem.W.Frag) (O:Addr->Prop) (H:Hp):V->D->Prop
 | non:FV K O H .non .non
 | bl (b:Bool):FV K O H (.bl b) (.bl b)
 | int (i:Int):FV K O H (.int i) (.int i)
 | str (l:List Nat):l.length<=1000000->FV K O H (.str (S l)) (.str l)
 | ty (n:String):FV K O H (.ty n) (.ty n)
 | scr {a:Addr}{ns:List Int}:An K O H a (ns.map V.int)->FV K O H (.ref a) (.scr ns)
 | lst {a:Addr}{xs:List V}{ds:List D}:¬ O a->H a=some (.lst xs)->FVs K O H xs ds->FV K O H (.ref a) (.lst ds)
 | tup {a:Addr}{xs:List V}{ds:List D}:¬ O a->H a=some (.tup xs)->FVs K O H xs ds->FV K O H (.ref a) (.tup ds)
 | dic {a:Addr}{kvs:List (Key×V)}{ks:List Key}{ds:List D}:¬ O a->H a=some (.dK kvs)->kvs.map Prod.fst=ks->FVs K O H (kvs.map Prod.snd) ds->FV K O H (.ref a) (.dic ks ds)
 | obj {a dx:Addr}{c:Str}{fs:List (Str×V)}{ns:List Str}{ds:List D}:¬ O a->H a=some (.ins (bC K c) dx fs)->fs.map Prod.fst=ns->FVs K O H (fs.map Prod.snd) ds->FV K O H (.ref a) (.obj c ns ds)
 | exc0 {a:Addr}{c:Str}{new:Bool}:¬ O a->H a=some (.ext (XAt a (bC K c) none new))->FV K O H (.ref a) (.exc c [] [])
 | exc1 {a dx:Addr}{c:Str}{new:Bool}{fs:List (Str×V)}{ns:List Str}{ds:List D}:¬ O a->¬ O dx->H a=some (.ext (XAt a (bC K c) (some dx) new))->H dx=some (.xd fs)->fs.map Prod.fst=ns->FVs K O H (fs.map Prod.snd) ds->FV K O H (.ref a) (.exc c ns ds)
inductive FVs (K:PySem.W.Frag) (O:Addr->Prop) (H:Hp):List V->List D->Prop
 | nil:FVs K O H [] []
 | cons {x:V}{d:D}{xs:List V}{ds:List D}:FV K O H x d->FVs K O H xs ds->FVs K O H (x::xs) (d::ds)
end
section
variable {K:PySem.W.Frag}{O O':Addr->Prop}{H H':Hp}
mutual
theorem FV.keeps (k:aO O H O' H'):∀{v:V}{d:D},FV K O H v d->FV K O' H' v d
 | _,_,.non=>.non
 | _,_,.bl b=>.bl b
 | _,_,.int i=>.int i
 | _,_,.str l h=>.str l h
 | _,_,.ty n=>.ty n
 | _,_,.scr s=>.scr (s.keeps k)
 | _,_,.lst n e f=>.lst (k _ _ n e).1 (k _ _ n e).2 (FVs.keeps k f)
 | _,_,.tup n e f=>.tup (k _ _ n e).1 (k _ _ n e).2 (FVs.keeps k f)
 | _,_,.dic n e m f=>.dic (k _ _ n e).1 (k _ _ n e).2 m (FVs.keeps k f)
 | _,_,.obj n e m f=>.obj (k _ _ n e).1 (k _ _ n e).2 m (FVs.keeps k f)
 | _,_,.exc0 n e=>.exc0 (k _ _ n e).1 (k _ _ n e).2
 | _,_,.exc1 n n2 e e2 m f=>.exc1 (k _ _ n e).1 (k _ _ n2 e2).1 (k _ _ n e).2 (k _ _ n2 e2).2 m (FVs.keeps k f)
theorem FVs.keeps (k:aO O H O' H'):∀{vs:List V}{ds:List D},FVs K O H vs ds->FVs K O' H' vs ds
 | _,_,.nil=>.nil
 | _,_,.cons a b=>.cons (FV.keeps k a) (FVs.keeps k b)
end
theorem FVs.length:∀{vs:List V}{ds:List D},FVs K O H vs ds->vs.length=ds.length
 | _,_,.nil=>rfl
 | _,_,.cons _ b=>by rw [List.length_cons,List.length_cons,b.length]
theorem FVs.get:∀{vs:List V}{ds:List D}{i:Nat}{v:V},FVs K O H vs ds->vs[i]?=some v->∃d,ds[i]?=some d/\FV K O H v d
 | _,_,0,_,.cons a _,e=>by simp at e;subst e;exact ⟨_,rfl,a⟩
 | _,_,i + 1,v,.cons _ b,e=>by
  obtain ⟨d,h1,h2⟩:=b.get (i:=i) (v:=v) (by simpa using e)
  exact ⟨d,by simpa using h1,h2⟩
theorem FVs.getD:∀{vs:List V}{ds:List D}{i:Nat}{d:D},FVs K O H vs ds->ds[i]?=some d->∃v,vs[i]?=some v/\FV K O H v d
 | _,_,0,_,.cons a _,e=>by simp at e;subst e;exact ⟨_,rfl,a⟩
 | _,_,i + 1,v,.cons _ b,e=>by
  obtain ⟨d,h1,h2⟩:=b.getD (i:=i) (d:=v) (by simpa using e)
  exact ⟨d,by simpa using h1,h2⟩
theorem FVs.append:∀{vs ws:List V}{ds es:List D},FVs K O H vs ds->FVs K O H ws es->FVs K O H (vs++ws) (ds++es)
 | _,_,_,_,.nil,s=>s
 | _,_,_,_,.cons a b,s=>.cons a (b.append s)
theorem FVs.set {v:V}{d:D} (f:FV K O H v d):∀{vs:List V}{ds:List D} (i:Nat),FVs K O H vs ds->FVs K O H (vs.set i v) (ds.set i d)
 | _,_,_,.nil=>.nil
 | _,_,0,.cons _ t=>.cons f t
 | _,_,i + 1,.cons q t=>.cons q (FVs.set f i t)
theorem FVs.take:∀{vs:List V}{ds:List D} (n:Nat),FVs K O H vs ds->FVs K O H (vs.take n) (ds.take n)
 | _,_,0,_=>.nil
 | _,_,_ + 1,.nil=>.nil
 | _,_,n + 1,.cons r t=>.cons r (t.take n)
theorem FVs.drop:∀{vs:List V}{ds:List D} (n:Nat),FVs K O H vs ds->FVs K O H (vs.drop n) (ds.drop n)
 | _,_,0,r=>r
 | _,_,_ + 1,.nil=>.nil
 | _,_,n + 1,.cons _ t=>t.drop n
theorem FVs.reverse:∀{vs:List V}{ds:List D},FVs K O H vs ds->FVs K O H vs.reverse ds.reverse
 | _,_,.nil=>.nil
 | _,_,.cons r t=>by rw [List.reverse_cons,List.reverse_cons];exact t.reverse.append (.cons r .nil)
theorem FVs.ints:∀{vs:List V}{ns:List Int},FVs K O H vs (ns.map D.int)->vs=ns.map V.int
 | _,[],.nil=>rfl
 | _,n::r,h=>by
  cases h with
  | cons a b=>cases a;rw [FVs.ints b];rfl
theorem FVs.of_ints:∀ns:List Int,FVs K O H (ns.map V.int) (ns.map D.int)
 | []=>.nil
 | n::r=>.cons (.int n) (FVs.of_ints r)
theorem FVs.bls:∀{vs:List V}{bs:List Bool},FVs K O H vs (bs.map D.bl)->vs=bs.map V.bl
 | _,[],.nil=>rfl
 | _,n::r,h=>by
  cases h with
  | cons a b=>cases a;rw [FVs.bls b];rfl
end
inductive PV where
 | dat (d:D) | own (ds:List D) | ins (c:Str) (ns:List Str) (ds:List D)
def PV.isOwn:PV->Bool
 | .dat _=>false
 | _=>true
def PV.d:PV->D
 | .dat d=>d
 | .own ds=>.lst ds
 | .ins c ns ds=>.obj c ns ds
abbrev PSt:=List (Option PV)
def Wr (ρ:PSt) (σ:St) (b:Addr):Prop:=∃(i:Nat) (p:PV),ρ[i]?=some (some p)/\p.isOwn=true/\σ[i]?=some (some (.ref b))
def OO (A:Addr->Prop) (ρ:PSt) (σ:St) (b:Addr):Prop:=A b\/Wr ρ σ b
def RS (K:PySem.W.Frag) (O:Addr->Prop) (H:Hp):PV->V->Prop
 | .dat d,v=>FV K O H v d
 | .own ds,v=>∃a xs,v=.ref a/\H a=some (.lst xs)/\FVs K O H xs ds
 | .ins c ns ds,v=>∃a dx fs,v=.ref a/\H a=some (.ins (bC K c) dx fs)/\fs.map Prod.fst=ns/\FVs K O H (fs.map Prod.snd) ds
structure Rel (K:PySem.W.Frag) (A:Addr->Prop) (ρ:PSt) (σ:St) (H:Hp):Prop where
 len:ρ.length=σ.length
 get:∀(i:Nat) (p:PV),ρ[i]?=some (some p)->∃v,σ[i]?=some (some v)/\RS K (OO A ρ σ) H p v
 dj:∀(i j:Nat) (p q:PV) (v:V),ρ[i]?=some (some p)->ρ[j]?=some (some q)->p.isOwn=true->q.isOwn=true->σ[i]?=some (some v)->σ[j]?=some (some v)->i=j
 dom:∀b,A b->H b≠none
 sep:∀b,A b->¬ Wr ρ σ b
structure Fr (ρ:PSt) (σ:St) (H:Hp) (ρ':PSt) (H':Hp):Prop where
 kp:∀b o,¬ Wr ρ σ b->H b=some o->H' b=some o
 dm:∀b,H b≠none->H' b≠none
 ow:∀b,Wr ρ' σ b->Wr ρ σ b
theorem Fr.refl (ρ:PSt) (σ:St) (H:Hp):Fr ρ σ H ρ H:=⟨fun _ _ _ h=>h,fun _ h=>h,fun _ h=>h⟩
theorem Fr.trans {ρ ρ1 ρ2:PSt}{σ:St}{H H1 H2:Hp} (a:Fr ρ σ H ρ1 H1) (b:Fr ρ1 σ H1 ρ2 H2):Fr ρ σ H ρ2 H2 :=
 ⟨fun c o n h=>b.kp c o (fun z=>n (a.ow c z)) (a.kp c o n h),fun c h=>b.dm c (a.dm c h),fun c h=>a.ow c (b.ow c h)⟩
theorem Fr.keeps {ρ ρ':PSt}{σ:St}{H H':Hp}{A:Addr->Prop} (f:Fr ρ σ H ρ' H'):aO (OO A ρ σ) H (OO A ρ' σ) H':=fun b o n h =>
 ⟨fun z=>z.elim (fun z=>n (.inl z)) (fun z=>n (.inr (f.ow b z))),f.kp b o (fun z=>n (.inr z)) h⟩
theorem Fr.new {ρ:PSt}{σ:St}{H:Hp}{p:Addr}{o:HO} (h:H p=none):Fr ρ σ H ρ (upd H p o) :=
 ⟨fun b u _ e=>by rw [au (aW e h)];exact e,fun b e=>by
  by_cases z:b=p
  .rw [z,aE];exact nofun
  .rw [au z];exact e,fun _ h=>h⟩
theorem aO.fresh {O:Addr->Prop}{H:Hp}{p:Addr}{o:HO} (h:H p=none):aO O H (eT O p) (upd H p o):=fun b u n e =>
 ⟨fun z=>z.elim n (fun z=>by rw [z,h] at e;cases e),by rw [au (aW e h)];exact e⟩
theorem aO.less {O O':Addr->Prop}{H:Hp} (h:∀b,O' b->O b):aO O H O' H:=fun b o n e=>⟨fun z=>n (h b z),e⟩
theorem RS.keeps {K:PySem.W.Frag}{O O':Addr->Prop}{H H':Hp}{p:PV}{v:V} (k:aO O H O' H') (w:p.isOwn=true->∀a,v=.ref a->H' a=H a) (h:RS K O H p v):RS K O' H' p v:=by
 cases p with
 | dat d=>exact FV.keeps k h
 | own ds =>
  obtain ⟨a,xs,e,g,f⟩:=h
  exact ⟨a,xs,e,by rw [w rfl a e];exact g,f.keeps k⟩
 | ins c ns ds =>
  obtain ⟨a,dx,fs,e,g,m,f⟩:=h
  exact ⟨a,dx,fs,e,by rw [w rfl a e];exact g,m,f.keeps k⟩
theorem RS.ref {K:PySem.W.Frag}{O:Addr->Prop}{H:Hp}{p:PV}{v:V} (h:RS K O H p v) (o:p.isOwn=true):∃a u,v=.ref a/\H a=some u:=by
 cases p with
 | dat d=>cases o
 | own ds=>obtain ⟨a,xs,e,g,f⟩:=h;exact ⟨a,_,e,g⟩
 | ins c ns ds=>obtain ⟨a,dx,fs,e,g,m,f⟩:=h;exact ⟨a,_,e,g⟩
theorem Rel.wr {K:PySem.W.Frag}{A:Addr->Prop}{ρ:PSt}{σ:St}{H:Hp} (R:Rel K A ρ σ H) {b:Addr} (h:Wr ρ σ b):H b≠none:=by
 obtain ⟨i,p,e,o,s⟩:=h
 obtain ⟨v,s',r⟩:=R.get i p e
 rw [s] at s';cases s'
 obtain ⟨a,u,e1,e2⟩:=r.ref o
 cases e1
 rw [e2];exact nofun
theorem Rel.oo {K:PySem.W.Frag}{A:Addr->Prop}{ρ:PSt}{σ:St}{H:Hp} (R:Rel K A ρ σ H) {b:Addr} (h:H b=none):¬ OO A ρ σ b:=fun z=>z.elim (fun z=>R.dom b z h) (fun z=>R.wr z h)
theorem Rel.grow {K:PySem.W.Frag}{A:Addr->Prop}{ρ:PSt}{σ:St}{H:Hp} (R:Rel K A ρ σ H) {p:Addr}{o:HO} (h:H p=none):Rel K A ρ σ (upd H p o):=by
 have k:aO (OO A ρ σ) H (OO A ρ σ) (upd H p o):=Fr.keeps (Fr.new h)
 refine ⟨R.len,fun i q e=>?_,R.dj,fun b z=>(Fr.new (ρ:=ρ) (σ:=σ) h).dm b (R.dom b z),R.sep⟩
 obtain ⟨v,s,r⟩:=R.get i q e
 refine ⟨v,s,r.keeps k fun ow a ea=>?_⟩
 obtain ⟨a',u,e1,e2⟩:=r.ref ow
 rw [ea] at e1;cases e1
 rw [au (aW e2 h)]
theorem Rel.less {K:PySem.W.Frag}{A A':Addr->Prop}{ρ:PSt}{σ:St}{H:Hp} (R:Rel K A ρ σ H) (h:∀b,A' b->A b):Rel K A' ρ σ H:=by
 refine ⟨R.len,fun i q e=>?_,R.dj,fun b z=>R.dom b (h b z),fun b z=>R.sep b (h b z)⟩
 obtain ⟨v,s,r⟩:=R.get i q e
 exact ⟨v,s,r.keeps (aO.less fun b z=>z.imp (h b) id) fun _ _ _=>rfl⟩
theorem Rel.write {K:PySem.W.Frag}{A:Addr->Prop}{ρ:PSt}{σ:St}{H:Hp} (R:Rel K A ρ σ H) {i:Nat}{p q:PV}{a:Addr}{o:HO} (e:ρ[i]?=some (some p)) (ow:p.isOwn=true) (ow':q.isOwn=true) (es:σ[i]?=some (some (.ref a)))
  (new:RS K (OO A ρ σ) (upd H a o) q (.ref a)):Rel K A (ρ.set i (some q)) σ (upd H a o)/\Fr ρ σ H (ρ.set i (some q)) (upd H a o):=by
 have hi:i < ρ.length:=(List.getElem?_eq_some_iff.mp e).1
 have wa:Wr ρ σ a:=⟨i,p,e,ow,es⟩
 have weq:∀b,Wr (ρ.set i (some q)) σ b ↔ Wr ρ σ b:=fun b=>by
  constructor
  .rintro ⟨j,r,e1,o1,s1⟩
   by_cases z:i=j
   .subst z;exact ⟨i,p,e,ow,s1⟩
   .rw [List.getElem?_set_ne z] at e1;exact ⟨j,r,e1,o1,s1⟩
  .rintro ⟨j,r,e1,o1,s1⟩
   by_cases z:i=j
   .subst z;exact ⟨i,q,List.getElem?_set_self hi,ow',s1⟩
   .exact ⟨j,r,by rw [List.getElem?_set_ne z];exact e1,o1,s1⟩
 have oeq:OO A (ρ.set i (some q)) σ=OO A ρ σ:=funext fun b=>propext (or_congr Iff.rfl (weq b))
 have kp:∀b u,¬ Wr ρ σ b->H b=some u->upd H a o b=some u:=fun b u n h=>by rw [au (fun z=>n (by rw [z];exact wa))];exact h
 have k:aO (OO A ρ σ) H (OO A ρ σ) (upd H a o):=fun b u n h=>⟨n,kp b u (fun z=>n (.inr z)) h⟩
 have dm:∀b,H b≠none->upd H a o b≠none:=fun b n=>by
  by_cases z:b=a
  .rw [z,aE];exact nofun
  .rw [au z];exact n
 refine ⟨⟨by rw [List.length_set];exact R.len,fun j r e1=>?_,fun j l p1 q1 v e1 e2 o1 o2 s1 s2=>?_,fun b z=>dm b (R.dom b z),fun b z w=>R.sep b z ((weq b).mp w)⟩,⟨kp,dm,fun b w=>(weq b).mp w⟩⟩
 .rw [oeq]
  by_cases z:i=j
  .subst z
   rw [List.getElem?_set_self hi] at e1
   cases e1
   exact ⟨_,es,new⟩
  .rw [List.getElem?_set_ne z] at e1
   obtain ⟨v,s,rr⟩:=R.get j r e1
   refine ⟨v,s,rr.keeps k fun ow2 b eb=>?_⟩
   rw [au]
   intro zz
   subst zz
   rw [eb] at s
   exact z (R.dj i j p r _ e e1 ow ow2 es s)
 .have ex:∀(m:Nat) (x:PV),(ρ.set i (some q))[m]?=some (some x)->x.isOwn=true->∃y:PV,ρ[m]?=some (some y)/\y.isOwn=true:=fun m x em ox=>by
   by_cases z:i=m
   .subst z;exact ⟨p,e,ow⟩
   .rw [List.getElem?_set_ne z] at em;exact ⟨x,em,ox⟩
  obtain ⟨y1,h1,h2⟩:=ex j p1 e1 o1
  obtain ⟨y2,h3,h4⟩:=ex l q1 e2 o2
  exact R.dj j l y1 y2 v h1 h3 h2 h4 s1 s2
theorem Rel.frz {K:PySem.W.Frag}{A:Addr->Prop}{ρ:PSt}{σ:St}{H:Hp} (R:Rel K A ρ σ H) {i:Nat}{p:PV} (e:ρ[i]?=some (some p)) :
  Rel K A (ρ.set i (some (.dat p.d))) σ H/\Fr ρ σ H (ρ.set i (some (.dat p.d))) H:=by
 have hi:i < ρ.length:=(List.getElem?_eq_some_iff.mp e).1
 have ex:∀(m:Nat) (x:PV),(ρ.set i (some (.dat p.d)))[m]?=some (some x)->x.isOwn=true->m≠i/\ρ[m]?=some (some x):=fun m x em ox=>by
  by_cases z:i=m
  .subst z;rw [List.getElem?_set_self hi] at em;cases em;cases ox
  .rw [List.getElem?_set_ne z] at em;exact ⟨fun q=>z q.symm,em⟩
 have ow:∀b,Wr (ρ.set i (some (.dat p.d))) σ b->Wr ρ σ b:=fun b ⟨j,r,e1,o1,s1⟩=>⟨j,r,(ex j r e1 o1).2,o1,s1⟩
 have k:aO (OO A ρ σ) H (OO A (ρ.set i (some (.dat p.d))) σ) H:=aO.less fun b z=>z.imp id (ow b)
 refine ⟨⟨by rw [List.length_set];exact R.len,fun j r e1=>?_,fun j l p1 q1 v e1 e2 o1 o2 s1 s2=>R.dj j l p1 q1 v (ex j p1 e1 o1).2 (ex l q1 e2 o2).2 o1 o2 s1 s2,R.dom,fun b z w=>R.sep b z (ow b w)⟩,⟨fun _ _ _ h=>h,fun _ h=>h,ow⟩⟩
 by_cases z:i=j
 .subst z
  rw [List.getElem?_set_self hi] at e1
  cases e1
  obtain ⟨v,s,r⟩:=R.get i p e
  refine ⟨v,s,?_⟩
  have na:∀a,v=.ref a->p.isOwn=true->¬ OO A (ρ.set i (some (.dat p.d))) σ a:=fun a ea oo z=>by
   subst ea
   rcases z with z | ⟨j,r,e1,o1,s1⟩
   .exact R.sep a z ⟨i,p,e,oo,s⟩
   .obtain ⟨n1,n2⟩:=ex j r e1 o1
    exact n1 (R.dj j i r p _ n2 e o1 oo s1 s)
  cases p with
  | dat d=>exact FV.keeps k r
  | own ds =>
   obtain ⟨a,xs,rfl,g,f⟩:=r
   exact .lst (na a rfl rfl) g (f.keeps k)
  | ins c ns ds =>
   obtain ⟨a,dx,fs,rfl,g,m,f⟩:=r
   exact .obj (na a rfl rfl) g m (f.keeps k)
 .rw [List.getElem?_set_ne z] at e1
  obtain ⟨v,s,r⟩:=R.get j _ e1
  exact ⟨v,s,r.keeps k fun _ _ _=>rfl⟩
abbrev PKt:=PV->PSt->Prop
abbrev PTE:=PSt->PKt->Prop
abbrev PTT:=PSt->(Bool->PSt->Prop)->Prop
inductive AV where
 | v (d:D) | sl (i:Nat)
abbrev PA1:=PSt->(AV->PSt->Prop)->Prop
abbrev PTA:=PSt->(List AV->PSt->Prop)->Prop
def Out (K:PySem.W.Frag) (A:Addr->Prop) (ρ:PSt) (σ:St) (H0 H:Hp):PV->V->Prop
 | .dat d,v=>Rel K A ρ σ H/\FV K (OO A ρ σ) H v d
 | .own ds,v=>∃a xs,v=.ref a/\¬ A a/\H0 a=none/\H a=some (.lst xs)/\Rel K (eT A a) ρ σ H/\FVs K (OO (eT A a) ρ σ) H xs ds
 | .ins c ns ds,v=>∃a dx fs,v=.ref a/\¬ A a/\H0 a=none/\H a=some (.ins (bC K c) dx fs)/\fs.map Prod.fst=ns/\Rel K (eT A a) ρ σ H/\FVs K (OO (eT A a) ρ σ) H (fs.map Prod.snd) ds
def LE (K:PySem.W.Frag) (te:TE) (pe:PTE):Prop:=∀(A:Addr->Prop) (ρ:PSt) (σ:St) (H:Hp) (Q:PKt) (Q':VK),Rel K A ρ σ H->pe ρ Q ->
 (∀v H' p ρ',Q p ρ'->Fr ρ σ H ρ' H'->Out K A ρ' σ H H' p v->Q' v H')->te σ H Q'
def LT (K:PySem.W.Frag) (tt:TT) (pt:PTT):Prop:=∀(A:Addr->Prop) (ρ:PSt) (σ:St) (H:Hp) (Q:Bool->PSt->Prop) (Q':Bool->Hp->Prop),Rel K A ρ σ H->pt ρ Q ->
 (∀b H' ρ',Q b ρ'->Fr ρ σ H ρ' H'->Rel K A ρ' σ H'->Q' b H')->tt σ H Q'
def AOk (K:PySem.W.Frag) (O:Addr->Prop) (σ:St) (H:Hp):AV->V->Prop
 | .v d,v=>FV K O H v d
 | .sl i,v=>σ[i]?=some (some v)
def LA1 (K:PySem.W.Frag) (te:TE) (pa:PA1):Prop:=∀(A:Addr->Prop) (ρ:PSt) (σ:St) (H:Hp) (Q:AV->PSt->Prop) (Q':VK),Rel K A ρ σ H->pa ρ Q ->
 (∀v H' av ρ',Q av ρ'->Fr ρ σ H ρ' H'->Rel K A ρ' σ H'->AOk K (OO A ρ' σ) σ H' av v->Q' v H')->te σ H Q'
inductive za (K:PySem.W.Frag) (O:Addr->Prop) (σ:St) (H:Hp):List AV->List V->Prop
 | nil:za K O σ H [] []
 | cons {a:AV}{v:V}{as:List AV}{vs:List V}:AOk K O σ H a v->za K O σ H as vs->za K O σ H (a::as) (v::vs)
def LAs (K:PySem.W.Frag) (ta:TA) (pa:PTA):Prop:=∀(A:Addr->Prop) (ρ:PSt) (σ:St) (H:Hp) (Q:List AV->PSt->Prop) (Q':List V->Hp->Prop),Rel K A ρ σ H->pa ρ Q ->
 (∀vs H' as ρ',Q as ρ'->Fr ρ σ H ρ' H'->Rel K A ρ' σ H'->za K (OO A ρ' σ) σ H' as vs->Q' vs H')->ta σ H Q'
section
variable {K:PySem.W.Frag}{A O O':Addr->Prop}{ρ ρ':PSt}{σ:St}{H H' H0:Hp}
theorem AOk.keeps {a:AV}{v:V} (k:aO O H O' H') (h:AOk K O σ H a v):AOk K O' σ H' a v:=by
 cases a with
 | v d=>exact FV.keeps k h
 | sl i=>exact h
theorem Out.frz {p:PV}{v:V} (h:Out K A ρ σ H0 H p v):Rel K A ρ σ H/\FV K (OO A ρ σ) H v p.d:=by
 cases p with
 | dat d=>exact h
 | own ds =>
  obtain ⟨a,xs,rfl,na,_,e,R,f⟩:=h
  refine ⟨R.less fun b z=>.inl z,.lst (fun z=>?_) e (f.keeps (aO.less fun b z=>z.imp .inl id))⟩
  exact z.elim na (fun z=>R.sep a (.inr rfl) z)
 | ins c ns ds =>
  obtain ⟨a,dx,fs,rfl,na,_,e,m,R,f⟩:=h
  refine ⟨R.less fun b z=>.inl z,.obj (fun z=>?_) e m (f.keeps (aO.less fun b z=>z.imp .inl id))⟩
  exact z.elim na (fun z=>R.sep a (.inr rfl) z)
theorem Out.h0 {p:PV}{v:V}{H1:Hp} (h:Out K A ρ σ H0 H p v) (dm:∀b,H1 b≠none->H0 b≠none):Out K A ρ σ H1 H p v:=by
 have k:∀a,H0 a=none->H1 a=none:=fun a e=>by
  cases z:H1 a with
  | none=>rfl
  | some o=>exact absurd e (dm a (by rw [z];exact nofun))
 cases p with
 | dat d=>exact h
 | own ds=>obtain ⟨a,xs,e1,na,e2,r⟩:=h;exact ⟨a,xs,e1,na,k a e2,r⟩
 | ins c ns ds=>obtain ⟨a,dx,fs,e1,na,e2,r⟩:=h;exact ⟨a,dx,fs,e1,na,k a e2,r⟩
def Gr (H H':Hp):Prop:=∀b o,H b=some o->H' b=some o
theorem Gr.fr (g:Gr H H'):Fr ρ σ H ρ H':=⟨fun b o _ h=>g b o h,fun b h=>by
 cases e:H b with
 | none=>exact absurd e h
 | some o=>rw [g b o e];exact nofun,fun _ h=>h⟩
theorem Gr.new {p:Addr}{o:HO} (h:H p=none):Gr H (upd H p o):=fun b u e=>by rw [au (aW e h)];exact e
theorem Gr.refl (H:Hp):Gr H H:=fun _ _ h=>h
theorem Rel.gr (R:Rel K A ρ σ H) (g:Gr H H'):Rel K A ρ σ H':=by
 refine ⟨R.len,fun i q e=>?_,R.dj,fun b z=>(g.fr (ρ:=ρ) (σ:=σ)).dm b (R.dom b z),R.sep⟩
 obtain ⟨v,s,r⟩:=R.get i q e
 refine ⟨v,s,r.keeps (g.fr (ρ:=ρ) (σ:=σ)).keeps fun ow a ea=>?_⟩
 obtain ⟨a',u,e1,e2⟩:=r.ref ow
 rw [ea] at e1;cases e1
 rw [e2];exact g _ _ e2
theorem Rel.grA (R:Rel K A ρ σ H) (g:Gr H H') {p:Addr} (h:H p=none) (h':H' p≠none):Rel K (eT A p) ρ σ H':=by
 have k:aO (OO A ρ σ) H (OO (eT A p) ρ σ) H':=fun b u n e=>by
  refine ⟨fun z=>?_,g _ _ e⟩
  rcases z with (z | z) | z
  .exact n (.inl z)
  .rw [z,h] at e;cases e
  .exact n (.inr z)
 refine ⟨R.len,fun i q e=>?_,R.dj,fun b z=>?_,fun b z w=>?_⟩
 .obtain ⟨v,s,r⟩:=R.get i q e
  refine ⟨v,s,r.keeps k fun ow a ea=>?_⟩
  obtain ⟨a',u,e1,e2⟩:=r.ref ow
  rw [ea] at e1;cases e1
  rw [e2];exact g _ _ e2
 .rcases z with z | z
  .exact (g.fr (ρ:=ρ) (σ:=σ)).dm b (R.dom b z)
  .rw [z];exact h'
 .rcases z with z | z
  .exact R.sep b z w
  .exact R.wr w (by rw [z];exact h)
def qi (K:PySem.W.Frag) (O:Addr->Prop) (H0 H:Hp):PV->V->Prop
 | .dat d,v=>FV K O H v d
 | .own ds,v=>∃a xs,v=.ref a/\H0 a=none/\H a=some (.lst xs)/\FVs K (eT O a) H xs ds
 | .ins c ns ds,v=>∃a dx fs,v=.ref a/\H0 a=none/\H a=some (.ins (bC K c) dx fs)/\fs.map Prod.fst=ns/\FVs K (eT O a) H (fs.map Prod.snd) ds
theorem qi.out {p:PV}{v:V} (R:Rel K A ρ σ H) (g:Gr H H') (h:qi K (OO A ρ σ) H H' p v):Out K A ρ σ H H' p v:=by
 cases p with
 | dat d=>exact ⟨R.gr g,h⟩
 | own ds =>
  obtain ⟨a,xs,rfl,e0,e,f⟩:=h
  refine ⟨a,xs,rfl,fun z=>R.dom a z e0,e0,e,R.grA g e0 (by rw [e];exact nofun),f.keeps (aO.less fun b z=>?_)⟩
  rcases z with (z | z) | z
  .exact .inl (.inl z)
  .exact .inr z
  .exact .inl (.inr z)
 | ins c ns ds =>
  obtain ⟨a,dx,fs,rfl,e0,e,m,f⟩:=h
  refine ⟨a,dx,fs,rfl,fun z=>R.dom a z e0,e0,e,m,R.grA g e0 (by rw [e];exact nofun),f.keeps (aO.less fun b z=>?_)⟩
  rcases z with (z | z) | z
  .exact .inl (.inl z)
  .exact .inr z
  .exact .inl (.inr z)
def FVc (K:PySem.W.Frag) (O:Addr->Prop) (H:Hp) (v:V) (d:D):Prop:=FV K O H v d\/(∃a xs ds,v=.ref a/\d=.lst ds/\H a=some (.lst xs)/\FVs K O H xs ds) \/
 ∃a dx c fs ns ds,v=.ref a/\d=.obj c ns ds/\H a=some (.ins (bC K c) dx fs)/\fs.map Prod.fst=ns/\FVs K O H (fs.map Prod.snd) ds
def cont (ρ:PSt):AV->Option D
 | .v d=>some d
 | .sl i=>match ρ[i]? with | some (some p)=>some p.d | _=>none
theorem Rel.cont {av:AV}{v:V}{d:D} (R:Rel K A ρ σ H) (h:AOk K (OO A ρ σ) σ H av v) (e:L2.cont ρ av=some d):FVc K (OO A ρ σ) H v d:=by
 cases av with
 | v d'=>cases e;exact .inl h
 | sl i =>
  have h:σ[i]?=some (some v):=h
  simp only [L2.cont] at e
  split at e
  .rename_i p ep
   cases e
   obtain ⟨v',s,r⟩:=R.get i p ep
   rw [h] at s;cases s
   cases p with
   | dat d=>exact .inl r
   | own ds=>obtain ⟨a,xs,e1,e2,f⟩:=r;exact .inr (.inl ⟨a,xs,ds,e1,rfl,e2,f⟩)
   | ins c ns ds=>obtain ⟨a,dx,fs,e1,e2,m,f⟩:=r;exact .inr (.inr ⟨a,dx,c,fs,ns,ds,e1,rfl,e2,m,f⟩)
  .cases e
theorem FVc.lst {v:V}{ds:List D} (h:FVc K O H v (.lst ds)):∃a xs,v=.ref a/\H a=some (.lst xs)/\FVs K O H xs ds:=by
 rcases h with h | ⟨a,xs,ds',e1,e2,e3,f⟩ | ⟨a,dx,c,fs,ns,ds',e1,e2,_⟩
 .cases h with
  | lst n s f=>exact ⟨_,_,rfl,s,f⟩
 .cases e2;exact ⟨a,xs,e1,e3,f⟩
 .cases e2
theorem FVc.fv {v:V}{d:D} (h:FVc K O H v d) (n:∀ds,d≠.lst ds) (n':∀c ns ds,d≠.obj c ns ds):FV K O H v d:=by
 rcases h with h | ⟨a,xs,ds',e1,e2,e3,f⟩ | ⟨a,dx,c,fs,ns,ds',e1,e2,_⟩
 .exact h
 .exact absurd e2 (n _)
 .exact absurd e2 (n' _ _ _)
theorem FVc.tup {v:V}{ds:List D} (h:FVc K O H v (.tup ds)):∃a xs,v=.ref a/\¬ O a/\H a=some (.tup xs)/\FVs K O H xs ds:=by
 cases h.fv nofun nofun with
 | tup n s f=>exact ⟨_,_,rfl,n,s,f⟩
theorem FVc.scr {v:V}{ns:List Int} (h:FVc K O H v (.scr ns)):∃a,v=.ref a/\SqL K H a (ns.map V.int):=by
 cases h.fv nofun nofun with
 | scr s=>exact ⟨_,rfl,s.sq⟩
theorem FVc.int {v:V}{i:Int} (h:FVc K O H v (.int i)):v=.int i:=by cases h.fv nofun nofun;rfl
theorem FVc.bl {v:V}{i:Bool} (h:FVc K O H v (.bl i)):v=.bl i:=by cases h.fv nofun nofun;rfl
theorem FVc.str {v:V}{i:List Nat} (h:FVc K O H v (.str i)):v=.str (S i)/\i.length<=1000000:=by
 cases h.fv nofun nofun with
 | str _ z=>exact ⟨rfl,z⟩
theorem FVc.non {v:V} (h:FVc K O H v .non):v=.non:=by cases h.fv nofun nofun;rfl
end
def pC (d:D):PTE:=fun ρ Q=>Q (.dat d) ρ
def a5 (i:Nat):PTE:=fun ρ Q=>match ρ[i]? with
 | some (some (.dat d))=>Q (.dat d) ρ
 | some (some (.own ds))=>Q (.dat (.lst ds)) (ρ.set i (some (.dat (.lst ds))))
 | some (some (.ins c ns ds))=>Q (.dat (.obj c ns ds)) (ρ.set i (some (.dat (.obj c ns ds))))
 | _=>False
def pSl (i:Nat):PA1:=fun ρ Q=>match ρ[i]? with
 | some (some (.dat d))=>Q (.v d) ρ
 | some (some (.own _))=>Q (.sl i) ρ
 | some (some (.ins _ _ _))=>Q (.sl i) ρ
 | _=>False
def pFz (pe:PTE):PA1:=fun ρ Q=>pe ρ fun p ρ1=>Q (.v p.d) ρ1
def am:PTA:=fun ρ Q=>Q [] ρ
def af (pa:PA1) (pr:PTA):PTA:=fun ρ Q=>pa ρ fun a ρ1=>pr ρ1 fun as ρ2=>Q (a::as) ρ2
section
variable {K:PySem.W.Frag}{ta tb tc:TE}{pa pb pc:PA1}{pe pe':PTE}{tr:TA}{pr:PTA}
theorem CB {v:V}{d:D} (h:∀O H,FV K O H v d):LE K (tC v) (pC d):=fun A ρ σ H Q Q' R q k=>k v H (.dat d) ρ q (Fr.refl _ _ _) ⟨R,h _ _⟩
theorem le_int {i:Int}:LE K (tC (.int i)) (pC (.int i)):=CB fun _ _=>.int i
theorem pf {i:Bool}:LE K (tC (.bl i)) (pC (.bl i)):=CB fun _ _=>.bl i
theorem cL:LE K (tC .non) (pC .non):=CB fun _ _=>.non
theorem le_str {l:List Nat} (h:l.length<=1000000:=by decide):LE K (tC (.str (S l))) (pC (.str l)):=CB fun _ _=>.str l h
theorem ai {i:Nat}:LE K (a4 i) (a5 i):=by
 intro A ρ σ H Q Q' R q k
 unfold a5 at q
 split at q
 .rename_i d e
  obtain ⟨v,s,r⟩:=R.get i _ e
  exact ⟨v,s,k v H (.dat d) ρ q (Fr.refl _ _ _) ⟨R,r⟩⟩
 .rename_i ds e
  obtain ⟨R',f⟩:=R.frz e
  obtain ⟨v,s,r⟩:=R'.get i _ (List.getElem?_set_self (List.getElem?_eq_some_iff.mp e).1)
  exact ⟨v,s,k v H (.dat (.lst ds)) _ q f ⟨R',r⟩⟩
 .rename_i c ns ds e
  obtain ⟨R',f⟩:=R.frz e
  obtain ⟨v,s,r⟩:=R'.get i _ (List.getElem?_set_self (List.getElem?_eq_some_iff.mp e).1)
  exact ⟨v,s,k v H (.dat (.obj c ns ds)) _ q f ⟨R',r⟩⟩
 .exact q.elim
theorem al {i:Nat}:LA1 K (a4 i) (pSl i):=by
 intro A ρ σ H Q Q' R q k
 unfold pSl at q
 split at q
 .rename_i d e
  obtain ⟨v,s,r⟩:=R.get i _ e
  exact ⟨v,s,k v H _ ρ q (Fr.refl _ _ _) R r⟩
 .rename_i e
  obtain ⟨v,s,r⟩:=R.get i _ e
  exact ⟨v,s,k v H _ ρ q (Fr.refl _ _ _) R s⟩
 .rename_i e
  obtain ⟨v,s,r⟩:=R.get i _ e
  exact ⟨v,s,k v H _ ρ q (Fr.refl _ _ _) R s⟩
 .exact q.elim
theorem ac (h:LE K ta pe):LA1 K ta (pFz pe):=fun A ρ σ H Q Q' R q k=>h A ρ σ H _ Q' R q fun v H' p ρ' q f o=>k v H' _ ρ' q f o.frz.1 o.frz.2
theorem ae:LAs K eM am:=fun A ρ σ H Q Q' R q k=>k [] H [] ρ q (Fr.refl _ _ _) R .nil
theorem aa (h:LA1 K ta pa) (hr:LAs K tr pr):LAs K (bp ta tr) (af pa pr):=fun A ρ σ H Q Q' R q k =>
 h A ρ σ H _ _ R q fun v H1 a ρ1 q1 f1 R1 o1=>hr A ρ1 σ H1 _ _ R1 q1 fun vs H2 as ρ2 q2 f2 R2 o2=>k _ H2 _ ρ2 q2 (f1.trans f2) R2 (.cons (o1.keeps f2.keeps) o2)
def LO (K:PySem.W.Frag) (r:R2) (f:D->D->(PV->Prop)->Prop):Prop:=∀(O:Addr->Prop) (H:Hp) (x y:V) (a b:D) (Q:PV->Prop) (Q':VK),(∀b,O b->H b≠none)->FVc K O H x a->FVc K O H y b->f a b Q ->
 (∀v H' p,Q p->Gr H H'->qi K O H H' p v->Q' v H')->r x y H Q'
def op2 (f:D->D->(PV->Prop)->Prop) (ρ:PSt) (x y:AV) (Q:PKt):Prop:=match cont ρ x,cont ρ y with
 | some a,some b=>f a b fun p=>Q p ρ
 | _,_=>False
def pOp (f:D->D->(PV->Prop)->Prop) (pa pb:PA1):PTE:=fun ρ Q=>pa ρ fun x ρ1=>pb ρ1 fun y ρ2=>op2 f ρ2 x y Q
theorem Rel.dom2 {A:Addr->Prop}{ρ:PSt}{σ:St}{H:Hp} (R:Rel K A ρ σ H):∀b,OO A ρ σ b->H b≠none:=fun b z=>z.elim (R.dom b) R.wr
theorem aj {r:R2}{f:D->D->(PV->Prop)->Prop} (o:LO K r f) (ha:LA1 K ta pa) (hb:LA1 K tb pb):LE K (tOp r ta tb) (pOp f pa pb):=fun A ρ σ H Q Q' R q k =>
 ha A ρ σ H _ _ R q fun v H1 a ρ1 q1 f1 R1 o1=>hb A ρ1 σ H1 _ _ R1 q1 fun w H2 b ρ2 q2 f2 R2 o2=>by
  unfold op2 at q2
  split at q2
  .rename_i da db e1 e2
   exact o _ H2 v w da db _ _ R2.dom2 (R2.cont (o1.keeps f2.keeps) e1) (R2.cont o2 e2) q2 fun z H3 p q3 g ov=>k z H3 p ρ2 q3 ((f1.trans f2).trans g.fr) ((ov.out R2 g).h0 fun b z=>f2.dm b (f1.dm b z))
  .exact q2.elim
def LU (K:PySem.W.Frag) (r:V->Hp->VK->Prop) (f:D->(PV->Prop)->Prop):Prop:=∀(O:Addr->Prop) (H:Hp) (x:V) (a:D) (Q:PV->Prop) (Q':VK),(∀b,O b->H b≠none)->FVc K O H x a->f a Q ->
 (∀v H' p,Q p->Gr H H'->qi K O H H' p v->Q' v H')->r x H Q'
def op1 (f:D->(PV->Prop)->Prop) (ρ:PSt) (x:AV) (Q:PKt):Prop:=match cont ρ x with
 | some a=>f a fun p=>Q p ρ
 | _=>False
def pUn (f:D->(PV->Prop)->Prop) (pa:PA1):PTE:=fun ρ Q=>pa ρ fun x ρ1=>op1 f ρ1 x Q
theorem zb {r:V->Hp->VK->Prop}{f:D->(PV->Prop)->Prop} (o:LU K r f) (ha:LA1 K ta pa):LE K (tUn r ta) (pUn f pa):=fun A ρ σ H Q Q' R q k =>
 ha A ρ σ H _ _ R q fun v H1 a ρ1 q1 f1 R1 o1=>by
  unfold op1 at q1
  split at q1
  .rename_i da e1
   exact o _ H1 v da _ _ R1.dom2 (R1.cont o1 e1) q1 fun z H3 p q3 g ov=>k z H3 p ρ1 q3 (f1.trans g.fr) ((ov.out R1 g).h0 fun b z=>f1.dm b z)
  .exact q1.elim
inductive Ao (K:PySem.W.Frag) (O:Addr->Prop) (H:Hp):List V->List D->Prop
 | nil:Ao K O H [] []
 | cons {x:V}{d:D}{xs:List V}{ds:List D}:FVc K O H x d->Ao K O H xs ds->Ao K O H (x::xs) (d::ds)
def conts (ρ:PSt):List AV->Option (List D)
 | []=>some []
 | a::r=>match cont ρ a,conts ρ r with
  | some d,some ds=>some (d::ds)
  | _,_=>none
theorem Rel.conts {A:Addr->Prop}{ρ:PSt}{σ:St}{H:Hp} (R:Rel K A ρ σ H):∀{as:List AV}{vs:List V}{ds:List D},za K (OO A ρ σ) σ H as vs->L2.conts ρ as=some ds->Ao K (OO A ρ σ) H vs ds
 | _,_,_,.nil,e=>by cases e;exact .nil
 | _,_,_,.cons a b,e=>by
  unfold L2.conts at e
  split at e
  .rename_i e1 e2
   cases e
   exact .cons (R.cont a e1) (R.conts b e2)
  .cases e
def LC (K:PySem.W.Frag) (r:List V->Hp->VK->Prop) (f:List D->(PV->Prop)->Prop):Prop:=∀(O:Addr->Prop) (H:Hp) (xs:List V) (as:List D) (Q:PV->Prop) (Q':VK),(∀b,O b->H b≠none)->Ao K O H xs as->f as Q ->
 (∀v H' p,Q p->Gr H H'->qi K O H H' p v->Q' v H')->r xs H Q'
def opN (f:List D->(PV->Prop)->Prop) (ρ:PSt) (as:List AV) (Q:PKt):Prop:=match conts ρ as with
 | some ds=>f ds fun p=>Q p ρ
 | _=>False
def pCB (f:List D->(PV->Prop)->Prop) (pr:PTA):PTE:=fun ρ Q=>pr ρ fun as ρ1=>opN f ρ1 as Q
theorem bu {r:List V->Hp->VK->Prop}{f:List D->(PV->Prop)->Prop} (o:LC K r f) (ha:LAs K tr pr):LE K (tCB r tr) (pCB f pr):=fun A ρ σ H Q Q' R q k =>
 ha A ρ σ H _ _ R q fun vs H1 as ρ1 q1 f1 R1 o1=>by
  unfold opN at q1
  split at q1
  .rename_i ds e1
   exact o _ H1 vs ds _ _ R1.dom2 (R1.conts o1 e1) q1 fun z H3 p q3 g ov=>k z H3 p ρ1 q3 (f1.trans g.fr) ((ov.out R1 g).h0 fun b z=>f1.dm b z)
  .exact q1.elim
def avD:List AV->Option (List D)
 | []=>some []
 | .v d::r=>match avD r with | some ds=>some (d::ds) | none=>none
 | .sl _::_=>none
theorem za.avD {O:Addr->Prop}{σ:St}{H:Hp}:∀{as:List AV}{vs:List V}{ds:List D},za K O σ H as vs->L2.avD as=some ds->FVs K O H vs ds
 | _,_,_,.nil,e=>by cases e;exact .nil
 | .v d::r,_,_,.cons a b,e=>by
  simp only [L2.avD] at e
  split at e
  .rename_i e1;cases e;exact .cons a (b.avD e1)
  .cases e
 | .sl i::r,_,_,.cons a b,e=>by cases e
def fM (pr:PTA):PTE:=fun ρ Q=>pr ρ fun as ρ1=>match avD as with
 | some ds=>ds.length<=1000000/\Q (.own ds) ρ1
 | _=>False
def xS (pr:PTA):PTE:=fun ρ Q=>pr ρ fun as ρ1=>match avD as with
 | some ds=>ds.length<=1000000/\Q (.dat (.tup ds)) ρ1
 | _=>False
theorem bn (ha:LAs K tr pr):LE K (CA tr) (fM pr):=fun A ρ σ H Q Q' R q k =>
 ha A ρ σ H _ _ R q fun vs H1 as ρ1 q1 f1 R1 o1=>by
  split at q1
  .rename_i ds e1
   have fs:=o1.avD e1
   refine ⟨sz _ (by rw [fs.length];exact q1.1),fun p hp=>k _ _ (.own ds) ρ1 q1.2 (f1.trans (Fr.new hp)) ?_⟩
   have g:Gr H1 (upd H1 p (.lst vs)):=Gr.new hp
   exact (qi.out (p:=.own ds) R1 g ⟨p,vs,rfl,hp,aE,fs.keeps (aO.fresh hp)⟩).h0 fun b z=>f1.dm b z
  .exact q1.elim
theorem kr (ha:LAs K tr pr):LE K (CV tr) (xS pr):=fun A ρ σ H Q Q' R q k =>
 ha A ρ σ H _ _ R q fun vs H1 as ρ1 q1 f1 R1 o1=>by
  split at q1
  .rename_i ds e1
   have fs:=o1.avD e1
   refine ⟨sz _ (by rw [fs.length];exact q1.1),fun p hp=>k _ _ (.dat (.tup ds)) ρ1 q1.2 (f1.trans (Fr.new hp)) ⟨R1.grow hp,?_⟩⟩
   exact .tup (R1.oo hp) aE (fs.keeps (Fr.new hp).keeps)
  .exact q1.elim
def pB (pe:PTE):PTT:=fun ρ Q=>pe ρ fun p ρ1=>match p with
 | .dat (.bl b)=>Q b ρ1
 | _=>False
theorem tX (h:LE K ta pe):LT K (tB ta) (pB pe):=fun A ρ σ H Q Q' R q k=>h A ρ σ H _ _ R q fun v H1 p ρ1 q1 f1 o1=>by
 split at q1
 .rename_i b
  obtain ⟨R1,f⟩:=o1
  cases f
  exact ⟨b,rfl,k b H1 ρ1 q1 f1 R1⟩
 .exact q1.elim
theorem eV (h:LE K ta pe):LT K (hV ta) (pB pe):=tX h
def xT (a b:PTT):PTT:=fun ρ Q=>a ρ fun c ρ1=>gz c (b ρ1 Q) (Q false ρ1)
def pOr (a b:PTT):PTT:=fun ρ Q=>a ρ fun c ρ1=>gz c (Q true ρ1) (b ρ1 Q)
def xU (a:PTT):PTT:=fun ρ Q=>a ρ fun c ρ1=>Q (!c) ρ1
variable {tta ttb:TT}{pta ptb:PTT}
theorem kt (ha:LT K tta pta) (hb:LT K ttb ptb):LT K (AF tta ttb) (xT pta ptb):=fun A ρ σ H Q Q' R q k=>ha A ρ σ H _ _ R q fun c H1 ρ1 q1 f1 R1=>by
 cases c with
 | true=>exact hb A ρ1 σ H1 _ _ R1 q1 fun b H2 ρ2 q2 f2 R2=>k b H2 ρ2 q2 (f1.trans f2) R2
 | false=>exact k false H1 ρ1 q1 f1 R1
theorem u6 (ha:LT K tta pta) (hb:LT K ttb ptb):LT K (tOr tta ttb) (pOr pta ptb):=fun A ρ σ H Q Q' R q k=>ha A ρ σ H _ _ R q fun c H1 ρ1 q1 f1 R1=>by
 cases c with
 | false=>exact hb A ρ1 σ H1 _ _ R1 q1 fun b H2 ρ2 q2 f2 R2=>k b H2 ρ2 q2 (f1.trans f2) R2
 | true=>exact k true H1 ρ1 q1 f1 R1
theorem ku (ha:LT K tta pta):LT K (DD tta) (xU pta):=fun A ρ σ H Q Q' R q k=>ha A ρ σ H _ _ R q fun c H1 ρ1 q1 f1 R1=>k _ H1 ρ1 q1 f1 R1
def sW (a b:PTE):PTE:=fun ρ Q=>a ρ fun p ρ1=>match p with
 | .dat (.bl c)=>gz c (b ρ1 Q) (Q (.dat (.bl false)) ρ1)
 | _=>False
def zc (a:PTE):PTE:=fun ρ Q=>a ρ fun p ρ1=>match p with
 | .dat (.bl c)=>Q (.dat (.bl (!c))) ρ1
 | _=>False
theorem pq (ha:LE K ta pe) (hb:LE K tb pe'):LE K (AG ta tb) (sW pe pe'):=fun A ρ σ H Q Q' R q k=>ha A ρ σ H _ _ R q fun v H1 p ρ1 q1 f1 o1=>by
 split at q1
 .rename_i c
  obtain ⟨R1,f⟩:=o1
  cases f
  refine ⟨c,rfl,?_⟩
  cases c with
  | true=>exact hb A ρ1 σ H1 _ _ R1 q1 fun b H2 p2 ρ2 q2 f2 o2=>k b H2 p2 ρ2 q2 (f1.trans f2) (o2.h0 fun b z=>f1.dm b z)
  | false=>exact k _ H1 _ ρ1 q1 f1 ⟨R1,.bl false⟩
 .exact q1.elim
theorem xV (ha:LE K ta pe):LE K (AH ta) (zc pe):=fun A ρ σ H Q Q' R q k=>ha A ρ σ H _ _ R q fun v H1 p ρ1 q1 f1 o1=>by
 split at q1
 .rename_i c
  obtain ⟨R1,f⟩:=o1
  cases f
  exact ⟨c,rfl,k _ H1 _ ρ1 q1 f1 ⟨R1,.bl (!c)⟩⟩
 .exact q1.elim
def pIf (t:PTT) (a b:PTE):PTE:=fun ρ Q=>t ρ fun c ρ1=>gz c (a ρ1 Q) (b ρ1 Q)
theorem Dc (ht:LT K tta pta) (ha:LE K ta pe) (hb:LE K tb pe'):LE K (tIf tta ta tb) (pIf pta pe pe'):=fun A ρ σ H Q Q' R q k=>ht A ρ σ H _ _ R q fun c H1 ρ1 q1 f1 R1=>by
 cases c with
 | true=>exact ha A ρ1 σ H1 _ _ R1 q1 fun b H2 p2 ρ2 q2 f2 o2=>k b H2 p2 ρ2 q2 (f1.trans f2) (o2.h0 fun b z=>f1.dm b z)
 | false=>exact hb A ρ1 σ H1 _ _ R1 q1 fun b H2 p2 ρ2 q2 f2 o2=>k b H2 p2 ρ2 q2 (f1.trans f2) (o2.h0 fun b z=>f1.dm b z)
end
abbrev F2:=D->D->(PV->Prop)->Prop
def fI0 (g:Int->Int->D):F2
 | .int i,.int j,Q=>Q (.dat (g i j))
 | _,_,_=>False
def fI (C:Int->Int->Prop) (g:Int->Int->D):F2
 | .int i,.int j,Q=>C i j/\Q (.dat (g i j))
 | _,_,_=>False
section
variable {K:PySem.W.Frag}{X:Cx}
theorem zd {g:Int->Int->V}{g':Int->Int->D} (h:∀i j O H,FV K O H (g i j) (g' i j)):LO K (rI0 g) (fI0 g'):=by
 intro O H x y a b Q Q' dom fx fy q k
 unfold fI0 at q
 split at q
 .rename_i i j;exact ⟨i,j,fx.int,fy.int,k _ H _ q (Gr.refl _) (h i j _ _)⟩
 .exact q.elim
theorem Dd {C:Int->Int->Prop}{g:Int->Int->V}{g':Int->Int->D} (h:∀i j O H,FV K O H (g i j) (g' i j)):LO K (rI C g) (fI C g'):=by
 intro O H x y a b Q Q' dom fx fy q k
 unfold fI at q
 split at q
 .rename_i i j;exact ⟨i,j,fx.int,fy.int,q.1,k _ H _ q.2 (Gr.refl _) (h i j _ _)⟩
 .exact q.elim
theorem eO {O:Addr->Prop}{H:Hp}{xs:List V}{ds:List D}{p:Addr} (hp:H p=none) (f:FVs K O H xs ds):qi K O H (upd H p (.lst xs)) (.own ds) (.ref p) :=
 ⟨p,xs,rfl,hp,aE,f.keeps (aO.fresh hp)⟩
theorem kv {O:Addr->Prop}{H:Hp}{xs:List V}{ds:List D}{p:Addr} (dom:∀b,O b->H b≠none) (hp:H p=none) (f:FVs K O H xs ds):qi K O H (upd H p (.tup xs)) (.dat (.tup ds)) (.ref p) :=
 .tup (fun z=>dom p z hp) aE (f.keeps fun b o n e=>⟨n,by rw [au (aW e hp)];exact e⟩)
def De:R2:=fun x y H Q=>∃i j,x=.str (S i)/\y=.str (S j)/\i.length + j.length<=sizeLine/\Q (.str (S (i++j))) H
def ze (K:PySem.W.Frag):R2:=fun x y H Q=>rI0 (fun i j=>.int (i + j)) x y H Q\/De x y H Q\/Bm K x y H Q\/AZ K x y H Q
theorem Df (K:PySem.W.Frag) (e:X.K=K):OpR X (binaryOp .Add) (ze K):=by
 subst e
 exact OpR.or AN (OpR.or yS (OpR.or yW yJ))
def Dg:F2
 | .int i,.int j,Q=>Q (.dat (.int (i + j)))
 | .str a,.str b,Q=>a.length + b.length<=1000000/\Q (.dat (.str (a++b)))
 | .lst a,.lst b,Q=>a.length + b.length<=1000000/\Q (.own (a++b))
 | .scr a,.lst b,Q=>a.length + b.length<=1000000/\Q (.own (a.map .int++b))
 | .tup a,.tup b,Q=>a≠[]/\a.length + b.length<=1000000/\Q (.dat (.tup (a++b)))
 | _,_,_=>False
theorem xW:LO K (ze K) Dg:=by
 intro O H x y a b Q Q' dom fx fy q k
 unfold Dg at q
 split at q
 .rename_i i j;exact .inl ⟨i,j,fx.int,fy.int,k _ H _ q (Gr.refl _) (.int _)⟩
 .rename_i i j;exact .inr (.inl ⟨i,j,fx.str.1,fy.str.1,sz _ q.1,k _ H _ q.2 (Gr.refl _) (.str _ (by rw [List.length_append];exact q.1))⟩)
 .rename_i i j
  obtain ⟨a,xs,rfl,e1,f1⟩:=fx.lst
  obtain ⟨b,ys,rfl,e2,f2⟩:=fy.lst
  exact .inr (.inr (.inl ⟨a,b,xs,ys,rfl,rfl,SqL.of e1,SqL.of e2,sz _ (by rw [f1.length,f2.length];exact q.1),fun p hp=>k _ _ _ q.2 (Gr.new hp) (eO hp (f1.append f2))⟩))
 .rename_i i j
  obtain ⟨a,rfl,e1⟩:=fx.scr
  obtain ⟨b,ys,rfl,e2,f2⟩:=fy.lst
  exact .inr (.inr (.inl ⟨a,b,_,ys,rfl,rfl,e1,SqL.of e2,sz _ (by rw [List.length_map,f2.length];exact q.1),fun p hp=>k _ _ _ q.2 (Gr.new hp) (eO hp ((FVs.of_ints i).append f2))⟩))
 .rename_i i j
  obtain ⟨a,xs,rfl,n1,e1,f1⟩:=fx.tup
  obtain ⟨b,ys,rfl,n2,e2,f2⟩:=fy.tup
  have l1:=f1.length
  have l2:=f2.length
  refine .inr (.inr (.inr ⟨a,b,xs,ys,rfl,rfl,SqT.of e1,SqT.of e2,fun z=>q.1 ?_,sz _ (by rw [l1,l2];exact q.2.1),fun z=>?_,fun _ p hp=>k _ _ _ q.2.2 (Gr.new hp) (kv dom hp (f1.append f2))⟩))
  .exact List.length_eq_zero_iff.mp (by rw [<- l1,z];rfl)
  .have:j=[]:=List.length_eq_zero_iff.mp (by rw [<- l2,z];rfl)
   subst this
   exact k _ H _ q.2.2 (Gr.refl _) (by rw [List.append_nil];exact .tup n1 e1 f1)
 .exact q.elim
theorem iw:LO K (rI0 fun i j=>.int (i - j)) (fI0 fun i j=>.int (i - j)):=zd fun _ _ _ _=>.int _
theorem bb:LO K (rI (fun _ j=>0 < j) fun i j=>.int (i % j)) (fI (fun _ j=>0 < j) fun i j=>.int (i % j)):=Dd fun _ _ _ _=>.int _
theorem i8:LO K (rI CM fun i j=>.int (i / j)) (fI (fun _ j=>0 < j/\j < 1073741824) fun i j=>.int (i / j)):=Dd fun _ _ _ _=>.int _
theorem xX:LO K (rI CN fun i j=>.int (i ^ j.toNat)) (fI (fun i j=>0<=j/\j<=1000000/\i.natAbs < 2 ^ 64) fun i j=>.int (i ^ j.toNat)):=Dd fun _ _ _ _=>.int _
def Dh:R2:=fun x y H Q=>∃l n,x=.str (S l)/\y=.int n/\-1000000<=n/\n<=1000000/\n.toNat * l.length<=sizeLine/\Q (.str (S (ke l n))) H
def wW:R2:=fun x y H Q=>rI Cy (fun i j=>.int (i * j)) x y H Q\/Dh x y H Q\/DQ x y H Q
theorem ib:OpR X (binaryOp .Mult) wW:=OpR.or AQ (OpR.or sL A5)
def px:F2
 | .int i,.int j,Q=>((-(2 ^ 64) < i/\i < 2 ^ 64)\/(-(2 ^ 64) < j/\j < 2 ^ 64))/\Q (.dat (.int (i * j)))
 | .str a,.int n,Q=>(-1000000<=n/\n<=1000000/\n.toNat * a.length<=1000000)/\Q (.dat (.str (ke a n)))
 | .lst a,.int n,Q=>(-1000000<=n/\n<=1000000/\a.length * n.toNat<=1000000)/\Q (.own (ke a n))
 | _,_,_=>False
theorem FVs.rep {O:Addr->Prop}{H:Hp}{xs:List V}{ds:List D} (f:FVs K O H xs ds):∀n,FVs K O H (List.replicate n xs).flatten (List.replicate n ds).flatten
 | 0=>.nil
 | n + 1=>by rw [List.replicate_succ,List.replicate_succ,List.flatten_cons,List.flatten_cons];exact f.append (f.rep n)
theorem dY:LO K wW px:=by
 intro O H x y a b Q Q' dom fx fy q k
 unfold px at q
 split at q
 .rename_i i j;exact .inl ⟨i,j,fx.int,fy.int,q.1,k _ H _ q.2 (Gr.refl _) (.int _)⟩
 .rename_i i j;exact .inr (.inl ⟨i,j,fx.str.1,fy.int,q.1.1,q.1.2.1,sz _ q.1.2.2,k _ H _ q.2 (Gr.refl _) (.str _ (by rw [e7];exact q.1.2.2))⟩)
 .rename_i i j
  obtain ⟨a,xs,rfl,e1,f1⟩:=fx.lst
  exact .inr (.inr ⟨a,j,xs,rfl,fy.int,e1,by omega,by omega,sz _ (by rw [f1.length];exact q.1.2.2),fun p hp=>k _ _ _ q.2 (Gr.new hp) (eO hp (f1.rep _))⟩)
 .exact q.elim
def CC:R2:=fun x y H Q=>rI0 (fun i j=>.bl (decide (i < j))) x y H Q\/∃i j,x=.str i/\y=.str j/\Q (.bl (decide (i.cps.toList < j.cps.toList))) H
def CD:R2:=fun x y H Q=>rI0 (fun i j=>.bl (decide (i<=j))) x y H Q\/∃i j,x=.str i/\y=.str j/\Q (.bl (!decide (j.cps.toList < i.cps.toList))) H
theorem Bv:OpR X (compareOp .Lt) CC:=OpR.or CQ uk
theorem CF:OpR X (compareOp .LtE) CD:=OpR.or CS uJ
def fLt:F2
 | .int i,.int j,Q=>Q (.dat (.bl (decide (i < j))))
 | .str i,.str j,Q=>Q (.dat (.bl (decide (i < j))))
 | _,_,_=>False
def fLe:F2
 | .int i,.int j,Q=>Q (.dat (.bl (decide (i<=j))))
 | .str i,.str j,Q=>Q (.dat (.bl (!decide (j < i))))
 | _,_,_=>False
theorem u7:LO K CC fLt:=by
 intro O H x y a b Q Q' dom fx fy q k
 unfold fLt at q
 split at q
 .rename_i i j;exact .inl ⟨i,j,fx.int,fy.int,k _ H _ q (Gr.refl _) (.bl _)⟩
 .rename_i i j;exact .inr ⟨_,_,fx.str.1,fy.str.1,k _ H _ q (Gr.refl _) (.bl _)⟩
 .exact q.elim
theorem wX:LO K CD fLe:=by
 intro O H x y a b Q Q' dom fx fy q k
 unfold fLe at q
 split at q
 .rename_i i j;exact .inl ⟨i,j,fx.int,fy.int,k _ H _ q (Gr.refl _) (.bl _)⟩
 .rename_i i j;exact .inr ⟨_,_,fx.str.1,fy.str.1,k _ H _ q (Gr.refl _) (.bl _)⟩
 .exact q.elim
theorem sX:LO K (rI0 fun i j=>.bl (decide (j < i))) (fI0 fun i j=>.bl (decide (j < i))):=zd fun _ _ _ _=>.bl _
theorem Bw:LO K (rI0 fun i j=>.bl (decide (j<=i))) (fI0 fun i j=>.bl (decide (j<=i))):=zd fun _ _ _ _=>.bl _
mutual
def D.py:D->PyData
 | .non=>.none | .bl b=>.bool b | .int i=>.int i | .str l=>.str (S l) | .ty _=>.none
 | .lst ds=>.list (D.pys ds) | .tup ds=>.tuple (D.pys ds) | .scr ns=>.list (ns.map .int) | .dic _ _=>.none | .obj _ _ _=>.none | .exc _ _ _=>.none
def D.pys:List D->List PyData
 | []=>[]
 | d::r=>d.py::D.pys r
end
mutual
def D.plain:D->Bool
 | .non=>true | .bl _=>true | .int _=>true | .str _=>true | .ty _=>false
 | .lst ds=>D.plains ds | .tup ds=>D.plains ds | .scr _=>true | .dic _ _=>false | .obj _ _ _=>false | .exc _ _ _=>false
def D.plains:List D->Bool
 | []=>true
 | d::r=>d.plain && D.plains r
end
mutual
theorem FV.dv {O:Addr->Prop}{H:Hp}:∀{v:V}{d:D},FV K O H v d->d.plain=true->DV K H v d.py
 | _,_,.non,_=>.non
 | _,_,.bl b,_=>.bl b
 | _,_,.int i,_=>.int i
 | _,_,.str l h,_=>.str (S l)
 | _,_,.ty n,p=>nomatch p
 | _,_,.scr s,_=>.lst s.sq (DVs.ints _)
 | _,_,.lst n e f,p=>.lst (SqL.of e) (FVs.dvs f p)
 | _,_,.tup n e f,p=>.tup (SqT.of e) (FVs.dvs f p)
 | _,_,.dic _ _ _ _,p=>nomatch p
 | _,_,.obj _ _ _ _,p=>nomatch p
 | _,_,.exc0 _ _,p=>nomatch p
 | _,_,.exc1 _ _ _ _ _ _,p=>nomatch p
theorem FVs.dvs {O:Addr->Prop}{H:Hp}:∀{vs:List V}{ds:List D},FVs K O H vs ds->D.plains ds=true->DVs K H vs (D.pys ds)
 | _,_,.nil,_=>.nil
 | _,_,.cons a b,p=>by
  have p:(_ && _)=true:=p
  rw [Bool.and_eq_true] at p
  exact .cons (FV.dv a p.1) (FVs.dvs b p.2)
end
theorem FVc.dv {O:Addr->Prop}{H:Hp}{v:V}{d:D} (h:FVc K O H v d) (p:d.plain=true):DV K H v d.py:=by
 rcases h with h | ⟨a,xs,ds',rfl,rfl,e3,f⟩ | ⟨a,dx,c,fs,ns,ds',e1,rfl,_⟩
 .exact h.dv p
 .exact .lst (SqL.of e3) (f.dvs p)
 .cases p
def Bx (K:PySem.W.Frag) (neg:Bool):R2:=fun x y H Q=>rI0 (fun i j=>.bl (if neg then !decide (i=j) else decide (i=j))) x y H Q\/(∃i j,x=.str (S i)/\y=.str (S j)/\Q (.bl (if neg then !decide (i=j) else decide (i=j))) H)\/C2 K neg x y H Q
theorem Ej (K:PySem.W.Frag) (e:X.K=K) (hu:X.A.units + 64 < cLine):OpR X (compareOp .Eq) (Bx K false):=by
 subst e
 exact OpR.or Bh (OpR.or Bf (Bc hu))
theorem Ek (K:PySem.W.Frag) (e:X.K=K) (hu:X.A.units + 64 < cLine):OpR X (compareOp .NotEq) (Bx K true):=by
 subst e
 exact OpR.or Bi (OpR.or Bg (Bd hu))
def pz (a b:D):Prop:=a.plain=true/\b.plain=true/\SeqAt.shaped a.py=true/\SeqAt.shaped b.py=true
def deq (a b:D):Bool:=PyData.eqv a.py b.py
def fEq:F2
 | .int i,.int j,Q=>Q (.dat (.bl (decide (i=j))))
 | .str i,.str j,Q=>Q (.dat (.bl (decide (i=j))))
 | a,b,Q=>pz a b/\Q (.dat (.bl (deq a b)))
def fNe:F2
 | .int i,.int j,Q=>Q (.dat (.bl (!decide (i=j))))
 | .str i,.str j,Q=>Q (.dat (.bl (!decide (i=j))))
 | a,b,Q=>pz a b/\Q (.dat (.bl (!deq a b)))
theorem Di:LO K (Bx K false) fEq:=by
 intro O H x y a b Q Q' dom fx fy q k
 unfold fEq at q
 split at q
 .rename_i i j;exact .inl ⟨i,j,fx.int,fy.int,k _ H _ q (Gr.refl _) (.bl _)⟩
 .rename_i i j;exact .inr (.inl ⟨i,j,fx.str.1,fy.str.1,k _ H _ q (Gr.refl _) (.bl _)⟩)
 .exact .inr (.inr ⟨_,_,fx.dv q.1.1,fy.dv q.1.2.1,q.1.2.2.1,q.1.2.2.2,k _ H _ q.2 (Gr.refl _) (.bl _)⟩)
theorem Dj:LO K (Bx K true) fNe:=by
 intro O H x y a b Q Q' dom fx fy q k
 unfold fNe at q
 split at q
 .rename_i i j;exact .inl ⟨i,j,fx.int,fy.int,k _ H _ q (Gr.refl _) (.bl _)⟩
 .rename_i i j;exact .inr (.inl ⟨i,j,fx.str.1,fy.str.1,k _ H _ q (Gr.refl _) (.bl _)⟩)
 .exact .inr (.inr ⟨_,_,fx.dv q.1.1,fy.dv q.1.2.1,q.1.2.2.1,q.1.2.2.2,k _ H _ q.2 (Gr.refl _) (.bl _)⟩)
def By (neg:Bool):R2:=fun x y H Q=>(∃b c,x=.bl b/\y=.bl c/\Q (.bl (if neg then !decide (b=c) else decide (b=c))) H)\/(y=.non/\Q (.bl (if neg then !decide (x=.non) else decide (x=.non))) H)
theorem Dl:OpR X (compareOp .Is) (By false):=OpR.or Bp AT
theorem m8:OpR X (compareOp .IsNot) (By true):=OpR.or uX yz
def D.isNon:D->Bool
 | .non=>true
 | _=>false
theorem FVc.isNon {O:Addr->Prop}{H:Hp}{v:V}{d:D} (h:FVc K O H v d):decide (v=.non)=d.isNon:=by
 rcases h with h | ⟨a,xs,ds',rfl,rfl,e3,f⟩ | ⟨a,dx,c,fs,ns,ds',rfl,rfl,_⟩
 .cases h <;> rfl
 .rfl
 .rfl
def fIs (neg:Bool):F2
 | .bl b,.bl c,Q=>Q (.dat (.bl (if neg then !decide (b=c) else decide (b=c))))
 | a,.non,Q=>Q (.dat (.bl (if neg then !a.isNon else a.isNon)))
 | _,_,_=>False
theorem qu {neg:Bool}:LO K (By neg) (fIs neg):=by
 intro O H x y a b Q Q' dom fx fy q k
 unfold fIs at q
 split at q
 .rename_i b c;exact .inl ⟨b,c,fx.bl,fy.bl,k _ H _ q (Gr.refl _) (.bl _)⟩
 .exact .inr ⟨fy.non,by rw [fx.isNon];exact k _ H _ q (Gr.refl _) (.bl _)⟩
 .exact q.elim
def D.fl:D->Bool
 | .non=>true | .bl _=>true | .int _=>true | .str _=>true
 | _=>false
def eqF:D->D->Bool
 | .non,.non=>true
 | .bl a,.bl b=>a == b
 | .bl a,.int b=>(if a then 1 else 0) == b
 | .int a,.bl b=>a == (if b then 1 else 0)
 | .int a,.int b=>a == b
 | .str a,.str b=>a == b
 | _,_=>false
def inD (x:D) (xs:List D):Bool:=xs.any fun y=>eqF y x
theorem FV.fl {O:Addr->Prop}{H:Hp}{v:V}{d:D} (h:FV K O H v d) (f:d.fl=true):lB v=true:=by cases h <;> first | rfl | cases f
theorem Bz (a b:List Nat):(S a == S b)=(a == b):=by
 by_cases h:a=b
 .subst h;rw [beq_self_eq_true,beq_self_eq_true]
 .rw [beq_eq_false_iff_ne.mpr h,beq_eq_false_iff_ne.mpr (Eg h)]
theorem FV.eqF {O:Addr->Prop}{H:Hp}{v w:V}{d e:D} (h:FV K O H v d) (f:d.fl=true) (h':FV K O H w e) (f':e.fl=true):eqV v w=L2.eqF d e:=by
 cases h <;> first | (cases f;done) | (cases h' <;> first | (cases f';done) | rfl | exact Bz _ _)
theorem FVs.inD {O:Addr->Prop}{H:Hp}{v:V}{d:D} (h:FV K O H v d) (f:d.fl=true):∀{xs:List V}{ds:List D},FVs K O H xs ds->ds.all D.fl=true->xs.all lB=true/\inV v xs=L2.inD d ds
 | _,_,.nil,_=>⟨rfl,rfl⟩
 | _,_,.cons a b,g=>by
  rw [List.all_cons,Bool.and_eq_true] at g
  obtain ⟨i1,i2⟩:=b.inD h f g.2
  refine ⟨by rw [List.all_cons,a.fl g.1,i1];rfl,?_⟩
  unfold inV L2.inD at i2 ⊢
  rw [List.any_cons,List.any_cons,i2,a.eqF g.1 h f]
def fIn (neg:Bool):F2
 | a,.lst ds,Q=>(a.fl=true/\ds.all D.fl=true)/\Q (.dat (.bl (if neg then !inD a ds else inD a ds)))
 | a,.tup ds,Q=>(a.fl=true/\ds.all D.fl=true)/\Q (.dat (.bl (if neg then !inD a ds else inD a ds)))
 | _,_,_=>False
theorem FVc.fl {O:Addr->Prop}{H:Hp}{v:V}{d:D} (h:FVc K O H v d) (f:d.fl=true):FV K O H v d:=h.fv (fun _ z=>by rw [z] at f;cases f) (fun _ _ _ z=>by rw [z] at f;cases f)
theorem El (K:PySem.W.Frag) (e:X.K=K):OpR X (compareOp .In) (rIn K false):=by subst e;exact uB
theorem zf (K:PySem.W.Frag) (e:X.K=K):OpR X (compareOp .NotIn) (rIn K true):=by subst e;exact oJ
theorem BA {neg:Bool}:LO K (rIn K neg) (fIn neg):=by
 intro O H x y a b Q Q' dom fx fy q k
 unfold fIn at q
 split at q
 .obtain ⟨p,xs,rfl,e1,f1⟩:=fy.lst
  obtain ⟨g1,g2⟩:=f1.inD (fx.fl q.1.1) q.1.1 q.1.2
  exact ⟨p,xs,rfl,.inl (SqL.of e1),(fx.fl q.1.1).fl q.1.1,g1,by rw [g2];exact k _ H _ q.2 (Gr.refl _) (.bl _)⟩
 .obtain ⟨p,xs,rfl,n1,e1,f1⟩:=fy.tup
  obtain ⟨g1,g2⟩:=f1.inD (fx.fl q.1.1) q.1.1 q.1.2
  exact ⟨p,xs,rfl,.inr (SqT.of e1),(fx.fl q.1.1).fl q.1.1,g1,by rw [g2];exact k _ H _ q.2 (Gr.refl _) (.bl _)⟩
 .exact q.elim
def kx (K:PySem.W.Frag):R2:=fun x y H Q=>DL K x y H Q\/DM K x y H Q\/Be x y H Q
theorem dz (K:PySem.W.Frag) (e:X.K=K):IxR X (kx K):=by
 subst e
 exact IxR.or yM (IxR.or A0 yR)
def fIx:F2
 | .lst ds,.int i,Q=>∃d,atI ds i=some d/\Q (.dat d)
 | .tup ds,.int i,Q=>∃d,atI ds i=some d/\Q (.dat d)
 | .scr ns,.int i,Q=>∃d,atI ns i=some d/\Q (.dat (.int d))
 | .str l,.int i,Q=>∃c,atI l i=some c/\Q (.dat (.str [c]))
 | _,_,_=>False
theorem FVs.atI {O:Addr->Prop}{H:Hp}{vs:List V}{ds:List D}{i:Int}{d:D} (f:FVs K O H vs ds) (h:L2.atI ds i=some d):∃v,L2.atI vs i=some v/\FV K O H v d:=by
 unfold L2.atI at h ⊢
 rw [f.length]
 cases e:ixN ds.length i with
 | none=>rw [e] at h;cases h
 | some j=>rw [e] at h;exact f.getD h
theorem bD:LO K (kx K) fIx:=by
 intro O H x y a b Q Q' dom fx fy q k
 unfold fIx at q
 split at q
 .obtain ⟨d,hd,q⟩:=q
  obtain ⟨p,xs,rfl,e1,f1⟩:=fx.lst
  obtain ⟨v,hv,fv⟩:=f1.atI hd
  exact .inl ⟨p,xs,_,v,rfl,fy.int,SqL.of e1,hv,k _ H _ q (Gr.refl _) fv⟩
 .obtain ⟨d,hd,q⟩:=q
  obtain ⟨p,xs,rfl,n1,e1,f1⟩:=fx.tup
  obtain ⟨v,hv,fv⟩:=f1.atI hd
  exact .inr (.inl ⟨p,xs,_,v,rfl,fy.int,SqT.of e1,hv,k _ H _ q (Gr.refl _) fv⟩)
 .obtain ⟨d,hd,q⟩:=q
  obtain ⟨p,rfl,e1⟩:=fx.scr
  exact .inl ⟨p,_,_,_,rfl,fy.int,e1,yT hd,k _ H _ q (Gr.refl _) (.int d)⟩
 .obtain ⟨c,hc,q⟩:=q
  exact .inr (.inr ⟨_,_,c,fx.str.1,fy.int,sz _ fx.str.2,hc,k _ H _ q (Gr.refl _) (.str _ (by show 1<=1000000;decide))⟩)
 .exact q.elim
end
end L2
namespace L2
open PySem PySem.Spec PyProof.Rows _root_.HT
section
variable {prog:Program}{w:World}{A:Around}{E:Value->Shared->Prop}{s:Shared}
theorem i9 {t sl:Addr}{items:Array Value}{vl vu:Value}{lo hi:Option Int}{Q:Value->Shared->Prop} (ht:IsTup s.heap t items) (hs:s.heap.IsSliceOf sl vl vu .none) (pl:IsPart vl lo) (pu:IsPart vu hi)
  (hw:sIx items.size 0 lo=0/\sIx items.size items.size hi=items.size)
  (h:Q (.ref t) s):wpAny (model prog w) A (getItem (.ref t) (.ref sl)) Q E s:=by
 obtain ⟨os,hos,hcs,hds⟩:=id hs
 have hTs:s.TypeIs (.ref sl) "slice":=⟨os,hos,hcs⟩
 unfold getItem
 try with_reducible refine wpAny_holding ?_
 first | refine wpAny_bind (wpAny_pure ?_) | skip
 refine wpAny_bind (wpAny_sequenceKey ht.typeIs (by decide) ?_)
 refine wpAny_bind (wpAny_callSpecial?_slot (name:=Str.ofString "__getitem__") ht.typeIs PyProof.Rows.slot_tuple_getitem
  (wpAny_call_entry PyProof.Rows.slot_tuple_getitem ht.typeIs entry_tuple_getitem ?_ (args_tuple_getitem _ _)))
 show wpAny _ _ (Builtin.Tuple.tupleItemsOf (.ref t) >>= _) _ _ s
 refine wpAny_bind (tupleItemsOf_ ht ?_)
 refine wpAny_bind (wpAny_typeOf hTs ?_)
 rw [if_pos (by decide)]
 refine wpAny_bind (fE hs pl pu ?_)
 have hyes:(((sIx items.size 0 lo:Nat):Int) == 0 && (1:Int) == 1 && (sIx items.size items.size hi - sIx items.size 0 lo) == items.size)=true:=by
  rw [hw.1,hw.2,Nat.sub_zero];simp
 show wpAny _ _ (if (((sIx items.size 0 lo:Nat):Int) == 0 && (1:Int) == 1 && (sIx items.size items.size hi - sIx items.size 0 lo) == items.size)=true then _ else _) _ _ s
 rw [if_pos hyes]
 refine wpAny_bind (m:=Builtin.Tuple.tupleIsExact _) (wpAny_bind (wpAny_typeOf ht.typeIs (wpAny_pure ?_)))
 rw [if_pos (by decide)]
 first
  | exact wpAny_bind (m:=rule _) (wpAny_pure (wpAny_pure ⟨_,rfl,wpAny_pure h⟩))
  | exact wpAny_pure ⟨_,rfl,wpAny_pure h⟩
  | exact wpAny_bind (wpAny_rule (wpAny_pure ⟨_,rfl,wpAny_pure h⟩))
def BB (K:PySem.W.Frag):V->Option Int->Option Int->Hp->VK->Prop:=fun x lo hi H Q=>∃a xs,x=.ref a/\SqT K H a xs/\(sIx xs.length 0 lo=0/\sIx xs.length xs.length hi=xs.length)/\Q (.ref a) H
theorem zg {X:Cx}:SlR X (BB X.K):=by
 intro pins s σ H x v vl vu lo hi sl Q I rx hs pl pu h
 obtain ⟨a,xs,rfl,hx,hw,q⟩:=h
 cases rx
 obtain ⟨its,r,ht,hz⟩:=I.tuple hx
 have hlen:its.toArray.size=xs.length:=by rw [List.size_toArray];exact r.length.symm
 refine ⟨"tuple",_,PyProof.Rows.slot_tuple_getitem.lookup,ht.typeIs,?_⟩
 exact i9 ht hs pl pu (by rw [hlen];exact hw) ⟨.ref a,H,I,rfl,q⟩
end
end L2
namespace L2
open PySem PySem.Spec PyProof.Rows
section
variable {K:PySem.W.Frag}{X:Cx}{ta tb tc to:TE}{pa pb pc:PA1}{pe:PTE}{tr:TA}{pr:PTA}
def u8 (f f':F2) (pa pb pc:PA1):PTE:=fun ρ Q=>pa ρ fun x ρ1=>pb ρ1 fun y ρ2=>op2 f ρ2 x y fun p ρ3=>match p with
 | .dat (.bl k)=>gz k (pc ρ3 fun z ρ4=>op2 f' ρ4 y z Q) (Q (.dat (.bl false)) ρ3)
 | _=>False
theorem rM {r r':R2}{f f':F2} (o:LO K r f) (o':LO K r' f') (ha:LA1 K ta pa) (hb:LA1 K tb pb) (hc:LA1 K tc pc):LE K (rA r r' ta tb tc) (u8 f f' pa pb pc):=fun A ρ σ H Q Q' R q k =>
 ha A ρ σ H _ _ R q fun v H1 a ρ1 q1 f1 R1 o1=>hb A ρ1 σ H1 _ _ R1 q1 fun w H2 b ρ2 q2 f2 R2 o2=>by
  unfold op2 at q2
  split at q2
  .rename_i da db e1 e2
   refine o _ H2 v w da db _ _ R2.dom2 (R2.cont (o1.keeps f2.keeps) e1) (R2.cont o2 e2) q2 fun z H3 p q3 g ov=>?_
   dsimp only at q3
   split at q3
   .rename_i c
    cases ov
    refine ⟨c,rfl,?_⟩
    have R3:=R2.gr g
    cases c with
    | true =>
     refine hc A ρ2 σ H3 _ _ R3 q3 fun u H4 cc ρ4 q4 f4 R4 o4=>?_
     try unfold op2 at q4
     split at q4
     .rename_i dc dd e3 e4
      have o2':AOk K (OO A ρ4 σ) σ H4 b w:=(o2.keeps (g.fr (ρ:=ρ2) (σ:=σ)).keeps).keeps f4.keeps
      exact o' _ H4 w u _ _ _ _ R4.dom2 (R4.cont o2' e3) (R4.cont o4 e4) q4 fun z H5 p q5 g5 ov=>k z H5 p ρ4 q5 ((((f1.trans f2).trans g.fr).trans f4).trans g5.fr) ((ov.out R4 g5).h0 fun b z=>f4.dm b ((g.fr (ρ:=ρ2) (σ:=σ)).dm b (f2.dm b (f1.dm b z))))
     .exact q4.elim
    | false=>exact k _ H3 _ ρ2 q3 ((f1.trans f2).trans g.fr) ⟨R3,.bl false⟩
   .exact q3.elim
  .exact q2.elim
abbrev PTO:=PSt->(Option Int->PSt->Prop)->Prop
def LPo (K:PySem.W.Frag) (t:TO) (p:PTO):Prop:=∀(A:Addr->Prop) (ρ:PSt) (σ:St) (H:Hp) (Q:Option Int->PSt->Prop) (Q':Option Int->Hp->Prop),Rel K A ρ σ H->p ρ Q ->
 (∀b H' ρ',Q b ρ'->Fr ρ σ H ρ' H'->Rel K A ρ' σ H'->Q' b H')->t σ H Q'
def jz:PTO:=fun ρ Q=>Q none ρ
def gN (pe:PTE):PTO:=fun ρ Q=>pe ρ fun p ρ1=>match p with
 | .dat (.int i)=>Q (some i) ρ1
 | _=>False
theorem fc:LPo K uy jz:=fun A ρ σ H Q Q' R q k=>k none H ρ q (Fr.refl _ _ _) R
theorem dG (h:LE K ta pe):LPo K (AX ta) (gN pe):=fun A ρ σ H Q Q' R q k=>h A ρ σ H _ _ R q fun v H1 p ρ1 q1 f1 o1=>by
 split at q1
 .rename_i i
  obtain ⟨R1,f⟩:=o1
  cases f
  exact ⟨i,rfl,k _ H1 ρ1 q1 f1 R1⟩
 .exact q1.elim
def Dm (K:PySem.W.Frag):V->Option Int->Option Int->Hp->VK->Prop:=fun x lo hi H Q=>DN K x lo hi H Q\/DR x lo hi H Q\/DK K x lo hi H Q\/BB K x lo hi H Q
theorem xY (K:PySem.W.Frag) (e:X.K=K):SlR X (Dm K):=by
 subst e
 exact SlR.or yN (SlR.or Ba (SlR.or AY zg))
def fSl:D->Option Int->Option Int->(PV->Prop)->Prop
 | .lst ds,lo,hi,Q=>Q (.own (e6 ds lo hi))
 | .scr ns,lo,hi,Q=>Q (.own ((e6 ns lo hi).map .int))
 | .str l,lo,hi,Q=>Q (.dat (.str (e6 l lo hi)))
 | .tup ds,lo,hi,Q=>Q (.dat (.tup (e6 ds lo hi)))
 | _,_,_,_=>False
theorem FVs.cut {O:Addr->Prop}{H:Hp}{xs:List V}{ds:List D} (f:FVs K O H xs ds) (lo hi:Option Int):FVs K O H (e6 xs lo hi) (e6 ds lo hi):=by
 unfold e6
 rw [f.length]
 exact (f.drop _).take _
def iy (pa:PA1) (pl ph:PTO):PTE:=fun ρ Q=>pa ρ fun x ρ1=>pl ρ1 fun lo ρ2=>ph ρ2 fun hi ρ3=>match cont ρ3 x with
 | some d=>fSl d lo hi fun p=>Q p ρ3
 | _=>False
theorem zh {α:Type}{ds:List α}{lo hi:Option Int}{n:Nat} (h:n=ds.length) (hw:HT.sIx n 0 lo=0/\HT.sIx n n hi=n):e6 ds lo hi=ds:=by
 subst h
 unfold e6
 rw [hw.1,hw.2,List.drop_zero,Nat.sub_zero,List.take_length]
theorem lsl {O:Addr->Prop}{H:Hp}{x:V}{d:D}{lo hi:Option Int}{Q:PV->Prop}{Q':VK} (dom:∀b,O b->H b≠none) (fx:FVc K O H x d) (q:fSl d lo hi Q) (k:∀v H' p,Q p->Gr H H'->qi K O H H' p v->Q' v H'):Dm K x lo hi H Q':=by
 unfold fSl at q
 split at q
 .obtain ⟨a,xs,rfl,e1,f1⟩:=fx.lst
  exact .inl ⟨a,xs,rfl,SqL.of e1,fun p hp=>k _ _ _ q (Gr.new hp) (eO hp (f1.cut _ _))⟩
 .obtain ⟨a,rfl,e1⟩:=fx.scr
  exact .inl ⟨a,_,rfl,e1,fun p hp=>k _ _ _ q (Gr.new hp) (eO hp (by rw [uF,wK];exact FVs.of_ints _))⟩
 .exact .inr (.inl ⟨_,fx.str.1,sz _ fx.str.2,k _ H _ q (Gr.refl _) (.str _ (Nat.le_trans (lC _ _ _) fx.str.2))⟩)
 .obtain ⟨a,xs,rfl,n1,e1,f1⟩:=fx.tup
  by_cases hw:HT.sIx xs.length 0 lo=0/\HT.sIx xs.length xs.length hi=xs.length
  .refine .inr (.inr (.inr ⟨a,xs,rfl,SqT.of e1,hw,k _ H _ q (Gr.refl _) ?_⟩))
   rw [zh f1.length hw]
   exact .tup n1 e1 f1
  .exact .inr (.inr (.inl ⟨a,xs,rfl,SqT.of e1,hw,fun p hp=>k _ _ _ q (Gr.new hp) (kv dom hp (f1.cut _ _))⟩))
 .exact q.elim
theorem ez {tl th:TO}{pl ph:PTO} (ha:LA1 K ta pa) (hl:LPo K tl pl) (hh:LPo K th ph):LE K (tSl (Dm K) ta tl th) (iy pa pl ph):=fun A ρ σ H Q Q' R q k =>
 ha A ρ σ H _ _ R q fun v H1 a ρ1 q1 f1 R1 o1=>hl A ρ1 σ H1 _ _ R1 q1 fun lo H2 ρ2 q2 f2 R2=>hh A ρ2 σ H2 _ _ R2 q2 fun hi H3 ρ3 q3 f3 R3=>by
  split at q3
  .rename_i d e1
   exact lsl R3.dom2 (R3.cont (o1.keeps (f2.trans f3).keeps) e1) q3 fun z H4 p q4 g ov=>k z H4 p ρ3 q4 (((f1.trans f2).trans f3).trans g.fr) ((ov.out R3 g).h0 fun b z=>f3.dm b (f2.dm b (f1.dm b z)))
  .exact q3.elim
abbrev FN:=List D->(PV->Prop)->Prop
def lD (K:PySem.W.Frag):List V->Hp->VK->Prop:=fun xs H Q=>(∃l,xs=[.str (S l)]/\l.length<=sizeLine/\Q (.int l.length) H)\/C7 K xs H Q\/C8 K xs H Q\/∃p kvs,xs=[.ref p]/\Rd H p (.dK kvs)/\Q (.int kvs.length) H
theorem c9 (K:PySem.W.Frag) (e:X.K=K):bX X (.builtin "len") (lD K):=by
 subst e
 exact bX.or uM (bX.or uN (bX.or uO uZ))
def ic:FN
 | [.str l],Q=>Q (.dat (.int l.length))
 | [.lst l],Q=>Q (.dat (.int l.length))
 | [.tup l],Q=>Q (.dat (.int l.length))
 | [.scr l],Q=>Q (.dat (.int l.length))
 | [.dic ks _],Q=>Q (.dat (.int ks.length))
 | _,_=>False
theorem b8:LC K (lD K) ic:=by
 intro O H xs as Q Q' dom fs q k
 unfold ic at q
 split at q
 .cases fs with | cons a b=>cases b;rw [a.str.1];exact .inl ⟨_,rfl,sz _ a.str.2,k _ H _ q (Gr.refl _) (.int _)⟩
 .cases fs with
  | cons a b =>
   cases b
   obtain ⟨p,ys,rfl,e1,f1⟩:=a.lst
   exact .inr (.inl ⟨p,ys,rfl,SqL.of e1,by rw [f1.length];exact k _ H _ q (Gr.refl _) (.int _)⟩)
 .cases fs with
  | cons a b =>
   cases b
   obtain ⟨p,ys,rfl,n1,e1,f1⟩:=a.tup
   exact .inr (.inr (.inl ⟨p,ys,rfl,SqT.of e1,by rw [f1.length];exact k _ H _ q (Gr.refl _) (.int _)⟩))
 .cases fs with
  | cons a b =>
   cases b
   obtain ⟨p,rfl,e1⟩:=a.scr
   exact .inr (.inl ⟨p,_,rfl,e1,by rw [List.length_map];exact k _ H _ q (Gr.refl _) (.int _)⟩)
 .cases fs with
  | cons a b =>
   cases b
   cases a.fv nofun nofun with
   | dic n e m f=>subst m;exact .inr (.inr (.inr ⟨_,_,rfl,.inl e,k _ H _ q (Gr.refl _) (by rw [List.length_map];exact .int _)⟩))
 .exact q.elim
inductive Kd where
 | int | bool | str | list | tuple | dict
def Kd.nm:Kd->String
 | .int=>"int" | .bool=>"bool" | .str=>"str" | .list=>"list" | .tuple=>"tuple" | .dict=>"dict"
def isK:Kd->D->Bool
 | .int,.int _=>true
 | .int,.bl _=>true
 | .bool,.bl _=>true
 | .str,.str _=>true
 | .list,.lst _=>true
 | .tuple,.tup _=>true
 | .dict,.dic _ _=>true
 | _,_=>false
def D.sort:D->Bool
 | .obj _ _ _=>false
 | .exc _ _ _=>false
 | .scr _=>false
 | .ty _=>false
 | _=>true
theorem FVc.ty {O:Addr->Prop}{H:Hp}{v:V}{d:D} (h:FVc K O H v d) (s:d.sort=true):∃t,om K H v t/\∀k:Kd,PySem.W.kitOne K t (.type k.nm)=some (isK k d):=by
 rcases h with h | ⟨a,xs,ds',rfl,rfl,e3,f⟩ | ⟨a,dx,c,fs,ns,ds',rfl,rfl,_⟩
 .cases h with
  | non=>exact ⟨_,.non,fun k=>by cases k <;> rfl⟩
  | bl b=>exact ⟨_,.bl b,fun k=>by cases k <;> rfl⟩
  | int i=>exact ⟨_,.int i,fun k=>by cases k <;> rfl⟩
  | str l h=>exact ⟨_,.str _,fun k=>by cases k <;> rfl⟩
  | ty n=>cases s
  | scr _=>cases s
  | lst n e f=>exact ⟨_,.lst e,fun k=>by cases k <;> rfl⟩
  | tup n e f=>exact ⟨_,.tup e,fun k=>by cases k <;> rfl⟩
  | dic n e m f=>exact ⟨_,.dK e,fun k=>by cases k <;> rfl⟩
  | obj _ _ _ _=>cases s
  | exc0 _ _=>cases s
  | exc1 _ _ _ _ _ _=>cases s
 .exact ⟨_,.lst e3,fun k=>by cases k <;> rfl⟩
 .cases s
theorem zi (K:PySem.W.Frag) (e:X.K=K):bX X (.builtin "isinstance") (DS K):=by subst e;exact qo
def CG (k:Kd) (pa:PA1):PTE:=fun ρ Q=>pa ρ fun x ρ1=>match cont ρ1 x with
 | some d=>gz d.sort (Q (.dat (.bl (isK k d))) ρ1) False
 | _=>False
theorem va (k:Kd) (ha:LA1 K ta pa):LE K (tCB (DS K) (bp ta (bp (tC (.ty k.nm)) eM))) (CG k pa):=fun A ρ σ H Q Q' R q kk =>
 ha A ρ σ H _ _ R q fun v H1 a ρ1 q1 f1 R1 o1=>by
  split at q1
  .rename_i d e1
   cases hs:d.sort with
   | false=>rw [hs] at q1;exact q1.elim
   | true =>
    rw [hs] at q1
    obtain ⟨t,ty,hk⟩:=(R1.cont o1 e1).ty hs
    exact ⟨v,k.nm,t,isK k d,rfl,ty,hk k,kk _ H1 _ ρ1 q1 f1 ⟨R1,.bl _⟩⟩
  .exact q1.elim
def DT (K:PySem.W.Frag):List V->Hp->VK->Prop:=fun xs H Q=>∃(x:V) (p:Addr) (ts:List String) (t:Value) (b:Bool),xs=[x,.ref p]/\om K H x t/\H p=some (.tup (ts.map V.ty))/\PySem.W.kitAny K t (ts.map Value.type)=some b/\Q (.bl b) H
theorem Dn (K:PySem.W.Frag) (e:X.K=K):bX X (.builtin "isinstance") (DT K):=by subst e;exact o8
def DU (k l:Kd) (pa:PA1):PTE:=fun ρ Q=>pa ρ fun x ρ1=>match cont ρ1 x with
 | some d=>gz d.sort (Q (.dat (.bl (isK k d || isK l d))) ρ1) False
 | _=>False
theorem FVc.keeps {O O':Addr->Prop}{H H':Hp}{v:V}{d:D} (k:aO O H O' H') (g:Gr H H') (h:FVc K O H v d):FVc K O' H' v d:=by
 rcases h with h | ⟨a,xs,ds',e1,e2,e3,f⟩ | ⟨a,dx,c,fs,ns,ds',e1,e2,e3,m,f⟩
 .exact .inl (h.keeps k)
 .exact .inr (.inl ⟨a,xs,ds',e1,e2,g _ _ e3,f.keeps k⟩)
 .exact .inr (.inr ⟨a,dx,c,fs,ns,ds',e1,e2,g _ _ e3,m,f.keeps k⟩)
theorem BC (k l:Kd) (hkl:∀t b c,PySem.W.kitOne K t (.type k.nm)=some b->PySem.W.kitOne K t (.type l.nm)=some c->PySem.W.kitAny K t [.type k.nm,.type l.nm]=some (b || c)) (ha:LA1 K ta pa):LE K (tCB (DT K) (bp ta (bp (CV (bp (tC (.ty k.nm)) (bp (tC (.ty l.nm)) eM))) eM))) (DU k l pa):=fun A ρ σ H Q Q' R q kk =>
 ha A ρ σ H _ _ R q fun v H1 a ρ1 q1 f1 R1 o1=>by
  split at q1
  .rename_i d e1
   cases hs:d.sort with
   | false=>rw [hs] at q1;exact q1.elim
   | true =>
    rw [hs] at q1
    refine ⟨by show 2<=sizeLine;decide,fun p hp=>?_⟩
    have g:Gr H1 (upd H1 p (.tup [V.ty k.nm,V.ty l.nm])):=Gr.new hp
    obtain ⟨t,ty,hk⟩:=((R1.cont o1 e1).keeps (g.fr (ρ:=ρ1) (σ:=σ)).keeps g).ty hs
    exact ⟨v,p,[k.nm,l.nm],t,_,rfl,ty,aE,hkl _ _ _ (hk k) (hk l),kk _ _ _ ρ1 q1 (f1.trans g.fr) ⟨R1.gr g,.bl _⟩⟩
  .exact q1.elim
end
structure zj where
 nx:PSt->Prop
 rt:PV->PSt->Prop
 bk:PSt->Prop:=fun _=>False
 ct:PSt->Prop:=fun _=>False
abbrev PTS:=zj->PSt->Prop
structure dC (fx:List (Nat×V)) (R:Addr->Prop) (H0:Hp) (ρ:PSt) (σ:St) (H:Hp):Prop where
 kp:∀b o,¬ R b->H0 b=some o->H b=some o
 dm:∀b,H0 b≠none->H b≠none
 ow:∀b,Wr ρ σ b->R b\/H0 b=none
 fx:∀p∈fx,σ[p.1]?=some (some p.2)
section
variable {K:PySem.W.Frag}{fx:List (Nat×V)}{A R:Addr->Prop}{H0 H H':Hp}{ρ ρ':PSt}{σ:St}
theorem dC.fr (F:dC fx R H0 ρ σ H) (f:Fr ρ σ H ρ' H'):dC fx R H0 ρ' σ H' :=
 ⟨fun b o n e=>f.kp b o (fun w=>(F.ow b w).elim n (fun z=>by rw [z] at e;cases e)) (F.kp b o n e),fun b z=>f.dm b (F.dm b z),fun b w=>F.ow b (f.ow b w),F.fx⟩
theorem dC.start (hfx:∀p∈fx,σ[p.1]?=some (some p.2)):dC fx (Wr ρ σ) H ρ σ H:=⟨fun _ _ _ h=>h,fun _ h=>h,fun _ h=>.inl h,hfx⟩
theorem dC.keepsR {ρ1:PSt}{σ1:St}{H1:Hp} (F:dC fx R H1 ρ σ H) (hR:∀b,R b->OO A ρ1 σ1 b):aO (OO A ρ1 σ1) H1 (OO A ρ σ) H:=fun b o n e=>by
 refine ⟨fun z=>?_,F.kp b o (fun z=>n (hR b z)) e⟩
 rcases z with z | z
 .exact n (.inl z)
 .rcases F.ow b z with z | z
  .exact n (hR b z)
  .rw [z] at e;cases e
theorem dC.keeps {ρ1:PSt}{σ1:St}{H1:Hp} (F:dC fx (Wr ρ1 σ1) H1 ρ σ H):aO (OO A ρ1 σ1) H1 (OO A ρ σ) H:=F.keepsR fun b z=>.inr z
theorem dC.trans {fx':List (Nat×V)}{ρ1:PSt}{σ1:St}{H1:Hp} (F:dC fx R H0 ρ1 σ1 H1) (G:dC fx' (Wr ρ1 σ1) H1 ρ σ H) (hfx:∀p∈fx,σ[p.1]?=some (some p.2)):dC fx R H0 ρ σ H:=by
 refine ⟨fun b o n e=>G.kp b o (fun w=>(F.ow b w).elim n (fun z=>by rw [z] at e;cases e)) (F.kp b o n e),fun b z=>G.dm b (F.dm b z),fun b w=>?_,hfx⟩
 rcases G.ow b w with z | z
 .exact F.ow b z
 .refine .inr ?_
  cases e:H0 b with
  | none=>rfl
  | some o=>exact absurd z (F.dm b (by rw [e];exact nofun))
theorem Out.put {p:PV}{v:V}{i:Nat} (h:Out K A ρ σ H0 H p v):Rel K A (ρ.set i (some p)) (σ.set i (some v)) H/\∀b,Wr (ρ.set i (some p)) (σ.set i (some v)) b->Wr ρ σ b\/H0 b=none:=by
 have get:∀(j:Nat) (q:PV),(ρ.set i (some p))[j]?=some (some q)->(j=i/\q=p/\i < ρ.length)\/(j≠i/\ρ[j]?=some (some q)):=fun j q e=>by
  by_cases z:i=j
  .subst z
   by_cases hi:i < ρ.length
   .rw [List.getElem?_set_self hi] at e;cases e;exact .inl ⟨rfl,rfl,hi⟩
   .rw [List.getElem?_eq_none (by rw [List.length_set];omega)] at e;cases e
  .rw [List.getElem?_set_ne z] at e;exact .inr ⟨fun q=>z q.symm,e⟩
 cases p with
 | dat d =>
  obtain ⟨R1,f⟩:=h
  have ow:∀b,Wr (ρ.set i (some (.dat d))) (σ.set i (some v)) b->Wr ρ σ b:=fun b ⟨j,r,e1,o1,s1⟩=>by
   rcases get j r e1 with ⟨_,rfl,_⟩ | ⟨n,e⟩
   .cases o1
   .rw [List.getElem?_set_ne (fun z=>n z.symm)] at s1;exact ⟨j,r,e,o1,s1⟩
  have k:aO (OO A ρ σ) H (OO A (ρ.set i (some (.dat d))) (σ.set i (some v))) H:=aO.less fun b z=>z.imp id (ow b)
  refine ⟨⟨by rw [List.length_set,List.length_set];exact R1.len,fun j r e1=>?_,fun j l p1 q1 v' e1 e2 o1 o2 s1 s2=>?_,R1.dom,fun b z w=>R1.sep b z (ow b w)⟩,fun b w=>.inl (ow b w)⟩
  .rcases get j r e1 with ⟨rfl,rfl,hi⟩ | ⟨n,e⟩
   .exact ⟨v,List.getElem?_set_self (by rw [<- R1.len];exact hi),f.keeps k⟩
   .obtain ⟨u,s,r'⟩:=R1.get j r e
    exact ⟨u,by rw [List.getElem?_set_ne (fun z=>n z.symm)];exact s,r'.keeps k fun _ _ _=>rfl⟩
  .rcases get j p1 e1 with ⟨_,rfl,_⟩ | ⟨n1,e1⟩
   .cases o1
   .rcases get l q1 e2 with ⟨_,rfl,_⟩ | ⟨n2,e2⟩
    .cases o2
    .rw [List.getElem?_set_ne (fun z=>n1 z.symm)] at s1
     rw [List.getElem?_set_ne (fun z=>n2 z.symm)] at s2
     exact R1.dj j l p1 q1 v' e1 e2 o1 o2 s1 s2
 | own ds =>
  obtain ⟨a,xs,rfl,na,hn,e0,R1,f⟩:=h
  have ow:∀b,Wr (ρ.set i (some (.own ds))) (σ.set i (some (.ref a))) b->Wr ρ σ b\/b=a:=fun b ⟨j,r,e1,o1,s1⟩=>by
   rcases get j r e1 with ⟨rfl,rfl,hi⟩ | ⟨n,e⟩
   .rw [List.getElem?_set_self (by rw [<- R1.len];exact hi)] at s1;cases s1;exact .inr rfl
   .rw [List.getElem?_set_ne (fun z=>n z.symm)] at s1;exact .inl ⟨j,r,e,o1,s1⟩
  have k:aO (OO (eT A a) ρ σ) H (OO A (ρ.set i (some (.own ds))) (σ.set i (some (.ref a)))) H:=aO.less fun b z=>by
   rcases z with z | z
   .exact .inl (.inl z)
   .rcases ow b z with z | z
    .exact .inr z
    .exact .inl (.inr z)
  refine ⟨⟨by rw [List.length_set,List.length_set];exact R1.len,fun j r e1=>?_,fun j l p1 q1 v' e1 e2 o1 o2 s1 s2=>?_,fun b z=>R1.dom b (.inl z),fun b z w=>?_⟩,fun b w=>(ow b w).imp id fun z=>by rw [z];exact hn⟩
  .rcases get j r e1 with ⟨rfl,rfl,hi⟩ | ⟨n,e⟩
   .exact ⟨_,List.getElem?_set_self (by rw [<- R1.len];exact hi),a,xs,rfl,e0,f.keeps k⟩
   .obtain ⟨u,s,r'⟩:=R1.get j r e
    exact ⟨u,by rw [List.getElem?_set_ne (fun z=>n z.symm)];exact s,r'.keeps k fun _ _ _=>rfl⟩
  .rcases get j p1 e1 with ⟨rfl,rfl,hi⟩ | ⟨n1,e1'⟩
   .rw [List.getElem?_set_self (by rw [<- R1.len];exact hi)] at s1;cases s1
    rcases get l q1 e2 with ⟨rfl,rfl,_⟩ | ⟨n2,e2⟩
    .rfl
    .rw [List.getElem?_set_ne (fun z=>n2 z.symm)] at s2
     exact absurd ⟨l,q1,e2,o2,s2⟩ (R1.sep a (.inr rfl))
   .rw [List.getElem?_set_ne (fun z=>n1 z.symm)] at s1
    rcases get l q1 e2 with ⟨rfl,rfl,hi⟩ | ⟨n2,e2⟩
    .rw [List.getElem?_set_self (by rw [<- R1.len];exact hi)] at s2;cases s2
     exact absurd ⟨j,p1,e1',o1,s1⟩ (R1.sep a (.inr rfl))
    .rw [List.getElem?_set_ne (fun z=>n2 z.symm)] at s2
     exact R1.dj j l p1 q1 v' e1' e2 o1 o2 s1 s2
  .rcases ow b w with w | w
   .exact R1.sep b (.inl z) w
   .rw [w] at z;exact na z
 | ins c ns ds =>
  obtain ⟨a,dx,fs,rfl,na,hn,e0,m,R1,f⟩:=h
  have ow:∀b,Wr (ρ.set i (some (.ins c ns ds))) (σ.set i (some (.ref a))) b->Wr ρ σ b\/b=a:=fun b ⟨j,r,e1,o1,s1⟩=>by
   rcases get j r e1 with ⟨rfl,rfl,hi⟩ | ⟨n,e⟩
   .rw [List.getElem?_set_self (by rw [<- R1.len];exact hi)] at s1;cases s1;exact .inr rfl
   .rw [List.getElem?_set_ne (fun z=>n z.symm)] at s1;exact .inl ⟨j,r,e,o1,s1⟩
  have k:aO (OO (eT A a) ρ σ) H (OO A (ρ.set i (some (.ins c ns ds))) (σ.set i (some (.ref a)))) H:=aO.less fun b z=>by
   rcases z with z | z
   .exact .inl (.inl z)
   .rcases ow b z with z | z
    .exact .inr z
    .exact .inl (.inr z)
  refine ⟨⟨by rw [List.length_set,List.length_set];exact R1.len,fun j r e1=>?_,fun j l p1 q1 v' e1 e2 o1 o2 s1 s2=>?_,fun b z=>R1.dom b (.inl z),fun b z w=>?_⟩,fun b w=>(ow b w).imp id fun z=>by rw [z];exact hn⟩
  .rcases get j r e1 with ⟨rfl,rfl,hi⟩ | ⟨n,e⟩
   .exact ⟨_,List.getElem?_set_self (by rw [<- R1.len];exact hi),a,dx,fs,rfl,e0,m,f.keeps k⟩
   .obtain ⟨u,s,r'⟩:=R1.get j r e
    exact ⟨u,by rw [List.getElem?_set_ne (fun z=>n z.symm)];exact s,r'.keeps k fun _ _ _=>rfl⟩
  .rcases get j p1 e1 with ⟨rfl,rfl,hi⟩ | ⟨n1,e1'⟩
   .rw [List.getElem?_set_self (by rw [<- R1.len];exact hi)] at s1;cases s1
    rcases get l q1 e2 with ⟨rfl,rfl,_⟩ | ⟨n2,e2⟩
    .rfl
    .rw [List.getElem?_set_ne (fun z=>n2 z.symm)] at s2
     exact absurd ⟨l,q1,e2,o2,s2⟩ (R1.sep a (.inr rfl))
   .rw [List.getElem?_set_ne (fun z=>n1 z.symm)] at s1
    rcases get l q1 e2 with ⟨rfl,rfl,hi⟩ | ⟨n2,e2⟩
    .rw [List.getElem?_set_self (by rw [<- R1.len];exact hi)] at s2;cases s2
     exact absurd ⟨j,p1,e1',o1,s1⟩ (R1.sep a (.inr rfl))
    .rw [List.getElem?_set_ne (fun z=>n2 z.symm)] at s2
     exact R1.dj j l p1 q1 v' e1' e2 o1 o2 s1 s2
  .rcases ow b w with w | w
   .exact R1.sep b (.inl z) w
   .rw [w] at z;exact na z
end
abbrev PTG:=PV->PSt->(PSt->Prop)->Prop
abbrev xZ:=List D->PSt->(PSt->Prop)->Prop
def LG (K:PySem.W.Frag) (fs:List Nat) (g:TG) (pg:PTG):Prop:=∀(fx:List (Nat×V)) (A R:Addr->Prop) (H0:Hp) (ρ:PSt) (σ:St) (H:Hp) (p:PV) (v:V) (Q:PSt->Prop) (Q':St->Hp->Prop),fx.map Prod.fst=fs->dC fx R H0 ρ σ H->Out K A ρ σ H0 H p v->pg p ρ Q ->
 (∀ρ' σ' H',Q ρ'->Rel K A ρ' σ' H'->dC fx R H0 ρ' σ' H'->Q' σ' H')->g v σ H Q'
def LGs (K:PySem.W.Frag) (fs:List Nat) (g:TGs) (pg:xZ):Prop:=∀(fx:List (Nat×V)) (A R:Addr->Prop) (H0:Hp) (ρ:PSt) (σ:St) (H:Hp) (ds:List D) (vs:List V) (Q:PSt->Prop) (Q':St->Hp->Prop),fx.map Prod.fst=fs->dC fx R H0 ρ σ H->Rel K A ρ σ H->FVs K (OO A ρ σ) H vs ds->pg ds ρ Q ->
 (∀ρ' σ',Q ρ'->Rel K A ρ' σ' H->dC fx R H0 ρ' σ' H->(∀b,Wr ρ' σ' b->Wr ρ σ b)->Q' σ' H)->g vs σ H Q'
def LGd (K:PySem.W.Frag) (fs:List Nat) (g:TG) (pg:PTG):Prop:=∀(fx:List (Nat×V)) (A R:Addr->Prop) (H0:Hp) (ρ:PSt) (σ:St) (H:Hp) (d:D) (v:V) (Q:PSt->Prop) (Q':St->Hp->Prop),fx.map Prod.fst=fs->dC fx R H0 ρ σ H->Rel K A ρ σ H->FV K (OO A ρ σ) H v d->pg (.dat d) ρ Q ->
 (∀ρ' σ',Q ρ'->Rel K A ρ' σ' H->dC fx R H0 ρ' σ' H->(∀b,Wr ρ' σ' b->Wr ρ σ b)->Q' σ' H)->g v σ H Q'
def aq (i:Nat):PTG:=fun p ρ Q=>Q (ρ.set i (some p))
def lE:xZ:=fun ds ρ Q=>match ds with | []=>Q ρ | _=>False
def df (g:PTG) (gs:xZ):xZ:=fun ds ρ Q=>match ds with | d::r=>g (.dat d) ρ fun ρ1=>gs r ρ1 Q | []=>False
section
variable {K:PySem.W.Frag}{fs:List Nat}
theorem dC.put {fx:List (Nat×V)}{R:Addr->Prop}{H0 H:Hp}{ρ:PSt}{σ:St}{i:Nat}{p:PV}{v:V} (hf:fx.map Prod.fst=fs) (hi:fs.contains i=false) (F:dC fx R H0 ρ σ H) (ow:∀b,Wr (ρ.set i (some p)) (σ.set i (some v)) b->Wr ρ σ b\/H0 b=none):dC fx R H0 (ρ.set i (some p)) (σ.set i (some v)) H :=
 ⟨F.kp,F.dm,fun b w=>(ow b w).elim (F.ow b) .inr,fun q hq=>by
  have:q.1≠i:=fun z=>by
   have h1:i∈fs:=by rw [<- hf,<- z];exact List.mem_map_of_mem hq
   rw [List.contains_iff_mem.mpr h1] at hi;cases hi
  rw [List.getElem?_set_ne (fun z=>this z.symm)];exact F.fx q hq⟩
theorem aB {i:Nat} (hi:fs.contains i=false):LG K fs (ca i) (aq i):=fun fx A R H0 ρ σ H p v Q Q' hf F o q k=>k _ _ _ q o.put.1 (F.put hf hi o.put.2)
theorem fT:LGs K fs AK lE:=fun fx A R H0 ρ σ H ds vs Q Q' hf F r fv q k=>by
 unfold lE at q
 split at q
 .cases fv;exact ⟨rfl,k _ _ q r F fun _ h=>h⟩
 .exact q.elim
theorem ay {i:Nat} (hi:fs.contains i=false):LGd K fs (ca i) (aq i):=fun fx A R H0 ρ σ H d v Q Q' hf F r fv q k=>by
 have o:Out K A ρ σ H0 H (.dat d) v:=⟨r,fv⟩
 have ow:∀b,Wr (ρ.set i (some (.dat d))) (σ.set i (some v)) b->Wr ρ σ b:=fun b ⟨j,p,e1,o1,s1⟩=>by
  by_cases z:i=j
  .subst z
   by_cases hl:i < ρ.length
   .rw [List.getElem?_set_self hl] at e1;cases e1;cases o1
   .rw [List.getElem?_eq_none (by rw [List.length_set];omega)] at e1;cases e1
  .rw [List.getElem?_set_ne z] at e1 s1;exact ⟨j,p,e1,o1,s1⟩
 exact k _ _ q o.put.1 (F.put hf hi o.put.2) ow
theorem cf {g:TG}{pg:PTG}{gs:TGs}{pgs:xZ} (hg:LGd K fs g pg) (h:LGs K fs gs pgs):LGs K fs (oB g gs) (df pg pgs):=fun fx A R H0 ρ σ H ds vs Q Q' hf F r fv q k=>by
 unfold df at q
 split at q
 .cases fv with
  | cons a b =>
   exact ⟨_,_,rfl,hg fx A R H0 ρ σ H _ _ _ _ hf F r a q fun ρ1 σ1 q1 r1 F1 w1=>h fx A R H0 ρ1 σ1 H _ _ _ _ hf F1 r1 (b.keeps (aO.less fun b z=>z.imp id (w1 b))) q1 fun ρ2 σ2 q2 r2 F2 w2=>k ρ2 σ2 q2 r2 F2 fun b z=>w1 b (w2 b z)⟩
 .exact q.elim
end
def LS (K:PySem.W.Frag) (fs:List Nat) (ts:TS) (ps:PTS):Prop:=∀(fx:List (Nat×V)) (A R:Addr->Prop) (H0:Hp) (ρ:PSt) (σ:St) (H:Hp) (D:zj) (D':xJ),fx.map Prod.fst=fs->Rel K A ρ σ H->dC fx R H0 ρ σ H->ps D ρ ->
 (∀ρ' σ' H',D.nx ρ'->Rel K A ρ' σ' H'->dC fx R H0 ρ' σ' H'->D'.nx σ' H') ->
 (∀v p ρ' σ' H',D.rt p ρ'->Out K A ρ' σ' H0 H' p v->dC fx R H0 ρ' σ' H'->D'.rt v H') ->
 (∀ρ' σ' H',D.bk ρ'->Rel K A ρ' σ' H'->dC fx R H0 ρ' σ' H'->D'.bk σ' H') ->
 (∀ρ' σ' H',D.ct ρ'->Rel K A ρ' σ' H'->dC fx R H0 ρ' σ' H'->D'.ct σ' H')->ts D' σ H
def cD:PTS:=fun D ρ=>D.nx ρ
def aL (a b:PTS):PTS:=fun D ρ=>a { D with nx:=b D } ρ
def ky (pe:PTE):PTS:=fun D ρ=>pe ρ fun _ ρ1=>D.nx ρ1
def bF (pe:PTE):PTS:=fun D ρ=>pe ρ D.rt
def jV (t:PTT) (a b:PTS):PTS:=fun D ρ=>t ρ fun c ρ1=>gz c (a D ρ1) (b D ρ1)
def m9:PTS:=fun _ _=>False
def ba (pe:PTE) (g:PTG):PTS:=fun D ρ=>pe ρ fun p ρ1=>g p ρ1 D.nx
def ml (a:PTS):PTS:=fun D ρ=>∃J:PSt->Prop,a { D with nx:=J } ρ/\∀ρ',J ρ'->D.nx ρ'
section
variable {K:PySem.W.Frag}{fs:List Nat}{ta tb:TS}{pa pb:PTS}{te:TE}{pe:PTE}{tt:TT}{pt:PTT}
theorem bJ:LS K fs AI cD:=fun fx A R H0 ρ σ H D D' hf r F q k1 k2 k3 k4=>k1 _ _ _ q r F
theorem ng:LS K fs t9 m9:=fun fx A R H0 ρ σ H D D' hf r F q k1 k2 k3 k4=>q
theorem aA (ha:LS K fs ta pa) (hb:LS K fs tb pb):LS K fs (Ak ta tb) (aL pa pb):=fun fx A R H0 ρ σ H D D' hf r F q k1 k2 k3 k4 =>
 ha fx A R H0 ρ σ H _ _ hf r F q (fun ρ1 σ1 H1 q1 r1 F1=>hb fx A R H0 ρ1 σ1 H1 _ _ hf r1 F1 q1 k1 k2 k3 k4) k2 k3 k4
theorem ja (h:LE K te pe):LS K fs (AJ te) (ky pe):=fun fx A R H0 ρ σ H D D' hf r F q k1 k2 k3 k4=>h A ρ σ H _ _ r q fun v H1 p ρ1 q1 f1 o1=>k1 _ _ _ q1 o1.frz.1 (F.fr f1)
theorem aV (h:LE K te pe):LS K fs (DE te) (bF pe):=fun fx A R H0 ρ σ H D D' hf r F q k1 k2 k3 k4=>h A ρ σ H _ _ r q fun v H1 p ρ1 q1 f1 o1=>k2 v p ρ1 σ H1 q1 (o1.h0 F.dm) (F.fr f1)
theorem dZ (ht:LT K tt pt) (ha:LS K fs ta pa) (hb:LS K fs tb pb):LS K fs (CJ tt ta tb) (jV pt pa pb):=fun fx A R H0 ρ σ H D D' hf r F q k1 k2 k3 k4=>ht A ρ σ H _ _ r q fun c H1 ρ1 q1 f1 r1=>by
 cases c with
 | true=>exact ha fx A R H0 ρ1 σ H1 D D' hf r1 (F.fr f1) q1 k1 k2 k3 k4
 | false=>exact hb fx A R H0 ρ1 σ H1 D D' hf r1 (F.fr f1) q1 k1 k2 k3 k4
theorem aH {g:TG}{pg:PTG} (h:LE K te pe) (hg:LG K fs g pg):LS K fs (uc te g) (ba pe pg):=fun fx A R H0 ρ σ H D D' hf r F q k1 k2 k3 k4=>h A ρ σ H _ _ r q fun v H1 p ρ1 q1 f1 o1 =>
 hg fx A R H0 ρ1 σ H1 p v _ _ hf (F.fr f1) (o1.h0 F.dm) q1 k1
theorem kz (h:LS K fs ta pa):LS K fs (yU ta) (ml pa):=fun fx A R H0 ρ σ H D D' hf r F q k1 k2 k3 k4=>by
 obtain ⟨J,q1,q2⟩:=q
 refine ⟨fun σ' H'=>∃ρ',J ρ'/\Rel K A ρ' σ' H'/\dC fx R H0 ρ' σ' H',?_,fun σ' H' ⟨ρ',j,r',F'⟩=>k1 ρ' σ' H' (q2 ρ' j) r' F'⟩
 exact h fx A R H0 ρ σ H _ _ hf r F q1 (fun ρ' σ' H' j r' F'=>⟨ρ',j,r',F'⟩) k2 k3 k4
end
def iX (K:PySem.W.Frag) (tl:TE):TI:=fun σ H R=>tl σ H fun x H1=>(∃k a xs,x=.ref a/\Sq k K H1 a xs/\R (Itk k K a) H1)\/∃l,x=.str (S l)/\R (Its (fS l)) H1
section
variable {X:Cx}{tg:Expr}
theorem zk {l:Expr}{tl:TE} (hl:PE X l tl):PI X tg l (iX X.K tl):=by
 intro pins s σ H R I h
 refine thn (hl pins s σ H _ I h) fun v s1 ⟨x,H1,I1,r1,q1⟩=>?_
 have fin:∀b∈[s1.heap.objs.size],ql X pins H1 b:=fun b hb=>by
  have e:b=s1.heap.objs.size:=by simpa using hb
  subst e
  exact I1.fpOk (Nat.le_refl _) (I1.hok.fresh (Nat.le_refl _))
 rcases q1 with ⟨k,a,xs,e,hq,q⟩ | ⟨l,e,q⟩
 .subst e
  cases r1
  cases k with
  | false =>
   obtain ⟨its,rv,p,hz⟩:=I1.list hq
   refine wpAny_pyIter_list p.isList ?_
   exact ⟨s1.heap.objs.size,[s1.heap.objs.size],_,_,H1,rfl,I1.kept (t':=s1.toks) fun b o e=>Heap.get?_push_of_some _ e,ue a _,⟨_,Heap.get?_push_size _ rfl,rfl,rfl⟩,fin,q⟩
  | true =>
   obtain ⟨its,rv,p,hz⟩:=I1.tuple hq
   refine wpAny_pyIter_tuple (show s1.heap.IsTuple a its.toArray from p) ?_
   exact ⟨s1.heap.objs.size,[s1.heap.objs.size],_,_,H1,rfl,I1.kept (t':=s1.toks) fun b o e=>Heap.get?_push_of_some _ e,sv a _,⟨_,Heap.get?_push_size _ rfl,rfl,rfl⟩,fin,q⟩
 .subst e
  obtain ⟨t,rfl⟩:=r1
  have hv:∀i v,i < (S l).cps.size->SignAt (S l) i v->∃x,(fS l)[i]?=some x/\di x v:=fun i v _ ⟨c,u,hc,e⟩=>by
   subst e
   have hc':l[i]?=some c:=by simpa [S] using hc
   exact ⟨.str (S [c]),by unfold fS;rw [List.getElem?_map,hc'];rfl,u,rfl⟩
  have hsc:∀i v,SignAt (S l) i v->∀a,v≠.ref a:=fun i v ⟨c,u,hc,e⟩ a z=>by subst e;cases z
  have hn:(fS l).length=(S l).cps.size:=by rw [i4];simp [S]
  have hobj:∀ty i (h:Heap),h.IsStrIter s1.heap.objs.size ty (S l) t i->∃o,h.get? s1.heap.objs.size=some o/\∀v,o.data≠.cell v:=fun ty i h ⟨o,ho,_,hd⟩=>⟨o,ho,fun v z=>by rw [hd] at z;cases z⟩
  have hfr:∀ty i (h h':Heap),h.IsStrIter s1.heap.objs.size ty (S l) t i->(∀b∈[s1.heap.objs.size],∀o,h.get? b=some o->h'.get? b=some o)->h'.IsStrIter s1.heap.objs.size ty (S l) t i:=fun ty i h h' ⟨o,ho,r⟩ k=>⟨o,k _ (by simp) o ho,r⟩
  cases ha:(S l).cps.all (· < 128)
  .refine wpAny_pyIter_wide ha ⟨s1.heap.objs.size,[s1.heap.objs.size],_,Its (fS l),H1,rfl,I1.kept (t':=s1.toks) fun b o e=>Heap.get?_push_of_some _ e,
    kf (fun A hA=>Walks.strWide hA _ (S l) t) hn hv hsc (hobj _) (hfr _) (fun A i s Q E st q=>wpAny_pyIter_striter_wide st q),⟨_,Heap.get?_push_size _ rfl,rfl,rfl⟩,fin,q⟩
  .refine wpAny_pyIter_ascii ha ⟨s1.heap.objs.size,[s1.heap.objs.size],_,Its (fS l),H1,rfl,I1.kept (t':=s1.toks) fun b o e=>Heap.get?_push_of_some _ e,
    kf (fun A hA=>Walks.strAscii hA _ (S l) t) hn hv hsc (hobj _) (hfr _) (fun A i s Q E st q=>wpAny_pyIter_striter_ascii st q),⟨_,Heap.get?_push_size _ rfl,rfl,rfl⟩,fin,q⟩
theorem cj (K:PySem.W.Frag) (e:X.K=K) {l:Expr}{tl:TE} (hl:PE X l tl):PI X tg l (iX K tl):=by subst e;exact zk hl
end
abbrev PTI:=PSt->(Nat->(Nat->D)->PSt->Prop)->Prop
def Wlk (K:PySem.W.Frag) (O:Addr->Prop) (H:Hp) (J:It) (n:Nat) (it:Nat->D):Prop:=∀(O':Addr->Prop) (H':Hp),aO O H O' H'->(∀b,O' b->H' b≠none) ->
 (∀k,k < n->J.go k H'/\∀x H'',J.yld k H' x H''->Gr H' H''/\FV K O' H'' x (it k))/\J.stop n H'
def LI (K:PySem.W.Frag) (wi:TI) (pi:PTI):Prop:=∀(A:Addr->Prop) (ρ:PSt) (σ:St) (H:Hp) (Q:Nat->(Nat->D)->PSt->Prop) (Q':It->Hp->Prop),Rel K A ρ σ H->pi ρ Q ->
 (∀J H' n it ρ',Q n it ρ'->Fr ρ σ H ρ' H'->Rel K A ρ' σ H'->Wlk K (OO A ρ' σ) H' J n it->Q' J H')->wi σ H Q'
def itD (ds:List D) (k:Nat):D:=ds.getD k .non
theorem vc {ds:List D}{k:Nat} (h:k < ds.length):ds[k]?=some (itD ds k):=by unfold itD;rw [List.getD_eq_getElem?_getD,List.getElem?_eq_getElem h];rfl
theorem fU {ds:List D}{k:Nat}{d:D} (h:ds[k]?=some d):itD ds k=d:=by unfold itD;rw [List.getD_eq_getElem?_getD,h];rfl
def DW:D->Option (Nat×(Nat->D))
 | .lst ds=>some (ds.length,itD ds)
 | .tup ds=>some (ds.length,itD ds)
 | .scr ns=>some (ns.length,fun k=>.int (ns.getD k 0))
 | .str l=>some (l.length,fun k=>.str [l.getD k 0])
 | _=>none
def dg (pe:PTE):PTI:=fun ρ Q=>pe ρ fun p ρ1=>match DW p.d with
 | some (n,it)=>Q n it ρ1
 | none=>False
section
variable {K:PySem.W.Frag}{te:TE}{pe:PTE}{ta:TA}{pa:PTA}
theorem FV.row {O:Addr->Prop}{H:Hp}{v:V}{d:D}{n:Nat}{it:Nat->D} (h:FV K O H v d) (e:DW d=some (n,it)) :
  (∃k a xs,v=.ref a/\xs.length=n/\(∀O' H',aO O H O' H'->Sq k K H' a xs/\∀j x,xs[j]?=some x->FV K O' H' x (it j)))\/∃l,v=.str (S l)/\l.length=n/\(∀k,it k=.str [l.getD k 0]):=by
 cases h with
 | lst nn e0 f =>
  cases e
  refine .inl ⟨false,_,_,rfl,f.length,fun O' H' k=>⟨SqL.of (k _ _ nn e0).2,fun j x hx=>?_⟩⟩
  obtain ⟨d,hd,fd⟩:=f.get hx
  rw [fU hd];exact fd.keeps k
 | tup nn e0 f =>
  cases e
  refine .inl ⟨true,_,_,rfl,f.length,fun O' H' k=>⟨SqT.of (k _ _ nn e0).2,fun j x hx=>?_⟩⟩
  obtain ⟨d,hd,fd⟩:=f.get hx
  rw [fU hd];exact fd.keeps k
 | scr s =>
  cases e
  refine .inl ⟨false,_,_,rfl,List.length_map _,fun O' H' k=>⟨(s.keeps k).sq,fun j x hx=>?_⟩⟩
  obtain ⟨z,hz,rfl⟩:=wJ hx
  show FV K O' H' (V.int z) (D.int (List.getD _ j 0))
  rw [List.getD_eq_getElem?_getD,hz];exact .int z
 | str l hl=>cases e;exact .inr ⟨l,rfl,rfl,fun _=>rfl⟩
 | non=>cases e
 | bl b=>cases e
 | int i=>cases e
 | ty n=>cases e
 | dic _ _ _ _=>cases e
 | obj _ _ _ _=>cases e
 | exc0 _ _=>cases e
 | exc1 _ _ _ _ _ _=>cases e
theorem ck (h:LE K te pe):LI K (iX K te) (dg pe):=fun A ρ σ H Q Q' R q k=>h A ρ σ H _ _ R q fun v H1 p ρ1 q1 f1 o1=>by
 obtain ⟨R1,fv⟩:=o1.frz
 split at q1
 .rename_i n it e
  rcases fv.row e with ⟨b,a,xs,rfl,hl,hr⟩ | ⟨l,rfl,hl,hi⟩
  .refine .inl ⟨b,a,xs,rfl,(hr _ H1 (fun b o n h=>⟨n,h⟩)).1,k _ H1 n it ρ1 q1 f1 R1 fun O' H' kk dom=>?_⟩
   obtain ⟨sq,hx⟩:=hr O' H' kk
   cases b with
   | false =>
    refine ⟨fun j hj=>⟨⟨xs,_,sq,List.getElem?_eq_getElem (by rw [hl];exact hj)⟩,fun x H'' ⟨e,y⟩=>?_⟩,⟨xs,sq,by rw [hl];exact Nat.le_refl _⟩⟩
    subst e;exact ⟨Gr.refl _,hx j x (y xs sq)⟩
   | true =>
    refine ⟨fun j hj=>⟨⟨xs,_,sq,List.getElem?_eq_getElem (by rw [hl];exact hj)⟩,fun x H'' ⟨e,y⟩=>?_⟩,⟨xs,sq,by rw [hl];exact Nat.le_refl _⟩⟩
    subst e;exact ⟨Gr.refl _,hx j x (y xs sq)⟩
  .refine .inr ⟨l,rfl,k _ H1 n it ρ1 q1 f1 R1 fun O' H' kk dom=>?_⟩
   refine ⟨fun j hj=>⟨by show j < (fS l).length;rw [i4,hl];exact hj,fun x H'' ⟨e,y⟩=>?_⟩,by show (fS l).length=n;rw [i4,hl]⟩
   subst e
   obtain ⟨c,hc,rfl⟩:=sM y
   rw [hi,List.getD_eq_getElem?_getD,hc]
   exact ⟨Gr.refl _,.str _ (by show 1<=1000000;decide)⟩
 .exact q1.elim
def wY (pa:PTA):PTI:=fun ρ Q=>pa ρ fun as ρ1=>match as with
 | [.v (.int j)]=>(-(2 ^ 60)<=j/\j < 2 ^ 60)/\Q j.toNat (fun k=>.int (k:Int)) ρ1
 | _=>False
def Do (pa:PTA):PTI:=fun ρ Q=>pa ρ fun as ρ1=>match as with
 | [.v (.int i),.v (.int j),.v (.int (-1))]=>(-(2 ^ 60)<=i/\i < 2 ^ 60/\-(2 ^ 60)<=j/\j < 2 ^ 60)/\Q (i - j).toNat (fun k=>.int (i - (k:Int))) ρ1
 | _=>False
theorem Dp {O:Addr->Prop}{H:Hp}{lo:Int}{n:Nat}{it:Nat->D} (h:∀k:Nat,it k=.int (lo + k)):Wlk K O H (Itr lo n) n it:=fun O' H' _ _ =>
 ⟨fun j hj=>⟨hj,fun x H'' ⟨e,y⟩=>by subst e y;rw [h];exact ⟨Gr.refl _,.int _⟩⟩,Nat.le_refl _⟩
theorem Dq {O:Addr->Prop}{H:Hp}{lo:Int}{n:Nat}:Wlk K O H (Its (mT lo n)) n (fun k=>.int (lo - (k:Int))):=fun O' H' _ _ =>
 ⟨fun j hj=>⟨by show j < (mT lo n).length;rw [kg];exact hj,fun x H'' ⟨e,y⟩=>by subst e;rw [(uL y).2];exact ⟨Gr.refl _,.int _⟩⟩,kg _ _⟩
theorem pA (h:LAs K ta pa):LI K (sy ta) (wY pa):=fun A ρ σ H Q Q' R q k=>h A ρ σ H _ _ R q fun vs H1 as ρ1 q1 f1 R1 o1=>by
 split at q1
 .rename_i j
  cases o1 with
  | cons a b =>
   cases b
   cases a
   exact ⟨j,rfl,by omega,by omega,k _ H1 _ _ ρ1 q1.2 f1 R1 (Dp fun k=>by rw [Int.zero_add])⟩
 .exact q1.elim
theorem BD (h:LAs K ta pa):LI K (Bb ta) (Do pa):=fun A ρ σ H Q Q' R q k=>h A ρ σ H _ _ R q fun vs H1 as ρ1 q1 f1 R1 o1=>by
 split at q1
 .rename_i i j
  cases o1 with
  | cons a b =>
   cases b with
   | cons c d =>
    cases d with
    | cons e f =>
     cases f
     cases a
     cases c
     cases e
     exact ⟨i,j,rfl,q1.1,k _ H1 _ _ ρ1 q1.2 f1 R1 Dq⟩
 .exact q1.elim
def rowD:D->Option (List D)
 | .lst ds=>some ds
 | .tup ds=>some ds
 | .scr ns=>some (ns.map .int)
 | _=>none
theorem FV.rowD {O:Addr->Prop}{H:Hp}{v:V}{d:D}{ds:List D} (h:FV K O H v d) (e:L2.rowD d=some ds) :
  ∃k a xs,v=.ref a/\xs.length=ds.length/\(∀O' H',aO O H O' H'->Sq k K H' a xs/\FVs K O' H' xs ds):=by
 cases h with
 | lst nn e0 f=>cases e;exact ⟨false,_,_,rfl,f.length,fun O' H' k=>⟨SqL.of (k _ _ nn e0).2,f.keeps k⟩⟩
 | tup nn e0 f=>cases e;exact ⟨true,_,_,rfl,f.length,fun O' H' k=>⟨SqT.of (k _ _ nn e0).2,f.keeps k⟩⟩
 | scr s=>cases e;exact ⟨false,_,_,rfl,by rw [List.length_map,List.length_map],fun O' H' k=>⟨(s.keeps k).sq,FVs.of_ints _⟩⟩
 | str l hl=>cases e
 | non=>cases e
 | bl b=>cases e
 | int i=>cases e
 | ty n=>cases e
 | dic _ _ _ _=>cases e
 | obj _ _ _ _=>cases e
 | exc0 _ _=>cases e
 | exc1 _ _ _ _ _ _=>cases e
def kA (pa:PTA):PTI:=fun ρ Q=>pa ρ fun as ρ1=>match as with
 | [.v a]=>(match rowD a with
  | some xs=>Q xs.length (fun k=>.tup [.int (k:Int),itD xs k]) ρ1
  | _=>False)
 | _=>False
theorem jb (h:LAs K ta pa):LI K (sV K ta) (kA pa):=fun A ρ σ H Q Q' R q k=>h A ρ σ H _ _ R q fun vs H1 as ρ1 q1 f1 R1 o1=>by
 split at q1
 .rename_i da
  cases o1 with
  | cons o1 o3 =>
   cases o3
   split at q1
   .rename_i xs ex
    obtain ⟨b1,a1,us,rfl,l1,w1⟩:=FV.rowD (show FV K _ H1 _ da from o1) ex
    have t1:=w1 _ H1 (fun b o n h=>⟨n,h⟩)
    refine ⟨b1,a1,rfl,⟨us,t1.1⟩,k _ H1 _ _ ρ1 q1 f1 R1 fun O' H' kk dom=>?_⟩
    obtain ⟨s1,g1⟩:=w1 O' H' kk
    refine ⟨fun j hj=>?_,⟨us,s1,by omega⟩⟩
    have h1:j < us.length:=by omega
    refine ⟨⟨us,_,s1,List.getElem?_eq_getElem h1⟩,fun x H'' ⟨T,u,hT,e,y1,e2⟩=>?_⟩
    subst e e2
    obtain ⟨d1,hd1,fd1⟩:=g1.get (y1 us s1)
    have e1:itD xs j=d1:=by unfold itD;rw [List.getD_eq_getElem?_getD,hd1];rfl
    rw [e1]
    have kk2:aO O' H' O' (upd H' T (.tup [.int (j:Int),u])):=fun b o n e=>⟨n,by rw [au (aW e hT)];exact e⟩
    exact ⟨Gr.new hT,.tup (fun z=>dom T z hT) aE (.cons (.int _) (.cons (fd1.keeps kk2) .nil))⟩
   .exact q1.elim
 .exact q1.elim
end
def jc (pi:PTI) (g:PTG) (pb:PTS):PTS:=fun D ρ=>pi ρ fun n it ρ1=>∃I:Nat->PSt->Prop,I 0 ρ1/\(∀k ρ d,k < n->d=it k->I k ρ->g (.dat d) ρ fun ρ2=>pb { D with nx:=I (k + 1),ct:=I (k + 1),bk:=D.nx } ρ2)/\∀ρ,I n ρ->D.nx ρ
def nh (pt:PTT) (pb:PTS):PTS:=fun D ρ=>∃I:Nat->PSt->Prop,(∃m,I m ρ)/\∀m ρ,I m ρ->pt ρ fun b ρ1=>gz b (pb { D with nx:=fun ρ'=>∃m',m' < m/\I m' ρ',ct:=fun ρ'=>∃m',m' < m/\I m' ρ',bk:=D.nx } ρ1) (D.nx ρ1)
section
variable {K:PySem.W.Frag}{fs:List Nat}{wi:TI}{pi:PTI}{g:TG}{pg:PTG}{tb:TS}{pb:PTS}{tt:TT}{pt:PTT}
theorem fG (hi:LI K wi pi) (hg:LGd K fs g pg) (hb:LS K fs tb pb):LS K fs (DG wi g tb) (jc pi pg pb):=fun fx A R H0 ρ σ H D D' hf r F q k1 k2 k3 k4=>hi A ρ σ H _ _ r q fun J H1 n it ρ1 q1 f1 r1 W=>by
 obtain ⟨I,i0,turn,after⟩:=q1
 have F1:=F.fr f1
 refine ⟨fun i m σ' H'=>i + m=n/\∃ρ',I i ρ'/\Rel K A ρ' σ' H'/\dC fx (Wr ρ1 σ) H1 ρ' σ' H',⟨n,Nat.zero_add n,ρ1,i0,r1,dC.start F1.fx⟩,fun i m σ' H' ⟨him,ρ',iv,r',F'⟩=>?_⟩
 obtain ⟨go,stop⟩:=W _ H' F'.keeps r'.dom2
 by_cases hk:i < n
 .obtain ⟨g1,g2⟩:=go i hk
  refine .inr ⟨g1,fun σ'' H''=>∃ρ'',I (i + 1) ρ''/\Rel K A ρ'' σ'' H''/\dC fx (Wr ρ1 σ) H1 ρ'' σ'' H'',fun σ'' H'' z=>⟨m - 1,by omega,by omega,z⟩,fun x H'' y=>?_⟩
  obtain ⟨gr,fv⟩:=g2 x H'' y
  refine hg fx A (Wr ρ1 σ) H1 ρ' σ' H'' _ x _ _ hf (F'.fr gr.fr) (r'.gr gr) fv (turn i ρ' _ hk rfl iv) fun ρ2 σ2 q2 r2 F2 _=>?_
  refine hb fx A (Wr ρ1 σ) H1 ρ2 σ2 H'' _ _ hf r2 F2 q2 (fun ρ3 σ3 H3 q3 r3 F3=>⟨ρ3,q3,r3,F3⟩) (fun v p ρ3 σ3 H3 q3 o3 F3=>k2 v p ρ3 σ3 H3 q3 (o3.h0 F1.dm) (F1.trans F3 F3.fx)) (fun ρ3 σ3 H3 q3 r3 F3=>k1 ρ3 σ3 H3 q3 r3 (F1.trans F3 F3.fx)) (fun ρ3 σ3 H3 q3 r3 F3=>⟨ρ3,q3,r3,F3⟩)
 .have e:i=n:=by omega
  subst e
  exact .inl ⟨stop,k1 ρ' σ' H' (after ρ' iv) r' (F1.trans F' F'.fx)⟩
theorem nj (ht:LT K tt pt) (hb:LS K fs tb pb):LS K fs (xL tt tb) (nh pt pb):=fun fx A R H0 ρ σ H D D' hf r F q k1 k2 k3 k4=>by
 obtain ⟨I,⟨m0,i0⟩,turn⟩:=q
 refine ⟨fun m σ' H'=>∃ρ',I m ρ'/\Rel K A ρ' σ' H'/\dC fx R H0 ρ' σ' H',⟨m0,ρ,i0,r,F⟩,fun m σ' H' ⟨ρ',iv,r',F'⟩=>?_⟩
 refine ht A ρ' σ' H' _ _ r' (turn m ρ' iv) fun b H1 ρ1 q1 f1 r1=>?_
 cases b with
 | true =>
  refine ⟨fun σ'' H''=>∃ρ'' m',m' < m/\I m' ρ''/\Rel K A ρ'' σ'' H''/\dC fx R H0 ρ'' σ'' H'',fun σ'' H'' ⟨ρ'',m',h1,h2⟩=>⟨m',h1,ρ'',h2⟩,?_⟩
  exact hb fx A R H0 ρ1 σ' H1 _ _ hf r1 (F'.fr f1) q1 (fun ρ3 σ3 H3 ⟨m',h1,h2⟩ r3 F3=>⟨ρ3,m',h1,h2,r3,F3⟩) k2 k1 (fun ρ3 σ3 H3 ⟨m',h1,h2⟩ r3 F3=>⟨ρ3,m',h1,h2,r3,F3⟩)
 | false=>exact k1 ρ1 σ' H1 q1 r1 (F'.fr f1)
end
def bS (ix:List (Option Nat)) (ρ:PSt):PSt:=ix.map fun o=>match o with
 | none=>none
 | some j=>match ρ[j]? with
  | some v=>v
  | none=>none
def eo:List (Option Nat)->PSt->PSt->PSt
 | some j::ix,ρ,t::τ=>eo ix (ρ.set j t) τ
 | none::ix,ρ,_::τ=>eo ix ρ τ
 | _,ρ,_=>ρ
def x0:List (Option Nat)->Bool
 | []=>true
 | none::r=>x0 r
 | some j::r=>!r.contains (some j) && x0 r
theorem jW:∀(ix:List (Option Nat)) (ρ τ:PSt),(eo ix ρ τ).length=ρ.length
 | [],ρ,τ=>by unfold eo;rfl
 | some j::ix,ρ,t::τ=>by show (eo ix (ρ.set j t) τ).length=_;rw [jW ix,List.length_set]
 | none::ix,ρ,t::τ=>by show (eo ix ρ τ).length=_;exact jW ix ρ τ
 | some j::ix,ρ,[]=>by unfold eo;rfl
 | none::ix,ρ,[]=>by unfold eo;rfl
theorem iz:∀(ix:List (Option Nat)) (ρ τ:PSt) (j:Nat),some j∉ix->(eo ix ρ τ)[j]?=ρ[j]?
 | [],ρ,τ,j,_=>by unfold eo;rfl
 | some i::ix,ρ,t::τ,j,h=>by
  show (eo ix (ρ.set i t) τ)[j]?=_
  rw [iz ix _ τ j (fun z=>h (List.mem_cons_of_mem _ z)),List.getElem?_set_ne (fun z=>h (by rw [z];exact List.mem_cons_self ..))]
 | none::ix,ρ,t::τ,j,h=>by show (eo ix ρ τ)[j]?=_;exact iz ix ρ τ j fun z=>h (List.mem_cons_of_mem _ z)
 | some i::ix,ρ,[],j,_=>by unfold eo;rfl
 | none::ix,ρ,[],j,_=>by unfold eo;rfl
theorem nk:∀(ix:List (Option Nat)) (ρ τ:PSt) (j k:Nat),x0 ix=true->ix[k]?=some (some j)->k < τ.length->j < ρ.length->(eo ix ρ τ)[j]?=τ[k]?
 | some i::ix,ρ,t::τ,j,k,h,e,hk,hj=>by
  have h:(!ix.contains (some i) && x0 ix)=true:=h
  rw [Bool.and_eq_true] at h
  show (eo ix (ρ.set i t) τ)[j]?=_
  cases k with
  | zero =>
   have e:some (some i)=some (some j):=e
   cases e
   have hn:some i∉ix:=fun z=>by
    have:=h.1
    rw [List.contains_iff_mem.mpr z] at this;cases this
   rw [iz ix _ τ i hn,List.getElem?_set_self hj];rfl
  | succ k =>
   have e:ix[k]?=some (some j):=by simpa using e
   rw [nk ix _ τ j k h.2 e (by simpa using hk) (by rw [List.length_set];exact hj)];simp
 | none::ix,ρ,t::τ,j,k,h,e,hk,hj=>by
  show (eo ix ρ τ)[j]?=_
  cases k with
  | zero=>cases e
  | succ k =>
   have e:ix[k]?=some (some j):=by simpa using e
   rw [nk ix _ τ j k h e (by simpa using hk) hj];simp
 | [],ρ,τ,j,k,h,e,hk,hj=>by simp at e
 | some i::ix,ρ,[],j,k,h,e,hk,hj=>absurd hk (Nat.not_lt_zero _)
 | none::ix,ρ,[],j,k,h,e,hk,hj=>absurd hk (Nat.not_lt_zero _)
theorem jX:∀{ix:List (Option Nat)}{k l j:Nat},x0 ix=true->ix[k]?=some (some j)->ix[l]?=some (some j)->k=l
 | some i::ix,k,l,j,h,e1,e2=>by
  have h:(!ix.contains (some i) && x0 ix)=true:=h
  rw [Bool.and_eq_true] at h
  have no:∀m,ix[m]?≠some (some i):=fun m z=>by
   have:=h.1
   rw [List.contains_iff_mem.mpr (List.mem_of_getElem? z)] at this;cases this
  cases k with
  | zero =>
   have e1:some (some i)=some (some j):=e1
   cases e1
   cases l with
   | zero=>rfl
   | succ l=>exact absurd (by simpa using e2) (no l)
  | succ k =>
   cases l with
   | zero =>
    have e2:some (some i)=some (some j):=e2
    cases e2
    exact absurd (by simpa using e1) (no k)
   | succ l=>rw [jX (k:=k) (l:=l) h.2 (by simpa using e1) (by simpa using e2)]
 | none::ix,k,l,j,h,e1,e2=>by
  cases k with
  | zero=>cases e1
  | succ k =>
   cases l with
   | zero=>cases e2
   | succ l=>rw [jX (ix:=ix) (k:=k) (l:=l) (j:=j) h (by simpa using e1) (by simpa using e2)]
 | [],k,l,j,h,e1,e2=>by simp at e1
theorem cN {ix:List (Option Nat)}{ρ:PSt}{k:Nat}{p:PV} (h:(bS ix ρ)[k]?=some (some p)):∃j,ix[k]?=some (some j)/\ρ[j]?=some (some p):=by
 unfold bS at h
 rw [List.getElem?_map] at h
 cases e:ix[k]? with
 | none=>rw [e] at h;cases h
 | some o =>
  rw [e] at h
  cases o with
  | none=>cases h
  | some j =>
   refine ⟨j,rfl,?_⟩
   have h:some (match ρ[j]? with | some v=>v | none=>none)=some (some p):=h
   cases e2:ρ[j]? with
   | none=>rw [e2] at h;cases h
   | some v=>rw [e2] at h;exact h
theorem cR {ix:List (Option Nat)}{σ:St}{k j:Nat}{v:V} (h:ix[k]?=some (some j)) (e:σ[j]?=some (some v)):(oU ix σ)[k]?=some (some v):=by
 unfold oU
 rw [List.getElem?_map,h]
 show some (match σ[j]? with | some v=>v | none=>none)=some (some v)
 rw [e]
theorem Rel.amb {K:PySem.W.Frag}{A:Addr->Prop}{ρ:PSt}{σ:St}{H:Hp}{a:Addr}{o:HO} (R:Rel K A ρ σ H) (ha:A a):Rel K A ρ σ (upd H a o):=by
 have k:aO (OO A ρ σ) H (OO A ρ σ) (upd H a o):=fun b u n e=>⟨n,by rw [au (fun z=>n (by rw [z];exact .inl ha))];exact e⟩
 refine ⟨R.len,fun i q e=>?_,R.dj,fun b z=>?_,R.sep⟩
 .obtain ⟨v,s,r⟩:=R.get i q e
  refine ⟨v,s,r.keeps k fun ow b eb=>?_⟩
  rw [au]
  intro z
  subst z eb
  exact R.sep b ha ⟨i,q,e,ow,s⟩
 .by_cases z':b=a
  .rw [z',aE];exact nofun
  .rw [au z'];exact R.dom b z
def BE (ix:List (Option Nat)) (ρ:PSt):Bool:=ix.all fun o=>match o with | none=>true | some j=>(match ρ[j]? with | some (some _)=>true | _=>false)
structure lF (ix:List (Option Nat)) (ρ1:PSt) (n:Nat) (it:Nat->D) (g:PTG) (pt:PTT) (pe:PTE) (Q:PKt):Prop where
 ex:∃I:Nat->List D->PSt->Prop,I 0 [] (bS ix ρ1) /\
  (∀k ys τ d,k < n->d=it k->I k ys τ->g (.dat d) τ fun τ2=>pt τ2 fun ok τ3=>gz ok (pe τ3 fun p τ4=>I (k + 1) (ys++[p.d]) τ4) (I (k + 1) ys τ3))/\∀ys τ,I n ys τ->Q (.own ys) (eo ix ρ1 τ)
def cW (ix:List (Option Nat)) (pi:PTI) (g:PTG) (pt:PTT) (pe:PTE):PTE:=fun ρ Q=>pi ρ fun n it ρ1=>BE ix ρ1=true/\n<=1000000/\lF ix ρ1 n it g pt pe Q
def jY:PTT:=fun ρ Q=>Q true ρ
theorem cX {K:PySem.W.Frag}:LT K kl jY:=fun A ρ σ H Q Q' R q k=>k true H ρ q (Fr.refl _ _ _) R
def vd (ix:List (Option Nat)):List Nat:=(List.range ix.length).filter fun k=>(ix.getD k none).isSome
theorem br {K:PySem.W.Frag}{ix:List (Option Nat)}{wi:TI}{pi:PTI}{g:TG}{pg:PTG}{tts:TT}{pt:PTT}{te:TE}{pe:PTE} (hix:x0 ix=true) (hi:LI K wi pi) (hg:∀fs:List Nat,(∀k∈fs,k∈vd ix)->LGd K fs g pg) (ht:LT K tts pt) (he:LE K te pe) :
  LE K (sO ix wi g tts te) (cW ix pi pg pt pe):=fun A ρ σ H Q Q' R q k=>hi A ρ σ H _ _ R q fun J H1 n it ρ1 q1 f1 R1 W D hD=>by
 obtain ⟨hcap,hn,⟨I,i0,turn,after⟩⟩:=q1
 let τρ0:=bS ix ρ1
 let τσ0:=oU ix σ
 let Ai:Addr->Prop:=fun b=>A b\/b=D\/(Wr ρ1 σ b/\¬ Wr τρ0 τσ0 b)
 let H0':=upd H1 D (.lst [])
 have wsub:∀b,Wr τρ0 τσ0 b->Wr ρ1 σ b:=fun b ⟨m,p,e,o,s⟩=>by
  obtain ⟨j,h1,h2⟩:=cN e
  obtain ⟨v,hv,_⟩:=R1.get j p h2
  have:=cR h1 hv
  rw [s] at this
  cases this
  exact ⟨j,p,h2,o,hv⟩
 have nD:¬ Wr ρ1 σ D:=fun z=>R1.wr z hD
 have oosub:∀b,OO Ai τρ0 τσ0 b->OO A ρ1 σ b\/b=D:=fun b z=>by
  rcases z with (z | z | z) | z
  .exact .inl (.inl z)
  .exact .inr z
  .exact .inl (.inr z.1)
  .exact .inl (.inr (wsub b z))
 have kD:aO (OO A ρ1 σ) H1 (OO Ai τρ0 τσ0) H0':=fun b o nn e=>by
  refine ⟨fun z=>?_,?_⟩
  .rcases oosub b z with z | z
   .exact nn z
   .rw [z,hD] at e;cases e
  .rw [show H0' b=H1 b from au (aW e hD)];exact e
 have Ri:Rel K Ai τρ0 τσ0 H0':=by
  refine ⟨by show (bS ix ρ1).length=(oU ix σ).length;unfold bS oU;rw [List.length_map,List.length_map],fun m p e=>?_,fun m l p q v e1 e2 o1 o2 s1 s2=>?_,fun b z=>?_,fun b z w=>?_⟩
  .obtain ⟨j,h1,h2⟩:=cN e
   obtain ⟨v,hv,r⟩:=R1.get j p h2
   refine ⟨v,cR h1 hv,r.keeps kD fun ow a ea=>?_⟩
   subst ea
   exact au (fun z=>nD (by rw [<- z];exact ⟨j,p,h2,ow,hv⟩))
  .obtain ⟨j,h1,h2⟩:=cN e1
   obtain ⟨j',h3,h4⟩:=cN e2
   obtain ⟨v1,hv1,_⟩:=R1.get j p h2
   obtain ⟨v2,hv2,_⟩:=R1.get j' q h4
   have t1:=cR h1 hv1
   have t2:=cR h3 hv2
   rw [s1] at t1
   rw [s2] at t2
   cases t1
   cases t2
   have:=R1.dj j j' p q _ h2 h4 o1 o2 hv1 hv2
   subst this
   exact jX hix h1 h3
  .rcases z with z | z | z
   .intro e
    by_cases zz:b=D
    .exact R1.dom b z (by rw [zz];exact hD)
    .rw [show H0' b=H1 b from au zz] at e;exact R1.dom b z e
   .rw [z];show upd H1 D _ D≠none;rw [aE];exact nofun
   .intro e
    rw [show H0' b=H1 b from au (fun zz=>nD (by rw [<- zz];exact z.1))] at e;exact R1.wr z.1 e
  .rcases z with z | z | z
   .exact R1.sep b z (wsub b w)
   .rw [z] at w;exact nD (wsub D w)
   .exact z.2 w
 let fxi:List (Nat×V):=(vd ix).filterMap fun m=>match (τσ0[m]?) with | some (some v)=>some (m,v) | _=>none
 have hfx:∀p∈fxi,τσ0[p.1]?=some (some p.2):=fun p hp=>by
  obtain ⟨m,hm,e⟩:=List.mem_filterMap.mp hp
  split at e
  .rename_i v ev;cases e;exact ev
  .cases e
 have hfs:∀m∈fxi.map Prod.fst,m∈vd ix:=fun m hm=>by
  obtain ⟨p,hp,rfl⟩:=List.mem_map.mp hm
  obtain ⟨m',hm',e⟩:=List.mem_filterMap.mp hp
  split at e
  .cases e;exact hm'
  .cases e
 have hgi:=hg (fxi.map Prod.fst) hfs
 have fxget:∀(m j:Nat) (v:V),ix[m]?=some (some j)->σ[j]?=some (some v)->(m,v)∈fxi:=fun m j v h1 h2=>by
  refine List.mem_filterMap.mpr ⟨m,?_,?_⟩
  .unfold vd
   refine List.mem_filter.mpr ⟨List.mem_range.mpr (List.getElem?_eq_some_iff.mp h1).1,?_⟩
   rw [List.getD_eq_getElem?_getD,h1];rfl
  .show (match (oU ix σ)[m]? with | some (some v)=>some (m,v) | _=>none)=_
   rw [cR h1 h2]
 let Rr:Addr->Prop:=fun b=>Wr τρ0 τσ0 b\/b=D
 have hRr:∀b,Rr b->OO Ai τρ0 τσ0 b:=fun b z=>z.elim (fun z=>.inr z) (fun z=>.inl (.inr (.inl z)))
 have F0:dC fxi Rr H0' τρ0 τσ0 H0':=⟨fun _ _ _ h=>h,fun _ h=>h,fun b w=>.inl (.inl w),hfx⟩
 refine ⟨fun i m τ H2=>i + m=n/\∃ys τρ xs,I i ys τρ/\ys.length<=i/\Rel K Ai τρ τ H2/\dC fxi Rr H0' τρ τ H2/\H2 D=some (.lst xs)/\FVs K (OO Ai τρ τ) H2 xs ys/\∀b,Wr τρ τ b->Wr τρ0 τσ0 b,
  ⟨n,Nat.zero_add n,[],τρ0,[],i0,Nat.le_refl _,Ri,F0,aE,.nil,fun _ h=>h⟩,fun i m τ H2 ⟨him,ys,τρ,xs,iv,hy,r2,F2,eD,fD,hw⟩=>?_⟩
 have kk:aO (OO A ρ1 σ) H1 (OO Ai τρ τ) H2:=fun b o nn e=>(F2.keepsR hRr) b o (kD b o nn e).1 (kD b o nn e).2
 obtain ⟨go,stop⟩:=W _ H2 kk r2.dom2
 by_cases hk:i < n
 .obtain ⟨g1,g2⟩:=go i hk
  refine .inr ⟨g1,fun x H3 y=>?_⟩
  obtain ⟨gr,fv⟩:=g2 x H3 y
  have AiD:Ai D:=.inr (.inl rfl)
  refine hgi fxi Ai Rr H0' τρ τ H3 _ x _ _ rfl (F2.fr gr.fr) (r2.gr gr) fv (turn i ys τρ _ hk rfl iv) fun τρ2 τ2 q2 r3 F3 w3=>?_
  refine ht Ai τρ2 τ2 H3 _ _ r3 q2 fun ok H5 τρ3 q3 f5 r5=>?_
  have F5:=F3.fr f5
  have fD5:FVs K (OO Ai τρ3 τ2) H5 xs ys:=((fD.keeps (gr.fr (ρ:=τρ) (σ:=τ)).keeps).keeps (aO.less fun b z=>z.imp id (w3 b))).keeps f5.keeps
  have eD5:H5 D=some (.lst xs):=f5.kp D _ (r3.sep D AiD) (gr D _ eD)
  cases ok with
  | true =>
   refine he Ai τρ3 τ2 H5 _ _ r5 q3 fun v H6 p τρ4 q4 f6 o6=>?_
   obtain ⟨r6,fv6⟩:=o6.frz
   have F6:=F5.fr f6
   have eD6:H6 D=some (.lst xs):=f6.kp D _ (r5.sep D AiD) eD5
   have kw:aO (OO Ai τρ4 τ2) H6 (OO Ai τρ4 τ2) (upd H6 D (.lst (xs++[v]))):=fun b o nn e=>⟨nn,by rw [au (fun z=>nn (by rw [z];exact .inl AiD))];exact e⟩
   refine ⟨xs,eD6,?_,m - 1,by omega,by omega,ys++[p.d],τρ4,xs++[v],q4,by rw [List.length_append];show _ + 1<=_;omega,r6.amb AiD,⟨fun b o nn e=>?_,fun b z=>?_,F6.ow,F6.fx⟩,aE,((fD5.keeps f6.keeps).append (.cons fv6 .nil)).keeps kw,fun b z=>hw b (w3 b (f5.ow b (f6.ow b z)))⟩
   .have:xs.length=ys.length:=fD.length
    exact Nat.lt_of_lt_of_le (by omega:xs.length < 1000000) (sz _ (Nat.le_refl _))
   .rw [au (fun z=>nn (.inr z))];exact F6.kp b o nn e
   .by_cases zz:b=D
    .rw [zz,aE];exact nofun
    .rw [au zz];exact F6.dm b z
  | false=>exact ⟨m - 1,by omega,by omega,ys,τρ3,xs,q3,by omega,r5,F5,eD5,fD5,fun b z=>hw b (w3 b (f5.ow b z))⟩
 .have e:i=n:=by omega
  subst e
  refine .inl ⟨stop,?_⟩
  have q':=after ys τρ iv
  have cap:∀(m j:Nat),ix[m]?=some (some j)->∃p v,ρ1[j]?=some (some p)/\σ[j]?=some (some v)/\τ[m]?=some (some v):=fun m j e=>by
   have h1:=List.all_eq_true.mp hcap _ (List.mem_of_getElem? e)
   have h1:(match ρ1[j]? with | some (some _)=>true | _=>false)=true:=h1
   split at h1
   .rename_i p ep
    obtain ⟨v,hv,_⟩:=R1.get j p ep
    exact ⟨p,v,ep,hv,F2.fx _ (fxget m j v e hv)⟩
   .cases h1
  have get':∀(j:Nat) (p:PV),(eo ix ρ1 τρ)[j]?=some (some p)->(∃m v,ix[m]?=some (some j)/\σ[j]?=some (some v)/\τ[m]?=some (some v)/\τρ[m]?=some (some p))\/(some j∉ix/\ρ1[j]?=some (some p)):=fun j p e=>by
   by_cases hj:some j∈ix
   .obtain ⟨m,hm,em⟩:=List.getElem_of_mem hj
    have em':ix[m]?=some (some j):=by rw [List.getElem?_eq_getElem hm,em]
    obtain ⟨p0,v,h1,h2,h3⟩:=cap m j em'
    rw [nk ix ρ1 τρ j m hix em' (by rw [r2.len];exact (List.getElem?_eq_some_iff.mp h3).1) (List.getElem?_eq_some_iff.mp h1).1] at e
    exact .inl ⟨m,v,em',h2,h3,e⟩
   .rw [iz ix ρ1 τρ j hj] at e
    exact .inr ⟨hj,e⟩
  have nocap:∀(j:Nat) (p:PV) (b:Addr),some j∉ix->ρ1[j]?=some (some p)->p.isOwn=true->σ[j]?=some (some (.ref b))->¬ Wr τρ0 τσ0 b:=fun j p b hj e o s ⟨m,q,e1,o1,s1⟩=>by
   obtain ⟨j',h1,h2⟩:=cN e1
   obtain ⟨v,hv,_⟩:=R1.get j' q h2
   have:=cR h1 hv
   rw [s1] at this
   cases this
   have:=R1.dj j j' p q _ e h2 o o1 s hv
   subst this
   exact hj (List.mem_of_getElem? h1)
  have w':∀b,Wr (eo ix ρ1 τρ) σ b->Wr τρ τ b\/(Wr ρ1 σ b/\¬ Wr τρ0 τσ0 b):=fun b ⟨j,p,e,o,s⟩=>by
   rcases get' j p e with ⟨m,v,h1,h2,h3,h4⟩ | ⟨hj,h1⟩
   .rw [s] at h2;cases h2;exact .inl ⟨m,p,h4,o,h3⟩
   .exact .inr ⟨⟨j,p,h1,o,s⟩,nocap j p b hj h1 o s⟩
  have oo':∀b,OO (eT A D) (eo ix ρ1 τρ) σ b->OO Ai τρ τ b:=fun b z=>by
   rcases z with (z | z) | z
   .exact .inl (.inl z)
   .exact .inl (.inr (.inl z))
   .rcases w' b z with z | z
    .exact .inr z
    .exact .inl (.inr (.inr z))
  have kp1:∀b o,¬ Wr τρ0 τσ0 b->b≠D->H1 b=some o->H2 b=some o:=fun b o n1 n2 e=>F2.kp b o (fun z=>z.elim n1 n2) (by rw [show H0' b=H1 b from au n2];exact e)
  have k1:aO (OO A ρ1 σ) H1 (OO (eT A D) (eo ix ρ1 τρ) σ) H2:=fun b o nn e=>⟨fun z=>(kk b o nn e).1 (oo' b z),(kk b o nn e).2⟩
  have AiD:Ai D:=.inr (.inl rfl)
  have R':Rel K (eT A D) (eo ix ρ1 τρ) σ H2:=by
   refine ⟨by rw [jW];exact R1.len,fun j p e=>?_,fun j l p q v e1 e2 o1 o2 s1 s2=>?_,fun b z=>?_,fun b z w=>?_⟩
   .rcases get' j p e with ⟨m,v,h1,h2,h3,h4⟩ | ⟨hj,h1⟩
    .obtain ⟨v',hv',r⟩:=r2.get m p h4
     rw [h3] at hv';cases hv'
     exact ⟨v,h2,r.keeps (aO.less oo') fun _ _ _=>rfl⟩
    .obtain ⟨v,hv,r⟩:=R1.get j p h1
     refine ⟨v,hv,r.keeps k1 fun ow a ea=>?_⟩
     subst ea
     obtain ⟨a',u,e1,e2⟩:=r.ref ow
     cases e1
     rw [e2]
     exact kp1 a u (nocap j p a hj h1 ow hv) (fun z=>by rw [z,hD] at e2;cases e2) e2
   .rcases get' j p e1 with ⟨m,v1,h1,h2,h3,h4⟩ | ⟨hj,h1⟩
    .rw [s1] at h2;cases h2
     rcases get' l q e2 with ⟨m',v2,g1,g2,g3,g4⟩ | ⟨hl,g1⟩
     .rw [s2] at g2;cases g2
      have:=r2.dj m m' p q _ h4 g4 o1 o2 h3 g3
      subst this
      rw [h1] at g1;cases g1;rfl
     .exfalso
      obtain ⟨v',hv',r⟩:=r2.get m p h4
      rw [h3] at hv';cases hv'
      obtain ⟨a,u,ea,_⟩:=r.ref o1
      subst ea
      exact nocap l q a hl g1 o2 s2 (hw a ⟨m,p,h4,o1,h3⟩)
    .rcases get' l q e2 with ⟨m',v2,g1,g2,g3,g4⟩ | ⟨hl,g1⟩
     .rw [s2] at g2;cases g2
      exfalso
      obtain ⟨v',hv',r⟩:=r2.get m' q g4
      rw [g3] at hv';cases hv'
      obtain ⟨a,u,ea,_⟩:=r.ref o2
      subst ea
      exact nocap j p a hj h1 o1 s1 (hw a ⟨m',q,g4,o2,g3⟩)
     .exact R1.dj j l p q v h1 g1 o1 o2 s1 s2
   .rcases z with z | z
    .exact r2.dom b (.inl z)
    .rw [z,eD];exact nofun
   .rcases w' b w with w | w
    .rcases z with z | z
     .exact r2.sep b (.inl z) w
     .rw [z] at w;exact r2.sep D AiD w
    .rcases z with z | z
     .exact R1.sep b z w.1
     .rw [z] at w;exact nD w.1
  have f2:Fr ρ1 σ H1 (eo ix ρ1 τρ) H2:=by
   refine ⟨fun b o nn e=>kp1 b o (fun z=>nn (wsub b z)) (fun z=>by rw [z,hD] at e;cases e) e,fun b z=>F2.dm b ?_,fun b z=>?_⟩
   .intro e
    by_cases zz:b=D
    .exact z (by rw [zz];exact hD)
    .rw [show H0' b=H1 b from au zz] at e;exact z e
   .rcases w' b z with z | z
    .exact wsub b (hw b z)
    .exact z.1
  have hD0:H D=none:=by
   cases e:H D with
   | none=>rfl
   | some o=>exact absurd hD (f1.dm D (by rw [e];exact nofun))
  exact k _ H2 (.own ys) _ q' (f1.trans f2) ⟨D,xs,rfl,fun z=>R1.dom D z hD,hD0,eD,R',fD.keeps (aO.less oo')⟩
section
variable {K:PySem.W.Frag}{A A':Addr->Prop}{ρ:PSt}{σ:St}{H H':Hp}
theorem Rel.step (R:Rel K A ρ σ H) {i:Nat}{p q:PV}{a:Addr} (e:ρ[i]?=some (some p)) (ow:p.isOwn=true) (ow':q.isOwn=true) (es:σ[i]?=some (some (.ref a)))
  (kp:∀b o,b≠a->H b=some o->H' b=some o) (ha:H' a≠none) (h1:∀b,A b->A' b) (h2:∀b,A' b->A b\/H b=none) (dom':∀b,A' b->H' b≠none)
  (new:RS K (OO A' ρ σ) H' q (.ref a)):Rel K A' (ρ.set i (some q)) σ H'/\Fr ρ σ H (ρ.set i (some q)) H':=by
 have hi:i < ρ.length:=(List.getElem?_eq_some_iff.mp e).1
 have wa:Wr ρ σ a:=⟨i,p,e,ow,es⟩
 have weq:∀b,Wr (ρ.set i (some q)) σ b ↔ Wr ρ σ b:=fun b=>by
  constructor
  .rintro ⟨j,r,e1,o1,s1⟩
   by_cases z:i=j
   .subst z;exact ⟨i,p,e,ow,s1⟩
   .rw [List.getElem?_set_ne z] at e1;exact ⟨j,r,e1,o1,s1⟩
  .rintro ⟨j,r,e1,o1,s1⟩
   by_cases z:i=j
   .subst z;exact ⟨i,q,List.getElem?_set_self hi,ow',s1⟩
   .exact ⟨j,r,by rw [List.getElem?_set_ne z];exact e1,o1,s1⟩
 have oeq:OO A' (ρ.set i (some q)) σ=OO A' ρ σ:=funext fun b=>propext (or_congr Iff.rfl (weq b))
 have kp1:∀b u,¬ Wr ρ σ b->H b=some u->H' b=some u:=fun b u n h=>kp b u (fun z=>n (by rw [z];exact wa)) h
 have k:aO (OO A ρ σ) H (OO A' ρ σ) H':=fun b u n h=>by
  refine ⟨fun z=>?_,kp1 b u (fun z=>n (.inr z)) h⟩
  rcases z with z | z
  .rcases h2 b z with z | z
   .exact n (.inl z)
   .rw [z] at h;cases h
  .exact n (.inr z)
 have dm:∀b,H b≠none->H' b≠none:=fun b n=>by
  by_cases z:b=a
  .rw [z];exact ha
  .cases eb:H b with
   | none=>exact absurd eb n
   | some o=>rw [kp b o z eb];exact nofun
 refine ⟨⟨by rw [List.length_set];exact R.len,fun j r e1=>?_,fun j l p1 q1 v e1 e2 o1 o2 s1 s2=>?_,dom',fun b z w=>?_⟩,⟨kp1,dm,fun b w=>(weq b).mp w⟩⟩
 .rw [oeq]
  by_cases z:i=j
  .subst z
   rw [List.getElem?_set_self hi] at e1
   cases e1
   exact ⟨_,es,new⟩
  .rw [List.getElem?_set_ne z] at e1
   obtain ⟨v,s,rr⟩:=R.get j r e1
   refine ⟨v,s,rr.keeps k fun ow2 b eb=>?_⟩
   obtain ⟨b',u,e3,e4⟩:=rr.ref ow2
   rw [eb] at e3;cases e3
   rw [e4]
   refine kp b u (fun zz=>?_) e4
   subst zz
   rw [eb] at s
   exact z (R.dj i j p r _ e e1 ow ow2 es s)
 .have ex:∀(m:Nat) (x:PV),(ρ.set i (some q))[m]?=some (some x)->x.isOwn=true->∃y:PV,ρ[m]?=some (some y)/\y.isOwn=true:=fun m x em ox=>by
   by_cases z:i=m
   .subst z;exact ⟨p,e,ow⟩
   .rw [List.getElem?_set_ne z] at em;exact ⟨x,em,ox⟩
  obtain ⟨y1,g1,g2⟩:=ex j p1 e1 o1
  obtain ⟨y2,g3,g4⟩:=ex l q1 e2 o2
  exact R.dj j l y1 y2 v g1 g3 g2 g4 s1 s2
 .rcases h2 b z with z | z
  .exact R.sep b z ((weq b).mp w)
  .exact R.wr ((weq b).mp w) z
theorem Rel.lstw (R:Rel K A ρ σ H) {i:Nat}{ds es:List D}{a:Addr}{ys:List V} (e:ρ[i]?=some (some (.own ds))) (es':σ[i]?=some (some (.ref a))) (f:FVs K (OO A ρ σ) H ys es) :
  Rel K A (ρ.set i (some (.own es))) σ (upd H a (.lst ys))/\Fr ρ σ H (ρ.set i (some (.own es))) (upd H a (.lst ys)):=by
 have wa:OO A ρ σ a:=.inr ⟨i,_,e,rfl,es'⟩
 exact R.write (q:=.own es) e rfl rfl es' ⟨a,ys,rfl,aE,f.keeps fun b u n h=>⟨n,by rw [au (fun z=>n (by rw [z];exact wa))];exact h⟩⟩
theorem Rel.ownAt (R:Rel K A ρ σ H) {i:Nat}{ds:List D} (e:ρ[i]?=some (some (.own ds))):∃a xs,σ[i]?=some (some (.ref a))/\H a=some (.lst xs)/\FVs K (OO A ρ σ) H xs ds:=by
 obtain ⟨v,s,a,xs,rfl,g,f⟩:=R.get i _ e
 exact ⟨a,xs,s,g,f⟩
end
def zl (i:Nat) (pe:PTE):PTE:=fun ρ Q=>match ρ[i]? with
 | some (some (.own _))=>pe ρ fun p ρ1=>(match ρ1[i]? with
  | some (some (.own ds))=>ds.length < 1000000/\Q (.dat .non) (ρ1.set i (some (.own (ds++[p.d]))))
  | _=>False)
 | _=>False
def Dr (i:Nat):PTE:=fun ρ Q=>match ρ[i]? with
 | some (some (.own ds))=>∃d,ds[ds.length - 1]?=some d/\Q (.dat d) (ρ.set i (some (.own ds.dropLast)))
 | _=>False
def pD (i:Nat) (pe pk:PTE):PTS:=fun D ρ=>pe ρ fun p ρ1=>(match ρ1[i]? with
 | some (some (.own _))=>pk ρ1 fun kp ρ2=>(match ρ2[i]?,kp with
  | some (some (.own ds)),.dat (.int k)=>∃j,ixN ds.length k=some j/\D.nx (ρ2.set i (some (.own (ds.set j p.d))))
  | _,_=>False)
 | _=>False)
section
variable {K:PySem.W.Frag}{te tk:TE}{pe pk:PTE}{fs:List Nat}
theorem pE {i:Nat} (h:LE K te pe):LE K (tBM K "list" uC (a4 i) (bp te eM)) (zl i pe):=fun A ρ σ H Q Q' R q k=>by
 unfold zl at q
 split at q
 .rename_i ds0 e0
  obtain ⟨a0,xs0,s0,g0,f0⟩:=R.ownAt e0
  refine ⟨_,s0,.inl ⟨rfl,xs0,SqL.of g0⟩,h A ρ σ H _ _ R q fun v H1 p ρ1 q1 f1 o1=>?_⟩
  obtain ⟨R1,fv⟩:=o1.frz
  split at q1
  .rename_i ds e1
   obtain ⟨a,xs,s,g,f⟩:=R1.ownAt e1
   rw [s0] at s;cases s
   obtain ⟨R2,f2⟩:=R1.lstw e1 s0 (f.append (.cons fv .nil))
   exact ⟨a0,xs,v,rfl,rfl,g,Nat.lt_of_lt_of_le (by rw [f.length];exact q1.1) (sz _ (Nat.le_refl _)),k _ _ _ _ q1.2 (f1.trans f2) ⟨R2,.non⟩⟩
  .exact q1.elim
 .exact q.elim
theorem BF {i:Nat}:LE K (DO K "list" DP (a4 i)) (Dr i):=fun A ρ σ H Q Q' R q k=>by
 unfold Dr at q
 split at q
 .rename_i ds e
  obtain ⟨d,hd,q⟩:=q
  obtain ⟨a,xs,s,g,f⟩:=R.ownAt e
  obtain ⟨v,hv,fv⟩:=f.getD hd
  obtain ⟨R2,f2⟩:=R.lstw (es:=ds.dropLast) (ys:=xs.dropLast) e s (by rw [List.dropLast_eq_take,List.dropLast_eq_take,f.length];exact f.take _)
  exact ⟨_,s,.inl ⟨rfl,xs,SqL.of g⟩,a,xs,v,rfl,rfl,g,by rw [f.length];exact hv,k _ _ _ _ q f2 ⟨R2,(fv.keeps f2.keeps)⟩⟩
 .exact q.elim
theorem ve {i:Nat} (h:LE K te pe) (hk:LE K tk pk):LS K fs (uc te (AM (a4 i) tk uA)) (pD i pe pk):=fun fx A R H0 ρ σ H D D' hf r F q k1 k2 k3 k4=>h A ρ σ H _ _ r q fun v H1 p ρ1 q1 f1 o1=>by
 obtain ⟨R1,fv⟩:=o1.frz
 split at q1
 .rename_i ds0 e0
  obtain ⟨a0,xs0,s0,g0,f0⟩:=R1.ownAt e0
  refine ⟨_,s0,hk A ρ1 σ H1 _ _ R1 q1 fun w H2 kp ρ2 q2 f2 o2=>?_⟩
  split at q2
  .rename_i ds j e2
   obtain ⟨n,hn,q2⟩:=q2
   obtain ⟨R2,fw⟩:=o2
   cases fw
   obtain ⟨a,xs,s,g,f⟩:=R2.ownAt e2
   rw [s0] at s;cases s
   obtain ⟨R3,f3⟩:=R2.lstw e2 s0 (FVs.set (fv.keeps f2.keeps) n f)
   exact ⟨a0,xs,j,n,rfl,rfl,g,by rw [f.length];exact hn,k1 _ _ _ q2 R3 (((F.fr f1).fr f2).fr f3)⟩
  .exact q2.elim
 .exact q1.elim
end
def spP (K:PySem.W.Frag) (c:FN):Sp:=fun vs H Q _=>∃(O:Addr->Prop) (ds:List D) (Qc:PV->Prop),(∀b,O b->H b≠none)/\FVs K O H vs ds/\c ds Qc/\∀r,Qc r->∀v H',Gr H H'->qi K O H H' r v->Q v H'
def bo (c:FN) (pr:PTA):PTE:=fun ρ Q=>pr ρ fun as ρ1=>match avD as with
 | some ds=>c ds fun r=>Q r ρ1
 | none=>False
theorem kB {N:List Str}{vs:List V}{i:Nat}{v:V} (h:vs[i]?=some v):(start N vs)[i]?=some (some v):=by
 unfold start
 rw [List.getElem?_append_left (by rw [List.length_map];exact (List.getElem?_eq_some_iff.mp h).1),List.getElem?_map,h];rfl
def dD (n:Nat) (ps:List PV):PSt:=ps.map some++List.replicate (n - ps.length) none
theorem eW {n:Nat}{ps:List PV}{i:Nat}{p:PV} (h:(dD n ps)[i]?=some (some p)):ps[i]?=some p:=by
 unfold dD at h
 by_cases hi:i < ps.length
 .rw [List.getElem?_append_left (by rw [List.length_map];exact hi),List.getElem?_map] at h
  cases e:ps[i]? with
  | none=>rw [e] at h;cases h
  | some q=>rw [e] at h;cases h;rfl
 .rw [List.getElem?_append_right (by rw [List.length_map];omega)] at h
  have:=List.mem_of_getElem? h
  rw [List.mem_replicate] at this
  cases this.2
section
variable {K:PySem.W.Frag}{tr:TA}{pr:PTA}{ts:TS}{ps:PTS}
theorem aF {c:FN} (h:LAs K tr pr):LE K (eN (spP K c) [] E0 tr) (bo c pr):=fun A ρ σ H Q Q' R q k=>h A ρ σ H _ _ R q fun vs H1 as ρ1 q1 f1 R1 o1=>by
 split at q1
 .rename_i ds e
  rw [List.append_nil]
  exact ⟨OO A ρ1 σ,ds,_,R1.dom2,o1.avD e,q1,fun r qr v H' g ov=>k v H' r ρ1 qr (f1.trans g.fr) ((ov.out R1 g).h0 f1.dm)⟩
 .exact q1.elim
theorem Out.outV {O:Addr->Prop}{ρ:PSt}{σ:St}{H H':Hp}{p:PV}{v:V} (h:Out K O ρ σ H H' p v):qi K O H H' p v:=by
 cases p with
 | dat d=>exact h.2.keeps (aO.less fun b z=>.inl z)
 | own ds =>
  obtain ⟨a,xs,e1,na,e2,e3,R,f⟩:=h
  exact ⟨a,xs,e1,e2,e3,f.keeps (aO.less fun b z=>.inl z)⟩
 | ins c ns ds =>
  obtain ⟨a,dx,fs,e1,na,e2,e3,m,R,f⟩:=h
  exact ⟨a,dx,fs,e1,e2,e3,m,f.keeps (aO.less fun b z=>.inl z)⟩
theorem fnP {c:FN}{N:List Str} (hl:LS K [] ts ps) (hn:∀ds Q,c ds Q->ds.length<=N.length) (hc:∀ds Q,c ds Q->ps { nx:=fun _=>Q (.dat .non),rt:=fun p _=>Q p } (dD N.length (ds.map .dat)))
  {vs:List V}{H:Hp}{Q:VK}{E:XK} (h:spP K c vs H Q E):ts { nx:=fun _ H'=>Q .non H',rt:=Q } (start N vs) H:=by
 obtain ⟨O,ds,Qc,dom,fv,hq,k⟩:=h
 have nw:∀(ρ:PSt) (b:Addr),ρ=dD N.length (ds.map .dat)->¬ Wr ρ (start N vs) b:=fun ρ b e ⟨i,p,e1,o1,s1⟩=>by
  rw [e] at e1
  have:=eW e1
  rw [List.getElem?_map] at this
  cases e2:ds[i]? with
  | none=>rw [e2] at this;cases this
  | some d=>rw [e2] at this;cases this;cases o1
 have lenv:=fv.length
 have hle:=hn ds Qc hq
 have R0:Rel K O (dD N.length (ds.map .dat)) (start N vs) H:=by
  refine ⟨?_,fun i p e=>?_,fun i j p q v e1 e2 o1 o2 s1 s2=>?_,dom,fun b _ w=>nw _ b rfl w⟩
  .unfold dD start
   rw [List.length_append,List.length_append,List.length_map,List.length_map,List.length_map,List.length_replicate,List.length_replicate,lenv]
  .have:=eW e
   rw [List.getElem?_map] at this
   cases e2:ds[i]? with
   | none=>rw [e2] at this;cases this
   | some d =>
    rw [e2] at this;cases this
    obtain ⟨v,hv,f⟩:=fv.getD e2
    exact ⟨v,kB hv,f.keeps (aO.less fun b z=>z.elim id fun w=>absurd w (nw _ b rfl))⟩
  .have:=eW e1
   rw [List.getElem?_map] at this
   cases e3:ds[i]? with
   | none=>rw [e3] at this;cases this
   | some d=>rw [e3] at this;cases this;cases o1
 refine hl [] O (fun _=>False) H _ _ H _ _ rfl R0 ⟨fun _ _ _ h=>h,fun _ h=>h,fun b w=>absurd w (nw _ b rfl),fun p hp=>nomatch hp⟩ (hc ds Qc hq) (fun ρ' σ' H' q r F=>?_) (fun v p ρ' σ' H' q o F=>?_) (fun _ _ _ z=>z.elim) (fun _ _ _ z=>z.elim)
 .exact k _ q .non H' (fun b o e=>F.kp b o id e) .non
 .exact k _ q v H' (fun b o e=>F.kp b o id e) o.outV
abbrev FR:=PV->List D->(PV->PV->Prop)->Prop
def spR (K:PySem.W.Frag) (c:FR):Sp:=fun vs H Q _=>∃(A:Addr->Prop) (a:Addr) (p:PV) (ws:List V) (ds:List D) (Qc:PV->PV->Prop),vs=.ref a::ws/\p.isOwn=true/\(∀b,A b->H b≠none)/\¬ A a/\RS K (eT A a) H p (.ref a)/\FVs K (eT A a) H ws ds/\c p ds Qc /\
 ∀r p',Qc r p'->p'.isOwn=true->∀v H',(∀b o,b≠a->H b=some o->H' b=some o)->H' a≠none->RS K (eT A a) H' p' (.ref a)->qi K (eT A a) H H' r v->(∀a',v=.ref a'->r.isOwn=true->RS K (eT (eT A a) a') H' p' (.ref a))->Q v H'
def b9 (c:FR) (i:Nat) (pr:PTA):PTE:=fun ρ Q=>match ρ[i]? with
 | some (some _)=>pr ρ fun as ρ1=>(match ρ1[i]?,avD as with
  | some (some p),some ds=>p.isOwn=true/\c p ds fun r p'=>Q r (ρ1.set i (some p'))
  | _,_=>False)
 | _=>False
theorem aX {c:FR}{i:Nat} (h:LAs K tr pr):LE K (eN (spR K c) [] E0 (bp (a4 i) tr)) (b9 c i pr):=fun A ρ σ H Q Q' R q k=>by
 unfold b9 at q
 split at q
 .rename_i p0 e0
  obtain ⟨v0,s0,_⟩:=R.get i p0 e0
  refine ⟨v0,s0,h A ρ σ H _ _ R q fun vs H1 as ρ1 q1 f1 R1 o1=>?_⟩
  split at q1
  .rename_i p ds e1 ed
   obtain ⟨ow,q1⟩:=q1
   obtain ⟨v1,s1,rs⟩:=R1.get i p e1
   rw [s0] at s1;cases s1
   obtain ⟨a,u,rfl,ea⟩:=rs.ref ow
   rw [List.append_nil]
   have wa:Wr ρ1 σ a:=⟨i,p,e1,ow,s0⟩
   have oeq:eT (fun b=>(OO A ρ1 σ b)/\b≠a) a=OO A ρ1 σ:=funext fun b=>propext ⟨fun z=>z.elim (fun z=>z.1) (fun z=>by rw [z];exact .inr wa),fun z=>by
    by_cases e:b=a
    .exact .inr e
    .exact .inl ⟨z,e⟩⟩
   refine ⟨fun b=>(OO A ρ1 σ b)/\b≠a,a,p,vs,ds,_,rfl,ow,fun b z=>R1.dom2 b z.1,fun z=>z.2 rfl,by rw [oeq];exact rs,by rw [oeq];exact o1.avD ed,q1,fun r p' qr ow' v H' kp ha rs' ov hx=>?_⟩
   rw [oeq] at rs' ov hx
   have domA:∀b,A b->H' b≠none:=fun b z=>by
    have:b≠a:=fun e=>R1.sep b z (by rw [e];exact wa)
    cases eb:H1 b with
    | none=>exact absurd eb (R1.dom b z)
    | some o=>rw [kp b o this eb];exact nofun
   cases r with
   | dat d =>
    obtain ⟨R2,f2⟩:=R1.step (A':=A) e1 ow ow' s0 kp ha (fun _ h=>h) (fun _ h=>.inl h) domA rs'
    exact k v H' _ _ qr (f1.trans f2) ⟨R2,FV.keeps (aO.less fun b z=>z.imp id (f2.ow b)) ov⟩
   | own es =>
    obtain ⟨a',xs,rfl,n1,e2,f⟩:=ov
    have hx:=hx a' rfl rfl
    have na:a'≠a:=fun e=>by rw [e,ea] at n1;cases n1
    have oo2:∀b,OO (eT A a') ρ1 σ b ↔ eT (OO A ρ1 σ) a' b:=fun b=>⟨fun z=>by
     rcases z with (z | z) | z
     .exact .inl (.inl z)
     .exact .inr z
     .exact .inl (.inr z),fun z=>by
     rcases z with (z | z) | z
     .exact .inl (.inl z)
     .exact .inr z
     .exact .inl (.inr z)⟩
    have oo2':OO (eT A a') ρ1 σ=eT (OO A ρ1 σ) a':=funext fun b=>propext (oo2 b)
    obtain ⟨R2,f2⟩:=R1.step (A':=eT A a') e1 ow ow' s0 kp ha (fun _ h=>.inl h) (fun b z=>z.imp id fun z=>by rw [z];exact n1) (fun b z=>z.elim (domA b) fun z=>by rw [z,e2];exact nofun) (by rw [oo2'];exact hx)
    .refine k _ H' (.own es) _ qr (f1.trans f2) ⟨a',xs,rfl,fun z=>R1.dom a' z n1,?_,e2,R2,f.keeps (aO.less fun b z=>?_)⟩
     .cases eb:H a' with
      | none=>rfl
      | some o=>exact absurd n1 (f1.dm a' (by rw [eb];exact nofun))
     .rw [<- oo2'];exact z.imp id (f2.ow b)
   | ins c ns es =>
    obtain ⟨a',dx,fs,rfl,n1,e2,m,f⟩:=ov
    have hx:=hx a' rfl rfl
    have oo2':OO (eT A a') ρ1 σ=eT (OO A ρ1 σ) a':=funext fun b=>propext ⟨fun z=>by
     rcases z with (z | z) | z
     .exact .inl (.inl z)
     .exact .inr z
     .exact .inl (.inr z),fun z=>by
     rcases z with (z | z) | z
     .exact .inl (.inl z)
     .exact .inr z
     .exact .inl (.inr z)⟩
    obtain ⟨R2,f2⟩:=R1.step (A':=eT A a') e1 ow ow' s0 kp ha (fun _ h=>.inl h) (fun b z=>z.imp id fun z=>by rw [z];exact n1) (fun b z=>z.elim (domA b) fun z=>by rw [z,e2];exact nofun) (by rw [oo2'];exact hx)
    .refine k _ H' (.ins c ns es) _ qr (f1.trans f2) ⟨a',dx,fs,rfl,fun z=>R1.dom a' z n1,?_,e2,m,R2,f.keeps (aO.less fun b z=>?_)⟩
     .cases eb:H a' with
      | none=>rfl
      | some o=>exact absurd n1 (f1.dm a' (by rw [eb];exact nofun))
     .rw [<- oo2'];exact z.imp id (f2.ow b)
  .exact q1.elim
 .exact q.elim
def Ap (Q:PV->PV->Prop) (r:PV) (ρ:PSt):Prop:=match ρ[0]? with
 | some (some p)=>p.isOwn=true/\Q r p
 | _=>False
theorem fnR {c:FR}{N:List Str} (hl:LS K [0] ts ps) (hn:∀p ds Q,c p ds Q->ds.length + 1<=N.length) (hc:∀p ds Q,p.isOwn=true->c p ds Q->ps { nx:=Ap Q (.dat .non),rt:=Ap Q } (dD N.length (p::ds.map .dat)))
  {vs:List V}{H:Hp}{Q:VK}{E:XK} (h:spR K c vs H Q E):ts { nx:=fun _ H'=>Q .non H',rt:=Q } (start N vs) H:=by
 obtain ⟨A,a,p,ws,ds,Qc,rfl,ow,dom,na,rs,fv,hq,k⟩:=h
 have s0:(start N (V.ref a::ws))[0]?=some (some (.ref a)):=kB rfl
 have b0:(dD N.length (p::ds.map .dat))[0]?=some (some p):=rfl
 have wr:∀b,Wr (dD N.length (p::ds.map .dat)) (start N (.ref a::ws)) b->b=a:=fun b ⟨i,q,e1,o1,s1⟩=>by
  have:=eW e1
  cases i with
  | zero=>rw [s0] at s1;cases s1;rfl
  | succ i =>
   rw [List.getElem?_cons_succ,List.getElem?_map] at this
   cases e2:ds[i]? with
   | none=>rw [e2] at this;cases this
   | some d=>rw [e2] at this;cases this;cases o1
 have wa:Wr (dD N.length (p::ds.map .dat)) (start N (.ref a::ws)) a:=⟨0,p,b0,ow,s0⟩
 have oeq:OO A (dD N.length (p::ds.map .dat)) (start N (.ref a::ws))=eT A a:=funext fun b=>propext ⟨fun z=>z.imp id (wr b),fun z=>z.imp id fun z=>by rw [z];exact wa⟩
 have lenv:=fv.length
 have hle:=hn p ds Qc hq
 have R0:Rel K A (dD N.length (p::ds.map .dat)) (start N (.ref a::ws)) H:=by
  refine ⟨?_,fun i q e=>?_,fun i j q1 q2 v e1 e2 o1 o2 s1 s2=>?_,dom,fun b z w=>?_⟩
  .unfold dD start
   simp only [List.length_append,List.length_map,List.length_replicate,List.length_cons,lenv]
  .have:=eW e
   rw [oeq]
   cases i with
   | zero=>cases this;exact ⟨_,s0,rs⟩
   | succ i =>
    rw [List.getElem?_cons_succ,List.getElem?_map] at this
    cases e2:ds[i]? with
    | none=>rw [e2] at this;cases this
    | some d =>
     rw [e2] at this;cases this
     obtain ⟨v,hv,f⟩:=fv.getD e2
     exact ⟨v,kB (by rw [List.getElem?_cons_succ];exact hv),f⟩
  .have own0:∀(i:Nat) (q:PV),(dD N.length (p::ds.map .dat))[i]?=some (some q)->q.isOwn=true->i=0:=fun i q e o=>by
    have:=eW e
    cases i with
    | zero=>rfl
    | succ i =>
     rw [List.getElem?_cons_succ,List.getElem?_map] at this
     cases e2:ds[i]? with
     | none=>rw [e2] at this;cases this
     | some d=>rw [e2] at this;cases this;cases o
   rw [own0 i q1 e1 o1,own0 j q2 e2 o2]
  .rw [wr b w] at z;exact na z
 have fin:∀(v:V) (r:PV) (ρ':PSt) (σ':St) (H':Hp),Ap Qc r ρ'->Out K A ρ' σ' H H' r v->dC [(0,.ref a)] (fun b=>b=a) H ρ' σ' H'->Q v H':=fun v r ρ' σ' H' q o F=>by
  unfold Ap at q
  split at q
  .rename_i p' e'
   obtain ⟨ow',q⟩:=q
   have sa:=F.fx (0,.ref a) (List.mem_singleton.mpr rfl)
   have wa':Wr ρ' σ' a:=⟨0,p',e',ow',sa⟩
   have kpa:∀b o,b≠a->H b=some o->H' b=some o:=fun b o n e=>F.kp b o n e
   cases r with
   | dat d =>
    obtain ⟨R1,f1⟩:=o
    obtain ⟨v1,s1,rs1⟩:=R1.get 0 p' e'
    rw [sa] at s1;cases s1
    have less:∀b,eT A a b->OO A ρ' σ' b:=fun b z=>z.imp id fun z=>by rw [z];exact wa'
    exact k _ p' q ow' v H' kpa (R1.wr wa') (rs1.keeps (aO.less less) fun _ _ _=>rfl) (f1.keeps (aO.less less)) (fun _ _ z=>nomatch z)
   | own es =>
    obtain ⟨a',xs,rfl,n1,n2,e3,R1,f1⟩:=o
    obtain ⟨v1,s1,rs1⟩:=R1.get 0 p' e'
    rw [sa] at s1;cases s1
    have less:∀b,eT (eT A a) a' b->OO (eT A a') ρ' σ' b:=fun b z=>by
     rcases z with (z | z) | z
     .exact .inl (.inl z)
     .exact .inr (by rw [z];exact wa')
     .exact .inl (.inr z)
    exact k _ p' q ow' _ H' kpa (R1.wr wa') (rs1.keeps (aO.less fun b z=>less b (.inl z)) fun _ _ _=>rfl) ⟨a',xs,rfl,n2,e3,f1.keeps (aO.less less)⟩ (fun a'' e _=>by cases e;exact rs1.keeps (aO.less less) fun _ _ _=>rfl)
   | ins c ns es =>
    obtain ⟨a',dx,fs,rfl,n1,n2,e3,m,R1,f1⟩:=o
    obtain ⟨v1,s1,rs1⟩:=R1.get 0 p' e'
    rw [sa] at s1;cases s1
    have less:∀b,eT (eT A a) a' b->OO (eT A a') ρ' σ' b:=fun b z=>by
     rcases z with (z | z) | z
     .exact .inl (.inl z)
     .exact .inr (by rw [z];exact wa')
     .exact .inl (.inr z)
    exact k _ p' q ow' _ H' kpa (R1.wr wa') (rs1.keeps (aO.less fun b z=>less b (.inl z)) fun _ _ _=>rfl) ⟨a',dx,fs,rfl,n2,e3,m,f1.keeps (aO.less less)⟩ (fun a'' e _=>by cases e;exact rs1.keeps (aO.less less) fun _ _ _=>rfl)
  .exact q.elim
 refine hl [(0,.ref a)] A (fun b=>b=a) H _ _ H _ _ rfl R0 ⟨fun _ _ _ h=>h,fun _ h=>h,fun b w=>.inl (wr b w),fun q hq=>by rw [List.mem_singleton.mp hq];exact s0⟩ (hc p ds Qc ow hq) (fun ρ' σ' H' q r F=>fin .non (.dat .non) ρ' σ' H' q ⟨r,.non⟩ F) (fun v p ρ' σ' H' q o F=>fin v p ρ' σ' H' q o F) (fun _ _ _ z=>z.elim) (fun _ _ _ z=>z.elim)
end
def DX:FN:=fun as Q=>∃ns:List Int,as=[.scr ns]/\ns.length<=63/\Q (.dat (.bl true))
theorem zm {K:PySem.W.Frag}{vs:List V}{H:Hp}{Q:VK}{E:XK} (h:sN K vs H Q E):spP K DX vs H Q E:=by
 obtain ⟨a,ns,rfl,hS,h63,q⟩:=h
 refine ⟨fun _=>False,[.scr ns],fun r=>r=.dat (.bl true),nofun,.cons (.scr ?_) .nil,⟨ns,rfl,h63,rfl⟩,fun r e v H' g o=>?_⟩
 .rcases hS with h | h
  .exact .inl ⟨id,h⟩
  .exact .inr h
 .subst e
  cases o
  exact q H'
section
variable {K:PySem.W.Frag}{X:Cx}
def BG:List V->Hp->VK->Prop:=fun xs H Q=>∃i j,xs=[.int i,.int j]/\Q (.int (if j < i then j else i)) H
def BH:List V->Hp->VK->Prop:=fun xs H Q=>∃i j,xs=[.int i,.int j]/\Q (.int (if j > i then j else i)) H
theorem x3 (hc:X.calm=true):bX X (.builtin "min") BG:=um hc
theorem BI (hc:X.calm=true):bX X (.builtin "max") BH:=ul hc
def wZ:FN
 | [.int i,.int j],Q=>Q (.dat (.int (if j < i then j else i)))
 | _,_=>False
def zn:FN
 | [.int i,.int j],Q=>Q (.dat (.int (if j > i then j else i)))
 | _,_=>False
theorem vf:LC K BG wZ:=by
 intro O H xs as Q Q' dom fs q k
 unfold wZ at q
 split at q
 .cases fs with
  | cons a b=>cases b with | cons b c=>cases c;rw [a.int,b.int];exact ⟨_,_,rfl,k _ H _ q (Gr.refl _) (.int _)⟩
 .exact q.elim
theorem zo:LC K BH zn:=by
 intro O H xs as Q Q' dom fs q k
 unfold zn at q
 split at q
 .cases fs with
  | cons a b=>cases b with | cons b c=>cases c;rw [a.int,b.int];exact ⟨_,_,rfl,k _ H _ q (Gr.refl _) (.int _)⟩
 .exact q.elim
def BJ (K:PySem.W.Frag):List V->Hp->VK->Prop:=fun xs H Q=>∃(p:Addr) (ns:List Int),xs=[.ref p]/\SqL K H p (ns.map V.int)/\0 < ns.length/\∀m:Int,m∈ns->(∀a∈ns,m<=a)->Q (.int m) H
def BK (K:PySem.W.Frag):List V->Hp->VK->Prop:=fun xs H Q=>∃(p:Addr) (ns:List Int),xs=[.ref p]/\SqL K H p (ns.map V.int)/\Q (.int ns.sum) H
def DY (K:PySem.W.Frag):List V->Hp->VK->Prop:=fun xs H Q=>∃(p:Addr) (bs:List Bool),xs=[.ref p]/\SqL K H p (bs.map V.bl)/\Q (.bl (bs.all id)) H
def DZ (K:PySem.W.Frag):List V->Hp->VK->Prop:=fun xs H Q=>∃(p:Addr) (bs:List Bool),xs=[.ref p]/\SqL K H p (bs.map V.bl)/\Q (.bl (bs.any id)) H
theorem BL (K:PySem.W.Frag) (e:X.K=K) (hc:X.calm=true):bX X (.builtin "min") (BJ K):=by subst e;exact u5 hc
theorem rN (K:PySem.W.Frag) (e:X.K=K) (hc:X.calm=true):bX X (.builtin "sum") (BK K):=by subst e;exact o9 hc
theorem zp (K:PySem.W.Frag) (e:X.K=K) (hc:X.calm=true):bX X (.builtin "all") (DY K):=by subst e;exact wS hc
theorem BM (K:PySem.W.Frag) (e:X.K=K) (hc:X.calm=true):bX X (.builtin "any") (DZ K):=by subst e;exact wT hc
def zq:FN
 | [.lst ds],Q=>∃ns:List Int,ds=ns.map .int/\0 < ns.length/\∀m:Int,m∈ns->(∀a∈ns,m<=a)->Q (.dat (.int m))
 | _,_=>False
def sY:FN
 | [.lst ds],Q=>∃ns:List Int,ds=ns.map .int/\Q (.dat (.int ns.sum))
 | _,_=>False
def BN:FN
 | [.lst ds],Q=>∃bs:List Bool,ds=bs.map .bl/\Q (.dat (.bl (bs.all id)))
 | _,_=>False
def CH:FN
 | [.lst ds],Q=>∃bs:List Bool,ds=bs.map .bl/\Q (.dat (.bl (bs.any id)))
 | _,_=>False
theorem zr:LC K (BJ K) zq:=by
 intro O H xs as Q Q' dom fs q k
 unfold zq at q
 split at q
 .obtain ⟨ns,rfl,h0,q⟩:=q
  cases fs with
  | cons a b =>
   cases b
   obtain ⟨p,ys,rfl,e1,f1⟩:=a.lst
   rw [f1.ints] at e1
   exact ⟨p,ns,rfl,SqL.of e1,h0,fun m hm hle=>k _ H _ (q m hm hle) (Gr.refl _) (.int _)⟩
 .exact q.elim
theorem nq:LC K (BK K) sY:=by
 intro O H xs as Q Q' dom fs q k
 unfold sY at q
 split at q
 .obtain ⟨ns,rfl,q⟩:=q
  cases fs with
  | cons a b =>
   cases b
   obtain ⟨p,ys,rfl,e1,f1⟩:=a.lst
   rw [f1.ints] at e1
   exact ⟨p,ns,rfl,SqL.of e1,k _ H _ q (Gr.refl _) (.int _)⟩
 .exact q.elim
theorem vh:LC K (DY K) BN:=by
 intro O H xs as Q Q' dom fs q k
 unfold BN at q
 split at q
 .obtain ⟨ns,rfl,q⟩:=q
  cases fs with
  | cons a b =>
   cases b
   obtain ⟨p,ys,rfl,e1,f1⟩:=a.lst
   rw [f1.bls] at e1
   exact ⟨p,ns,rfl,SqL.of e1,k _ H _ q (Gr.refl _) (.bl _)⟩
 .exact q.elim
theorem x4:LC K (DZ K) CH:=by
 intro O H xs as Q Q' dom fs q k
 unfold CH at q
 split at q
 .obtain ⟨ns,rfl,q⟩:=q
  cases fs with
  | cons a b =>
   cases b
   obtain ⟨p,ys,rfl,e1,f1⟩:=a.lst
   rw [f1.bls] at e1
   exact ⟨p,ns,rfl,SqL.of e1,k _ H _ q (Gr.refl _) (.bl _)⟩
 .exact q.elim
def zt (K:PySem.W.Frag):List V->Hp->VK->Prop:=fun xs H Q=>∃p ys,xs=[.ref p]/\((SqL K H p ys/\∀l,H l=none->Q (.ref l) (upd H l (.tup ys)))\/(SqT K H p ys/\Q (.ref p) H))
theorem fe (K:PySem.W.Frag) (e:X.K=K):bX X (.type "tuple") (zt K):=by subst e;exact mR
theorem vk (K:PySem.W.Frag) (e:X.K=K):bX X (.type "list") (m7 K):=by subst e;exact oM
def fV:FN
 | [.lst ds],Q=>Q (.dat (.tup ds))
 | [.tup ds],Q=>Q (.dat (.tup ds))
 | [.scr ns],Q=>Q (.dat (.tup (ns.map .int)))
 | _,_=>False
def zu:FN
 | [.lst ds],Q=>Q (.own ds)
 | [.tup ds],Q=>Q (.own ds)
 | [.scr ns],Q=>Q (.own (ns.map .int))
 | _,_=>False
theorem dH:LC K (zt K) fV:=by
 intro O H xs as Q Q' dom fs q k
 unfold fV at q
 split at q
 .cases fs with
  | cons a b =>
   cases b
   obtain ⟨p,ys,rfl,e1,f1⟩:=a.lst
   exact ⟨p,ys,rfl,.inl ⟨SqL.of e1,fun l hl=>k _ _ _ q (Gr.new hl) (kv dom hl f1)⟩⟩
 .cases fs with
  | cons a b =>
   cases b
   obtain ⟨p,ys,rfl,n1,e1,f1⟩:=a.tup
   exact ⟨p,ys,rfl,.inr ⟨SqT.of e1,k _ H _ q (Gr.refl _) (.tup n1 e1 f1)⟩⟩
 .cases fs with
  | cons a b =>
   cases b
   obtain ⟨p,rfl,e1⟩:=a.scr
   exact ⟨p,_,rfl,.inl ⟨e1,fun l hl=>k _ _ _ q (Gr.new hl) (kv dom hl (FVs.of_ints _))⟩⟩
 .exact q.elim
theorem zv:LC K (m7 K) zu:=by
 intro O H xs as Q Q' dom fs q k
 unfold zu at q
 split at q
 .cases fs with
  | cons a b =>
   cases b
   obtain ⟨p,ys,rfl,e1,f1⟩:=a.lst
   exact ⟨p,ys,rfl,.inl (SqL.of e1),fun l hl=>k _ _ _ q (Gr.new hl) (eO hl f1)⟩
 .cases fs with
  | cons a b =>
   cases b
   obtain ⟨p,ys,rfl,n1,e1,f1⟩:=a.tup
   exact ⟨p,ys,rfl,.inr (SqT.of e1),fun l hl=>k _ _ _ q (Gr.new hl) (eO hl f1)⟩
 .cases fs with
  | cons a b =>
   cases b
   obtain ⟨p,rfl,e1⟩:=a.scr
   exact ⟨p,_,rfl,.inl e1,fun l hl=>k _ _ _ q (Gr.new hl) (eO hl (FVs.of_ints _))⟩
 .exact q.elim
variable {ta:TE}{pa:PA1}{tr:TA}{pr:PTA}{pe:PTE}
def tY (i:Int) (n:Nat):List D:=(List.range n).map fun (k:Nat)=>D.int (i + (k:Int))
def mkL (tup:Bool) (ds:List D):PV:=match tup with | true=>.dat (.tup ds) | false=>.own ds
def BO (tup:Bool) (pr:PTA):PTE:=fun ρ Q=>pr ρ fun as ρ1=>match as with
 | [.v (.int j)]=>(0<=j/\j<=1000000)/\Q (mkL tup (tY 0 j.toNat)) ρ1
 | _=>False
theorem BP {O:Addr->Prop}{H:Hp} (i:Int) (n:Nat):FVs K O H (qq i 1 n) (tY i n):=by
 have e:∀l:List Nat,FVs K O H (l.map fun (k:Nat)=>V.int (i + k * 1)) (l.map fun (k:Nat)=>D.int (i + (k:Int))):=fun l=>by
  induction l with
  | nil=>exact .nil
  | cons a r ih=>exact .cons (by show FV K O H (V.int (i + (a:Int) * 1)) (D.int (i + (a:Int)));rw [show i + (a:Int) * 1=i + (a:Int) by omega];exact .int _) ih
 exact e _
theorem mn {i j:Int} (h:i<=j):Builtin.Range.rangeSize i j 1=(((j - i).toNat:Nat):Int):=by
 unfold Builtin.Range.rangeSize
 rw [if_pos (by decide)]
 simp only [Int.ediv_one]
 split <;> omega
theorem sZ {i j:Int} (h0:-1000000<=i) (h1:i<=j) (h2:j<=1000000):Builtin.Range.small i j 1=true:=by
 unfold Builtin.Range.small
 rw [mn h1]
 simp only [Builtin.Range.rangeFitsLong,Bool.and_eq_true,Bool.or_eq_true,decide_eq_true_eq,beq_iff_eq,show (1:Int) > 0 by decide,if_true]
 omega
def mkO (tup:Bool):List V->HO:=match tup with | true=>.tup | false=>.lst
theorem BQ {O:Addr->Prop}{H:Hp}{xs:List V}{ds:List D}{p:Addr} (tup:Bool) (dom:∀b,O b->H b≠none) (hp:H p=none) (f:FVs K O H xs ds):qi K O H (upd H p (mkO tup xs)) (mkL tup ds) (.ref p):=by
 cases tup with
 | true=>exact kv dom hp f
 | false=>exact eO hp f
theorem xa (tup:Bool) (h:LAs K tr pr):LE K (tCB (C3 K (mkO tup)) (bp (fun σ H Q=>tr σ H fun vs H1=>∃j:Int,vs=[.int j]/\∀p,H1 p=none->Q (.ref p) (upd H1 p (xQ p 0 j 1))) eM)) (BO tup pr):=fun A ρ σ H Q Q' R q k=>h A ρ σ H _ _ R q fun vs H1 as ρ1 q1 f1 R1 o1=>by
 split at q1
 .rename_i j
  cases o1 with
  | cons a b =>
   cases b
   cases a
   refine ⟨j,rfl,fun p hp=>⟨p,0,j,1,j.toNat,rfl,aE,sZ (by decide) q1.1.1 q1.1.2,by rw [mn q1.1.1,Int.sub_zero],by omega,fun l hl=>?_⟩⟩
   have g:Gr H1 (upd H1 p (xQ p 0 j 1)):=Gr.new hp
   have R2:=R1.gr g
   have g2:Gr (upd H1 p (xQ p 0 j 1)) (upd (upd H1 p (xQ p 0 j 1)) l (mkO tup (qq 0 1 j.toNat))):=Gr.new hl
   exact k _ _ _ ρ1 q1.2 (f1.trans (g.fr.trans g2.fr)) ((qi.out R2 g2 (BQ tup R2.dom2 hl (BP 0 _))).h0 fun b z=>(g.fr (ρ:=ρ1) (σ:=σ)).dm b (f1.dm b z))
 .exact q1.elim
theorem BR (K:PySem.W.Frag) (e:X.K=K) (hc:X.calm=true):bX X (.type "list") (C3 K (mkO false)):=by subst e;exact sQ hc
def rO (pa:PA1):PTE:=fun ρ Q=>pa ρ fun x ρ1=>match cont ρ1 x with
 | some (.lst ds)=>Q (.own ds.reverse) ρ1
 | _=>False
def rP (K:PySem.W.Frag) (te:TE):TE:=fun σ H Q=>te σ H fun x H1=>∃a xs,x=.ref a/\SqL K H1 a xs/\∀l,H1 l=none->Q (.ref l) (upd H1 l (.lst xs.reverse))
theorem qv {e:Expr}{te:TE}{p p1 p2 pos:Pos} (K:PySem.W.Frag) (eK:X.K=K) (hc:X.calm=true) (he:PE X e te) (hg1:Gl X "list") (hm1:X.mg "list"=none) (hg2:Gl X "reversed") (hm2:X.mg "reversed"=none)
  (hs:starEach [.Call (.Name "reversed" p1) [e] [] p2] X.env=[(false,eval (.Call (.Name "reversed" p1) [e] [] p2) X.env)]:=by rfl) (hs2:starEach [e] X.env=[(false,eval e X.env)]:=by rfl) :
  PE X (.Call (.Name "list" p) [.Call (.Name "reversed" p1) [e] [] p2] [] pos) (rP K te):=by subst eK;exact sS hc he hg1 hm1 hg2 hm2 hs hs2
theorem tm (h:LA1 K ta pa):LE K (rP K ta) (rO pa):=fun A ρ σ H Q Q' R q k=>h A ρ σ H _ _ R q fun v H1 a ρ1 q1 f1 R1 o1=>by
 split at q1
 .rename_i ds e
  obtain ⟨p,xs,rfl,e1,fs⟩:=(R1.cont o1 e).lst
  refine ⟨p,xs,rfl,SqL.of e1,fun l hl=>?_⟩
  have g:Gr H1 (upd H1 l (.lst xs.reverse)):=Gr.new hl
  exact k _ _ _ ρ1 q1 (f1.trans g.fr) ((qi.out (p:=.own ds.reverse) R1 g (eO hl fs.reverse)).h0 f1.dm)
 .exact q1.elim
abbrev FM:=List Nat->List D->(PV->Prop)->Prop
def LM (K:PySem.W.Frag) (r:V->List V->Hp->VK->Prop) (f:FM):Prop:=∀(O:Addr->Prop) (H:Hp) (l:List Nat) (xs:List V) (as:List D) (Q:PV->Prop) (Q':VK),(∀b,O b->H b≠none)->l.length<=1000000->Ao K O H xs as->f l as Q ->
 (∀v H' p,Q p->Gr H H'->qi K O H H' p v->Q' v H')->r (.str (S l)) xs H Q'
def pSM (f:FM) (pe:PTE) (pr:PTA):PTE:=fun ρ Q=>pe ρ fun p ρ1=>match p with
 | .dat (.str l)=>pr ρ1 fun as ρ2=>(match conts ρ2 as with
  | some ds=>f l ds fun r=>Q r ρ2
  | none=>False)
 | _=>False
theorem BS {r:V->List V->Hp->VK->Prop}{f:FM} (o:LM K r f) (he:LE K ta pe) (hr:LAs K tr pr):LE K (tBM K "str" r ta tr) (pSM f pe pr):=fun A ρ σ H Q Q' R q k=>he A ρ σ H _ _ R q fun v H1 p ρ1 q1 f1 o1=>by
 split at q1
 .rename_i l
  obtain ⟨R1,fv⟩:=o1
  cases fv with
  | str _ hl =>
   refine ⟨rfl,hr A ρ1 σ H1 _ _ R1 q1 fun vs H2 as ρ2 q2 f2 R2 o2=>?_⟩
   split at q2
   .rename_i ds e
    exact o _ H2 l vs ds _ _ R2.dom2 hl (R2.conts o2 e) q2 fun z H3 p q3 g ov=>k z H3 p ρ2 q3 ((f1.trans f2).trans g.fr) ((ov.out R2 g).h0 fun b z=>f2.dm b (f1.dm b z))
   .exact q2.elim
 .exact q1.elim
def BU:V->List V->Hp->VK->Prop:=fun x xs H Q=>∃a b,x=.str (S a)/\xs=[.str (S b)]/\Q (.bl (decide (b <:+ a))) H
def x5:V->List V->Hp->VK->Prop:=fun x xs H Q=>∃a b,x=.str (S a)/\xs=[.str (S b)]/\Q (.int (fnd a b 0)) H
theorem zw:MtR X "str.endswith" BU:=qp
theorem xb:MtR X "str.find" x5:=wP
def zx:FM
 | a,[.str b],Q=>Q (.dat (.bl (decide (b <:+ a))))
 | _,_,_=>False
def vm:FM
 | a,[.str b],Q=>Q (.dat (.int (fnd a b 0)))
 | _,_,_=>False
theorem zy:LM K BU zx:=by
 intro O H l xs as Q Q' dom hl fs q k
 unfold zx at q
 split at q
 .cases fs with | cons a b=>cases b;rw [a.str.1];exact ⟨_,_,rfl,rfl,k _ H _ q (Gr.refl _) (.bl _)⟩
 .exact q.elim
theorem xc:LM K x5 vm:=by
 intro O H l xs as Q Q' dom hl fs q k
 unfold vm at q
 split at q
 .cases fs with | cons a b=>cases b;rw [a.str.1];exact ⟨_,_,rfl,rfl,k _ H _ q (Gr.refl _) (.int _)⟩
 .exact q.elim
def eA (f:Str):List Str->Option Nat
 | []=>none
 | n::r=>if n=f then some 0 else (eA f r).map (· + 1)
theorem pF {f:Str}:∀{fs:List (Str×V)}{k:Nat},eA f (fs.map Prod.fst)=some k->fs.lookup f=(fs.map Prod.snd)[k]?
 | [],k,h=>by cases h
 | (n,v)::r,k,h=>by
  unfold eA at h
  rw [List.map_cons] at h
  simp only at h
  rw [List.lookup_cons]
  by_cases e:n=f
  .rw [if_pos e] at h;cases h
   rw [show (f == n)=true by rw [e];exact beq_self_eq_true _];rfl
  .rw [if_neg e] at h
   rw [show (f == n)=false from beq_eq_false_iff_ne.mpr fun z=>e z.symm]
   cases e2:eA f (r.map Prod.fst) with
   | none=>rw [e2] at h;cases h
   | some j=>rw [e2] at h;cases h;show List.lookup f r=_;rw [pF e2];simp
theorem kC {f:Str}:∀{fs:List (Str×V)},eA f (fs.map Prod.fst)=none->fs.lookup f=none
 | [],h=>rfl
 | (n,v)::r,h=>by
  unfold eA at h
  rw [List.map_cons] at h
  simp only at h
  rw [List.lookup_cons]
  by_cases e:n=f
  .rw [if_pos e] at h;cases h
  .rw [if_neg e] at h
   rw [show (f == n)=false from beq_eq_false_iff_ne.mpr fun z=>e z.symm]
   cases e2:eA f (r.map Prod.fst) with
   | none=>exact kC e2
   | some j=>rw [e2] at h;cases h
theorem nr {f:Str}{v:V}:∀{fs:List (Str×V)},eA f (fs.map Prod.fst)=none->md f v fs=fs++[(f,v)]
 | [],h=>rfl
 | (n,x)::r,h=>by
  unfold eA at h
  rw [List.map_cons] at h
  simp only at h
  by_cases e:n=f
  .rw [if_pos e] at h;cases h
  .rw [if_neg e] at h
   cases e2:eA f (r.map Prod.fst) with
   | none=>unfold md;rw [if_neg e,nr e2];rfl
   | some j=>rw [e2] at h;cases h
theorem FVc.obj {O:Addr->Prop}{H:Hp}{v:V}{c:Str}{ns:List Str}{ds:List D} (h:FVc K O H v (.obj c ns ds)):∃a dx fs,v=.ref a/\H a=some (.ins (bC K c) dx fs)/\fs.map Prod.fst=ns/\FVs K O H (fs.map Prod.snd) ds:=by
 rcases h with h | ⟨a,xs,ds',e1,e2,e3,f⟩ | ⟨a,dx,c,fs,ns,ds',e1,e2,e3,m,f⟩
 .cases h with
  | obj n e m f=>exact ⟨_,_,_,rfl,e,m,f⟩
 .cases e2
 .cases e2;exact ⟨a,dx,fs,e1,e3,m,f⟩
def qw (c0:Str) (ns0:List Str) (k:Nat) (pa:PA1):PTE:=fun ρ Q=>pa ρ fun x ρ1=>match cont ρ1 x with
 | some (.obj c ns ds)=>(c=c0/\ns=ns0)/\∃d,ds[k]?=some d/\Q (.dat d) ρ1
 | _=>False
theorem eB {c0 f:Str}{ns0:List Str}{i:Nat} (hc:Cls K (bC K c0)) (hn:er K (bC K c0) f) (hk:eA f ns0=some i) (h:LA1 K ta pa):LE K (sE K ta f) (qw c0 ns0 i pa):=fun A ρ σ H Q Q' R q k=>h A ρ σ H _ _ R q fun v H1 a ρ1 q1 f1 R1 o1=>by
 split at q1
 .rename_i c ns ds e
  obtain ⟨⟨rfl,rfl⟩,d,hd,q1⟩:=q1
  obtain ⟨a,dx,fs,rfl,e1,m,f⟩:=(R1.cont o1 e).obj
  obtain ⟨v,hv,fv⟩:=f.getD hd
  exact ⟨a,_,dx,fs,v,rfl,e1,hc,hn,by rw [pF (k:=i) (by rw [m];exact hk)];exact hv,k v H1 _ ρ1 q1 f1 ⟨R1,fv⟩⟩
 .exact q1.elim
def kE (c0:Str) (ns0:List Str) (f:Str) (i:Nat) (pe:PTE):PTS:=fun D ρ=>pe ρ fun p ρ1=>match ρ1[i]? with
 | some (some (.ins c ns ds))=>(c=c0/\ns=ns0/\ns0.length < 1000)/\D.nx (ρ1.set i (some (.ins c0 (ns0++[f]) (ds++[p.d]))))
 | _=>False
theorem jd {fs':List Nat}{c0 f:Str}{ns0:List Str}{i:Nat} (hc:Cls K (bC K c0)) (hn:er K (bC K c0) f) (hk:eA f ns0=none) (h:LE K ta pe):LS K fs' (DJ K (a4 i) ta f) (kE c0 ns0 f i pe):=fun fx A R H0 ρ σ H D D' hf r F q k1 k2 k3 k4=>h A ρ σ H _ _ r q fun v H1 p ρ1 q1 f1 o1=>by
 obtain ⟨R1,fv⟩:=o1.frz
 split at q1
 .rename_i c ns ds e
  obtain ⟨⟨rfl,rfl,hl⟩,q1⟩:=q1
  obtain ⟨w,s,a,dx,fs,rfl,g,m,ff⟩:=R1.get i _ e
  have hk':eA f (fs.map Prod.fst)=none:=by rw [m];exact hk
  have wa:OO A ρ1 σ a:=.inr ⟨i,_,e,rfl,s⟩
  have kw:∀o,aO (OO A ρ1 σ) H1 (OO A ρ1 σ) (upd H1 a o):=fun o b u n h=>⟨n,by rw [au (fun z=>n (by rw [z];exact wa))];exact h⟩
  obtain ⟨R2,f2⟩:=R1.write (o:=.ins (bC K c) dx (md f v fs)) (q:=.ins c (ns++[f]) (ds++[p.d])) e rfl rfl s ⟨a,dx,md f v fs,rfl,aE,by rw [nr hk',List.map_append,m];rfl,by rw [nr hk',List.map_append];exact (ff.append (.cons fv .nil)).keeps (kw _)⟩
  refine ⟨_,s,a,_,dx,fs,rfl,g,hc,hn,?_,k1 _ _ _ q1 R2 ((F.fr f1).fr f2)⟩
  have:fs.length=ns.length:=by rw [<- m,List.length_map]
  omega
 .exact q1.elim
def zA (c0:Str) (c:FR) (pr:PTA):PTE:=fun ρ Q=>pr ρ fun as ρ1=>match avD as with
 | some ds=>c (.ins c0 [] []) ds fun r p'=>(match r,p' with
  | .dat .non,.ins c1 ns es=>c1=c0/\Q (.ins c1 ns es) ρ1
  | _,_=>False)
 | none=>False
theorem vn {c0:Str}{c:FR} (h:LAs K tr pr):LE K (wB (bC K c0) (spR K c) [] E0 tr) (zA c0 c pr):=fun A ρ σ H Q Q' R q k=>h A ρ σ H _ _ R q fun vs H1 as ρ1 q1 f1 R1 o1=>by
 split at q1
 .rename_i ds e
  intro x dx hx hdx hne
  rw [List.append_nil]
  let H2:=upd (upd H1 dx (.own x)) x (.ins (bC K c0) dx [])
  have g2:Gr H1 H2:=fun b o z=>by
   show upd (upd H1 dx (.own x)) x _ b=_
   rw [au (aW z hx),au (aW z hdx)];exact z
  have nx:¬ OO A ρ1 σ x:=R1.oo hx
  have keep2:aO (OO A ρ1 σ) H1 (eT (OO A ρ1 σ) x) H2:=fun b o n z=>by
   refine ⟨fun y=>?_,g2 b o z⟩
   rcases y with y | y
   .exact n y
   .rw [y,hx] at z;cases z
  refine ⟨OO A ρ1 σ,x,.ins c0 [] [],vs,ds,_,rfl,rfl,fun b z=>(g2.fr (ρ:=ρ1) (σ:=σ)).dm b (R1.dom2 b z),nx,⟨x,dx,[],rfl,aE,rfl,.nil⟩,(o1.avD e).keeps keep2,q1,fun r p' qr ow' v H' kp ha rs ov _=>?_⟩
  split at qr
  .obtain ⟨rfl,qr⟩:=qr
   cases ov
   refine ⟨rfl,?_⟩
   obtain ⟨a',dx',fs,ea,e2,m,f⟩:=rs
   cases ea
   have g:Gr H1 H':=fun b o z=>kp b o (aW z hx) (g2 b o z)
   have hx0:H x=none:=by
    cases eb:H x with
    | none=>rfl
    | some o=>exact absurd hx (f1.dm x (by rw [eb];exact nofun))
   refine k _ H' _ ρ1 qr (f1.trans g.fr) ⟨x,dx',fs,rfl,fun z=>nx (.inl z),hx0,e2,m,R1.grA g hx (by rw [e2];exact nofun),f.keeps (aO.less fun b z=>?_)⟩
   rcases z with (z | z) | z
   .exact .inl (.inl z)
   .exact .inr z
   .exact .inl (.inr z)
  .exact qr.elim
 .exact q1.elim
def rQ (c0:Str) (ns0:List Str) (c:FN) (pe:PTE) (pr:PTA):PTE:=fun ρ Q=>pe ρ fun p ρ1=>match p.d with
 | .obj c1 ns ds=>(c1=c0/\ns=ns0)/\pr ρ1 fun as ρ2=>(match avD as with
  | some es=>c (.obj c1 ns ds::es) fun r=>Q r ρ2
  | none=>False)
 | _=>False
theorem nt {c0 m:Str}{ns0:List Str}{c:FN} (hm:eA m ns0=none) (he:LE K ta pe) (hr:LAs K tr pr):LE K (yG (bC K c0) m (spP K c) [] E0 ta tr) (rQ c0 ns0 c pe pr):=fun A ρ σ H Q Q' R q k=>he A ρ σ H _ _ R q fun v H1 p ρ1 q1 f1 o1=>by
 obtain ⟨R1,fv⟩:=o1.frz
 split at q1
 .rename_i c1 ns ds e
  rw [e] at fv
  obtain ⟨⟨rfl,rfl⟩,q1⟩:=q1
  obtain ⟨a,dx,fs,rfl,e1,mm,f⟩:=FVc.obj (.inl fv)
  refine ⟨a,dx,fs,rfl,e1,kC (by rw [mm];exact hm),hr A ρ1 σ H1 _ _ R1 q1 fun vs H2 as ρ2 q2 f2 R2 o2=>?_⟩
  split at q2
  .rename_i es e3
   rw [List.append_nil]
   exact ⟨OO A ρ2 σ,_::es,_,R2.dom2,.cons (fv.keeps f2.keeps) (o2.avD e3),q2,fun r qr v H' g ov=>k v H' r ρ2 qr ((f1.trans f2).trans g.fr) ((ov.out R2 g).h0 fun b z=>f2.dm b (f1.dm b z))⟩
  .exact q2.elim
 .exact q1.elim
end
abbrev BV:R2:=rI0 fun i j=>.int (i - j)
abbrev xf:R2:=rI (fun _ j=>0 < j) fun i j=>.int (i % j)
abbrev BW:R2:=rI CM fun i j=>.int (i / j)
abbrev Ds:R2:=rI CN fun i j=>.int (i ^ j.toNat)
abbrev Dt:R2:=rI0 fun i j=>.bl (decide (j < i))
abbrev D0:R2:=rI0 fun i j=>.bl (decide (j<=i))
abbrev Du:V->Hp->VK->Prop:=rU fun i=>.int (-i)
abbrev xg:F2:=fI0 fun i j=>.int (i - j)
abbrev fN:F2:=fI (fun _ j=>0 < j) fun i j=>.int (i % j)
abbrev Aq:F2:=fI (fun _ j=>0 < j/\j < 1073741824) fun i j=>.int (i / j)
abbrev D1:F2:=fI (fun i j=>0<=j/\j<=1000000/\i.natAbs < 2 ^ 64) fun i j=>.int (i ^ j.toNat)
abbrev fGt:F2:=fI0 fun i j=>.bl (decide (j < i))
abbrev fGe:F2:=fI0 fun i j=>.bl (decide (j<=i))
def BX:D->(PV->Prop)->Prop
 | .int i,Q=>Q (.dat (.int (-i)))
 | _,_=>False
section
variable {K:PySem.W.Frag}{X:Cx}{ta:TE}{tr:TA}{pr:PTA}{ts:TS}{ps:PTS}
theorem nu:OpR X (binaryOp .Sub) BV:=AO
theorem cF:OpR X (binaryOp .Mod) xf:=AR
theorem mq:OpR X (binaryOp .FloorDiv) BW:=yx
theorem BY:OpR X (binaryOp .Pow) Ds:=AS
theorem Ar:OpR X (compareOp .Gt) Dt:=CT
theorem D2:OpR X (compareOp .GtE) D0:=CU
theorem vo:LU K Du BX:=by
 intro O H x a Q Q' dom fx q k
 unfold BX at q
 split at q
 .rename_i i;exact ⟨i,fx.int,k _ H _ q (Gr.refl _) (.int _)⟩
 .exact q.elim
theorem gA {es:List Expr}{ct:Nat}{tp:Pos} (K:PySem.W.Frag) (e:X.K=K) {a:Expr}{ta:TA}{p pos:Pos} (hg:Gl X "enumerate") (hm:X.mg "enumerate"=none) (ha:PA X [a] ta) (hs:starEach [a] X.env=[(false,eval a X.env)]:=by rfl) :
  PI X (.Tuple es ct tp) (.Call (.Name "enumerate" p) [a] [] pos) (sV K ta):=by subst e;exact yZ hg hm ha hs
theorem gJ {ix:List (Option Nat)}{fs:List Nat}{i:Nat} (h:∀k∈fs,k∈vd ix) (hi:(vd ix).contains i=false):fs.contains i=false:=by
 cases e:fs.contains i with
 | false=>rfl
 | true =>
  have:=h i (List.contains_iff_mem.mp e)
  rw [List.contains_iff_mem.mpr this] at hi;cases hi
theorem lG (t:Value) (b c:Bool) (h1:PySem.W.kitOne K t (.type "list")=some b) (h2:PySem.W.kitOne K t (.type "tuple")=some c):PySem.W.kitAny K t [.type "list",.type "tuple"]=some (b || c):=by
 simp only [PySem.W.kitAny,h1,h2]
 cases b <;> cases c <;> rfl
def x6 (c:FN) (es:List D) (pr:PTA):PTE:=fun ρ Q=>pr ρ fun as ρ1=>match avD as with
 | some ds=>c (ds++es) fun r=>Q r ρ1
 | none=>False
theorem xh {c:FN}{vs0:List V}{ds:List D} (hd:∀{O:Addr->Prop}{H:Hp},FVs K O H vs0 ds) (h:LAs K tr pr):LE K (eN (spP K c) vs0 E0 tr) (x6 c ds pr):=fun A ρ σ H Q Q' R q k=>h A ρ σ H _ _ R q fun vs H1 as ρ1 q1 f1 R1 o1=>by
 split at q1
 .rename_i es e
  exact ⟨OO A ρ1 σ,_,_,R1.dom2,(o1.avD e).append hd,q1,fun r qr v H' g ov=>k v H' r ρ1 qr (f1.trans g.fr) ((ov.out R1 g).h0 f1.dm)⟩
 .exact q1.elim
theorem io {c:FN}{n:Nat} (hn:∀ds Q,c ds Q->ds.length=n) {vs:List V}{H:Hp}{Q:VK}{E:XK} (h:spP K c vs H Q E):vs.length=n:=by
 obtain ⟨O,ds,Qc,_,f,hq,_⟩:=h
 rw [f.length];exact hn ds Qc hq
theorem As {c:FR}{n:Nat} (hn:∀p ds Q,c p ds Q->ds.length + 1=n) {vs:List V}{H:Hp}{Q:VK}{E:XK} (h:spR K c vs H Q E):vs.length=n:=by
 obtain ⟨A,a,p,ws,ds,Qc,rfl,_,_,_,_,f,hq,_⟩:=h
 rw [List.length_cons,f.length];exact hn p ds Qc hq
abbrev cU (pp:PTS) (n:Nat) (ds:List D) (Q:PV->Prop):Prop:=pp { nx:=fun _=>Q (.dat .non),rt:=fun p _=>Q p } (dD n (ds.map .dat))
abbrev tZ (pp:PTS) (n:Nat) (p:PV) (ds:List D) (Q:PV->PV->Prop):Prop:=pp { nx:=Ap Q (.dat .non),rt:=Ap Q } (dD n (p::ds.map .dat))
end
end L2
namespace L2
theorem Cal.imp {P:PySem.Program}{w:PySem.World}{K:PySem.W.Frag}{mg:PySem.Str->Option PySem.Value}{base:PySem.Heap}{k:Nat}{x:PySem.Str}{ps:List PySem.Str}{sp sp':Sp} (C:Cal P w K mg base k x ps sp) (h:∀vs H Q E,sp' vs H Q E->sp vs H Q E):Cal P w K mg base k x ps sp':=by
 obtain ⟨f,fd,F,r⟩:=C.ex
 exact ⟨f,fd,F.imp h,r⟩
end L2
namespace L2
open PySem PySem.Spec PyProof.Rows
theorem cfm {ix:List (Option Nat)}{ρ1:PSt}{n:Nat}{it:Nat->D}{g:PTG}{pt:PTT}{pe:PTE}{Q:PKt} (T:PSt->Prop) (f:Nat->Option D) (h0:T (bS ix ρ1))
  (hs:∀k τ d,k < n->d=it k->T τ->∀(K1:D->PSt->Prop) (K2:PSt->Prop),(∀d τ',f k=some d->T τ'->K1 d τ')->(∀τ',f k=none->T τ'->K2 τ')->g (.dat d) τ fun τ2=>pt τ2 fun ok τ3=>gz ok (pe τ3 fun p τ4=>K1 p.d τ4) (K2 τ3))
  (hq:∀τ,T τ->Q (.own ((List.range n).filterMap f)) (eo ix ρ1 τ)) :
  lF ix ρ1 n it g pt pe Q:=by
 refine ⟨fun k ys τ=>ys=(List.range k).filterMap f/\T τ,⟨rfl,h0⟩,fun k ys τ dd hk ed ⟨e,t⟩=>?_,fun ys τ ⟨e,t⟩=>by rw [e];exact hq τ t⟩
 have r:(List.range (k + 1)).filterMap f=(List.range k).filterMap f++(f k).toList:=by
  rw [List.range_succ,List.filterMap_append]
  cases e:f k with
  | none=>rw [show [k].filterMap f=[] by simp [e]];rfl
  | some d=>rw [show [k].filterMap f=[d] by simp [e]];rfl
 refine hs k τ dd hk ed t (fun d τ'=>(ys++[d]=(List.range (k + 1)).filterMap f/\T τ')) (fun τ'=>(ys=(List.range (k + 1)).filterMap f/\T τ')) (fun d τ' h t'=>⟨?_,t'⟩) (fun τ' h t'=>⟨?_,t'⟩)
 .rw [r,e,h];rfl
 .rw [r,e,h];simp
theorem t3 {ix:List (Option Nat)}{ρ1:PSt}{n:Nat}{it:Nat->D}{g:PTG}{pe:PTE}{Q:PKt} (T:PSt->Prop) (f:Nat->D) (h0:T (bS ix ρ1))
  (hs:∀k τ d,k < n->d=it k->T τ->∀K1:D->PSt->Prop,(∀τ',T τ'->K1 (f k) τ')->g (.dat d) τ fun τ2=>pe τ2 fun p τ4=>K1 p.d τ4)
  (hq:∀τ,T τ->Q (.own ((List.range n).map f)) (eo ix ρ1 τ)) :
  lF ix ρ1 n it g jY pe Q:=by
 refine cfm T (fun k=>some (f k)) h0 (fun k τ d hk ed t K1 K2 k1 k2=>?_) fun τ t=>?_
 .exact hs k τ d hk ed t K1 fun τ' t'=>k1 _ τ' rfl t'
 .have:(List.range n).filterMap (fun k=>some (f k))=(List.range n).map f:=by rw [<- List.filterMap_eq_map];rfl
  rw [this];exact hq τ t
theorem pG {β:Type} (f:D->β) (ds:List D):(List.range ds.length).map (fun k=>f (itD ds k))=ds.map f:=by
 apply List.ext_getElem?
 intro i
 rw [List.getElem?_map,List.getElem?_map]
 by_cases h:i < ds.length
 .rw [List.getElem?_range h,vc h];rfl
 .rw [List.getElem?_eq_none (by rw [List.length_range];omega),List.getElem?_eq_none (by omega)];rfl
theorem fg {β:Type} (f:Nat->β) (l:List Nat):(List.range l.length).map (fun k=>f (l.getD k 0))=l.map f:=by
 apply List.ext_getElem?
 intro i
 rw [List.getElem?_map,List.getElem?_map]
 by_cases h:i < l.length
 .rw [List.getElem?_range h]
  show some (f (l.getD i 0))=_
  rw [List.getD_eq_getElem?_getD,List.getElem?_eq_getElem h];rfl
 .rw [List.getElem?_eq_none (by rw [List.length_range];omega),List.getElem?_eq_none (by omega)];rfl
def pw (ws:List (List Nat)) (k:Nat):List Nat:=ws.getD k []
theorem fH {ws:List (List Nat)}{k:Nat} (h:k < ws.length):ws[k]?=some (pw ws k):=by unfold pw;rw [List.getD_eq_getElem?_getD,List.getElem?_eq_getElem h];rfl
theorem jA {ws:List (List Nat)}{k:Nat} (h:k < ws.length):pw ws k∈ws:=List.mem_of_getElem? (fH h)
theorem fW {ws:List (List Nat)}{k:Nat} (h:k < (ws.map D.str).length):itD (ws.map D.str) k=.str (pw ws k):=fU (by rw [List.getElem?_map,fH (by rwa [List.length_map] at h)];rfl)
theorem qx {ns:List Int}{k:Nat} (h:k < (ns.map D.int).length):itD (ns.map D.int) k=.int (ns.getD k 0):=fU (by
 have h:k < ns.length:=by rwa [List.length_map] at h
 rw [List.getElem?_map,List.getD_eq_getElem?_getD,List.getElem?_eq_getElem h];rfl)
theorem ie {ws:List (List Nat)}{i:Int}{k:Nat} (h:k < ws.length) (e:i=(k:Int)):atI (ws.map D.str) i=some (.str (pw ws k)):=jx (j:=k) (by rw [List.getElem?_map,fH h];rfl) e
def Pc (m:Nat) (w:List Nat):Prop:=0 < w.length/\w.length<=m/\Lts w
def Pcs (m:Nat) (ws:List (List Nat)):Prop:=∀w∈ws,Pc m w
def ltB (c:Nat):Bool:=decide (97<=c) && decide (c<=122)
def xi:D->Int->Int->Bool
 | .str l,a,b=>(decide (a<=(l.length:Int)) && decide ((l.length:Int)<=b)) && l.all ltB
 | _,_,_=>false
theorem nv (l:List Nat) (a b:Int):xi (.str l) a b=((decide (a<=(l.length:Int)) && decide ((l.length:Int)<=b)) && l.all ltB):=rfl
def Dv:D->Nat
 | .str l=>l.length
 | _=>0
theorem zB {l:List Nat}:l.all ltB=true ↔ Lts l:=by
 rw [List.all_eq_true]
 unfold Lts ltB
 constructor
 .intro h c hc
  have:=h c hc
  rw [Bool.and_eq_true,decide_eq_true_eq,decide_eq_true_eq] at this
  exact this
 .intro h c hc
  rw [Bool.and_eq_true,decide_eq_true_eq,decide_eq_true_eq]
  exact h c hc
theorem vp {w:List Nat}:xi (.str w) 1 60=true ↔ Pc 60 w:=by
 unfold xi Pc
 rw [Bool.and_eq_true,Bool.and_eq_true,decide_eq_true_eq,decide_eq_true_eq,zB]
 constructor
 .rintro ⟨⟨h1,h2⟩,h3⟩;exact ⟨by omega,by omega,h3⟩
 .rintro ⟨h1,h2,h3⟩;exact ⟨⟨by omega,by omega⟩,h3⟩
theorem qy (i j:Nat):(!decide (([j]:List Nat) < [i]))=decide (i<=j):=by
 by_cases h:i<=j
 .rw [decide_eq_true h]
  have:¬ ([j]:List Nat) < [i]:=by
   rw [List.cons_lt_cons_iff]
   rintro (z | ⟨_,z⟩)
   .omega
   .exact absurd z (List.lt_irrefl _)
  rw [decide_eq_false this];rfl
 .rw [decide_eq_false h]
  have:([j]:List Nat) < [i]:=by
   rw [List.cons_lt_cons_iff];exact .inl (by omega)
  rw [decide_eq_true this];rfl
theorem qz:∀ws:List (List Nat),D.pys (ws.map .str)=ws.map fun w=>PyData.str (S w)
 | []=>rfl
 | w::r=>by rw [List.map_cons,List.map_cons,<- qz r];rfl
theorem mr:∀ws:List (List Nat),D.plains (ws.map .str)=true
 | []=>rfl
 | w::r=>by rw [List.map_cons];show (true && D.plains (r.map .str))=true;rw [mr r];rfl
theorem ny:∀ns:List Int,D.pys (ns.map .int)=ns.map PyData.int
 | []=>rfl
 | n::r=>by rw [List.map_cons,List.map_cons,<- ny r];rfl
theorem mw:∀ns:List Int,D.plains (ns.map .int)=true
 | []=>rfl
 | n::r=>by rw [List.map_cons];show (true && D.plains (r.map .int))=true;rw [mw r];rfl
def Sh (d:D):Prop:=d.plain=true/\SeqAt.shaped d.py=true
theorem pz.of {a b:D} (h:Sh a) (h':Sh b):pz a b:=⟨h.1,h'.1,h.2,h'.2⟩
theorem Sh.lstS {ws:List (List Nat)} (h:∀w∈ws,Lts w):Sh (.lst (ws.map .str)):=⟨mr ws,by show SeqAt.shaped (.list (D.pys _))=true;rw [qz];exact o7 h⟩
theorem Sh.lstI (ns:List Int):Sh (.lst (ns.map .int)):=⟨mw ns,by show SeqAt.shaped (.list (D.pys _))=true;rw [ny];exact (mj.list (uW ns)).shaped (by decide)⟩
section
variable {X:Cx}{K:PySem.W.Frag}
def zC:PTE:=fun ρ Q=>Q (.dat (.dic [] [])) ρ
theorem vq:LE K xR zC:=fun A ρ σ H Q Q' R q k=>fun p hp =>
 k _ _ (.dat (.dic [] [])) ρ q (Fr.new hp) ⟨R.grow hp,.dic (R.oo hp) aE rfl .nil⟩
def vv (neg:Bool):R2:=fun x y H Q=>∃a b,x=.ref a/\y=.ref b/\H a=some (.dK [])/\H b=some (.dK [])/\Q (.bl (!neg)) H
theorem xj (hu:X.A.units + 64 < cLine):OpR X (compareOp .Eq) (vv false):=by
 intro pins s σ H x y v u Q I rx ry ⟨a,b,e1,e2,h1,h2,q⟩
 subst e1 e2
 cases rx
 cases ry
 obtain ⟨_,y1,vs,r1,p1⟩:=(show cr X.prog X.w H s.heap a (.dK []) from I.hok a _ h1)
 obtain ⟨_,y2,ws,r2,p2⟩:=(show cr X.prog X.w H s.heap b (.dK []) from I.hok b _ h2)
 cases r1
 cases r2
 exact PySem.W.keq_eq (r:=true) y1 y2 p1 p2 (by omega) (fun _=>.nil) ⟨.bl true,H,I,rfl,q⟩
theorem xk (hu:X.A.units + 64 < cLine):OpR X (compareOp .NotEq) (vv true):=by
 intro pins s σ H x y v u Q I rx ry ⟨a,b,e1,e2,h1,h2,q⟩
 subst e1 e2
 cases rx
 cases ry
 obtain ⟨_,y1,vs,r1,p1⟩:=(show cr X.prog X.w H s.heap a (.dK []) from I.hok a _ h1)
 obtain ⟨_,y2,ws,r2,p2⟩:=(show cr X.prog X.w H s.heap b (.dK []) from I.hok b _ h2)
 cases r1
 cases r2
 exact PySem.W.keq_ne (r:=true) y1 y2 p1 p2 (by omega) (fun _=>.nil) ⟨.bl false,H,I,rfl,q⟩
def pH (K:PySem.W.Frag) (neg:Bool):R2:=fun x y H Q=>Bx K neg x y H Q\/vv neg x y H Q
theorem lH (K:PySem.W.Frag) (e:X.K=K) (hu:X.A.units + 64 < cLine):OpR X (compareOp .Eq) (pH K false):=OpR.or (Ej K e hu) (xj hu)
theorem nz (K:PySem.W.Frag) (e:X.K=K) (hu:X.A.units + 64 < cLine):OpR X (compareOp .NotEq) (pH K true):=OpR.or (Ek K e hu) (xk hu)
def t4:F2
 | .dic [] [],.dic [] [],Q=>Q (.dat (.bl true))
 | a,b,Q=>fEq a b Q
def vx:F2
 | .dic [] [],.dic [] [],Q=>Q (.dat (.bl false))
 | a,b,Q=>fNe a b Q
theorem FVc.dic0 {O:Addr->Prop}{H:Hp}{v:V} (h:FVc K O H v (.dic [] [])):∃a,v=.ref a/\H a=some (.dK []):=by
 cases h.fv nofun nofun with
 | dic n e m f =>
  rename_i a kvs
  cases kvs with
  | nil=>exact ⟨a,rfl,e⟩
  | cons x r=>cases m
theorem gO:LO K (pH K false) t4:=by
 intro O H x y a b Q Q' dom fx fy q k
 unfold t4 at q
 split at q
 .obtain ⟨a,rfl,e1⟩:=fx.dic0
  obtain ⟨b,rfl,e2⟩:=fy.dic0
  exact .inr ⟨a,b,rfl,rfl,e1,e2,k _ H _ q (Gr.refl _) (.bl _)⟩
 .exact .inl (Di O H x y _ _ Q Q' dom fx fy q k)
theorem iA:LO K (pH K true) vx:=by
 intro O H x y a b Q Q' dom fx fy q k
 unfold vx at q
 split at q
 .obtain ⟨a,rfl,e1⟩:=fx.dic0
  obtain ⟨b,rfl,e2⟩:=fy.dic0
  exact .inr ⟨a,b,rfl,rfl,e1,e2,k _ H _ q (Gr.refl _) (.bl _)⟩
 .exact .inl (Dj O H x y _ _ Q Q' dom fx fy q k)
end
theorem vy:∀ds:List D,D.pys ds=ds.map D.py
 | []=>rfl
 | d::r=>by rw [List.map_cons,<- vy r];rfl
theorem my:∀ds:List D,D.plains ds=ds.all D.plain
 | []=>rfl
 | d::r=>by rw [List.all_cons,<- my r];rfl
def Fl (n:Nat) (d:D):Prop:=d.plain=true/\mj n d.py
theorem Fl.sh {n:Nat}{d:D} (h:Fl n d) (hn:n<=64):Sh d:=⟨h.1,h.2.shaped hn⟩
theorem Fl.mono {n m:Nat}{d:D} (h:Fl n d) (hn:n<=m):Fl m d:=⟨h.1,h.2.1,Nat.le_trans h.2.2 hn⟩
theorem Fl.int {n:Nat} (i:Int):Fl n (.int i):=(show Fl 0 (.int i) from ⟨rfl,mj.int i⟩).mono (Nat.zero_le _)
theorem Fl.lst {n:Nat}{ds:List D} (h:∀d∈ds,Fl n d):Fl (n + 1) (.lst ds):=by
 refine ⟨?_,?_⟩
 .show D.plains ds=true
  rw [my,List.all_eq_true];exact fun d hd=>(h d hd).1
 .show mj (n + 1) (.list (D.pys ds))
  rw [vy]
  refine mj.list fun d hd=>?_
  obtain ⟨x,hx,rfl⟩:=List.mem_map.mp hd
  exact (h x hx).2
def iB:D->Bool
 | .int _=>true
 | _=>false
def lI:D->Bool
 | .lst _=>true
 | .tup _=>true
 | _=>false
def bt:D->List D
 | .lst ds=>ds
 | .tup ds=>ds
 | _=>[]
def toI:D->Int
 | .int i=>i
 | _=>0
def cG (d:D) (m:Int):Bool:=lI d && (decide (((bt d).length:Int)=m) && (bt d).all iB)
def Srt (d:D):Prop:=d.sort=true/\∀x∈bt d,x.sort=true
theorem qA:∀{ds:List D},ds.all iB=true->ds=(ds.map toI).map D.int
 | [],_=>rfl
 | d::r,h=>by
  rw [List.all_cons,Bool.and_eq_true] at h
  rw [List.map_cons,List.map_cons,<- qA h.2]
  cases d <;> first | rfl | cases h.1
theorem qB {ds:List D}{k:Nat} (h:k < ds.length):itD ds k∈ds:=List.mem_of_getElem? (vc h)
section
variable {X:Cx}{K:PySem.W.Frag}{te:TE}{pe:PTE}
def BZ (K:PySem.W.Frag):List V->Hp->VK->Prop:=fun xs H Q=>∃(p:Addr) (ns:List Int),xs=[.ref p]/\SqL K H p (ns.map V.int)/\0 < ns.length/\∀m:Int,m∈ns->(∀a∈ns,a<=m)->Q (.int m) H
theorem B0 (K:PySem.W.Frag) (e:X.K=K) (hc:X.calm=true):bX X (.builtin "max") (BZ K):=by
 subst e
 intro pins s σ H xs us Q I r h
 obtain ⟨p,ns,rfl,hS,hne,q⟩:=h
 obtain ⟨u,rfl,ru⟩:=hX r
 cases (show u=Value.ref p from ru)
 obtain ⟨its,rv,pl,hz⟩:=I.list hS
 have hi:=eU rv
 have hl:=pl.isList
 obtain ⟨ys,e⟩:=hi.allInts.items
 have hns:ns=ys.toList.map (·.1):=by rw [<- hi.numsOf,<- nums_intItems,<- e]
 have hsz:0 < ys.size:=by
  have h3:=hne;rw [hns,List.length_map,Array.length_toList] at h3;exact h3
 rw [e] at hl
 refine max_intList (by exact I.ok.hd hc) hl hsz fun v h' tk hv hk=>?_
 obtain ⟨t,rfl⟩:=intItems_at hv
 obtain ⟨h1,h2⟩:=argBest_gt (numAt ys) (ys.size - 1)
 refine ⟨.int _,H,I.kept (t':=tk) hk,⟨t,rfl⟩,q _ ?_ fun a ha=>?_⟩
 .rw [hns,numAt_eq];exact getD_mem (by rw [List.length_map,Array.length_toList];omega)
 .rw [hns] at ha
  obtain ⟨j,hj,rfl⟩:=mem_getD ha
  rw [List.length_map,Array.length_toList] at hj
  rw [<- numAt_eq];exact h2 j (by omega)
def zD:FN
 | [.lst ds],Q=>∃ns:List Int,ds=ns.map .int/\0 < ns.length/\∀m:Int,m∈ns->(∀a∈ns,a<=m)->Q (.dat (.int m))
 | _,_=>False
theorem zE:LC K (BZ K) zD:=by
 intro O H xs as Q Q' dom fs q k
 unfold zD at q
 split at q
 .obtain ⟨ns,rfl,h0,q⟩:=q
  cases fs with
  | cons a b =>
   cases b
   obtain ⟨p,ys,rfl,e1,f1⟩:=a.lst
   rw [f1.ints] at e1
   exact ⟨p,ns,rfl,SqL.of e1,h0,fun m h1 h2=>k _ H _ (q m h1 h2) (Gr.refl _) (.int _)⟩
 .exact q.elim
end
abbrev lc2 (elt t1 i1:Expr) (f1:List Expr) (t2 i2:Expr) (f2:List Expr) (scope:Scope) (pos:Pos):Expr:=.ListComp elt [⟨t1,i1,f1,0⟩,⟨t2,i2,f2,0⟩] scope pos
def tq (e i2:Expr) (acc:Value) (env:Env):Sem Unit:=do
 let x <- eval i2 env
 standAt i2.pos
 let x <- foldedSetIterable i2 env x
 let _ <- runOwn (.compStart e 1 (<- holding [x] (pyIter x)) acc env) env
def vz (elt:Expr) (acc:Value) (env:Env):Sem Unit:=do let _ <- call (.builtin "list.append") [acc,<- eval elt env]
theorem tu (elt t1 i1:Expr) (f1:List Expr) (t2 i2:Expr) (f2:List Expr) (scope:Scope) (pos:Pos) (it acc:Value) (env:Env) :
  compTurn (lc2 elt t1 i1 f1 t2 i2 f2 scope pos) 0 it acc env=(do
   standAt i1.pos
   match <- pyNext it with
   | none=>pure (.done .next)
   | some v =>
    letOwnedTupleGo t1 it v
    assign t1 env v
    let mut ok:=true
    for c in f1 do
     if ok then ok <- isTrue c env (eval c env)
    if ok then
     let x <- eval i2 env
     standAt i2.pos
     let x <- foldedSetIterable i2 env x
     let _ <- runOwn (.compStart (lc2 elt t1 i1 f1 t2 i2 f2 scope pos) 1 (<- holding [x] (pyIter x)) acc env) env
    again (.compLoop (lc2 elt t1 i1 f1 t2 i2 f2 scope pos) 0 it acc env)):=by rfl
theorem tw {α:Type} (e i2:Expr) (acc:Value) (env:Env) (k:Sem α):(eval i2 env >>= fun x=>standAt i2.pos >>= fun _=>foldedSetIterable i2 env x >>= fun x=>holding [x] (pyIter x) >>= fun it=>runOwn (.compStart e 1 it acc env) env >>= fun _=>k)=(tq e i2 acc env >>= fun _=>k):=by
 unfold tq
 simp only [bind_assoc,pure_bind]
theorem tz (elt t1 i1:Expr) (f1:List Expr) (t2 i2:Expr) (f2:List Expr) (scope:Scope) (pos:Pos) (it acc:Value) (env:Env) :
  compTurn (lc2 elt t1 i1 f1 t2 i2 f2 scope pos) 1 it acc env=(do
   standAt i2.pos
   match <- pyNext it with
   | none=>pure (.done .next)
   | some v =>
    letOwnedTupleGo t2 it v
    assign t2 env v
    let mut ok:=true
    for c in f2 do
     if ok then ok <- isTrue c env (eval c env)
    if ok then
     (vz elt acc env)
    again (.compLoop (lc2 elt t1 i1 f1 t2 i2 f2 scope pos) 1 it acc env)):=by rfl
section
variable {prog:Program}{w:World}{A:Around}{R:Result->Shared->Prop}{s:Shared}
theorem lJ {elt t1 i1 t2 i2:Expr}{f1 f2:List Expr}{scope:Scope}{pos:Pos}{it acc:Value}{env:Env} (I:Nat->Shared->Prop)
  (turn:∀n s,I n s->wpAny (model prog w) A (pyNext it) (fun r s₁=>match r with
   | none=>R (.ok .next) s₁
   | some v=>wpAny (model prog w) A (letOwnedTupleGo t1 it v) (fun _ s₂=>wpAny (model prog w) A (assign t1 env v) (fun _ s₃ =>
     wpAny (model prog w) A (forIn f1 true fun c r=>if r=true then do let ok <- isTrue c env (eval c env);pure (ForInStep.yield ok) else pure (ForInStep.yield r)) (fun ok s₄ =>
      if ok=true then wpAny (model prog w) A (tq (lc2 elt t1 i1 f1 t2 i2 f2 scope pos) i2 acc env) (fun _ s₆=>∃m,m < n/\I m s₆) (fun _ _=>False) s₄
      else ∃m,m < n/\I m s₄) (fun _ _=>False) s₃) (fun _ _=>False) s₂) (fun _ _=>False) s₁) (fun _ _=>False) s)
  (n:Nat) (h:I n s) :
  codeAny (model prog w) A (.compLoop (lc2 elt t1 i1 f1 t2 i2 f2 scope pos) 0 it acc env) R s:=by
 refine codeAny_loop rfl I (fun n s hI=>?_) n h
 show wpAny _ A ((compTurn (lc2 elt t1 i1 f1 t2 i2 f2 scope pos) 0 it acc env).onRaise (fun x=>do noteFrame x env;theTreesLotGoes x)) _ _ s
 refine wpAny_noted ?_
 rw [tu]
 refine wpAny_bind (wpAny_standAt (wpAny_bind (wpAny_mono (turn n s hI) (fun r s₁ h₁=>?_) fun _ _ h'=>h'.elim)))
 cases r with
 | none=>exact wpAny_pure h₁
 | some v =>
  refine wpAny_bind (wpAny_mono h₁ (fun _ s₂ h₂=>?_) fun _ _ h'=>h'.elim)
  refine wpAny_bind (wpAny_mono h₂ (fun _ s₃ h₃=>wpAny_bind (wpAny_mono h₃ (fun ok s₄ h₄=>?_) fun _ _ h'=>h'.elim)) fun _ _ h'=>h'.elim)
  cases ok with
  | false=>exact wpAny_pure ⟨rfl,h₄⟩
  | true =>
   have e:=tw (lc2 elt t1 i1 f1 t2 i2 f2 scope pos) i2 acc env (again (.compLoop (lc2 elt t1 i1 f1 t2 i2 f2 scope pos) 0 it acc env))
   show wpAny _ _ (eval i2 env >>= fun x=>standAt i2.pos >>= fun _=>foldedSetIterable i2 env x >>= fun x=>holding [x] (pyIter x) >>= fun it'=>runOwn (.compStart (lc2 elt t1 i1 f1 t2 i2 f2 scope pos) 1 it' acc env) env >>= fun _=>again (.compLoop (lc2 elt t1 i1 f1 t2 i2 f2 scope pos) 0 it acc env)) _ _ _
   rw [e]
   exact wpAny_bind (wpAny_mono h₄ (fun _ s₆ h₆=>wpAny_pure ⟨rfl,h₆⟩) fun _ _ h'=>h'.elim)
theorem lK {elt t1 i1 t2 i2:Expr}{f1 f2:List Expr}{scope:Scope}{pos:Pos}{it acc:Value}{env:Env} (I:Nat->Shared->Prop)
  (turn:∀n s,I n s->wpAny (model prog w) A (pyNext it) (fun r s₁=>match r with
   | none=>R (.ok .next) s₁
   | some v=>wpAny (model prog w) A (letOwnedTupleGo t2 it v) (fun _ s₂=>wpAny (model prog w) A (assign t2 env v) (fun _ s₃ =>
     wpAny (model prog w) A (forIn f2 true fun c r=>if r=true then do let ok <- isTrue c env (eval c env);pure (ForInStep.yield ok) else pure (ForInStep.yield r)) (fun ok s₄ =>
      if ok=true then wpAny (model prog w) A (vz elt acc env) (fun _ s₆=>∃m,m < n/\I m s₆) (fun _ _=>False) s₄
      else ∃m,m < n/\I m s₄) (fun _ _=>False) s₃) (fun _ _=>False) s₂) (fun _ _=>False) s₁) (fun _ _=>False) s)
  (n:Nat) (h:I n s) :
  codeAny (model prog w) A (.compLoop (lc2 elt t1 i1 f1 t2 i2 f2 scope pos) 1 it acc env) R s:=by
 refine codeAny_loop rfl I (fun n s hI=>?_) n h
 show wpAny _ A ((compTurn (lc2 elt t1 i1 f1 t2 i2 f2 scope pos) 1 it acc env).onRaise (fun x=>do noteFrame x env;theTreesLotGoes x)) _ _ s
 refine wpAny_noted ?_
 rw [tz]
 refine wpAny_bind (wpAny_standAt (wpAny_bind (wpAny_mono (turn n s hI) (fun r s₁ h₁=>?_) fun _ _ h'=>h'.elim)))
 cases r with
 | none=>exact wpAny_pure h₁
 | some v =>
  refine wpAny_bind (wpAny_mono h₁ (fun _ s₂ h₂=>?_) fun _ _ h'=>h'.elim)
  refine wpAny_bind (wpAny_mono h₂ (fun _ s₃ h₃=>wpAny_bind (wpAny_mono h₃ (fun ok s₄ h₄=>?_) fun _ _ h'=>h'.elim)) fun _ _ h'=>h'.elim)
  cases ok with
  | false=>exact wpAny_pure ⟨rfl,h₄⟩
  | true=>exact wpAny_bind (wpAny_mono h₄ (fun _ s₆ h₆=>wpAny_pure ⟨rfl,h₆⟩) fun _ _ h'=>h'.elim)
theorem iC {elt t1 i1 t2 i2:Expr}{f1 f2:List Expr}{scope:Scope}{pos:Pos}{it acc:Value}{env:Env}
  (h0:codeAny (model prog w) A (.compLoop (lc2 elt t1 i1 f1 t2 i2 f2 scope pos) 1 it acc env) R s)
  (h:wpAny (model prog w) A (pyIter it) (fun it' s'=>codeAny (model prog w) A (.compLoop (lc2 elt t1 i1 f1 t2 i2 f2 scope pos) 1 it' acc env) R s')
   (notedBy (model prog w) A env fun x s'=>R (.error x) s') s) :
  codeAny (model prog w) A (.compStart (lc2 elt t1 i1 f1 t2 i2 f2 scope pos) 1 it acc env) R s:=by
 refine codeAny_of_tree ?_
 show wpAny _ _ ((compStart (lc2 elt t1 i1 f1 t2 i2 f2 scope pos) 1 it acc env).onRaise (fun x=>do noteFrame x env;standAt theWindowsPlace)) _ _ s
 refine wpAny_notedAt ?_
 unfold compStart
 show wpAny _ _ (ask >>= _) _ _ s
 refine wpAny_bind (wpAny_askSetting (wpAny_ite ?_))
 split
 .first
   | exact wpAny_bind (wpAny_pure (wpAny_pure (And.intro rfl h0)))
   | exact wpAny_pure (And.intro rfl h0)
 .first
   | exact wpAny_bind (wpAny_rule (wpAny_bind (wpAny_standAt (wpAny_bind (wpAny_mono h (fun it' s' h'=>wpAny_pure (And.intro rfl h')) fun _ _ x=>x)))))
end
abbrev TB:=St->Hp->(St->Hp->Prop)->Prop
def PB (Y:Cx) (emit:Sem Unit) (tb:TB):Prop:=∀(pins:List (Addr×Obj)) (s:Shared) (τ:St) (H:Hp) (N:St->Hp->Prop),Inv Y pins τ H s->tb τ H N ->
 wpAny (model Y.prog Y.w) Y.A emit (fun _ s'=>∃τ' H',Inv Y pins τ' H' s'/\N τ' H') (fun _ _=>False) s
def zF (te:TE) (D:Addr):TB:=fun τ H N=>te τ H fun v H6=>∃ys,H6 D=some (.lst ys)/\ys.length < sizeLine/\N τ (upd H6 D (.lst (ys++[v])))
def zG (wi:TI) (g:TG) (tts:TT) (tb:TB):TB:=fun τ H N=>wi τ H fun J H6=>∃W:Nat->Nat->St->Hp->Prop,(∃n,W 0 n τ H6)/\∀j n τ3 H7,W j n τ3 H7 ->
 (J.stop j H7/\N τ3 H7)\/(J.go j H7/\∀y H8,J.yld j H7 y H8->g y τ3 H8 fun τ4 H9=>tts τ4 H9 fun ok H10=>if ok=true then tb τ4 H10 (fun τ5 H11=>∃n',n' < n/\W (j + 1) n' τ5 H11) else ∃n',n' < n/\W (j + 1) n' τ4 H10)
def vA (ix:List (Option Nat)) (wi:TI) (g:TG) (tts:TT) (tb:Addr->TB):TE:=fun σ H Q=>wi σ H fun J H1=>∀D,H1 D=none->∃W:Nat->Nat->St->Hp->Prop,(∃m,W 0 m (oU ix σ) (upd H1 D (.lst [])))/\∀i m τ H2,W i m τ H2 ->
 (J.stop i H2/\Q (.ref D) H2)\/(J.go i H2/\∀x H3,J.yld i H2 x H3->g x τ H3 fun τ2 H4=>tts τ2 H4 fun ok H5=>if ok=true then tb D τ2 H5 (fun τ6 H6=>∃m',m' < m/\W (i + 1) m' τ6 H6)
  else ∃m',m' < m/\W (i + 1) m' τ2 H5)
section
variable {Y:Cx}{elt t1 i1 t2 i2:Expr}{f1 f2:List Expr}{scope:Scope}{pos:Pos}{te:TE}{D:Addr}{wi:TI}{g:TG}{tts:TT}{tb:TB}
theorem zH (hx:Y.xe=fun _ _=>False) (he:PE Y elt te):PB Y (vz elt (.ref D) Y.env) (zF te D):=by
 intro pins s τ H N I h
 have h1:=he pins s τ H _ I h
 rw [hx] at h1
 unfold vz
 refine wpAny_bind (thn h1 fun v s1 ⟨x,H1,I1,r1,ys,hD,hz,q⟩=>?_)
 have h2:=dS (X:=Y) pins s1 τ H1 (.ref D) [x] (.ref D) [v] (fun _ H'=>N τ H') I1 rfl (.cons r1 .nil) ⟨D,ys,x,rfl,rfl,hD,hz,q⟩
 rw [hx] at h2
 exact wpAny_bind (thn h2 fun _ s2 ⟨_,H2,I2,_,q2⟩=>wpAny_pure ⟨τ,H2,I2,q2⟩)
theorem zI (hx:Y.xe=fun _ _=>False) (hc:Y.calm=true) (hi:PI Y t2 i2 wi) (hg:PG Y t2 g) (ht:PIf Y f2 tts) (hb:PB Y (vz elt (.ref D) Y.env) tb) (hs:∀x,foldedSetIterable i2 Y.env x=pure x:=by intro _;rfl) :
  PB Y (tq (lc2 elt t1 i1 f1 t2 i2 f2 scope pos) i2 (.ref D) Y.env) (zG wi g tts tb):=by
 intro pins s τ H N I h
 have h1:=hi pins s τ H _ I h
 rw [hx] at h1
 unfold tq
 refine wpAny_bind (thn h1 fun v s1 h1=>wpAny_bind (wpAny_standAt (wpAny_bind (wpAny_of_eq (hs v) (wpAny_bind (wpAny_holding (thn h1 fun itv s2 h2=>wpAny_bind (wpAny_runOwn ?_))))))))
 obtain ⟨it,fp,tn,J,H2,e,I2,T,st2,f2',W,⟨m0,w0⟩,turn⟩:=h2
 subst e
 have stat:∀{H':Hp},(∀b∈fp,H' b=none)->∀b∈fp,ql Y pins H' b:=fun hn b hb=>⟨hn b hb,(f2' b hb).2⟩
 have loop:∀s3:Shared,Inv Y pins τ H2 s3->tn 0 s3.heap->codeAny (model Y.prog Y.w) Y.A (.compLoop (lc2 elt t1 i1 f1 t2 i2 f2 scope pos) 1 (.ref it) (.ref D) Y.env)
   (fun r s'=>match r with | .ok f=>wpAny (model Y.prog Y.w) Y.A (pure ()) (fun _ s'=>∃τ' H',Inv Y pins τ' H' s'/\N τ' H') (fun _ _=>False) s' | .error e=>cameBackBy (model Y.prog Y.w) Y.A Y.env (fun _ _=>False) e s') s3:=by
  intro s3 I3 st3
  refine lK (fun n s'=>∃i τ' H',Inv Y pins τ' H' s'/\tn i s'.heap/\(∀b∈fp,H' b=none)/\W i n τ' H') ?_ m0 ⟨0,τ,H2,I3,st3,fun b hb=>(f2' b hb).1,w0⟩
  rintro n s5 ⟨i,τ5,H5,I5,st5,fr5,w5⟩
  rcases turn i n τ5 H5 w5 with ⟨stop,qn⟩ | ⟨go,step⟩
  .refine thn (T.done Y rfl rfl rfl hc i pins s5 τ5 H5 (fun _ _=>False) I5 (stat fr5) st5 stop) fun r s6 ⟨hr,I6⟩=>?_
   subst hr
   exact wpAny_pure ⟨τ5,H5,I6,qn⟩
  .refine thn (T.item Y rfl rfl rfl hc i pins s5 τ5 H5 (fun _ _=>False) I5 (stat fr5) st5 go) fun r s6 ⟨u,hr,h6⟩=>?_
   subst hr
   refine thn h6 fun _ s7 ⟨x,H7,I7,r7,y7,st7,fr7⟩=>?_
   have I7':=I7.pinned (stat fr7) (T.obj _ _ st7)
   have again:∀{s8:Shared}{τ8:St}{H8:Hp},Inv Y (pins++j4 fp s7.heap) τ8 H8 s8->(∃m',m' < n/\W (i + 1) m' τ8 H8) ->
     ∃m,m < n/\∃i τ' H',Inv Y pins τ' H' s8/\tn i s8.heap/\(∀b∈fp,H' b=none)/\W i m τ' H':=fun {s8 τ8 H8} I8 ⟨m',hm,w8⟩=>by
    refine ⟨m',hm,i + 1,τ8,H8,I8.unpinned,T.keep _ _ _ st7 fun b hb o e=>(I8.pin (b,o) (List.mem_append_right _ (List.mem_append_right _ (cT hb e)))).1,fun b hb=>?_,w8⟩
    obtain ⟨o,e,d⟩:=T.obj _ _ st7 b hb
    exact (I8.pin (b,o) (List.mem_append_right _ (List.mem_append_right _ (cT hb e)))).2.1
   have h8:=hg _ s7 τ5 H7 x u _ I7' r7 (step x H7 y7)
   rw [hx] at h8
   refine thn h8 fun _ s8 ⟨τ8,H8,I8,q8⟩=>?_
   have h9:=ht _ s8 τ8 H8 _ I8 q8
   rw [hx] at h9
   refine thn h9 fun okb s9 ⟨H9,I9,q9⟩=>?_
   cases okb with
   | false =>
    rw [if_neg Bool.false_ne_true] at q9
    rw [if_neg Bool.false_ne_true]
    exact again I9 q9
   | true =>
    rw [if_pos rfl] at q9
    rw [if_pos rfl]
    exact thn (hb _ s9 τ8 H9 _ I9 q9) fun _ s10 ⟨τ10,H10,I10,q10⟩=>again I10 q10
 exact iC (loop _ I2 st2) (T.self Y.A 0 _ _ _ st2 (loop _ I2 st2))
end
section
variable {X:Cx}{elt t1 i1 t2 i2:Expr}{f1 f2:List Expr}{scope:Scope}{N':List Str}{ix:List (Option Nat)}{wi:TI}{g:TG}{tts:TT}{tb:Addr->TB}
theorem tD {use:Option (Value->Sem Unit)}{Qf:Value->Shared->Prop}{pos p':Pos}{pins:List (Addr×Obj)}{σ:St}{H:Hp}{s:Shared}{Q:VK} (hc:X.calm=true) (ok:rC X.env X.N scope N' ix) (hi:PI X t1 i1 wi)
  (blk:∀s H fp pn D,PG (bj X N' scope s H fp pn) t1 g/\PIf (bj X N' scope s H fp pn) f1 tts/\PB (bj X N' scope s H fp pn) (tq (lc2 elt t1 i1 f1 t2 i2 f2 scope pos) i2 (.ref D) (mU scope s.heap.objs.size X.env)) (tb D))
  (hs:∀x,foldedSetIterable i1 X.env x=pure x) (I:Inv X pins σ H s) (hw:vA ix wi g tts tb σ H Q)
  (fin:∀D C H' s',Inv X pins σ H' s'->Q (.ref D) H'->(∃m,s'.heap.Ns C m)->H' C=none->X.s₀.heap.objs.size<=C->C≠X.env.locals->(∀x c,X.env.cells.lookup x=some c->c≠C)->C∉X.fs->(∀p∈X.pn++pins,p.1≠C) ->
   compPost (model X.prog X.w) X.A X.xe use Qf (.ref D) C (.ok .next) s') :
  wpAny (model X.prog X.w) X.A (comprehension (lc2 elt t1 i1 f1 t2 i2 f2 scope pos) scope X.env p' (newList []) false (eval i1 X.env) use) Qf X.xe s:=by
 have hclos:closureFor scope X.env=pure (h7 X.env scope.names []):=fF fun y hy e=>I.ok.has y.1 (ok.free y hy e).1
 refine wpAny_comprehension_free (use:=use) rfl hs hclos ok.kind ok.loc (thn (hi pins s σ H _ I hw) fun v s1 h1=>thn h1 fun itv s2 h2=>?_)
 obtain ⟨it,fp,tn,J,H2,e,I2,T,st2,fq2,hW⟩:=h2
 subst e
 obtain ⟨W,⟨m0,w0⟩,turn⟩:=hW s2.heap.objs.size (I2.hok.fresh (Nat.le_refl _))
 have hfl:∀b∈fp,b < s2.heap.objs.size:=fun b hb=>by
  obtain ⟨o,e,_⟩:=T.obj 0 _ st2 b hb
  exact Heap.lt_size e
 refine wpAny_newObj_type ?_
 have I3:Inv X pins σ (upd H2 s2.heap.objs.size (.lst [])) { s2 with heap:=s2.heap.push { cls:=.type "list",dict:=none,data:=.seq ([]:List Value).toArray } } :=
  I2.laid (t':=s2.toks) (fun b o e=>Heap.get?_push_of_some _ e) (Nat.le_refl _) (show cr X.prog X.w _ _ _ (.lst []) from ⟨Nat.zero_le _,[],0,.nil,Heap.get?_push_size _ rfl⟩)
 have st3:tn 0 (s2.heap.push { cls:=.type "list",dict:=none,data:=.seq ([]:List Value).toArray }):=T.keep 0 _ _ st2 fun b _ o e=>Heap.get?_push_of_some _ e
 have f3:∀b∈fp,ql X pins (upd H2 s2.heap.objs.size (.lst [])) b:=fun b hb=>⟨by rw [au (Nat.ne_of_lt (hfl b hb))];exact (fq2 b hb).1,(fq2 b hb).2⟩
 have hfl3:∀b∈fp,b < (s2.heap.push { cls:=.type "list",dict:=none,data:=.seq ([]:List Value).toArray }).objs.size:=fun b hb=>by rw [Heap.size_push];exact Nat.lt_succ_of_lt (hfl b hb)
 generalize hs3:({ s2 with heap:=s2.heap.push { cls:=.type "list",dict:=none,data:=.seq ([]:List Value).toArray } }:Shared)=s3 at I3 ⊢
 have eh3:s3.heap=s2.heap.push { cls:=.type "list",dict:=none,data:=.seq ([]:List Value).toArray }:=by rw [<- hs3]
 rw [<- eh3] at st3 hfl3
 generalize hH3:upd H2 s2.heap.objs.size (.lst [])=H3 at I3 f3 w0
 generalize hD:s2.heap.objs.size=D at *
 refine dW ?_
 have I4:=rE ok I3 f3 hfl3
 obtain ⟨hg,ht,he⟩:=blk s3 H3 fp pins D
 have st4:tn 0 (pushCells (s3.heap.push { cls:=.type "dict",data:=.dict #[] }) scope.names):=T.keep 0 _ _ st3 fun b _ o e=>pushCells_keeps _ _ b o (Heap.get?_push_of_some _ e)
 have stat:∀{H':Hp},(∀b∈fp,H' b=none)->∀b∈fp,ql (bj X N' scope s3 H3 fp pins) [] H' b:=fun hn b hb=>by
  refine ⟨hn b hb,Nat.ne_of_lt (hfl3 b hb),I4.ok.exfs b hb,.inl hb,(I4.ok.exf b hb).2,fun p hp=>?_⟩
  have hp':p∈X.pn++pins:=by simpa [bj] using hp
  exact (fq2 b hb).2.2.2.2.2 p hp'
 have loop:∀(s4:Shared),Inv (bj X N' scope s3 H3 fp pins) [] (oU ix σ) H3 s4->tn 0 s4.heap ->
   codeAny (model X.prog X.w) X.A (.compLoop (lc2 elt t1 i1 f1 t2 i2 f2 scope pos) 0 (.ref it) (.ref D) (mU scope s3.heap.objs.size X.env)) (compPost (model X.prog X.w) X.A X.xe use Qf (.ref D) s3.heap.objs.size) s4:=by
  intro s4 I4 st4
  refine lJ (fun n s'=>∃i τ H',Inv (bj X N' scope s3 H3 fp pins) [] τ H' s'/\tn i s'.heap/\(∀b∈fp,H' b=none)/\W i n τ H') ?_ m0 ⟨0,_,H3,I4,st4,fun b hb=>(f3 b hb).1,w0⟩
  rintro n s5 ⟨i,τ,H5,I5,st5,fr5,w5⟩
  rcases turn i n τ H5 w5 with ⟨stop,qn⟩ | ⟨go,step⟩
  .refine thn (T.done (bj X N' scope s3 H3 fp pins) rfl rfl rfl hc i [] s5 τ H5 (fun _ _=>False) I5 (stat fr5) st5 stop) fun r s6 ⟨hr,I6⟩=>?_
   subst hr
   have I7:Inv X pins σ H5 s6:=I3.call' (ch:=fp) I6.os I6.base I6.hok I6.bare fun b hb=>⟨(fq2 b hb).2.2.2.1,(fq2 b hb).2.1,(fq2 b hb).2.2.2.2.1,(fq2 b hb).2.2.2.2.2⟩
   obtain ⟨m6,hn6,_⟩:=I6.loc
   refine fin D s3.heap.objs.size H5 s6 I7 qn ⟨m6,hn6⟩ I6.free ?_ ?_ ?_ ?_ ?_
   .exact I3.sz
   .exact Nat.ne_of_gt I3.lt
   .intro x c e z
    obtain ⟨v,q⟩:=I3.cell x c e
    have:=q.lt
    rw [z] at this
    exact Nat.lt_irrefl _ this
   .exact I3.nofs (Nat.le_refl _)
   .intro p hp z
    have:=Heap.lt_size (I3.pin p hp).1
    rw [z] at this
    exact Nat.lt_irrefl _ this
  .refine thn (T.item (bj X N' scope s3 H3 fp pins) rfl rfl rfl hc i [] s5 τ H5 (fun _ _=>False) I5 (stat fr5) st5 go) fun r s6 ⟨u,hr,h6⟩=>?_
   subst hr
   refine thn h6 fun _ s7 ⟨x,H7,I7,r7,y7,st7,fr7⟩=>?_
   have I7':=I7.pinned (stat fr7) (T.obj _ _ st7)
   have again:∀{s8:Shared}{τ8:St}{H8:Hp},Inv (bj X N' scope s3 H3 fp pins) ([]++j4 fp s7.heap) τ8 H8 s8->(∃m',m' < n/\W (i + 1) m' τ8 H8) ->
     ∃m,m < n/\∃i τ H',Inv (bj X N' scope s3 H3 fp pins) [] τ H' s8/\tn i s8.heap/\(∀b∈fp,H' b=none)/\W i m τ H':=fun {s8 τ8 H8} I8 ⟨m',hm,w8⟩=>by
    refine ⟨m',hm,i + 1,τ8,H8,I8.unpinned,T.keep _ _ _ st7 fun b hb o e=>(I8.pin (b,o) (List.mem_append_right _ (List.mem_append_right _ (cT hb e)))).1,fun b hb=>?_,w8⟩
    obtain ⟨o,e,d⟩:=T.obj _ _ st7 b hb
    exact (I8.pin (b,o) (List.mem_append_right _ (List.mem_append_right _ (cT hb e)))).2.1
   refine thn (hg _ s7 τ H7 x u _ I7' r7 (step x H7 y7)) fun _ s8 ⟨τ8,H8,I8,q8⟩=>?_
   refine thn (ht _ s8 τ8 H8 _ I8 q8) fun okb s9 ⟨H9,I9,q9⟩=>?_
   cases okb with
   | false =>
    rw [if_neg Bool.false_ne_true] at q9
    rw [if_neg Bool.false_ne_true]
    exact again I9 q9
   | true =>
    rw [if_pos rfl] at q9
    rw [if_pos rfl]
    refine thn (he _ s9 τ8 H9 _ I9 q9) fun _ s10 ⟨τ10,H10,I10,q10⟩=>?_
    exact again I10 q10
 exact codeAny_compStart_list (loop _ I4 st4) (T.self X.A 0 _ _ _ st4 (loop _ I4 st4))
theorem xl {pos:Pos}{wi2:TI}{g2:TG}{tts2:TT}{te:TE} (N':List Str) (ix:List (Option Nat)) (hc:X.calm=true) (hi:PI X t1 i1 wi)
  (blk:∀s H fp pn,PG (bj X N' scope s H fp pn) t1 g/\PIf (bj X N' scope s H fp pn) f1 tts/\PI (bj X N' scope s H fp pn) t2 i2 wi2/\PG (bj X N' scope s H fp pn) t2 g2/\PIf (bj X N' scope s H fp pn) f2 tts2/\PE (bj X N' scope s H fp pn) elt te)
  (chk:ki X.env.scope X.N scope N' ix=true) (hs:∀x,foldedSetIterable i1 X.env x=pure x:=by intro _;rfl) (hs2:∀(env:Env) x,foldedSetIterable i2 env x=pure x:=by intro _ _;rfl) :
  PE X (.ListComp elt [⟨t1,i1,f1,0⟩,⟨t2,i2,f2,0⟩] scope pos) (vA ix wi g tts fun D=>zG wi2 g2 tts2 (zF te D)):=by
 intro pins s σ H Q I hw
 rw [eval_ListComp]
 refine tD (use:=none) hc (kj chk) hi (fun s H fp pn D=>?_) hs I hw fun D C H' s' I' q hm hn h1 h2 h3 h4 h5=>?_
 .obtain ⟨b1,b2,b3,b4,b5,b6⟩:=blk s H fp pn
  exact ⟨b1,b2,zI (Y:=bj X N' scope s H fp pn) rfl hc b3 b4 b5 (zH rfl b6) (hs2 _)⟩
 .obtain ⟨m,hm⟩:=hm
  refine ⟨m,hm,fun h' sb=>⟨.ref D,H',?_,rfl,q⟩⟩
  exact I'.turned (t':=s'.toks) (fun b o hb e=>(sb.2 b hb).trans e) hn h2 (.inr h1) h3 h5
end
theorem kpt {O O1 O2:Addr->Prop}{H H1 H2:Hp} (a:aO O H O1 H1) (b:aO O1 H1 O2 H2):aO O H O2 H2:=fun c o n e=>b c o (a c o n e).1 (a c o n e).2
structure B1 (ix:List (Option Nat)) (ρ1:PSt) (n:Nat) (it:Nat->D) (g:PTG) (pt:PTT) (pi2:PTI) (g2:PTG) (pt2:PTT) (pe:PTE) (Q:PKt):Prop where
 ex:∃I:Nat->List D->PSt->Prop,I 0 [] (bS ix ρ1) /\
  (∀k ys τ d,k < n->d=it k->I k ys τ->g (.dat d) τ fun τ2=>pt τ2 fun ok τ3=>gz ok (pi2 τ3 fun n2 it2 τ4=>∃I2:Nat->List D->PSt->Prop,I2 0 ys τ4 /\
   (∀j zs τ d,j < n2->d=it2 j->I2 j zs τ->g2 (.dat d) τ fun τ5=>pt2 τ5 fun ok τ6=>gz ok (pe τ6 fun p τ7=>zs.length < 1000000/\I2 (j + 1) (zs++[p.d]) τ7) (I2 (j + 1) zs τ6))/\∀zs τ,I2 n2 zs τ->I (k + 1) zs τ) (I (k + 1) ys τ3)) /\
  ∀ys τ,I n ys τ->Q (.own ys) (eo ix ρ1 τ)
def x8 (ix:List (Option Nat)) (pi:PTI) (g:PTG) (pt:PTT) (pi2:PTI) (g2:PTG) (pt2:PTT) (pe:PTE):PTE:=fun ρ Q=>pi ρ fun n it ρ1=>BE ix ρ1=true/\B1 ix ρ1 n it g pt pi2 g2 pt2 pe Q
theorem xm {K:PySem.W.Frag}{ix:List (Option Nat)}{wi wi2:TI}{pi pi2:PTI}{g g2:TG}{pg pg2:PTG}{tts tts2:TT}{pt pt2:PTT}{te:TE}{pe:PTE} (hix:x0 ix=true) (hi:LI K wi pi) (hg:∀fs:List Nat,(∀k∈fs,k∈vd ix)->LGd K fs g pg) (ht:LT K tts pt)
  (hi2:LI K wi2 pi2) (hg2:∀fs:List Nat,(∀k∈fs,k∈vd ix)->LGd K fs g2 pg2) (ht2:LT K tts2 pt2) (he:LE K te pe) :
  LE K (vA ix wi g tts fun D=>zG wi2 g2 tts2 (zF te D)) (x8 ix pi pg pt pi2 pg2 pt2 pe):=fun A ρ σ H Q Q' R q k=>hi A ρ σ H _ _ R q fun J H1 n it ρ1 q1 f1 R1 W D hD=>by
 obtain ⟨hcap,⟨I,i0,turn,after⟩⟩:=q1
 let τρ0:=bS ix ρ1
 let τσ0:=oU ix σ
 let Ai:Addr->Prop:=fun b=>A b\/b=D\/(Wr ρ1 σ b/\¬ Wr τρ0 τσ0 b)
 let H0':=upd H1 D (.lst [])
 have wsub:∀b,Wr τρ0 τσ0 b->Wr ρ1 σ b:=fun b ⟨m,p,e,o,s⟩=>by
  obtain ⟨j,h1,h2⟩:=cN e
  obtain ⟨v,hv,_⟩:=R1.get j p h2
  have:=cR h1 hv
  rw [s] at this
  cases this
  exact ⟨j,p,h2,o,hv⟩
 have nD:¬ Wr ρ1 σ D:=fun z=>R1.wr z hD
 have oosub:∀b,OO Ai τρ0 τσ0 b->OO A ρ1 σ b\/b=D:=fun b z=>by
  rcases z with (z | z | z) | z
  .exact .inl (.inl z)
  .exact .inr z
  .exact .inl (.inr z.1)
  .exact .inl (.inr (wsub b z))
 have kD:aO (OO A ρ1 σ) H1 (OO Ai τρ0 τσ0) H0':=fun b o nn e=>by
  refine ⟨fun z=>?_,?_⟩
  .rcases oosub b z with z | z
   .exact nn z
   .rw [z,hD] at e;cases e
  .rw [show H0' b=H1 b from au (aW e hD)];exact e
 have Ri:Rel K Ai τρ0 τσ0 H0':=by
  refine ⟨by show (bS ix ρ1).length=(oU ix σ).length;unfold bS oU;rw [List.length_map,List.length_map],fun m p e=>?_,fun m l p q v e1 e2 o1 o2 s1 s2=>?_,fun b z=>?_,fun b z w=>?_⟩
  .obtain ⟨j,h1,h2⟩:=cN e
   obtain ⟨v,hv,r⟩:=R1.get j p h2
   refine ⟨v,cR h1 hv,r.keeps kD fun ow a ea=>?_⟩
   subst ea
   exact au (fun z=>nD (by rw [<- z];exact ⟨j,p,h2,ow,hv⟩))
  .obtain ⟨j,h1,h2⟩:=cN e1
   obtain ⟨j',h3,h4⟩:=cN e2
   obtain ⟨v1,hv1,_⟩:=R1.get j p h2
   obtain ⟨v2,hv2,_⟩:=R1.get j' q h4
   have t1:=cR h1 hv1
   have t2:=cR h3 hv2
   rw [s1] at t1
   rw [s2] at t2
   cases t1
   cases t2
   have:=R1.dj j j' p q _ h2 h4 o1 o2 hv1 hv2
   subst this
   exact jX hix h1 h3
  .rcases z with z | z | z
   .intro e
    by_cases zz:b=D
    .exact R1.dom b z (by rw [zz];exact hD)
    .rw [show H0' b=H1 b from au zz] at e;exact R1.dom b z e
   .rw [z];show upd H1 D _ D≠none;rw [aE];exact nofun
   .intro e
    rw [show H0' b=H1 b from au (fun zz=>nD (by rw [<- zz];exact z.1))] at e;exact R1.wr z.1 e
  .rcases z with z | z | z
   .exact R1.sep b z (wsub b w)
   .rw [z] at w;exact nD (wsub D w)
   .exact z.2 w
 let fxi:List (Nat×V):=(vd ix).filterMap fun m=>match (τσ0[m]?) with | some (some v)=>some (m,v) | _=>none
 have hfx:∀p∈fxi,τσ0[p.1]?=some (some p.2):=fun p hp=>by
  obtain ⟨m,hm,e⟩:=List.mem_filterMap.mp hp
  split at e
  .rename_i v ev;cases e;exact ev
  .cases e
 have hfs:∀m∈fxi.map Prod.fst,m∈vd ix:=fun m hm=>by
  obtain ⟨p,hp,rfl⟩:=List.mem_map.mp hm
  obtain ⟨m',hm',e⟩:=List.mem_filterMap.mp hp
  split at e
  .cases e;exact hm'
  .cases e
 have hgi:=hg (fxi.map Prod.fst) hfs
 have hgi2:=hg2 (fxi.map Prod.fst) hfs
 have fxget:∀(m j:Nat) (v:V),ix[m]?=some (some j)->σ[j]?=some (some v)->(m,v)∈fxi:=fun m j v h1 h2=>by
  refine List.mem_filterMap.mpr ⟨m,?_,?_⟩
  .unfold vd
   refine List.mem_filter.mpr ⟨List.mem_range.mpr (List.getElem?_eq_some_iff.mp h1).1,?_⟩
   rw [List.getD_eq_getElem?_getD,h1];rfl
  .show (match (oU ix σ)[m]? with | some (some v)=>some (m,v) | _=>none)=_
   rw [cR h1 h2]
 let Rr:Addr->Prop:=fun b=>Wr τρ0 τσ0 b\/b=D
 have hRr:∀b,Rr b->OO Ai τρ0 τσ0 b:=fun b z=>z.elim (fun z=>.inr z) (fun z=>.inl (.inr (.inl z)))
 have F0:dC fxi Rr H0' τρ0 τσ0 H0':=⟨fun _ _ _ h=>h,fun _ h=>h,fun b w=>.inl (.inl w),hfx⟩
 refine ⟨fun i m τ H2=>i + m=n/\∃ys τρ xs,I i ys τρ/\Rel K Ai τρ τ H2/\dC fxi Rr H0' τρ τ H2/\H2 D=some (.lst xs)/\FVs K (OO Ai τρ τ) H2 xs ys/\∀b,Wr τρ τ b->Wr τρ0 τσ0 b,
  ⟨n,Nat.zero_add n,[],τρ0,[],i0,Ri,F0,aE,.nil,fun _ h=>h⟩,fun i m τ H2 ⟨him,ys,τρ,xs,iv,r2,F2,eD,fD,hw⟩=>?_⟩
 have kk:aO (OO A ρ1 σ) H1 (OO Ai τρ τ) H2:=fun b o nn e=>(F2.keepsR hRr) b o (kD b o nn e).1 (kD b o nn e).2
 obtain ⟨go,stop⟩:=W _ H2 kk r2.dom2
 by_cases hk:i < n
 .obtain ⟨g1,g2⟩:=go i hk
  refine .inr ⟨g1,fun x H3 y=>?_⟩
  obtain ⟨gr,fv⟩:=g2 x H3 y
  have AiD:Ai D:=.inr (.inl rfl)
  refine hgi fxi Ai Rr H0' τρ τ H3 _ x _ _ rfl (F2.fr gr.fr) (r2.gr gr) fv (turn i ys τρ _ hk rfl iv) fun τρ2 τ2 q2 r3 F3 w3=>?_
  refine ht Ai τρ2 τ2 H3 _ _ r3 q2 fun ok H5 τρ3 q3 f5 r5=>?_
  have F5:=F3.fr f5
  have fD5:FVs K (OO Ai τρ3 τ2) H5 xs ys:=((fD.keeps (gr.fr (ρ:=τρ) (σ:=τ)).keeps).keeps (aO.less fun b z=>z.imp id (w3 b))).keeps f5.keeps
  have eD5:H5 D=some (.lst xs):=f5.kp D _ (r3.sep D AiD) (gr D _ eD)
  cases ok with
  | true =>
   refine hi2 Ai τρ3 τ2 H5 _ _ r5 q3 fun J2 H6 n2 it2 τρ4 q4 f6 r6 W2=>?_
   obtain ⟨I2,j0,turn2,after2⟩:=q4
   have F6:=F5.fr f6
   have eD6:H6 D=some (.lst xs):=f6.kp D _ (r5.sep D AiD) eD5
   have fD6:=fD5.keeps (f6.keeps (A:=Ai))
   have hw6:∀b,Wr τρ4 τ2 b->Wr τρ0 τσ0 b:=fun b z=>hw b (w3 b (f5.ow b (f6.ow b z)))
   refine ⟨fun j l τ' H'=>j + l=n2/\∃zs τρ' xs',I2 j zs τρ'/\Rel K Ai τρ' τ' H'/\dC fxi Rr H0' τρ' τ' H'/\H' D=some (.lst xs')/\FVs K (OO Ai τρ' τ') H' xs' zs/\(∀b,Wr τρ' τ' b->Wr τρ0 τσ0 b)/\aO (OO Ai τρ4 τ2) H6 (OO Ai τρ' τ') H',
    ⟨n2,Nat.zero_add n2,ys,τρ4,xs,j0,r6,F6,eD6,fD6,hw6,fun b o n e=>⟨n,e⟩⟩,fun j l τ' H7 ⟨hjl,zs,τρ',xs',jv,r7,F7,eD7,fD7,hw7,kk7⟩=>?_⟩
   obtain ⟨go2,stop2⟩:=W2 _ H7 kk7 r7.dom2
   by_cases hj:j < n2
   .obtain ⟨g1',g2'⟩:=go2 j hj
    refine .inr ⟨g1',fun y H8 yy=>?_⟩
    obtain ⟨gr8,fv8⟩:=g2' y H8 yy
    refine hgi2 fxi Ai Rr H0' τρ' τ' H8 _ y _ _ rfl (F7.fr gr8.fr) (r7.gr gr8) fv8 (turn2 j zs τρ' _ hj rfl jv) fun τρ9 τ9 q9 r9 F9 w9=>?_
    refine ht2 Ai τρ9 τ9 H8 _ _ r9 q9 fun ok2 H10 τρ10 q10 f10 r10=>?_
    have F10:=F9.fr f10
    have k1:=(gr8.fr (ρ:=τρ') (σ:=τ')).keeps (A:=Ai)
    have k2:aO (OO Ai τρ' τ') H8 (OO Ai τρ9 τ9) H8:=aO.less fun b z=>z.imp id (w9 b)
    have k3:=f10.keeps (A:=Ai)
    have fD10:FVs K (OO Ai τρ10 τ9) H10 xs' zs:=fD7.keeps (kpt k1 (kpt k2 k3))
    have eD10:H10 D=some (.lst xs'):=f10.kp D _ (r9.sep D AiD) (gr8 D _ eD7)
    cases ok2 with
    | true =>
     refine he Ai τρ10 τ9 H10 _ _ r10 q10 fun v H11 p τρ11 q11 f11 o11=>?_
     obtain ⟨r11,fv11⟩:=o11.frz
     have F11:=F10.fr f11
     have eD11:H11 D=some (.lst xs'):=f11.kp D _ (r10.sep D AiD) eD10
     have kw:aO (OO Ai τρ11 τ9) H11 (OO Ai τρ11 τ9) (upd H11 D (.lst (xs'++[v]))):=fun b o nn e=>⟨nn,by rw [au (fun z=>nn (by rw [z];exact .inl AiD))];exact e⟩
     refine ⟨xs',eD11,?_,l - 1,by omega,by omega,zs++[p.d],τρ11,xs'++[v],q11.2,r11.amb AiD,⟨fun b o nn e=>?_,fun b z=>?_,F11.ow,F11.fx⟩,aE,((fD10.keeps f11.keeps).append (.cons fv11 .nil)).keeps kw,fun b z=>hw7 b (w9 b (f10.ow b (f11.ow b z))),kpt kk7 (kpt k1 (kpt k2 (kpt k3 (kpt f11.keeps kw))))⟩
     .have:xs'.length=zs.length:=fD10.length
      have:=q11.1
      exact Nat.lt_of_lt_of_le (by omega:xs'.length < 1000000) (sz _ (Nat.le_refl _))
     .rw [au (fun z=>nn (.inr z))];exact F11.kp b o nn e
     .by_cases zz:b=D
      .rw [zz,aE];exact nofun
      .rw [au zz];exact F11.dm b z
    | false=>exact ⟨l - 1,by omega,by omega,zs,τρ10,xs',q10,r10,F10,eD10,fD10,fun b z=>hw7 b (w9 b (f10.ow b z)),kpt kk7 (kpt k1 (kpt k2 k3))⟩
   .have e:j=n2:=by omega
    subst e
    exact .inl ⟨stop2,m - 1,by omega,by omega,zs,τρ',xs',after2 zs τρ' jv,r7,F7,eD7,fD7,hw7⟩
  | false=>exact ⟨m - 1,by omega,by omega,ys,τρ3,xs,q3,r5,F5,eD5,fD5,fun b z=>hw b (w3 b (f5.ow b z))⟩
 .have e:i=n:=by omega
  subst e
  refine .inl ⟨stop,?_⟩
  have q':=after ys τρ iv
  have cap:∀(m j:Nat),ix[m]?=some (some j)->∃p v,ρ1[j]?=some (some p)/\σ[j]?=some (some v)/\τ[m]?=some (some v):=fun m j e=>by
   have h1:=List.all_eq_true.mp hcap _ (List.mem_of_getElem? e)
   have h1:(match ρ1[j]? with | some (some _)=>true | _=>false)=true:=h1
   split at h1
   .rename_i p ep
    obtain ⟨v,hv,_⟩:=R1.get j p ep
    exact ⟨p,v,ep,hv,F2.fx _ (fxget m j v e hv)⟩
   .cases h1
  have get':∀(j:Nat) (p:PV),(eo ix ρ1 τρ)[j]?=some (some p)->(∃m v,ix[m]?=some (some j)/\σ[j]?=some (some v)/\τ[m]?=some (some v)/\τρ[m]?=some (some p))\/(some j∉ix/\ρ1[j]?=some (some p)):=fun j p e=>by
   by_cases hj:some j∈ix
   .obtain ⟨m,hm,em⟩:=List.getElem_of_mem hj
    have em':ix[m]?=some (some j):=by rw [List.getElem?_eq_getElem hm,em]
    obtain ⟨p0,v,h1,h2,h3⟩:=cap m j em'
    rw [nk ix ρ1 τρ j m hix em' (by rw [r2.len];exact (List.getElem?_eq_some_iff.mp h3).1) (List.getElem?_eq_some_iff.mp h1).1] at e
    exact .inl ⟨m,v,em',h2,h3,e⟩
   .rw [iz ix ρ1 τρ j hj] at e
    exact .inr ⟨hj,e⟩
  have nocap:∀(j:Nat) (p:PV) (b:Addr),some j∉ix->ρ1[j]?=some (some p)->p.isOwn=true->σ[j]?=some (some (.ref b))->¬ Wr τρ0 τσ0 b:=fun j p b hj e o s ⟨m,q,e1,o1,s1⟩=>by
   obtain ⟨j',h1,h2⟩:=cN e1
   obtain ⟨v,hv,_⟩:=R1.get j' q h2
   have:=cR h1 hv
   rw [s1] at this
   cases this
   have:=R1.dj j j' p q _ e h2 o o1 s hv
   subst this
   exact hj (List.mem_of_getElem? h1)
  have w':∀b,Wr (eo ix ρ1 τρ) σ b->Wr τρ τ b\/(Wr ρ1 σ b/\¬ Wr τρ0 τσ0 b):=fun b ⟨j,p,e,o,s⟩=>by
   rcases get' j p e with ⟨m,v,h1,h2,h3,h4⟩ | ⟨hj,h1⟩
   .rw [s] at h2;cases h2;exact .inl ⟨m,p,h4,o,h3⟩
   .exact .inr ⟨⟨j,p,h1,o,s⟩,nocap j p b hj h1 o s⟩
  have oo':∀b,OO (eT A D) (eo ix ρ1 τρ) σ b->OO Ai τρ τ b:=fun b z=>by
   rcases z with (z | z) | z
   .exact .inl (.inl z)
   .exact .inl (.inr (.inl z))
   .rcases w' b z with z | z
    .exact .inr z
    .exact .inl (.inr (.inr z))
  have kp1:∀b o,¬ Wr τρ0 τσ0 b->b≠D->H1 b=some o->H2 b=some o:=fun b o n1 n2 e=>F2.kp b o (fun z=>z.elim n1 n2) (by rw [show H0' b=H1 b from au n2];exact e)
  have k1:aO (OO A ρ1 σ) H1 (OO (eT A D) (eo ix ρ1 τρ) σ) H2:=fun b o nn e=>⟨fun z=>(kk b o nn e).1 (oo' b z),(kk b o nn e).2⟩
  have AiD:Ai D:=.inr (.inl rfl)
  have R':Rel K (eT A D) (eo ix ρ1 τρ) σ H2:=by
   refine ⟨by rw [jW];exact R1.len,fun j p e=>?_,fun j l p q v e1 e2 o1 o2 s1 s2=>?_,fun b z=>?_,fun b z w=>?_⟩
   .rcases get' j p e with ⟨m,v,h1,h2,h3,h4⟩ | ⟨hj,h1⟩
    .obtain ⟨v',hv',r⟩:=r2.get m p h4
     rw [h3] at hv';cases hv'
     exact ⟨v,h2,r.keeps (aO.less oo') fun _ _ _=>rfl⟩
    .obtain ⟨v,hv,r⟩:=R1.get j p h1
     refine ⟨v,hv,r.keeps k1 fun ow a ea=>?_⟩
     subst ea
     obtain ⟨a',u,e1,e2⟩:=r.ref ow
     cases e1
     rw [e2]
     exact kp1 a u (nocap j p a hj h1 ow hv) (fun z=>by rw [z,hD] at e2;cases e2) e2
   .rcases get' j p e1 with ⟨m,v1,h1,h2,h3,h4⟩ | ⟨hj,h1⟩
    .rw [s1] at h2;cases h2
     rcases get' l q e2 with ⟨m',v2,g1,g2,g3,g4⟩ | ⟨hl,g1⟩
     .rw [s2] at g2;cases g2
      have:=r2.dj m m' p q _ h4 g4 o1 o2 h3 g3
      subst this
      rw [h1] at g1;cases g1;rfl
     .exfalso
      obtain ⟨v',hv',r⟩:=r2.get m p h4
      rw [h3] at hv';cases hv'
      obtain ⟨a,u,ea,_⟩:=r.ref o1
      subst ea
      exact nocap l q a hl g1 o2 s2 (hw a ⟨m,p,h4,o1,h3⟩)
    .rcases get' l q e2 with ⟨m',v2,g1,g2,g3,g4⟩ | ⟨hl,g1⟩
     .rw [s2] at g2;cases g2
      exfalso
      obtain ⟨v',hv',r⟩:=r2.get m' q g4
      rw [g3] at hv';cases hv'
      obtain ⟨a,u,ea,_⟩:=r.ref o2
      subst ea
      exact nocap j p a hj h1 o1 s1 (hw a ⟨m',q,g4,o2,g3⟩)
     .exact R1.dj j l p q v h1 g1 o1 o2 s1 s2
   .rcases z with z | z
    .exact r2.dom b (.inl z)
    .rw [z,eD];exact nofun
   .rcases w' b w with w | w
    .rcases z with z | z
     .exact r2.sep b (.inl z) w
     .rw [z] at w;exact r2.sep D AiD w
    .rcases z with z | z
     .exact R1.sep b z w.1
     .rw [z] at w;exact nD w.1
  have f2:Fr ρ1 σ H1 (eo ix ρ1 τρ) H2:=by
   refine ⟨fun b o nn e=>kp1 b o (fun z=>nn (wsub b z)) (fun z=>by rw [z,hD] at e;cases e) e,fun b z=>F2.dm b ?_,fun b z=>?_⟩
   .intro e
    by_cases zz:b=D
    .exact z (by rw [zz];exact hD)
    .rw [show H0' b=H1 b from au zz] at e;exact z e
   .rcases w' b z with z | z
    .exact wsub b (hw b z)
    .exact z.1
  have hD0:H D=none:=by
   cases e:H D with
   | none=>rfl
   | some o=>exact absurd hD (f1.dm D (by rw [e];exact nofun))
  exact k _ H2 (.own ys) _ q' (f1.trans f2) ⟨D,xs,rfl,fun z=>R1.dom D z hD,hD0,eD,R',fD.keeps (aO.less oo')⟩
section
variable {prog:Program}{w:World}{A:Around}{E:Value->Shared->Prop}{s:Shared}
theorem pI {it t:Addr}{items:Array Value} (hne:t≠it):∀(n i:Nat) (s:Shared) (Q:List Value->Shared->Prop),s.heap.IsListIter it t i->s.heap.IsList t items->i + n<=items.size ->
  (∀h',h'.IsListIter it t (i + n)->Heap.SameBut it s.heap h'->Q ((items.toList.drop i).take n) { s with heap:=h' })->wpAny (model prog w) A (draw (.ref it) n) Q E s
 | 0,i,s,Q,hit,_,_,hQ=>by
  show wpAny _ _ (pure []) Q E s
  exact wpAny_pure (by simpa using hQ s.heap hit (Heap.SameBut.refl ..))
 | n + 1,i,s,Q,hit,ht,hle,hQ=>by
  have hlt:i < items.size:=by omega
  show wpAny _ _ (pyNext (.ref it) >>= _) Q E s
  refine wpAny_bind (wpAny_pyNext_list_item hit ht (x:=items[i]) (by simp [hlt]) fun h₁ hit₁ hs₁=>?_)
  refine wpAny_bind (wpAny_holding (pI hne n (i + 1) _ _ hit₁ (ht.extBut hs₁.extBut hne) (by omega) fun h₂ hit₂ hs₂=>wpAny_pure ?_))
  have hd:items.toList.drop i=items[i]::items.toList.drop (i + 1):=by simp [List.drop_eq_getElem_cons,hlt]
  have:=hQ h₂ (by rw [show i + (n + 1)=i + 1 + n by omega];exact hit₂) (hs₁.trans hs₂)
  rw [hd,List.take_succ_cons] at this
  exact this
theorem jL {t:Addr}{items:Array Value}{Q:List Value->Shared->Prop} (hh:A.handled=none) (ht:s.heap.IsList t items)
  (hQ:∀h',Heap.ExtBut s.heap.objs.size s.heap h'->Q items.toList { s with heap:=h' }):wpAny (model prog w) A (unpackItems (.ref t) items.size none) Q E s:=by
 have hlt:t≠s.heap.objs.size:=by obtain ⟨o,ho,_⟩:=ht;exact Nat.ne_of_lt (Heap.lt_size ho)
 unfold unpackItems
 refine wpAny_bind ?_
 .unfold notIterableAtAll
  refine wpAny_bind (wpAny_specialOf ht.typeIs PySem.F.slot_list_iter.lookup ?_)
  refine wpAny_pure ?_
  simp only [Bool.false_eq_true,if_false]
  refine wpAny_bind (wpAny_holding (wpAny_pyIter_list ht ?_))
  refine wpAny_bind (wpAny_holding (pI hlt items.size 0 _ _ ⟨_,Heap.get?_push_size _ rfl,rfl,rfl⟩ (ht.push _) (by omega) fun h₁ hit₁ hs₁=>?_))
  have hall:List.take items.size (List.drop 0 items.toList)=items.toList:=by
   rw [List.drop_zero];exact List.take_of_length_le (by simp)
  rw [hall]
  rw [if_neg (by simp)]
  have ht₁:h₁.IsList t items:=(ht.push _).extBut hs₁.extBut hlt
  refine wpAny_bind (wpAny_holding (wpAny_pyNext_list_end hh hit₁ ht₁ (by simp) fun h₂ he₂=>?_))
  simp only [Option.isSome_none,Bool.false_eq_true,if_false]
  refine wpAny_pure (hQ h₂ fun b o hb e=>he₂ b o hb (hs₁.extBut b o hb (Heap.get?_push_of_some _ e)))
theorem je {env:Env}{elts:List Expr}{x1}{pos:Pos}{t:Addr}{items:Array Value}{Q:Unit->Shared->Prop} (hh:A.handled=none) (ht:s.heap.IsList t items)
  (hn:(assignEach elts env).length=items.size) (hstar:(assignEach elts env).findIdx? (·.1)=none)
  (h:∀h',Heap.ExtBut s.heap.objs.size s.heap h'->wpAny (model prog w) A (assignInOrder ((assignEach elts env).map (·.2)) items.toList) Q E { s with heap:=h' }) :
  wpAny (model prog w) A (assign (.Tuple elts x1 pos) env (.ref t)) Q E s:=by
 rw [assign_Tuple]
 refine wpAny_bind (wpAny_standAt ?_)
 unfold unpack
 rw [hn,hstar]
 exact wpAny_bind (wpAny_holding (jL hh ht h))
end
def At (K:PySem.W.Frag) (n:Nat) (t:TGs):TG:=fun v σ H Q=>∃b a xs,v=.ref a/\Sq b K H a xs/\xs.length=n/\t xs σ H Q
section
variable {X:Cx}
theorem jB (K:PySem.W.Frag) (eK:X.K=K) {es:List Expr}{k:Nat}{t:TGs}{n:Nat}{pos:Pos} (hc:X.calm=true) (h:PGs X es t)
  (hn:(assignEach es X.env).length=n:=by rfl) (hst:(assignEach es X.env).findIdx? (·.1)=none:=by rfl):PG X (.Tuple es k pos) (At K n t):=by
 subst eK
 intro pins s σ H v u Q I r hw
 obtain ⟨b,a,xs,e1,hq,hl,hw⟩:=hw
 cases b with
 | true=>exact AL hc h hn hst pins s σ H v u Q I r ⟨a,xs,e1,hq,hl,hw⟩
 | false =>
  subst e1
  cases r
  obtain ⟨its,rv,ht,hz⟩:=I.list hq
  refine je (I.ok.hd hc) ht.isList (by simp [hn,<- hl,rv.length]) hst fun h' hx=>?_
  have I1:Inv X pins σ H { s with heap:=h' }:=I.kept (t':=s.toks) fun b o e=>hx b o (Nat.ne_of_lt (Heap.lt_size e)) e
  exact h pins _ σ H xs _ Q I1 (by simpa using rv) hw
def jM (n:Nat) (gs:xZ):PTG:=fun p ρ Q=>match p with | .dat (.tup ds)=>ds.length=n/\gs ds ρ Q | .dat (.lst ds)=>ds.length=n/\gs ds ρ Q | .own ds=>ds.length=n/\gs ds ρ Q | _=>False
end
section
variable {K:PySem.W.Frag}{fs:List Nat}
theorem jf {n:Nat}{gs:TGs}{pgs:xZ} (h:LGs K fs gs pgs):LGd K fs (At K n gs) (jM n pgs):=fun fx A R H0 ρ σ H d v Q Q' hf F r fv q k=>by
 unfold jM at q
 split at q
 .rename_i e
  cases e
  cases fv with
  | tup nn e f=>exact ⟨true,_,_,rfl,SqT.of e,by rw [f.length];exact q.1,h fx A R H0 ρ σ H _ _ Q Q' hf F r f q.2 k⟩
 .rename_i e
  cases e
  cases fv with
  | lst nn e f=>exact ⟨false,_,_,rfl,SqL.of e,by rw [f.length];exact q.1,h fx A R H0 ρ σ H _ _ Q Q' hf F r f q.2 k⟩
 .rename_i e
  cases e
 .exact q.elim
theorem x9 {n:Nat}{gs:TGs}{pgs:xZ} (h:LGs K fs gs pgs):LG K fs (At K n gs) (jM n pgs):=fun fx A R H0 ρ σ H p v Q Q' hf F o q k=>by
 unfold jM at q
 split at q
 .obtain ⟨r,fv⟩:=o
  cases fv with
  | tup nn e f=>exact ⟨true,_,_,rfl,SqT.of e,by rw [f.length];exact q.1,h fx A R H0 ρ σ H _ _ Q Q' hf F r f q.2 fun ρ' σ' q' r' F' _=>k ρ' σ' H q' r' F'⟩
 .obtain ⟨r,fv⟩:=o
  cases fv with
  | lst nn e f=>exact ⟨false,_,_,rfl,SqL.of e,by rw [f.length];exact q.1,h fx A R H0 ρ σ H _ _ Q Q' hf F r f q.2 fun ρ' σ' q' r' F' _=>k ρ' σ' H q' r' F'⟩
 .obtain ⟨r,fv⟩:=o.frz
  cases fv with
  | lst nn e f=>exact ⟨false,_,_,rfl,SqL.of e,by rw [f.length];exact q.1,h fx A R H0 ρ σ H _ _ Q Q' hf F r f q.2 fun ρ' σ' q' r' F' _=>k ρ' σ' H q' r' F'⟩
 .exact q.elim
end
def fh (d:D) (xs:List D):Prop:=d=.lst xs\/d=.tup xs
theorem B2 {d:D}{xs:List D}{Q:PV->Prop} (h:fh d xs) (q:Q (.dat (.int xs.length))):ic [d] Q:=by
 rcases h with rfl | rfl <;> exact q
theorem jg {d:D}{xs:List D}{i:Int}{Q:PV->Prop} (h:fh d xs) (q:∃x,atI xs i=some x/\Q (.dat x)):fIx d (.int i) Q:=by
 rcases h with rfl | rfl <;> exact q
theorem fh.lst (xs:List D):fh (.lst xs) xs:=.inl rfl
theorem fh.tup (xs:List D):fh (.tup xs) xs:=.inr rfl
theorem fh.items {d:D}{xs:List D} (h:fh d xs):bt d=xs:=by rcases h with rfl | rfl <;> rfl
def nSt:Expr->Bool
 | .Starred _ _=>false
 | _=>true
theorem ig {e:Expr}{es:List Expr}{env:Env} (h:nSt e=true):starEach (e::es) env=(false,eval e env)::starEach es env:=by
 cases e <;> first | rfl | cases h
theorem gB {env:Env}{pos:Pos}:∀{es:List Expr},es.all nSt=true->(backTo pos (starEach es env)).any (·.1)=false
 | [],_=>rfl
 | e::es,h=>by
  rw [List.all_cons,Bool.and_eq_true] at h
  rw [ig h.1]
  show (false || (backTo pos (starEach es env)).any (·.1))=false
  rw [gB h.2];rfl
section
variable {X:Cx}{k:Nat}{x:Str}{ps:List Str}{sp:Sp}{e:Expr}{es:List Expr}{te:TE}{t:TA}{p pos:Pos}{dvs:List V}{C:Addr}{id T:String}{r:List V->Hp->VK->Prop}
theorem paC (ha:PE X e te) (hr:PA X es t) (hn:nSt e=true:=by rfl):PA X (e::es) (bp te t):=yE ha hr (ig hn)
theorem az (C:Cal X.prog X.w X.K X.mg X.base k x ps sp) (hr:fR k X.A) (ha:PA X (e::es) t) (hg:Gl X x:=by rfl) (hdb:(x == ("__debug__":Str))=false:=by decide) (hn:nSt e=true:=by rfl) (hp:es.all nSt=true:=by rfl) :
  PE X (.Call (.Name x p) (e::es) [] pos) (eN sp [] E0 t):=Bj C hr ha hg hdb (ig hn) (gB hp)
theorem xn (j:Nat) (C:Bn X.prog X.w X.K X.mg X.base k x ps dvs sp) (hr:fR k X.A) (hj:j<=dvs.length) (ha:PA X (e::es) t) (hg:Gl X x:=by rfl) (hdb:(x == ("__debug__":Str))=false:=by decide) (hn:nSt e=true:=by rfl) (hp:es.all nSt=true:=by rfl) :
  PE X (.Call (.Name x p) (e::es) [] pos) (eN sp (dvs.drop j) E0 t):=yX j C hr hj ha hg hdb (ig hn) (gB hp)
theorem rR (M:Br X.prog X.w X.K X.mg X.base k C x ps sp) (hr:fR (k + 1) X.A) (ha:PA X (e::es) t) (hg:Gl X x:=by rfl) (hdb:(x == ("__debug__":Str))=false:=by decide) (hn:nSt e=true:=by rfl) (hp:es.all nSt=true:=by rfl) :
  PE X (.Call (.Name x p) (e::es) [] pos) (wB C sp [] E0 t):=yY M hr ha hg hdb (ig hn) (gB hp)
theorem aw (hc:bX X (.builtin id) r) (hg:Gl X x) (hm:X.mg x=none) (hv:bootBuiltins x=some (.builtin id)) (ha:PA X (e::es) t) (hnn:x≠"__name__":=by decide) (hdb:(x == ("__debug__":Str))=false:=by decide) (hn:nSt e=true:=by rfl) (hp:es.all nSt=true:=by rfl) :
  PE X (.Call (.Name x p) (e::es) [] pos) (tCB r t):=wE hc hg hm hv ha hnn hdb (ig hn) (gB hp)
theorem bP (hc:bX X (.type T) r) (hg:Gl X x) (hm:X.mg x=none) (hv:bootBuiltins x=some (.type T)) (ha:PA X (e::es) t) (hnn:x≠"__name__":=by decide) (hdb:(x == ("__debug__":Str))=false:=by decide) (hn:nSt e=true:=by rfl) (hp:es.all nSt=true:=by rfl) :
  PE X (.Call (.Name x p) (e::es) [] pos) (tCB r t):=uw hc hg hm hv ha hnn hdb (ig hn) (gB hp)
end
def plT:Expr->Bool
 | .Call _ _ _ _=>true
 | .Name _ _=>true
 | .Subscript _ _ _=>true
 | .Attribute _ _ _=>true
 | _=>false
theorem zJ {e:Expr}{env:Env} (h:plT e=true):∀whole,isTrue e env whole=(do let v <- whole;standAt e.pos;holding [v] (truthy v)):=by
 cases e <;> first | (intro _;rfl) | cases h
theorem d8 {X:Cx}{e:Expr}{t:TE} (h:PE X e t) (hp:plT e=true:=by rfl):PT X e (tB t):=AE h (zJ hp)
def fO (a b:List Nat):Bool:=decide (0<=fnd b a 0)
def dh (ps:List (List Nat)) (i:Nat):Bool:=!decide (pw ps i∈ps.take i) && !(ps.filter fun o=>decide ((pw ps i).length < o.length)).any fun o=>fO (pw ps i) o
theorem nB {a b:List Nat}:fO a b=true ↔ ∃k,stA b a k=true:=by
 unfold fO
 constructor
 .intro h
  have h0:fnd b a 0≠-1:=fun z=>by rw [z] at h;exact absurd (of_decide_eq_true h) (by decide)
  obtain ⟨k,_,_,h1,_⟩:=rF h0
  exact ⟨k,h1⟩
 .rintro ⟨k,hk⟩
  by_cases h0:fnd b a 0=-1
  .rw [wQ h0 k (Nat.zero_le _)] at hk;cases hk
  .obtain ⟨j,e,_⟩:=rF h0
   rw [e];exact decide_eq_true (by omega)
theorem xo (a:List Nat):fO a a=true:=nB.mpr ⟨0,decide_eq_true ⟨by omega,by rw [List.drop_zero,List.take_length]⟩⟩
theorem vB {a b c:List Nat} (h1:fO a b=true) (h2:fO b c=true):fO a c=true:=by
 obtain ⟨k1,e1⟩:=nB.mp h1
 obtain ⟨k2,e2⟩:=nB.mp h2
 obtain ⟨l1,t1⟩:=of_decide_eq_true e1
 obtain ⟨l2,t2⟩:=of_decide_eq_true e2
 refine nB.mpr ⟨k2 + k1,decide_eq_true ⟨by omega,?_⟩⟩
 have hb:b.drop k1=(c.drop (k2 + k1)).take (b.length - k1):=by
  rw [<- t2,List.drop_take,List.drop_drop,t2]
 have ha:a=((c.drop (k2 + k1)).take (b.length - k1)).take a.length:=by rw [<- hb,t1]
 rw [List.take_take,show min a.length (b.length - k1)=a.length by omega] at ha
 exact ha.symm
theorem xp {ps:List (List Nat)}{i:Nat}:dh ps i=true ↔ pw ps i∉ps.take i/\∀o∈ps,(pw ps i).length < o.length->fO (pw ps i) o=false:=by
 unfold dh
 rw [Bool.and_eq_true,Bool.not_eq_true',Bool.not_eq_true',decide_eq_false_iff_not,List.any_eq_false]
 constructor
 .rintro ⟨h1,h2⟩
  refine ⟨h1,fun o ho hl=>?_⟩
  have:=h2 o (List.mem_filter.mpr ⟨ho,decide_eq_true hl⟩)
  simpa using this
 .rintro ⟨h1,h2⟩
  refine ⟨h1,fun o ho=>?_⟩
  obtain ⟨m1,m2⟩:=List.mem_filter.mp ho
  rw [h2 o m1 (of_decide_eq_true m2)];decide
theorem vC {ps:List (List Nat)} (hw:∀w∈ps,w.length<=60):∀(m i:Nat),i < ps.length->(61 - (pw ps i).length) * (ps.length + 1) + i<=m->∃j,j < ps.length/\dh ps j=true/\fO (pw ps i) (pw ps j)=true:=by
 intro m
 induction m with
 | zero =>
  intro i hi h
  have hl:=hw _ (List.mem_of_getElem? (fH hi))
  have:0 < (61 - (pw ps i).length) * (ps.length + 1):=Nat.mul_pos (by omega) (by omega)
  omega
 | succ m ih =>
  intro i hi h
  have hl:=hw _ (List.mem_of_getElem? (fH hi))
  by_cases hk:dh ps i=true
  .exact ⟨i,hi,hk,xo _⟩
  .by_cases h1:pw ps i∈ps.take i
   .obtain ⟨i',hi'⟩:=List.mem_iff_getElem?.mp h1
    have hlt:i' < i:=by
     have:=(List.getElem?_eq_some_iff.mp hi').1
     rw [List.length_take] at this;omega
    have he:pw ps i'=pw ps i:=by
     rw [List.getElem?_take,if_pos hlt] at hi'
     have:=fH (ws:=ps) (k:=i') (by omega)
     rw [hi'] at this;exact (Option.some.inj this).symm
    obtain ⟨j,a1,a2,a3⟩:=ih i' (by omega) (by rw [he];omega)
    exact ⟨j,a1,a2,by rw [<- he];exact a3⟩
   .have h2:∃o∈ps,(pw ps i).length < o.length/\fO (pw ps i) o=true:=by
     apply Classical.byContradiction
     intro z
     refine hk (xp.mpr ⟨h1,fun o ho hlo=>?_⟩)
     cases hs:fO (pw ps i) o with
     | false=>rfl
     | true=>exact absurd ⟨o,ho,hlo,hs⟩ z
    obtain ⟨o,ho,hlo,hs⟩:=h2
    obtain ⟨i',hi'⟩:=List.mem_iff_getElem?.mp ho
    have hlt:i' < ps.length:=(List.getElem?_eq_some_iff.mp hi').1
    have he:pw ps i'=o:=by
     have:=fH hlt
     rw [hi'] at this;exact (Option.some.inj this).symm
    have hm:(61 - o.length + 1) * (ps.length + 1)<=(61 - (pw ps i).length) * (ps.length + 1):=Nat.mul_le_mul_right _ (by have:=hw o ho;omega)
    rw [Nat.add_mul,Nat.one_mul] at hm
    obtain ⟨j,a1,a2,a3⟩:=ih i' hlt (by rw [he];omega)
    rw [he] at a3
    exact ⟨j,a1,a2,vB hs a3⟩
def qC (a b:List Nat) (k:Nat):Prop:=k < min a.length b.length/\b.take k <:+ a/\∀j,j < min a.length b.length->b.take j <:+ a->j<=k
theorem qC.uniq {a b:List Nat}{j k:Nat} (x:qC a b j) (y:qC a b k):j=k:=Nat.le_antisymm (y.2.2 j x.1 x.2.1) (x.2.2 k y.1 y.2.1)
def eC (a b:List Nat):Nat:=open Classical in if h:∃k,qC a b k then Classical.choose h else 0
theorem zK {a b:List Nat} (ha:0 < a.length) (hb:0 < b.length):qC a b (eC a b):=by
 obtain ⟨k,h1,h2,h3⟩:=ko (fun k=>b.take k <:+ a) (by rw [List.take_zero];exact List.nil_suffix) (min a.length b.length) (by omega)
 have h:∃k,qC a b k:=⟨k,h1,h2,h3⟩
 unfold eC
 rw [dif_pos h]
 exact Classical.choose_spec h
theorem nC {a b:List Nat}{k:Nat} (h:qC a b k):eC a b=k:=(zK (by have:=h.1;omega) (by have:=h.1;omega)).uniq h
def aR (ps:List (List Nat)):List Nat:=(List.range ps.length).filter (dh ps)
def vD (ps:List (List Nat)):List Nat:=(List.range ps.length).filter fun i=>!decide (i∈aR ps)
def ak (ps:List (List Nat)):List (List Nat):=(aR ps).map (pw ps)
theorem fX {ps:List (List Nat)}{i:Nat} (h:i∈aR ps):i < ps.length:=List.mem_range.mp (List.mem_filter.mp h).1
theorem jh (ps:List (List Nat)):(aR ps).length<=ps.length:=Nat.le_trans (List.length_filter_le ..) (by rw [List.length_range];omega)
theorem gC {m:Nat}{ps:List (List Nat)} (h:Pcs m ps):Pcs m (ak ps):=fun w hw=>by
 obtain ⟨i,hi,rfl⟩:=List.mem_map.mp hw
 exact h _ (jA (fX hi))
theorem gD (ps:List (List Nat)):(ak ps).length<=ps.length:=by unfold ak;rw [List.length_map];exact jh ps
def kF (ps:List (List Nat)) (i:Nat):List Nat:=(aR ps).filter fun j=>fO (pw ps i) (pw ps j)
def rS (ps:List (List Nat)) (i:Nat):Nat:=(kF ps i).headD 0
theorem xq {l:List Nat} (h:l.Pairwise (· < ·)) {m:Nat} (hm:m∈l) (hle:∀a∈l,m<=a):l.headD 0=m:=by
 cases l with
 | nil=>cases hm
 | cons x r =>
  show x=m
  have h1:=hle x (List.mem_cons_self ..)
  rcases List.mem_cons.mp hm with e | e
  .exact e.symm
  .have:=(List.pairwise_cons.mp h).1 m e;omega
theorem pJ (ps:List (List Nat)):(aR ps).Pairwise (· < ·):=List.pairwise_lt_range.filter _
theorem vE {ps:List (List Nat)}{i m:Nat} (hm:m∈kF ps i) (hle:∀a∈kF ps i,m<=a):rS ps i=m:=xq ((pJ ps).filter _) hm hle
theorem tE {ps:List (List Nat)} (hw:∀w∈ps,w.length<=60) {i:Nat} (hi:i < ps.length):∃j,j∈kF ps i:=by
 obtain ⟨j,h1,h2,h3⟩:=vC hw _ i hi (Nat.le_refl _)
 exact ⟨j,List.mem_filter.mpr ⟨List.mem_filter.mpr ⟨List.mem_range.mpr h1,h2⟩,h3⟩⟩
def ee (ps:List (List Nat)) (i:Nat):D:=.tup [.int (i:Int),.int (rS ps i:Int),.int (fnd (pw ps (rS ps i)) (pw ps i) 0)]
def B3 (ws:List (List Nat)):D:=.tup (ws.map fun w=>.tup (ws.map fun v=>.int (eC w v:Int)))
def qD (ps:List (List Nat)):Int:=((ak ps).map fun w=>(w.length:Int)).sum
def nD (k:Nat):D:=.int (k:Int)
def gK:List Str:=["pieces","kept","words","left","laps","total"]
def gL (ps:List (List Nat)):List D:=[.tup (ps.map .str),.tup ((aR ps).map nD),.tup ((ak ps).map .str),.tup ((vD ps).map (ee ps)),B3 (ak ps),.int (qD ps)]
theorem pK {ks:List Nat}{k:Nat} (h:k < (ks.map nD).length):itD (ks.map nD) k=.int ((ks.getD k 0:Nat):Int):=fU (by
 have h:k < ks.length:=by rwa [List.length_map] at h
 rw [List.getElem?_map,List.getD_eq_getElem?_getD,List.getElem?_eq_getElem h];rfl)
theorem nE (w:List Nat):∀ws:List (List Nat),inD (.str w) (ws.map .str)=decide (w∈ws)
 | []=>by simp [inD]
 | v::r=>by
  have ih:=nE w r
  unfold inD at ih ⊢
  rw [List.map_cons,List.any_cons,ih]
  show ((v == w) || decide (w∈r))=_
  by_cases h:v=w
  .subst h;simp
  .rw [beq_eq_false_iff_ne.mpr h,Bool.false_or]
   by_cases h2:w∈r
   .rw [decide_eq_true h2,decide_eq_true (List.mem_cons_of_mem _ h2)]
   .rw [decide_eq_false h2,decide_eq_false (fun z=>(List.mem_cons.mp z).elim (fun e=>h e.symm) h2)]
theorem vF (k:Nat):∀ks:List Nat,inD (.int (k:Int)) (ks.map nD)=decide (k∈ks)
 | []=>by simp [inD]
 | v::r=>by
  have ih:=vF k r
  unfold inD at ih ⊢
  rw [List.map_cons,List.any_cons,ih]
  show (((v:Int) == (k:Int)) || decide (k∈r))=_
  by_cases h:v=k
  .subst h;simp
  .rw [show ((v:Int) == (k:Int))=false from beq_eq_false_iff_ne.mpr (by omega),Bool.false_or]
   by_cases h2:k∈r
   .rw [decide_eq_true h2,decide_eq_true (List.mem_cons_of_mem _ h2)]
   .rw [decide_eq_false h2,decide_eq_false (fun z=>(List.mem_cons.mp z).elim (fun e=>h e.symm) h2)]
theorem vG (ws:List (List Nat)):(ws.map D.str).all D.fl=true:=by rw [List.all_map];exact List.all_eq_true.mpr fun _ _=>rfl
theorem B4 (ks:List Nat):(ks.map nD).all D.fl=true:=by rw [List.all_map];exact List.all_eq_true.mpr fun _ _=>rfl
theorem rT (ws:List (List Nat)):(List.range ws.length).map (pw ws)=ws:=by
 apply List.ext_getElem?
 intro k
 rw [List.getElem?_map]
 by_cases hk:k < ws.length
 .rw [List.getElem?_range hk,fH hk];rfl
 .rw [List.getElem?_eq_none (by rw [List.length_range];omega),List.getElem?_eq_none (by omega)];rfl
theorem xr {β:Type} (f:List Nat->Option β) (ws:List (List Nat)):(List.range ws.length).filterMap (fun k=>f (pw ws k))=ws.filterMap f:=by
 conv=>rhs;rw [<- rT ws]
 rw [List.filterMap_map];rfl
theorem cO {α β:Type} (p:α->Bool) (g:α->β):∀l:List α,l.filterMap (fun a=>if p a=true then some (g a) else none)=(l.filter p).map g
 | []=>rfl
 | a::r=>by
  rw [List.filterMap_cons,List.filter_cons]
  cases h:p a with
  | true=>simp [cO p g r]
  | false=>simp [cO p g r]
theorem xt {β:Type} (f:Nat->Option β) (ks:List Nat):(List.range ks.length).filterMap (fun k=>f (ks.getD k 0))=ks.filterMap f:=by
 have e:(List.range ks.length).map (fun k=>ks.getD k 0)=ks:=by
  have:=fg (fun k=>k) ks
  rw [List.map_id'] at this;exact this
 conv=>rhs;rw [<- e]
 rw [List.filterMap_map];rfl
theorem ji (n:Nat):(tY 0 n).length=n:=by unfold tY;rw [List.length_map,List.length_range]
theorem nF {n j:Nat} (h:j < (tY 0 n).length):itD (tY 0 n) j=.int (j:Int):=fU (by
 rw [ji] at h
 unfold tY
 rw [List.getElem?_map,List.getElem?_range h]
 show some (D.int (0 + (j:Int)))=_
 rw [Int.zero_add])
theorem xu (a b:List Int):deq (.lst (a.map .int)) (.lst (b.map .int))=decide (a=b):=by
 unfold deq
 show PyData.eqv (.list (D.pys _)) (.list (D.pys _))=_
 rw [ny,ny]
 simp only [PyData.eqv]
 exact kh a b
abbrev vmB:List Value:=[.type "ValueError",.type "Exception",.type "BaseException",.type "object"]
open PySem.Builtin PySem.Builtin.ObjectAttr
section
variable {prog:Program}{w:World}{A:Around}{E:Value->Shared->Prop}{K:PySem.W.Frag}{h:Heap}{g:Array GenState}{d:Drawn}{t:Nat}{os:OsState}
variable {nm q:Str}{C G N x:Addr}{bs:List Value}{sn:List Str}{sub:List Value}{ab:Bool}{col:Option Bool}{k0 k1 k2 k3 k5:Option Value}{name:Str}{v:Value}{o:Obj}{vs:Array Value}
def D3 (h h':Heap) (x:Addr) (o:Obj) (name:Str) (v:Value) (dx:Addr):Prop :=
 h'.get? x=some { o with dict:=some dx }/\h.objs.size<=dx/\dx≠x/\h'.Ns1 dx (fun y=>if y=name then some v else none)/\∀b ob,b≠x->h.get? b=some ob->h'.get? b=some ob
theorem nG {tk:Tok}{Q:Fin->Shared->Prop} (X:K.In h) (hC:h.get? C=some (excClassObj nm q C N bs (.ref G::vmB) true sn sub ab col none k0 k1 k2 k3 k5 "ValueError.__new__"))
  (hna:PySem.W.findIn K (.ref C) name=some none) (hx:h.get? x=some o) (hc:o.cls=.ref C) (hd:o.data=.fields vs) (hdn:o.dict=none)
  (hq:∀h' tk' dx,D3 h h' x o name v dx->Q (.done (.ret .none)) ⟨h',g,d,tk',os⟩) :
  wpAny (model prog w) A (Builtin.«object.__setattr__» ⟨[.ref x,.str name tk,v],[]⟩) Q E ⟨h,g,d,t,os⟩:=by
 have hpass:=PySem.F.store_ValueError.passes (.ref x)
 unfold Builtin.«object.__setattr__»
 repeat (first
  | rw [refuse_eq]
  | (rw [refuseLoop_ref,refuseLoop_ref,hpass])
  | (with_reducible refine wpAny_loadPart_at hx ?_;rw [hc])
  | with_reducible refine wpAny_mroOf_exc hC ?_
  | (with_reducible refine (PySem.W.looks_findIn X hna).at ?_)
  | wp_step)
 rw [hdn,if_neg (by simp [typeHasDict])]
 split
 .rename_i hcd
  cases hcd
 split
 .rename_i c hcd
  rw [hd] at hcd;cases hcd
 .have hx1:(h.push { cls:=.type "dict",data:=.dict #[] }).get? x=some o:=Heap.get?_push_of_some _ hx
  have hxs:x≠h.objs.size:=Nat.ne_of_lt (Heap.lt_size hx)
  refine wpAny_bind (wpAny_alloc' ?_)
  refine wpAny_bind (wpAny_update' hx1 ?_)
  refine wpAny_pure ?_
  generalize hg2:((h.push { cls:=.type "dict",data:=.dict #[] }).update x fun o=>{ cls:=o.cls,dict:=some h.objs.size,data:=o.data,slots:=o.slots })=h2
  have gd:h2.get? h.objs.size=some { cls:=.type "dict",data:=.dict #[] }:=by
   rw [<- hg2]
   exact (Heap.get?_update_ne _ _ _ _ hxs.symm).trans (Heap.get?_push_at rfl rfl)
  have gx:h2.get? x=some { o with dict:=some h.objs.size }:=by
   rw [<- hg2]
   refine Heap.get?_update_self _ hx1 ?_
   have hfr:=(Heap.get?_some_iff.mp hx).2
   obtain ⟨oc,od,odt,osl⟩:=o
   cases odt <;> first | rfl | exact hfr
  have kp:∀b ob,b≠x->h.get? b=some ob->h2.get? b=some ob:=fun b ob hb e=>by
   rw [<- hg2]
   exact (Heap.get?_update_ne _ _ _ _ hb).trans (Heap.get?_push_of_some _ e)
  have hnd:h2.Ns h.objs.size (fun _=>none):=⟨_,#[],_,gd,rfl,fun e he=>absurd he (by simp),fun _=>rfl⟩
  show wpAny _ _ (storeInDict h.objs.size (.str name tk) name v) _ _ _
  unfold storeInDict newKeyGuard
  refine wpAny_bind (wpAny_pure (wpAny_bind (wpAny_nsSet1 (Heap.Ns1.of_empty hnd) fun h' hn' hs=>?_)))
  obtain ⟨oD,esD,epD,hoD,hdD,hcD⟩:=hn'.count (Within.cons name v Within.nil)
  refine wpAny_bind (wpAny_lookBehind hoD (by
   rw [hdD]
   exact pastItsLine_dict (Nat.le_trans hcD (by rw [List.length_cons,List.length_nil,sizeLine_eq];omega))) ?_)
  wp_walk
  exact hq h' _ h.objs.size ⟨(hs.2 x hxs).trans gx,Nat.le_refl _,hxs.symm,hn',fun b ob hb e=>(hs.2 b (Nat.ne_of_lt (Heap.lt_size e))).trans (kp b ob hb e)⟩
theorem zL {Q:Unit->Shared->Prop} (X:K.In h) (hC:h.get? C=some (excClassObj nm q C N bs (.ref G::vmB) true sn sub ab col none k0 k1 k2 k3 k5 "ValueError.__new__"))
  (hsa:PySem.W.findIn K (.ref C) "__setattr__"=some (some (.builtin "object.__setattr__"))) (hna:PySem.W.findIn K (.ref C) name=some none)
  (hx:h.get? x=some o) (hc:o.cls=.ref C) (hd:o.data=.fields vs) (hdn:o.dict=none)
  (hq:∀h' tk' dx,D3 h h' x o name v dx->Q () ⟨h',g,d,tk',os⟩) :
  wpAny (model prog w) A (setAttr (.ref x) name v) Q E ⟨h,g,d,t,os⟩:=by
 have SF:=PySem.F.store_ValueError
 have u3:=SF.slot.bind (.ref x)
 unfold setAttr callSpecial? specialOf
 refine wpAny_bind (wpAny_mkText (wpAny_bind (wpAny_bind (wpAny_bind (wpAny_typeOf_ref hx ?_)))))
 rw [hc]
 refine (PySem.W.looks_findIn X hsa).at ?_
 refine wpAny_holding (wpAny_bind (wpAny_of_eq u3 (wpAny_bind (wpAny_call ?_))))
 have own:(Value.ref C::.ref G::vmB).contains (.type "object")=true:=by
  rw [List.contains_cons,List.contains_cons,SF.hasOwner,Bool.or_true,Bool.or_true]
 refine codeAny_call_builtin SF.slot.plain SF.entry ?_
 simp only [checkBuiltinCall,SF.kind,SF.split]
 have ha:=SF.args (.ref x) (.str name t) v
 show wpAny _ _ (isInstance (.ref x) (.type "object") >>= _) _ _ _
 refine wpAny_bind ?_
 unfold isInstance
 refine wpAny_bind (wpAny_typeOf_ref hx ?_)
 rw [hc]
 refine wpAny_isSubtype_exc hC ?_
 rw [own]
 have step:∀{Q':Fin->Shared->Prop},(∀s',Q () s'->Q' (.done (.ret .none)) s')->wpAny (model prog w) A.in1 (Builtin.«object.__setattr__» ⟨[.ref x,.str name t,v],[]⟩) Q' E ⟨h,g,d,t + 1,os⟩:=fun k =>
  nG X hC hna hx hc hd hdn fun h' tk' dx z=>k _ (hq h' tk' dx z)
 show wpAny _ _ (match Manifest.signature? "object.__setattr__" with | some sig=>Bind.checkArgs "object.__setattr__" sig { pos:=[Value.ref x]++[Value.str name t,v] } | x=>pure ()) _ _ _
 cases hsig:Manifest.signature? "object.__setattr__" with
 | none=>exact wpAny_pure (step fun s' z=>wpAny_pure (wpAny_pure z))
 | some sig =>
  simp only [argsOk,hsig] at ha
  have h2:Bind.checkArgs "object.__setattr__" sig ⟨[.ref x,.str name t,v],[]⟩=pure ():=ha
  show wpAny _ _ (Bind.checkArgs "object.__setattr__" sig ⟨[.ref x,.str name t,v],[]⟩) _ _ _
  rw [h2]
  exact wpAny_pure (step fun s' z=>wpAny_pure (wpAny_pure z))
end
open PySem.Builtin PySem.Builtin.ObjectAttr
open PySem.Builtin PySem.Builtin.ObjectAttr
open PySem.Builtin PySem.Builtin.ObjectAttr
section
variable {prog:Program}{w:World}{A:Around}{E:Value->Shared->Prop}{K:PySem.W.Frag}{h:Heap}{g:Array GenState}{d:Drawn}{t:Nat}{os:OsState}
variable {nm q:Str}{C G N x dx:Addr}{bs:List Value}{sn:List Str}{sub:List Value}{ab:Bool}{col:Option Bool}{k0 k1 k2 k3 k5:Option Value}{name:Str}{v:Value}{o:Obj}{vs:Array Value}{mA:Str->Option Value}
structure XC (K:PySem.W.Frag) (C G:Addr):Prop where
 obj:∃nm q N bs sn sub ab col k0 k1 k2 k3 k5,K.lookup C=some (excClassObj nm q C N bs (.ref G::vmB) true sn sub ab col none k0 k1 k2 k3 k5 "ValueError.__new__")
 ga:PySem.W.findIn K (.ref C) "__getattribute__"=some (some (.builtin "BaseException.__getattribute__"))
 gh:PySem.W.findIn K (.ref C) "__getattr__"=some none
 sa:PySem.W.findIn K (.ref C) "__setattr__"=some (some (.builtin "object.__setattr__"))
 cl:PySem.W.findIn K (.ref C) "__class__"=some (some (.builtin "object.__class__"))
end
theorem XAt.ok {P:Program}{w:World}{H:Hp}{h:Heap}{x C:Addr}{dd:Option Addr}{new:Bool} (p:XAt x C dd new h):cr P w H h x (.ext (XAt x C dd new)):=by
 obtain ⟨o,vs,h1,h2,h3,h4⟩:=id p
 exact ⟨p,⟨o,h1⟩,fun g1 g2 ⟨o',vs',a1,a2⟩ k=>⟨o',vs',k _ a1,a2⟩⟩
section
variable {X:Cx}{pins:List (Addr×Obj)}{σ:St}{H:Hp}{s:Shared}{a dx C G:Addr}{f:Str}{v:V}{fs:List (Str×V)}{A:Around}{E:Value->Shared->Prop}
theorem Un.setX {h h':Heap}{fs ex:List Addr}{o:HO}{o2:HO} (mu:Mut (H a)) (hx:H dx=none) (hd:h.get? dx=none) (k:∀b ob,b≠a->h.get? b=some ob->h'.get? b=some ob) (ha:∃o,h'.get? a=some o):Un fs ex H (upd (upd H dx o) a o2) h h':=by
 have na:∀b,H b=none->b≠a:=fun b n z=>by subst z;rw [n] at mu;exact mu
 have nd:∀b ob,h.get? b=some ob->b≠dx:=fun b ob e z=>by rw [z,hd] at e;cases e
 have hm:∀b u,H b=some u->¬ Mut (some u)->b≠a/\b≠dx:=fun b u q nm=>⟨fun z=>by subst z;rw [q] at mu;exact nm mu,fun z=>by subst z;rw [hx] at q;cases q⟩
 refine ⟨fun b u q n _ _=>k b u (na b n) q,fun b u q n _ _=>⟨u.slots,k b u (na b n) q⟩,fun b u q n _=>by rw [au (na b n),au (nd b u q)];exact n,fun b u q _=>?_,
  fun b xs q=>by rw [au (hm b _ q fun z=>z).1,au (hm b _ q fun z=>z).2];exact q,fun b u xs q=>by rw [au (hm b _ q fun z=>z).1,au (hm b _ q fun z=>z).2];exact q,
  fun b ps q=>⟨#[],by rw [au (hm b _ q fun z=>z).1,au (hm b _ q fun z=>z).2,q];simp⟩⟩
 by_cases hb:b=a
 .subst hb;exact ha
 .exact ⟨u,k b u hb q⟩
theorem setX {new:Bool}{y:V}{u:Value}{Q:Unit->Shared->Prop} (I:Inv X pins σ H s) (ea:H a=some (.ext (XAt a C none new))) (c:XC X.K C G) (n:PySem.W.findIn X.K (.ref C) f=some none) (ry:di y u)
  (h:∀dx s',H dx=none->Inv X pins σ (upd (upd H dx (.xd [(f,y)])) a (.ext (XAt a C (some dx) new))) s'->Q () s'):wpAny (model X.prog X.w) A (setAttr (.ref a) f u) Q E s:=by
 obtain ⟨⟨o,vs,h1,h2,h3,h4,h5⟩,_,_⟩:=(show cr X.prog X.w H s.heap a (.ext (XAt a C none new)) from I.hok a _ ea)
 obtain ⟨nm,q,N,bs,sn,sub,ab,col,k0,k1,k2,k3,k5,e⟩:=c.obj
 have X2:=I.kIn
 obtain ⟨hh,g,d,t,os⟩:=s
 refine zL X2 (X2 _ _ e) c.sa n h1 h2 h4 h3 fun h' tk' dx z=>?_
 obtain ⟨z1,z2,z3,z4,z5⟩:=z
 have hdx:H dx=none:=I.hok.fresh z2
 have hg0:hh.get? dx=none:=Heap.get?_none_of_le z2
 have hne:dx≠a:=z3
 have mu:Mut (H a):=by rw [ea];exact True.intro
 refine h dx _ hdx (I.un (t':=tk') (Un.setX mu hdx hg0 z5 ⟨_,z1⟩) fun b ob eb=>?_)
 by_cases hb:b=a
 .subst hb
  rw [aE] at eb
  cases eb
  exact XAt.ok ⟨_,vs,z1,h2,rfl,h4,h5⟩
 .rw [au hb] at eb
  by_cases hb2:b=dx
  .subst hb2
   rw [aE] at eb
   cases eb
   refine ⟨_,z4,fun y'=>?_⟩
   show tV (List.lookup y' [(f,y)]) _
   by_cases q:y'=f
   .subst q
    rw [if_pos rfl]
    have e1:List.lookup y' [(y',y)]=some y:=by simp [List.lookup]
    rw [e1];exact ry
   .rw [if_neg q]
    have:(y' == f)=false:=beq_eq_false_iff_ne.mpr q
    simp [List.lookup,this,tV]
  .rw [au hb2] at eb
   refine (I.hok b ob eb).stay (fun c w hc e=>?_) (fun c e=>?_) fun c xs e=>?_
   .refine z5 c w ?_ e
    rintro rfl
    rcases hc with hc | hc
    .exact hb hc.symm
    .rw [ea] at hc;cases hc
   .rw [au,au]
    .exact e
    .rintro rfl;rw [hdx] at e;cases e
    .rintro rfl;rw [ea] at e;cases e
   .rw [au,au]
    .exact e
    .rintro rfl;rw [hdx] at e;cases e
    .rintro rfl;rw [ea] at e;cases e
end
section
variable {X:Cx}{o e value:Expr}{f:Str}{pos pos':Pos}{ta tv:TE}
def zM (K:PySem.W.Frag) (ta tv:TE) (f:Str):TS:=fun D σ H=>tv σ H fun y H1=>ta σ H1 fun x H2=>∃a C G new,x=.ref a/\H2 a=some (.ext (XAt a C none new))/\XC K C G/\PySem.W.findIn K (.ref C) f=some none /\
 ∀dx,H2 dx=none->D.nx σ (upd (upd H2 dx (.xd [(f,y)])) a (.ext (XAt a C (some dx) new)))
theorem zN (ha:PE X o ta) (hv:PE X value tv) (hs:swapsWith value (some (.Attribute o f pos')) pos.line X.env=pure false):PS X (.Assign [.Attribute o f pos'] value pos) (zM X.K ta tv f):=by
 intro pins s σ H D I h
 refine plainObj_wpAny_Assign_Attribute (thn (hv pins s σ H _ I h) fun u s1 ⟨y,H1,I1,ry,q⟩=>thn (ha pins s1 σ H1 _ I1 q) fun ov s2 ⟨x,H2,I2,rx,a,C,G,new,ex,ea,c,n,q2⟩=>?_) hs
 subst ex
 obtain rfl:ov=Value.ref a:=rx
 exact setX I2 ea c n ry fun dx s3 hdx I3=>⟨σ,_,I3,q2 dx hdx⟩
end
structure XM (K:PySem.W.Frag) (C G fI:Addr):Prop where
 c:XC K C G
 tail:∀h:Heap,K.In h->OwnTail h vmB (.ref G::vmB)
 init:PySem.W.findIn K (.ref C) "__init__"=some (some (.ref fI))
 fn:PySem.W.typeIn K (.ref fI)=some (.type "function")
 kp:PySem.W.keepIn K (.ref C)=true
def B5 (K:PySem.W.Frag) (f:Str):Sp:=fun vs H Q _=>∃a C G new v,vs=[.ref a,v]/\H a=some (.ext (XAt a C none new))/\XC K C G/\PySem.W.findIn K (.ref C) f=some none/\∀dx,H dx=none->Q .non (upd (upd H dx (.xd [(f,v)])) a (.ext (XAt a C (some dx) new)))
structure Dw (P:Program) (w:World) (K:PySem.W.Frag) (mg:Str->Option Value) (base:Heap) (k:Nat) (C:Addr) (x f:Str):Prop where
 ex:∃(G fI:Addr) (fd:FuncData) (ps:List Str),mf P w K mg base CX0 k fI fd ps (B5 K f)/\i3 K fd ps []/\XM K C G fI/\PySem.W.findIn K (.ref C) f=some none/\mg x=some (.ref C)
def X0 (K:PySem.W.Frag) (C:Addr):Prop:=∀h:Heap,K.In h->∃bm N nm q bs hd sn sub ab col dd k0 k1 k2 k3 k5 mN,
 h.get? C=some (excClassObj nm q C N bs bm hd sn sub ab col dd k0 k1 k2 k3 k5 "ValueError.__new__")/\h.Ns N mN/\mN "__init__"=none/\OwnTail h vmB bm
theorem Dx {K:PySem.W.Frag}{C:Addr} (q:PySem.W.excIn K C vmB "ValueError.__new__"=true):X0 K C:=fun h X=>by
 unfold PySem.W.excIn at q
 split at q
 case h_2=>cases q
 case h_1 dd cd sl ho =>
  split at q
  case h_2=>cases q
  case h_1 C' bm k0 k1 k2 k3 n k5 hm hs =>
   simp only [Bool.and_eq_true,beq_iff_eq,Bool.not_eq_true'] at q
   obtain ⟨⟨⟨⟨⟨e1,e2⟩,hdel⟩,ht⟩,hok⟩,hni⟩:=q
   subst e1 e2
   cases cd with
   | mk nm bs mro ns qn hd sn sub ab col del =>
    cases sl with
    | mk l =>
     have hs:l=[k0,k1,k2,k3,some (.builtin "ValueError.__new__"),k5]:=hs
     have hm:mro=.ref C'::bm:=hm
     have hdel:del=false:=hdel
     subst hs hm hdel
     refine ⟨bm,ns,nm,qn,bs,hd,sn,sub,ab,col,dd,k0,k1,k2,k3,k5,_,X _ _ ho,.of_isNs (PySem.W.isNs_of_in X hok),PySem.W.nsMap_none_of_in X hok hni,PySem.W.tail_of_in X ht⟩
theorem zO {K:PySem.W.Frag}{G:Addr} (q:PySem.W.excIn K G vmB "ValueError.__new__"=true) (hg:∃nm q N bs sn sub ab col k0 k1 k2 k3 k5,K.lookup G=some (excClassObj nm q G N bs vmB true sn sub ab col none k0 k1 k2 k3 k5 "ValueError.__new__")) :
  ∀h:Heap,K.In h->OwnTail h vmB (.ref G::vmB):=fun h X=>by
 obtain ⟨bm,N,nm,qn,bs,hd,sn,sub,ab,col,dd,k0,k1,k2,k3,k5,mN,h1,h2,h3,_⟩:=Dx q h X
 exact .own h1 h2 h3 .base
def XCl (K:PySem.W.Frag) (c:Str):Prop:=∃dd cd sl,K.lookup (bC K c)=some ⟨.type "type",dd,.cls cd,sl⟩/\cd.name=c
structure Em (K:PySem.W.Frag) (cs:List Str):Prop where
 g:XCl K "GlueError"
 n:∀c∈cs,XCl K c
 c:∀c∈cs,XC K (bC K c) (bC K "GlueError")
section
variable {P:Program}{w:World}{K:PySem.W.Frag}{mg:Str->Option Value}{base:Heap}{x qual nm:Str}{C G fI:Addr}{st:Stmt}{fd:FuncData}{N ps:List Str}
theorem vH (F:Fun K "__init__" qual st fI fd) (S:aK N ps (ao st)) (hl:ps.length=2)
  (hb:∀(kV doc pm:Value) (an:Option Addr) (cdv ct:Value) (us:List Value),us.length=ps.length->bindArgs (PySem.W.fnOf "__init__" qual (cu st) (bE st) (ao st) .none kV doc pm an cdv ct) ⟨us,[]⟩=pure (ps.zip us))
  (hp:∀(cdv:Value) (A:Around) (outer:List Env) (s:Shared) (H:Hp) (E:XK),PSs (uu CX0 P w K mg base N qual (ao st) fI cdv A outer s H E).nox (bE st) (zM K (a4 0) (a4 1) nm))
  (m:XM K C G fI) (na:PySem.W.findIn K (.ref C) nm=some none) (hm:mg x=some (.ref C)):Dw P w K mg base 1 C x nm:=by
 refine ⟨G,fI,fd,ps,F.ok (k:=0) S (fun vs H Q E h=>?_) (fun cdv A outer s H vs Q E hr h=>⟨_,hp cdv A outer s H E,?_⟩),F.binds hb,m,na,hm⟩
 .obtain ⟨a,C,G,new,v,rfl,_⟩:=h
  exact hl.symm
 .obtain ⟨a,C,G,new,v,rfl,ea,c,n,q⟩:=h
  exact ⟨v,rfl,.ref a,rfl,a,C,G,new,rfl,ea,c,n,fun dx hdx=>q dx hdx⟩
end
section
variable {X:Cx}{e:Expr}{f:Str}{pos:Pos}{ta:TE}
theorem rV (K:PySem.W.Frag) (ek:X.K=K) {o value:Expr}{pos':Pos}{tv:TE} (ha:PE X o ta) (hv:PE X value tv) (hs:swapsWith value (some (.Attribute o f pos')) pos.line X.env=pure false):PS X (.Assign [.Attribute o f pos'] value pos) (zM K ta tv f):=by subst ek;exact zN ha hv hs
end
def XD (K:PySem.W.Frag) (D:Addr):Prop:=∃nm q N bs bm hd sn sub ab col d0 k0 k1 k2 k3 k5 nw,K.lookup D=some (excClassObj nm q D N bs bm hd sn sub ab col d0 k0 k1 k2 k3 k5 nw)/\(Value.ref D::bm).contains (.type "BaseException")=true
theorem vI (d:D):(PV.dat d).d=d:=rfl
theorem vJ (ds:List D):(PV.own ds).d=.lst ds:=rfl
theorem vK (c:Str) (ns:List Str) (ds:List D):(PV.ins c ns ds).d=.obj c ns ds:=rfl
theorem B6 (ds:List D):mkL false ds=.own ds:=rfl
theorem B7 (ds:List D):mkL true ds=.dat (.tup ds):=rfl
def pkm (ρ:PSt) (j:Nat):Option PV:=match ρ[j]? with
 | some v=>v
 | none=>none
theorem rW (v:Option PV) (r:PSt):pkm (v::r) 0=v:=rfl
theorem rX (v:Option PV) (r:PSt) (n:Nat):pkm (v::r) (n + 1)=pkm r n:=rfl
theorem pL (ρ:PSt):bS [] ρ=[]:=rfl
theorem mz (ix:List (Option Nat)) (ρ:PSt):bS (none::ix) ρ=none::bS ix ρ:=rfl
theorem mB (j:Nat) (ix:List (Option Nat)) (ρ:PSt):bS (some j::ix) ρ=pkm ρ j::bS ix ρ:=rfl
theorem pM (j:Nat) (ix:List (Option Nat)) (ρ:PSt) (t:Option PV) (τ:PSt):eo (some j::ix) ρ (t::τ)=eo ix (ρ.set j t) τ:=rfl
theorem pN (ix:List (Option Nat)) (ρ:PSt) (t:Option PV) (τ:PSt):eo (none::ix) ρ (t::τ)=eo ix ρ τ:=rfl
theorem rY (ρ τ:PSt):eo [] ρ τ=ρ:=rfl
def D4 (pe:PTE):PTE:=fun ρ Q=>pe ρ fun p ρ1=>Q (.dat p.d) ρ1
theorem B8 {K:PySem.W.Frag}{ta:TE}{pe:PTE} (h:LE K ta pe):LE K ta (D4 pe):=fun A ρ σ H Q Q' R q k=>h A ρ σ H _ Q' R q fun v H' p ρ' q f o=>k v H' (.dat p.d) ρ' q f o.frz
theorem zP {α:Type}{e:α->D}{xs:List α}{k:Nat} (h:k < xs.length):itD (xs.map e) k=e xs[k]:=fU (by rw [List.getElem?_map,List.getElem?_eq_getElem h];rfl)
theorem vL {α β:Type} (f:α->β) (xs:List α) (g:Nat->β) (h:∀k (hk:k < xs.length),g k=f xs[k]):(List.range xs.length).map g=xs.map f:=by
 apply List.ext_getElem?
 intro i
 rw [List.getElem?_map,List.getElem?_map]
 by_cases hi:i < xs.length
 .rw [List.getElem?_range hi,List.getElem?_eq_getElem hi]
  exact congrArg some (h i hi)
 .rw [List.getElem?_eq_none (by rw [List.length_range];omega),List.getElem?_eq_none (by omega)];rfl
section
variable {α:Type}{e:α->D}{xs:List α}{ix:List (Option Nat)}{ρ1:PSt}{g:PTG}{pt:PTT}{pe:PTE}{Q:PKt}
theorem D5 (T:PSt->Prop) (f:α->Option D) (h0:T (bS ix ρ1))
  (hs:∀x∈xs,∀τ,T τ->∀(K1:D->PSt->Prop) (K2:PSt->Prop),(∀d τ',f x=some d->T τ'->K1 d τ')->(∀τ',f x=none->T τ'->K2 τ')->g (.dat (e x)) τ fun τ2=>pt τ2 fun ok τ3=>gz ok (pe τ3 fun p τ4=>K1 p.d τ4) (K2 τ3))
  (hq:∀τ,T τ->Q (.own (xs.filterMap f)) (eo ix ρ1 τ)):lF ix ρ1 (xs.map e).length (itD (xs.map e)) g pt pe Q:=by
 refine cfm T (fun k=>(xs[k]?).bind f) h0 (fun k τ d hk ed t K1 K2 k1 k2=>?_) fun τ t=>?_
 .rw [List.length_map] at hk
  rw [zP hk] at ed
  subst ed
  have eg:(xs[k]?).bind f=f xs[k]:=by rw [List.getElem?_eq_getElem hk];rfl
  rw [eg] at k1 k2
  exact hs _ (List.getElem_mem hk) τ t K1 K2 k1 k2
 .have e1:(List.range (xs.map e).length).filterMap (fun k=>(xs[k]?).bind f)=xs.filterMap f:=by
   rw [List.length_map]
   have h1:(List.range xs.length).map (fun k=>(xs[k]?).bind f)=xs.map f:=vL f xs _ fun k hk=>by rw [List.getElem?_eq_getElem hk];rfl
   have h2:∀l:List Nat,l.filterMap (fun k=>(xs[k]?).bind f)=(l.map fun k=>(xs[k]?).bind f).filterMap id:=fun l=>by rw [List.filterMap_map];rfl
   rw [h2,h1,List.filterMap_map];rfl
  rw [e1];exact hq τ t
theorem Dy (T:PSt->Prop) (f:α->D) (h0:T (bS ix ρ1))
  (hs:∀x∈xs,∀τ,T τ->∀K1:D->PSt->Prop,(∀τ',T τ'->K1 (f x) τ')->g (.dat (e x)) τ fun τ2=>pe τ2 fun p τ4=>K1 p.d τ4)
  (hq:∀τ,T τ->Q (.own (xs.map f)) (eo ix ρ1 τ)):lF ix ρ1 (xs.map e).length (itD (xs.map e)) g jY pe Q:=by
 refine D5 T (fun x=>some (f x)) h0 (fun x hx τ t K1 K2 k1 k2=>?_) fun τ t=>?_
 .exact hs x hx τ t K1 fun τ' t'=>k1 _ τ' rfl t'
 .rw [show xs.filterMap (fun x=>some (f x))=xs.map f by rw [<- List.filterMap_eq_map];rfl];exact hq τ t
theorem Dz {β:Type} (p:α->Bool) (f:α->β):∀xs:List α,xs.filterMap (fun x=>if p x=true then some (f x) else none)=(xs.filter p).map f:=cO p f
theorem cfX (T:PSt->Prop) (p:α->Bool) (f:α->D) (h0:T (bS ix ρ1))
  (hs:∀x∈xs,∀τ,T τ->∀(K1:D->PSt->Prop) (K2:PSt->Prop),(∀τ',p x=true->T τ'->K1 (f x) τ')->(∀τ',p x=false->T τ'->K2 τ')->g (.dat (e x)) τ fun τ2=>pt τ2 fun ok τ3=>gz ok (pe τ3 fun p τ4=>K1 p.d τ4) (K2 τ3))
  (hq:∀τ,T τ->Q (.own ((xs.filter p).map f)) (eo ix ρ1 τ)):lF ix ρ1 (xs.map e).length (itD (xs.map e)) g pt pe Q:=by
 refine D5 T (fun x=>if p x=true then some (f x) else none) h0 (fun x hx τ t K1 K2 k1 k2=>hs x hx τ t K1 K2 (fun τ' h t'=>k1 _ τ' (by rw [if_pos h]) t') fun τ' h t'=>k2 τ' (by rw [if_neg (by rw [h];decide)]) t') fun τ t=>?_
 rw [Dz];exact hq τ t
theorem cm1 (f:α->D)
  (hs:∀x∈xs,∀(v:Option PV) (K1:D->PSt->Prop),(∀v',K1 (f x) (v'::(bS ix ρ1).tail))->g (.dat (e x)) (v::(bS ix ρ1).tail) fun τ2=>pe τ2 fun p τ4=>K1 p.d τ4)
  (hq:∀v:Option PV,Q (.own (xs.map f)) (eo ix ρ1 (v::(bS ix ρ1).tail))) (hx:bS ix ρ1=none::(bS ix ρ1).tail:=by rfl):lF ix ρ1 (xs.map e).length (itD (xs.map e)) g jY pe Q:=by
 refine Dy (fun τ=>∃v,τ=v::(bS ix ρ1).tail) f ⟨none,hx⟩ ?_ ?_
 .rintro x hx τ ⟨v,rfl⟩ K1 k1
  exact hs x hx v K1 fun v'=>k1 _ ⟨v',rfl⟩
 .rintro τ ⟨v,rfl⟩
  exact hq v
theorem cf1 (p:α->Bool) (f:α->D)
  (hs:∀x∈xs,∀(v:Option PV) (K1:D->PSt->Prop) (K2:PSt->Prop),(∀v',p x=true->K1 (f x) (v'::(bS ix ρ1).tail))->(∀v',p x=false->K2 (v'::(bS ix ρ1).tail))->g (.dat (e x)) (v::(bS ix ρ1).tail) fun τ2=>pt τ2 fun ok τ3=>gz ok (pe τ3 fun p τ4=>K1 p.d τ4) (K2 τ3))
  (hq:∀v:Option PV,Q (.own ((xs.filter p).map f)) (eo ix ρ1 (v::(bS ix ρ1).tail))) (hx:bS ix ρ1=none::(bS ix ρ1).tail:=by rfl):lF ix ρ1 (xs.map e).length (itD (xs.map e)) g pt pe Q:=by
 refine cfX (fun τ=>∃v,τ=v::(bS ix ρ1).tail) p f ⟨none,hx⟩ ?_ ?_
 .rintro x hx τ ⟨v,rfl⟩ K1 K2 k1 k2
  exact hs x hx v K1 K2 (fun v' h=>k1 _ h ⟨v',rfl⟩) fun v' h=>k2 _ h ⟨v',rfl⟩
 .rintro τ ⟨v,rfl⟩
  exact hq v
end
theorem cmR {ix:List (Option Nat)}{ρ1:PSt}{g:PTG}{pe:PTE}{Q:PKt}{n:Nat}{it:Nat->D} (f:Nat->D)
  (hs:∀k,k < n->∀(v:Option PV) (K1:D->PSt->Prop),(∀v',K1 (f k) (v'::(bS ix ρ1).tail))->g (.dat (it k)) (v::(bS ix ρ1).tail) fun τ2=>pe τ2 fun p τ4=>K1 p.d τ4)
  (hq:∀v:Option PV,Q (.own ((List.range n).map f)) (eo ix ρ1 (v::(bS ix ρ1).tail))) (hx:bS ix ρ1=none::(bS ix ρ1).tail:=by rfl):lF ix ρ1 n it g jY pe Q:=by
 refine t3 (fun τ=>∃v,τ=v::(bS ix ρ1).tail) f ⟨none,hx⟩ ?_ ?_
 .rintro k τ d hk rfl ⟨v,rfl⟩ K1 k1
  exact hs k hk v K1 fun v'=>k1 _ ⟨v',rfl⟩
 .rintro τ ⟨v,rfl⟩
  exact hq v
theorem cfR {ix:List (Option Nat)}{ρ1:PSt}{g:PTG}{pt:PTT}{pe:PTE}{Q:PKt}{n:Nat}{it:Nat->D} (p:Nat->Bool) (f:Nat->D)
  (hs:∀k,k < n->∀(v:Option PV) (K1:D->PSt->Prop) (K2:PSt->Prop),(∀v',p k=true->K1 (f k) (v'::(bS ix ρ1).tail))->(∀v',p k=false->K2 (v'::(bS ix ρ1).tail))->g (.dat (it k)) (v::(bS ix ρ1).tail) fun τ2=>pt τ2 fun ok τ3=>gz ok (pe τ3 fun p τ4=>K1 p.d τ4) (K2 τ3))
  (hq:∀v:Option PV,Q (.own (((List.range n).filter p).map f)) (eo ix ρ1 (v::(bS ix ρ1).tail))) (hx:bS ix ρ1=none::(bS ix ρ1).tail:=by rfl):lF ix ρ1 n it g pt pe Q:=by
 refine cfm (fun τ=>∃v,τ=v::(bS ix ρ1).tail) (fun k=>if p k=true then some (f k) else none) ⟨none,hx⟩ ?_ ?_
 .rintro k τ d hk rfl ⟨v,rfl⟩ K1 K2 k1 k2
  exact hs k hk v K1 K2 (fun v' h=>k1 _ _ (by rw [if_pos h]) ⟨v',rfl⟩) fun v' h=>k2 _ (by rw [if_neg (by rw [h];decide)]) ⟨v',rfl⟩
 .rintro τ ⟨v,rfl⟩
  rw [cO]
  exact hq v
theorem vM (a b:List Nat):(!(Builtin.Str.occurrences (S b) (S a) 0 (S b).length 1).isEmpty)=fO a b:=by
 have e:=uU b a 0
 unfold fO
 rw [<- e]
 cases Builtin.Str.occurrences (S b) (S a) 0 (S b).length 1 with
 | nil=>rfl
 | cons k r=>exact (decide_eq_true (by omega:(0:Int)<=(k:Int))).symm
section
variable {X:Cx}{K:PySem.W.Frag}
def DA (neg:Bool):R2:=fun x y H Q=>∃a b,x=.str (S a)/\y=.str (S b)/\Q (.bl (if neg then !fO a b else fO a b)) H
theorem B9:OpR X (compareOp .In) (DA false):=by
 intro pins s σ H x y v u Q I rx ry h
 obtain ⟨a,b,rfl,rfl,q⟩:=h
 obtain ⟨t,rfl⟩:=rx
 obtain ⟨t',rfl⟩:=ry
 exact P.in_str ⟨.bl _,H,I,rfl,by rw [vM];exact q⟩
theorem vN:OpR X (compareOp .NotIn) (DA true):=by
 intro pins s σ H x y v u Q I rx ry h
 obtain ⟨a,b,rfl,rfl,q⟩:=h
 obtain ⟨t,rfl⟩:=rx
 obtain ⟨t',rfl⟩:=ry
 exact P.notIn_str ⟨.bl _,H,I,rfl,by rw [vM];exact q⟩
def Au (K:PySem.W.Frag) (neg:Bool):R2:=fun x y H Q=>rIn K neg x y H Q\/DA neg x y H Q
theorem Ca (K:PySem.W.Frag) (e:X.K=K):OpR X (compareOp .In) (Au K false):=OpR.or (El K e) B9
theorem iD (K:PySem.W.Frag) (e:X.K=K):OpR X (compareOp .NotIn) (Au K true):=OpR.or (zf K e) vN
def xv (neg:Bool):F2
 | .str a,.str b,Q=>Q (.dat (.bl (if neg then !fO a b else fO a b)))
 | a,.lst ds,Q=>(a.fl=true/\ds.all D.fl=true)/\Q (.dat (.bl (if neg then !inD a ds else inD a ds)))
 | a,.tup ds,Q=>(a.fl=true/\ds.all D.fl=true)/\Q (.dat (.bl (if neg then !inD a ds else inD a ds)))
 | _,_,_=>False
theorem kG {neg:Bool}:LO K (Au K neg) (xv neg):=by
 intro O H x y a b Q Q' dom fx fy q k
 unfold xv at q
 split at q
 .obtain ⟨rfl,_⟩:=fx.str
  obtain ⟨rfl,_⟩:=fy.str
  exact .inr ⟨_,_,rfl,rfl,k _ H _ q (Gr.refl _) (.bl _)⟩
 .exact .inl (BA O H x y _ _ Q Q' dom fx fy q k)
 .exact .inl (BA O H x y _ _ Q Q' dom fx fy q k)
 .exact q.elim
end
theorem xw {ns:List Int} (h:ns.length<=1000) (hb:∀n∈ns,n.natAbs < 2 ^ 64):PyData.layable0 (.list (ns.map .int))=true:=by
 have c:∀l:List Int,PyData.canLayAll0 (l.map .int)=true:=fun l=>by
  induction l with
  | nil=>rfl
  | cons a r ih=>show (PyData.canLay0 (.int a) && PyData.canLayAll0 (r.map .int))=true;rw [ih];rfl
 have d:∀l:List Int,PyData.depthAll (l.map .int)=0:=fun l=>by
  induction l with
  | nil=>rfl
  | cons a r ih=>show max (PyData.depth (.int a)) (PyData.depthAll (r.map .int))=0;rw [ih];rfl
 have w:∀l:List Int,(∀n∈l,n.natAbs < 2 ^ 64)->PyData.weightAll (l.map .int)<=l.length * 66:=fun l=>by
  induction l with
  | nil=>intro _;exact Nat.zero_le _
  | cons a r ih =>
   intro hh
   have h1:=ih fun n hn=>hh n (List.mem_cons_of_mem _ hn)
   have h2:PyData.weight (.int a)<=64:=by
    show (if a == 0 then 0 else a.natAbs.log2 + 1)<=64
    by_cases z:a=0
    .subst z;decide
    .rw [if_neg (by simpa using z)]
     have:a.natAbs.log2 < 64:=(Nat.log2_lt (by omega)).mpr (hh a (List.mem_cons_self ..))
     omega
   show PyData.weight (.int a) + 1 + PyData.weightAll (r.map .int)<=_
   rw [List.length_cons,Nat.succ_mul];omega
 have:=w ns hb
 unfold PyData.layable0
 rw [Bool.and_eq_true,Bool.and_eq_true]
 refine ⟨⟨c ns,decide_eq_true ?_⟩,decide_eq_true ?_⟩
 .show PyData.depthAll (ns.map .int) + 1<=64;rw [d];decide
 .show PyData.weightAll (ns.map .int)<=2 ^ 20;omega
section
variable {X:Cx}{K:PySem.W.Frag}{ta te:TE}{pa:PA1}{pe:PTE}
def Cb (K:PySem.W.Frag):V->List V->Hp->VK->Prop:=fun x xs H Q=>∃(p:Addr) (ns:List Int) (k:Int),x=.ref p/\xs=[.int k]/\SqL K H p (ns.map V.int)/\(ns.length<=1000/\(∀n∈ns,n.natAbs < 2 ^ 64)/\k∈ns)/\Q (.int (ns.idxOf k:Nat)) H
theorem zQ (K:PySem.W.Frag) (e:X.K=K):MtR X "list.index" (Cb K):=by
 subst e
 intro pins s σ H x xs v us Q I rx rs h
 obtain ⟨p,ns,k,rfl,rfl,hS,⟨h1,h2,h3⟩,q⟩:=h
 cases (show v=Value.ref p from rx)
 obtain ⟨u,rfl,t,rfl⟩:=hX rs
 obtain ⟨its,rv,pl,hz⟩:=I.list hS
 exact index_list_ints pl.isList (eU rv) (xw h1 h2) h3 ⟨.int _,H,I.tok _,⟨_,rfl⟩,q⟩
def Cc (pa:PA1) (pe:PTE):PTE:=fun ρ Q=>pa ρ fun x ρ1=>match cont ρ1 x with
 | some (.lst _)=>pe ρ1 fun p ρ2=>(match cont ρ2 x,p with
  | some (.lst ds),.dat (.int k)=>∃ns:List Int,ds=ns.map .int/\(ns.length<=1000/\(∀n∈ns,n.natAbs < 2 ^ 64)/\k∈ns)/\Q (.dat (.int (ns.idxOf k:Nat))) ρ2
  | _,_=>False)
 | _=>False
theorem zR (ha:LA1 K ta pa) (he:LE K te pe):LE K (tBM K "list" (Cb K) ta (bp te eM)) (Cc pa pe):=fun A ρ σ H Q Q' R q k =>
 ha A ρ σ H _ _ R q fun v H1 a ρ1 q1 f1 R1 o1=>by
  split at q1
  .rename_i ds0 e1
   obtain ⟨a0,xs0,rfl,g0,f0⟩:=(R1.cont o1 e1).lst
   refine ⟨.inl ⟨rfl,xs0,SqL.of g0⟩,he A ρ1 σ H1 _ _ R1 q1 fun w H2 p ρ2 q2 f2 o2=>?_⟩
   obtain ⟨R2,fv⟩:=o2.frz
   split at q2
   .rename_i ds j e2
    obtain ⟨ns,rfl,hn,q2⟩:=q2
    cases (show FV K _ H2 w (.int j) from fv)
    obtain ⟨a1,xs1,e3,g1,g2⟩:=(R2.cont (o1.keeps f2.keeps) e2).lst
    cases e3
    rw [g2.ints] at g1
    exact ⟨a0,ns,j,rfl,rfl,SqL.of g1,hn,k _ H2 _ ρ2 q2 (f1.trans f2) ⟨R2,.int _⟩⟩
   .exact q2.elim
  .exact q1.elim
end
section
variable {X:Cx}{K:PySem.W.Frag}
def ya (K:PySem.W.Frag):R2:=fun x y H Q=>∃a b ys,x=.ref a/\y=.ref b/\SqT K H a []/\SqT K H b ys/\Q (.ref b) H
theorem xx:OpR X (binaryOp .Add) (ya X.K):=by
 intro pins s σ H x y v u Q I rx ry h
 obtain ⟨a,b,ys,rfl,rfl,ha,hb,q⟩:=h
 cases rx
 cases ry
 obtain ⟨its,r1,p1,_⟩:=I.tuple ha
 obtain ⟨its2,r2,p2,_⟩:=I.tuple hb
 have e0:its=[]:=r1.nil_iff.mpr rfl
 subst e0
 obtain ⟨⟨cls,dd,data,sl⟩,ho,hc,n,hd⟩:=id p1
 obtain ⟨⟨cls2,dd2,data2,sl2⟩,ho2,hc2,n2,hd2⟩:=id p2
 simp only at hc hd hc2 hd2
 subst hc hd hc2 hd2
 exact concat_meets ⟨_,ho,rfl⟩ ⟨_,ho2,rfl⟩ noFill_tuple_add seq_tuple_add PySem.F.slot_tuple_add PySem.F.entry_tuple_add (PySem.F.args_tuple_add_2 _ _) (tuple_addW0 a b _ _ n n2 dd dd2 sl sl2 rfl) ⟨ho,ho2,.ref b,H,I,rfl,q⟩
def tF (K:PySem.W.Frag):R2:=fun x y H Q=>ze K x y H Q\/ya K x y H Q
theorem cm (K:PySem.W.Frag) (e:X.K=K):OpR X (binaryOp .Add) (tF K):=OpR.or (Df K e) (by subst e;exact xx)
def de:F2
 | .tup a,.tup b,Q=>a.length + b.length<=1000000/\Q (.dat (.tup (a++b)))
 | a,b,Q=>Dg a b Q
theorem bA:LO K (tF K) de:=by
 intro O H x y a b Q Q' dom fx fy q k
 unfold de at q
 split at q
 .rename_i Q ds es
  cases ds with
  | cons d ds=>exact .inl (xW O H x y _ _ _ Q' dom fx fy ⟨nofun,q⟩ k)
  | nil =>
   obtain ⟨p1,xs1,rfl,n1,e1,f1⟩:=fx.tup
   obtain ⟨p2,xs2,rfl,n2,e2,f2⟩:=fy.tup
   cases f1
   exact .inr ⟨p1,p2,xs2,rfl,rfl,SqT.of e1,SqT.of e2,k _ H _ q.2 (Gr.refl _) (.tup n2 e2 f2)⟩
 .exact .inl (xW O H x y _ _ _ Q' dom fx fy q k)
end
section
variable {X:Cx}
def D6:Expr->Bool
 | .ListComp .. | .SetComp .. | .DictComp ..=>false
 | _=>true
theorem vO {o i e:Expr}{p:Pos}{l:Nat}{env:Env} (h:D6 e=true):swapsWithSole [.Subscript o i p] e l env=pure false:=by
 show swapsWith e (some (.Subscript o i p)) l env=pure false
 cases e <;> first | rfl | cases h
theorem qE {o i e:Expr}{p:Pos}{env:Env}:swappedStores [.Subscript o i p] e env=pure none:=rfl
theorem qF {o i e:Expr}{p:Pos}{te:TE}{g:TG}{pos:Pos} (he:PE X e te) (hg:PG X (.Subscript o i p) g) (hn:D6 e=true:=by rfl):PS X (.Assign [.Subscript o i p] e pos) (uc te g) :=
 ud he hg (vO hn) qE rfl
end
def fY (K:PySem.W.Frag) (x:Str) (st:Stmt):Prop:=∃(f:Addr) (oc kV dc pm cd ct:Value) (od an:Option Addr) (sl:Array (Option Value)),PySem.W.nsIn K mainGlobals x=some (some (.ref f)) /\
 K.lookup f=some ⟨oc,od,.func (PySem.W.fnOf x x (cu st) (bE st) (ao st) .none kV dc pm an cd ct),sl⟩/\PySem.W.codeIn K cd x=true/\PySem.W.keepIn K (.ref f)=true
theorem Cd {K:PySem.W.Frag}{x:Str}{st:Stmt}{f:Addr}{oc kV dc pm cd ct:Value}{od an:Option Addr}{sl:Array (Option Value)} (a:PySem.W.nsIn K mainGlobals x=some (some (.ref f))) (l:K.lookup f=some ⟨oc,od,.func (PySem.W.fnOf x x (cu st) (bE st) (ao st) .none kV dc pm an cd ct),sl⟩)
  (c:PySem.W.codeIn K cd x=true) (k:PySem.W.keepIn K (.ref f)=true):fY K x st:=⟨f,oc,kV,dc,pm,cd,ct,od,an,sl,a,l,c,k⟩
theorem bG {K:PySem.W.Frag}{h:Heap}{mg:Str->Option Value}{x:Str}{st:Stmt} (q:fY K x st) (X:K.In h) (G:h.Ns mainGlobals mg):cv K mg x st:=by
 obtain ⟨f,oc,kV,dc,pm,cd,ct,od,an,sl,a,l,c,k⟩:=q
 exact .mk' X G a l c k
section
variable {K:PySem.W.Frag}{c:FX}{C x dx:Addr}{H:Hp}{E:XK}{vs:List V}
theorem zS {X:Cx}{st:List Stmt}:PSs X st t9:=fun _ _ _ _ _ _ h=>h.elim
end
section
open PySem.AutoSeq1 (wpAny_loadPart')
open PySem.MeetsSeq PySem.MeetsSeq2 PySem.MeetsSeq3
variable {P:Program}{w:World}{A:Around}
end
section
variable {K:PySem.W.Frag}{A:Addr->Prop}{ρ:PSt}{σ:St}{H H':Hp}{O O':Addr->Prop}
inductive Cp (K:PySem.W.Frag) (O:Addr->Prop) (H0 H:Hp):List Addr->List (List D)->Prop
 | nil:Cp K O H0 H [] []
 | cons {a:Addr}{xs:List V}{r:List D}{as:List Addr}{rows:List (List D)}:H a=some (.lst xs)->FVs K O H0 xs r->Cp K O H0 H as rows->Cp K O H0 H (a::as) (r::rows)
theorem Cp.length {H0:Hp}:∀{as:List Addr}{rows:List (List D)},Cp K O H0 H as rows->as.length=rows.length
 | _,_,.nil=>rfl
 | _,_,.cons _ _ t=>by rw [List.length_cons,List.length_cons,t.length]
theorem Cp.get {H0:Hp}:∀{as:List Addr}{rows:List (List D)}{n:Nat}{r:List D},Cp K O H0 H as rows->rows[n]?=some r->∃a xs,as[n]?=some a/\H a=some (.lst xs)/\FVs K O H0 xs r
 | _,_,n,_,.nil,e=>by simp at e
 | _,_,0,_,.cons p q t,e=>by simp at e;subst e;exact ⟨_,_,rfl,p,q⟩
 | _,_,n + 1,r,.cons p q t,e=>by
  obtain ⟨a,xs,h1,h2,h3⟩:=Cp.get (n:=n) (r:=r) t (by simpa using e)
  exact ⟨a,xs,by simpa using h1,h2,h3⟩
theorem Cp.mono {H0:Hp}:∀{as:List Addr}{rows:List (List D)},(∀a∈as,∀o,H a=some o->H' a=some o)->Cp K O H0 H as rows->Cp K O H0 H' as rows
 | _,_,_,.nil=>.nil
 | _,_,k,.cons p q t=>.cons (k _ List.mem_cons_self _ p) q (t.mono fun a ha=>k a (List.mem_cons_of_mem _ ha))
theorem Cp.dom {H0:Hp}:∀{as:List Addr}{rows:List (List D)},Cp K O H0 H as rows->∀a∈as,∃o,H a=some o
 | _,_,.nil,_,h=>nomatch h
 | _,_,.cons p q t,a,h=>by
  rcases List.mem_cons.mp h with rfl | h
  .exact ⟨_,p⟩
  .exact t.dom a h
theorem Cp.put {H0:Hp}{a:Addr}{xs:List V}{r:List D} (h2:FVs K O H0 xs r):∀{as:List Addr}{rows:List (List D)}{n:Nat},as.Nodup->as[n]?=some a->Cp K O H0 H as rows->Cp K O H0 (upd H a (.lst xs)) as (rows.set n r)
 | _,_,n,_,e,.nil=>by simp at e
 | _,_,0,nd,e,.cons p q t=>by
  simp at e;subst e
  exact .cons aE h2 (t.mono fun b hb o z=>by rw [au (fun e=>(List.nodup_cons.mp nd).1 (by rw [<- e];exact hb))];exact z)
 | _,_,n + 1,nd,e,.cons p q t=>by
  rw [List.getElem?_cons_succ] at e
  exact .cons (by rw [au (fun z=>(List.nodup_cons.mp nd).1 (by rw [z];exact List.mem_of_getElem? e))];exact p) q (Cp.put h2 (List.nodup_cons.mp nd).2 e t)
theorem Cp.fvs {H0:Hp} (g:Gr H0 H) (ho:∀b,O' b->O b\/H0 b=none):∀{as:List Addr}{rows:List (List D)},(∀a∈as,¬ O' a)->Cp K O H0 H as rows->FVs K O' H (as.map V.ref) (rows.map D.lst)
 | _,_,_,.nil=>.nil
 | _,_,k,.cons p q t=>.cons (.lst (k _ List.mem_cons_self) p (q.keeps fun b o n e=>⟨fun z=>(ho b z).elim n (fun z=>by rw [z] at e;cases e),g b o e⟩)) (t.fvs g ho fun a ha=>k a (List.mem_cons_of_mem _ ha))
theorem FV.sq {v:V}{d:D}{ds:List D} (h:FV K O H v d) (s:fh d ds):∃(k:Bool) (a:Addr) (xs:List V),v=.ref a/\H a=some (if k then .tup xs else .lst xs)/\FVs K O H xs ds:=by
 rcases s with rfl | rfl
 .cases h with
  | lst n e f=>exact ⟨false,_,_,rfl,e,f⟩
 .cases h with
  | tup n e f=>exact ⟨true,_,_,rfl,e,f⟩
structure Opn (K:PySem.W.Frag) (A:Addr->Prop) (ρ:PSt) (σ:St) (H:Hp) (D:Addr) (as:List Addr) (H1:Hp) (rows:List (List L2.D)):Prop where
 gr:Gr H H1
 hD:H D=none
 nd:as.Nodup
 fr:∀a∈as,H a=none/\a≠D
 eD:H1 D=some (.lst (as.map V.ref))
 cp:Cp K (OO A ρ σ) H H1 as rows
end
theorem xy {P:Program}{w:World}{A:Around}{z:Shared}{l:Addr}{xs:Array (Int×Tok)}{Q:Value->Shared->Prop}{E:Value->Shared->Prop} (hh:A.handled=none) (hl:z.heap.IsTuple l (intItems xs))
  (h:∀h' tk t',(∀b o,z.heap.get? b=some o->h'.get? b=some o)->Q (.int (preSum (numAt xs) xs.size) t') { z with heap:=h',toks:=tk }):wpAny (model P w) A (call (.builtin "sum") [.ref l]) Q E z:=by
 have hlt:l < z.heap.objs.size:=by obtain ⟨_,e,_⟩:=hl;exact Heap.lt_size e
 refine call_sum_walkG (wpAny_pyIter_tuple hl ?_)
 refine ⟨z.heap.objs.size,[z.heap.objs.size,l],[z.heap.objs.size],_,_,_,numAt xs,rfl,Walks.tuple (A:=A.in1) hh _ l (Nat.ne_of_lt hlt) (intItems xs),⟨⟨_,Heap.get?_push_size _ rfl,rfl,rfl⟩,hl.push _⟩,fun b hb=>?_,(fun _ _=>intItems_at),fun h' tk t' hk=>?_⟩
 .show b < (z.heap.push _).objs.size
  rw [Heap.size_push]
  rcases List.mem_cons.mp hb with e | hb
  .rw [e];exact Nat.lt_succ_self _
  .rw [List.mem_singleton.mp hb];exact Nat.lt_succ_of_lt hlt
 .have:=h h' tk t' fun b o e=>hk b o (fun m=>by have y:=Heap.lt_size e;rw [List.mem_singleton.mp m] at y;exact absurd y (Nat.lt_irrefl _)) (Heap.get?_push_of_some _ e)
  simpa [intItems] using this
section
variable {X:Cx}{K:PySem.W.Frag}
theorem vP (hc:X.calm=true):bX X (.builtin "sum") (fun xs H Q=>∃(p:Addr) (ns:List Int),xs=[.ref p]/\SqT X.K H p (ns.map V.int)/\Q (.int ns.sum) H):=by
 intro pins s σ H xs us Q I r h
 obtain ⟨p,ns,rfl,hS,q⟩:=h
 obtain ⟨u,rfl,ru⟩:=hX r
 cases (show u=Value.ref p from ru)
 obtain ⟨its,rv,pl,hz⟩:=I.tuple hS
 have hi:=eU rv
 have hl:s.heap.IsTuple p its.toArray:=pl
 obtain ⟨ys,e⟩:=hi.allInts.items
 have hns:ns=ys.toList.map (·.1):=by rw [<- hi.numsOf,<- nums_intItems,<- e]
 rw [e] at hl
 refine xy (by exact I.ok.hd hc) hl fun h' tk t' hk=>⟨.int ns.sum,H,I.kept (t':=tk) hk,⟨t',?_⟩,q⟩
 have hlen:ys.size=ns.length:=by rw [hns,List.length_map,Array.length_toList]
 have hnum:numAt ys=fun i=>ns.getD i 0:=by
  funext i
  rw [numAt_eq,hns]
 rw [hnum,hlen,i7 ns ns.length (Nat.le_refl _),List.take_length]
def Ce (K:PySem.W.Frag):List V->Hp->VK->Prop:=fun xs H Q=>∃(p:Addr) (ns:List Int),xs=[.ref p]/\(SqL K H p (ns.map V.int)\/SqT K H p (ns.map V.int))/\Q (.int ns.sum) H
theorem vQ (K:PySem.W.Frag) (e:X.K=K) (hc:X.calm=true):bX X (.builtin "sum") (Ce K):=by
 subst e
 intro pins s σ H xs us Q I r ⟨p,ns,e,h,q⟩
 rcases h with h | h
 .exact o9 hc pins s σ H xs us Q I r ⟨p,ns,e,h,q⟩
 .exact vP hc pins s σ H xs us Q I r ⟨p,ns,e,h,q⟩
def vR:FN
 | [.lst ds],Q=>∃ns:List Int,ds=ns.map .int/\Q (.dat (.int ns.sum))
 | [.tup ds],Q=>∃ns:List Int,ds=ns.map .int/\Q (.dat (.int ns.sum))
 | _,_=>False
theorem qG:LC K (Ce K) vR:=by
 intro O H xs as Q Q' dom fs q k
 unfold vR at q
 split at q
 .obtain ⟨ns,rfl,q⟩:=q
  cases fs with
  | cons a b =>
   cases b
   obtain ⟨p,ys,rfl,e1,f1⟩:=a.lst
   exact ⟨p,ns,rfl,.inl (SqL.of (by rw [e1,f1.ints])),k _ H _ q (Gr.refl _) (.int _)⟩
 .obtain ⟨ns,rfl,q⟩:=q
  cases fs with
  | cons a b =>
   cases b
   obtain ⟨p,ys,rfl,n1,e1,f1⟩:=a.tup
   exact ⟨p,ns,rfl,.inr (SqT.of (by rw [e1,f1.ints])),k _ H _ q (Gr.refl _) (.int _)⟩
 .exact q.elim
end
def apart (A:Addr->Prop) (Da:Addr) (as:List Addr):Addr->Prop:=fun b=>A b\/b=Da\/b∈as
section
variable {K:PySem.W.Frag}{A O O':Addr->Prop}{fx:List (Nat×V)}{R:Addr->Prop}{H0 H0' H H':Hp}{ρ ρ':PSt}{σ:St}{x:Nat}{Da:Addr}{as:List Addr}{rows:List (List D)}
theorem Cp.mv:∀{as:List Addr}{rows:List (List D)},(∀a∈as,∀o,H a=some o->H' a=some o)->aO O H0 O' H0'->Cp K O H0 H as rows->Cp K O' H0' H' as rows
 | _,_,_,_,.nil=>.nil
 | _,_,k,kk,.cons p q t=>.cons (k _ List.mem_cons_self _ p) (q.keeps kk) (t.mv (fun a ha=>k a (List.mem_cons_of_mem _ ha)) kk)
structure Opd (K:PySem.W.Frag) (A:Addr->Prop) (H0:Hp) (ρ:PSt) (σ:St) (H:Hp) (x:Nat) (Da:Addr) (as:List Addr) (rows:List (List D)):Prop where
 sx:σ[x]?=some (some (.ref Da))
 nA:∀a,a=Da\/a∈as->¬ A a
 h0:∀a,a=Da\/a∈as->H0 a=none
 nd:as.Nodup
 ne:Da∉as
 eD:H Da=some (.lst (as.map V.ref))
 cp:Cp K (OO (apart A Da as) ρ σ) H H as rows
theorem Opd.keep {σ':St} (o:Opd K A H0 ρ σ H x Da as rows) (hs:σ'[x]?=some (some (.ref Da))) (kk:aO (OO (apart A Da as) ρ σ) H (OO (apart A Da as) ρ' σ') H') (kp:∀a,a=Da\/a∈as->∀u,H a=some u->H' a=some u):Opd K A H0 ρ' σ' H' x Da as rows :=
 ⟨hs,o.nA,o.h0,o.nd,o.ne,kp _ (.inl rfl) _ o.eD,o.cp.mv (fun a ha u e=>kp a (.inr ha) u e) kk⟩
theorem Opd.fr (o:Opd K A H0 ρ σ H x Da as rows) (r:Rel K (apart A Da as) ρ σ H) (f:Fr ρ σ H ρ' H'):Opd K A H0 ρ' σ H' x Da as rows :=
 o.keep o.sx f.keeps fun a ha u e=>f.kp a u (r.sep a (.inr ha)) e
def cl (x:Nat) (ρ:PSt):Option (List (List D))->PSt
 | none=>ρ
 | some rows=>ρ.set x (some (.own (rows.map D.lst)))
theorem vS (x:Nat) (ρ:PSt):cl x ρ none=ρ:=rfl
theorem vT (x:Nat) (ρ:PSt) (rows:List (List D)):cl x ρ (some rows)=ρ.set x (some (.own (rows.map D.lst))):=rfl
def InO (K:PySem.W.Frag) (x:Nat) (fx:List (Nat×V)) (A R:Addr->Prop) (H0:Hp) (ρ:PSt) (σ:St) (H:Hp):Option (List (List D))->Prop
 | none=>Rel K A ρ σ H/\dC fx R H0 ρ σ H
 | some rows=>∃Da as,Rel K (apart A Da as) ρ σ H/\dC fx R H0 ρ σ H/\Opd K A H0 ρ σ H x Da as rows
theorem nH {α:Type}:∀{l:List α}{i:Nat}{v:α},l[i]?=some v->l.set i v=l
 | [],_,_,e=>by simp at e
 | a::l,0,v,e=>by simp at e;rw [e];rfl
 | a::l,i + 1,v,e=>by rw [List.set_cons_succ,nH (by simpa using e)]
theorem InO.cl {m:Option (List (List D))} (h:InO K x fx A R H0 ρ σ H m):Rel K A (L2.cl x ρ m) σ H/\dC fx R H0 (L2.cl x ρ m) σ H:=by
 cases m with
 | none=>exact h
 | some rows =>
  obtain ⟨Da,as,r,F,o⟩:=h
  have r1:Rel K (eT A Da) ρ σ H:=r.less fun b z=>z.imp id .inl
  have out:Out K A ρ σ H0 H (.own (rows.map D.lst)) (.ref Da):=by
   refine ⟨Da,as.map V.ref,rfl,o.nA _ (.inl rfl),o.h0 _ (.inl rfl),o.eD,r1,o.cp.fvs (Gr.refl H) (fun b z=>.inl ?_) fun a ha z=>?_⟩
   .rcases z with (z | z) | z
    .exact .inl (.inl z)
    .exact .inl (.inr (.inl z))
    .exact .inr z
   .rcases z with (z | z) | z
    .exact o.nA a (.inr ha) z
    .exact o.ne (by rw [<- z];exact ha)
    .exact r.sep a (.inr (.inr ha)) z
  have pt:=out.put (i:=x)
  rw [nH o.sx] at pt
  exact ⟨pt.1,F.kp,F.dm,fun b w=>(pt.2 b w).elim (F.ow b) .inr,F.fx⟩
theorem Rel.writeA (r:Rel K A ρ σ H) {a:Addr}{o:HO} (ha:A a):Rel K A ρ σ (upd H a o):=by
 have k:aO (OO A ρ σ) H (OO A ρ σ) (upd H a o):=fun b u n e=>⟨n,by rw [au (fun z=>n (.inl (by rw [z];exact ha)))];exact e⟩
 refine ⟨r.len,fun i q e=>?_,r.dj,fun b z=>?_,r.sep⟩
 .obtain ⟨v,s,rr⟩:=r.get i q e
  refine ⟨v,s,rr.keeps k fun ow b eb=>?_⟩
  subst eb
  rw [au]
  intro z
  exact r.sep a ha ⟨i,q,e,ow,by rw [<- z];exact s⟩
 .by_cases z':b=a
  .rw [z',aE];exact nofun
  .rw [au z'];exact r.dom b z
theorem Rel.grB (r:Rel K A ρ σ H) (g:Gr H H') {B:Addr->Prop} (hB:∀b,B b->H b=none/\H' b≠none):Rel K (fun b=>A b\/B b) ρ σ H':=by
 have k:aO (OO A ρ σ) H (OO (fun b=>A b\/B b) ρ σ) H':=fun b u n e=>by
  refine ⟨fun z=>?_,g _ _ e⟩
  rcases z with (z | z) | z
  .exact n (.inl z)
  .rw [(hB b z).1] at e;cases e
  .exact n (.inr z)
 refine ⟨r.len,fun i q e=>?_,r.dj,fun b z=>?_,fun b z w=>?_⟩
 .obtain ⟨v,s,rr⟩:=r.get i q e
  refine ⟨v,s,rr.keeps k fun ow a ea=>?_⟩
  obtain ⟨a',u,e1,e2⟩:=rr.ref ow
  rw [ea] at e1;cases e1
  rw [e2];exact g _ _ e2
 .rcases z with z | z
  .exact (g.fr (ρ:=ρ) (σ:=σ)).dm b (r.dom b z)
  .exact (hB b z).2
 .rcases z with z | z
  .exact r.sep b z w
  .exact r.wr w (hB b z).1
theorem kH {i j:Nat}{p:PV} (e:(ρ.set i none)[j]?=some (some p)):j≠i/\ρ[j]?=some (some p):=by
 by_cases z:i=j
 .subst z
  by_cases h:i < ρ.length
  .rw [List.getElem?_set_self h] at e;cases e
  .rw [List.getElem?_eq_none (by rw [List.length_set];omega)] at e;cases e
 .rw [List.getElem?_set_ne z] at e;exact ⟨fun q=>z q.symm,e⟩
theorem rZ {v:Option V}{b:Addr} (w:Wr (ρ.set x none) (σ.set x v) b):Wr ρ σ b:=by
 obtain ⟨j,p,e,o,s⟩:=w
 obtain ⟨n,e⟩:=kH e
 rw [List.getElem?_set_ne (Ne.symm n)] at s
 exact ⟨j,p,e,o,s⟩
theorem Rel.clr {v:Option V} (r:Rel K A ρ σ H):Rel K A (ρ.set x none) (σ.set x v) H:=by
 have k:aO (OO A ρ σ) H (OO A (ρ.set x none) (σ.set x v)) H:=aO.less fun b z=>z.imp id rZ
 refine ⟨by rw [List.length_set,List.length_set];exact r.len,fun j p e=>?_,fun i j p q u e1 e2 o1 o2 s1 s2=>?_,r.dom,fun b z w=>r.sep b z (rZ w)⟩
 .obtain ⟨n,e⟩:=kH e
  obtain ⟨u,s,rr⟩:=r.get j p e
  exact ⟨u,by rw [List.getElem?_set_ne (Ne.symm n)];exact s,rr.keeps k fun _ _ _=>rfl⟩
 .obtain ⟨n1,e1⟩:=kH e1
  obtain ⟨n2,e2⟩:=kH e2
  rw [List.getElem?_set_ne (Ne.symm n1)] at s1
  rw [List.getElem?_set_ne (Ne.symm n2)] at s2
  exact r.dj i j p q u e1 e2 o1 o2 s1 s2
theorem Opn.opd {H1:Hp} (o:Opn K A ρ σ H Da as H1 rows) (r:Rel K A ρ σ H) (F:dC fx R H0 ρ σ H) (hx:x < σ.length):Rel K (apart A Da as) (ρ.set x none) (σ.set x (some (.ref Da))) H1/\Opd K A H0 (ρ.set x none) (σ.set x (some (.ref Da))) H1 x Da as rows:=by
 have nn:∀a,a=Da\/a∈as->H a=none:=fun a z=>z.elim (fun z=>by rw [z];exact o.hD) fun z=>(o.fr a z).1
 have r1:Rel K (apart A Da as) ρ σ H1:=r.grB o.gr (B:=fun b=>b=Da\/b∈as) fun b z=>⟨nn b z,by
  rcases z with z | z
  .rw [z,o.eD];exact nofun
  .obtain ⟨u,e⟩:=o.cp.dom b z
   rw [e];exact nofun⟩
 refine ⟨r1.clr,List.getElem?_set_self hx,fun a z w=>r.dom a w (nn a z),fun a z=>?_,o.nd,fun z=>(o.fr _ z).2 rfl,o.eD,o.cp.mv (fun _ _ _ e=>e) fun b u n e=>⟨fun z=>?_,o.gr b u e⟩⟩
 .cases e:H0 a with
  | none=>rfl
  | some u=>exact absurd (nn a z) (F.dm a (by rw [e];exact nofun))
 .rcases z with z | z
  .rcases z with z | z
   .exact n (.inl z)
   .rw [nn b z] at e;cases e
  .exact n (.inr (rZ z))
end
structure PEO where
 nx:PSt->Option (List (List D))->Prop
 rt:PV->PSt->Prop
abbrev POT:=PEO->PSt->Option (List (List D))->Prop
def LSO (K:PySem.W.Frag) (fs:List Nat) (x:Nat) (ts:TS) (po:POT):Prop:=∀(fx:List (Nat×V)) (A R:Addr->Prop) (H0:Hp) (ρ:PSt) (σ:St) (H:Hp) (m:Option (List (List D))) (D:PEO) (D':xJ),fx.map Prod.fst=fs->InO K x fx A R H0 ρ σ H m->po D ρ m ->
 (∀ρ' σ' H' m',D.nx ρ' m'->InO K x fx A R H0 ρ' σ' H' m'->D'.nx σ' H') ->
 (∀v p ρ' σ' H',D.rt p ρ'->Out K A ρ' σ' H0 H' p v->dC fx R H0 ρ' σ' H'->D'.rt v H')->ts D' σ H
def tG (a b:POT):POT:=fun D ρ m=>a { D with nx:=b D } ρ m
def DB (t:PTT) (a b:POT):POT:=fun D ρ m=>t ρ fun c ρ1=>gz c (a D ρ1 m) (b D ρ1 m)
def yb (a:POT):POT:=fun D ρ m=>∃J:PSt->Option (List (List L2.D))->Prop,a { D with nx:=J } ρ m/\∀ρ' m',J ρ' m'->D.nx ρ' m'
def DC (p:PTS):POT:=fun D ρ m=>p ⟨fun ρ'=>D.nx ρ' m,fun _ _=>False,fun _=>False,fun _=>False⟩ ρ
def yc (x:Nat) (p:PTS):POT:=fun D ρ m=>p ⟨fun ρ'=>D.nx ρ' none,D.rt,fun _=>False,fun _=>False⟩ (cl x ρ m)
def Cf (pe pi pj:PTE):POT:=fun D ρ m=>match m with
 | none=>False
 | some rows=>pe ρ fun v ρ1=>pi ρ1 fun vi ρ2=>(match vi with
  | .dat (.int i)=>∃n row,ixN rows.length i=some n/\rows[n]?=some row/\pj ρ2 fun vj ρ3=>(match vj with
   | .dat (.int j)=>∃l,ixN row.length j=some l/\D.nx ρ3 (some (rows.set n (row.set l v.d)))
   | _=>False)
  | _=>False)
section
variable {K:PySem.W.Frag}{fs:List Nat}{x:Nat}{ta tb ts:TS}{pa pb:POT}{tt:TT}{pt:PTT}{p:PTS}{te ti tj:TE}{pe pi pj:PTE}
theorem kI (ha:LSO K fs x ta pa) (hb:LSO K fs x tb pb):LSO K fs x (Ak ta tb) (tG pa pb):=fun fx A R H0 ρ σ H m D D' hf r q k1 k2 =>
 ha fx A R H0 ρ σ H m _ _ hf r q (fun ρ1 σ1 H1 m1 q1 r1=>hb fx A R H0 ρ1 σ1 H1 m1 _ _ hf r1 q1 k1 k2) k2
theorem yd (ht:LT K tt pt) (ha:LSO K fs x ta pa) (hb:LSO K fs x tb pb):LSO K fs x (CJ tt ta tb) (DB pt pa pb):=fun fx A R H0 ρ σ H m D D' hf r q k1 k2=>by
 cases m with
 | none =>
  exact ht A ρ σ H _ _ r.1 q fun c H1 ρ1 q1 f1 r1=>by
   cases c with
   | true=>exact ha fx A R H0 ρ1 σ H1 none D D' hf ⟨r1,r.2.fr f1⟩ q1 k1 k2
   | false=>exact hb fx A R H0 ρ1 σ H1 none D D' hf ⟨r1,r.2.fr f1⟩ q1 k1 k2
 | some rows =>
  obtain ⟨Da,as,r,F,o⟩:=r
  exact ht _ ρ σ H _ _ r q fun c H1 ρ1 q1 f1 r1=>by
   cases c with
   | true=>exact ha fx A R H0 ρ1 σ H1 (some rows) D D' hf ⟨Da,as,r1,F.fr f1,o.fr r f1⟩ q1 k1 k2
   | false=>exact hb fx A R H0 ρ1 σ H1 (some rows) D D' hf ⟨Da,as,r1,F.fr f1,o.fr r f1⟩ q1 k1 k2
theorem xz (ha:LSO K fs x ta pa):LSO K fs x (yU ta) (yb pa):=fun fx A R H0 ρ σ H m D D' hf r q k1 k2=>by
 obtain ⟨J,q1,q2⟩:=q
 refine ⟨fun σ' H'=>∃ρ' m',J ρ' m'/\InO K x fx A R H0 ρ' σ' H' m',?_,fun σ' H' ⟨ρ',m',j,r'⟩=>k1 ρ' σ' H' m' (q2 ρ' m' j) r'⟩
 exact ha fx A R H0 ρ σ H m _ _ hf r q1 (fun ρ' σ' H' m' j r'=>⟨ρ',m',j,r'⟩) k2
theorem pO (h:LS K fs ts p):LSO K fs x ts (yc x p):=fun fx A R H0 ρ σ H m D D' hf r q k1 k2 =>
 h fx A R H0 _ σ H _ D' hf r.cl.1 r.cl.2 q (fun ρ' σ' H' q' r' F'=>k1 ρ' σ' H' none q' ⟨r',F'⟩) k2 (fun _ _ _ z=>(z:False).elim) (fun _ _ _ z=>(z:False).elim)
theorem ye (h:LS K fs ts p) (h':LS K (x::fs) ts p):LSO K fs x ts (DC p):=fun fx A R H0 ρ σ H m D D' hf r q k1 k2=>by
 cases m with
 | none=>exact h fx A R H0 ρ σ H _ D' hf r.1 r.2 q (fun ρ' σ' H' q' r' F'=>k1 ρ' σ' H' none q' ⟨r',F'⟩) (fun _ _ _ _ _ z=>(z:False).elim) (fun _ _ _ z=>(z:False).elim) (fun _ _ _ z=>(z:False).elim)
 | some rows =>
  obtain ⟨Da,as,r,F,o⟩:=r
  have st:dC ((x,V.ref Da)::fx) (Wr ρ σ) H ρ σ H:=dC.start fun p hp=>by
   rcases List.mem_cons.mp hp with rfl | hp
   .exact o.sx
   .exact F.fx p hp
  refine h' ((x,V.ref Da)::fx) (apart A Da as) (Wr ρ σ) H ρ σ H _ D' (by rw [List.map_cons,hf]) r st q (fun ρ' σ' H' q' r' F'=>?_) (fun _ _ _ _ _ z=>(z:False).elim) (fun _ _ _ z=>(z:False).elim) (fun _ _ _ z=>(z:False).elim)
  refine k1 ρ' σ' H' (some rows) q' ⟨Da,as,r',F.trans F' fun p hp=>F'.fx p (List.mem_cons_of_mem _ hp),o.keep (F'.fx _ List.mem_cons_self) F'.keeps fun a ha u e=>F'.kp a u (r.sep a (.inr ha)) e⟩
theorem zT (he:LE K te pe) (hi:LE K ti pi) (hj:LE K tj pj):LSO K fs x (uc te (AM (tOp (kx K) (a4 x) ti) tj uA)) (Cf pe pi pj):=fun fx A R H0 ρ σ H m D D' hf r q k1 k2=>by
 cases m with
 | none=>exact q.elim
 | some rows =>
  obtain ⟨Da,as,r,F,o⟩:=r
  refine he _ ρ σ H _ _ r q fun v H1 p ρ1 q1 f1 o1=>?_
  have od1:=o.fr r f1
  obtain ⟨r1,fv⟩:=o1.frz
  refine ⟨.ref Da,o.sx,hi _ ρ1 σ H1 _ _ r1 q1 fun vi H2 p2 ρ2 q2 f2 o2=>?_⟩
  split at q2
  .rename_i i
   obtain ⟨n,row,hn,hrow,q2⟩:=q2
   obtain ⟨r2,e2⟩:=o2
   cases e2
   have od2:=od1.fr r1 f2
   obtain ⟨a,xs,ha,hxs,fxs⟩:=od2.cp.get hrow
   have hl:(as.map V.ref).length=rows.length:=by rw [List.length_map,od2.cp.length]
   refine .inl ⟨Da,as.map V.ref,i,.ref a,rfl,rfl,SqL.of od2.eD,?_,hj _ ρ2 σ H2 _ _ r2 q2 fun vj H3 p3 ρ3 q3 f3 o3=>?_⟩
   .unfold atI;rw [hl,hn];show (as.map V.ref)[n]?=_;rw [List.getElem?_map,ha];rfl
   .split at q3
    .rename_i j
     obtain ⟨l,hm,q3⟩:=q3
     obtain ⟨r3,e3⟩:=o3
     cases e3
     have od3:=od2.fr r2 f3
     obtain ⟨a',xs,ha',hxs,fxs⟩:=od3.cp.get hrow
     rw [ha] at ha';cases ha'
     have hin:a∈as:=List.mem_of_getElem? ha
     have hAa:apart A Da as a:=.inr (.inr hin)
     have fv3:FV K (OO (apart A Da as) ρ3 σ) H3 v p.d:=(fv.keeps f2.keeps).keeps f3.keeps
     have kk:aO (OO (apart A Da as) ρ3 σ) H3 (OO (apart A Da as) ρ3 σ) (upd H3 a (.lst (xs.set l v))):=fun b u n e=>⟨n,by rw [au (fun z=>n (.inl (by rw [z];exact hAa)))];exact e⟩
     have F3:=((F.fr f1).fr f2).fr f3
     refine ⟨a,xs,j,l,rfl,rfl,hxs,by rw [fxs.length];exact hm,k1 ρ3 σ _ _ q3 ⟨Da,as,r3.writeA hAa,⟨fun b u n e=>?_,fun b z=>?_,F3.ow,F3.fx⟩,⟨od3.sx,od3.nA,od3.h0,od3.nd,od3.ne,?_,?_⟩⟩⟩
     .rw [au (fun z=>by rw [z,od3.h0 a (.inr hin)] at e;cases e)];exact F3.kp b u n e
     .by_cases z':b=a
      .rw [z',aE];exact nofun
      .rw [au z'];exact F3.dm b z
     .rw [au (fun z=>od3.ne (by rw [z];exact hin))];exact od3.eD
     .exact Cp.put (FVs.set (fv3.keeps kk) l (fxs.keeps kk)) od3.nd ha (od3.cp.mv (fun _ _ _ e=>e) kk)
    .exact q3.elim
  .exact q2.elim
def LOp (K:PySem.W.Frag) (te:TE) (po:PSt->(List (List D)->Prop)->Prop):Prop:=∀(A:Addr->Prop) (ρ:PSt) (σ:St) (H:Hp) (Q:List (List D)->Prop) (Q':VK),Rel K A ρ σ H->po ρ Q->(∀Da as H1 rows,Q rows->Opn K A ρ σ H Da as H1 rows->Q' (.ref Da) H1)->te σ H Q'
def Cg (x:Nat) (op:PSt->(List (List D)->Prop)->Prop) (po:POT):PTS:=fun D ρ=>x < ρ.length/\op ρ fun rows=>po ⟨fun ρ' m=>D.nx (cl x ρ' m),D.rt⟩ (ρ.set x none) (some rows)
theorem Ch {op:PSt->(List (List D)->Prop)->Prop}{tr:TS}{po:POT} (hx:fs.contains x=false) (h:LOp K te op) (hr:LSO K fs x tr po):LS K fs (Ak (uc te (ca x)) tr) (Cg x op po):=fun fx A R H0 ρ σ H D D' hf r F q k1 k2 k3 k4=>by
 obtain ⟨hxl,q⟩:=q
 have hxs:x < σ.length:=by rw [<- r.len];exact hxl
 refine h A ρ σ H _ _ r q fun Da as H1 rows q1 o=>?_
 obtain ⟨r1,od⟩:=o.opd r F hxs
 have F1:dC fx R H0 (ρ.set x none) (σ.set x (some (.ref Da))) H1:=by
  have F0:=F.fr (o.gr.fr (ρ:=ρ) (σ:=σ))
  refine ⟨F0.kp,F0.dm,fun b w=>F0.ow b (rZ w),fun p hp=>?_⟩
  have:p.1≠x:=fun z=>by
   have h1:x∈fs:=by rw [<- hf,<- z];exact List.mem_map_of_mem hp
   rw [List.contains_iff_mem.mpr h1] at hx;cases hx
  rw [List.getElem?_set_ne (Ne.symm this)];exact F0.fx p hp
 exact hr fx A R H0 _ _ H1 (some rows) _ _ hf ⟨Da,as,r1,F1,od⟩ q1 (fun ρ' σ' H' m' q' r'=>k1 _ σ' H' q' r'.cl.1 r'.cl.2) k2
def Ci (y z:Nat):PSt->(List (List D)->Prop)->Prop:=fun ρ Q=>∃p q ds es,ρ[y]?=some (some p)/\ρ[z]?=some (some q)/\fh p.d ds/\fh q.d es/\Q [ds,es]
theorem Rel.sqAt {A:Addr->Prop}{ρ:PSt}{σ:St}{H:Hp}{y:Nat}{p:PV}{ds:List D} (r:Rel K A ρ σ H) (hy:ρ[y]?=some (some p)) (sq:fh p.d ds):∃(k:Bool) (a:Addr) (xs:List V),σ[y]?=some (some (.ref a))/\H a=some (if k then .tup xs else .lst xs)/\FVs K (OO A ρ σ) H xs ds:=by
 obtain ⟨v,hv,rr⟩:=r.get y p hy
 cases p with
 | dat d=>obtain ⟨k,a,xs,rfl,e,f⟩:=FV.sq rr sq;exact ⟨k,a,xs,hv,e,f⟩
 | own es =>
  obtain ⟨a,xs,rfl,e,f⟩:=rr
  rcases sq with sq | sq
  .cases sq;exact ⟨false,a,xs,hv,e,f⟩
  .cases sq
 | ins c ns es=>rcases sq with sq | sq <;> cases sq
theorem zU {y z:Nat}:LOp K (CA (bp (tCB (m7 K) (bp (a4 y) eM)) (bp (tCB (m7 K) (bp (a4 z) eM)) eM))) (Ci y z):=fun A ρ σ H Q Q' r q k=>by
 obtain ⟨p,q0,ds,es,hy,hz,sq1,sq2,q⟩:=q
 obtain ⟨k1,a1,xs,s1,e1,f1⟩:=r.sqAt hy sq1
 obtain ⟨k2,a2,ys,s2,e2,f2⟩:=r.sqAt hz sq2
 have sq:∀{k:Bool}{a:Addr}{xs:List V}{H':Hp},H' a=some (if k then .tup xs else .lst xs)->SqL K H' a xs\/SqT K H' a xs:=fun {k}{a}{xs}{H'} e=>by
  cases k with
  | false=>exact .inl (SqL.of e)
  | true=>exact .inr (SqT.of e)
 refine ⟨_,s1,a1,xs,rfl,sq e1,fun l1 hl1=>⟨_,s2,a2,ys,rfl,sq (by rw [au (aW e2 hl1)];exact e2),fun l2 hl2=>⟨sz _ (by show 2<=1000000;decide),fun d hd=>?_⟩⟩⟩
 have n21:l2≠l1:=fun z=>by rw [z,aE] at hl2;cases hl2
 have h2:H l2=none:=by rw [au n21] at hl2;exact hl2
 have nd2:d≠l2:=fun z=>by rw [z,aE] at hd;cases hd
 have nd1:d≠l1:=fun z=>by rw [au nd2,z,aE] at hd;cases hd
 have hd':H d=none:=by rw [au nd2,au nd1] at hd;exact hd
 refine k d [l1,l2] _ [ds,es] q ⟨fun b o e=>?_,hd',?_,fun a ha=>?_,aE,?_⟩
 .rw [au (aW e hd'),au (aW e h2),au (aW e hl1)];exact e
 .exact List.nodup_cons.mpr ⟨fun h=>n21 (List.mem_singleton.mp h).symm,List.nodup_cons.mpr ⟨(fun h=>nomatch h),.nil⟩⟩
 .rcases List.mem_cons.mp ha with rfl | ha
  .exact ⟨hl1,Ne.symm nd1⟩
  .rw [List.mem_singleton.mp ha];exact ⟨h2,Ne.symm nd2⟩
 .exact .cons (by rw [au (Ne.symm nd1),au (Ne.symm n21),aE]) f1 (.cons (by rw [au (Ne.symm nd2),aE]) f2 .nil)
end
section
variable {K:PySem.W.Frag}{A:Addr->Prop}{fx:List (Nat×V)}{R:Addr->Prop}{H0 H:Hp}{ρ:PSt}{σ:St}
def mvd (ρ:PSt) (g r:Nat) (ds:List D):PSt:=(ρ.set r (some (.own ds))).set g none
theorem yf (ρ:PSt) (g r:Nat) (ds:List D):mvd ρ g r ds=(ρ.set r (some (.own ds))).set g none:=rfl
theorem qH {g r j:Nat}{ds:List D}{p:PV} (n:r≠g) (e:(mvd ρ g r ds)[j]?=some (some p)):j≠g/\((j=r/\p=.own ds/\r < ρ.length)\/(j≠r/\ρ[j]?=some (some p))):=by
 obtain ⟨n1,e⟩:=kH e
 refine ⟨n1,?_⟩
 by_cases z:r=j
 .subst z
  by_cases h:r < ρ.length
  .rw [List.getElem?_set_self h] at e;cases e;exact .inl ⟨rfl,rfl,h⟩
  .rw [List.getElem?_eq_none (by rw [List.length_set];omega)] at e;cases e
 .rw [List.getElem?_set_ne z] at e;exact .inr ⟨fun q=>z q.symm,e⟩
theorem Rel.move {g r:Nat}{ds:List D}{a:Addr} (n:r≠g) (h:Rel K A ρ σ H) (e:ρ[g]?=some (some (.own ds))) (s:σ[g]?=some (some (.ref a))):Rel K A (mvd ρ g r ds) (σ.set r (some (.ref a))) H/\∀b,Wr (mvd ρ g r ds) (σ.set r (some (.ref a))) b->Wr ρ σ b:=by
 have ow:∀b,Wr (mvd ρ g r ds) (σ.set r (some (.ref a))) b->Wr ρ σ b:=fun b ⟨j,p,e1,o1,s1⟩=>by
  obtain ⟨n1,z⟩:=qH n e1
  rcases z with ⟨rfl,rfl,hl⟩ | ⟨n2,e1⟩
  .rw [List.getElem?_set_self (by rw [<- h.len];exact hl)] at s1;cases s1
   exact ⟨g,_,e,rfl,s⟩
  .rw [List.getElem?_set_ne (Ne.symm n2)] at s1;exact ⟨j,p,e1,o1,s1⟩
 have k:aO (OO A ρ σ) H (OO A (mvd ρ g r ds) (σ.set r (some (.ref a)))) H:=aO.less fun b z=>z.imp id (ow b)
 refine ⟨⟨by unfold mvd;rw [List.length_set,List.length_set,List.length_set];exact h.len,fun j p e1=>?_,fun i j p q u e1 e2 o1 o2 s1 s2=>?_,h.dom,fun b z w=>h.sep b z (ow b w)⟩,ow⟩
 .obtain ⟨n1,z⟩:=qH n e1
  rcases z with ⟨rfl,rfl,hl⟩ | ⟨n2,e1⟩
  .obtain ⟨v,s',rr⟩:=h.get g _ e
   rw [s] at s';cases s'
   exact ⟨_,List.getElem?_set_self (by rw [<- h.len];exact hl),rr.keeps k fun _ _ _=>rfl⟩
  .obtain ⟨v,s',rr⟩:=h.get j p e1
   exact ⟨v,by rw [List.getElem?_set_ne (Ne.symm n2)];exact s',rr.keeps k fun _ _ _=>rfl⟩
 .have bk:∀(m:Nat) (y:PV),(mvd ρ g r ds)[m]?=some (some y)->y.isOwn=true->(σ.set r (some (.ref a)))[m]?=some (some u)->∃(l:Nat) (y':PV),ρ[l]?=some (some y')/\y'.isOwn=true/\σ[l]?=some (some u)/\(l=g ↔ m=r)/\(m≠r->l=m):=fun m y em oy sm=>by
   obtain ⟨n1,z⟩:=qH n em
   rcases z with ⟨rfl,rfl,hl⟩ | ⟨n2,em⟩
   .rw [List.getElem?_set_self (by rw [<- h.len];exact hl)] at sm;cases sm
    exact ⟨g,_,e,rfl,s,⟨fun _=>rfl,fun _=>rfl⟩,fun z=>absurd rfl z⟩
   .rw [List.getElem?_set_ne (Ne.symm n2)] at sm
    exact ⟨m,y,em,oy,sm,⟨fun z=>absurd z n1,fun z=>absurd z n2⟩,fun _=>rfl⟩
  obtain ⟨l1,y1,a1,b1,c1,d1,f1⟩:=bk i p e1 o1 s1
  obtain ⟨l2,y2,a2,b2,c2,d2,f2⟩:=bk j q e2 o2 s2
  have hll:=h.dj l1 l2 y1 y2 u a1 a2 b1 b2 c1 c2
  by_cases z:i=r
  .rw [z];exact (d2.mp (by rw [<- hll];exact d1.mpr z)).symm
  .rw [<- f1 z,hll]
   refine f2 fun w=>z (d1.mp (by rw [hll];exact d2.mpr w))
def kJ (ρ:PSt) (g r:Nat) (Q:PSt->Prop):Prop:=match ρ[r]?,ρ[g]? with
 | some (some (.own ds)),some none=>Q (mvd ρ r g ds)
 | _,_=>False
def Cj (r g t:Nat) (pe pe' pk:PTE):PTS:=fun D ρ=>(∃p,ρ[g]?=some (some p))/\(∃p,ρ[t]?=some (some p))/\pe ρ fun v ρ1=>match v,ρ1[g]?,ρ1[t]? with
 | .dat (.int i),some (some (.own ds)),some (some (.own es))=>r < ρ1.length/\∃n,ixN 2 i=some n/\(n=0->pD r pe' pk ⟨fun ρ2=>kJ ρ2 g r D.nx,fun _ _=>False,fun _=>False,fun _=>False⟩ (mvd ρ1 g r ds))/\(n=1->pD r pe' pk ⟨fun ρ2=>kJ ρ2 t r D.nx,fun _ _=>False,fun _=>False,fun _=>False⟩ (mvd ρ1 t r es))
 | _,_,_=>False
theorem vU {fs:List Nat}{te' tk:TE}{pe' pk:PTE} (he':LE K te' pe') (hk:LE K tk pk) {r g:Nat}{ds:List D}{a:Addr}{D:zj}{D':xJ} (hr:fs.contains r=false) (hg:fs.contains g=false) (n:r≠g) (hf:fx.map Prod.fst=fs) (hrl:r < ρ.length) (h:Rel K A ρ σ H) (F:dC fx R H0 ρ σ H) (e:ρ[g]?=some (some (.own ds))) (s:σ[g]?=some (some (.ref a)))
  (q:pD r pe' pk ⟨fun ρ2=>kJ ρ2 g r D.nx,fun _ _=>False,fun _=>False,fun _=>False⟩ (mvd ρ g r ds)) (k1:∀ρ' σ' H',D.nx ρ'->Rel K A ρ' σ' H'->dC fx R H0 ρ' σ' H'->D'.nx σ' H') :
  uc te' (AM (a4 r) tk uA) D' (σ.set r (some (.ref a))) H:=by
 obtain ⟨r1,w1⟩:=h.move n e s
 have hfx:∀p∈fx,p.1≠r:=fun p hp z=>by
  have h1:r∈fs:=by rw [<- hf,<- z];exact List.mem_map_of_mem hp
  rw [List.contains_iff_mem.mpr h1] at hr;cases hr
 have F1:dC ((g,V.ref a)::(r,V.ref a)::fx) R H0 (mvd ρ g r ds) (σ.set r (some (.ref a))) H:=⟨F.kp,F.dm,fun b w=>F.ow b (w1 b w),fun p hp=>by
  rcases List.mem_cons.mp hp with rfl | hp
  .rw [List.getElem?_set_ne n];exact s
  .rcases List.mem_cons.mp hp with rfl | hp
   .exact List.getElem?_set_self (by rw [<- h.len];exact hrl)
   .rw [List.getElem?_set_ne (Ne.symm (hfx p hp))];exact F.fx p hp⟩
 refine ve (fs:=g::r::fs) (i:=r) he' hk ((g,V.ref a)::(r,V.ref a)::fx) A R H0 _ _ H _ D' (by rw [List.map_cons,List.map_cons,hf]) r1 F1 q (fun ρ' σ' H' q' r' F'=>?_) (fun _ _ _ _ _ z=>(z:False).elim) (fun _ _ _ z=>(z:False).elim) (fun _ _ _ z=>(z:False).elim)
 have q2:kJ ρ' g r D.nx:=q'
 clear q'
 unfold kJ at q2
 split at q2
 .rename_i ds' e1 e2
  have sr:=F'.fx (r,V.ref a) (List.mem_cons_of_mem _ List.mem_cons_self)
  have sg:=F'.fx (g,V.ref a) List.mem_cons_self
  obtain ⟨r2,w2⟩:=r'.move (Ne.symm n) e1 sr
  rw [nH sg] at r2 w2
  exact k1 _ σ' H' q2 r2 ⟨F'.kp,F'.dm,fun b w=>F'.ow b (w2 b w),fun p hp=>F'.fx p (List.mem_cons_of_mem _ (List.mem_cons_of_mem _ hp))⟩
 .exact q2.elim
theorem Ck {fs:List Nat}{te te' tk:TE}{pe pe' pk:PTE}{tr:TS}{pr:PTS}{r g t:Nat} (hr:fs.contains r=false) (hg:fs.contains g=false) (ht:fs.contains t=false) (n1:r≠g) (n2:r≠t) (he:LE K te pe) (he':LE K te' pe') (hk:LE K tk pk) (h:LS K fs tr pr) :
  LS K fs (Ak (uc (tOp (kx K) (CA (bp (a4 g) (bp (a4 t) eM))) te) (ca r)) (Ak (uc te' (AM (a4 r) tk uA)) tr)) (aL (Cj r g t pe pe' pk) pr):=fun fx A R H0 ρ σ H D D' hf rr F q k1 k2 k3 k4=>by
 obtain ⟨⟨pg,eg⟩,⟨pt,et⟩,q⟩:=q
 obtain ⟨vg,sg,_⟩:=rr.get g pg eg
 obtain ⟨vt,st,_⟩:=rr.get t pt et
 refine ⟨vg,sg,vt,st,sz _ (by show 2<=1000000;decide),fun d hd=>?_⟩
 have f0:Fr ρ σ H ρ (upd H d (.lst [vg,vt])):=Fr.new hd
 refine he A ρ σ _ _ _ (rr.grow hd) q fun v H1 p ρ1 q1 f1 o1=>?_
 split at q1
 .rename_i i ds es e1 e2
  obtain ⟨hrl,m,hm,q0,q1⟩:=q1
  obtain ⟨r1,ei⟩:=o1
  cases ei
  have hdk:H1 d=some (.lst [vg,vt]):=f1.kp d _ (fun w=>rr.wr w hd) aE
  have F1:=(F.fr f0).fr f1
  have hm2:m=0\/m=1:=by
   unfold ixN at hm
   split at hm
   .split at hm
    .cases hm;omega
    .cases hm
   .split at hm
    .cases hm;omega
    .cases hm
  have at0:∀(v:V),[vg,vt][m]?=some v->atI [vg,vt] i=some v:=fun v hv=>by
   unfold atI
   rw [show ([vg,vt]:List V).length=2 from rfl,hm];exact hv
  rcases hm2 with rfl | rfl
  .obtain ⟨vg',sg',rg⟩:=r1.get g _ e1
   rw [sg] at sg';cases sg'
   obtain ⟨a,xs,rfl,_⟩:=rg
   exact .inl ⟨d,_,i,.ref a,rfl,rfl,SqL.of hdk,at0 _ rfl,vU he' hk hr hg n1 hf hrl r1 F1 e1 sg (q0 rfl) fun ρ' σ' H' q' r' F'=>h fx A R H0 ρ' σ' H' D D' hf r' F' q' k1 k2 k3 k4⟩
  .obtain ⟨vt',st',rt⟩:=r1.get t _ e2
   rw [st] at st';cases st'
   obtain ⟨a,xs,rfl,_⟩:=rt
   exact .inl ⟨d,_,i,.ref a,rfl,rfl,SqL.of hdk,at0 _ rfl,vU he' hk hr ht n2 hf hrl r1 F1 e2 st (q1 rfl) fun ρ' σ' H' q' r' F'=>h fx A R H0 ρ' σ' H' D D' hf r' F' q' k1 k2 k3 k4⟩
 .exact q1.elim
end
end L2
namespace K39
open PySem PySem.Spec PyProof.Rows L2
def top (i:Nat):Stmt:=PySem.Challenge.pw_shortglue_k39_case_ends.main.body.getD i (.Pass ⟨0,0,0,0⟩)
abbrev nI:Stmt:=top 1
abbrev ii:Stmt:=top 2
abbrev fi:Stmt:=top 3
abbrev fZ:Stmt:=top 4
abbrev f7:Stmt:=top 7
abbrev eP:Stmt:=top 9
abbrev eQ:Stmt:=top 10
abbrev dB:Stmt:=top 11
abbrev jj:Stmt:=top 12
abbrev f9:Stmt:=top 14
abbrev fj:Stmt:=top 15
abbrev eR:Stmt:=top 16
abbrev kK:Stmt:=top 17
abbrev gb:Stmt:=top 18
abbrev eX:Stmt:=top 30
abbrev fk:Stmt:=top 31
abbrev zV:Stmt:=top 24
abbrev jk:Stmt:=top 25
abbrev eS:Stmt:=top 33
abbrev ef:Stmt:=top 34
abbrev kL:Stmt:=top 35
abbrev jl:Stmt:=top 36
abbrev cz:Stmt:=mS (top 37) 0
abbrev cA:Stmt:=mS (top 37) 1
abbrev ij:Stmt:=top 39
abbrev jm:Stmt:=top 40
abbrev jn:Stmt:=top 41
abbrev ik:Stmt:=top 42
abbrev gc:Stmt:=top 43
abbrev il:Stmt:=top 44
abbrev kM:Stmt:=top 45
abbrev jo:Stmt:=top 46
abbrev gf:Stmt:=top 47
abbrev gg:Stmt:=top 48
abbrev jp:Stmt:=top 49
abbrev xA:Stmt:=top 50
theorem vV:aK ["thing"] ["thing"] (ao nI):=⟨rfl,rfl,rfl,by decide +kernel,rfl,by decide +kernel,by decide +kernel⟩
theorem pP:aK ["thing"] ["thing"] (ao ii):=⟨rfl,rfl,rfl,by decide +kernel,rfl,by decide +kernel,by decide +kernel⟩
theorem lL:aK ["thing","many"] ["thing","many"] (ao fi):=⟨rfl,rfl,rfl,by decide +kernel,rfl,by decide +kernel,by decide +kernel⟩
theorem nJ:aK ["thing","many"] ["thing","many"] (ao fZ):=⟨rfl,rfl,rfl,by decide +kernel,rfl,by decide +kernel,by decide +kernel⟩
theorem nK:aK ["family"] ["family"] (ao f7):=⟨rfl,rfl,rfl,by decide +kernel,rfl,by decide +kernel,by decide +kernel⟩
theorem eh:aK ["case","followers","last"] ["case"] (ao eP):=⟨rfl,rfl,rfl,by decide +kernel,rfl,by decide +kernel,by decide +kernel⟩
theorem gi:aK ["case","followers"] ["case"] (ao eQ):=⟨rfl,rfl,rfl,by decide +kernel,rfl,by decide +kernel,by decide +kernel⟩
theorem cI:aK ["case","i","followers","first"] ["case","i"] (ao dB):=⟨rfl,rfl,rfl,by decide +kernel,rfl,by decide +kernel,by decide +kernel⟩
theorem kN:aK ["case","i","first"] ["case","i"] (ao jj):=⟨rfl,rfl,rfl,by decide +kernel,rfl,by decide +kernel,by decide +kernel⟩
theorem nL:aK ["family","case"] ["family","case"] (ao f9):=⟨rfl,rfl,rfl,by decide +kernel,rfl,by decide +kernel,by decide +kernel⟩
theorem gP:aK ["family","case","gives","takes","giving"] ["family","case","gives","takes"] (ao fj):=⟨rfl,rfl,rfl,by decide +kernel,rfl,by decide +kernel,by decide +kernel⟩
theorem kO:aK ["family","case","i","rows","wanted","greatest","row","j","number"] ["family","case","i","rows"] (ao eR):=⟨rfl,rfl,rfl,by decide +kernel,rfl,by decide +kernel,by decide +kernel⟩
theorem tH:aK ["family","case","paper"] ["family","case","paper"] (ao kK):=⟨rfl,rfl,rfl,by decide +kernel,rfl,by decide +kernel,by decide +kernel⟩
theorem iE:aK ["family","paper","number"] ["family","paper"] (ao gb):=⟨rfl,rfl,rfl,by decide +kernel,rfl,by decide +kernel,by decide +kernel⟩
theorem tI:aK ["thing","least","most"] ["thing","least","most"] (ao eX):=⟨rfl,rfl,rfl,by decide +kernel,rfl,by decide +kernel,by decide +kernel⟩
theorem lM:aK ["text","piece"] ["text","piece"] (ao fk):=⟨rfl,rfl,rfl,by decide +kernel,rfl,by decide +kernel,by decide +kernel⟩
theorem yg:aK ["one","other","k"] ["one","other"] (ao zV):=⟨rfl,rfl,rfl,by decide +kernel,rfl,by decide +kernel,by decide +kernel⟩
theorem qI:aK ["words"] ["words"] (ao jk):=⟨rfl,rfl,rfl,by decide +kernel,rfl,by decide +kernel,by decide +kernel⟩
theorem ej:aK ["things","at","thing"] ["things"] (ao eS):=⟨rfl,rfl,rfl,by decide +kernel,rfl,by decide +kernel,by decide +kernel⟩
theorem jN:aK ["piece","other"] ["piece","other"] (ao ef):=⟨rfl,rfl,rfl,by decide +kernel,rfl,by decide +kernel,by decide +kernel⟩
theorem jq:aK ["pieces","at","piece","longer"] ["pieces","at"] (ao kL):=⟨rfl,rfl,rfl,by decide +kernel,rfl,by decide +kernel,by decide +kernel⟩
theorem kP:aK ["pieces","kept","at","holder"] ["pieces","kept","at"] (ao jl):=⟨rfl,rfl,rfl,by decide +kernel,rfl,by decide +kernel,by decide +kernel⟩
theorem gQ:aK ["self","pieces","indexes"] ["self","pieces"] (ao cz):=⟨rfl,rfl,rfl,by decide +kernel,rfl,by decide +kernel,by decide +kernel⟩
theorem lN:aK ["self"] ["self"] (ao cA):=⟨rfl,rfl,rfl,by decide +kernel,rfl,by decide +kernel,by decide +kernel⟩
theorem dw:aK ["_law_cell","_law_k","_law_number"] ["_law_cell","_law_k"] (ao ij):=⟨rfl,rfl,rfl,by decide +kernel,rfl,by decide +kernel,by decide +kernel⟩
theorem cB:aK ["_law_script","_law_many","_law_cells","_law_found","_law_turn","_law_cell","_law_rest"] ["_law_script","_law_many"] (ao jm):=⟨rfl,rfl,rfl,by decide +kernel,rfl,by decide +kernel,by decide +kernel⟩
theorem qJ:aK ["_law_deck_here"] ["_law_deck_here"] (ao jn):=⟨rfl,rfl,rfl,by decide +kernel,rfl,by decide +kernel,by decide +kernel⟩
theorem eE:aK ["_law_deck_here","_law_letters","_law_many","_law_found","_law_k"] ["_law_deck_here","_law_letters","_law_many"] (ao ik):=⟨rfl,rfl,rfl,by decide +kernel,rfl,by decide +kernel,by decide +kernel⟩
theorem aY:aK ["_law_deck_here","_law_most","_law_first","_law_many","_law_letters","_law_sort","_law_long","_law_text","_law_pieces_here","_law_k","_law_at","_law_piece"] ["_law_deck_here","_law_most"] (ao gc):=⟨rfl,rfl,rfl,by decide +kernel,rfl,by decide +kernel,by decide +kernel⟩
theorem dy:aK ["_law_pieces_here","_law_found","_law_k","_law_piece","_law_longer"] ["_law_pieces_here"] (ao il):=⟨rfl,rfl,rfl,by decide +kernel,rfl,by decide +kernel,by decide +kernel⟩
theorem mC:aK ["_law_one","_law_other","_law_k"] ["_law_one","_law_other"] (ao kM):=⟨rfl,rfl,rfl,by decide +kernel,rfl,by decide +kernel,by decide +kernel⟩
theorem qK:aK ["_law_words_here"] ["_law_words_here"] (ao jo):=⟨rfl,rfl,rfl,by decide +kernel,rfl,by decide +kernel,by decide +kernel⟩
theorem dI:aK ["_law_laps_here","_law_gives","_law_takes","_law_many","_law_i","_law_low"] ["_law_laps_here","_law_gives","_law_takes"] (ao gf):=⟨rfl,rfl,rfl,by decide +kernel,rfl,by decide +kernel,by decide +kernel⟩
theorem bW:aK ["_law_deck_here","_law_laps_here","_law_takes","_law_gives","_law_i","_law_row","_law_need","_law_at"] ["_law_deck_here","_law_laps_here"] (ao gg):=⟨rfl,rfl,rfl,by decide +kernel,rfl,by decide +kernel,by decide +kernel⟩
theorem cH:aK ["_law_deck_here","_law_gives","_law_takes","_law_at","_law_sort","_law_bent_here","_law_side","_law_some","_law_word"] ["_law_deck_here","_law_gives","_law_takes"] (ao jp):=⟨rfl,rfl,rfl,by decide +kernel,rfl,by decide +kernel,by decide +kernel⟩
theorem dE:aK ["_law_script","_law_deck_here","_law_pieces_here","_law_words_here","_law_laps_here","_law_family","_law_total","_law_k","_law_gives","_law_takes","_law_due","_law_paper","_law_word","_law_thing","_law_great"] ["_law_script"] (ao xA):=⟨rfl,rfl,rfl,by decide +kernel,rfl,by decide +kernel,by decide +kernel⟩
structure Txt (mg:Str->Option Value):Prop where
 b_all:mg "all"=none
 b_any:mg "any"=none
 b_bool:mg "bool"=none
 b_enumerate:mg "enumerate"=none
 b_int:mg "int"=none
 b_isinstance:mg "isinstance"=none
 b_len:mg "len"=none
 b_list:mg "list"=none
 b_max:mg "max"=none
 b_min:mg "min"=none
 b_range:mg "range"=none
 b_reversed:mg "reversed"=none
 b_str:mg "str"=none
 b_sum:mg "sum"=none
 b_tuple:mg "tuple"=none
 g_MOST_CASE_WORDS:∃t,mg "MOST_CASE_WORDS"=some (.int 7 t)
 g_MOST_PIECES:∃t,mg "MOST_PIECES"=some (.int 40 t)
 g_MOST_SIGNS:∃t,mg "MOST_SIGNS"=some (.int 60 t)
abbrev cP:Stmt:=mS (top 21) 0
theorem kQ:aK ["self","most"] ["self","most"] (ao cP):=⟨rfl,rfl,rfl,by decide +kernel,rfl,by decide +kernel,by decide +kernel⟩
abbrev cQ:Stmt:=mS (top 22) 0
theorem kR:aK ["self","at"] ["self","at"] (ao cQ):=⟨rfl,rfl,rfl,by decide +kernel,rfl,by decide +kernel,by decide +kernel⟩
abbrev xcs:List Str:=["TooMany","NoPiece"]
abbrev D7:List (Str×Str):=[("TooMany","most"),("NoPiece","at")]
structure TxX (K:PySem.W.Frag) (mg:Str->Option Value):Prop where
 all:Em K xcs
 at_:∀c g,(c,g)∈D7->PySem.W.findIn K (.ref (bC K c)) g=some none
 m_TooMany:mg "TooMany"=some (.ref (bC K "TooMany"))
 m_NoPiece:mg "NoPiece"=some (.ref (bC K "NoPiece"))
 m_GlueError:mg "GlueError"=some (.ref (bC K "GlueError"))
 d_TooMany:XD K (bC K "TooMany")
 d_NoPiece:XD K (bC K "NoPiece")
 d_GlueError:XD K (bC K "GlueError")
structure TxC (K:PySem.W.Frag):Prop where
 cl_Family:Cls K (bC K "Family")
 n_Family_pieces:er K (bC K "Family") "pieces"
 n_Family_kept:er K (bC K "Family") "kept"
 n_Family_words:er K (bC K "Family") "words"
 n_Family_left:er K (bC K "Family") "left"
 n_Family_laps:er K (bC K "Family") "laps"
 n_Family_total:er K (bC K "Family") "total"
local macro_rules | `(tactic| walk_at "s")=>`(tactic| first | (with_reducible omega) | (with_reducible assumption) | (with_reducible rfl) | exact Nat.le_of_ble_eq_true rfl | (simp only [List.length_cons,List.length_nil,List.length_append,List.length_map];(with_reducible omega)) | assumption | rfl | (refine ⟨?_,?_⟩ <;> first | (with_reducible omega) | (with_reducible assumption) | (with_reducible rfl) | exact Nat.le_of_ble_eq_true rfl | assumption | rfl | (refine ⟨?_,?_⟩ <;> first | (with_reducible omega) | (with_reducible assumption) | (with_reducible rfl) | exact Nat.le_of_ble_eq_true rfl | assumption | rfl | (refine ⟨?_,?_⟩ <;> first | (with_reducible omega) | (with_reducible assumption) | (with_reducible rfl) | exact Nat.le_of_ble_eq_true rfl | assumption | rfl | fail) | fail) | fail) | omega | fail)
local macro_rules | `(tactic| walk_at "r")=>`(tactic| ((try dsimp only [List.set_cons_zero,List.set_cons_succ,vI,vJ,vK,B6,B7,pL,mz,mB,rW,rX,List.tail_cons,pM,pN,rY,vS,vT,yf]);(conv=>whnf);(repeat (first | ((with_reducible refine And.intro ?_ ?_);(next=>walk_at "s");(conv=>whnf)) | ((with_reducible refine (show Exists _ from ?_));(first | (refine ⟨_,rfl,?_⟩) | (refine ⟨_,fh.lst _,?_⟩) | (refine ⟨_,fh.tup _,?_⟩));(conv=>whnf)) | ((refine (show gz _ _ _ from ?_));(first | (with_reducible refine Eh (by assumption) ?_) | (with_reducible refine Ei (by assumption) ?_) | (with_reducible refine Bu (by assumption) ?_) | (with_reducible refine y0 (by assumption) ?_) | ((with_reducible refine C9 ?_ ?_);(next=>(first | (with_reducible rfl) | (with_reducible assumption) | (with_reducible omega)))) | ((with_reducible refine Db ?_ ?_);(next=>(first | (with_reducible rfl) | (with_reducible assumption) | (with_reducible omega)))) | ((with_reducible refine Bs ?_ ?_);(next=>(first | (with_reducible rfl) | (with_reducible assumption) | (with_reducible omega)))) | ((with_reducible refine Bt ?_ ?_);(next=>(first | (with_reducible rfl) | (with_reducible assumption) | (with_reducible omega)))));(conv=>whnf))));(try refine (show gz _ _ _ from ?_));(try dsimp only [List.set_cons_zero,List.set_cons_succ,vI,vJ,vK,B6,B7,pL,mz,mB,rW,rX,List.tail_cons,pM,pN,rY,vS,vT,yf])))
def pQ:Nat:=1
def cg:FN
 | [d],Q=>d.sort=true/\Q (.dat (.bl (lI d)))
 | _,_=>False
def jC:Nat:=1
def aZ:FN
 | [d],Q=>d.sort=true/\Q (.dat (.bl (iB d)))
 | _,_=>False
def gR:Nat:=2
def bf:FN
 | [d,.int m],Q=>Srt d/\(bt d).length<=1000000/\Q (.dat (.bl (cG d m)))
 | _,_=>False
def iF:Nat:=2
theorem vW {α:Type} (f:Int->α) (zs:List Int):(List.range zs.length).map (fun k=>f (zs.getD k 0))=zs.map f:=by
 refine List.ext_getElem (by rw [List.length_map,List.length_map,List.length_range]) fun i h1 h2=>?_
 rw [List.length_map,List.length_range] at h1
 rw [List.getElem_map,List.getElem_map,List.getElem_range,List.getD_eq_getElem?_getD,List.getElem?_eq_getElem h1];rfl
def prB (d:D) (m:Int):Bool:=cG d m && (bt d).all fun x=>decide (0<=toI x)
theorem qL {d:D}{m:Int} (c:cG d m=true):∃zs:List Int,fh d (zs.map .int)/\(zs.length:Int)=m:=by
 unfold cG at c
 rw [Bool.and_eq_true,Bool.and_eq_true] at c
 obtain ⟨c1,c2,c3⟩:=c
 cases d with
 | lst ds=>exact ⟨ds.map toI,.inl (congrArg _ (qA c3)),by rw [List.length_map];exact of_decide_eq_true c2⟩
 | tup ds=>exact ⟨ds.map toI,.inr (congrArg _ (qA c3)),by rw [List.length_map];exact of_decide_eq_true c2⟩
 | _=>cases c1
theorem tJ {d:D}{zs:List Int} (h:fh d (zs.map .int)):cG d zs.length=true:=by
 unfold cG
 rw [h.items,List.length_map,decide_eq_true rfl,Bool.true_and,Bool.and_eq_true]
 refine ⟨by rcases h with rfl | rfl <;> rfl,?_⟩
 rw [List.all_map];exact List.all_eq_true.mpr fun _ _=>rfl
theorem nM {d:D}{zs:List Int} (h:fh d (zs.map .int)):prB d zs.length=zs.all fun z=>decide (0<=z):=by
 unfold prB
 rw [tJ h,Bool.true_and,h.items,List.all_map];rfl
def a9:FN
 | [d,.int m],Q=>Srt d/\(bt d).length<=1000000/\Q (.dat (.bl (prB d m)))
 | _,_=>False
def iG:Nat:=1
theorem Cm {d:D} (h:lI d=true):fh d (bt d):=by
 cases d with
 | lst ds=>exact .inl rfl
 | tup ds=>exact .inr rfl
 | _=>cases h
theorem getElem?_itD {ds:List D}{k:Nat} (h:k < ds.length):ds[k]?=some (itD ds k):=by
 unfold itD;rw [List.getD_eq_getElem?_getD,List.getElem?_eq_getElem h];rfl
def ppB (d:D) (m:Int):Bool:=lI d && (decide ((bt d).length=2) && (bt d).all fun r=>prB r m)
def vX (n:Nat):List (Nat×Nat):=(List.range n).flatMap fun i=>((List.range n).filter fun j=>decide (i≠j)).map fun j=>(i,j)
theorem r8 {n:Nat}{p:Nat×Nat}:p∈vX n ↔ p.1 < n/\p.2 < n/\p.1≠p.2:=by
 unfold vX
 rw [List.mem_flatMap]
 constructor
 .rintro ⟨i,hi,h⟩
  obtain ⟨j,hj,rfl⟩:=List.mem_map.mp h
  rw [List.mem_filter] at hj
  exact ⟨List.mem_range.mp hi,List.mem_range.mp hj.1,of_decide_eq_true hj.2⟩
 .rintro ⟨h1,h2,h3⟩
  exact ⟨p.1,List.mem_range.mpr h1,List.mem_map.mpr ⟨p.2,List.mem_filter.mpr ⟨List.mem_range.mpr h2,decide_eq_true h3⟩,rfl⟩⟩
theorem se (n:Nat):∀L:List Nat,(L.flatMap fun i=>((List.range n).filter fun j=>decide (i≠j)).map fun j=>(i,j)).length<=L.length * n
 | []=>by simp
 | i::L=>by
  rw [List.flatMap_cons,List.length_append,List.length_map,List.length_cons,Nat.succ_mul]
  have h1:=se n L
  have h2:((List.range n).filter fun j=>decide (i≠j)).length<=n:=Nat.le_trans (List.length_filter_le ..) (by rw [List.length_range];exact Nat.le_refl _)
  omega
def nmb (d:D) (i:Nat):Int:=toI (itD (bt d) i)
theorem pR {d:D}{zs:List Int} (h:fh d (zs.map .int)) {i:Nat} (hi:i < zs.length):nmb d i=zs.getD i 0/\atI (zs.map D.int) (i:Int)=some (.int (nmb d i)):=by
 have e:itD (zs.map D.int) i=.int (zs.getD i 0):=qx (by rw [List.length_map];exact hi)
 have e2:nmb d i=zs.getD i 0:=by unfold nmb;rw [h.items,e];rfl
 refine ⟨e2,jx (j:=i) ?_ rfl⟩
 rw [getElem?_itD (by rw [List.length_map];exact hi),e,e2]
abbrev D8 (ws:List (List Nat)) (w:List Nat):D:=.tup (ws.map fun v=>.int (eC w v:Int))
def zW (e:D) (ws:List (List Nat)):Bool:=ppB e ws.length && (vX ws.length).all fun p=>decide ((eC (pw ws p.1) (pw ws p.2):Int)<=nmb (itD (bt e) 0) p.1 + nmb (itD (bt e) 1) p.2)
theorem zX {ws:List (List Nat)}{i:Nat} (h:i < ws.length):atI (ws.map (D8 ws)) (i:Int)=some (D8 ws (pw ws i)):=by
 refine jx (j:=i) ?_ rfl
 rw [List.getElem?_map,List.getElem?_eq_getElem h]
 unfold pw
 rw [List.getD_eq_getElem?_getD,List.getElem?_eq_getElem h];rfl
theorem yh {ws:List (List Nat)}{w:List Nat}{i:Nat} (h:i < ws.length):atI (ws.map fun v=>D.int (eC w v:Int)) (i:Int)=some (.int (eC w (pw ws i):Int)):=by
 refine jx (j:=i) ?_ rfl
 rw [List.getElem?_map,List.getElem?_eq_getElem h]
 unfold pw
 rw [List.getD_eq_getElem?_getD,List.getElem?_eq_getElem h];rfl
def Av (d:D):Int:=((bt d).map toI).sum
theorem jZ {d:D}{zs:List Int} (h:fh d (zs.map .int)):Av d=zs.sum:=by
 unfold Av
 rw [h.items,List.map_map]
 exact congrArg List.sum (List.map_id' _)
abbrev CI (ws:List (List Nat)) (w:List Nat):D:=.lst (ws.map fun v=>.int (eC w v:Int))
abbrev fm (ws:List (List Nat)):List D:=ws.map (CI ws)
theorem xB {ws:List (List Nat)}{i:Nat} (h:i < ws.length):atI (fm ws) (i:Int)=some (CI ws (pw ws i)):=by
 refine jx (j:=i) ?_ rfl
 rw [List.getElem?_map,List.getElem?_eq_getElem h]
 unfold pw
 rw [List.getD_eq_getElem?_getD,List.getElem?_eq_getElem h];rfl
theorem kS {L:List Int}{i:Nat} (h:i < L.length):atI (L.map D.int) (i:Int)=some (.int (L.getD i 0)):=by
 refine jx (j:=i) ?_ rfl
 rw [List.getElem?_map,List.getElem?_eq_getElem h,List.getD_eq_getElem?_getD,List.getElem?_eq_getElem h];rfl
def Prc (n:Nat) (zs:List Int):Prop:=zs.length=n/\∀z∈zs,0<=z
theorem Prc.app {zs:List Int}{k:Nat}{z:Int} (h:Prc k zs) (hz:0<=z):Prc (k + 1) (zs++[z]):=⟨by rw [List.length_append,h.1];rfl,fun x hx=>(List.mem_append.mp hx).elim (h.2 x) fun e=>by rw [List.mem_singleton.mp e];exact hz⟩
def zY (ws:List (List Nat)) (gs ts:List Int):Prop:=∀i,i < ws.length->(0<=gs.getD i 0/\0<=ts.getD i 0)/\∀j,j < ws.length->i≠j->(eC (pw ws i) (pw ws j):Int)<=gs.getD i 0 + ts.getD j 0
open Classical in
def wn (ws:List (List Nat)) (gs ts:List Int):D:=if zY ws gs ts then .int ((ws.map fun w=>(w.length:Int)).sum - gs.sum - ts.sum) else .non
theorem qM {ws:List (List Nat)}{gs ts:List Int} (h:¬ zY ws gs ts):wn ws gs ts=.non:=by unfold wn;rw [if_neg h]
theorem nN {ws:List (List Nat)}{gs ts:List Int} (h:zY ws gs ts):wn ws gs ts=.int ((ws.map fun w=>(w.length:Int)).sum - gs.sum - ts.sum):=by unfold wn;rw [if_pos h]
def D9 (ws:List (List Nat)):Prop:=ws.length<=40/\∀w∈ws,0 < w.length/\w.length<=60
theorem pS {α:Type}{l:List α}{k:Nat}{d:α} (h:k < l.length):l.getD k d∈l:=List.mem_of_getElem? (show l[k]?=some (l.getD k d) by rw [List.getD_eq_getElem?_getD,List.getElem?_eq_getElem h];rfl)
theorem yi {α:Type}{l:List α}{d x:α} (h:x∈l):∃i,i < l.length/\l.getD i d=x:=by
 obtain ⟨i,hi,e⟩:=List.mem_iff_getElem.mp h
 exact ⟨i,hi,by rw [List.getD_eq_getElem?_getD,List.getElem?_eq_getElem hi];exact e⟩
theorem xC {e g t:D}{gs ts:List Int}{ws:List (List Nat)} (he:fh e [g,t]) (hg:fh g (gs.map .int)) (ht:fh t (ts.map .int)) (gl:gs.length=ws.length) (tl:ts.length=ws.length):zW e ws=true ↔ zY ws gs ts:=by
 have r:lI e=true:=by rcases he with rfl | rfl <;> rfl
 have i0:itD (bt e) 0=g:=by rw [he.items];rfl
 have i1:itD (bt e) 1=t:=by rw [he.items];rfl
 have p1:=nM hg
 have p2:=nM ht
 rw [gl] at p1
 rw [tl] at p2
 unfold zW ppB
 rw [r,he.items]
 show (true && (decide ((2:Nat)=2) && (prB g ws.length && (prB t ws.length && true))) && _)=true ↔ _
 rw [p1,p2]
 simp only [Bool.true_and,Bool.and_true,decide_true,Bool.and_eq_true,List.all_eq_true,decide_eq_true_eq]
 show ((∀x∈gs,0<=x)/\∀x∈ts,0<=x)/\(∀x∈vX ws.length,(eC (pw ws x.1) (pw ws x.2):Int)<=nmb g x.1 + nmb t x.2) ↔ _
 constructor
 .rintro ⟨⟨h1,h2⟩,h3⟩ i hi
  refine ⟨⟨h1 _ (pS (by omega)),h2 _ (pS (by omega))⟩,fun j hj hij=>?_⟩
  have:=h3 (i,j) (r8.mpr ⟨hi,hj,hij⟩)
  rw [(pR hg (by omega)).1,(pR ht (by omega)).1] at this
  exact this
 .intro h
  refine ⟨⟨fun x hx=>?_,fun x hx=>?_⟩,fun p hp=>?_⟩
  .obtain ⟨i,hi,rfl⟩:=yi (d:=0) hx
   exact (h i (by omega)).1.1
  .obtain ⟨i,hi,rfl⟩:=yi (d:=0) hx
   exact (h i (by omega)).1.2
  .obtain ⟨h1,h2,h3⟩:=r8.mp hp
   rw [(pR hg (by omega)).1,(pR ht (by omega)).1]
   exact (h p.1 h1).2 p.2 h2 h3
theorem En {ps:List (List Nat)} (hl:ps.length<=40) (h:Pcs 60 ps):D9 (ak ps):=⟨Nat.le_trans (gD ps) hl,fun w hw=>⟨(gC h w hw).1,(gC h w hw).2.1⟩⟩
abbrev nO (ws:List (List Nat)):List D:=ws.map fun _=>D.non
abbrev kT (ws:List (List Nat)):D:=.tup [.tup (nO ws),.non]
theorem vY (ws:List (List Nat)):(nO ws).all D.fl=true:=by rw [List.all_map];exact List.all_eq_true.mpr fun _ _=>rfl
theorem sf (i:Int) (ws:List (List Nat)):inD (.int i) (nO ws)=false:=by
 unfold inD
 rw [List.any_map,List.any_eq_false]
 intro w _ z
 cases z
theorem si {ws:List (List Nat)}{k:Nat} (h:k < (nO ws).length):itD (nO ws) k=.non:=fU (by
 rw [List.length_map] at h
 rw [List.getElem?_map,List.getElem?_eq_getElem h];rfl)
abbrev END:List Nat:=[101,110,100]
abbrev PART:List Nat:=[112,97,114,116]
def tbD (g t:D) (ps:List (List Nat)):D:=if zW (.tup [g,t]) (ak ps)=true then .int (Av g + Av t) else .non
def im (d:D):Prop:=Srt d/\(bt d).length<=1000
def bv:FN
 | [.obj c ns fs],Q=>c="Family"/\ns=gK/\∃ps:List (List Nat),fs=gL ps/\(ak ps).length<=40/\Q (.dat (kT (ak ps)))
 | _,_=>False
def gj:Nat:=3
def aP:FN
 | [d],Q=>∃ws:List (List Nat),d=kT ws/\ws.length<=40/\Q (.own ((List.range ws.length).map nD))
 | _,_=>False
def gk:Nat:=2
def aI:FN
 | [d],Q=>∃ws:List (List Nat),d=kT ws/\ws.length<=40/\Q (.own ((List.range ws.length).map nD))
 | _,_=>False
def eY:Nat:=4
def aS:FN
 | [d,.int i],Q=>∃ws:List (List Nat),d=kT ws/\Q (.dat (.int i))
 | _,_=>False
def kU:Nat:=3
def bQ:FN
 | [d,.int i],Q=>∃ws:List (List Nat),d=kT ws/\∃m:Nat,i=(m:Int)/\ws.length<=40/\Q (.own (((List.range ws.length).filter fun j=>decide (m≠j)).map nD))
 | _,_=>False
def iH:Nat:=2
def bw:FN
 | [.obj c ns fs,d],Q=>c="Family"/\ns=gK/\∃ps:List (List Nat),fs=gL ps/\d=kT (ak ps)/\(ak ps).length<=40/\Q (.dat (.int 0))
 | _,_=>False
def gS:Nat:=5
def bg:FN
 | [.obj c ns fs,d,g,t],Q=>c="Family"/\ns=gK/\∃ps:List (List Nat),fs=gL ps/\d=kT (ak ps)/\((ak ps).length<=40/\im g/\im t)/\Q (.dat (tbD g t ps))
 | _,_=>False
def gm:Nat:=9
def a6:FN
 | [.obj c ns fs,d,y,z],Q=>(y.sort=true/\iB y=false)/\Q (.dat .non)
 | _,_=>False
def mD:Nat:=3
def Hd (x:D):Prop:=(∃l,x=.str l)\/(∃i,x=.int i)\/x=.non\/(∃es,x=.lst es/\pz (.lst es) (.str END)/\pz (.lst es) (.str PART))
def fP (d:D):Prop:=d.sort=true/\(bt d).length<=1000/\∀x y z,bt d=[x,y,z]->Hd x/\(x=.str END->im y/\im z)/\(x=.str PART->y.sort=true/\iB y=false)
def tgD (d:D) (ps:List (List Nat)):D:=match lI d,bt d with
 | true,[.str l,g,t]=>if l=END then tbD g t ps else .non
 | _,_=>.non
theorem vZ {d:D}{ps:List (List Nat)} (h:(bt d).length≠3):tgD d ps=.non:=by
 unfold tgD
 split
 .rename_i e;rw [e] at h;exact absurd rfl h
 .rfl
theorem zZ {d:D}{ps:List (List Nat)} (h:lI d=false):tgD d ps=.non:=by
 unfold tgD
 rw [h]
theorem kW {d y z:D}{l:List Nat}{ps:List (List Nat)} (r:fh d [.str l,y,z]):tgD d ps=if l=END then tbD y z ps else .non:=by
 unfold tgD
 rcases r with rfl | rfl <;> rfl
theorem qN {d x y z:D}{ps:List (List Nat)} (r:fh d [x,y,z]) (h:∀l,x≠.str l):tgD d ps=.non:=by
 unfold tgD
 rw [r.items]
 split
 .rename_i e;cases e;exact absurd rfl (h _)
 .rfl
def cE:FN
 | [.obj c ns fs,d,e],Q=>c="Family"/\ns=gK/\∃ps:List (List Nat),fs=gL ps/\d=kT (ak ps)/\((ak ps).length<=40/\fP e)/\Q (.dat (tgD e ps))
 | _,_=>False
def iI:Nat:=3
def cbD (d:D) (ps:List (List Nat)):D:=if 7 < (ak ps).length then .non else match tgD d ps with
 | .int n=>.int (qD ps - n)
 | _=>.non
theorem wb (d:D) (ps:List (List Nat)):tgD d ps=.non\/∃n,tgD d ps=.int n:=by
 unfold tgD
 split
 .split
  .unfold tbD
   split
   .exact .inr ⟨_,rfl⟩
   .exact .inl rfl
  .exact .inl rfl
 .exact .inl rfl
def aJ:FN
 | [.obj c ns fs,e],Q=>c="Family"/\ns=gK/\∃ps:List (List Nat),fs=gL ps/\((ak ps).length<=40/\fP e)/\Q (.dat (cbD e ps))
 | _,_=>False
def mE:Nat:=3
def cJ:FN
 | [d,.int a,.int b],Q=>d.sort=true/\Dv d<=1000000/\Q (.dat (.bl (xi d a b)))
 | _,_=>False
def gT:Nat:=2
def aT:FN
 | [.str a,.str b],Q=>Q (.dat (.int (fnd a b 0)))
 | _,_=>False
def yj:Nat:=3
def fJ:FN
 | [.str a,.str b],Q=>(0 < a.length/\a.length<=10000)/\(0 < b.length/\b.length<=10000)/\Q (.dat (.int (eC a b:Int)))
 | _,_=>False
def kX:Nat:=1
def bY:FN
 | [.tup ds],Q=>∃ws:List (List Nat),ds=ws.map .str/\(ws.length<=1000/\∀w∈ws,0 < w.length/\w.length<=10000)/\Q (.dat (B3 ws))
 | _,_=>False
def gn:Nat:=3
def a7:FN
 | [d],Q=>∃ws:List (List Nat),fh d (ws.map .str)/\(ws.length<=40/\Pcs 60 ws)/\Q (.dat .non)
 | _,_=>False
def fK:Nat:=2
def aD:FN
 | [.str a,.str b],Q=>Q (.dat (.bl (fO a b)))
 | _,_=>False
def mF:Nat:=4
def ci:FN
 | [.tup ds,.int i],Q=>∃ws:List (List Nat),ds=ws.map .str/\(ws.length<=1000/\∀w∈ws,w.length<=10000)/\(0<=i/\i < (ws.length:Int))/\Q (.dat (.bl (dh ws i.toNat)))
 | _,_=>False
def kY:Nat:=4
def bR:FN
 | [.tup ds,.tup ks,.int i],Q=>∃ws:List (List Nat),ds=ws.map .str/\ks=(aR ws).map nD/\(ws.length<=1000/\∀w∈ws,w.length<=60)/\(0<=i/\i < (ws.length:Int))/\Q (.dat (ee ws i.toNat))
 | _,_=>False
def gU:Nat:=3
def bh:FR
 | .ins "Family" [] [],[d],Q=>∃ws:List (List Nat),fh d (ws.map .str)/\(ws.length<=40/\Pcs 60 ws)/\Q (.dat .non) (.ins "Family" gK (gL ws))
 | _,_,_=>False
def gW:Nat:=1
def aM:FN
 | [.obj c ns fs],Q=>c="Family"/\ns=gK/\∃ws:List (List Nat),fs=gL ws/\Q (.dat (.int ((ak ws).length:Int)))
 | _,_=>False
def jD:Nat:=3
def Dk (zs:List Int):Prop:=∀x∈zs,0<=x/\x < 1000
def bM:FN
 | [.int c,.int k],Q=>(0<=k/\k<=100000)/\∀z:Int,0<=z->Q (.dat (.int z))
 | _,_=>False
def kZ:Nat:=7
def bZ:FN
 | [.scr ns,.int mo],Q=>(ns.length<=64/\0<=mo/\mo<=2000)/\∀zs:List Int,Dk zs->zs.length=mo.toNat->Q (.own (zs.map .int))
 | _,_=>False
def k6:Nat:=1
def ax:FR
 | .own ds,[],Q=>∃zs:List Int,ds=zs.map .int/\(Dk zs/\0 < zs.length/\zs.length<=100000)/\∀(z:Int) (ys:List Int),0<=z->z < 1000->Dk ys->ys.length + 1=zs.length->Q (.dat (.int z)) (.own (ys.map .int))
 | _,_,_=>False
def jE:Nat:=5
def bN:FR
 | .own ds,[.lst es,.int n],Q=>∃zs:List Int,ds=zs.map .int/\∃ls:List Nat,es=ls.map (fun c=>.str [c])/\(0 < ls.length/\ls.length<=26/\Lts ls)/\(Dk zs/\zs.length<=100000)/\(0<=n/\n<=(zs.length:Int))/\∀(w:List Nat) (ys:List Int),w.length=n.toNat->Lts w->(∀c∈w,c∈ls)->Dk ys->ys.length + n.toNat=zs.length->Q (.dat (.str w)) (.own (ys.map .int))
 | _,_,_=>False
def iJ:Nat:=12
def tK (n f:Nat):List Nat:=(List.range n).map fun k=>97 + (f + 7 * k) % 26
theorem wc (n f:Nat):Lts (tK n f):=fun c hc=>by
 obtain ⟨k,_,rfl⟩:=List.mem_map.mp hc
 have:=Nat.mod_lt (f + 7 * k) (show 0 < 26 by decide)
 exact ⟨by omega,by omega⟩
theorem yk {j:Nat} (h:j < 26):atI [97,98,99,100,101,102,103,104,105,106,107,108,109,110,111,112,113,114,115,116,117,118,119,120,121,122] (j:Int)=some (97 + j):=by
 have:∀j:Fin 26,atI [97,98,99,100,101,102,103,104,105,106,107,108,109,110,111,112,113,114,115,116,117,118,119,120,121,122] (j.1:Int)=some (97 + j.1):=by decide +kernel
 exact this ⟨j,h⟩
theorem sj {ls:List Nat}{j:Nat} (h:j < ls.length):atI (ls.map fun c=>D.str [c]) (j:Int)=some (.str [ls.getD j 0]) :=
 jx (j:=j) (by rw [List.getElem?_map,List.getElem?_eq_getElem h,List.getD_eq_getElem?_getD,List.getElem?_eq_getElem h];rfl) rfl
theorem yl {ls:List Nat} (hL:Lts ls) {j:Nat} (h:j < ls.length):Lts [ls.getD j 0]:=by
 rw [List.getD_eq_getElem?_getD,List.getElem?_eq_getElem h]
 exact Lts.one (hL _ (List.getElem_mem h))
def bK:FR
 | .own ds,[.int mo],Q=>∃zs:List Int,ds=zs.map .int/\(Dk zs/\zs.length<=10000)/\(0<=mo/\mo<=39/\16 + 7 * mo<=(zs.length:Int))/\∀(ps:List (List Nat)) (ys:List Int),(ps.length:Int)<=mo->Pcs 60 ps->Dk ys->(zs.length:Int)<=ys.length + 16 + 7 * mo->ys.length<=zs.length->Q (.dat (.lst (ps.map .str))) (.own (ys.map .int))
 | _,_,_=>False
def jF:Nat:=5
theorem z0 {ps:List (List Nat)}{k:Nat}:dh ps k=(decide ((ps.filter fun o=>decide ((pw ps k).length < o.length) && fO (pw ps k) o)=[]) && !decide (pw ps k∈ps.take k)):=by
 unfold dh
 rw [Bool.and_comm]
 congr 1
 cases hf:(ps.filter fun o=>decide ((pw ps k).length < o.length) && fO (pw ps k) o) with
 | nil =>
  rw [decide_eq_true rfl,Bool.not_eq_true',List.any_eq_false]
  intro o ho z
  obtain ⟨m1,m2⟩:=List.mem_filter.mp ho
  have:o∈ps.filter fun o=>decide ((pw ps k).length < o.length) && fO (pw ps k) o:=List.mem_filter.mpr ⟨m1,by rw [m2];exact z⟩
  rw [hf] at this;cases this
 | cons o r =>
  rw [decide_eq_false (fun z=>nomatch z)]
  have:o∈ps.filter fun o=>decide ((pw ps k).length < o.length) && fO (pw ps k) o:=by rw [hf];exact List.mem_cons_self ..
  obtain ⟨m1,m2⟩:=List.mem_filter.mp this
  rw [Bool.and_eq_true] at m2
  rw [Bool.not_eq_false',List.any_eq_true]
  exact ⟨o,List.mem_filter.mpr ⟨m1,m2.1⟩,m2.2⟩
theorem qO {ws:List (List Nat)} (h:∀w∈ws,Lts w):pz (.lst (ws.map .str)) (.lst []):=pz.of (Sh.lstS h) (Sh.lstI [])
theorem pT (ws:List (List Nat)):deq (.lst (ws.map .str)) (.lst [])=decide (ws=[]):=by
 show PyData.eqv (.list (D.pys (ws.map .str))) (.list [])=_
 rw [qz]
 cases ws <;> simp [PyData.eqv,PyData.eqvAll]
def bO:FN
 | [.lst ds],Q=>∃ps:List (List Nat),ds=ps.map .str/\(ps.length<=40/\∀w∈ps,w.length<=60/\Lts w)/\Q (.dat (.lst ((ak ps).map .str)))
 | _,_=>False
def mG:Nat:=3
def bU:FN
 | [.str a,.str b],Q=>a.length<=10000/\(0 < b.length/\b.length<=10000)/\Q (.dat (.int (eC a b:Int)))
 | _,_=>False
def k7:Nat:=1
def b7:FN
 | [.lst ds],Q=>∃ws:List (List Nat),ds=ws.map .str/\D9 ws/\Q (.dat (.lst (fm ws)))
 | _,_=>False
def iK:Nat:=6
theorem qP (L:List Nat):deq (.lst (L.map nD)) (.lst [])=decide (L=[]):=by
 rw [show L.map nD=(L.map fun (k:Nat)=>(k:Int)).map D.int by rw [List.map_map];rfl,show (D.lst [])=.lst (([]:List Int).map .int) from rfl,xu]
 exact decide_eq_decide.mpr List.map_eq_nil_iff
theorem tL (L:List Nat):pz (.lst (L.map nD)) (.lst []):=by
 rw [show L.map nD=(L.map fun (k:Nat)=>(k:Int)).map D.int by rw [List.map_map];rfl]
 exact pz.of (Sh.lstI _) (Sh.lstI [])
def bx:FN
 | [.lst ls,.lst gd,.lst td],Q=>∃ws:List (List Nat),ls=fm ws/\∃gs:List Int,gd=gs.map .int/\∃ts:List Int,td=ts.map .int/\(ws.length<=40/\Prc ws.length gs/\Prc ws.length ts)/\∀b:Bool,(b=true ↔ zY ws gs ts)->Q (.dat (.bl b))
 | _,_=>False
def iL:Nat:=8
theorem Aa (ws:List (List Nat)):Fl 2 (.lst (fm ws)):=Fl.lst fun d hd=>by
 obtain ⟨w,_,rfl⟩:=List.mem_map.mp hd
 refine Fl.lst fun e he=>?_
 obtain ⟨u,_,rfl⟩:=List.mem_map.mp he
 exact Fl.int _
theorem k9 (ws:List (List Nat)):pz (.lst (fm ws)) (.lst []):=pz.of ((Aa ws).sh (by decide)) (Sh.lstI [])
theorem jG (ws:List (List Nat)):deq (.lst (fm ws)) (.lst [])=decide (ws=[]):=by
 cases ws with
 | nil=>rfl
 | cons w r=>rw [decide_eq_false (fun z=>nomatch z)];rfl
theorem Prc.set {n:Nat}{zs:List Int}{i:Nat}{z:Int} (h:Prc n zs) (hz:0<=z):Prc n (zs.set i z):=⟨by rw [List.length_set];exact h.1,fun x hx=>(List.mem_or_eq_of_mem_set hx).elim (h.2 x) fun e=>by rw [e];exact hz⟩
theorem Ab (z:Int):∃r:Int,atI [D.int 0,D.int 0,D.int 0,D.int 1,D.int 100000000000000000000] (z % 5)=some (.int r)/\0<=r:=by
 have h:z % 5=0\/z % 5=1\/z % 5=2\/z % 5=3\/z % 5=4:=by omega
 rcases h with h | h | h | h | h <;> rw [h]
 .exact ⟨0,rfl,by decide⟩
 .exact ⟨0,rfl,by decide⟩
 .exact ⟨0,rfl,by decide⟩
 .exact ⟨1,rfl,by decide⟩
 .exact ⟨_,rfl,by decide⟩
def bL:FR
 | .own ds,[.lst ls],Q=>∃zs:List Int,ds=zs.map .int/\∃ws:List (List Nat),ls=fm ws/\(ws.length<=40/\Dk zs/\2 * ws.length + 4<=zs.length/\zs.length<=10000)/\∀(gs ts ys:List Int),Prc ws.length gs->Prc ws.length ts->Dk ys->zs.length<=ys.length + 2 * ws.length + 4->ys.length<=zs.length->Q (.dat (.tup [.lst (gs.map .int),.lst (ts.map .int)])) (.own (ys.map .int))
 | _,_,_=>False
def la:Nat:=9
def Bad (n:Nat) (d:D):Prop:=∀ps:List (List Nat),(ak ps).length=n->tgD d ps=.non
theorem Ac {d x:D}{m:Int} (h:x∈bt d) (hx:iB x=false\/toI x < 0):prB d m=false:=by
 unfold prB cG
 rcases hx with hx | hx
 .have:(bt d).all iB=false:=by
   rw [List.all_eq_false];exact ⟨x,h,by rw [hx];decide⟩
  rw [this,Bool.and_false,Bool.and_false,Bool.false_and]
 .have:((bt d).all fun x=>decide (0<=toI x))=false:=by
   rw [List.all_eq_false];exact ⟨x,h,by rw [decide_eq_false (by omega)];decide⟩
  rw [this,Bool.and_false]
theorem wd {d:D}{m:Int} (h:((bt d).length:Int)≠m):prB d m=false:=by
 unfold prB cG
 rw [decide_eq_false h,Bool.false_and,Bool.and_false,Bool.false_and]
theorem qQ {d:D}{m:Int} (h:lI d=false):prB d m=false:=by
 unfold prB cG
 rw [h,Bool.false_and,Bool.false_and]
theorem xD (g t:D) (ws:List (List Nat)):zW (.tup [g,t]) ws=(prB g ws.length && (prB t ws.length && (vX ws.length).all fun p=>decide ((eC (pw ws p.1) (pw ws p.2):Int)<=nmb g p.1 + nmb t p.2))):=by
 unfold zW ppB
 show (true && (decide ((2:Nat)=2) && (prB g ws.length && (prB t ws.length && true))) && _)=_
 rw [decide_eq_true rfl,Bool.true_and,Bool.true_and,Bool.and_true,Bool.and_assoc];rfl
theorem Ad {n:Nat}{g t:D} (h:prB g n=false\/prB t n=false):Bad n (.tup [.str END,g,t]):=fun ps hn=>by
 rw [kW (fh.tup _),if_pos rfl]
 unfold tbD
 rw [xD,hn]
 rcases h with h | h <;> rw [h]
 .rw [Bool.false_and,if_neg (by decide)]
 .rw [Bool.false_and,Bool.and_false,if_neg (by decide)]
theorem qR {g t:D} (hg:im g) (ht:im t):fP (.tup [.str END,g,t]):=by
 refine ⟨rfl,by show 3<=1000;decide,fun x y z e=>?_⟩
 have e:[D.str END,g,t]=[x,y,z]:=e
 cases e
 exact ⟨.inl ⟨_,rfl⟩,fun _=>⟨hg,ht⟩,fun e=>by cases e⟩
theorem pU {n:Nat}{d:D} (s:d.sort=true) (h:(bt d).length≠3) (h':(bt d).length<=1000):fP d/\Bad n d :=
 ⟨⟨s,h',fun x y z e=>by rw [e] at h;exact absurd rfl h⟩,fun _ _=>vZ h⟩
theorem iM {xs:List D} (h:∀x∈xs,x.sort=true) (hl:xs.length<=1000):im (.lst xs):=⟨⟨rfl,h⟩,hl⟩
theorem iN (zs:List Int):∀x∈zs.map D.int,x.sort=true:=fun x hx=>by
 obtain ⟨i,_,rfl⟩:=List.mem_map.mp hx;rfl
theorem Cn (z:Int):∃v:D,atI [D.int (-1),D.bl true,D.non,D.str [49],D.lst [D.int 1]] (z % 5)=some v/\v.sort=true/\(iB v=false\/toI v < 0):=by
 have h:z % 5=0\/z % 5=1\/z % 5=2\/z % 5=3\/z % 5=4:=by omega
 rcases h with h | h | h | h | h <;> rw [h]
 .exact ⟨_,rfl,rfl,.inr (by decide)⟩
 .exact ⟨_,rfl,rfl,.inl rfl⟩
 .exact ⟨_,rfl,rfl,.inl rfl⟩
 .exact ⟨_,rfl,rfl,.inl rfl⟩
 .exact ⟨_,rfl,rfl,.inl rfl⟩
theorem wf {n a:Nat}{zs:List Int}{v:D} (hl:zs.length=n) (hn:n<=40) (ha:a < n) (s:v.sort=true) (hv:iB v=false\/toI v < 0):im (.lst ((zs.map D.int).set a v))/\prB (.lst ((zs.map D.int).set a v)) n=false:=by
 refine ⟨iM (fun x hx=>(List.mem_or_eq_of_mem_set hx).elim (iN zs x) fun e=>by rw [e];exact s) (by rw [List.length_set,List.length_map];omega),Ac (x:=v) ?_ hv⟩
 exact List.mem_set (by rw [List.length_map];omega) v
theorem dR {zs:List Int} (h:zs.length<=40):im (.lst (zs.map .int)):=iM (iN zs) (by rw [List.length_map];omega)
theorem ym {n:Nat}{zs:List Int} (hl:zs.length=n) (hn:n<=40) (h0:0 < n) (w:List Nat) (z:Int):∃v:D,atI [D.lst (zs.map .int++[.int 9]),D.lst (e6 (zs.map .int) (some 1) none),D.non,D.dic [] [],D.str w] (z % 5)=some v/\im v/\prB v n=false:=by
 have h:z % 5=0\/z % 5=1\/z % 5=2\/z % 5=3\/z % 5=4:=by omega
 have hc:e6 (zs.map D.int) (some 1) none=(zs.drop 1).map D.int:=by rw [List.map_drop];exact oQ _ 1
 rw [hc]
 rcases h with h | h | h | h | h <;> rw [h]
 .refine ⟨_,rfl,?_,wd ?_⟩
  .rw [show zs.map D.int++[D.int 9]=(zs++[9]).map D.int by rw [List.map_append];rfl]
   exact iM (iN _) (by rw [List.length_map,List.length_append];show _ + 1<=_;omega)
  .show ((zs.map D.int++[D.int 9]).length:Int)≠n
   rw [List.length_append,List.length_map]
   show ((zs.length + 1:Nat):Int)≠n
   omega
 .refine ⟨_,rfl,iM (iN _) (by rw [List.length_map,List.length_drop];omega),wd ?_⟩
  show (((zs.drop 1).map D.int).length:Int)≠n
  rw [List.length_map,List.length_drop]
  omega
 .exact ⟨_,rfl,⟨⟨rfl,fun x hx=>nomatch hx⟩,Nat.zero_le _⟩,qQ rfl⟩
 .exact ⟨_,rfl,⟨⟨rfl,fun x hx=>nomatch hx⟩,Nat.zero_le _⟩,qQ rfl⟩
 .exact ⟨_,rfl,⟨⟨rfl,fun x hx=>nomatch hx⟩,Nat.zero_le _⟩,qQ rfl⟩
def Wo (w:D):Prop:=w.sort=true/\(bt w).length<=1
theorem Ae (z:Int):∃v:D,atI [D.str [69,110,100],D.str [],D.non,D.int 0,D.lst [D.str END],D.str PART] (z % 6)=some v/\Wo v:=by
 have h:z % 6=0\/z % 6=1\/z % 6=2\/z % 6=3\/z % 6=4\/z % 6=5:=by omega
 rcases h with h | h | h | h | h | h <;> rw [h]
 all_goals exact ⟨_,rfl,rfl,by decide⟩
theorem xE {w:D} (hw:Wo w) (z:Int):∃v:D,atI [w,D.str END] (z % 2)=some v/\Wo v:=by
 have h:z % 2=0\/z % 2=1:=by omega
 rcases h with h | h <;> rw [h]
 .exact ⟨_,rfl,hw⟩
 .exact ⟨_,rfl,rfl,by decide⟩
theorem xF {w r0 r1:D}{n:Nat} (hw:Wo w) (z:Int):∃v:D,atI [D.lst [w,r0],D.lst [w,r0,r1,D.lst []],D.tup [w],w] (z % 4)=some v/\fP v/\Bad n v:=by
 have h:z % 4=0\/z % 4=1\/z % 4=2\/z % 4=3:=by omega
 rcases h with h | h | h | h <;> rw [h]
 .exact ⟨_,rfl,pU rfl (by show 2≠3;decide) (by show 2<=1000;decide)⟩
 .exact ⟨_,rfl,pU rfl (by show 4≠3;decide) (by show 4<=1000;decide)⟩
 .exact ⟨_,rfl,pU rfl (by show 1≠3;decide) (by show 1<=1000;decide)⟩
 .exact ⟨_,rfl,pU hw.1 (by have:=hw.2;omega) (by have:=hw.2;omega)⟩
theorem Af (a b c:Int):a - (b + c)=a - b - c:=by omega
theorem Ea {d g t:D}{gs ts:List Int}{ps:List (List Nat)} (hd:fh d [.str END,g,t]) (hg:fh g (gs.map .int)) (ht:fh t (ts.map .int)) (gl:gs.length=(ak ps).length) (tl:ts.length=(ak ps).length) (hn:(ak ps).length<=7):cbD d ps=wn (ak ps) gs ts:=by
 unfold cbD
 rw [if_neg (by omega),kW hd,if_pos rfl]
 have h:=xC (fh.tup [g,t]) hg ht gl tl
 unfold tbD
 by_cases c:zY (ak ps) gs ts
 .rw [if_pos (h.mpr c),nN c,jZ hg,jZ ht]
  show D.int (qD ps - (gs.sum + ts.sum))=_
  rw [Af];rfl
 .rw [if_neg (fun z=>c (h.mp z)),qM c]
theorem Co {n:Nat}{d:D}{ps:List (List Nat)} (h:Bad n d) (hn:(ak ps).length=n):cbD d ps=.non:=by
 unfold cbD
 rw [h ps hn]
 split <;> rfl
theorem pV {d:D}{ps:List (List Nat)} (h:tgD d ps=.non):cbD d ps=.non:=by
 unfold cbD
 rw [h]
 split <;> rfl
theorem xG {d:D}{ps:List (List Nat)} (h:7 < (ak ps).length):cbD d ps=.non:=by unfold cbD;rw [if_pos h]
theorem pW {zs:List Int} (h:zs.length<=40):im (.tup (zs.map .int)):=⟨⟨rfl,iN zs⟩,by show (zs.map D.int).length<=1000;rw [List.length_map];omega⟩
theorem Ag {g t:D} (hg:im g) (ht:im t):fP (.lst [.str END,g,t]):=by
 refine ⟨rfl,by show 3<=1000;decide,fun x y z e=>?_⟩
 have e:[D.str END,g,t]=[x,y,z]:=e
 cases e
 exact ⟨.inl ⟨_,rfl⟩,fun _=>⟨hg,ht⟩,fun e=>by cases e⟩
theorem xH {gs ts:List Int}{ps:List (List Nat)} (gl:gs.length=(ak ps).length) (tl:ts.length=(ak ps).length) (hn:(ak ps).length<=7) (k:Int):∃d:D,atI [D.tup [.str END,.lst (gs.map .int),.lst (ts.map .int)],D.lst [.str END,.tup (gs.map .int),.tup (ts.map .int)]] (k % 2)=some d/\fP d/\cbD d ps=wn (ak ps) gs ts:=by
 have h:k % 2=0\/k % 2=1:=by omega
 rcases h with h | h <;> rw [h]
 .exact ⟨_,rfl,qR (dR (by omega)) (dR (by omega)),Ea (.inr rfl) (.inl rfl) (.inl rfl) gl tl hn⟩
 .exact ⟨_,rfl,Ag (pW (by omega)) (pW (by omega)),Ea (.inl rfl) (.inr rfl) (.inr rfl) gl tl hn⟩
theorem wg {gs ts:List Int}{ps:List (List Nat)}{w:D} (h:w=.str [69,110,100]\/w=.int 0\/w=.str PART):fP (.lst [w,.lst (gs.map .int),.lst (ts.map .int)])/\cbD (.lst [w,.lst (gs.map .int),.lst (ts.map .int)]) ps=.non:=by
 have ok:Hd w->w≠.str END->fP (.lst [w,.lst (gs.map .int),.lst (ts.map .int)]):=fun hw hne=>by
  refine ⟨rfl,by show 3<=1000;decide,fun x y z e=>?_⟩
  have e:[w,D.lst (gs.map .int),D.lst (ts.map .int)]=[x,y,z]:=e
  cases e
  exact ⟨hw,fun e=>absurd e hne,fun e=>⟨rfl,rfl⟩⟩
 rcases h with rfl | rfl | rfl
 .exact ⟨ok (.inl ⟨_,rfl⟩) (fun e=>by injection e with e;revert e;decide),pV (by rw [kW (fh.lst _),if_neg (by decide)])⟩
 .exact ⟨ok (.inr (.inl ⟨_,rfl⟩)) (fun e=>by cases e),pV (qN (fh.lst _) nofun)⟩
 .exact ⟨ok (.inl ⟨_,rfl⟩) (fun e=>by injection e with e;revert e;decide),pV (by rw [kW (fh.lst _),if_neg (by decide)])⟩
theorem wj {ps:List (List Nat)}{d:D} (h:d∈[D.non,D.int 0,D.str END,D.lst [],D.dic [] [],D.lst [D.str END],D.lst [D.lst [],D.lst [],D.lst []]]):fP d/\cbD d ps=.non:=by
 have no:d.sort=true->(bt d).length≠3->(bt d).length<=1000->fP d/\cbD d ps=.non:=fun a b c=>⟨(pU (n:=0) a b c).1,pV (vZ b)⟩
 simp only [List.mem_cons,List.not_mem_nil,or_false] at h
 rcases h with rfl | rfl | rfl | rfl | rfl | rfl | rfl
 .exact no rfl (by decide) (by decide)
 .exact no rfl (by decide) (by decide)
 .exact no rfl (by decide) (by decide)
 .exact no rfl (by decide) (by decide)
 .exact no rfl (by decide) (by decide)
 .exact no rfl (by show 1≠3;decide) (by show 1<=1000;decide)
 .refine ⟨⟨rfl,by show 3<=1000;decide,fun x y z e=>?_⟩,pV (qN (fh.lst _) nofun)⟩
  have e:[D.lst [],D.lst [],D.lst []]=[x,y,z]:=e
  cases e
  exact ⟨.inr (.inr (.inr ⟨[],rfl,⟨rfl,rfl,rfl,by decide +kernel⟩,⟨rfl,rfl,rfl,by decide +kernel⟩⟩)),fun e=>(by cases e),fun e=>(by cases e)⟩
def gp (n:Nat):List (List Nat):=(List.range 8).map fun k=>[97 + (7 * k + n) % 26]
theorem Cq {n:Nat} (h:n < 8):(ak (gp n)).length=8:=by
 have:∀n:Fin 8,(ak (gp n.1)).length=8:=by decide +kernel
 exact this ⟨n,h⟩
theorem Cr (n:Nat):Pcs 60 (gp n):=fun w hw=>by
 obtain ⟨k,_,rfl⟩:=List.mem_map.mp hw
 have:=Nat.mod_lt (7 * k + n) (show 0 < 26 by decide)
 exact ⟨by show 0 < 1;decide,by show 1<=60;decide,Lts.one ⟨by omega,by omega⟩⟩
theorem wk (ws:List (List Nat)) (gs ts:List Int):wn ws gs ts=.non\/∃n,wn ws gs ts=.int n:=by
 by_cases h:zY ws gs ts
 .exact .inr ⟨_,nN h⟩
 .exact .inl (qM h)
def cC:FR
 | .own ds,[.lst gd,.lst td],Q=>∃zs:List Int,ds=zs.map .int/\∃gs:List Int,gd=gs.map .int/\∃ts:List Int,td=ts.map .int/\∃n:Nat,gs.length=n/\(ts.length=n/\0 < n/\n<=40)/\(Dk zs/\5<=zs.length/\zs.length<=10000)/\∀(d:D) (ys:List Int),fP d->Bad n d->Dk ys->zs.length<=ys.length + 5->ys.length<=zs.length->Q (.dat d) (.own (ys.map .int))
 | _,_,_=>False
def yn:Nat:=15
abbrev sk:FN:=DX
def iO:PTS:=(bF (DU .list .tuple (pSl 0)))
theorem tM (d:D) (Q:PV->Prop) (h:cg ([d]) Q):cU iO pQ ([d]) Q:=by
 show iO _ [some (.dat (d))]
 obtain ⟨hd,q⟩:=h
 cases d <;> first | (cases hd;done) | (walk_at "r";exact q)
theorem wl:∀ds Q,cg ds Q->cU iO pQ ds Q:=fun ds Q h=>by
 unfold cg at h
 split at h
 .exact tM _ _ h
 .exact h.elim
def eG:PTS:=(bF (sW (CG .int (pSl 0)) (zc (CG .bool (pSl 0)))))
theorem nP (d:D) (Q:PV->Prop) (h:aZ ([d]) Q):cU eG jC ([d]) Q:=by
 show eG _ [some (.dat (d))]
 obtain ⟨hd,q⟩:=h
 cases d <;> first | (cases hd;done) | (walk_at "r";exact q)
theorem pX:∀ds Q,aZ ds Q->cU eG jC ds Q:=fun ds Q h=>by
 unfold aZ at h
 split at h
 .exact nP _ _ h
 .exact h.elim
def dk:PTS:=(bF (sW (bo cg (af (pFz (a5 0)) am)) (sW (pOp t4 (pFz (pCB ic (af (pSl 0) am))) (pSl 1)) (pCB BN (af (pFz (cW [none] (dg (a5 0)) (aq 0) jY (bo aZ (af (pFz (a5 0)) am)))) am)))))
theorem lb (d:D) (m:Int) (Q:PV->Prop) (h:bf ([d,.int m]) Q):cU dk gR ([d,.int m]) Q:=by
 show dk _ [some (.dat (d)),some (.dat (.int m))]
 obtain ⟨⟨hd,hs⟩,hl,q⟩:=h
 have body:∀ds:List D,bt d=ds->lI d=true->(ds.length:Int)=m->cG d m=(ds.map iB).all id:=fun ds e1 e2 e3=>by
  unfold cG
  rw [e1,e2,decide_eq_true e3,Bool.true_and,Bool.true_and,List.all_map];rfl
 have no:∀ds:List D,bt d=ds->¬ (ds.length:Int)=m->cG d m=false:=fun ds e1 e3=>by
  unfold cG
  rw [e1,decide_eq_false e3,Bool.false_and,Bool.and_false]
 cases d with
 | lst ds =>
  have hl:ds.length<=1000000:=hl
  walk_at "r"
  refine dF (fun c=>?_) (fun c=>?_)
  .walk_at "r"
   refine t3 (fun τ=>∃v,τ=[v]) (fun k=>.bl (iB (itD ds k))) ?_ ?_ ?_
   .exact ⟨_,rfl⟩
   .rintro k τ _ hk rfl ⟨v,rfl⟩ K1 k1
    walk_at "r"
    exact ⟨hs _ (qB hk),k1 _ ⟨_,rfl⟩⟩
   .rintro τ ⟨v,rfl⟩
    walk_at "r"
    refine ⟨(List.range ds.length).map fun k=>iB (itD ds k),by rw [List.map_map];rfl,?_⟩
    rw [body ds rfl rfl c] at q
    rw [pG]
    exact q
  .walk_at "r"
   rw [no ds rfl c] at q
   exact q
 | tup ds =>
  have hl:ds.length<=1000000:=hl
  walk_at "r"
  refine dF (fun c=>?_) (fun c=>?_)
  .walk_at "r"
   refine t3 (fun τ=>∃v,τ=[v]) (fun k=>.bl (iB (itD ds k))) ?_ ?_ ?_
   .exact ⟨_,rfl⟩
   .rintro k τ _ hk rfl ⟨v,rfl⟩ K1 k1
    walk_at "r"
    exact ⟨hs _ (qB hk),k1 _ ⟨_,rfl⟩⟩
   .rintro τ ⟨v,rfl⟩
    walk_at "r"
    refine ⟨(List.range ds.length).map fun k=>iB (itD ds k),by rw [List.map_map];rfl,?_⟩
    rw [body ds rfl rfl c] at q
    rw [pG]
    exact q
  .walk_at "r"
   rw [no ds rfl c] at q
   exact q
 | str l=>walk_at "r";exact q
 | non=>walk_at "r";exact q
 | bl b=>walk_at "r";exact q
 | int i=>walk_at "r";exact q
 | ty n=>cases hd
 | scr ns=>cases hd
 | dic ks ds=>walk_at "r";exact q
 | obj c ns ds=>cases hd
 | exc c ns ds=>cases hd
theorem lO:∀ds Q,bf ds Q->cU dk gR ds Q:=fun ds Q h=>by
 unfold bf at h
 split at h
 .exact lb _ _ _ h
 .exact h.elim
def dJ:PTS:=(bF (sW (bo bf (af (pFz (a5 0)) (af (pFz (a5 1)) am))) (pCB BN (af (pFz (cW [none] (dg (a5 0)) (aq 0) jY (pOp fGe (pSl 0) (pFz (pC (.int 0)))))) am))))
theorem lP (d:D) (m:Int) (Q:PV->Prop) (h:a9 ([d,.int m]) Q):cU dJ iF ([d,.int m]) Q:=by
 show dJ _ [some (.dat (d)),some (.dat (.int m))]
 obtain ⟨hd,hl,q⟩:=h
 walk_at "r"
 refine tW (fun c=>?_) (fun c=>?_)
 .have c:cG d m=true:=c
  obtain ⟨zs,hz,rfl⟩:=qL c
  rw [nM hz] at q
  have hzl:(zs.map D.int).length=zs.length:=List.length_map _
  rw [hz.items,hzl] at hl
  rcases hz with rfl | rfl <;> (
   walk_at "r"
   refine t3 (fun τ=>∃v,τ=[v]) (fun k=>.bl (decide (0<=zs.getD k 0))) ?_ ?_ ?_
   .exact ⟨_,rfl⟩
   .rintro k τ d hk ed ⟨v,rfl⟩ K1 k1
    rw [qx hk] at ed
    subst ed
    walk_at "r"
    exact k1 _ ⟨_,rfl⟩
   .rintro τ ⟨v,rfl⟩
    walk_at "r"
    refine ⟨(List.range (zs.map D.int).length).map fun k=>decide (0<=zs.getD k 0),by rw [List.map_map];rfl,?_⟩
    rw [hzl,vW (fun z=>decide (0<=z)) zs,List.all_map]
    exact q)
 .have c:cG d m=false:=c
  walk_at "r"
  rw [show prB d m=false by unfold prB;rw [c];rfl] at q
  exact q
theorem nQ:∀ds Q,a9 ds Q->cU dJ iF ds Q:=fun ds Q h=>by
 unfold a9 at h
 split at h
 .exact lP _ _ _ h
 .exact h.elim
def dL:PTS:=(bF (xS (af (pFz (pCB fV (af (pFz (cW [none] (dg (qw "Family" ["pieces","kept","words","left","laps","total"] 2 (pSl 0))) (aq 0) jY (pC .non))) am))) (af (pFz (pC .non)) am))))
theorem lQ (c:Str) (ns:List Str) (fs:List D) (Q:PV->Prop) (h:bv ([.obj c ns fs]) Q):cU dL iG ([.obj c ns fs]) Q:=by
 show dL _ [some (.dat (.obj c ns fs))]
 obtain ⟨rfl,rfl,ps,rfl,hn,q⟩:=h
 have hwm:((ak ps).map D.str).length=(ak ps).length:=List.length_map _
 walk_at "r"
 refine cm1 (e:=D.str) (xs:=ak ps) (fun w=>.non) (fun w hw v K1 k1=>?_) (fun v=>?_)
 .walk_at "r"
  exact k1 _
 .have hl:((ak ps).map fun _=>D.non).length<=1000000:=by rw [List.length_map];omega
  walk_at "r"
  exact q
theorem nR:∀ds Q,bv ds Q->cU dL iG ds Q:=fun ds Q h=>by
 unfold bv at h
 split at h
 .exact lQ _ _ _ _ h
 .exact h.elim
def cY:PTS:=(aL (ba (a5 0) (jM 2 (df (aq 1) (df (aq 2) lE)))) (bF (cW [none,none,some 2] (kA (af (pFz (a5 1)) am)) (jM 2 (df (aq 0) (df (aq 1) lE))) (xT (pB (pOp (fIs false) (pSl 1) (pFz (pC .non)))) (pB (pOp vx (pSl 0) (pSl 2)))) (a5 0))))
theorem jO (d:D) (Q:PV->Prop) (h:aP ([d]) Q):cU cY gj ([d]) Q:=by
 show cY _ [some (.dat (d)),none,none]
 obtain ⟨ws,rfl,hn,q⟩:=h
 have hwm:(nO ws).length=ws.length:=List.length_map _
 walk_at "r"
 refine cfm (fun τ=>∃v w,τ=[v,w,some (.dat .non)]) (fun k=>some (nD k)) ?_ ?_ ?_
 .exact ⟨_,_,rfl⟩
 .rintro k τ d hk ed ⟨v,w,rfl⟩ K1 K2 k1 k2
  subst ed
  rw [si hk]
  have en:pz (.int (k:Int)) .non:=⟨rfl,rfl,rfl,rfl⟩
  have ed:deq (.int (k:Int)) .non=false:=rfl
  walk_at "r"
  exact k1 _ _ rfl ⟨_,_,rfl⟩
 .rintro τ ⟨v,w,rfl⟩
  rw [show (fun k=>some (nD k))=some ∘ nD from rfl,List.filterMap_eq_map,hwm]
  exact q
theorem lc:∀ds Q,aP ds Q->cU cY gj ds Q:=fun ds Q h=>by
 unfold aP at h
 split at h
 .exact jO _ _ h
 .exact h.elim
def cZ:PTS:=(aL (ba (pOp fIx (pSl 0) (pFz (pC (.int 0)))) (aq 1)) (bF (cW [none,some 1] (wY (af (pFz (pCB ic (af (pSl 1) am))) am)) (aq 0) (pB (pOp (xv true) (pSl 0) (pSl 1))) (a5 0))))
theorem jP (d:D) (Q:PV->Prop) (h:aI ([d]) Q):cU cZ gk ([d]) Q:=by
 show cZ _ [some (.dat (d)),none]
 obtain ⟨ws,rfl,hn,q⟩:=h
 have hwm:(nO ws).length=ws.length:=List.length_map _
 have hfl:=vY ws
 walk_at "r"
 refine cfR (fun k=>true) (fun k=>nD k) (fun k hk v K1 K2 k1 k2=>?_) (fun v=>?_)
 .have hin:=sf (k:Int) ws
  walk_at "r"
  rw [hin]
  walk_at "r"
  exact k1 _ rfl
 .rw [hwm,Int.toNat_natCast,List.filter_eq_self.mpr (fun _ _=>rfl)]
  exact q
theorem lf:∀ds Q,aI ds Q->cU cZ gk ds Q:=fun ds Q h=>by
 unfold aI at h
 split at h
 .exact jP _ _ h
 .exact h.elim
def cK:PTS:=(aL (ba (pOp fIx (pSl 0) (pFz (pC (.int 0)))) (aq 2)) (aL (ba (a5 1) (aq 3)) (aL (nh (pB (pOp (xv false) (pSl 3) (pSl 2))) (ba (Cc (pSl 2) (a5 3)) (aq 3))) (bF (a5 3)))))
theorem iP (d:D) (i:Int) (Q:PV->Prop) (h:aS ([d,.int i]) Q):cU cK eY ([d,.int i]) Q:=by
 show cK _ [some (.dat (d)),some (.dat (.int i)),none,none]
 obtain ⟨ws,rfl,q⟩:=h
 have hfl:=vY ws
 have hin:=sf i ws
 walk_at "r"
 refine ⟨fun m ρ=>ρ=[some (.dat (kT ws)),some (.dat (.int i)),some (.dat (.tup (nO ws))),some (.dat (.int i))],⟨0,rfl⟩,?_⟩
 rintro m ρ rfl
 walk_at "r"
 rw [hin]
 walk_at "r"
 exact q
theorem jr:∀ds Q,aS ds Q->cU cK eY ds Q:=fun ds Q h=>by
 unfold aS at h
 split at h
 .exact iP _ _ _ h
 .exact h.elim
def fo:PTS:=(aL (ba (bo aS (af (pFz (a5 0)) (af (pFz (a5 1)) am))) (aq 2)) (bF (cW [none,some 2] (dg (bo aI (af (pFz (a5 0)) am))) (aq 0) (pB (pOp vx (pSl 0) (pSl 1))) (a5 0))))
theorem pY (d:D) (i:Int) (Q:PV->Prop) (h:bQ ([d,.int i]) Q):cU fo kU ([d,.int i]) Q:=by
 show fo _ [some (.dat (d)),some (.dat (.int i)),none]
 obtain ⟨ws,rfl,m,rfl,hn,q⟩:=h
 have hrl:((List.range ws.length).map nD).length=ws.length:=by rw [List.length_map,List.length_range]
 walk_at "r"
 refine cf1 (e:=nD) (xs:=List.range ws.length) (fun j=>decide (m≠j)) (fun j=>nD j) (fun j hj v K1 K2 k1 k2=>?_) (fun v=>?_)
 .walk_at "r"
  refine kq (fun c=>?_) (fun c=>?_)
  .exact k1 _ (decide_eq_true (by omega))
  .exact k2 _ (decide_eq_false (by omega))
 .exact q
theorem qS:∀ds Q,bQ ds Q->cU fo kU ds Q:=fun ds Q h=>by
 unfold bQ at h
 split at h
 .exact pY _ _ _ h
 .exact h.elim
def dM:PTS:=(bF (pCB sY (af (pFz (cW [none,none,some 0] (kA (af (pFz (pOp fIx (pSl 1) (pFz (pC (.int 0))))) am)) (jM 2 (df (aq 0) (df (aq 1) lE))) (pB (pOp (fIs true) (pSl 1) (pFz (pC .non)))) (pOp fIx (pFz (pOp fIx (pFz (qw "Family" ["pieces","kept","words","left","laps","total"] 4 (pSl 2))) (pSl 0))) (pSl 1)))) am)))
theorem lR (c:Str) (ns:List Str) (fs:List D) (d:D) (Q:PV->Prop) (h:bw ([.obj c ns fs,d]) Q):cU dM iH ([.obj c ns fs,d]) Q:=by
 show dM _ [some (.dat (.obj c ns fs)),some (.dat (d))]
 obtain ⟨rfl,rfl,ps,rfl,rfl,hn,q⟩:=h
 have hwm:(nO (ak ps)).length=(ak ps).length:=List.length_map _
 walk_at "r"
 refine cfm (fun τ=>∃v w,τ=[v,w,some (.dat (.obj "Family" gK (gL ps)))]) (fun k=>none) ?_ ?_ ?_
 .exact ⟨_,_,rfl⟩
 .rintro k τ d hk ed ⟨v,w,rfl⟩ K1 K2 k1 k2
  subst ed
  rw [si hk]
  walk_at "r"
  exact k2 _ rfl ⟨_,_,rfl⟩
 .rintro τ ⟨v,w,rfl⟩
  walk_at "r"
  refine ⟨[],by rw [List.filterMap_eq_nil_iff.mpr (fun _ _=>rfl)];rfl,?_⟩
  exact q
theorem nS:∀ds Q,bw ds Q->cU dM iH ds Q:=fun ds Q h=>by
 unfold bw at h
 split at h
 .exact lR _ _ _ _ _ h
 .exact h.elim
def dn:PTS:=(aL (jV (pOr (xU (pB (bo a9 (af (pFz (a5 2)) (af (pFz (rQ "Family" ["pieces","kept","words","left","laps","total"] aM (a5 0) am)) am))))) (xU (pB (bo a9 (af (pFz (a5 3)) (af (pFz (rQ "Family" ["pieces","kept","words","left","laps","total"] aM (a5 0) am)) am)))))) (bF (pC .non)) cD) (aL (ba (bo aP (af (pFz (a5 1)) am)) (aq 4)) (aL (jV (pB (pCB CH (af (pFz (x8 [none,none,some 2,some 3,some 0,some 1] (dg (a5 4)) (aq 0) jY (dg (bo bQ (af (pFz (a5 5)) (af (pFz (a5 0)) am)))) (aq 1) jY (pOp fLt (pFz (pOp de (pFz (pOp fIx (pSl 2) (pSl 0))) (pFz (pOp fIx (pSl 3) (pSl 1))))) (pFz (pOp fIx (pFz (pOp fIx (pFz (qw "Family" ["pieces","kept","words","left","laps","total"] 4 (pSl 4))) (pSl 0))) (pSl 1)))))) am))) (bF (pC .non)) cD) (bF (pOp de (pFz (pOp de (pFz (bo bw (af (pFz (a5 0)) (af (pFz (a5 1)) am)))) (pFz (pCB sY (af (pFz (cW [none,some 2] (dg (a5 4)) (aq 0) jY (pOp fIx (pSl 1) (pSl 0)))) am))))) (pFz (pCB sY (af (pFz (cW [none,some 3] (dg (bo aI (af (pFz (a5 1)) am))) (aq 0) jY (pOp fIx (pSl 1) (pSl 0)))) am))))))))
theorem lg (c:Str) (ns:List Str) (fs:List D) (d g t:D) (Q:PV->Prop) (h:bg ([.obj c ns fs,d,g,t]) Q):cU dn gS ([.obj c ns fs,d,g,t]) Q:=by
 show dn _ [some (.dat (.obj c ns fs)),some (.dat (d)),some (.dat (g)),some (.dat (t)),none]
 obtain ⟨rfl,rfl,ps,rfl,rfl,⟨hn,og,ot⟩,q⟩:=h
 have og1:=og.1
 have og2:(bt g).length<=1000000:=Nat.le_trans og.2 (by decide)
 have ot1:=ot.1
 have ot2:(bt t).length<=1000000:=Nat.le_trans ot.2 (by decide)
 have hb:zW (.tup [g,t]) (ak ps)=(prB g (ak ps).length && (prB t (ak ps).length && (vX (ak ps).length).all fun p=>decide ((eC (pw (ak ps) p.1) (pw (ak ps) p.2):Int)<=nmb g p.1 + nmb t p.2))):=by
  unfold zW ppB
  show (true && (decide ((2:Nat)=2) && (prB g (ak ps).length && (prB t (ak ps).length && true))) && _)=_
  rw [decide_eq_true rfl,Bool.true_and,Bool.true_and,Bool.and_true,Bool.and_assoc];rfl
 unfold tbD at q
 rw [hb] at q
 walk_at "r"
 refine ia (tW (fun c1=>?_) (fun c1=>?_))
 .have c1:prB g (ak ps).length=true:=c1
  walk_at "r"
  refine ia (tW (fun c2=>?_) (fun c2=>?_))
  .have c2:prB t (ak ps).length=true:=c2
   rw [c1,c2,Bool.true_and,Bool.true_and] at q
   obtain ⟨gs,hg,gl⟩:=qL (show cG g (ak ps).length=true by unfold prB at c1;rw [Bool.and_eq_true] at c1;exact c1.1)
   obtain ⟨ts,ht,tl⟩:=qL (show cG t (ak ps).length=true by unfold prB at c2;rw [Bool.and_eq_true] at c2;exact c2.1)
   walk_at "r"
   have gl:gs.length=(ak ps).length:=by omega
   have tl:ts.length=(ak ps).length:=by omega
   have sg:∀L:List Int,fh g (L.map .int)->True:=fun _ _=>trivial
   have eg:Av g=gs.sum:=jZ hg
   have et:Av t=ts.sum:=jZ ht
   rw [eg,et] at q
   generalize hws:ak ps=ws at hn gl tl q
   have hrl:((List.range ws.length).map nD).length=ws.length:=by rw [List.length_map,List.length_range]
   have hlen:=fun k=>se ws.length (List.range k)
   rw [hrl]
   let F:Nat×Nat->D:=fun p=>.bl (decide (nmb g p.1 + nmb t p.2 < (eC (pw ws p.1) (pw ws p.2):Int)))
   have eF:∀p,F p=.bl (decide (nmb g p.1 + nmb t p.2 < (eC (pw ws p.1) (pw ws p.2):Int))):=fun _=>rfl
   clear_value F
   refine ⟨⟨fun k ys τ=>ys=((List.range k).flatMap fun i=>((List.range ws.length).filter fun j=>decide (i≠j)).map fun j=>(i,j)).map F/\∃v w,τ=[v,w,some (.dat g),some (.dat t),some (.dat (.obj "Family" gK (gL ps))),some (.dat (kT ws))],⟨rfl,_,_,rfl⟩,?_,?_⟩⟩
   .rintro k ys τ _ hk rfl ⟨rfl,v,w,rfl⟩
    rw [pK (by rw [hrl];exact hk),show (List.range ws.length).getD k 0=k by rw [List.getD_eq_getElem?_getD,List.getElem?_range hk];rfl]
    walk_at "r"
    generalize hL:((List.range ws.length).filter fun j=>decide (k≠j))=L
    have hLm:(L.map nD).length=L.length:=List.length_map _
    have hLn:∀j∈L,j < ws.length:=fun j hj=>by rw [<- hL] at hj;exact List.mem_range.mp (List.mem_filter.mp hj).1
    rw [hLm]
    refine ⟨fun j zs τ=>zs=((List.range k).flatMap fun i=>((List.range ws.length).filter fun j=>decide (i≠j)).map fun j=>(i,j)).map F++((L.take j).map fun j=>(k,j)).map F/\∃w,τ=[some (.dat (.int (k:Int))),w,some (.dat g),some (.dat t),some (.dat (.obj "Family" gK (gL ps))),some (.dat (kT ws))],⟨(List.append_nil _).symm,w,rfl⟩,?_,?_⟩
    .rintro j zs τ _ hj rfl ⟨rfl,w,rfl⟩
     rw [pK (by rw [hLm];exact hj)]
     have hjm:L.getD j 0∈L:=pS hj
     have hjn:=hLn _ hjm
     have hkn:k * ws.length<=40 * 40:=Nat.mul_le_mul (by omega) (by omega)
     have hll:L.length<=ws.length:=by rw [<- hL];exact Nat.le_trans (List.length_filter_le ..) (by rw [List.length_range];exact Nat.le_refl _)
     have hlk:=hlen k
     rw [List.length_range] at hlk
     walk_at "r"
     refine jg hg ⟨_,(pR hg (by omega)).2,?_⟩
     walk_at "r"
     refine jg ht ⟨_,(pR ht (by omega)).2,?_⟩
     walk_at "r"
     rw [hws]
     refine ⟨_,zX hk,?_⟩
     walk_at "r"
     refine ⟨_,yh hjn,?_⟩
     walk_at "r"
     refine ⟨?_,?_,_,rfl⟩
     .rw [List.length_append,List.length_map,List.length_map,List.length_map,List.length_take]
      omega
     .rw [List.take_add_one,List.getElem?_eq_getElem hj,List.map_append,List.map_append,<- List.append_assoc]
      congr 1
      rw [List.getD_eq_getElem?_getD,List.getElem?_eq_getElem hj]
      show _=[F (k,L[j])]
      rw [eF];rfl
    .rintro zs τ ⟨rfl,w,rfl⟩
     refine ⟨?_,_,_,rfl⟩
     rw [List.range_succ,List.flatMap_append,List.map_append,List.flatMap_cons,List.flatMap_nil,List.append_nil,hL,List.take_length]
   .rintro ys τ ⟨rfl,v,w,rfl⟩
    have eall:(vX ws.length).all (fun p=>decide ((eC (pw ws p.1) (pw ws p.2):Int)<=nmb g p.1 + nmb t p.2))=!((vX ws.length).any fun p=>decide (nmb g p.1 + nmb t p.2 < (eC (pw ws p.1) (pw ws p.2):Int))):=by
     rw [List.all_eq_not_any_not]
     congr 2
     funext p
     rw [<- decide_not]
     exact decide_eq_decide.mpr (by omega)
    rw [eall] at q
    walk_at "r"
    refine ⟨(vX ws.length).map fun p=>decide (nmb g p.1 + nmb t p.2 < (eC (pw ws p.1) (pw ws p.2):Int)),?_,?_⟩
    .rw [List.map_map]
     exact List.map_congr_left fun p _=>eF p
    rw [List.any_map]
    refine tW (fun c=>?_) (fun c=>?_)
    .have c:((vX ws.length).any fun p=>decide (nmb g p.1 + nmb t p.2 < (eC (pw ws p.1) (pw ws p.2):Int)))=true:=c
     rw [c,Bool.not_true,if_neg (by decide)] at q
     walk_at "r"
     exact q
    .have c:((vX ws.length).any fun p=>decide (nmb g p.1 + nmb t p.2 < (eC (pw ws p.1) (pw ws p.2):Int)))=false:=c
     rw [c,Bool.not_false,if_pos rfl] at q
     walk_at "r"
     refine ⟨by rw [hws],by rw [hws];exact hn,?_⟩
     walk_at "r"
     refine cm1 (e:=nD) (xs:=List.range ws.length) (fun i=>.int (gs.getD i 0)) (fun i hi v K1 k1=>?_) (fun v=>?_)
     .have hi:=List.mem_range.mp hi
      have ea:=(pR hg (show i < gs.length by omega))
      walk_at "r"
      refine jg hg ⟨_,ea.2,?_⟩
      rw [ea.1]
      exact k1 _
     walk_at "r"
     refine ⟨(List.range ws.length).map fun i=>gs.getD i 0,by rw [List.map_map];rfl,?_⟩
     rw [<- gl,vW (fun x=>x) gs,List.map_id',gl]
     walk_at "r"
     refine cm1 (e:=nD) (xs:=List.range ws.length) (fun i=>.int (ts.getD i 0)) (fun i hi v K1 k1=>?_) (fun v=>?_)
     .have hi:=List.mem_range.mp hi
      have ea:=(pR ht (show i < ts.length by omega))
      walk_at "r"
      refine jg ht ⟨_,ea.2,?_⟩
      rw [ea.1]
      exact k1 _
     walk_at "r"
     refine ⟨(List.range ws.length).map fun i=>ts.getD i 0,by rw [List.map_map];rfl,?_⟩
     rw [<- tl,vW (fun x=>x) ts,List.map_id']
     walk_at "r"
     rw [Int.zero_add]
     exact q
  .rw [show prB t (ak ps).length=false from c2,Bool.false_and,Bool.and_false,if_neg (by decide)] at q
   walk_at "r"
   exact q
 .rw [show prB g (ak ps).length=false from c1,Bool.false_and,if_neg (by decide)] at q
  walk_at "r"
  exact q
theorem lS:∀ds Q,bg ds Q->cU dn gS ds Q:=fun ds Q h=>by
 unfold bg at h
 split at h
 .exact lg _ _ _ _ _ _ _ h
 .exact h.elim
def c6:PTS:=(aL (jV (pOr (xU (pB (bo aZ (af (pFz (a5 2)) am)))) (pB (pOp (xv true) (pSl 2) (pFz (bo aP (af (pFz (a5 1)) am)))))) (bF (pC .non)) cD) m9)
theorem jQ (c:Str) (ns:List Str) (fs:List D) (d y z:D) (Q:PV->Prop) (h:a6 ([.obj c ns fs,d,y,z]) Q):cU c6 gm ([.obj c ns fs,d,y,z]) Q:=by
 show c6 _ [some (.dat (.obj c ns fs)),some (.dat (d)),some (.dat (y)),some (.dat (z)),none,none,none,none,none]
 obtain ⟨⟨h1,h2⟩,q⟩:=h
 walk_at "r"
 refine Bu h2 ?_
 walk_at "r"
 exact q
theorem lh:∀ds Q,a6 ds Q->cU c6 gm ds Q:=fun ds Q h=>by
 unfold a6 at h
 split at h
 .exact jQ _ _ _ _ _ _ _ h
 .exact h.elim
def gE:PTS:=(aL (jV (pOr (xU (pB (bo cg (af (pFz (a5 2)) am)))) (pB (pOp vx (pFz (pCB ic (af (pSl 2) am))) (pFz (pC (.int 3)))))) (bF (pC .non)) cD) (aL (jV (pB (pOp t4 (pFz (pOp fIx (pSl 2) (pFz (pC (.int 0))))) (pFz (pC (.str [101,110,100]))))) (bF (bo bg (af (pFz (a5 0)) (af (pFz (a5 1)) (af (pFz (pOp fIx (pSl 2) (pFz (pC (.int 1))))) (af (pFz (pOp fIx (pSl 2) (pFz (pC (.int 2))))) am)))))) cD) (aL (jV (pB (pOp t4 (pFz (pOp fIx (pSl 2) (pFz (pC (.int 0))))) (pFz (pC (.str [112,97,114,116]))))) (bF (bo a6 (af (pFz (a5 0)) (af (pFz (a5 1)) (af (pFz (pOp fIx (pSl 2) (pFz (pC (.int 1))))) (af (pFz (pOp fIx (pSl 2) (pFz (pC (.int 2))))) am)))))) cD) (bF (pC .non)))))
theorem qT (c:Str) (ns:List Str) (fs:List D) (d e:D) (Q:PV->Prop) (h:cE ([.obj c ns fs,d,e]) Q):cU gE mD ([.obj c ns fs,d,e]) Q:=by
 show gE _ [some (.dat (.obj c ns fs)),some (.dat (d)),some (.dat (e))]
 obtain ⟨rfl,rfl,ps,rfl,rfl,⟨hn,hd,hl,hx⟩,q⟩:=h
 walk_at "r"
 refine ia (tW (fun c=>?_) (fun c=>?_))
 .have c:lI e=true:=c
  have hs:=Cm c
  walk_at "r"
  refine B2 hs ?_
  walk_at "r"
  refine kq (fun c3=>?_) (fun c3=>?_)
  .rw [vZ (by omega)] at q
   walk_at "r"
   exact q
  .obtain ⟨x,y,z,hi⟩:∃x y z,bt e=[x,y,z]:=by
    have c3:(bt e).length=3:=by omega
    match h:bt e,c3 with
    | [x,y,z],_=>exact ⟨x,y,z,rfl⟩
   obtain ⟨h1,h2,h3⟩:=hx x y z hi
   rw [hi] at hs
   have go:∀(x':D),x=x'->(∀l,x'≠.str l)->tgD e ps=.non:=fun x' e1 e2=>by subst e1;exact qN hs e2
   walk_at "r"
   refine jg hs ⟨_,rfl,?_⟩
   rcases h1 with ⟨l,rfl⟩ | ⟨i,rfl⟩ | rfl | ⟨es,rfl,q1,q2⟩
   .rw [kW hs] at q
    walk_at "r"
    refine dF (fun c4=>?_) (fun c4=>?_)
    .obtain ⟨o1,o2⟩:=h2 (by rw [c4])
     rw [if_pos c4] at q
     walk_at "r"
     refine jg hs ⟨_,rfl,?_⟩
     walk_at "r"
     refine jg hs ⟨_,rfl,?_⟩
     walk_at "r"
     exact q
    .rw [if_neg c4] at q
     walk_at "r"
     refine jg hs ⟨_,rfl,?_⟩
     walk_at "r"
     refine dF (fun c5=>?_) (fun c5=>?_)
     .obtain ⟨o1,o2⟩:=h3 (by rw [c5])
      walk_at "r"
      refine jg hs ⟨_,rfl,?_⟩
      walk_at "r"
      refine jg hs ⟨_,rfl,?_⟩
      walk_at "r"
      exact q
     .walk_at "r"
      exact q
   .rw [go _ rfl nofun] at q
    have e1:pz (.int i) (.str END):=⟨rfl,rfl,rfl,by decide +kernel⟩
    have e2:pz (.int i) (.str PART):=⟨rfl,rfl,rfl,by decide +kernel⟩
    walk_at "r"
    refine jg hs ⟨_,rfl,?_⟩
    walk_at "r"
    exact q
   .rw [go _ rfl nofun] at q
    have e1:pz .non (.str END):=⟨rfl,rfl,rfl,by decide +kernel⟩
    have e2:pz .non (.str PART):=⟨rfl,rfl,rfl,by decide +kernel⟩
    walk_at "r"
    refine jg hs ⟨_,rfl,?_⟩
    walk_at "r"
    exact q
   .rw [go _ rfl nofun] at q
    walk_at "r"
    refine jg hs ⟨_,rfl,?_⟩
    walk_at "r"
    exact q
 .rw [zZ c] at q
  walk_at "r"
  exact q
theorem tN:∀ds Q,cE ds Q->cU gE mD ds Q:=fun ds Q h=>by
 unfold cE at h
 split at h
 .exact qT _ _ _ _ _ _ h
 .exact h.elim
def dN:PTS:=(aL (jV (pB (pOp fGt (pFz (rQ "Family" ["pieces","kept","words","left","laps","total"] aM (a5 0) am)) (pFz (pC (.int 7))))) (bF (pC .non)) cD) (aL (ba (bo cE (af (pFz (a5 0)) (af (pFz (bo bv (af (pFz (a5 0)) am))) (af (pFz (a5 1)) am)))) (aq 2)) (bF (pIf (pB (pOp (fIs false) (pSl 2) (pFz (pC .non)))) (pC .non) (pOp xg (pFz (qw "Family" ["pieces","kept","words","left","laps","total"] 5 (pSl 0))) (pSl 2))))))
theorem lT (c:Str) (ns:List Str) (fs:List D) (e:D) (Q:PV->Prop) (h:aJ ([.obj c ns fs,e]) Q):cU dN iI ([.obj c ns fs,e]) Q:=by
 show dN _ [some (.dat (.obj c ns fs)),some (.dat (e)),none]
 obtain ⟨rfl,rfl,ps,rfl,⟨hn,oe⟩,q⟩:=h
 unfold cbD at q
 walk_at "r"
 refine dF (fun c=>?_) (fun c=>?_)
 .rw [if_pos (by omega)] at q
  walk_at "r"
  exact q
 .rw [if_neg (by omega)] at q
  walk_at "r"
  rcases wb e ps with h | ⟨n,h⟩
  .rw [h] at q ⊢
   walk_at "r"
   exact q
  .rw [h] at q ⊢
   walk_at "r"
   exact q
theorem nU:∀ds Q,aJ ds Q->cU dN iI ds Q:=fun ds Q h=>by
 unfold aJ at h
 split at h
 .exact lT _ _ _ _ _ h
 .exact h.elim
def gF:PTS:=(aL (jV (pOr (xU (pB (CG .str (pSl 0)))) (xU (pB (u8 fLe fLe (pSl 1) (pFz (pCB ic (af (pSl 0) am))) (pSl 2))))) (bF (pC (.bl false))) cD) (bF (pCB BN (af (pFz (cW [none] (dg (a5 0)) (aq 0) jY (u8 fLe fLe (pFz (pC (.str [97]))) (pSl 0) (pFz (pC (.str [122])))))) am))))
theorem qU (d:D) (a b:Int) (Q:PV->Prop) (h:cJ ([d,.int a,.int b]) Q):cU gF mE ([d,.int a,.int b]) Q:=by
 show gF _ [some (.dat (d)),some (.dat (.int a)),some (.dat (.int b))]
 obtain ⟨hd,hl,q⟩:=h
 cases d with
 | str l =>
  have hl:l.length<=1000000:=hl
  walk_at "r"
  refine dF (fun c1=>?_) (fun c1=>?_)
  .walk_at "r"
   refine kq (fun c2=>?_) (fun c2=>?_)
   .walk_at "r"
    rw [show xi (.str l) a b=false by rw [nv,decide_eq_false c2,Bool.and_false];rfl] at q
    exact q
   .walk_at "r"
    refine t3 (fun τ=>∃v,τ=[v]) (fun k=>.bl (ltB (l.getD k 0))) ?_ ?_ ?_
    .exact ⟨_,rfl⟩
    .rintro k τ _ hk rfl ⟨v,rfl⟩ K1 k1
     walk_at "r"
     refine kq (fun c=>?_) (fun c=>?_)
     .have hc:97<=l.getD k 0:=of_decide_eq_true (by rw [<- qy];rw [decide_eq_false c];rfl)
      walk_at "r"
      show K1 (.bl (!decide (([122]:List Nat) < [l.getD k 0]))) _
      rw [qy]
      rw [show ltB (l.getD k 0)=decide (l.getD k 0<=122) by unfold ltB;rw [decide_eq_true hc];rfl] at k1
      exact k1 _ ⟨_,rfl⟩
     .have hc:¬ 97<=l.getD k 0:=of_decide_eq_false (by rw [<- qy,decide_eq_true c];rfl)
      walk_at "r"
      rw [show ltB (l.getD k 0)=false by unfold ltB;rw [decide_eq_false hc];rfl] at k1
      exact k1 _ ⟨_,rfl⟩
    .rintro τ ⟨v,rfl⟩
     walk_at "r"
     refine ⟨(List.range l.length).map fun k=>ltB (l.getD k 0),by rw [List.map_map];rfl,?_⟩
     have e:xi (.str l) a b=(((List.range l.length).map fun k=>ltB (l.getD k 0)).all id):=by
      rw [nv,decide_eq_true c1,decide_eq_true c2,Bool.and_self,Bool.true_and,fg]
      rw [List.all_map];rfl
     rw [e] at q
     exact q
  .walk_at "r"
   rw [show xi (.str l) a b=false by rw [nv,decide_eq_false c1,Bool.false_and];rfl] at q
   exact q
 | non=>walk_at "r";exact q
 | bl b=>walk_at "r";exact q
 | int i=>walk_at "r";exact q
 | ty n=>cases hd
 | lst ds=>walk_at "r";exact q
 | tup ds=>walk_at "r";exact q
 | scr ns=>cases hd
 | dic ks ds=>walk_at "r";exact q
 | obj c ns ds=>cases hd
 | exc c ns ds=>cases hd
theorem tO:∀ds Q,cJ ds Q->cU gF mE ds Q:=fun ds Q h=>by
 unfold cJ at h
 split at h
 .exact qU _ _ _ _ h
 .exact h.elim
def dq:PTS:=(bF (pSM vm (a5 0) (af (pSl 1) am)))
theorem li (a b:List Nat) (Q:PV->Prop) (h:aT ([.str a,.str b]) Q):cU dq gT ([.str a,.str b]) Q:=by
 show dq _ [some (.dat (.str a)),some (.dat (.str b))]
 walk_at "r"
 exact h
theorem lU:∀ds Q,aT ds Q->cU dq gT ds Q:=fun ds Q h=>by
 unfold aT at h
 split at h
 .exact li _ _ _ h
 .exact h.elim
def ss:PTS:=(aL (jc (Do (af (pFz (pOp xg (pFz (pCB wZ (af (pFz (pCB ic (af (pSl 0) am))) (af (pFz (pCB ic (af (pSl 1) am))) am)))) (pFz (pC (.int 1))))) (af (pFz (pC (.int 0))) (af (pFz (pUn BX (pFz (pC (.int 1))))) am)))) (aq 2) (jV (pB (pSM zx (a5 0) (af (pFz (iy (pSl 1) jz (gN (a5 2)))) am))) (bF (a5 2)) cD)) (bF (pC (.int 0))))
theorem Ah (a b:List Nat) (Q:PV->Prop) (h:fJ ([.str a,.str b]) Q):cU ss yj ([.str a,.str b]) Q:=by
 show ss _ [some (.dat (.str a)),some (.dat (.str b)),none]
 obtain ⟨⟨a0,a1⟩,⟨b0,b1⟩,q⟩:=h
 have hm:(if (b.length:Int) < (a.length:Int) then (b.length:Int) else (a.length:Int))=((min a.length b.length:Nat):Int):=by split <;> omega
 walk_at "r"
 refine ⟨fun i ρ=>(∃v2:Option PV,ρ=[some (.dat (.str a)),some (.dat (.str b)),v2])/\∀j,min a.length b.length - i<=j->j < min a.length b.length->¬ b.take j <:+ a,⟨⟨_,rfl⟩,fun j h1 h2=>by omega⟩,?_,?_⟩
 .rintro i ρ d hi ed ⟨⟨v2,rfl⟩,ih⟩
  have hi:i < (((if (b.length:Int) < (a.length:Int) then (b.length:Int) else (a.length:Int)) - 1) - 0).toNat:=hi
  have ed:d=.int (((if (b.length:Int) < (a.length:Int) then (b.length:Int) else (a.length:Int)) - 1) - (i:Int)):=ed
  rw [hm] at hi ed
  obtain ⟨k,hk,hk2⟩:∃k:Nat,(((min a.length b.length:Nat):Int) - 1) - (i:Int)=(k:Int)/\k=min a.length b.length - 1 - i:=⟨min a.length b.length - 1 - i,by omega,rfl⟩
  rw [hk] at ed
  subst ed
  walk_at "r"
  rw [kd]
  refine dF (fun c=>?_) (fun c=>?_)
  .walk_at "r"
   rw [show eC a b=k from nC ⟨by omega,c,fun j h1 h2=>by
    rcases Nat.lt_or_ge k j with h | h
    .exact absurd h2 (ih j (by omega) h1)
    .exact h⟩] at q
   exact q
  .refine ⟨⟨_,rfl⟩,fun j h1 h2=>?_⟩
   by_cases hj:j=k
   .rw [hj];exact c
   .exact ih j (by omega) h2
 .rintro ρ ⟨⟨v2,rfl⟩,ih⟩
  rw [hm] at ih
  walk_at "r"
  rw [show eC a b=0 from nC ⟨by omega,by rw [List.take_zero];exact List.nil_suffix,fun j h1 h2=>by
   rcases Nat.eq_zero_or_pos j with h | h
   .omega
   .exact absurd h2 (ih j (by omega) h1)⟩] at q
  exact q
theorem Cs:∀ds Q,fJ ds Q->cU ss yj ds Q:=fun ds Q h=>by
 unfold fJ at h
 split at h
 .exact Ah _ _ _ h
 .exact h.elim
def fq:PTS:=(bF (pCB fV (af (pFz (cW [none,some 0] (dg (a5 0)) (aq 0) jY (pCB fV (af (pFz (cW [none,some 0] (dg (a5 1)) (aq 0) jY (bo fJ (af (pFz (a5 1)) (af (pFz (a5 0)) am))))) am)))) am)))
theorem pZ (ds:List D) (Q:PV->Prop) (h:bY ([.tup ds]) Q):cU fq kX ([.tup ds]) Q:=by
 show fq _ [some (.dat (.tup ds))]
 obtain ⟨ws,rfl,⟨hn,hw⟩,q⟩:=h
 have hlm:(ws.map D.str).length=ws.length:=List.length_map _
 have rr:∀f:List Nat->D,(List.range (ws.map D.str).length).map (fun k=>f (pw ws k))=ws.map f:=fun f=>by
  rw [hlm]
  apply List.ext_getElem?
  intro k
  rw [List.getElem?_map,List.getElem?_map]
  by_cases hk:k < ws.length
  .rw [List.getElem?_range hk,fH hk];rfl
  .rw [List.getElem?_eq_none (by rw [List.length_range];omega),List.getElem?_eq_none (by omega)];rfl
 walk_at "r"
 refine t3 (fun τ=>∃v,τ=[v,some (.dat (.tup (ws.map .str)))]) (fun k=>.tup (ws.map fun v=>.int (eC (pw ws k) v:Int))) ?_ ?_ ?_
 .exact ⟨_,rfl⟩
 .rintro k τ d hk ed ⟨v,rfl⟩ K1 k1
  rw [fW hk] at ed
  subst ed
  have w1:=hw _ (jA (show k < ws.length by omega))
  walk_at "r"
  refine t3 (fun τ=>∃v,τ=[v,some (.dat (.str (pw ws k)))]) (fun j=>.int (eC (pw ws k) (pw ws j):Int)) ?_ ?_ ?_
  .exact ⟨_,rfl⟩
  .rintro j τ d hj ed ⟨v,rfl⟩ K2 k2
   rw [fW hj] at ed
   subst ed
   have w2:=hw _ (jA (show j < ws.length by omega))
   walk_at "r"
   exact k2 _ ⟨_,rfl⟩
  .rintro τ ⟨v,rfl⟩
   rw [rr (fun w=>D.int (eC (pw ws k) w:Int))]
   walk_at "r"
   exact k1 _ ⟨_,rfl⟩
 .rintro τ ⟨v,rfl⟩
  rw [rr (fun w=>D.tup (ws.map fun v=>.int (eC w v:Int)))]
  walk_at "r"
  exact q
theorem qV:∀ds Q,bY ds Q->cU fq kX ds Q:=fun ds Q h=>by
 unfold bY at h
 split at h
 .exact pZ _ _ h
 .exact h.elim
def c7:PTS:=(aL (jV (pB (pOp fGt (pFz (pCB ic (af (pSl 0) am))) (pFz (pC (.int 40))))) m9 cD) (jc (kA (af (pFz (a5 0)) am)) (jM 2 (df (aq 1) (df (aq 2) lE))) (jV (xU (pB (x6 cJ [] (af (pFz (a5 2)) (af (pFz (pC (.int 1))) (af (pFz (pC (.int 60))) am)))))) m9 cD)))
theorem jR (d:D) (Q:PV->Prop) (h:a7 ([d]) Q):cU c7 gn ([d]) Q:=by
 show c7 _ [some (.dat (d)),none,none]
 obtain ⟨ws,hd,⟨hn,hp⟩,q⟩:=h
 have hlm:(ws.map D.str).length=ws.length:=List.length_map _
 rcases hd with rfl | rfl
 .walk_at "r"
  refine ⟨fun k ρ=>∃v1 v2:Option PV,ρ=[some (.dat (.lst (ws.map .str))),v1,v2],⟨_,_,rfl⟩,?_,?_⟩
  .rintro k ρ d hk ed ⟨v1,v2,rfl⟩
   have ed:d=.tup [.int k,itD (ws.map D.str) k]:=ed
   rw [fW hk] at ed
   subst ed
   have hw:=hp _ (jA (show k < ws.length by omega))
   have ht:xi (.str (pw ws k)) 1 60=true:=vp.mpr hw
   have h1:(pw ws k).length<=1000000:=by have:=hw.2.1;omega
   walk_at "r"
   refine y0 ht ?_
   exact ⟨_,_,rfl⟩
  .rintro ρ ⟨v1,v2,rfl⟩
   exact q
 .walk_at "r"
  refine ⟨fun k ρ=>∃v1 v2:Option PV,ρ=[some (.dat (.tup (ws.map .str))),v1,v2],⟨_,_,rfl⟩,?_,?_⟩
  .rintro k ρ d hk ed ⟨v1,v2,rfl⟩
   have ed:d=.tup [.int k,itD (ws.map D.str) k]:=ed
   rw [fW hk] at ed
   subst ed
   have hw:=hp _ (jA (show k < ws.length by omega))
   have ht:xi (.str (pw ws k)) 1 60=true:=vp.mpr hw
   have h1:(pw ws k).length<=1000000:=by have:=hw.2.1;omega
   walk_at "r"
   refine y0 ht ?_
   exact ⟨_,_,rfl⟩
  .rintro ρ ⟨v1,v2,rfl⟩
   exact q
theorem lj:∀ds Q,a7 ds Q->cU c7 gn ds Q:=fun ds Q h=>by
 unfold a7 at h
 split at h
 .exact jR _ _ h
 .exact h.elim
def cS:PTS:=(bF (pOp fGe (pFz (bo aT (af (pFz (a5 1)) (af (pFz (a5 0)) am)))) (pFz (pC (.int 0)))))
theorem js (a b:List Nat) (Q:PV->Prop) (h:aD ([.str a,.str b]) Q):cU cS fK ([.str a,.str b]) Q:=by
 show cS _ [some (.dat (.str a)),some (.dat (.str b))]
 walk_at "r"
 exact h
theorem jS:∀ds Q,aD ds Q->cU cS fK ds Q:=fun ds Q h=>by
 unfold aD at h
 split at h
 .exact js _ _ _ h
 .exact h.elim
def gG:PTS:=(aL (ba (pOp fIx (pSl 0) (pSl 1)) (aq 2)) (aL (ba (cW [none,some 2] (dg (a5 0)) (aq 0) (pB (pOp fGt (pFz (pCB ic (af (pSl 0) am))) (pFz (pCB ic (af (pSl 1) am))))) (a5 0)) (aq 3)) (bF (sW (pOp (xv true) (pSl 2) (pFz (iy (pSl 0) jz (gN (a5 1))))) (zc (pCB CH (af (pFz (cW [none,some 2] (dg (a5 3)) (aq 0) jY (bo aD (af (pFz (a5 1)) (af (pFz (a5 0)) am))))) am)))))))
theorem qW (ds:List D) (i:Int) (Q:PV->Prop) (h:ci ([.tup ds,.int i]) Q):cU gG mF ([.tup ds,.int i]) Q:=by
 show gG _ [some (.dat (.tup ds)),some (.dat (.int i)),none,none]
 obtain ⟨ws,rfl,⟨hn,hw⟩,hi,q⟩:=h
 obtain ⟨k,rfl⟩:∃k:Nat,i=(k:Int):=⟨i.toNat,by omega⟩
 have hk:k < ws.length:=by omega
 have hlm:(ws.map D.str).length=ws.length:=List.length_map _
 have w1:=hw _ (jA hk)
 walk_at "r"
 refine ⟨_,ie hk rfl,?_⟩
 walk_at "r"
 refine cfm (fun τ=>∃v,τ=[v,some (.dat (.str (pw ws k)))]) (fun j=>if (pw ws k).length < (pw ws j).length then some (.str (pw ws j)) else none) ?_ ?_ ?_
 .exact ⟨_,rfl⟩
 .rintro j τ d hj ed ⟨v,rfl⟩ K1 K2 k1 k2
  rw [fW hj] at ed
  subst ed
  have w2:=hw _ (jA (show j < ws.length by omega))
  walk_at "r"
  refine dF (fun c=>?_) (fun c=>?_)
  .walk_at "r"
   exact k1 _ _ (by rw [if_pos (by omega)]) ⟨_,rfl⟩
  .exact k2 _ (by rw [if_neg (by omega)]) ⟨_,rfl⟩
 .rintro τ ⟨v,rfl⟩
  have e1:(List.range (ws.map D.str).length).filterMap (fun j=>if (pw ws k).length < (pw ws j).length then some (D.str (pw ws j)) else none)=(ws.filter fun o=>decide ((pw ws k).length < o.length)).map D.str:=by
   rw [hlm,xr (fun w=>if (pw ws k).length < w.length then some (D.str w) else none) ws,<- cO]
   congr 1
   funext w
   by_cases h:(pw ws k).length < w.length
   .rw [if_pos h,if_pos (decide_eq_true h)]
   .rw [if_neg h,if_neg (by rw [decide_eq_false h];decide)]
  rw [e1]
  have hll:(ws.filter fun o=>decide ((pw ws k).length < o.length)).length<=ws.length:=List.length_filter_le ..
  generalize hL:(ws.filter fun o=>decide ((pw ws k).length < o.length))=ls at hll ⊢
  have hlm2:(ls.map D.str).length=ls.length:=List.length_map _
  have c1:e6 (ws.map D.str) none (some (k:Int))=(ws.take k).map D.str:=by rw [kd,List.map_take]
  have hfl:(e6 (ws.map D.str) none (some (k:Int))).all D.fl=true:=by rw [c1];exact vG _
  have hin:inD (.str (pw ws k)) (e6 (ws.map D.str) none (some (k:Int)))=decide (pw ws k∈ws.take k):=by rw [c1];exact nE _ _
  have hkb:dh ws k=(!inD (.str (pw ws k)) (e6 (ws.map D.str) none (some (k:Int))) && !ls.any fun o=>fO (pw ws k) o):=by
   unfold dh;rw [hin,hL]
  rw [Int.toNat_natCast,hkb] at q
  walk_at "r"
  refine ia (tW (fun c=>?_) (fun c=>?_))
  .walk_at "r"
   have c:inD (.str (pw ws k)) (e6 (ws.map D.str) none (some (k:Int)))=true:=c
   rw [c] at q
   exact q
  .have c:inD (.str (pw ws k)) (e6 (ws.map D.str) none (some (k:Int)))=false:=c
   rw [c,Bool.not_false,Bool.true_and] at q
   walk_at "r"
   refine t3 (fun τ=>∃v,τ=[v,some (.dat (.str (pw ws k)))]) (fun j=>.bl (fO (pw ws k) (pw ls j))) ?_ ?_ ?_
   .exact ⟨_,rfl⟩
   .rintro j τ d hj ed ⟨v,rfl⟩ K1 k1
    rw [fW hj] at ed
    subst ed
    walk_at "r"
    exact k1 _ ⟨_,rfl⟩
   .rintro τ ⟨v,rfl⟩
    walk_at "r"
    refine ⟨ls.map fun o=>fO (pw ws k) o,?_,?_⟩
    .rw [hlm2,List.map_map]
     conv=>rhs;rw [<- rT ls,List.map_map]
     rfl
    .rw [show ((ls.map fun o=>fO (pw ws k) o).any id)=ls.any (fun o=>fO (pw ws k) o) by rw [List.any_map];rfl]
     walk_at "r"
     exact q
theorem tP:∀ds Q,ci ds Q->cU gG mF ds Q:=fun ds Q h=>by
 unfold ci at h
 split at h
 .exact qW _ _ _ h
 .exact h.elim
def ft:PTS:=(aL (ba (pCB zq (af (pFz (cW [none,some 0,some 2] (dg (a5 1)) (aq 0) (pB (bo aD (af (pFz (pOp fIx (pSl 1) (pSl 2))) (af (pFz (pOp fIx (pSl 1) (pSl 0))) am)))) (a5 0))) am)) (aq 3)) (bF (xS (af (pFz (a5 2)) (af (pFz (a5 3)) (af (pFz (bo aT (af (pFz (pOp fIx (pSl 0) (pSl 3))) (af (pFz (pOp fIx (pSl 0) (pSl 2))) am)))) am))))))
theorem p4 (ds ks:List D) (i:Int) (Q:PV->Prop) (h:bR ([.tup ds,.tup ks,.int i]) Q):cU ft kY ([.tup ds,.tup ks,.int i]) Q:=by
 show ft _ [some (.dat (.tup ds)),some (.dat (.tup ks)),some (.dat (.int i)),none]
 obtain ⟨ws,rfl,rfl,⟨hn,hw⟩,hi,q⟩:=h
 obtain ⟨k,rfl⟩:∃k:Nat,i=(k:Int):=⟨i.toNat,by omega⟩
 have hk:k < ws.length:=by omega
 rw [Int.toNat_natCast] at q
 have hkl:=jh ws
 have hkm:((aR ws).map nD).length=(aR ws).length:=List.length_map _
 walk_at "r"
 refine cfm (fun τ=>∃v,τ=[v,some (.dat (.tup (ws.map .str))),some (.dat (.int (k:Int)))]) (fun j=>if fO (pw ws k) (pw ws ((aR ws).getD j 0))=true then some (nD ((aR ws).getD j 0)) else none) ?_ ?_ ?_
 .exact ⟨_,rfl⟩
 .rintro j τ d hj ed ⟨v,rfl⟩ K1 K2 k1 k2
  have hj2:(aR ws).getD j 0 < ws.length:=fX (List.mem_of_getElem? (by rw [List.getD_eq_getElem?_getD,List.getElem?_eq_getElem (show j < (aR ws).length by omega)];rfl))
  rw [pK hj] at ed
  subst ed
  generalize (aR ws).getD j 0=z at hj2 k1 k2 ⊢
  walk_at "r"
  refine ⟨_,ie hk rfl,?_⟩
  walk_at "r"
  refine ⟨_,ie hj2 rfl,?_⟩
  walk_at "r"
  cases hc:fO (pw ws k) (pw ws z) with
  | true=>walk_at "r";exact k1 _ _ (by rw [if_pos hc];rfl) ⟨_,rfl⟩
  | false=>walk_at "r";exact k2 _ (by rw [if_neg (by rw [hc];decide)]) ⟨_,rfl⟩
 .rintro τ ⟨v,rfl⟩
  have e1:(List.range ((aR ws).map nD).length).filterMap (fun j=>if fO (pw ws k) (pw ws ((aR ws).getD j 0))=true then some (nD ((aR ws).getD j 0)) else none)=((kF ws k).map fun j=>((j:Nat):Int)).map D.int:=by
   rw [hkm,xt (fun j=>if fO (pw ws k) (pw ws j)=true then some (nD j) else none) (aR ws),cO (fun j=>fO (pw ws k) (pw ws j)) nD,List.map_map]
   rfl
  rw [e1]
  obtain ⟨h0,hh0⟩:=tE hw hk
  walk_at "r"
  refine ⟨by rw [List.length_map];exact List.length_pos_of_mem hh0,fun m hm hle=>?_⟩
  obtain ⟨z,hz,rfl⟩:=List.mem_map.mp hm
  have hz2:z < ws.length:=fX (List.mem_filter.mp hz).1
  have hho:rS ws k=z:=vE hz fun a ha=>by have:=hle _ (List.mem_map_of_mem ha);omega
  walk_at "r"
  refine ⟨_,ie hz2 rfl,?_⟩
  walk_at "r"
  refine ⟨_,ie hk rfl,?_⟩
  walk_at "r"
  unfold ee at q
  rw [hho] at q
  exact q
theorem qX:∀ds Q,bR ds Q->cU ft kY ds Q:=fun ds Q h=>by
 unfold bR at h
 split at h
 .exact p4 _ _ _ _ h
 .exact h.elim
def dr:PTS:=(aL (ky (bo a7 (af (pFz (a5 1)) am))) (aL (kE "Family" [] "pieces" 0 (pCB fV (af (pSl 1) am))) (aL (ba (BO false (af (pFz (pCB ic (af (pFz (qw "Family" ["pieces"] 0 (pSl 0))) am))) am)) (aq 2)) (aL (kE "Family" ["pieces"] "kept" 0 (pCB fV (af (pFz (cW [none,some 0] (dg (a5 2)) (aq 0) (pB (bo ci (af (pFz (qw "Family" ["pieces"] 0 (pSl 1))) (af (pFz (a5 0)) am)))) (a5 0))) am))) (aL (kE "Family" ["pieces","kept"] "words" 0 (pCB fV (af (pFz (cW [none,some 0] (dg (qw "Family" ["pieces","kept"] 1 (pSl 0))) (aq 0) jY (pOp fIx (pFz (qw "Family" ["pieces","kept"] 0 (pSl 1))) (pSl 0)))) am))) (aL (kE "Family" ["pieces","kept","words"] "left" 0 (pCB fV (af (pFz (cW [none,some 0] (dg (a5 2)) (aq 0) (pB (pOp (xv true) (pSl 0) (pFz (qw "Family" ["pieces","kept","words"] 1 (pSl 1))))) (bo bR (af (pFz (qw "Family" ["pieces","kept","words"] 0 (pSl 1))) (af (pFz (qw "Family" ["pieces","kept","words"] 1 (pSl 1))) (af (pFz (a5 0)) am)))))) am))) (aL (kE "Family" ["pieces","kept","words","left"] "laps" 0 (bo bY (af (pFz (qw "Family" ["pieces","kept","words","left"] 2 (pSl 0))) am))) (kE "Family" ["pieces","kept","words","left","laps"] "total" 0 (pCB sY (af (pFz (cW [none] (dg (qw "Family" ["pieces","kept","words","left","laps"] 2 (pSl 0))) (aq 0) jY (pCB ic (af (pSl 0) am)))) am))))))))))
theorem ll (d:D) (Q:PV->PV->Prop) (h:bh (.ins "Family" [] []) ([d]) Q):tZ dr gU (.ins "Family" [] []) ([d]) Q:=by
 show dr _ [some (.ins "Family" [] []),some (.dat (d)),none]
 obtain ⟨ws,hd,⟨hn,hp⟩,q⟩:=h
 have hlm:(ws.map D.str).length=ws.length:=List.length_map _
 have hkl:=jh ws
 have hkm:((aR ws).map nD).length=(aR ws).length:=List.length_map _
 have hrl:(tY 0 (((ws.map D.str).length:Nat):Int).toNat).length=ws.length:=by rw [ji];omega
 have hk1:ws.length<=1000/\∀w∈ws,w.length<=10000:=⟨by omega,fun w hw=>by have:=(hp w hw).2.1;omega⟩
 have hk2:ws.length<=1000/\∀w∈ws,w.length<=60:=⟨by omega,fun w hw=>(hp w hw).2.1⟩
 walk_at "r"
 refine ⟨ws,hd,⟨hn,hp⟩,?_⟩
 rcases hd with rfl | rfl
 .walk_at "r"
  refine cfm (fun τ=>∃v,τ=[v,some (.ins "Family" ["pieces"] [.tup (ws.map .str)])]) (fun j=>if dh ws j=true then some (nD j) else none) ?_ ?_ ?_
  .exact ⟨_,rfl⟩
  .rintro j τ d hj ed ⟨v,rfl⟩ K1 K2 k1 k2
   have hj2:j < ws.length:=by rw [ji] at hj;omega
   rw [nF hj] at ed
   subst ed
   walk_at "r"
   rw [Int.toNat_natCast]
   cases hc:dh ws j with
   | true=>walk_at "r";exact k1 _ _ (by rw [if_pos hc];rfl) ⟨_,rfl⟩
   | false=>walk_at "r";exact k2 _ (by rw [if_neg (by rw [hc];decide)]) ⟨_,rfl⟩
  .rintro τ ⟨v,rfl⟩
   have e1:(List.range (tY 0 (((ws.map D.str).length:Nat):Int).toNat).length).filterMap (fun j=>if dh ws j=true then some (nD j) else none)=(aR ws).map nD:=by
    rw [ji,hlm,Int.toNat_natCast,cO (dh ws) nD];rfl
   rw [e1]
   walk_at "r"
   refine t3 (fun τ=>∃v,τ=[v,some (.ins "Family" ["pieces","kept"] [.tup (ws.map .str),.tup ((aR ws).map nD)])]) (fun k=>.str (pw ws ((aR ws).getD k 0))) ?_ ?_ ?_
   .exact ⟨_,rfl⟩
   .rintro j τ d hj ed ⟨v,rfl⟩ K1 k1
    have hj2:(aR ws).getD j 0 < ws.length:=fX (List.mem_of_getElem? (by rw [List.getD_eq_getElem?_getD,List.getElem?_eq_getElem (show j < (aR ws).length by omega)];rfl))
    rw [pK hj] at ed
    subst ed
    walk_at "r"
    refine ⟨_,ie hj2 rfl,?_⟩
    walk_at "r"
    exact k1 _ ⟨_,rfl⟩
   .rintro τ ⟨v,rfl⟩
    have e2:(List.range ((aR ws).map nD).length).map (fun k=>D.str (pw ws ((aR ws).getD k 0)))=(ak ws).map D.str:=by
     rw [hkm,fg (fun j=>D.str (pw ws j)) (aR ws)]
     unfold ak
     rw [List.map_map];rfl
    rw [e2]
    have hwl:=gD ws
    have hwm:((ak ws).map D.str).length=(ak ws).length:=List.length_map _
    have hwp:=gC hp
    have hwq:(ak ws).length<=1000/\∀w∈ak ws,0 < w.length/\w.length<=10000:=⟨by omega,fun w hw=>⟨(hwp w hw).1,by have:=(hwp w hw).2.1;omega⟩⟩
    have hfl:((aR ws).map nD).all D.fl=true:=B4 _
    walk_at "r"
    refine cfm (fun τ=>∃v,τ=[v,some (.ins "Family" ["pieces","kept","words"] [.tup (ws.map .str),.tup ((aR ws).map nD),.tup ((ak ws).map .str)])]) (fun j=>if (!decide (j∈aR ws))=true then some (ee ws j) else none) ?_ ?_ ?_
    .exact ⟨_,rfl⟩
    .rintro j τ d hj ed ⟨v,rfl⟩ K1 K2 k1 k2
     have hj2:j < ws.length:=by omega
     rw [nF hj] at ed
     subst ed
     have hin:=vF j (aR ws)
     walk_at "r"
     refine ia (tW (fun c=>?_) (fun c=>?_))
     .have c:inD (.int (j:Int)) ((aR ws).map nD)=true:=c
      rw [hin] at c
      exact k2 _ (by rw [c];rfl) ⟨_,rfl⟩
     .have c:inD (.int (j:Int)) ((aR ws).map nD)=false:=c
      rw [hin] at c
      walk_at "r"
      rw [Int.toNat_natCast]
      exact k1 _ _ (by rw [c];rfl) ⟨_,rfl⟩
    .rintro τ ⟨v,rfl⟩
     have e3:(List.range (tY 0 (((ws.map D.str).length:Nat):Int).toNat).length).filterMap (fun j=>if (!decide (j∈aR ws))=true then some (ee ws j) else none)=(vD ws).map (ee ws):=by
      rw [hrl,cO (fun j=>!decide (j∈aR ws)) (ee ws)];rfl
     rw [e3]
     walk_at "r"
     refine t3 (fun τ=>∃v,τ=[v]) (fun k=>.int ((pw (ak ws) k).length:Int)) ?_ ?_ ?_
     .exact ⟨_,rfl⟩
     .rintro j τ d hj ed ⟨v,rfl⟩ K1 k1
      rw [fW hj] at ed
      subst ed
      walk_at "r"
      exact k1 _ ⟨_,rfl⟩
     .rintro τ ⟨v,rfl⟩
      have e4:(List.range ((ak ws).map D.str).length).map (fun k=>D.int ((pw (ak ws) k).length:Int))=((ak ws).map fun w=>(w.length:Int)).map D.int:=by
       rw [hwm,List.map_map]
       conv=>rhs;rw [<- rT (ak ws),List.map_map]
       rfl
      rw [e4]
      walk_at "r"
      exact q
 .walk_at "r"
  refine cfm (fun τ=>∃v,τ=[v,some (.ins "Family" ["pieces"] [.tup (ws.map .str)])]) (fun j=>if dh ws j=true then some (nD j) else none) ?_ ?_ ?_
  .exact ⟨_,rfl⟩
  .rintro j τ d hj ed ⟨v,rfl⟩ K1 K2 k1 k2
   have hj2:j < ws.length:=by rw [ji] at hj;omega
   rw [nF hj] at ed
   subst ed
   walk_at "r"
   rw [Int.toNat_natCast]
   cases hc:dh ws j with
   | true=>walk_at "r";exact k1 _ _ (by rw [if_pos hc];rfl) ⟨_,rfl⟩
   | false=>walk_at "r";exact k2 _ (by rw [if_neg (by rw [hc];decide)]) ⟨_,rfl⟩
  .rintro τ ⟨v,rfl⟩
   have e1:(List.range (tY 0 (((ws.map D.str).length:Nat):Int).toNat).length).filterMap (fun j=>if dh ws j=true then some (nD j) else none)=(aR ws).map nD:=by
    rw [ji,hlm,Int.toNat_natCast,cO (dh ws) nD];rfl
   rw [e1]
   walk_at "r"
   refine t3 (fun τ=>∃v,τ=[v,some (.ins "Family" ["pieces","kept"] [.tup (ws.map .str),.tup ((aR ws).map nD)])]) (fun k=>.str (pw ws ((aR ws).getD k 0))) ?_ ?_ ?_
   .exact ⟨_,rfl⟩
   .rintro j τ d hj ed ⟨v,rfl⟩ K1 k1
    have hj2:(aR ws).getD j 0 < ws.length:=fX (List.mem_of_getElem? (by rw [List.getD_eq_getElem?_getD,List.getElem?_eq_getElem (show j < (aR ws).length by omega)];rfl))
    rw [pK hj] at ed
    subst ed
    walk_at "r"
    refine ⟨_,ie hj2 rfl,?_⟩
    walk_at "r"
    exact k1 _ ⟨_,rfl⟩
   .rintro τ ⟨v,rfl⟩
    have e2:(List.range ((aR ws).map nD).length).map (fun k=>D.str (pw ws ((aR ws).getD k 0)))=(ak ws).map D.str:=by
     rw [hkm,fg (fun j=>D.str (pw ws j)) (aR ws)]
     unfold ak
     rw [List.map_map];rfl
    rw [e2]
    have hwl:=gD ws
    have hwm:((ak ws).map D.str).length=(ak ws).length:=List.length_map _
    have hwp:=gC hp
    have hwq:(ak ws).length<=1000/\∀w∈ak ws,0 < w.length/\w.length<=10000:=⟨by omega,fun w hw=>⟨(hwp w hw).1,by have:=(hwp w hw).2.1;omega⟩⟩
    have hfl:((aR ws).map nD).all D.fl=true:=B4 _
    walk_at "r"
    refine cfm (fun τ=>∃v,τ=[v,some (.ins "Family" ["pieces","kept","words"] [.tup (ws.map .str),.tup ((aR ws).map nD),.tup ((ak ws).map .str)])]) (fun j=>if (!decide (j∈aR ws))=true then some (ee ws j) else none) ?_ ?_ ?_
    .exact ⟨_,rfl⟩
    .rintro j τ d hj ed ⟨v,rfl⟩ K1 K2 k1 k2
     have hj2:j < ws.length:=by omega
     rw [nF hj] at ed
     subst ed
     have hin:=vF j (aR ws)
     walk_at "r"
     refine ia (tW (fun c=>?_) (fun c=>?_))
     .have c:inD (.int (j:Int)) ((aR ws).map nD)=true:=c
      rw [hin] at c
      exact k2 _ (by rw [c];rfl) ⟨_,rfl⟩
     .have c:inD (.int (j:Int)) ((aR ws).map nD)=false:=c
      rw [hin] at c
      walk_at "r"
      rw [Int.toNat_natCast]
      exact k1 _ _ (by rw [c];rfl) ⟨_,rfl⟩
    .rintro τ ⟨v,rfl⟩
     have e3:(List.range (tY 0 (((ws.map D.str).length:Nat):Int).toNat).length).filterMap (fun j=>if (!decide (j∈aR ws))=true then some (ee ws j) else none)=(vD ws).map (ee ws):=by
      rw [hrl,cO (fun j=>!decide (j∈aR ws)) (ee ws)];rfl
     rw [e3]
     walk_at "r"
     refine t3 (fun τ=>∃v,τ=[v]) (fun k=>.int ((pw (ak ws) k).length:Int)) ?_ ?_ ?_
     .exact ⟨_,rfl⟩
     .rintro j τ d hj ed ⟨v,rfl⟩ K1 k1
      rw [fW hj] at ed
      subst ed
      walk_at "r"
      exact k1 _ ⟨_,rfl⟩
     .rintro τ ⟨v,rfl⟩
      have e4:(List.range ((ak ws).map D.str).length).map (fun k=>D.int ((pw (ak ws) k).length:Int))=((ak ws).map fun w=>(w.length:Int)).map D.int:=by
       rw [hwm,List.map_map]
       conv=>rhs;rw [<- rT (ak ws),List.map_map]
       rfl
      rw [e4]
      walk_at "r"
      exact q
theorem lV:∀p ds Q,p.isOwn=true->bh p ds Q->tZ dr gU p ds Q:=fun p ds Q _ h=>by
 unfold bh at h
 split at h
 .exact ll _ _ h
 .exact h.elim
def dt:PTS:=(bF (pCB ic (af (pFz (qw "Family" ["pieces","kept","words","left","laps","total"] 2 (pSl 0))) am)))
theorem lm (c:Str) (ns:List Str) (fs:List D) (Q:PV->Prop) (h:aM ([.obj c ns fs]) Q):cU dt gW ([.obj c ns fs]) Q:=by
 show dt _ [some (.dat (.obj c ns fs))]
 obtain ⟨rfl,rfl,ws,rfl,q⟩:=h
 walk_at "r"
 rw [List.length_map]
 exact q
theorem lW:∀ds Q,aM ds Q->cU dt gW ds Q:=fun ds Q h=>by
 unfold aM at h
 split at h
 .exact lm _ _ _ _ h
 .exact h.elim
def eH:PTS:=(aL (ba (pOp de (pFz (pOp de (pFz (pOp de (pFz (pOp fN (pSl 0) (pFz (pC (.int 2305843009213693951))))) (pFz (pOp px (pFz (pOp px (pSl 1) (pSl 1))) (pFz (pC (.int 48271))))))) (pFz (pOp px (pSl 1) (pFz (pC (.int 9973))))))) (pFz (pC (.int 20021)))) (aq 2)) (aL (ba (pOp fN (pSl 2) (pFz (pC (.int 2305843009213693951)))) (aq 2)) (aL (ba (pOp fN (pFz (pOp px (pSl 2) (pSl 2))) (pFz (pC (.int 2305843009213693951)))) (aq 2)) (aL (ba (pOp fN (pFz (pOp px (pFz (pOp de (pFz (pOp de (pSl 2) (pFz (pOp px (pSl 1) (pFz (pC (.int 16807))))))) (pFz (pC (.int 11))))) (pFz (pC (.int 69621))))) (pFz (pC (.int 2305843009213693951)))) (aq 2)) (bF (pOp Aq (pFz (pOp fN (pFz (pOp px (pSl 2) (pSl 2))) (pFz (pC (.int 2305843009213693951))))) (pFz (pC (.int 4096)))))))))
theorem nV (c k:Int) (Q:PV->Prop) (h:bM ([.int c,.int k]) Q):cU eH jD ([.int c,.int k]) Q:=by
 show eH _ [some (.dat (.int c)),some (.dat (.int k)),none]
 obtain ⟨⟨h0,h1⟩,q⟩:=h
 walk_at "r"
 exact q _ (Int.ediv_nonneg (Int.emod_nonneg _ (by decide)) (by decide))
theorem p5:∀ds Q,bM ds Q->cU eH jD ds Q:=fun ds Q h=>by
 unfold bM at h
 split at h
 .exact nV _ _ _ h
 .exact h.elim
def fu:PTS:=(aL (ba (pOp de (pFz (pCB zu (af (pSl 0) am))) (pFz (fM (af (pFz (pCB ic (af (pSl 0) am))) am)))) (aq 2)) (aL (ba (fM am) (aq 3)) (aL (ba (pC (.int 0)) (aq 4)) (aL (nh (pB (pOp fLt (pFz (pCB ic (af (pSl 3) am))) (pSl 1))) (aL (jc (dg (a5 2)) (aq 5) (aL (ba (a5 5) (aq 6)) (aL (ml (jV (pOr (pB (pOp fGt (pSl 4) (pFz (pC (.int 0))))) (pB (pOp fLt (pSl 5) (pFz (pOp D1 (pFz (pC (.int 10))) (pFz (pC (.int 18)))))))) (aL (ky (zl 3 (pOp fN (pFz (bo bM (af (pFz (a5 5)) (af (pFz (pOp de (pFz (pCB ic (af (pSl 3) am))) (pFz (pC (.int 1))))) am)))) (pFz (pC (.int 1000)))))) (ba (pC (.int 0)) (aq 6))) cD)) (nh (xT (pB (pOp fGt (pSl 6) (pFz (pC (.int 0))))) (pB (pOp fLt (pFz (pCB ic (af (pSl 3) am))) (pSl 1)))) (aL (ky (zl 3 (pOp fN (pSl 6) (pFz (pC (.int 1000)))))) (ba (pOp Aq (pSl 6) (pFz (pC (.int 1000)))) (aq 6))))))) (ba (pOp de (pSl 4) (pFz (pC (.int 1)))) (aq 4)))) (bF (rO (pFz (iy (pSl 3) jz (gN (a5 1))))))))))
theorem p6 (ns:List Int) (mo:Int) (Q:PV->Prop) (h:bZ ([.scr ns,.int mo]) Q):cU fu kZ ([.scr ns,.int mo]) Q:=by
 show fu _ [some (.dat (.scr ns)),some (.dat (.int mo)),none,none,none,none,none]
 obtain ⟨⟨hn,h0,h1⟩,q⟩:=h
 obtain ⟨n,rfl⟩:∃n:Nat,mo=(n:Int):=⟨mo.toNat,by omega⟩
 have ecs:ns.map D.int++[D.int (ns.length:Int)]=(ns++[(ns.length:Int)]).map D.int:=by rw [List.map_append];rfl
 have hnm:(ns.map D.int).length=ns.length:=List.length_map _
 walk_at "r"
 rw [ecs]
 generalize hcs:ns++[(ns.length:Int)]=cs
 have hcl:cs.length=ns.length + 1:=by rw [<- hcs,List.length_append];rfl
 have hcm:(cs.map D.int).length=cs.length:=List.length_map _
 refine ⟨fun m ρ=>∃(x:Option PV) (zs:List Int) (tn:Nat) (v5 v6:Option PV),(x=some (.own (cs.map .int))\/x=some (.dat (.lst (cs.map .int))))/\Dk zs/\zs.length<=n + 65/\tn<=zs.length/\m=n - zs.length/\ρ=[some (.dat (.scr ns)),some (.dat (.int (n:Int))),x,some (.own (zs.map .int)),some (.dat (.int (tn:Int))),v5,v6],⟨n,_,[],0,_,_,.inl rfl,nofun,Nat.zero_le _,Nat.zero_le _,rfl,rfl⟩,?_⟩
 rintro m ρ ⟨x,zs,tn,v5,v6,hx,hz,hzl,htn,hm,rfl⟩
 have hzm:(zs.map D.int).length=zs.length:=List.length_map _
 have fin:∀zs:List Int,Dk zs->n<=zs.length->Q (.own ((zs.take n).map D.int).reverse):=fun zs hz hl=>by
  rw [<- List.map_reverse]
  refine q _ (fun x hx=>hz x (List.mem_of_mem_take (List.mem_reverse.mp hx))) ?_
  rw [List.length_reverse,List.length_take,Int.toNat_natCast];omega
 have p18:((10:Int) ^ (18:Nat))=1000000000000000000:=by decide
 rcases hx with rfl | rfl <;> (
  walk_at "r"
  refine dF (fun c0=>?_) (fun c0=>?_)
  .have c0:zs.length < n:=by omega
   walk_at "r"
   refine ⟨fun k ρ=>∃(ys:List Int) (w5 w6:Option PV),Dk ys/\ys.length<=n + k/\zs.length<=ys.length/\(0 < k->zs.length < ys.length)/\ρ=[some (.dat (.scr ns)),some (.dat (.int (n:Int))),some (.dat (.lst (cs.map .int))),some (.own (ys.map .int)),some (.dat (.int (tn:Int))),w5,w6],⟨zs,_,_,hz,by omega,Nat.le_refl _,fun z=>absurd z (Nat.lt_irrefl _),rfl⟩,?_,?_⟩
   .rintro k ρ d hk ed ⟨ys,w5,w6,hy,hyl,hzy,hpr,rfl⟩
    have hk:k < cs.length:=by rw [hcm] at hk;exact hk
    have ed:d=.int (cs.getD k 0):=by rw [ed];exact qx (by rw [hcm];exact hk)
    subst ed
    generalize cs.getD k 0=c
    have hym:(ys.map D.int).length=ys.length:=List.length_map _
    walk_at "r"
    refine ⟨fun ρ=>∃(us:List Int) (r:Int),Dk us/\0<=r/\((us.length=ys.length + 1/\r=0)\/(us.length=ys.length/\0 < r))/\ρ=[some (.dat (.scr ns)),some (.dat (.int (n:Int))),some (.dat (.lst (cs.map .int))),some (.own (us.map .int)),some (.dat (.int (tn:Int))),some (.dat (.int c)),some (.dat (.int r))],?_,?_⟩
    .have dm:∀(us:List Int) (z:Int),Dk us->Dk (us++[z % 1000]):=fun us z hu x hx=>by
      rcases List.mem_append.mp hx with w | w
      .exact hu x w
      .rw [List.mem_singleton.mp w];exact ⟨Int.emod_nonneg _ (by decide),Int.emod_lt_of_pos _ (by decide)⟩
     have app:∀(us:List Int) (z:Int),us.map D.int++[D.int (z % 1000)]=(us++[z % 1000]).map D.int:=fun us z=>by rw [List.map_append];rfl
     walk_at "r"
     refine dF (fun c1=>?_) (fun c1=>?_)
     .walk_at "r"
      rintro z hz0
      walk_at "r"
      exact ⟨ys++[z % 1000],0,dm ys z hy,by decide,.inl ⟨by rw [List.length_append];rfl,rfl⟩,by rw [<- app]⟩
     .walk_at "r"
      refine dF (fun c2=>?_) (fun c2=>?_)
      .walk_at "r"
       rintro z hz0
       walk_at "r"
       exact ⟨ys++[z % 1000],0,dm ys z hy,by decide,.inl ⟨by rw [List.length_append];rfl,rfl⟩,by rw [<- app]⟩
      .have c3:¬ (c < 1000000000000000000):=c2
       walk_at "r"
       exact ⟨ys,c,hy,by omega,.inr ⟨rfl,by omega⟩,rfl⟩
    .rintro ρ ⟨us,r,hu,hr,hc,rfl⟩
     have dm:∀(us:List Int) (z:Int),Dk us->Dk (us++[z % 1000]):=fun us z hu x hx=>by
      rcases List.mem_append.mp hx with w | w
      .exact hu x w
      .rw [List.mem_singleton.mp w];exact ⟨Int.emod_nonneg _ (by decide),Int.emod_lt_of_pos _ (by decide)⟩
     have app:∀(us:List Int) (z:Int),us.map D.int++[D.int (z % 1000)]=(us++[z % 1000]).map D.int:=fun us z=>by rw [List.map_append];rfl
     walk_at "r"
     refine ⟨fun m ρ=>∃(vs:List Int) (r:Int),Dk vs/\0<=r/\us.length<=vs.length/\(vs.length<=n\/vs.length=us.length)/\(vs.length=us.length->us.length=ys.length->0 < r)/\m=n - vs.length/\ρ=[some (.dat (.scr ns)),some (.dat (.int (n:Int))),some (.dat (.lst (cs.map .int))),some (.own (vs.map .int)),some (.dat (.int (tn:Int))),some (.dat (.int c)),some (.dat (.int r))],⟨_,us,r,hu,hr,Nat.le_refl _,.inr rfl,fun _ e=>by omega,rfl,rfl⟩,?_⟩
     rintro m ρ ⟨vs,r,hv,hr0,huv,hvn,hrp,hm2,rfl⟩
     have hvm:(vs.map D.int).length=vs.length:=List.length_map _
     have done:¬ (0 < r/\vs.length < n)->∃(ys:List Int) (w5 w6:Option PV),Dk ys/\ys.length<=n + (k + 1)/\zs.length<=ys.length/\(0 < k + 1->zs.length < ys.length)/\[some (.dat (.scr ns)),some (.dat (.int (n:Int))),some (.dat (.lst (cs.map .int))),some (.own (vs.map .int)),some (.dat (.int (tn:Int))),some (.dat (.int c)),some (.dat (.int r))]=[some (PV.dat (.scr ns)),some (.dat (.int (n:Int))),some (.dat (.lst (cs.map .int))),some (.own (ys.map .int)),some (.dat (.int (tn:Int))),w5,w6]:=fun hd=>by
      refine ⟨vs,_,_,hv,by omega,by omega,fun _=>?_,rfl⟩
      rcases hc with ⟨e1,e2⟩ | ⟨e1,e2⟩
      .omega
      .by_cases g:vs.length=us.length
       .have:=hrp g e1
        by_cases k0:0 < k
        .have:=hpr k0;omega
        .omega
       .omega
     walk_at "r"
     refine dF (fun c3=>?_) (fun c3=>?_)
     .walk_at "r"
      refine dF (fun c4=>?_) (fun c4=>?_)
      .walk_at "r"
       refine ⟨_,?_,vs++[r % 1000],r / 1000,dm vs r hv,Int.ediv_nonneg hr0 (by decide),?_,?_,?_,rfl,by rw [<- app]⟩
       .rw [List.length_append];show n - (vs.length + 1) < m;omega
       .rw [List.length_append];omega
       .rw [List.length_append];show vs.length + 1<=n\/_;omega
       .rw [List.length_append];intro e;exfalso;have e:vs.length + 1=us.length:=e;omega
      .exact done (by omega)
     .exact done (by omega)
   .rintro ρ ⟨ys,w5,w6,hy,hyl,hzy,hpr,rfl⟩
    rw [hcm] at hyl hpr
    walk_at "r"
    exact ⟨_,by omega,_,ys,tn + 1,_,_,.inr rfl,hy,by omega,by have:=hpr (by omega);omega,rfl,by rw [show ((tn:Int) + 1)=((tn + 1:Nat):Int) by omega]⟩
  .have c0:n<=zs.length:=by omega
   walk_at "r"
   rw [kd,<- List.map_take]
   exact fin zs hz c0)
theorem qY:∀ds Q,bZ ds Q->cU fu kZ ds Q:=fun ds Q h=>by
 unfold bZ at h
 split at h
 .exact p6 _ _ _ h
 .exact h.elim
def fz:PTS:=(bF (Dr 0))
theorem p7 (ds:List D) (Q:PV->PV->Prop) (h:ax (.own ds) ([]) Q):tZ fz k6 (.own ds) ([]) Q:=by
 show fz _ [some (.own ds)]
 obtain ⟨zs,rfl,⟨hz,h0,h1⟩,q⟩:=h
 obtain ⟨ys,z,rfl⟩:∃ys z,zs=ys++[z]:=⟨zs.dropLast,zs.getLast (List.ne_nil_of_length_pos h0),(List.dropLast_concat_getLast _).symm⟩
 have hm:((ys++[z]).map D.int)=ys.map D.int++[D.int z]:=by rw [List.map_append];rfl
 have hl:(ys.map D.int++[D.int z]).length - 1=(ys.map D.int).length:=by rw [List.length_append];rfl
 rw [hm]
 walk_at "r"
 refine ⟨.int z,by rw [hl,List.getElem?_append_right (Nat.le_refl _),Nat.sub_self];rfl,?_⟩
 walk_at "r"
 rw [List.dropLast_concat]
 have hzz:=hz z (List.mem_append_right _ (List.mem_singleton.mpr rfl))
 exact q z ys hzz.1 hzz.2 (fun x hx=>hz x (List.mem_append_left _ hx)) (by rw [List.length_append];rfl)
theorem qZ:∀p ds Q,p.isOwn=true->ax p ds Q->tZ fz k6 p ds Q:=fun p ds Q _ h=>by
 unfold ax at h
 split at h
 .exact p7 _ _ h
 .exact h.elim
def eI:PTS:=(aL (ba (pC (.str [])) (aq 3)) (aL (jc (wY (af (pFz (a5 2)) am)) (aq 4) (ba (pOp de (pSl 3) (pFz (pOp fIx (pSl 1) (pFz (pOp fN (pFz (b9 ax 0 am)) (pFz (pCB ic (af (pSl 1) am)))))))) (aq 3))) (bF (a5 3))))
theorem nW (ds es:List D) (n:Int) (Q:PV->PV->Prop) (h:bN (.own ds) ([.lst es,.int n]) Q):tZ eI jE (.own ds) ([.lst es,.int n]) Q:=by
 show eI _ [some (.own ds),some (.dat (.lst es)),some (.dat (.int n)),none,none]
 obtain ⟨zs,rfl,ls,rfl,⟨hl0,hl1,hL⟩,⟨hz,h1⟩,⟨hn0,hn1⟩,q⟩:=h
 have hlm:(ls.map fun c=>D.str [c]).length=ls.length:=List.length_map _
 walk_at "r"
 refine ⟨fun k ρ=>∃(w:List Nat) (ys:List Int) (v4:Option PV),w.length=k/\Lts w/\(∀c∈w,c∈ls)/\Dk ys/\ys.length + k=zs.length/\ρ=[some (.own (ys.map .int)),some (.dat (.lst (ls.map fun c=>.str [c]))),some (.dat (.int n)),some (.dat (.str w)),v4],⟨[],zs,_,rfl,Lts.nil,(fun c hc=>nomatch hc),hz,rfl,rfl⟩,?_,?_⟩
 .rintro k ρ _ hk rfl ⟨w,ys,v4,hw,hwL,hwc,hy,hyl,rfl⟩
  have hk2:(k:Int) < n:=by omega
  have g1:Dk ys/\0 < ys.length/\ys.length<=100000:=⟨hy,by omega,by omega⟩
  walk_at "r"
  rintro z y2 hz0 hz1 hd2 hl2
  obtain ⟨j,hj⟩:∃j:Nat,z % (ls.length:Int)=(j:Int):=⟨(z % (ls.length:Int)).toNat,by have:=Int.emod_nonneg z (show (ls.length:Int)≠0 by omega);omega⟩
  have hj2:j < ls.length:=by have:=Int.emod_lt_of_pos z (show 0 < (ls.length:Int) by omega);omega
  walk_at "r"
  rw [hlm,hj]
  refine ⟨_,jx (j:=j) (by rw [List.getElem?_map,List.getElem?_eq_getElem hj2];rfl) rfl,?_⟩
  walk_at "r"
  refine ⟨w++[ls[j]],y2,_,by rw [List.length_append,hw];rfl,hwL.app (Lts.one (hL _ (List.getElem_mem hj2))),fun c hc=>?_,hd2,by omega,rfl⟩
  rcases List.mem_append.mp hc with x | x
  .exact hwc c x
  .rw [List.mem_singleton.mp x];exact List.getElem_mem hj2
 .rintro ρ ⟨w,ys,v4,hw,hwL,hwc,hy,hyl,rfl⟩
  walk_at "r"
  exact q w ys hw hwL hwc hy hyl
theorem p8:∀p ds Q,p.isOwn=true->bN p ds Q->tZ eI jE p ds Q:=fun p ds Q _ h=>by
 unfold bN at h
 split at h
 .exact nW _ _ _ _ h
 .exact h.elim
def dO:PTS:=(aL (ba (pOp fN (pFz (b9 ax 0 am)) (pFz (pC (.int 26)))) (aq 2)) (aL (ba (pOp fIx (pFz (fM (af (pFz (pC (.int 2))) (af (pFz (pC (.int 2))) (af (pFz (pC (.int 3))) (af (pFz (pC (.int 26))) am)))))) (pFz (pOp fN (pFz (b9 ax 0 am)) (pFz (pC (.int 4)))))) (aq 3)) (aL (ba (cW [none,some 2] (wY (af (pFz (a5 3)) am)) (aq 0) jY (pOp fIx (pFz (pC (.str [97,98,99,100,101,102,103,104,105,106,107,108,109,110,111,112,113,114,115,116,117,118,119,120,121,122]))) (pFz (pOp fN (pFz (pOp de (pSl 1) (pFz (pOp px (pFz (pC (.int 7))) (pSl 0))))) (pFz (pC (.int 26))))))) (aq 4)) (aL (ba (pOp fN (pFz (b9 ax 0 am)) (pFz (pC (.int 4)))) (aq 5)) (aL (ba (pOp de (pFz (pC (.int 1))) (pFz (pOp fN (pFz (b9 ax 0 am)) (pFz (pC (.int 6)))))) (aq 6)) (aL (ba (pOp px (pFz (b9 bN 0 (af (pFz (a5 4)) (af (pFz (pOp de (pFz (pC (.int 2))) (pFz (pOp fN (pFz (b9 ax 0 am)) (pFz (pC (.int 9))))))) am)))) (pFz (pC (.int 9)))) (aq 7)) (aL (ba (fM am) (aq 8)) (aL (jc (wY (af (pFz (pOp fN (pFz (b9 ax 0 am)) (pFz (pOp de (pSl 1) (pFz (pC (.int 1))))))) am)) (aq 9) (aL (ba (b9 ax 0 am) (aq 10)) (aL (ba (iy (pSl 7) (gN (pOp fN (pSl 10) (pFz (pC (.int 9))))) (gN (pOp de (pFz (pOp de (pFz (pOp fN (pSl 10) (pFz (pC (.int 9))))) (pSl 6))) (pFz (pOp Aq (pFz (pOp fN (pFz (pOp Aq (pSl 10) (pFz (pC (.int 9))))) (pFz (pC (.int 5))))) (pFz (pC (.int 3)))))))) (aq 11)) (aL (ml (jV (pB (pOp t4 (pSl 5) (pFz (pC (.int 2))))) (ba (b9 bN 0 (af (pFz (a5 4)) (af (pFz (pOp de (pFz (pC (.int 1))) (pFz (pOp fN (pSl 10) (pFz (pC (.int 6))))))) am))) (aq 11)) cD)) (aL (ml (jV (pB (pOp t4 (pSl 5) (pFz (pC (.int 3))))) (ba (pOp de (pFz (pOp de (pFz (pOp px (pFz (pOp fIx (pSl 4) (pFz (pC (.int 0))))) (pFz (pOp fN (pSl 10) (pFz (pC (.int 4))))))) (pFz (pOp fIx (pSl 4) (pFz (pC (.int 1))))))) (pFz (pOp px (pFz (pOp fIx (pSl 4) (pFz (pC (.int 0))))) (pFz (pOp fN (pFz (pOp Aq (pSl 10) (pFz (pC (.int 4))))) (pFz (pC (.int 4)))))))) (aq 11)) cD)) (ky (zl 8 (a5 11)))))))) (bF (a5 8))))))))))
theorem lX (ds:List D) (mo:Int) (Q:PV->PV->Prop) (h:bK (.own ds) ([.int mo]) Q):tZ dO iJ (.own ds) ([.int mo]) Q:=by
 show dO _ [some (.own ds),some (.dat (.int mo)),none,none,none,none,none,none,none,none,none,none]
 obtain ⟨zs,rfl,⟨hz,h1⟩,⟨hm0,hm1,hm2⟩,q⟩:=h
 have g0:Dk zs/\0 < zs.length/\zs.length<=100000:=⟨hz,by omega,by omega⟩
 walk_at "r"
 rintro a y1 ha0 ha1 hd1 hl1
 have g1:Dk y1/\0 < y1.length/\y1.length<=100000:=⟨hd1,by omega,by omega⟩
 obtain ⟨f,hf⟩:∃f:Nat,a % 26=(f:Int):=⟨(a % 26).toNat,by omega⟩
 have hf26:f < 26:=by omega
 walk_at "r"
 rintro b y2 hb0 hb1 hd2 hl2
 rw [hf]
 have hm:∃n:Nat,atI [D.int 2,D.int 2,D.int 3,D.int 26] (b % 4)=some (.int (n:Int))/\(n=2\/n=3\/n=26):=by
  rcases (show b % 4=0\/b % 4=1\/b % 4=2\/b % 4=3 by omega) with e | e | e | e <;> rw [e]
  .exact ⟨2,rfl,.inl rfl⟩
  .exact ⟨2,rfl,.inl rfl⟩
  .exact ⟨3,rfl,.inr (.inl rfl)⟩
  .exact ⟨26,rfl,.inr (.inr rfl)⟩
 obtain ⟨n,en,hn⟩:=hm
 have hn26:n<=26:=by omega
 walk_at "r"
 refine ⟨_,en,?_⟩
 walk_at "r"
 refine cmR (fun k=>.str [97 + (f + 7 * k) % 26]) (fun k hk v K1 k1=>?_) (fun v=>?_)
 .have hk:k < n:=by rw [Int.toNat_natCast] at hk;exact hk
  have hk26:k < 26:=by omega
  walk_at "r"
  rw [show ((f:Int) + 7 * (k:Int)) % 26=(((f + 7 * k) % 26:Nat):Int) by omega]
  exact ⟨_,yk (Nat.mod_lt _ (by decide)),k1 _⟩
 rw [Int.toNat_natCast,show (List.range n).map (fun k=>D.str [97 + (f + 7 * k) % 26])=(tK n f).map fun c=>.str [c] by unfold tK;rw [List.map_map];rfl]
 have hll:(tK n f).length=n:=by unfold tK;rw [List.length_map,List.length_range]
 have hL:=wc n f
 generalize tK n f=ls at hll hL
 have gl:0 < ls.length/\ls.length<=26/\Lts ls:=⟨by omega,by omega,hL⟩
 have hlm:(ls.map fun c=>D.str [c]).length=ls.length:=List.length_map _
 have g2:Dk y2/\0 < y2.length/\y2.length<=100000:=⟨hd2,by omega,by omega⟩
 walk_at "r"
 rintro c y3 hc0 hc1 hd3 hl3
 have g3:Dk y3/\0 < y3.length/\y3.length<=100000:=⟨hd3,by omega,by omega⟩
 walk_at "r"
 rintro e y4 he0 he1 hd4 hl4
 have g4:Dk y4/\0 < y4.length/\y4.length<=100000:=⟨hd4,by omega,by omega⟩
 obtain ⟨lo,hlo,hlo6⟩:∃lo:Nat,1 + e % 6=(lo:Int)/\1<=lo/\lo<=6:=⟨(1 + e % 6).toNat,by omega,by omega,by omega⟩
 walk_at "r"
 rintro u y5 hu0 hu1 hd5 hl5
 rw [hlo]
 generalize c % 4=so
 have g5:Dk y5/\y5.length<=100000:=⟨hd5,by omega⟩
 have g6:0<=2 + u % 9/\2 + u % 9<=(y5.length:Int):=⟨by omega,by omega⟩
 have u9:0<=u % 9/\u % 9 < 9:=by omega
 walk_at "r"
 rintro b0 y6 hb0l hb0L _ hd6 hl6
 have w2:(-1000000:Int)<=9/\(9:Int)<=1000000/\Int.toNat 9 * b0.length<=1000000:=⟨by decide,by decide,by show 9 * _<=_;omega⟩
 walk_at "r"
 have hbl:(ke b0 9).length=9 * b0.length:=e7 ..
 have hbL:Lts (ke b0 9):=hb0L.rep _
 generalize ke b0 9=bs at hbl hbL
 have g7:Dk y6/\0 < y6.length/\y6.length<=100000:=⟨hd6,by omega,by omega⟩
 walk_at "r"
 rintro r y7 hr0 hr1 hd7 hl7
 obtain ⟨m,hm,hmm⟩:∃m:Nat,r % (mo + 1)=(m:Int)/\(m:Int)<=mo:=⟨(r % (mo + 1)).toNat,by have:=Int.emod_nonneg r (show mo + 1≠0 by omega);omega,by have:=Int.emod_lt_of_pos r (show 0 < mo + 1 by omega);have:=Int.emod_nonneg r (show mo + 1≠0 by omega);omega⟩
 walk_at "r"
 rw [hm]
 rw [Int.toNat_natCast]
 refine ⟨fun k ρ=>∃(ps:List (List Nat)) (ys:List Int) (v9 v10 v11:Option PV),ps.length=k/\Pcs 60 ps/\Dk ys/\y7.length<=ys.length + 7 * k/\ys.length<=y7.length/\ρ=[some (.own (ys.map .int)),some (.dat (.int mo)),some (.dat (.int (f:Int))),some (.dat (.int (n:Int))),some (.dat (.lst (ls.map fun c=>.str [c]))),some (.dat (.int so)),some (.dat (.int (lo:Int))),some (.dat (.str bs)),some (.own (ps.map .str)),v9,v10,v11],⟨[],y7,_,_,_,rfl,(fun w hw=>nomatch hw),hd7,Nat.le_refl _,Nat.le_refl _,rfl⟩,?_,?_⟩
 .rintro k ρ _ hk rfl ⟨ps,ys,v9,v10,v11,hpl,hps,hdy,hyl,hyl',rfl⟩
  have hpm:(ps.map D.str).length=ps.length:=List.length_map _
  have g8:Dk ys/\0 < ys.length/\ys.length<=100000:=⟨hdy,by omega,by omega⟩
  walk_at "r"
  rintro t y8 ht0 ht1 hd8 hl8
  obtain ⟨p9,hp9,hp9'⟩:∃p9:Nat,t % 9=(p9:Int)/\p9 < 9:=⟨(t % 9).toNat,by omega,by omega⟩
  obtain ⟨x1,hx1,hx1'⟩:∃x1:Nat,t / 9 % 5 / 3=(x1:Int)/\x1<=1:=⟨(t / 9 % 5 / 3).toNat,by omega,by omega⟩
  walk_at "r"
  rw [hp9,hx1]
  have cb:e6 bs (some (p9:Int)) (some ((p9:Int) + (lo:Int) + (x1:Int)))=(bs.drop p9).take (lo + x1):=by
   rw [show (p9:Int) + (lo:Int) + (x1:Int)=((p9 + lo + x1:Nat):Int) by omega,uH,show p9 + lo + x1 - p9=lo + x1 by omega]
  rw [cb]
  have w0:Pc 60 ((bs.drop p9).take (lo + x1)):=⟨by rw [List.length_take,List.length_drop];omega,by rw [List.length_take];omega,(hbL.drop _).take _⟩
  generalize (bs.drop p9).take (lo + x1)=w at w0
  refine ⟨fun ρ=>∃(p:List Nat) (yy:List Int),Pc 60 p/\Dk yy/\y8.length<=yy.length + 6/\yy.length<=y8.length/\ρ=[some (.own (yy.map .int)),some (.dat (.int mo)),some (.dat (.int (f:Int))),some (.dat (.int (n:Int))),some (.dat (.lst (ls.map fun c=>.str [c]))),some (.dat (.int so)),some (.dat (.int (lo:Int))),some (.dat (.str bs)),some (.own (ps.map .str)),some (.dat (.int (k:Int))),some (.dat (.int t)),some (.dat (.str p))],?_,?_⟩
  .walk_at "r"
   refine dF (fun c=>?_) (fun c=>?_)
   .have g9:Dk y8/\y8.length<=100000:=⟨hd8,by omega⟩
    have g10:0<=1 + t % 6/\1 + t % 6<=(y8.length:Int):=⟨by omega,by omega⟩
    walk_at "r"
    rintro w' y9 hw hwL _ hd9 hl9
    walk_at "r"
    exact ⟨w',y9,⟨by omega,by omega,hwL⟩,hd9,by omega,by omega,rfl⟩
   .exact ⟨w,y8,w0,hd8,by omega,by omega,rfl⟩
  rintro ρ ⟨p,y9,pc,hd9,hl9,hl9',rfl⟩
  walk_at "r"
  refine ⟨fun ρ=>∃(p:List Nat),Pc 60 p/\ρ=[some (.own (y9.map .int)),some (.dat (.int mo)),some (.dat (.int (f:Int))),some (.dat (.int (n:Int))),some (.dat (.lst (ls.map fun c=>.str [c]))),some (.dat (.int so)),some (.dat (.int (lo:Int))),some (.dat (.str bs)),some (.own (ps.map .str)),some (.dat (.int (k:Int))),some (.dat (.int t)),some (.dat (.str p))],?_,?_⟩
  .walk_at "r"
   refine dF (fun c=>?_) (fun c=>?_)
   .have s0:=sj (ls:=ls) (j:=0) (by omega)
    have s1:=sj (ls:=ls) (j:=1) (by omega)
    have l0:=yl hL (j:=0) (by omega)
    have l1:=yl hL (j:=1) (by omega)
    generalize ls.getD 0 0=c0 at s0 l0
    generalize ls.getD 1 0=c1 at s1 l1
    have w3:(-1000000:Int)<=t % 4/\t % 4<=1000000/\(t % 4).toNat * [c0].length<=1000000:=⟨by omega,by omega,by show _ * 1<=_;omega⟩
    have w4:(-1000000:Int)<=t / 4 % 4/\t / 4 % 4<=1000000/\(t / 4 % 4).toNat * [c0].length<=1000000:=⟨by omega,by omega,by show _ * 1<=_;omega⟩
    have r3:(ke [c0] (t % 4)).length=(t % 4).toNat * 1:=e7 ..
    have r4:(ke [c0] (t / 4 % 4)).length=(t / 4 % 4).toNat * 1:=e7 ..
    walk_at "r"
    refine ⟨_,s0,?_⟩
    walk_at "r"
    refine ⟨_,s1,?_⟩
    walk_at "r"
    refine ⟨_,s0,?_⟩
    walk_at "r"
    exact ⟨_,⟨by rw [List.length_append,List.length_append];show 0 < _ + 1 + _;omega,by rw [List.length_append,List.length_append];show _ + 1 + _<=60;omega,((l0.rep _).app l1).app (l0.rep _)⟩,rfl⟩
   .exact ⟨p,pc,rfl⟩
  clear pc p
  rintro ρ ⟨p,pc,rfl⟩
  walk_at "r"
  refine ⟨ps++[p],y9,_,_,_,by rw [List.length_append,hpl];rfl,fun w hw=>?_,hd9,by omega,by omega,by rw [List.map_append];rfl⟩
  rcases List.mem_append.mp hw with h | h
  .exact hps w h
  .rw [List.mem_singleton.mp h];exact pc
 .rintro ρ ⟨ps,ys,v9,v10,v11,hpl,hps,hdy,hyl,hyl',rfl⟩
  walk_at "r"
  exact q ps ys (by omega) hps hdy (by omega) (by omega)
theorem nX:∀p ds Q,p.isOwn=true->bK p ds Q->tZ dO iJ p ds Q:=fun p ds Q _ h=>by
 unfold bK at h
 split at h
 .exact lX _ _ _ h
 .exact h.elim
def eJ:PTS:=(aL (ba (fM am) (aq 1)) (aL (jc (kA (af (pFz (a5 0)) am)) (jM 2 (df (aq 2) (df (aq 3) lE))) (aL (ba (cW [none,some 3] (dg (a5 0)) (aq 0) (xT (pB (pOp fGt (pFz (pCB ic (af (pSl 0) am))) (pFz (pCB ic (af (pSl 1) am))))) (pB (pOp (xv false) (pSl 1) (pSl 0)))) (a5 0)) (aq 4)) (jV (xT (pB (pOp t4 (pSl 4) (pFz (fM am)))) (pB (pOp (xv true) (pSl 3) (pFz (iy (pSl 0) jz (gN (a5 2))))))) (ky (zl 1 (a5 3))) cD))) (bF (a5 1))))
theorem nY (ds:List D) (Q:PV->Prop) (h:bO ([.lst ds]) Q):cU eJ jF ([.lst ds]) Q:=by
 show eJ _ [some (.dat (.lst ds)),none,none,none,none]
 obtain ⟨ps,rfl,⟨hn,hw⟩,q⟩:=h
 have hlm:(ps.map D.str).length=ps.length:=List.length_map _
 walk_at "r"
 refine ⟨fun k ρ=>∃v2 v3 v4:Option PV,ρ=[some (.dat (.lst (ps.map .str))),some (.own ((((List.range k).filter (dh ps)).map (pw ps)).map .str)),v2,v3,v4],⟨_,_,_,rfl⟩,?_,?_⟩
 .rintro k ρ d hk ed ⟨v2,v3,v4,rfl⟩
  have hk:k < ps.length:=by rw [hlm] at hk;exact hk
  subst ed
  rw [show itD (ps.map D.str) k=.str (pw ps k) from fU (by rw [List.getElem?_map,fH hk];rfl)]
  have hpm:=jA hk
  obtain ⟨hpl,hpL⟩:=hw _ hpm
  have hml:((((List.range k).filter (dh ps)).map (pw ps)).map D.str).length<=40:=by
   rw [List.length_map,List.length_map]
   refine Nat.le_trans (List.length_filter_le ..) ?_
   rw [List.length_range];omega
  walk_at "r"
  refine cf1 (fun o=>decide ((pw ps k).length < o.length) && fO (pw ps k) o) (fun o=>.str o) (fun o ho v K1 K2 k1 k2=>?_) (fun v=>?_)
  .walk_at "r"
   refine dF (fun c=>?_) (fun c=>?_)
   .walk_at "r"
    cases hs:fO (pw ps k) o with
    | true=>exact k1 _ (by rw [decide_eq_true (by omega:(pw ps k).length < o.length)];exact hs)
    | false=>exact k2 _ (by rw [hs,Bool.and_false])
   .exact k2 _ (by rw [decide_eq_false (by omega:¬ (pw ps k).length < o.length),Bool.false_and])
  .have c1:e6 (ps.map D.str) none (some (k:Int))=(ps.take k).map D.str:=by rw [kd,List.map_take]
   have hfl:(e6 (ps.map D.str) none (some (k:Int))).all D.fl=true:=by rw [c1];exact vG _
   have hin:inD (.str (pw ps k)) (e6 (ps.map D.str) none (some (k:Int)))=decide (pw ps k∈ps.take k):=by rw [c1];exact nE _ _
   have eF:=qO (ws:=ps.filter fun o=>decide ((pw ps k).length < o.length) && fO (pw ps k) o) fun w h=>(hw w (List.mem_filter.mp h).1).2
   have eD:=pT (ps.filter fun o=>decide ((pw ps k).length < o.length) && fO (pw ps k) o)
   have hkb:=z0 (ps:=ps) (k:=k)
   have hrs:((List.range (k + 1)).filter (dh ps)).map (pw ps)=((List.range k).filter (dh ps)).map (pw ps)++(if dh ps k=true then [pw ps k] else []):=by
    rw [List.range_succ,List.filter_append,List.map_append]
    congr 1
    rw [List.filter_cons]
    split <;> rfl
   rw [hrs]
   generalize ((List.range k).filter (dh ps)).map (pw ps)=ks at hml ⊢
   have hk1:(ks.map D.str).length<=40:=hml
   walk_at "r"
   rw [eD]
   refine dF (fun c=>?_) (fun c=>?_)
   .walk_at "r"
    rw [hin]
    refine ia (tW (fun c2=>?_) (fun c2=>?_))
    .walk_at "r"
     have e:dh ps k=false:=by rw [hkb,c2,Bool.not_true,Bool.and_false]
     exact ⟨_,_,_,by rw [e,if_neg (by decide),List.append_nil]⟩
    .walk_at "r"
     have e:dh ps k=true:=by rw [hkb,c2,decide_eq_true c];rfl
     exact ⟨_,_,_,by rw [e,if_pos rfl,List.map_append];rfl⟩
   .walk_at "r"
    have e:dh ps k=false:=by rw [hkb,decide_eq_false c,Bool.false_and]
    exact ⟨_,_,_,by rw [e,if_neg (by decide),List.append_nil]⟩
 .rintro ρ ⟨v2,v3,v4,rfl⟩
  rw [hlm]
  walk_at "r"
  exact q
theorem qa:∀ds Q,bO ds Q->cU eJ jF ds Q:=fun ds Q h=>by
 unfold bO at h
 split at h
 .exact nY _ _ h
 .exact h.elim
def gH:PTS:=(aL (jc (Do (af (pFz (pOp xg (pFz (pCB wZ (af (pFz (pCB ic (af (pSl 0) am))) (af (pFz (pCB ic (af (pSl 1) am))) am)))) (pFz (pC (.int 1))))) (af (pFz (pC (.int 0))) (af (pFz (pUn BX (pFz (pC (.int 1))))) am)))) (aq 2) (jV (pB (pOp t4 (pFz (iy (pSl 0) (gN (pOp xg (pFz (pCB ic (af (pSl 0) am))) (pSl 2))) jz)) (pFz (iy (pSl 1) jz (gN (a5 2)))))) (bF (a5 2)) cD)) (bF (pC (.int 0))))
theorem rc (a b:List Nat) (Q:PV->Prop) (h:bU ([.str a,.str b]) Q):cU gH mG ([.str a,.str b]) Q:=by
 show gH _ [some (.dat (.str a)),some (.dat (.str b)),none]
 obtain ⟨a1,⟨b0,b1⟩,q⟩:=h
 have hm:(if (b.length:Int) < (a.length:Int) then (b.length:Int) else (a.length:Int))=((min a.length b.length:Nat):Int):=by split <;> omega
 walk_at "r"
 rw [hm]
 refine ⟨fun i ρ=>(∃v2:Option PV,ρ=[some (.dat (.str a)),some (.dat (.str b)),v2])/\∀j,min a.length b.length - i<=j->j < min a.length b.length->¬ b.take j <:+ a,⟨⟨_,rfl⟩,fun j h1 h2=>by omega⟩,?_,?_⟩
 .rintro i ρ d hi ed ⟨⟨v2,rfl⟩,ih⟩
  obtain ⟨k,hk,hk2⟩:∃k:Nat,(((min a.length b.length:Nat):Int) - 1) - (i:Int)=(k:Int)/\k=min a.length b.length - 1 - i:=⟨min a.length b.length - 1 - i,by omega,rfl⟩
  have hk0:0 < k:=by omega
  rw [hk] at ed
  subst ed
  have cd:e6 a (some ((a.length:Int) - (k:Int))) none=a.drop (a.length - k):=by rw [show (a.length:Int) - (k:Int)=((a.length - k:Nat):Int) by omega,oQ]
  have ct:=kd b k
  walk_at "r"
  rw [cd,ct]
  refine dF (fun c=>?_) (fun c=>?_)
  .walk_at "r"
   rw [show eC a b=k from nC ⟨by omega,by rw [<- c];exact List.drop_suffix ..,fun j h1 h2=>by
    rcases Nat.lt_or_ge k j with h | h
    .exact absurd h2 (ih j (by omega) h1)
    .exact h⟩] at q
   exact q
  .refine ⟨⟨_,rfl⟩,fun j h1 h2=>?_⟩
   by_cases hj:j=k
   .subst hj
    intro z
    refine c ?_
    obtain ⟨t,ht⟩:=z
    have hl:=congrArg List.length ht
    rw [List.length_append,List.length_take] at hl
    rw [<- ht,show (t++b.take j).length - j=t.length by rw [List.length_append,List.length_take];omega,List.drop_left]
   .exact ih j (by omega) h2
 .rintro ρ ⟨⟨v2,rfl⟩,ih⟩
  walk_at "r"
  by_cases a0:0 < a.length
  .rw [show eC a b=0 from nC ⟨by omega,by rw [List.take_zero];exact List.nil_suffix,fun j h1 h2=>by
    rcases Nat.lt_or_ge 0 j with h | h
    .exact absurd h2 (ih j (by omega) h1)
    .exact h⟩] at q
   exact q
  .rw [show eC a b=0 by
    unfold eC
    rw [dif_neg]
    rintro ⟨k,hk⟩
    have:=hk.1
    omega] at q
   exact q
theorem tQ:∀ds Q,bU ds Q->cU gH mG ds Q:=fun ds Q h=>by
 unfold bU at h
 split at h
 .exact rc _ _ _ h
 .exact h.elim
def fA:PTS:=(bF (D4 (cW [none,some 0] (dg (a5 0)) (aq 0) jY (cW [none,some 0] (dg (a5 1)) (aq 0) jY (bo bU (af (pFz (a5 1)) (af (pFz (a5 0)) am)))))))
theorem qb (ds:List D) (Q:PV->Prop) (h:b7 ([.lst ds]) Q):cU fA k7 ([.lst ds]) Q:=by
 show fA _ [some (.dat (.lst ds))]
 obtain ⟨ws,rfl,hwo,q⟩:=h
 have hwm:(ws.map D.str).length=ws.length:=List.length_map _
 have hn40:=hwo.1
 walk_at "r"
 
 refine cm1 (e:=D.str) (xs:=ws) (fun w=>CI ws w) (fun w hw v K1 k1=>?_) (fun v=>?_)
 .have w1:=hwo.2 w hw
  walk_at "r"
  refine cm1 (e:=D.str) (xs:=ws) (fun u=>.int (eC w u:Int)) (fun u hu v K1 k1=>?_) (fun v=>?_)
  .have u1:=hwo.2 u hu
   have w2:w.length<=10000:=by omega
   walk_at "r"
   exact k1 _
  .exact k1 _
 .exact q
theorem rd:∀ds Q,b7 ds Q->cU fA k7 ds Q:=fun ds Q h=>by
 unfold b7 at h
 split at h
 .exact qb _ _ h
 .exact h.elim
def dP:PTS:=(aL (ba (pCB ic (af (pSl 0) am)) (aq 3)) (aL (jc (wY (af (pFz (a5 3)) am)) (aq 4) (aL (ba (cW [none,some 4,some 1,some 2,some 0] (wY (af (pFz (a5 3)) am)) (aq 0) (xT (pB (pOp vx (pSl 0) (pSl 1))) (pB (pOp fLt (pFz (pOp de (pFz (pOp fIx (pSl 2) (pSl 1))) (pFz (pOp fIx (pSl 3) (pSl 0))))) (pFz (pOp fIx (pFz (pOp fIx (pSl 4) (pSl 1))) (pSl 0)))))) (a5 0)) (aq 5)) (jV (pB (pOp vx (pSl 5) (pFz (fM am)))) (bF (pC (.bl false))) cD))) (bF (pC (.bl true)))))
theorem lY (ls gd td:List D) (Q:PV->Prop) (h:bx ([.lst ls,.lst gd,.lst td]) Q):cU dP iK ([.lst ls,.lst gd,.lst td]) Q:=by
 show dP _ [some (.dat (.lst ls)),some (.dat (.lst gd)),some (.dat (.lst td)),none,none,none]
 obtain ⟨ws,rfl,gs,rfl,ts,rfl,⟨hn,⟨gl,g0⟩,⟨tl,t0⟩⟩,q⟩:=h
 have hlm:(fm ws).length=ws.length:=List.length_map _
 walk_at "r"
 rw [hlm,Int.toNat_natCast]
 refine ⟨fun k ρ=>(∃v4 v5:Option PV,ρ=[some (.dat (.lst (fm ws))),some (.dat (.lst (gs.map .int))),some (.dat (.lst (ts.map .int))),some (.dat (.int (ws.length:Int))),v4,v5])/\∀i,i < k->∀j,j < ws.length->i≠j->(eC (pw ws i) (pw ws j):Int)<=gs.getD i 0 + ts.getD j 0,⟨⟨_,_,rfl⟩,fun i hi=>absurd hi (Nat.not_lt_zero i)⟩,?_,?_⟩
 .rintro k ρ _ hk rfl ⟨⟨v4,v5,rfl⟩,ih⟩
  walk_at "r"
  refine cfR (fun j=>decide (k≠j) && decide (gs.getD k 0 + ts.getD j 0 < (eC (pw ws k) (pw ws j):Int))) (fun j=>nD j) (fun j hj v K1 K2 k1 k2=>?_) (fun v=>?_)
  .have hj:j < ws.length:=by rw [Int.toNat_natCast] at hj;exact hj
   walk_at "r"
   refine kq (fun c=>?_) (fun c=>?_)
   .walk_at "r"
    refine ⟨_,kS (show k < gs.length by omega),?_⟩
    walk_at "r"
    refine ⟨_,kS (show j < ts.length by omega),?_⟩
    walk_at "r"
    refine ⟨_,xB hk,?_⟩
    walk_at "r"
    refine ⟨_,yh hj,?_⟩
    walk_at "r"
    refine dF (fun c2=>?_) (fun c2=>?_)
    .exact k1 _ (by rw [decide_eq_true (show k≠j by omega),decide_eq_true c2];rfl)
    .exact k2 _ (by rw [decide_eq_false c2,Bool.and_false])
   .exact k2 _ (by rw [decide_eq_false (show ¬ k≠j by omega),Bool.false_and])
  rw [Int.toNat_natCast]
  generalize hL:((List.range ws.length).filter fun j=>decide (k≠j) && decide (gs.getD k 0 + ts.getD j 0 < (eC (pw ws k) (pw ws j):Int)))=L
  have e1:=tL L
  have e2:=qP L
  have nil:L=[] ↔ ∀j,j < ws.length->k≠j->(eC (pw ws k) (pw ws j):Int)<=gs.getD k 0 + ts.getD j 0:=by
   rw [<- hL,List.filter_eq_nil_iff]
   constructor
   .intro h j hj hkj
    have:=h j (List.mem_range.mpr hj)
    rw [decide_eq_true hkj,Bool.true_and,decide_eq_true_eq] at this
    omega
   .intro h j hj z
    rw [Bool.and_eq_true,decide_eq_true_eq,decide_eq_true_eq] at z
    have:=h j (List.mem_range.mp hj) z.1
    omega
  walk_at "r"
  rw [e2]
  refine kq (fun c=>?_) (fun c=>?_)
  .walk_at "r"
   refine q false ⟨fun z=>(by cases z),fun z=>absurd (nil.mpr fun j hj hkj=>(z k hk).2 j hj hkj) c⟩
  .refine ⟨⟨_,_,rfl⟩,fun i hi j hj hij=>?_⟩
   by_cases e:i=k
   .subst e;exact nil.mp c j hj hij
   .exact ih i (by omega) j hj hij
 .rintro ρ ⟨⟨v4,v5,rfl⟩,ih⟩
  walk_at "r"
  refine q true ⟨fun _ i hi=>⟨⟨g0 _ (pS (by omega)),t0 _ (pS (by omega))⟩,ih i hi⟩,fun _=>rfl⟩
theorem nZ:∀ds Q,bx ds Q->cU dP iK ds Q:=fun ds Q h=>by
 unfold bx at h
 split at h
 .exact lY _ _ _ _ h
 .exact h.elim
def dQ:PTS:=(aL (ba (cW [none,some 0] (dg (a5 1)) (aq 0) jY (pOp Aq (pFz (pOp fN (pFz (b9 ax 1 am)) (pFz (pC (.int 5))))) (pFz (pC (.int 2))))) (aq 2)) (aL (ba (fM am) (aq 3)) (aL (jc (kA (af (pFz (a5 1)) am)) (jM 2 (df (aq 4) (df (aq 5) lE))) (aL (ba (pCB zD (af (pFz (pOp de (pFz (fM (af (pFz (pC (.int 0))) am))) (pFz (cW [none,none,some 2,some 4] (kA (af (pFz (a5 5)) am)) (jM 2 (df (aq 0) (df (aq 1) lE))) (pB (pOp vx (pSl 0) (pSl 3))) (pOp xg (pSl 1) (pFz (pOp fIx (pSl 2) (pSl 0)))))))) am)) (aq 6)) (ky (zl 3 (pOp de (pSl 6) (pFz (pOp fIx (pFz (fM (af (pFz (pC (.int 0))) (af (pFz (pC (.int 0))) (af (pFz (pC (.int 0))) (af (pFz (pC (.int 1))) (af (pFz (pOp D1 (pFz (pC (.int 10))) (pFz (pC (.int 20))))) am))))))) (pFz (pOp fN (pFz (b9 ax 0 am)) (pFz (pC (.int 5)))))))))))) (aL (ml (jV (xT (pB (pOp t4 (pFz (pOp fN (pFz (b9 ax 0 am)) (pFz (pC (.int 2))))) (pFz (pC (.int 0))))) (pB (pOp vx (pSl 1) (pFz (fM am))))) (aL (ba (pOp fN (pFz (b9 ax 0 am)) (pFz (pCB ic (af (pSl 1) am)))) (aq 7)) (aL (Cj 5 3 2 (pOp fN (pFz (b9 ax 0 am)) (pFz (pC (.int 2)))) (pCB zn (af (pFz (pC (.int 0))) (af (pFz (pOp xg (pFz (pOp xg (pFz (pOp fIx (pSl 5) (pSl 7))) (pFz (pC (.int 1))))) (pFz (pOp fN (pFz (b9 ax 0 am)) (pFz (pC (.int 2))))))) am))) (a5 7)) cD)) cD)) (bF (xS (af (pFz (a5 3)) (af (pFz (a5 2)) am))))))))
theorem lZ (ds ls:List D) (Q:PV->PV->Prop) (h:bL (.own ds) ([.lst ls]) Q):tZ dQ iL (.own ds) ([.lst ls]) Q:=by
 show dQ _ [some (.own ds),some (.dat (.lst ls)),none,none,none,none,none,none]
 obtain ⟨zs,rfl,ws,rfl,⟨hn,hz,hzl,hzu⟩,q⟩:=h
 have hlm:(fm ws).length=ws.length:=List.length_map _
 walk_at "r"
 rw [hlm]
 refine ⟨fun k ys τ=>∃(v:Option PV) (y:List Int) (ts:List Int),τ=[v,some (.own (y.map .int))]/\Dk y/\y.length + k=zs.length/\ys=ts.map .int/\Prc k ts,⟨none,zs,[],rfl,hz,rfl,rfl,rfl,fun z hz=>nomatch hz⟩,?_,?_⟩
 .rintro k ys τ _ hk rfl ⟨v,y,ts,rfl,hy,hyl,rfl,ht⟩
  have g1:Dk y/\0 < y.length/\y.length<=100000:=⟨hy,by omega,by omega⟩
  walk_at "r"
  rintro a y1 ha0 ha1 hd1 hl1
  walk_at "r"
  exact ⟨_,y1,ts++[a % 5 / 2],rfl,hd1,by omega,by rw [List.map_append];rfl,ht.app (by omega)⟩
 rintro ys τ ⟨v,y,ts,rfl,hy,hyl,rfl,ht⟩
 have htm:(ts.map D.int).length=ts.length:=List.length_map _
 have htl:=ht.1
 walk_at "r"
 refine ⟨fun k ρ=>∃(gs yy:List Int) (v4 v5 v6:Option PV),Prc k gs/\Dk yy/\yy.length + k=y.length/\ρ=[some (.own (yy.map .int)),some (.dat (.lst (fm ws))),some (.own (ts.map .int)),some (.own (gs.map .int)),v4,v5,v6,none],⟨[],y,_,_,_,⟨rfl,fun z hz=>nomatch hz⟩,hy,rfl,rfl⟩,?_,?_⟩
 .rintro k ρ d hk ed ⟨gs,yy,v4,v5,v6,hg,hyy,hyl2,rfl⟩
  have hk:k < ws.length:=by rw [hlm] at hk;exact hk
  subst ed
  rw [show itD (fm ws) k=CI ws (pw ws k) from fU (by rw [List.getElem?_map,fH hk];rfl)]
  have hgm:(gs.map D.int).length=gs.length:=List.length_map _
  have hgl:=hg.1
  have hwm:(ws.map fun v=>D.int (eC (pw ws k) v:Int)).length=ws.length:=List.length_map _
  walk_at "r"
  refine cfm (fun τ=>∃v w,τ=[v,w,some (.own (ts.map .int)),some (.dat (.int (k:Int)))]) (fun j=>if k≠j then some (.int ((eC (pw ws k) (pw ws j):Int) - ts.getD j 0)) else none) ?_ ?_ ?_
  .exact ⟨_,_,rfl⟩
  .rintro j τ d hj ed ⟨v,w,rfl⟩ K1 K2 k1 k2
   have hj:j < ws.length:=by rw [hwm] at hj;exact hj
   subst ed
   rw [show itD (ws.map fun v=>D.int (eC (pw ws k) v:Int)) j=.int (eC (pw ws k) (pw ws j):Int) from fU (by rw [List.getElem?_map,fH hj];rfl)]
   walk_at "r"
   refine kq (fun c=>?_) (fun c=>?_)
   .walk_at "r"
    refine ⟨_,kS (show j < ts.length by omega),?_⟩
    walk_at "r"
    exact k1 _ _ (by rw [if_pos (by omega)]) ⟨_,_,rfl⟩
   .exact k2 _ (by rw [if_neg (by omega)]) ⟨_,_,rfl⟩
  rintro τ ⟨v,w,rfl⟩
  obtain ⟨L,hL⟩:∃L:List Int,(List.range (ws.map fun v=>D.int (eC (pw ws k) v:Int)).length).filterMap (fun j=>if k≠j then some (D.int ((eC (pw ws k) (pw ws j):Int) - ts.getD j 0)) else none)=L.map .int:=by
   generalize List.range (ws.map fun v=>D.int (eC (pw ws k) v:Int)).length=R
   induction R with
   | nil=>exact ⟨[],rfl⟩
   | cons a r ih =>
    obtain ⟨L,hL⟩:=ih
    rw [List.filterMap_cons]
    by_cases c:k≠a
    .exact ⟨_::L,by rw [if_pos c,hL];rfl⟩
    .exact ⟨L,by rw [if_neg c,hL]⟩
  have hLl:(L.map D.int).length<=40:=by rw [<- hL];exact Nat.le_trans (List.length_filterMap_le ..) (by rw [List.length_range,hwm];exact hn)
  rw [hL]
  have hL1:[D.int 0].length + (L.map D.int).length<=1000000:=by show 1 + _<=_;omega
  walk_at "r"
  refine ⟨0::L,rfl,Nat.zero_lt_succ _,fun mx hmx hmx2=>?_⟩
  have hm0:=hmx2 0 List.mem_cons_self
  have g2:Dk yy/\0 < yy.length/\yy.length<=100000:=⟨hyy,by omega,by omega⟩
  walk_at "r"
  rintro a y2 ha0 ha1 hd2 hl2
  obtain ⟨r5,h5,h50⟩:=Ab a
  walk_at "r"
  refine ⟨_,h5,?_⟩
  walk_at "r"
  exact ⟨gs++[mx + r5],y2,_,_,_,hg.app (by omega),hd2,by omega,by rw [List.map_append];rfl⟩
 rintro ρ ⟨gs,yy,v4,v5,v6,hg,hyy,hyl2,rfl⟩
 rw [hlm] at hg hyl2
 have hgl:=hg.1
 have hgm:(gs.map D.int).length=gs.length:=List.length_map _
 have g3:Dk yy/\0 < yy.length/\yy.length<=100000:=⟨hyy,by omega,by omega⟩
 have e1:=k9 ws
 have e2:=jG ws
 walk_at "r"
 refine ⟨fun ρ=>∃(gs ts y3:List Int) (v4 v5 v6 v7:Option PV),Prc ws.length gs/\Prc ws.length ts/\Dk y3/\yy.length<=y3.length + 4/\y3.length<=yy.length/\ρ=[some (.own (y3.map .int)),some (.dat (.lst (fm ws))),some (.own (ts.map .int)),some (.own (gs.map .int)),v4,v5,v6,v7],?_,?_⟩
 .walk_at "r"
  rintro a y2 ha0 ha1 hd2 hl2
  walk_at "r"
  refine dF (fun c=>?_) (fun c=>?_)
  .walk_at "r"
   rw [e2]
   refine kq (fun c2=>?_) (fun c2=>?_)
   .have hw0:0 < ws.length:=List.length_pos_iff.mpr c2
    have g4:Dk y2/\0 < y2.length/\y2.length<=100000:=⟨hd2,by omega,by omega⟩
    walk_at "r"
    rintro b y3 hb0 hb1 hd3 hl3
    obtain ⟨j,hj,hj2⟩:∃j:Nat,b % (ws.length:Int)=(j:Int)/\j < ws.length:=⟨(b % (ws.length:Int)).toNat,by have:=Int.emod_nonneg b (show (ws.length:Int)≠0 by omega);omega,by have:=Int.emod_lt_of_pos b (show 0 < (ws.length:Int) by omega);have:=Int.emod_nonneg b (show (ws.length:Int)≠0 by omega);omega⟩
    have g5:Dk y3/\0 < y3.length/\y3.length<=100000:=⟨hd3,by omega,by omega⟩
    walk_at "r"
    refine ⟨⟨_,rfl⟩,⟨_,rfl⟩,?_⟩
    walk_at "r"
    rintro c y4 hc0 hc1 hd4 hl4
    have g6:Dk y4/\0 < y4.length/\y4.length<=100000:=⟨hd4,by omega,by omega⟩
    rw [hlm,hj]
    walk_at "r"
    refine ⟨(c % 2).toNat,?_,?_,?_⟩
    .unfold ixN
     rw [if_pos (by omega),if_pos (by omega)]
    .intro _
     walk_at "r"
     refine ⟨_,kS (show j < gs.length by omega),?_⟩
     walk_at "r"
     rintro d y5 he0 he1 hd5 hl5
     walk_at "r"
     refine ⟨j,?_,?_⟩
     .unfold ixN;rw [hgm,if_pos (by omega),if_pos (by omega),Int.toNat_natCast]
     walk_at "r"
     rw [<- List.map_set (f:=D.int)]
     exact ⟨_,ts,y5,_,_,_,_,hg.set (by split <;> omega),ht,hd5,by omega,by omega,rfl⟩
    .intro _
     walk_at "r"
     refine ⟨_,kS (show j < ts.length by omega),?_⟩
     walk_at "r"
     rintro d y5 he0 he1 hd5 hl5
     walk_at "r"
     refine ⟨j,?_,?_⟩
     .unfold ixN;rw [htm,if_pos (by omega),if_pos (by omega),Int.toNat_natCast]
     walk_at "r"
     rw [<- List.map_set (f:=D.int)]
     exact ⟨gs,_,y5,_,_,_,_,hg,ht.set (by split <;> omega),hd5,by omega,by omega,rfl⟩
   .exact ⟨gs,ts,y2,_,_,_,_,hg,ht,hd2,by omega,by omega,rfl⟩
  .exact ⟨gs,ts,y2,_,_,_,_,hg,ht,hd2,by omega,by omega,rfl⟩
 clear hg ht hgl htl hgm htm gs ts
 rintro ρ ⟨gs,ts,y3,v4,v5,v6,v7,hg,ht,hd3,hl3,hl3',rfl⟩
 walk_at "r"
 exact q gs ts y3 hg ht hd3 (by omega) (by omega)
theorem n4:∀p ds Q,p.isOwn=true->bL p ds Q->tZ dQ iL p ds Q:=fun p ds Q _ h=>by
 unfold bL at h
 split at h
 .exact lZ _ _ _ h
 .exact h.elim
def fB:PTS:=(aL (ba (pOp fN (pFz (b9 ax 0 am)) (pFz (pCB ic (af (pSl 1) am)))) (aq 3)) (aL (ba (pOp fN (pFz (b9 ax 0 am)) (pFz (pC (.int 5)))) (aq 4)) (Cg 5 (Ci 1 2) (tG (DC (ba (pOp fN (pFz (b9 ax 0 am)) (pFz (pC (.int 2)))) (aq 6))) (tG (yb (DB (pB (pOp t4 (pSl 4) (pFz (pC (.int 0))))) (Cf (pOp fIx (pFz (fM (af (pFz (pUn BX (pFz (pC (.int 1))))) (af (pFz (pC (.bl true))) (af (pFz (pC .non)) (af (pFz (pC (.str [49]))) (af (pFz (fM (af (pFz (pC (.int 1))) am))) am))))))) (pFz (pOp fN (pFz (b9 ax 0 am)) (pFz (pC (.int 5)))))) (a5 6) (a5 3)) (DB (pB (pOp t4 (pSl 4) (pFz (pC (.int 1))))) (tG (yc 5 (ba (fM (af (pFz (pOp de (pFz (pOp fIx (pSl 5) (pSl 6))) (pFz (fM (af (pFz (pC (.int 9))) am))))) (af (pFz (iy (pFz (pOp fIx (pSl 5) (pSl 6))) (gN (pC (.int 1))) jz)) (af (pFz (pC .non)) (af (pFz zC) (af (pFz (pOp px (pFz (pC (.str [57]))) (pFz (pCB ic (af (pSl 1) am))))) am)))))) (aq 7))) (yc 5 (pD 5 (pOp fIx (pSl 7) (pFz (pOp fN (pFz (b9 ax 0 am)) (pFz (pC (.int 5)))))) (a5 6)))) (tG (DC (ba (pOp fIx (pFz (fM (af (pFz (pOp fIx (pFz (fM (af (pFz (pC (.str [69,110,100]))) (af (pFz (pC (.str []))) (af (pFz (pC .non)) (af (pFz (pC (.int 0))) (af (pFz (fM (af (pFz (pC (.str [101,110,100]))) am))) (af (pFz (pC (.str [112,97,114,116]))) am)))))))) (pFz (pOp fN (pFz (b9 ax 0 am)) (pFz (pC (.int 6))))))) (af (pFz (pC (.str [101,110,100]))) am)))) (pFz (pOp fN (pSl 4) (pFz (pC (.int 2)))))) (aq 8))) (tG (yc 5 (ba (fM (af (pFz (fM (af (pFz (a5 8)) (af (pFz (pOp fIx (pSl 5) (pFz (pC (.int 0))))) am)))) (af (pFz (fM (af (pFz (a5 8)) (af (pFz (pOp fIx (pSl 5) (pFz (pC (.int 0))))) (af (pFz (pOp fIx (pSl 5) (pFz (pC (.int 1))))) (af (pFz (fM am)) am)))))) (af (pFz (xS (af (pFz (a5 8)) am))) (af (pFz (a5 8)) am))))) (aq 7))) (yc 5 (bF (pOp fIx (pSl 7) (pFz (pOp fN (pFz (b9 ax 0 am)) (pFz (pC (.int 4))))))))))))) (yc 5 (bF (xS (af (pFz (pC (.str [101,110,100]))) (af (pFz (pOp fIx (pSl 5) (pFz (pC (.int 0))))) (af (pFz (pOp fIx (pSl 5) (pFz (pC (.int 1))))) am)))))))))))
theorem qc (ds gd td:List D) (Q:PV->PV->Prop) (h:cC (.own ds) ([.lst gd,.lst td]) Q):tZ fB la (.own ds) ([.lst gd,.lst td]) Q:=by
 show fB _ [some (.own ds),some (.dat (.lst gd)),some (.dat (.lst td)),none,none,none,none,none,none]
 obtain ⟨zs,rfl,gs,rfl,ts,rfl,n,gl,⟨tl,n0,n40⟩,⟨hz,h5,hzu⟩,q⟩:=h
 have hgm:(gs.map D.int).length=gs.length:=List.length_map _
 have htm:(ts.map D.int).length=ts.length:=List.length_map _
 have og:=dR (zs:=gs) (by omega)
 have ot:=dR (zs:=ts) (by omega)
 have g0:Dk zs/\0 < zs.length/\zs.length<=100000:=⟨hz,by omega,by omega⟩
 walk_at "r"
 rintro a y1 ha0 ha1 hd1 hl1
 obtain ⟨j,hj,hj2⟩:∃j:Nat,a % (gs.length:Int)=(j:Int)/\j < gs.length:=⟨(a % (gs.length:Int)).toNat,by have:=Int.emod_nonneg a (show (gs.length:Int)≠0 by omega);omega,by have:=Int.emod_lt_of_pos a (show 0 < (gs.length:Int) by omega);have:=Int.emod_nonneg a (show (gs.length:Int)≠0 by omega);omega⟩
 have g1:Dk y1/\0 < y1.length/\y1.length<=100000:=⟨hd1,by omega,by omega⟩
 walk_at "r"
 rintro b y2 hb0 hb1 hd2 hl2
 rw [hgm,hj]
 have g2:Dk y2/\0 < y2.length/\y2.length<=100000:=⟨hd2,by omega,by omega⟩
 walk_at "r"
 refine ⟨_,_,_,_,rfl,rfl,fh.lst _,fh.lst _,?_⟩
 walk_at "r"
 rintro c y3 hc0 hc1 hd3 hl3
 have g3:Dk y3/\0 < y3.length/\y3.length<=100000:=⟨hd3,by omega,by omega⟩
 walk_at "r"
 refine ⟨fun ρ m=>∃(v7 v8:Option PV) (sd:Int) (r0 r1:D) (yy:List Int),(im r0/\im r1/\(prB r0 n=false\/prB r1 n=false)/\Dk yy/\zs.length<=yy.length + 5/\yy.length<=zs.length)/\cl 5 ρ m=[some (.own (yy.map .int)),some (.dat (.lst (gs.map .int))),some (.dat (.lst (ts.map .int))),some (.dat (.int (j:Int))),some (.dat (.int (b % 5))),some (.own [r0,r1]),some (.dat (.int sd)),v7,v8],?_,?_⟩
 .walk_at "r"
  refine dF (fun c0=>?_) (fun c0=>?_)
  .walk_at "r"
   rintro e y4 he0 he1 hd4 hl4
   obtain ⟨v,hv,vs,vb⟩:=Cn e
   walk_at "r"
   refine ⟨_,hv,?_⟩
   rcases (show c % 2=0\/c % 2=1 by omega) with hc | hc <;> rw [hc]
   .have bs:=wf gl n40 (by omega) vs vb (a:=j)
    walk_at "r"
    refine ⟨0,_,rfl,rfl,?_⟩
    walk_at "r"
    refine ⟨j,by unfold ixN;rw [hgm,if_pos (by omega),if_pos (by omega),Int.toNat_natCast],?_⟩
    exact ⟨_,_,_,_,_,y4,⟨bs.1,ot,.inl bs.2,hd4,by omega,by omega⟩,rfl⟩
   .have bs:=wf tl n40 (by omega) vs vb (a:=j)
    walk_at "r"
    refine ⟨1,_,rfl,rfl,?_⟩
    walk_at "r"
    refine ⟨j,by unfold ixN;rw [htm,if_pos (by omega),if_pos (by omega),Int.toNat_natCast],?_⟩
    exact ⟨_,_,_,_,_,y4,⟨og,bs.1,.inr bs.2,hd4,by omega,by omega⟩,rfl⟩
  .walk_at "r"
   refine dF (fun c1=>?_) (fun c1=>?_)
   .have w2:(-1000000:Int)<=(gs.length:Int)/\(gs.length:Int)<=1000000/\(gs.length:Int).toNat * [57].length<=1000000:=⟨by omega,by omega,by show _ * 1<=_;omega⟩
    have l1:(gs.map D.int).length + [D.int 9].length<=1000000:=by show _ + 1<=_;omega
    have l2:(ts.map D.int).length + [D.int 9].length<=1000000:=by show _ + 1<=_;omega
    rcases (show c % 2=0\/c % 2=1 by omega) with hc | hc <;> rw [hc]
    .walk_at "r"
     rintro e y4 he0 he1 hd4 hl4
     obtain ⟨v,hv,vs,vb⟩:=ym gl n40 n0 (ke [57] ((gs.map D.int).length:Int)) e
     walk_at "r"
     refine ⟨_,hv,?_⟩
     walk_at "r"
     exact ⟨_,_,_,_,_,y4,⟨vs,ot,.inl vb,hd4,by omega,by omega⟩,rfl⟩
    .walk_at "r"
     rintro e y4 he0 he1 hd4 hl4
     obtain ⟨v,hv,vs,vb⟩:=ym tl n40 n0 (ke [57] ((gs.map D.int).length:Int)) e
     walk_at "r"
     refine ⟨_,hv,?_⟩
     walk_at "r"
     exact ⟨_,_,_,_,_,y4,⟨og,vs,.inr vb,hd4,by omega,by omega⟩,rfl⟩
   .walk_at "r"
    rintro e y4 he0 he1 hd4 hl4
    obtain ⟨v,hv,vw⟩:=Ae e
    obtain ⟨w,hw,ww⟩:=xE vw (b % 5)
    have g4:Dk y4/\0 < y4.length/\y4.length<=100000:=⟨hd4,by omega,by omega⟩
    walk_at "r"
    refine ⟨_,hv,?_⟩
    walk_at "r"
    refine ⟨_,hw,?_⟩
    walk_at "r"
    rintro f y5 hf0 hf1 hd5 hl5
    obtain ⟨u,hu,up,ub⟩:=xF (r0:=.lst (gs.map .int)) (r1:=.lst (ts.map .int)) (n:=n) ww f
    walk_at "r"
    refine ⟨_,hu,?_⟩
    walk_at "r"
    exact q u y5 up ub hd5 (by omega) (by omega)
 .rintro ρ m ⟨v7,v8,sd,r0,r1,yy,⟨o0,o1,ob,hdy,hy1,hy2⟩,e⟩
  show yc 5 _ _ ρ m
  unfold yc
  rw [e]
  walk_at "r"
  exact q _ yy (qR o0 o1) (Ad ob) hdy hy1 hy2
theorem re:∀p ds Q,p.isOwn=true->cC p ds Q->tZ fB la p ds Q:=fun p ds Q _ h=>by
 unfold cC at h
 split at h
 .exact qc _ _ _ _ h
 .exact h.elim
def su:PTS:=(aL (ba (bo bZ (af (pFz (a5 0)) (af (pFz (pC (.int 330))) am))) (aq 1)) (aL (ba (b9 bK 1 (af (pFz (pC (.int 7))) am)) (aq 2)) (aL (ba (bo bO (af (pFz (a5 2)) am)) (aq 3)) (aL (ba (bo b7 (af (pFz (a5 3)) am)) (aq 4)) (aL (ba (zA "Family" bh (af (pFz (a5 2)) am)) (aq 5)) (aL (ba (pCB vR (af (pFz (cW [none] (dg (a5 3)) (aq 0) jY (pCB ic (af (pSl 0) am)))) am)) (aq 6)) (aL (jc (wY (af (pFz (pC (.int 8))) am)) (aq 7) (aL (ba (b9 bL 1 (af (pFz (a5 4)) am)) (jM 2 (df (aq 8) (df (aq 9) lE)))) (aL (ba (pC .non) (aq 10)) (aL (ml (jV (pB (bo bx (af (pFz (a5 4)) (af (pFz (a5 8)) (af (pFz (a5 9)) am))))) (ba (pOp xg (pFz (pOp xg (pSl 6) (pFz (pCB vR (af (pSl 8) am))))) (pFz (pCB vR (af (pSl 9) am)))) (aq 10)) cD)) (aL (ba (pOp fIx (pFz (fM (af (pFz (xS (af (pFz (pC (.str [101,110,100]))) (af (pFz (a5 8)) (af (pFz (a5 9)) am))))) (af (pFz (fM (af (pFz (pC (.str [101,110,100]))) (af (pFz (pCB fV (af (pSl 8) am))) (af (pFz (pCB fV (af (pSl 9) am))) am))))) am)))) (pFz (pOp fN (pSl 7) (pFz (pC (.int 2)))))) (aq 11)) (aL (jV (pB (pOp vx (pFz (bo aJ (af (pFz (a5 5)) (af (pFz (a5 11)) am)))) (pSl 10))) (bF (pC (.bl false))) cD) (aL (jV (xT (pB (pOp vx (pSl 4) (pFz (fM am)))) (pB (pOp (fIs true) (pFz (bo aJ (af (pFz (a5 5)) (af (pFz (b9 cC 1 (af (pFz (a5 8)) (af (pFz (a5 9)) am)))) am)))) (pFz (pC .non))))) (bF (pC (.bl false))) cD) (jc (dg (fM (af (pFz (pC (.str [69,110,100]))) (af (pFz (pC (.int 0))) (af (pFz (pC (.str [112,97,114,116]))) am))))) (aq 12) (jV (pB (pOp (fIs true) (pFz (bo aJ (af (pFz (a5 5)) (af (pFz (fM (af (pFz (a5 12)) (af (pFz (a5 8)) (af (pFz (a5 9)) am))))) am)))) (pFz (pC .non)))) (bF (pC (.bl false))) cD))))))))) (aL (jc (dg (fM (af (pFz (pC .non)) (af (pFz (pC (.int 0))) (af (pFz (pC (.str [101,110,100]))) (af (pFz (fM am)) (af (pFz zC) (af (pFz (fM (af (pFz (pC (.str [101,110,100]))) am))) (af (pFz (fM (af (pFz (fM am)) (af (pFz (fM am)) (af (pFz (fM am)) am))))) am))))))))) (aq 13) (jV (pB (pOp (fIs true) (pFz (bo aJ (af (pFz (a5 5)) (af (pFz (a5 13)) am)))) (pFz (pC .non)))) (bF (pC (.bl false))) cD)) (aL (ba (zA "Family" bh (af (pFz (cW [none,some 4] (wY (af (pFz (pC (.int 8))) am)) (aq 0) jY (pOp fIx (pFz (pC (.str [97,98,99,100,101,102,103,104,105,106,107,108,109,110,111,112,113,114,115,116,117,118,119,120,121,122]))) (pFz (pOp fN (pFz (pOp de (pFz (pOp px (pFz (pC (.int 7))) (pSl 0))) (pFz (pCB ic (af (pSl 1) am))))) (pFz (pC (.int 26)))))))) am)) (aq 14)) (bF (pOp (fIs false) (pFz (bo aJ (af (pFz (a5 14)) (af (pFz (xS (af (pFz (pC (.str [101,110,100]))) (af (pFz (pOp px (pFz (fM (af (pFz (pC (.int 0))) am))) (pFz (pC (.int 8))))) (af (pFz (pOp px (pFz (fM (af (pFz (pC (.int 0))) am))) (pFz (pC (.int 8))))) am))))) am)))) (pFz (pC .non)))))))))))))
theorem Aj (ns:List Int) (h63:ns.length<=63) (Q:PV->Prop) (q:Q (.dat (.bl true))):cU su yn [.scr ns] Q:=by
 show su _ [some (.dat (.scr ns)),none,none,none,none,none,none,none,none,none,none,none,none,none,none]
 walk_at "r"
 rintro z1 hz1 hl1
 have hl1:z1.length=330:=hl1
 have g1:Dk z1/\z1.length<=10000:=⟨hz1,by omega⟩
 walk_at "r"
 rintro ps z2 hp hps hz2 hl2 hl2'
 have hp:ps.length<=7:=by omega
 have hk:ps.length<=40/\∀w∈ps,w.length<=60/\Lts w:=⟨by omega,fun w hw=>⟨(hps w hw).2.1,(hps w hw).2.2⟩⟩
 have hk2:ps.length<=40/\Pcs 60 ps:=⟨by omega,hps⟩
 have hwn:=gD ps
 have hwo:=En hk.1 hps
 have hwm:((ak ps).map D.str).length=(ak ps).length:=List.length_map _
 have hlm:(fm (ak ps)).length=(ak ps).length:=List.length_map _
 have e1:=k9 (ak ps)
 have e2:=jG (ak ps)
 walk_at "r"
 refine cm1 (e:=D.str) (xs:=ak ps) (fun w=>.int (w.length:Int)) (fun w hw v K1 k1=>?_) (fun v=>?_)
 .walk_at "r"
  exact k1 _
 walk_at "r"
 refine ⟨(ak ps).map fun w=>(w.length:Int),by rw [List.map_map];rfl,?_⟩
 walk_at "r"
 refine ⟨fun k ρ=>∃(f5:PV) (yy:List Int) (v7 v8 v9 v10 v11 v12:Option PV),(f5=.ins "Family" gK (gL ps)\/f5=.dat (.obj "Family" gK (gL ps)))/\Dk yy/\z2.length<=yy.length + 23 * k/\yy.length<=z2.length/\ρ=[some (.dat (.scr ns)),some (.own (yy.map .int)),some (.dat (.lst (ps.map .str))),some (.dat (.lst ((ak ps).map .str))),some (.dat (.lst (fm (ak ps)))),some f5,some (.dat (.int ((ak ps).map fun w=>(w.length:Int)).sum)),v7,v8,v9,v10,v11,v12,none,none],⟨_,z2,_,_,_,_,_,_,.inl rfl,hz2,Nat.le_refl _,Nat.le_refl _,rfl⟩,?_,?_⟩
 .rintro k ρ d hk' ed ⟨f5,yy,v7,v8,v9,v10,v11,v12,hf,hyy,hyl,hyl',rfl⟩
  have hk':k < 8:=hk'
  have g2:(ak ps).length<=40/\Dk yy/\2 * (ak ps).length + 4<=yy.length/\yy.length<=10000:=⟨by omega,hyy,by omega,by omega⟩
  subst ed
  walk_at "r"
  rintro gs ts y3 hg ht hd3 hl3 hl3'
  have hgl:=hg.1
  have htl:=ht.1
  have g3:(ak ps).length<=40/\Prc (ak ps).length gs/\Prc (ak ps).length ts:=⟨by omega,hg,ht⟩
  walk_at "r"
  refine ⟨fun ρ=>ρ=[some (.dat (.scr ns)),some (.own (y3.map .int)),some (.dat (.lst (ps.map .str))),some (.dat (.lst ((ak ps).map .str))),some (.dat (.lst (fm (ak ps)))),some f5,some (.dat (.int ((ak ps).map fun w=>(w.length:Int)).sum)),some (.dat (.int (k:Int))),some (.dat (.lst (gs.map .int))),some (.dat (.lst (ts.map .int))),some (.dat (wn (ak ps) gs ts)),v11,v12,none,none],?_,?_⟩
  .walk_at "r"
   intro b hb
   refine tW (fun c=>?_) (fun c=>?_)
   .rw [nN (hb.mp c)]
    walk_at "r"
   .rw [qM (fun z=>by rw [hb.mpr z] at c;cases c)]
    rfl
  rintro ρ rfl
  obtain ⟨pd,hpa,hpo,hpc⟩:=xH hgl htl (by omega) (k:Int)
  have g4:(ak ps).length<=40/\fP pd:=⟨by omega,hpo⟩
  have bc:=wk (ak ps) gs ts
  generalize wn (ak ps) gs ts=bd at bc hpc
  rcases hf with rfl | rfl <;> rcases bc with rfl | ⟨nb,rfl⟩ <;> (
   walk_at "r"
   refine ⟨_,hpa,?_⟩
   walk_at "r"
   rw [hpc]
   walk_at "r"
   refine (show gz _ _ _ from ?_)
   rw [e2]
   refine kq (fun c2=>?_) (fun c2=>?_)
   .have hw0:0 < (ak ps).length:=List.length_pos_iff.mpr c2
    have g5:Dk y3/\5<=y3.length/\y3.length<=10000:=⟨hd3,by omega,by omega⟩
    walk_at "r"
    intro d y4 dp db hd4 hl4 hl4'
    have g6:(ak ps).length<=40/\fP d:=⟨by omega,dp⟩
    have cb:=Co db hgl.symm
    walk_at "r"
    rw [cb]
    walk_at "r"
    refine ⟨fun m ρ=>∃(v10 v11 v12:Option PV),ρ=[some (.dat (.scr ns)),some (.own (y4.map .int)),some (.dat (.lst (ps.map .str))),some (.dat (.lst ((ak ps).map .str))),some (.dat (.lst (fm (ak ps)))),some (.dat (.obj "Family" gK (gL ps))),some (.dat (.int ((ak ps).map fun w=>(w.length:Int)).sum)),some (.dat (.int (k:Int))),some (.dat (.lst (gs.map .int))),some (.dat (.lst (ts.map .int))),v10,v11,v12,none,none],⟨_,_,_,rfl⟩,?_,?_⟩
    .rintro m ρ d hm ed ⟨v10,v11,v12,rfl⟩
     have hw:d=.str [69,110,100]\/d=.int 0\/d=.str PART:=by
      have hm:m < 3:=hm
      match m,hm with
      | 0,_=>exact .inl ed
      | 1,_=>exact .inr (.inl ed)
      | 2,_=>exact .inr (.inr ed)
     clear ed
     obtain ⟨po,pc⟩:=wg (gs:=gs) (ts:=ts) (ps:=ps) hw
     have g6:(ak ps).length<=40/\fP (.lst [d,.lst (gs.map .int),.lst (ts.map .int)]):=⟨by omega,po⟩
     walk_at "r"
     rw [pc]
     walk_at "r"
     exact ⟨_,_,_,rfl⟩
    rintro ρ ⟨v10,v11,v12,rfl⟩
    exact ⟨_,y4,_,_,_,_,_,_,.inr rfl,hd4,by omega,by omega,rfl⟩
   .walk_at "r"
    refine ⟨fun m ρ=>∃(v10 v11 v12:Option PV),ρ=[some (.dat (.scr ns)),some (.own (y3.map .int)),some (.dat (.lst (ps.map .str))),some (.dat (.lst ((ak ps).map .str))),some (.dat (.lst (fm (ak ps)))),some (.dat (.obj "Family" gK (gL ps))),some (.dat (.int ((ak ps).map fun w=>(w.length:Int)).sum)),some (.dat (.int (k:Int))),some (.dat (.lst (gs.map .int))),some (.dat (.lst (ts.map .int))),v10,v11,v12,none,none],⟨_,_,_,rfl⟩,?_,?_⟩
    .rintro m ρ d hm ed ⟨v10,v11,v12,rfl⟩
     have hw:d=.str [69,110,100]\/d=.int 0\/d=.str PART:=by
      have hm:m < 3:=hm
      match m,hm with
      | 0,_=>exact .inl ed
      | 1,_=>exact .inr (.inl ed)
      | 2,_=>exact .inr (.inr ed)
     clear ed
     obtain ⟨po,pc⟩:=wg (gs:=gs) (ts:=ts) (ps:=ps) hw
     have g6:(ak ps).length<=40/\fP (.lst [d,.lst (gs.map .int),.lst (ts.map .int)]):=⟨by omega,po⟩
     walk_at "r"
     rw [pc]
     walk_at "r"
     exact ⟨_,_,_,rfl⟩
    rintro ρ ⟨v10,v11,v12,rfl⟩
    exact ⟨_,y3,_,_,_,_,_,_,.inr rfl,hd3,by omega,by omega,rfl⟩)
 rintro ρ ⟨f5,yy,v7,v8,v9,v10,v11,v12,hf,hyy,hyl,hyl',rfl⟩
 rcases hf with rfl | rfl <;> (
  walk_at "r"
  refine ⟨fun m ρ=>∃(f5:PV) (v13:Option PV),(f5=.ins "Family" gK (gL ps)\/f5=.dat (.obj "Family" gK (gL ps)))/\ρ=[some (.dat (.scr ns)),some (.own (yy.map .int)),some (.dat (.lst (ps.map .str))),some (.dat (.lst ((ak ps).map .str))),some (.dat (.lst (fm (ak ps)))),some f5,some (.dat (.int ((ak ps).map fun w=>(w.length:Int)).sum)),v7,v8,v9,v10,v11,v12,v13,none],⟨_,_,by first | exact .inl rfl | exact .inr rfl,rfl⟩,?_,?_⟩
  .rintro m ρ d hm ed ⟨f5,v13,hf,rfl⟩
   have hm2:d∈[D.non,D.int 0,D.str END,D.lst [],D.dic [] [],D.lst [D.str END],D.lst [D.lst [],D.lst [],D.lst []]]:=by rw [ed];exact qB hm
   clear ed
   obtain ⟨po,pc⟩:=wj (ps:=ps) hm2
   have g6:(ak ps).length<=40/\fP d:=⟨by omega,po⟩
   rcases hf with rfl | rfl <;> (
    walk_at "r"
    rw [pc]
    walk_at "r"
    exact ⟨_,_,.inr rfl,rfl⟩)
  rintro ρ ⟨f5,v13,hf,rfl⟩
  walk_at "r"
  refine cmR (fun j=>.str [97 + (7 * j + (ak ps).length) % 26]) (fun j hj v K1 k1=>?_) (fun v=>?_)
  .have hj:j < 8:=hj
   walk_at "r"
   rw [hlm,show (7 * (j:Int) + ((ak ps).length:Int)) % 26=(((7 * j + (ak ps).length) % 26:Nat):Int) by omega]
   exact ⟨_,yk (Nat.mod_lt _ (by decide)),k1 _⟩
  rw [show (List.range (Int.toNat 8)).map (fun j=>D.str [97 + (7 * j + (ak ps).length) % 26])=(gp (ak ps).length).map D.str by unfold gp;rw [List.map_map];rfl]
  have gl8:=Cq (n:=(ak ps).length) (by omega)
  have gpc:=Cr (ak ps).length
  have gpl:(gp (ak ps).length).length=8:=by unfold gp;rw [List.length_map,List.length_range]
  generalize gp (ak ps).length=gq at gl8 gpc gpl
  have g7:gq.length<=40/\Pcs 60 gq:=⟨by omega,gpc⟩
  have z8:ke [D.int 0] 8=(List.replicate 8 (0:Int)).map D.int:=rfl
  have g8:(ak gq).length<=40/\fP (.tup [.str END,.lst (ke [D.int 0] 8),.lst (ke [D.int 0] 8)]):=⟨by omega,by rw [z8];exact qR (dR (by decide)) (dR (by decide))⟩
  have cb:=xG (d:=.tup [.str END,.lst (ke [D.int 0] 8),.lst (ke [D.int 0] 8)]) (show 7 < (ak gq).length by omega)
  walk_at "r"
  rw [cb]
  walk_at "r"
  exact q)
theorem Ct:∀ds Q,sk ds Q->cU su yn ds Q:=fun ds Q h=>by
 obtain ⟨ns,rfl,h63,q⟩:=h
 exact Aj ns h63 Q q
section
variable {P:Program}{w:World}{K:PySem.W.Frag}{mg:Str->Option Value}{base:Heap}
theorem qd:∀ds Q,cg ds Q->ds.length=1:=fun ds Q h=>by unfold cg at h;split at h;(first | rfl | exact h.elim);(first | rfl | exact h.elim)
theorem wm (D:cv K mg "is_row" nI) (T:Txt mg) (TC:TxC K) (TX:TxX K mg):Cal P w K mg base 1 "is_row" ["thing"] (spP K cg):=by
 refine D.ok vV (fun _ _ _ _ _ _ us hl=>match us,hl with | [_],_=>rfl) (fun vs H Q E h=>?_) (fun f cdv A outer s H vs Q E hr h=>?_)
 .exact io qd h
 .have hu:=hr.units
  exact ⟨_,(ar (aU (aw (Dn K rfl) rfl T.b_isinstance boot_isinstance (paC (pv 0) (paC (ju (paC (j1 (v:=.ty "list") rfl T.b_list boot_list rfl) (paC (j1 (v:=.ty "tuple") rfl T.b_tuple boot_tuple rfl) ag))) ag))))),fnP (K:=K) (c:=cg) (ps:=iO) (N:=["thing"]) (aV (BC .list .tuple lG (al (i:=0)))) (fun ds Q h=>Nat.le_trans (Nat.le_of_eq (qd ds Q h)) (by decide)) wl h⟩
theorem jH:∀ds Q,aZ ds Q->ds.length=1:=fun ds Q h=>by unfold aZ at h;split at h;(first | rfl | exact h.elim);(first | rfl | exact h.elim)
theorem qe (D:cv K mg "is_number" ii) (T:Txt mg) (TC:TxC K) (TX:TxX K mg):Cal P w K mg base 1 "is_number" ["thing"] (spP K aZ):=by
 refine D.ok pP (fun _ _ _ _ _ _ us hl=>match us,hl with | [_],_=>rfl) (fun vs H Q E h=>?_) (fun f cdv A outer s H vs Q E hr h=>?_)
 .exact io jH h
 .have hu:=hr.units
  exact ⟨_,(ar (aU (oA (aw (zi K rfl) rfl T.b_isinstance boot_isinstance (paC (pv 0) (paC (j1 (v:=.ty "int") rfl T.b_int boot_int rfl) ag))) (rq (xK (aw (zi K rfl) rfl T.b_isinstance boot_isinstance (paC (pv 0) (paC (j1 (v:=.ty "bool") rfl T.b_bool boot_bool rfl) ag)))))))),fnP (K:=K) (c:=aZ) (ps:=eG) (N:=["thing"]) (aV (pq (va .int (al (i:=0))) (xV (va .bool (al (i:=0)))))) (fun ds Q h=>Nat.le_trans (Nat.le_of_eq (jH ds Q h)) (by decide)) pX h⟩
theorem gX:∀ds Q,bf ds Q->ds.length=2:=fun ds Q h=>by unfold bf at h;split at h;(first | rfl | exact h.elim);(first | rfl | exact h.elim)
theorem l4 (D:cv K mg "are_numbers" fi) (T:Txt mg) (TC:TxC K) (TX:TxX K mg) (C_is_number:Cal P w K mg base 1 "is_number" ["thing"] (spP K aZ)) (C_is_row:Cal P w K mg base 1 "is_row" ["thing"] (spP K cg)):Cal P w K mg base 2 "are_numbers" ["thing","many"] (spP K bf):=by
 refine D.ok lL (fun _ _ _ _ _ _ us hl=>match us,hl with | [_,_],_=>rfl) (fun vs H Q E h=>?_) (fun f cdv A outer s H vs Q E hr h=>?_)
 .exact io gX h
 .have hu:=hr.units
  exact ⟨_,(ar (aU (oA (az C_is_row (hr.mono (by decide)) (paC (pv 0) ag)) (oA (iZ (lH K rfl hu) (aw (c9 K rfl) rfl T.b_len PySem.boot_len (paC (pv 0) ag)) (pv 1) (bi _)) (rq (aw (zp K rfl rfl) rfl T.b_all boot_all (paC (bI (wi:=(iX K (a4 0))) (g:=(ca 0)) (tts:=kl) (te:=(eN (spP K aZ) [] E0 (bp (a4 0) eM))) ["item"] [none] rfl (cj K rfl (pv 0)) (fun _ _ _ _=>⟨(aC (i:=0) (by show List.Nodup (["item"]:List Str);decide +kernel) rfl (by first | exact Or.inl rfl | exact Or.inr rfl)),cw,(az C_is_number (hr.mono (by decide)) (paC (pv 0) ag))⟩) (by kernel_rfl)) ag))))))),fnP (K:=K) (c:=bf) (ps:=dk) (N:=["thing","many"]) (aV (pq (aF (c:=cg) (aa (ac (ai (i:=0))) ae)) (pq (aj gO (ac (bu b8 (aa (al (i:=0)) ae))) (al (i:=1))) (bu vh (aa (ac (br (ix:=[none]) rfl (ck (ai (i:=0))) (fun fs hc=>(ay (i:=0) (gJ hc (by decide)))) cX (aF (c:=aZ) (aa (ac (ai (i:=0))) ae)))) ae))))) (fun ds Q h=>Nat.le_trans (Nat.le_of_eq (gX ds Q h)) (by decide)) lO h⟩
theorem iQ:∀ds Q,a9 ds Q->ds.length=2:=fun ds Q h=>by unfold a9 at h;split at h;(first | rfl | exact h.elim);(first | rfl | exact h.elim)
theorem n5 (D:cv K mg "are_prices" fZ) (T:Txt mg) (TC:TxC K) (TX:TxX K mg) (C_are_numbers:Cal P w K mg base 2 "are_numbers" ["thing","many"] (spP K bf)):Cal P w K mg base 3 "are_prices" ["thing","many"] (spP K a9):=by
 refine D.ok nJ (fun _ _ _ _ _ _ us hl=>match us,hl with | [_,_],_=>rfl) (fun vs H Q E h=>?_) (fun f cdv A outer s H vs Q E hr h=>?_)
 .exact io iQ h
 .have hu:=hr.units
  exact ⟨_,(ar (aU (oA (az C_are_numbers (hr.mono (by decide)) (paC (pv 0) (paC (pv 1) ag))) (rq (aw (zp K rfl rfl) rfl T.b_all boot_all (paC (bI (wi:=(iX K (a4 0))) (g:=(ca 0)) (tts:=kl) (te:=(tOp D0 (a4 0) (tC (V.int 0)))) ["price"] [none] rfl (cj K rfl (pv 0)) (fun _ _ _ _=>⟨(aC (i:=0) (by show List.Nodup (["price"]:List Str);decide +kernel) rfl (by first | exact Or.inl rfl | exact Or.inr rfl)),cw,(iZ D2 (pv 0) ap (bi _))⟩) (by kernel_rfl)) ag)))))),fnP (K:=K) (c:=a9) (ps:=dJ) (N:=["thing","many"]) (aV (pq (aF (c:=bf) (aa (ac (ai (i:=0))) (aa (ac (ai (i:=1))) ae))) (bu vh (aa (ac (br (ix:=[none]) rfl (ck (ai (i:=0))) (fun fs hc=>(ay (i:=0) (gJ hc (by decide)))) cX (aj Bw (al (i:=0)) (ac le_int)))) ae)))) (fun ds Q h=>Nat.le_trans (Nat.le_of_eq (iQ ds Q h)) (by decide)) nQ h⟩
theorem iR:∀ds Q,bv ds Q->ds.length=1:=fun ds Q h=>by unfold bv at h;split at h;(first | rfl | exact h.elim);(first | rfl | exact h.elim)
theorem n6 (D:cv K mg "first_case" f7) (T:Txt mg) (TC:TxC K) (TX:TxX K mg):Cal P w K mg base 1 "first_case" ["family"] (spP K bv):=by
 refine D.ok nK (fun _ _ _ _ _ _ us hl=>match us,hl with | [_],_=>rfl) (fun vs H Q E h=>?_) (fun f cdv A outer s H vs Q E hr h=>?_)
 .exact io iR h
 .have hu:=hr.units
  exact ⟨_,(ar (aU (ju (paC (bP (fe K rfl) rfl T.b_tuple boot_tuple (paC (bI (wi:=(iX K (sE K (a4 0) "words"))) (g:=(ca 0)) (tts:=kl) (te:=(tC V.non)) ["word"] [none] rfl (cj K rfl (cV K rfl (pv 0) rfl)) (fun _ _ _ _=>⟨(aC (i:=0) (by show List.Nodup (["word"]:List Str);decide +kernel) rfl (by first | exact Or.inl rfl | exact Or.inr rfl)),cw,cM⟩) (by kernel_rfl)) ag)) (paC cM ag))))),fnP (K:=K) (c:=bv) (ps:=dL) (N:=["family"]) (aV (kr (aa (ac (bu dH (aa (ac (br (ix:=[none]) rfl (ck (eB (ns0:=["pieces","kept","words","left","laps","total"]) TC.cl_Family TC.n_Family_words (i:=2) (by decide +kernel) (al (i:=0)))) (fun fs hc=>(ay (i:=0) (gJ hc (by decide)))) cX cL)) ae))) (aa (ac cL) ae)))) (fun ds Q h=>Nat.le_trans (Nat.le_of_eq (iR ds Q h)) (by decide)) nR h⟩
theorem gu:∀ds Q,aP ds Q->ds.length=1:=fun ds Q h=>by unfold aP at h;split at h;(first | rfl | exact h.elim);(first | rfl | exact h.elim)
theorem ln (D:cv K mg "free_to_give" eP) (T:Txt mg) (TC:TxC K) (TX:TxX K mg):Cal P w K mg base 1 "free_to_give" ["case"] (spP K aP):=by
 refine D.ok eh (fun _ _ _ _ _ _ us hl=>match us,hl with | [_],_=>rfl) (fun vs H Q E h=>?_) (fun f cdv A outer s H vs Q E hr h=>?_)
 .exact io gu h
 .have hu:=hr.units
  exact ⟨_,(ah (ud (pv 0) (jB K rfl (n:=2) rfl (ce (aC (i:=1) eh.nd rfl (by first | exact Or.inl rfl | exact Or.inr rfl)) (ce (aC (i:=2) eh.nd rfl (by first | exact Or.inl rfl | exact Or.inr rfl)) fQ)))) (ar (aU (bI (wi:=(sV K (bp (a4 1) eM))) (g:=(At K 2 (oB (ca 0) (oB (ca 1) AK)))) (tts:=(AF (hV (tOp (By false) (a4 1) (tC V.non))) (hV (tOp (pH K true) (a4 0) (a4 2))))) (te:=(a4 0)) ["i","follower","last"] [none,none,some 2] rfl (gA K rfl rfl T.b_enumerate (paC (pv 1) ag)) (fun _ _ _ _=>⟨(jB K rfl (n:=2) rfl (ce (aC (i:=0) (by show List.Nodup (["i","follower","last"]:List Str);decide +kernel) rfl (by first | exact Or.inl rfl | exact Or.inr rfl)) (ce (aC (i:=1) (by show List.Nodup (["i","follower","last"]:List Str);decide +kernel) rfl (by first | exact Or.inl rfl | exact Or.inr rfl)) fQ))),(dX (PW.pt (j2 (aQ Dl (pv 1) cM (bi _)) (hU (aQ (nz K rfl hu) (pv 0) (pv 2) (bi _)))))),(pv 0)⟩) (by kernel_rfl))))),fnP (K:=K) (c:=aP) (ps:=cY) (N:=["case","followers","last"]) (aA (aH (ai (i:=0)) (x9 (cf (ay (i:=1) rfl) (cf (ay (i:=2) rfl) fT)))) (aV (br (ix:=[none,none,some 2]) rfl (jb (aa (ac (ai (i:=1))) ae)) (fun fs hc=>(jf (cf (ay (i:=0) (gJ hc (by decide))) (cf (ay (i:=1) (gJ hc (by decide))) fT)))) (kt (eV (aj qu (al (i:=1)) (ac cL))) (eV (aj iA (al (i:=0)) (al (i:=2))))) (ai (i:=0))))) (fun ds Q h=>Nat.le_trans (Nat.le_of_eq (gu ds Q h)) (by decide)) lc h⟩
theorem gv:∀ds Q,aI ds Q->ds.length=1:=fun ds Q h=>by unfold aI at h;split at h;(first | rfl | exact h.elim);(first | rfl | exact h.elim)
theorem lp (D:cv K mg "free_to_take" eQ) (T:Txt mg) (TC:TxC K) (TX:TxX K mg):Cal P w K mg base 1 "free_to_take" ["case"] (spP K aI):=by
 refine D.ok gi (fun _ _ _ _ _ _ us hl=>match us,hl with | [_],_=>rfl) (fun vs H Q E h=>?_) (fun f cdv A outer s H vs Q E hr h=>?_)
 .exact io gv h
 .have hu:=hr.units
  exact ⟨_,(ah (aN (i:=1) gi.nd rfl (by first | exact Or.inl rfl | exact Or.inr rfl) (bB (dz K rfl) (pv 0) ap (fun _ _=>rfl))) (ar (aU (bI (wi:=(sy (bp (tCB (lD K) (bp (a4 1) eM)) eM))) (g:=(ca 0)) (tts:=(hV (tOp (Au K true) (a4 0) (a4 1)))) (te:=(a4 0)) ["j","followers"] [none,some 1] rfl (du rfl T.b_range (paC (aw (c9 K rfl) rfl T.b_len PySem.boot_len (paC (pv 1) ag)) ag)) (fun _ _ _ _=>⟨(aC (i:=0) (by show List.Nodup (["j","followers"]:List Str);decide +kernel) rfl (by first | exact Or.inl rfl | exact Or.inr rfl)),(dX (aQ (iD K rfl) (pv 0) (pv 1) (by with_unfolding_all rfl))),(pv 0)⟩) (by kernel_rfl))))),fnP (K:=K) (c:=aI) (ps:=cZ) (N:=["case","followers"]) (aA (aH (aj bD (al (i:=0)) (ac le_int)) (aB (i:=1) rfl)) (aV (br (ix:=[none,some 1]) rfl (pA (aa (ac (bu b8 (aa (al (i:=1)) ae))) ae)) (fun fs hc=>(ay (i:=0) (gJ hc (by decide)))) (eV (aj kG (al (i:=0)) (al (i:=1)))) (ai (i:=0))))) (fun ds Q h=>Nat.le_trans (Nat.le_of_eq (gv ds Q h)) (by decide)) lf h⟩
theorem eZ:∀ds Q,aS ds Q->ds.length=2:=fun ds Q h=>by unfold aS at h;split at h;(first | rfl | exact h.elim);(first | rfl | exact h.elim)
theorem jt (D:cv K mg "first_of_chain" dB) (T:Txt mg) (TC:TxC K) (TX:TxX K mg):Cal P w K mg base 1 "first_of_chain" ["case","i"] (spP K aS):=by
 refine D.ok cI (fun _ _ _ _ _ _ us hl=>match us,hl with | [_,_],_=>rfl) (fun vs H Q E h=>?_) (fun f cdv A outer s H vs Q E hr h=>?_)
 .exact io eZ h
 .have hu:=hr.units
  exact ⟨_,(ah (aN (i:=2) cI.nd rfl (by first | exact Or.inl rfl | exact Or.inr rfl) (bB (dz K rfl) (pv 0) ap (fun _ _=>rfl))) (ah (aN (i:=3) cI.nd rfl (by first | exact Or.inl rfl | exact Or.inr rfl) (pv 1)) (ah (mO PassesOwn.never (aQ (Ca K rfl) (pv 3) (pv 2) (by with_unfolding_all rfl)) (ar (aN (i:=3) cI.nd rfl (by first | exact Or.inl rfl | exact Or.inr rfl) (jy K rfl PySem.F.plainAttrs_list PySem.F.slot_list_index PySem.F.type_list_index (zQ K rfl) (pv 2) (paC (pv 3) ag))))) (ar (aU (pv 3)))))),fnP (K:=K) (c:=aS) (ps:=cK) (N:=["case","i","followers","first"]) (aA (aH (aj bD (al (i:=0)) (ac le_int)) (aB (i:=2) rfl)) (aA (aH (ai (i:=1)) (aB (i:=3) rfl)) (aA (nj (eV (aj kG (al (i:=3)) (al (i:=2)))) (aH (zR (al (i:=2)) (ai (i:=3))) (aB (i:=3) rfl))) (aV (ai (i:=3)))))) (fun ds Q h=>Nat.le_trans (Nat.le_of_eq (eZ ds Q h)) (by decide)) jr h⟩
theorem lq:∀ds Q,bQ ds Q->ds.length=2:=fun ds Q h=>by unfold bQ at h;split at h;(first | rfl | exact h.elim);(first | rfl | exact h.elim)
theorem rf (D:cv K mg "open_for" jj) (T:Txt mg) (TC:TxC K) (TX:TxX K mg) (C_first_of_chain:Cal P w K mg base 1 "first_of_chain" ["case","i"] (spP K aS)) (C_free_to_take:Cal P w K mg base 1 "free_to_take" ["case"] (spP K aI)):Cal P w K mg base 2 "open_for" ["case","i"] (spP K bQ):=by
 refine D.ok kN (fun _ _ _ _ _ _ us hl=>match us,hl with | [_,_],_=>rfl) (fun vs H Q E h=>?_) (fun f cdv A outer s H vs Q E hr h=>?_)
 .exact io lq h
 .have hu:=hr.units
  exact ⟨_,(ah (aN (i:=2) kN.nd rfl (by first | exact Or.inl rfl | exact Or.inr rfl) (az C_first_of_chain (hr.mono (by decide)) (paC (pv 0) (paC (pv 1) ag)))) (ar (aU (bI (wi:=(iX K (eN (spP K aI) [] E0 (bp (a4 0) eM)))) (g:=(ca 0)) (tts:=(hV (tOp (pH K true) (a4 0) (a4 1)))) (te:=(a4 0)) ["j","first"] [none,some 2] rfl (cj K rfl (az C_free_to_take (hr.mono (by decide)) (paC (pv 0) ag))) (fun _ _ _ _=>⟨(aC (i:=0) (by show List.Nodup (["j","first"]:List Str);decide +kernel) rfl (by first | exact Or.inl rfl | exact Or.inr rfl)),(dX (aQ (nz K rfl hu) (pv 0) (pv 1) (bi _))),(pv 0)⟩) (by kernel_rfl))))),fnP (K:=K) (c:=bQ) (ps:=fo) (N:=["case","i","first"]) (aA (aH (aF (c:=aS) (aa (ac (ai (i:=0))) (aa (ac (ai (i:=1))) ae))) (aB (i:=2) rfl)) (aV (br (ix:=[none,some 2]) rfl (ck (aF (c:=aI) (aa (ac (ai (i:=0))) ae))) (fun fs hc=>(ay (i:=0) (gJ hc (by decide)))) (eV (aj iA (al (i:=0)) (al (i:=1)))) (ai (i:=0))))) (fun ds Q h=>Nat.le_trans (Nat.le_of_eq (lq ds Q h)) (by decide)) qS h⟩
theorem iS:∀ds Q,bw ds Q->ds.length=2:=fun ds Q h=>by unfold bw at h;split at h;(first | rfl | exact h.elim);(first | rfl | exact h.elim)
theorem n9 (D:cv K mg "fixed_laps" f9) (T:Txt mg) (TC:TxC K) (TX:TxX K mg):Cal P w K mg base 1 "fixed_laps" ["family","case"] (spP K bw):=by
 refine D.ok nL (fun _ _ _ _ _ _ us hl=>match us,hl with | [_,_],_=>rfl) (fun vs H Q E h=>?_) (fun f cdv A outer s H vs Q E hr h=>?_)
 .exact io iS h
 .have hu:=hr.units
  exact ⟨_,(ar (aU (aw (rN K rfl rfl) rfl T.b_sum boot_sum (paC (bI (wi:=(sV K (bp (tOp (kx K) (a4 1) (tC (V.int 0))) eM))) (g:=(At K 2 (oB (ca 0) (oB (ca 1) AK)))) (tts:=(hV (tOp (By true) (a4 1) (tC V.non)))) (te:=(tOp (kx K) (tOp (kx K) (sE K (a4 2) "laps") (a4 0)) (a4 1))) ["i","j","family"] [none,none,some 0] rfl (gA K rfl rfl T.b_enumerate (paC (bB (dz K rfl) (pv 1) ap (fun _ _=>rfl)) ag)) (fun _ _ _ _=>⟨(jB K rfl (n:=2) rfl (ce (aC (i:=0) (by show List.Nodup (["i","j","family"]:List Str);decide +kernel) rfl (by first | exact Or.inl rfl | exact Or.inr rfl)) (ce (aC (i:=1) (by show List.Nodup (["i","j","family"]:List Str);decide +kernel) rfl (by first | exact Or.inl rfl | exact Or.inr rfl)) fQ))),(dX (aQ m8 (pv 1) cM (bi _))),(bB (dz K rfl) (bB (dz K rfl) (cV K rfl (pv 2) rfl) (pv 0) (fun _ _=>rfl)) (pv 1) (fun _ _=>rfl))⟩) (by kernel_rfl)) ag)))),fnP (K:=K) (c:=bw) (ps:=dM) (N:=["family","case"]) (aV (bu nq (aa (ac (br (ix:=[none,none,some 0]) rfl (jb (aa (ac (aj bD (al (i:=1)) (ac le_int))) ae)) (fun fs hc=>(jf (cf (ay (i:=0) (gJ hc (by decide))) (cf (ay (i:=1) (gJ hc (by decide))) fT)))) (eV (aj qu (al (i:=1)) (ac cL))) (aj bD (ac (aj bD (ac (eB (ns0:=["pieces","kept","words","left","laps","total"]) TC.cl_Family TC.n_Family_laps (i:=4) (by decide +kernel) (al (i:=2)))) (al (i:=0)))) (al (i:=1))))) ae))) (fun ds Q h=>Nat.le_trans (Nat.le_of_eq (iS ds Q h)) (by decide)) nS h⟩
theorem gY:∀ds Q,bg ds Q->ds.length=4:=fun ds Q h=>by unfold bg at h;split at h;(first | rfl | exact h.elim);(first | rfl | exact h.elim)
theorem l5 (D:cv K mg "told_by_end" fj) (T:Txt mg) (TC:TxC K) (TX:TxX K mg) (C_Family_many:Bq P w K mg base 1 (bC K "Family") "many" ["self"] (spP K aM)) (C_are_prices:Cal P w K mg base 3 "are_prices" ["thing","many"] (spP K a9)) (C_fixed_laps:Cal P w K mg base 1 "fixed_laps" ["family","case"] (spP K bw)) (C_free_to_give:Cal P w K mg base 1 "free_to_give" ["case"] (spP K aP)) (C_free_to_take:Cal P w K mg base 1 "free_to_take" ["case"] (spP K aI)) (C_open_for:Cal P w K mg base 2 "open_for" ["case","i"] (spP K bQ)):Cal P w K mg base 4 "told_by_end" ["family","case","gives","takes"] (spP K bg):=by
 refine D.ok gP (fun _ _ _ _ _ _ us hl=>match us,hl with | [_,_,_,_],_=>rfl) (fun vs H Q E h=>?_) (fun f cdv A outer s H vs Q E hr h=>?_)
 .exact io gY h
 .have hu:=hr.units
  exact ⟨_,(@ah _ _ _ _ _ (@dA _ _ _ _ _ _ _ _ (PW.pt (@t7 _ _ _ _ _ _ _ (@j3 _ _ _ _ (@d8 _ _ _ (@az _ _ _ _ _ _ _ _ _ _ C_are_prices (hr.mono (by decide)) (@paC _ _ _ _ _ (@pv _ 2 _ _ rfl (by first | exact Or.inl rfl | exact Or.inr (Or.inl rfl) | exact Or.inr (Or.inr rfl)) (by decide) (by decide)) (@paC _ _ _ _ _ (@m5 _ _ _ _ _ _ _ _ _ _ _ (@pv _ 0 _ _ rfl (by first | exact Or.inl rfl | exact Or.inr (Or.inl rfl) | exact Or.inr (Or.inr rfl)) (by decide) (by decide)) TC.cl_Family C_Family_many (hr.mono (by decide)) rfl) ag rfl) rfl) rfl (by decide) rfl rfl) rfl)) (@oz _ _ _ _ (@j3 _ _ _ _ (@d8 _ _ _ (@az _ _ _ _ _ _ _ _ _ _ C_are_prices (hr.mono (by decide)) (@paC _ _ _ _ _ (@pv _ 3 _ _ rfl (by first | exact Or.inl rfl | exact Or.inr (Or.inl rfl) | exact Or.inr (Or.inr rfl)) (by decide) (by decide)) (@paC _ _ _ _ _ (@m5 _ _ _ _ _ _ _ _ _ _ _ (@pv _ 0 _ _ rfl (by first | exact Or.inl rfl | exact Or.inr (Or.inl rfl) | exact Or.inr (Or.inr rfl)) (by decide) (by decide)) TC.cl_Family C_Family_many (hr.mono (by decide)) rfl) ag rfl) rfl) rfl (by decide) rfl rfl) rfl))))) (@ar _ _ _ (@aU _ _ _ _ cM)) bH) (@ah _ _ _ _ _ (@aN _ _ 4 _ _ _ _ gP.nd rfl (by first | exact Or.inl rfl | exact Or.inr rfl) (@az _ _ _ _ _ _ _ _ _ _ C_free_to_give (hr.mono (by decide)) (@paC _ _ _ _ _ (@pv _ 1 _ _ rfl (by first | exact Or.inl rfl | exact Or.inr (Or.inl rfl) | exact Or.inr (Or.inr rfl)) (by decide) (by decide)) ag rfl) rfl (by decide) rfl rfl) rfl (by first | exact .inl rfl | exact .inr rfl | assumption)) (@ah _ _ _ _ _ (@dA _ _ _ _ _ _ _ _ (@d8 _ _ _ (@aw _ _ _ _ _ _ _ _ _ (BM K rfl rfl) rfl T.b_any boot_any (@paC _ _ _ _ _ (@xl _ _ _ _ _ _ _ _ _ ((iX K (a4 4))) ((ca 0)) kl _ ((iX K (eN (spP K bQ) [] E0 (bp (a4 5) (bp (a4 0) eM))))) ((ca 1)) kl ((tOp CC (tOp (tF K) (tOp (kx K) (a4 2) (a4 0)) (tOp (kx K) (a4 3) (a4 1))) (tOp (kx K) (tOp (kx K) (sE K (a4 4) "laps") (a4 0)) (a4 1)))) ["i","j","gives","takes","family","case"] [none,none,some 2,some 3,some 0,some 1] rfl (@cj _ _ K rfl _ _ (@pv _ 4 _ _ rfl (by first | exact Or.inl rfl | exact Or.inr (Or.inl rfl) | exact Or.inr (Or.inr rfl)) (by decide) (by decide))) (fun _ _ _ _=>⟨(aC (i:=0) (by show List.Nodup (["i","j","gives","takes","family","case"]:List Str);decide +kernel) rfl (by first | exact Or.inl rfl | exact Or.inr rfl)),cw,(cj K rfl (az C_open_for (hr.mono (by decide)) (paC (pv 5) (paC (pv 0) ag)))),(aC (i:=1) (by show List.Nodup (["i","j","gives","takes","family","case"]:List Str);decide +kernel) rfl (by first | exact Or.inl rfl | exact Or.inr rfl)),cw,(iZ Bv (aG (cm K rfl) (bB (dz K rfl) (pv 2) (pv 0) (fun _ _=>rfl)) (bB (dz K rfl) (pv 3) (pv 1) (fun _ _=>rfl))) (bB (dz K rfl) (bB (dz K rfl) (cV K rfl (pv 4) rfl) (pv 0) (fun _ _=>rfl)) (pv 1) (fun _ _=>rfl)) (bi _))⟩) (by kernel_rfl) (fun _=>rfl) (by intro _ _;rfl)) ag rfl) (by decide) (by decide) rfl rfl) rfl) (@ar _ _ _ (@aU _ _ _ _ cM)) bH) (@ar _ _ _ (@aU _ _ _ _ (@aG _ _ _ _ _ _ _ _ (cm K rfl) (@aG _ _ _ _ _ _ _ _ (cm K rfl) (@az _ _ _ _ _ _ _ _ _ _ C_fixed_laps (hr.mono (by decide)) (@paC _ _ _ _ _ (@pv _ 0 _ _ rfl (by first | exact Or.inl rfl | exact Or.inr (Or.inl rfl) | exact Or.inr (Or.inr rfl)) (by decide) (by decide)) (@paC _ _ _ _ _ (@pv _ 1 _ _ rfl (by first | exact Or.inl rfl | exact Or.inr (Or.inl rfl) | exact Or.inr (Or.inr rfl)) (by decide) (by decide)) ag rfl) rfl) rfl (by decide) rfl rfl) (@aw _ _ _ _ _ _ _ _ _ (rN K rfl rfl) rfl T.b_sum boot_sum (@paC _ _ _ _ _ (@bI _ _ _ _ _ _ ((iX K (a4 4))) ((ca 0)) kl ((tOp (kx K) (a4 1) (a4 0))) _ ["i","gives"] [none,some 2] rfl (@cj _ _ K rfl _ _ (@pv _ 4 _ _ rfl (by first | exact Or.inl rfl | exact Or.inr (Or.inl rfl) | exact Or.inr (Or.inr rfl)) (by decide) (by decide))) (fun _ _ _ _=>⟨(aC (i:=0) (by show List.Nodup (["i","gives"]:List Str);decide +kernel) rfl (by first | exact Or.inl rfl | exact Or.inr rfl)),cw,(bB (dz K rfl) (pv 1) (pv 0) (fun _ _=>rfl))⟩) (by kernel_rfl) (fun _=>rfl)) ag rfl) (by decide) (by decide) rfl rfl)) (@aw _ _ _ _ _ _ _ _ _ (rN K rfl rfl) rfl T.b_sum boot_sum (@paC _ _ _ _ _ (@bI _ _ _ _ _ _ ((iX K (eN (spP K aI) [] E0 (bp (a4 1) eM)))) ((ca 0)) kl ((tOp (kx K) (a4 1) (a4 0))) _ ["j","takes"] [none,some 3] rfl (@cj _ _ K rfl _ _ (@az _ _ _ _ _ _ _ _ _ _ C_free_to_take (hr.mono (by decide)) (@paC _ _ _ _ _ (@pv _ 1 _ _ rfl (by first | exact Or.inl rfl | exact Or.inr (Or.inl rfl) | exact Or.inr (Or.inr rfl)) (by decide) (by decide)) ag rfl) rfl (by decide) rfl rfl)) (fun _ _ _ _=>⟨(aC (i:=0) (by show List.Nodup (["j","takes"]:List Str);decide +kernel) rfl (by first | exact Or.inl rfl | exact Or.inr rfl)),cw,(bB (dz K rfl) (pv 1) (pv 0) (fun _ _=>rfl))⟩) (by kernel_rfl) (fun _=>rfl)) ag rfl) (by decide) (by decide) rfl rfl))))))),fnP (K:=K) (c:=bg) (ps:=dn) (N:=["family","case","gives","takes","giving"]) (aA (dZ (u6 (ku (tX (aF (c:=a9) (aa (ac (ai (i:=2))) (aa (ac (nt (c0:="Family") (m:="many") (ns0:=["pieces","kept","words","left","laps","total"]) (c:=aM) (by decide +kernel) (ai (i:=0)) ae)) ae))))) (ku (tX (aF (c:=a9) (aa (ac (ai (i:=3))) (aa (ac (nt (c0:="Family") (m:="many") (ns0:=["pieces","kept","words","left","laps","total"]) (c:=aM) (by decide +kernel) (ai (i:=0)) ae)) ae)))))) (aV cL) bJ) (aA (aH (aF (c:=aP) (aa (ac (ai (i:=1))) ae)) (aB (i:=4) rfl)) (aA (dZ (tX (bu x4 (aa (ac (xm (ix:=[none,none,some 2,some 3,some 0,some 1]) rfl (ck (ai (i:=4))) (fun fs hc=>(ay (i:=0) (gJ hc (by decide)))) cX (ck (aF (c:=bQ) (aa (ac (ai (i:=5))) (aa (ac (ai (i:=0))) ae)))) (fun fs hc=>(ay (i:=1) (gJ hc (by decide)))) cX (aj u7 (ac (aj bA (ac (aj bD (al (i:=2)) (al (i:=0)))) (ac (aj bD (al (i:=3)) (al (i:=1)))))) (ac (aj bD (ac (aj bD (ac (eB (ns0:=["pieces","kept","words","left","laps","total"]) TC.cl_Family TC.n_Family_laps (i:=4) (by decide +kernel) (al (i:=4)))) (al (i:=0)))) (al (i:=1))))))) ae))) (aV cL) bJ) (aV (aj bA (ac (aj bA (ac (aF (c:=bw) (aa (ac (ai (i:=0))) (aa (ac (ai (i:=1))) ae)))) (ac (bu nq (aa (ac (br (ix:=[none,some 2]) rfl (ck (ai (i:=4))) (fun fs hc=>(ay (i:=0) (gJ hc (by decide)))) cX (aj bD (al (i:=1)) (al (i:=0))))) ae))))) (ac (bu nq (aa (ac (br (ix:=[none,some 3]) rfl (ck (aF (c:=aI) (aa (ac (ai (i:=1))) ae))) (fun fs hc=>(ay (i:=0) (gJ hc (by decide)))) cX (aj bD (al (i:=1)) (al (i:=0))))) ae)))))))) (fun ds Q h=>Nat.le_trans (Nat.le_of_eq (gY ds Q h)) (by decide)) lS h⟩
theorem gw:∀ds Q,a6 ds Q->ds.length=4:=fun ds Q h=>by unfold a6 at h;split at h;(first | rfl | exact h.elim);(first | rfl | exact h.elim)
theorem lr (D:cv K mg "told_by_part" eR) (T:Txt mg) (TC:TxC K) (TX:TxX K mg) (C_free_to_give:Cal P w K mg base 1 "free_to_give" ["case"] (spP K aP)) (C_is_number:Cal P w K mg base 1 "is_number" ["thing"] (spP K aZ)):Cal P w K mg base 2 "told_by_part" ["family","case","i","rows"] (spP K a6):=by
 refine D.ok kO (fun _ _ _ _ _ _ us hl=>match us,hl with | [_,_,_,_],_=>rfl) (fun vs H Q E h=>?_) (fun f cdv A outer s H vs Q E hr h=>?_)
 .exact io gw h
 .have hu:=hr.units
  exact ⟨_,(ah (dA (PW.pt (t7 (j3 (d8 (az C_is_number (hr.mono (by decide)) (paC (pv 2) ag)))) (oz (aQ (iD K rfl) (pv 2) (az C_free_to_give (hr.mono (by decide)) (paC (pv 1) ag)) (by with_unfolding_all rfl))))) (ar (aU cM)) bH) zS),fnP (K:=K) (c:=a6) (ps:=c6) (N:=["family","case","i","rows","wanted","greatest","row","j","number"]) (aA (dZ (u6 (ku (tX (aF (c:=aZ) (aa (ac (ai (i:=2))) ae)))) (eV (aj kG (al (i:=2)) (ac (aF (c:=aP) (aa (ac (ai (i:=1))) ae)))))) (aV cL) bJ) ng) (fun ds Q h=>Nat.le_trans (Nat.le_of_eq (gw ds Q h)) (by decide)) lh h⟩
theorem mH:∀ds Q,cE ds Q->ds.length=3:=fun ds Q h=>by unfold cE at h;split at h;(first | rfl | exact h.elim);(first | rfl | exact h.elim)
theorem tR (D:cv K mg "told_by" kK) (T:Txt mg) (TC:TxC K) (TX:TxX K mg) (C_is_row:Cal P w K mg base 1 "is_row" ["thing"] (spP K cg)) (C_told_by_end:Cal P w K mg base 4 "told_by_end" ["family","case","gives","takes"] (spP K bg)) (C_told_by_part:Cal P w K mg base 2 "told_by_part" ["family","case","i","rows"] (spP K a6)):Cal P w K mg base 5 "told_by" ["family","case","paper"] (spP K cE):=by
 refine D.ok tH (fun _ _ _ _ _ _ us hl=>match us,hl with | [_,_,_],_=>rfl) (fun vs H Q E h=>?_) (fun f cdv A outer s H vs Q E hr h=>?_)
 .exact io mH h
 .have hu:=hr.units
  exact ⟨_,(ah (dA (PW.pt (t7 (j3 (d8 (az C_is_row (hr.mono (by decide)) (paC (pv 2) ag)))) (oz (aQ (nz K rfl hu) (aw (c9 K rfl) rfl T.b_len PySem.boot_len (paC (pv 2) ag)) ap (bi _))))) (ar (aU cM)) bH) (ah (dA (aQ (lH K rfl hu) (bB (dz K rfl) (pv 2) ap (fun _ _=>rfl)) (bT (l:=[101,110,100]) (by decide +kernel)) (bi _)) (ar (aU (az C_told_by_end (hr.mono (by decide)) (paC (pv 0) (paC (pv 1) (paC (bB (dz K rfl) (pv 2) ap (fun _ _=>rfl)) (paC (bB (dz K rfl) (pv 2) ap (fun _ _=>rfl)) ag))))))) bH) (ah (dA (aQ (lH K rfl hu) (bB (dz K rfl) (pv 2) ap (fun _ _=>rfl)) (bT (l:=[112,97,114,116]) (by decide +kernel)) (bi _)) (ar (aU (az C_told_by_part (hr.mono (by decide)) (paC (pv 0) (paC (pv 1) (paC (bB (dz K rfl) (pv 2) ap (fun _ _=>rfl)) (paC (bB (dz K rfl) (pv 2) ap (fun _ _=>rfl)) ag))))))) bH) (ar (aU cM))))),fnP (K:=K) (c:=cE) (ps:=gE) (N:=["family","case","paper"]) (aA (dZ (u6 (ku (tX (aF (c:=cg) (aa (ac (ai (i:=2))) ae)))) (eV (aj iA (ac (bu b8 (aa (al (i:=2)) ae))) (ac le_int)))) (aV cL) bJ) (aA (dZ (eV (aj gO (ac (aj bD (al (i:=2)) (ac le_int))) (ac (le_str (l:=[101,110,100]))))) (aV (aF (c:=bg) (aa (ac (ai (i:=0))) (aa (ac (ai (i:=1))) (aa (ac (aj bD (al (i:=2)) (ac le_int))) (aa (ac (aj bD (al (i:=2)) (ac le_int))) ae)))))) bJ) (aA (dZ (eV (aj gO (ac (aj bD (al (i:=2)) (ac le_int))) (ac (le_str (l:=[112,97,114,116]))))) (aV (aF (c:=a6) (aa (ac (ai (i:=0))) (aa (ac (ai (i:=1))) (aa (ac (aj bD (al (i:=2)) (ac le_int))) (aa (ac (aj bD (al (i:=2)) (ac le_int))) ae)))))) bJ) (aV cL)))) (fun ds Q h=>Nat.le_trans (Nat.le_of_eq (mH ds Q h)) (by decide)) tN h⟩
theorem iT:∀ds Q,aJ ds Q->ds.length=2:=fun ds Q h=>by unfold aJ at h;split at h;(first | rfl | exact h.elim);(first | rfl | exact h.elim)
theorem oa (D:cv K mg "case_bound" gb) (T:Txt mg) (TC:TxC K) (TX:TxX K mg) (C_Family_many:Bq P w K mg base 1 (bC K "Family") "many" ["self"] (spP K aM)) (C_first_case:Cal P w K mg base 1 "first_case" ["family"] (spP K bv)) (C_told_by:Cal P w K mg base 5 "told_by" ["family","case","paper"] (spP K cE)):Cal P w K mg base 6 "case_bound" ["family","paper"] (spP K aJ):=by
 refine D.ok iE (fun _ _ _ _ _ _ us hl=>match us,hl with | [_,_],_=>rfl) (fun vs H Q E h=>?_) (fun f cdv A outer s H vs Q E hr h=>?_)
 .exact io iT h
 .have hu:=hr.units
  exact ⟨_,(ah (dA (aQ Ar (m5 (pv 0) TC.cl_Family C_Family_many (hr.mono (by decide))) (mZ rfl T.g_MOST_CASE_WORDS) (bi _)) (ar (aU cM)) bH) (ah (aN (i:=2) iE.nd rfl (by first | exact Or.inl rfl | exact Or.inr rfl) (az C_told_by (hr.mono (by decide)) (paC (pv 0) (paC (az C_first_case (hr.mono (by decide)) (paC (pv 0) ag)) (paC (pv 1) ag))))) (ar (aU (wt (aQ Dl (pv 2) cM (bi _)) cM (aG nu (cV K rfl (pv 0) rfl) (pv 2))))))),fnP (K:=K) (c:=aJ) (ps:=dN) (N:=["family","paper","number"]) (aA (dZ (eV (aj sX (ac (nt (c0:="Family") (m:="many") (ns0:=["pieces","kept","words","left","laps","total"]) (c:=aM) (by decide +kernel) (ai (i:=0)) ae)) (ac (le_int (i:=7))))) (aV cL) bJ) (aA (aH (aF (c:=cE) (aa (ac (ai (i:=0))) (aa (ac (aF (c:=bv) (aa (ac (ai (i:=0))) ae))) (aa (ac (ai (i:=1))) ae)))) (aB (i:=2) rfl)) (aV (Dc (eV (aj qu (al (i:=2)) (ac cL))) cL (aj iw (ac (eB (ns0:=["pieces","kept","words","left","laps","total"]) TC.cl_Family TC.n_Family_total (i:=5) (by decide +kernel) (al (i:=0)))) (al (i:=2))))))) (fun ds Q h=>Nat.le_trans (Nat.le_of_eq (iT ds Q h)) (by decide)) nU h⟩
theorem mI:∀ds Q,cJ ds Q->ds.length=3:=fun ds Q h=>by unfold cJ at h;split at h;(first | rfl | exact h.elim);(first | rfl | exact h.elim)
theorem tS (D:rH K mg "is_text" eX [.int 0,.int 4000]) (T:Txt mg) (TC:TxC K) (TX:TxX K mg):Bn P w K mg base 1 "is_text" ["thing","least","most"] [.int 0,.int 4000] (spP K cJ):=by
 refine D.ok tI (fun dT kV doc pm an cdv ct items us n hi hn hl=>?_) (fun vs H Q E h=>?_) (fun f cdv A outer s H vs Q E hr h=>?_)
 .obtain ⟨i0,i1,rfl⟩:∃i0 i1,items=[i0,i1]:=match items,hi with | [i0,i1],_=>⟨i0,i1,rfl⟩
  have hn':n=0\/n=1\/n=2:=by (have:n<=2:=hn);omega
  rcases hn' with rfl | rfl | rfl
  .have hl2:us.length=1:=by (simp at hl;omega)
   match us,hl2 with
   | [_],_=>exact ⟨_,rfl,rfl⟩
  .have hl2:us.length=2:=by (simp at hl;omega)
   match us,hl2 with
   | [_,_],_=>exact ⟨_,rfl,rfl⟩
  .have hl2:us.length=3:=by (simp at hl;omega)
   match us,hl2 with
   | [_,_,_],_=>exact ⟨_,rfl,rfl⟩
 .exact io mI h
 .have hu:=hr.units
  exact ⟨_,(ah (dA (PW.pt (t7 (j3 (d8 (aw (zi K rfl) rfl T.b_isinstance boot_isinstance (paC (pv 0) (paC (j1 (v:=.ty "str") rfl T.b_str boot_str rfl) ag))))) (oz (j3 (wx CF CF (pv 1) (aw (c9 K rfl) rfl T.b_len PySem.boot_len (paC (pv 0) ag)) (pv 2)))))) (ar (aU ou)) bH) (ar (aU (aw (zp K rfl rfl) rfl T.b_all boot_all (paC (bI (wi:=(iX K (a4 0))) (g:=(ca 0)) (tts:=kl) (te:=(rA CD CD (tC (V.str (S [97]))) (a4 0) (tC (V.str (S [122]))))) ["sign"] [none] rfl (cj K rfl (pv 0)) (fun _ _ _ _=>⟨(aC (i:=0) (by show List.Nodup (["sign"]:List Str);decide +kernel) rfl (by first | exact Or.inl rfl | exact Or.inr rfl)),cw,(wv CF CF (bT (l:=[97]) (by decide +kernel)) (pv 0) (bT (l:=[122]) (by decide +kernel)))⟩) (by kernel_rfl)) ag))))),fnP (K:=K) (c:=cJ) (ps:=gF) (N:=["thing","least","most"]) (aA (dZ (u6 (ku (tX (va .str (al (i:=0))))) (ku (eV (rM wX wX (al (i:=1)) (ac (bu b8 (aa (al (i:=0)) ae))) (al (i:=2)))))) (aV pf) bJ) (aV (bu vh (aa (ac (br (ix:=[none]) rfl (ck (ai (i:=0))) (fun fs hc=>(ay (i:=0) (gJ hc (by decide)))) cX (rM wX wX (ac (le_str (l:=[97]))) (al (i:=0)) (ac (le_str (l:=[122])))))) ae)))) (fun ds Q h=>Nat.le_trans (Nat.le_of_eq (mI ds Q h)) (by decide)) tO h⟩
theorem gZ:∀ds Q,aT ds Q->ds.length=2:=fun ds Q h=>by unfold aT at h;split at h;(first | rfl | exact h.elim);(first | rfl | exact h.elim)
theorem l6 (D:cv K mg "first_place" fk) (T:Txt mg) (TC:TxC K) (TX:TxX K mg):Cal P w K mg base 1 "first_place" ["text","piece"] (spP K aT):=by
 refine D.ok lM (fun _ _ _ _ _ _ us hl=>match us,hl with | [_,_],_=>rfl) (fun vs H Q E h=>?_) (fun f cdv A outer s H vs Q E hr h=>?_)
 .exact io gZ h
 .have hu:=hr.units
  exact ⟨_,(ar (aU (jy K rfl PySem.F.plainAttrs_str PySem.F.slot_str_find PySem.F.type_str_find xb (pv 0) (paC (pv 1) ag)))),fnP (K:=K) (c:=aT) (ps:=dq) (N:=["text","piece"]) (aV (BS xc (ai (i:=0)) (aa (al (i:=1)) ae))) (fun ds Q h=>Nat.le_trans (Nat.le_of_eq (gZ ds Q h)) (by decide)) lU h⟩
theorem yo:∀ds Q,fJ ds Q->ds.length=2:=fun ds Q h=>by unfold fJ at h;split at h;(first | rfl | exact h.elim);(first | rfl | exact h.elim)
theorem Cu (D:cv K mg "lap" zV) (T:Txt mg) (TC:TxC K) (TX:TxX K mg):Cal P w K mg base 1 "lap" ["one","other"] (spP K fJ):=by
 refine D.ok yg (fun _ _ _ _ _ _ us hl=>match us,hl with | [_,_],_=>rfl) (fun vs H Q E h=>?_) (fun f cdv A outer s H vs Q E hr h=>?_)
 .exact io yo h
 .have hu:=hr.units
  exact ⟨_,(ah (fC PassesOwn.never rfl (oR rfl T.b_range (paC (aG nu (aw (x3 rfl) rfl T.b_min boot_min (paC (aw (c9 K rfl) rfl T.b_len PySem.boot_len (paC (pv 0) ag)) (paC (aw (c9 K rfl) rfl T.b_len PySem.boot_len (paC (pv 1) ag)) ag))) ap) (paC ap (paC (yw ug ap) ag)))) (aC (i:=2) yg.nd rfl (by first | exact Or.inl rfl | exact Or.inr rfl)) (ar (dA (d8 (jy K rfl PySem.F.plainAttrs_str PySem.F.slot_str_endswith PySem.F.type_str_endswith zw (pv 0) (paC (ey (xY K rfl) (pv 1) hZ (e5 (pv 2))) ag))) (ar (aU (pv 2))) bH))) (ar (aU ap))),fnP (K:=K) (c:=fJ) (ps:=ss) (N:=["one","other","k"]) (aA (fG (BD (aa (ac (aj iw (ac (bu vf (aa (ac (bu b8 (aa (al (i:=0)) ae))) (aa (ac (bu b8 (aa (al (i:=1)) ae))) ae)))) (ac le_int))) (aa (ac le_int) (aa (ac (zb vo (ac le_int))) ae)))) (ay (i:=2) rfl) (dZ (tX (BS zy (ai (i:=0)) (aa (ac (ez (al (i:=1)) fc (dG (ai (i:=2))))) ae))) (aV (ai (i:=2))) bJ)) (aV le_int)) (fun ds Q h=>Nat.le_trans (Nat.le_of_eq (yo ds Q h)) (by decide)) Cs h⟩
theorem lu:∀ds Q,bY ds Q->ds.length=1:=fun ds Q h=>by unfold bY at h;split at h;(first | rfl | exact h.elim);(first | rfl | exact h.elim)
theorem rh (D:cv K mg "all_laps" jk) (T:Txt mg) (TC:TxC K) (TX:TxX K mg) (C_lap:Cal P w K mg base 1 "lap" ["one","other"] (spP K fJ)):Cal P w K mg base 2 "all_laps" ["words"] (spP K bY):=by
 refine D.ok qI (fun _ _ _ _ _ _ us hl=>match us,hl with | [_],_=>rfl) (fun vs H Q E h=>?_) (fun f cdv A outer s H vs Q E hr h=>?_)
 .exact io lu h
 .have hu:=hr.units
  exact ⟨_,(ar (aU (bP (fe K rfl) rfl T.b_tuple boot_tuple (paC (bI (wi:=(iX K (a4 0))) (g:=(ca 0)) (tts:=kl) (te:=(tCB (zt K) (bp (sO [none,some 0] (iX K (a4 1)) (ca 0) kl (eN (spP K fJ) [] E0 (bp (a4 1) (bp (a4 0) eM)))) eM))) ["one","words"] [none,some 0] rfl (cj K rfl (pv 0)) (fun _ _ _ _=>⟨(aC (i:=0) (by show List.Nodup (["one","words"]:List Str);decide +kernel) rfl (by first | exact Or.inl rfl | exact Or.inr rfl)),cw,(bP (fe K rfl) rfl T.b_tuple boot_tuple (paC (bI (wi:=(iX K (a4 1))) (g:=(ca 0)) (tts:=kl) (te:=(eN (spP K fJ) [] E0 (bp (a4 1) (bp (a4 0) eM)))) ["other","one"] [none,some 0] rfl (cj K rfl (pv 1)) (fun _ _ _ _=>⟨(aC (i:=0) (by show List.Nodup (["other","one"]:List Str);decide +kernel) rfl (by first | exact Or.inl rfl | exact Or.inr rfl)),cw,(az C_lap (hr.mono (by decide)) (paC (pv 1) (paC (pv 0) ag)))⟩) (by kernel_rfl)) ag))⟩) (by kernel_rfl)) ag)))),fnP (K:=K) (c:=bY) (ps:=fq) (N:=["words"]) (aV (bu dH (aa (ac (br (ix:=[none,some 0]) rfl (ck (ai (i:=0))) (fun fs hc=>(ay (i:=0) (gJ hc (by decide)))) cX (bu dH (aa (ac (br (ix:=[none,some 0]) rfl (ck (ai (i:=1))) (fun fs hc=>(ay (i:=0) (gJ hc (by decide)))) cX (aF (c:=fJ) (aa (ac (ai (i:=1))) (aa (ac (ai (i:=0))) ae))))) ae)))) ae))) (fun ds Q h=>Nat.le_trans (Nat.le_of_eq (lu ds Q h)) (by decide)) qV h⟩
theorem gy:∀ds Q,a7 ds Q->ds.length=1:=fun ds Q h=>by unfold a7 at h;split at h;(first | rfl | exact h.elim);(first | rfl | exact h.elim)
theorem lv (D:cv K mg "check_pieces" eS) (T:Txt mg) (TC:TxC K) (TX:TxX K mg) (C_is_text:Bn P w K mg base 1 "is_text" ["thing","least","most"] [.int 0,.int 4000] (spP K cJ)):Cal P w K mg base 2 "check_pieces" ["things"] (spP K a7):=by
 refine D.ok ej (fun _ _ _ _ _ _ us hl=>match us,hl with | [_],_=>rfl) (fun vs H Q E h=>?_) (fun f cdv A outer s H vs Q E hr h=>?_)
 .exact io gy h
 .have hu:=hr.units
  exact ⟨_,(ah (dA (aQ Ar (aw (c9 K rfl) rfl T.b_len PySem.boot_len (paC (pv 0) ag)) (mZ rfl T.g_MOST_PIECES) (bi _)) (ar rz) bH) (ar (fC PassesOwn.never rfl (gA K rfl rfl T.b_enumerate (paC (pv 0) ag)) (jB K rfl (n:=2) rfl (ce (aC (i:=1) ej.nd rfl (by first | exact Or.inl rfl | exact Or.inr rfl)) (ce (aC (i:=2) ej.nd rfl (by first | exact Or.inl rfl | exact Or.inr rfl)) fQ))) (ar (dA (j3 (d8 (xn 2 C_is_text (hr.mono (by decide)) (by decide) (paC (pv 2) (paC ap (paC (mZ rfl T.g_MOST_SIGNS) ag)))))) (ar rz) bH))))),fnP (K:=K) (c:=a7) (ps:=c7) (N:=["things","at","thing"]) (aA (dZ (eV (aj sX (ac (bu b8 (aa (al (i:=0)) ae))) (ac (le_int (i:=40))))) ng bJ) (fG (jb (aa (ac (ai (i:=0))) ae)) (jf (cf (ay (i:=1) rfl) (cf (ay (i:=2) rfl) fT))) (dZ (ku (tX (xh (ds:=[]) (by repeat (first | exact .nil | exact .cons (.int _) .nil | refine .cons (.int _) ?_)) (aa (ac (ai (i:=2))) (aa (ac le_int) (aa (ac (le_int (i:=60))) ae)))))) ng bJ))) (fun ds Q h=>Nat.le_trans (Nat.le_of_eq (gy ds Q h)) (by decide)) lj h⟩
theorem fL:∀ds Q,aD ds Q->ds.length=2:=fun ds Q h=>by unfold aD at h;split at h;(first | rfl | exact h.elim);(first | rfl | exact h.elim)
theorem jT (D:cv K mg "stands_within" ef) (T:Txt mg) (TC:TxC K) (TX:TxX K mg) (C_first_place:Cal P w K mg base 1 "first_place" ["text","piece"] (spP K aT)):Cal P w K mg base 2 "stands_within" ["piece","other"] (spP K aD):=by
 refine D.ok jN (fun _ _ _ _ _ _ us hl=>match us,hl with | [_,_],_=>rfl) (fun vs H Q E h=>?_) (fun f cdv A outer s H vs Q E hr h=>?_)
 .exact io fL h
 .have hu:=hr.units
  exact ⟨_,(ar (aU (iZ D2 (az C_first_place (hr.mono (by decide)) (paC (pv 1) (paC (pv 0) ag))) ap (bi _)))),fnP (K:=K) (c:=aD) (ps:=cS) (N:=["piece","other"]) (aV (aj Bw (ac (aF (c:=aT) (aa (ac (ai (i:=1))) (aa (ac (ai (i:=0))) ae)))) (ac le_int))) (fun ds Q h=>Nat.le_trans (Nat.le_of_eq (fL ds Q h)) (by decide)) jS h⟩
theorem mJ:∀ds Q,ci ds Q->ds.length=2:=fun ds Q h=>by unfold ci at h;split at h;(first | rfl | exact h.elim);(first | rfl | exact h.elim)
theorem tT (D:cv K mg "is_kept" kL) (T:Txt mg) (TC:TxC K) (TX:TxX K mg) (C_stands_within:Cal P w K mg base 2 "stands_within" ["piece","other"] (spP K aD)):Cal P w K mg base 3 "is_kept" ["pieces","at"] (spP K ci):=by
 refine D.ok jq (fun _ _ _ _ _ _ us hl=>match us,hl with | [_,_],_=>rfl) (fun vs H Q E h=>?_) (fun f cdv A outer s H vs Q E hr h=>?_)
 .exact io mJ h
 .have hu:=hr.units
  exact ⟨_,(ah (aN (i:=2) jq.nd rfl (by first | exact Or.inl rfl | exact Or.inr rfl) (bB (dz K rfl) (pv 0) (pv 1) (fun _ _=>rfl))) (ah (mW (wi:=(iX K (a4 0))) (g:=(ca 0)) (tts:=(hV (tOp Dt (tCB (lD K) (bp (a4 0) eM)) (tCB (lD K) (bp (a4 1) eM))))) (te:=(a4 0)) (i:=3) ["other","piece"] [none,some 2] jq.nd rfl (Or.inl rfl) rfl (cj K rfl (pv 0)) (fun _ _ _ _=>⟨(aC (i:=0) (by show List.Nodup (["other","piece"]:List Str);decide +kernel) rfl (by first | exact Or.inl rfl | exact Or.inr rfl)),(dX (aQ Ar (aw (c9 K rfl) rfl T.b_len PySem.boot_len (paC (pv 0) ag)) (aw (c9 K rfl) rfl T.b_len PySem.boot_len (paC (pv 1) ag)) (bi _))),(pv 0)⟩) (by kernel_rfl)) (ar (aU (oA (iZ (iD K rfl) (pv 2) (ey (xY K rfl) (pv 0) hZ (e5 (pv 1))) (by with_unfolding_all rfl)) (rq (xK (aw (BM K rfl rfl) rfl T.b_any boot_any (paC (bI (wi:=(iX K (a4 3))) (g:=(ca 0)) (tts:=kl) (te:=(eN (spP K aD) [] E0 (bp (a4 1) (bp (a4 0) eM)))) ["other","piece"] [none,some 2] rfl (cj K rfl (pv 3)) (fun _ _ _ _=>⟨(aC (i:=0) (by show List.Nodup (["other","piece"]:List Str);decide +kernel) rfl (by first | exact Or.inl rfl | exact Or.inr rfl)),cw,(az C_stands_within (hr.mono (by decide)) (paC (pv 1) (paC (pv 0) ag)))⟩) (by kernel_rfl)) ag))))))))),fnP (K:=K) (c:=ci) (ps:=gG) (N:=["pieces","at","piece","longer"]) (aA (aH (aj bD (al (i:=0)) (al (i:=1))) (aB (i:=2) rfl)) (aA (aH (br (ix:=[none,some 2]) rfl (ck (ai (i:=0))) (fun fs hc=>(ay (i:=0) (gJ hc (by decide)))) (eV (aj sX (ac (bu b8 (aa (al (i:=0)) ae))) (ac (bu b8 (aa (al (i:=1)) ae))))) (ai (i:=0))) (aB (i:=3) rfl)) (aV (pq (aj kG (al (i:=2)) (ac (ez (al (i:=0)) fc (dG (ai (i:=1)))))) (xV (bu x4 (aa (ac (br (ix:=[none,some 2]) rfl (ck (ai (i:=3))) (fun fs hc=>(ay (i:=0) (gJ hc (by decide)))) cX (aF (c:=aD) (aa (ac (ai (i:=1))) (aa (ac (ai (i:=0))) ae))))) ae))))))) (fun ds Q h=>Nat.le_trans (Nat.le_of_eq (mJ ds Q h)) (by decide)) tP h⟩
theorem lw:∀ds Q,bR ds Q->ds.length=3:=fun ds Q h=>by unfold bR at h;split at h;(first | rfl | exact h.elim);(first | rfl | exact h.elim)
theorem rj (D:cv K mg "left_row" jl) (T:Txt mg) (TC:TxC K) (TX:TxX K mg) (C_first_place:Cal P w K mg base 1 "first_place" ["text","piece"] (spP K aT)) (C_stands_within:Cal P w K mg base 2 "stands_within" ["piece","other"] (spP K aD)):Cal P w K mg base 3 "left_row" ["pieces","kept","at"] (spP K bR):=by
 refine D.ok kP (fun _ _ _ _ _ _ us hl=>match us,hl with | [_,_,_],_=>rfl) (fun vs H Q E h=>?_) (fun f cdv A outer s H vs Q E hr h=>?_)
 .exact io lw h
 .have hu:=hr.units
  exact ⟨_,(ah (aN (i:=3) kP.nd rfl (by first | exact Or.inl rfl | exact Or.inr rfl) (aw (BL K rfl rfl) rfl T.b_min boot_min (paC (bI (wi:=(iX K (a4 1))) (g:=(ca 0)) (tts:=(tB (eN (spP K aD) [] E0 (bp (tOp (kx K) (a4 1) (a4 2)) (bp (tOp (kx K) (a4 1) (a4 0)) eM))))) (te:=(a4 0)) ["one","pieces","at"] [none,some 0,some 2] rfl (cj K rfl (pv 1)) (fun _ _ _ _=>⟨(aC (i:=0) (by show List.Nodup (["one","pieces","at"]:List Str);decide +kernel) rfl (by first | exact Or.inl rfl | exact Or.inr rfl)),(dX (d8 (az C_stands_within (hr.mono (by decide)) (paC (bB (dz K rfl) (pv 1) (pv 2) (fun _ _=>rfl)) (paC (bB (dz K rfl) (pv 1) (pv 0) (fun _ _=>rfl)) ag))))),(pv 0)⟩) (by kernel_rfl)) ag))) (ar (aU (ju (paC (pv 2) (paC (pv 3) (paC (az C_first_place (hr.mono (by decide)) (paC (bB (dz K rfl) (pv 0) (pv 3) (fun _ _=>rfl)) (paC (bB (dz K rfl) (pv 0) (pv 2) (fun _ _=>rfl)) ag))) ag))))))),fnP (K:=K) (c:=bR) (ps:=ft) (N:=["pieces","kept","at","holder"]) (aA (aH (bu zr (aa (ac (br (ix:=[none,some 0,some 2]) rfl (ck (ai (i:=1))) (fun fs hc=>(ay (i:=0) (gJ hc (by decide)))) (tX (aF (c:=aD) (aa (ac (aj bD (al (i:=1)) (al (i:=2)))) (aa (ac (aj bD (al (i:=1)) (al (i:=0)))) ae)))) (ai (i:=0)))) ae)) (aB (i:=3) rfl)) (aV (kr (aa (ac (ai (i:=2))) (aa (ac (ai (i:=3))) (aa (ac (aF (c:=aT) (aa (ac (aj bD (al (i:=0)) (al (i:=3)))) (aa (ac (aj bD (al (i:=0)) (al (i:=2)))) ae)))) ae)))))) (fun ds Q h=>Nat.le_trans (Nat.le_of_eq (lw ds Q h)) (by decide)) qX h⟩
theorem hG:∀p ds Q,bh p ds Q->ds.length + 1=2:=fun p ds Q h=>by unfold bh at h;split at h;(first | rfl | exact h.elim);(first | rfl | exact h.elim)
theorem l7 (D:rL K mg (bC K "Family") "Family" "Family.__init__" cz) (T:Txt mg) (TC:TxC K) (TX:TxX K mg) (C_all_laps:Cal P w K mg base 2 "all_laps" ["words"] (spP K bY)) (C_check_pieces:Cal P w K mg base 2 "check_pieces" ["things"] (spP K a7)) (C_is_kept:Cal P w K mg base 3 "is_kept" ["pieces","at"] (spP K ci)) (C_left_row:Cal P w K mg base 3 "left_row" ["pieces","kept","at"] (spP K bR)):Br P w K mg base 4 (bC K "Family") "Family" ["self","pieces"] (spR K bh):=by
 refine D.ok gQ (fun _ _ _ _ _ _ us hl=>match us,hl with | [_,_],_=>rfl) (fun vs H Q E h=>?_) (fun f cdv A outer s H vs Q E hr h=>?_)
 .exact As hG h
 .have hu:=hr.units
  exact ⟨_,(ah (iY (az C_check_pieces (hr.mono (by decide)) (paC (pv 1) ag))) (ah (me (pv 0) (bP (fe K rfl) rfl T.b_tuple boot_tuple (paC (pv 1) ag)) rfl) (ah (aN (i:=2) gQ.nd rfl (by first | exact Or.inl rfl | exact Or.inr rfl) (bP (BR K rfl rfl) rfl T.b_list boot_list (paC (uR rfl T.b_range (paC (aw (c9 K rfl) rfl T.b_len PySem.boot_len (paC (cV K rfl (pv 0) rfl) ag)) ag)) ag))) (ah (me (pv 0) (bP (fe K rfl) rfl T.b_tuple boot_tuple (paC (bI (wi:=(iX K (a4 2))) (g:=(ca 0)) (tts:=(tB (eN (spP K ci) [] E0 (bp (sE K (a4 1) "pieces") (bp (a4 0) eM))))) (te:=(a4 0)) ["at","self"] [none,some 0] rfl (cj K rfl (pv 2)) (fun _ _ _ _=>⟨(aC (i:=0) (by show List.Nodup (["at","self"]:List Str);decide +kernel) rfl (by first | exact Or.inl rfl | exact Or.inr rfl)),(dX (d8 (az C_is_kept (hr.mono (by decide)) (paC (cV K rfl (pv 1) rfl) (paC (pv 0) ag))))),(pv 0)⟩) (by kernel_rfl)) ag)) rfl) (ah (me (pv 0) (bP (fe K rfl) rfl T.b_tuple boot_tuple (paC (bI (wi:=(iX K (sE K (a4 0) "kept"))) (g:=(ca 0)) (tts:=kl) (te:=(tOp (kx K) (sE K (a4 1) "pieces") (a4 0))) ["at","self"] [none,some 0] rfl (cj K rfl (cV K rfl (pv 0) rfl)) (fun _ _ _ _=>⟨(aC (i:=0) (by show List.Nodup (["at","self"]:List Str);decide +kernel) rfl (by first | exact Or.inl rfl | exact Or.inr rfl)),cw,(bB (dz K rfl) (cV K rfl (pv 1) rfl) (pv 0) (fun _ _=>rfl))⟩) (by kernel_rfl)) ag)) rfl) (ah (me (pv 0) (bP (fe K rfl) rfl T.b_tuple boot_tuple (paC (bI (wi:=(iX K (a4 2))) (g:=(ca 0)) (tts:=(hV (tOp (Au K true) (a4 0) (sE K (a4 1) "kept")))) (te:=(eN (spP K bR) [] E0 (bp (sE K (a4 1) "pieces") (bp (sE K (a4 1) "kept") (bp (a4 0) eM))))) ["at","self"] [none,some 0] rfl (cj K rfl (pv 2)) (fun _ _ _ _=>⟨(aC (i:=0) (by show List.Nodup (["at","self"]:List Str);decide +kernel) rfl (by first | exact Or.inl rfl | exact Or.inr rfl)),(dX (aQ (iD K rfl) (pv 0) (cV K rfl (pv 1) rfl) (by with_unfolding_all rfl))),(az C_left_row (hr.mono (by decide)) (paC (cV K rfl (pv 1) rfl) (paC (cV K rfl (pv 1) rfl) (paC (pv 0) ag))))⟩) (by kernel_rfl)) ag)) rfl) (ah (me (pv 0) (az C_all_laps (hr.mono (by decide)) (paC (cV K rfl (pv 0) rfl) ag)) rfl) (ar (me (pv 0) (aw (rN K rfl rfl) rfl T.b_sum boot_sum (paC (bI (wi:=(iX K (sE K (a4 0) "words"))) (g:=(ca 0)) (tts:=kl) (te:=(tCB (lD K) (bp (a4 0) eM))) ["word"] [none] rfl (cj K rfl (cV K rfl (pv 0) rfl)) (fun _ _ _ _=>⟨(aC (i:=0) (by show List.Nodup (["word"]:List Str);decide +kernel) rfl (by first | exact Or.inl rfl | exact Or.inr rfl)),cw,(aw (c9 K rfl) rfl T.b_len PySem.boot_len (paC (pv 0) ag))⟩) (by kernel_rfl)) ag)) rfl))))))))),fnR (K:=K) (c:=bh) (ps:=dr) (N:=["self","pieces","indexes"]) (aA (ja (aF (c:=a7) (aa (ac (ai (i:=1))) ae))) (aA (jd (c0:="Family") (ns0:=[]) (i:=0) TC.cl_Family TC.n_Family_pieces (by decide +kernel) (bu dH (aa (al (i:=1)) ae))) (aA (aH (xa false (aa (ac (bu b8 (aa (ac (eB (ns0:=["pieces"]) TC.cl_Family TC.n_Family_pieces (i:=0) (by decide +kernel) (al (i:=0)))) ae))) ae)) (aB (i:=2) rfl)) (aA (jd (c0:="Family") (ns0:=["pieces"]) (i:=0) TC.cl_Family TC.n_Family_kept (by decide +kernel) (bu dH (aa (ac (br (ix:=[none,some 0]) rfl (ck (ai (i:=2))) (fun fs hc=>(ay (i:=0) (gJ hc (by decide)))) (tX (aF (c:=ci) (aa (ac (eB (ns0:=["pieces"]) TC.cl_Family TC.n_Family_pieces (i:=0) (by decide +kernel) (al (i:=1)))) (aa (ac (ai (i:=0))) ae)))) (ai (i:=0)))) ae))) (aA (jd (c0:="Family") (ns0:=["pieces","kept"]) (i:=0) TC.cl_Family TC.n_Family_words (by decide +kernel) (bu dH (aa (ac (br (ix:=[none,some 0]) rfl (ck (eB (ns0:=["pieces","kept"]) TC.cl_Family TC.n_Family_kept (i:=1) (by decide +kernel) (al (i:=0)))) (fun fs hc=>(ay (i:=0) (gJ hc (by decide)))) cX (aj bD (ac (eB (ns0:=["pieces","kept"]) TC.cl_Family TC.n_Family_pieces (i:=0) (by decide +kernel) (al (i:=1)))) (al (i:=0))))) ae))) (aA (jd (c0:="Family") (ns0:=["pieces","kept","words"]) (i:=0) TC.cl_Family TC.n_Family_left (by decide +kernel) (bu dH (aa (ac (br (ix:=[none,some 0]) rfl (ck (ai (i:=2))) (fun fs hc=>(ay (i:=0) (gJ hc (by decide)))) (eV (aj kG (al (i:=0)) (ac (eB (ns0:=["pieces","kept","words"]) TC.cl_Family TC.n_Family_kept (i:=1) (by decide +kernel) (al (i:=1)))))) (aF (c:=bR) (aa (ac (eB (ns0:=["pieces","kept","words"]) TC.cl_Family TC.n_Family_pieces (i:=0) (by decide +kernel) (al (i:=1)))) (aa (ac (eB (ns0:=["pieces","kept","words"]) TC.cl_Family TC.n_Family_kept (i:=1) (by decide +kernel) (al (i:=1)))) (aa (ac (ai (i:=0))) ae)))))) ae))) (aA (jd (c0:="Family") (ns0:=["pieces","kept","words","left"]) (i:=0) TC.cl_Family TC.n_Family_laps (by decide +kernel) (aF (c:=bY) (aa (ac (eB (ns0:=["pieces","kept","words","left"]) TC.cl_Family TC.n_Family_words (i:=2) (by decide +kernel) (al (i:=0)))) ae))) (jd (c0:="Family") (ns0:=["pieces","kept","words","left","laps"]) (i:=0) TC.cl_Family TC.n_Family_total (by decide +kernel) (bu nq (aa (ac (br (ix:=[none]) rfl (ck (eB (ns0:=["pieces","kept","words","left","laps"]) TC.cl_Family TC.n_Family_words (i:=2) (by decide +kernel) (al (i:=0)))) (fun fs hc=>(ay (i:=0) (gJ hc (by decide)))) cX (bu b8 (aa (al (i:=0)) ae)))) ae)))))))))) (fun p ds Q h=>Nat.le_trans (Nat.le_of_eq (hG p ds Q h)) (by decide)) lV h⟩
theorem hJ:∀ds Q,aM ds Q->ds.length=1:=fun ds Q h=>by unfold aM at h;split at h;(first | rfl | exact h.elim);(first | rfl | exact h.elim)
theorem l9 (D:rK K (bC K "Family") "many" "Family.many" cA) (T:Txt mg) (TC:TxC K) (TX:TxX K mg):Bq P w K mg base 1 (bC K "Family") "many" ["self"] (spP K aM):=by
 refine D.ok lN (fun _ _ _ _ _ _ us hl=>match us,hl with | [_],_=>rfl) (fun vs H Q E h=>?_) (fun f cdv A outer s H vs Q E hr h=>?_)
 .exact io hJ h
 .have hu:=hr.units
  exact ⟨_,(ar (aU (aw (c9 K rfl) rfl T.b_len PySem.boot_len (paC (cV K rfl (pv 0) rfl) ag)))),fnP (K:=K) (c:=aM) (ps:=dt) (N:=["self"]) (aV (bu b8 (aa (ac (eB (ns0:=["pieces","kept","words","left","laps","total"]) TC.cl_Family TC.n_Family_words (i:=2) (by decide +kernel) (al (i:=0)))) ae))) (fun ds Q h=>Nat.le_trans (Nat.le_of_eq (hJ ds Q h)) (by decide)) lW h⟩
theorem jI:∀ds Q,bM ds Q->ds.length=2:=fun ds Q h=>by unfold bM at h;split at h;(first | rfl | exact h.elim);(first | rfl | exact h.elim)
theorem qf (D:cv K mg "_law_mixed" ij) (T:Txt mg) (TC:TxC K) (TX:TxX K mg):Cal P w K mg base 1 "_law_mixed" ["_law_cell","_law_k"] (spP K bM):=by
 refine D.ok dw (fun _ _ _ _ _ _ us hl=>match us,hl with | [_,_],_=>rfl) (fun vs H Q E h=>?_) (fun f cdv A outer s H vs Q E hr h=>?_)
 .exact io jI h
 .have hu:=hr.units
  exact ⟨_,(ah (aN (i:=2) dw.nd rfl (by first | exact Or.inl rfl | exact Or.inr rfl) (aG (cm K rfl) (aG (cm K rfl) (aG (cm K rfl) (aG cF (pv 0) ap) (aG ib (aG ib (pv 1) (pv 1)) ap)) (aG ib (pv 1) ap)) ap)) (ah (aN (i:=2) dw.nd rfl (by first | exact Or.inl rfl | exact Or.inr rfl) (aG cF (pv 2) ap)) (ah (aN (i:=2) dw.nd rfl (by first | exact Or.inl rfl | exact Or.inr rfl) (aG cF (aG ib (pv 2) (pv 2)) ap)) (ah (aN (i:=2) dw.nd rfl (by first | exact Or.inl rfl | exact Or.inr rfl) (aG cF (aG ib (aG (cm K rfl) (aG (cm K rfl) (pv 2) (aG ib (pv 1) ap)) ap) ap) ap)) (ar (aU (aG mq (aG cF (aG ib (pv 2) (pv 2)) ap) ap))))))),fnP (K:=K) (c:=bM) (ps:=eH) (N:=["_law_cell","_law_k","_law_number"]) (aA (aH (aj bA (ac (aj bA (ac (aj bA (ac (aj bb (al (i:=0)) (ac le_int))) (ac (aj dY (ac (aj dY (al (i:=1)) (al (i:=1)))) (ac le_int))))) (ac (aj dY (al (i:=1)) (ac le_int))))) (ac le_int)) (aB (i:=2) rfl)) (aA (aH (aj bb (al (i:=2)) (ac le_int)) (aB (i:=2) rfl)) (aA (aH (aj bb (ac (aj dY (al (i:=2)) (al (i:=2)))) (ac le_int)) (aB (i:=2) rfl)) (aA (aH (aj bb (ac (aj dY (ac (aj bA (ac (aj bA (al (i:=2)) (ac (aj dY (al (i:=1)) (ac le_int))))) (ac le_int))) (ac le_int))) (ac le_int)) (aB (i:=2) rfl)) (aV (aj i8 (ac (aj bb (ac (aj dY (al (i:=2)) (al (i:=2)))) (ac le_int))) (ac le_int))))))) (fun ds Q h=>Nat.le_trans (Nat.le_of_eq (jI ds Q h)) (by decide)) p5 h⟩
theorem lx:∀ds Q,bZ ds Q->ds.length=2:=fun ds Q h=>by unfold bZ at h;split at h;(first | rfl | exact h.elim);(first | rfl | exact h.elim)
theorem rk (D:cv K mg "_law_deck" jm) (T:Txt mg) (TC:TxC K) (TX:TxX K mg) (C_law_mixed:Cal P w K mg base 1 "_law_mixed" ["_law_cell","_law_k"] (spP K bM)):Cal P w K mg base 2 "_law_deck" ["_law_script","_law_many"] (spP K bZ):=by
 refine D.ok cB (fun _ _ _ _ _ _ us hl=>match us,hl with | [_,_],_=>rfl) (fun vs H Q E h=>?_) (fun f cdv A outer s H vs Q E hr h=>?_)
 .exact io lx h
 .have hu:=hr.units
  exact ⟨_,(ah (aN (i:=2) cB.nd rfl (by first | exact Or.inl rfl | exact Or.inr rfl) (aG (cm K rfl) (bP (vk K rfl) rfl T.b_list boot_list (paC (pv 0) ag)) (bq (paC (aw (c9 K rfl) rfl T.b_len PySem.boot_len (paC (pv 0) ag)) ag)))) (ah (aN (i:=3) cB.nd rfl (by first | exact Or.inl rfl | exact Or.inr rfl) (bq ag)) (ah (aN (i:=4) cB.nd rfl (by first | exact Or.inl rfl | exact Or.inr rfl) ap) (ah (mO PassesOwn.never (aQ Bv (aw (c9 K rfl) rfl T.b_len PySem.boot_len (paC (pv 3) ag)) (pv 1) (bi _)) (ah (fC PassesOwn.never rfl (cj K rfl (pv 2)) (aC (i:=5) cB.nd rfl (by first | exact Or.inl rfl | exact Or.inr rfl)) (ah (aN (i:=6) cB.nd rfl (by first | exact Or.inl rfl | exact Or.inr rfl) (pv 5)) (ah (i5 (dA (PW.pt (t7 (aQ Ar (pv 4) ap (bi _)) (oz (aQ Bv (pv 5) (aG BY ap ap) (bi _))))) (ah (iY (jy K rfl PySem.F.plainAttrs_list PySem.F.slot_list_append PySem.F.type_list_append dS (pv 3) (paC (aG cF (az C_law_mixed (hr.mono (by decide)) (paC (pv 5) (paC (aG (cm K rfl) (aw (c9 K rfl) rfl T.b_len PySem.boot_len (paC (pv 3) ag)) ap) ag))) ap) ag))) (ar (aN (i:=6) cB.nd rfl (by first | exact Or.inl rfl | exact Or.inr rfl) ap))) bH)) (ar (mO PassesOwn.never (PW.pt (j2 (aQ Ar (pv 6) ap (bi _)) (hU (aQ Bv (aw (c9 K rfl) rfl T.b_len PySem.boot_len (paC (pv 3) ag)) (pv 1) (bi _))))) (ah (iY (jy K rfl PySem.F.plainAttrs_list PySem.F.slot_list_append PySem.F.type_list_append dS (pv 3) (paC (aG cF (pv 6) ap) ag))) (ar (aN (i:=6) cB.nd rfl (by first | exact Or.inl rfl | exact Or.inr rfl) (aG mq (pv 6) ap))))))))) (ar (aN (i:=4) cB.nd rfl (by first | exact Or.inl rfl | exact Or.inr rfl) (aG (cm K rfl) (pv 4) ap))))) (ar (aU (qv K rfl rfl (ey (xY K rfl) (pv 3) hZ (e5 (pv 1))) rfl T.b_list rfl T.b_reversed))))))),fnP (K:=K) (c:=bZ) (ps:=fu) (N:=["_law_script","_law_many","_law_cells","_law_found","_law_turn","_law_cell","_law_rest"]) (aA (aH (aj bA (ac (bu zv (aa (al (i:=0)) ae))) (ac (bn (aa (ac (bu b8 (aa (al (i:=0)) ae))) ae)))) (aB (i:=2) rfl)) (aA (aH (bn ae) (aB (i:=3) rfl)) (aA (aH le_int (aB (i:=4) rfl)) (aA (nj (eV (aj u7 (ac (bu b8 (aa (al (i:=3)) ae))) (al (i:=1)))) (aA (fG (ck (ai (i:=2))) (ay (i:=5) rfl) (aA (aH (ai (i:=5)) (aB (i:=6) rfl)) (aA (kz (dZ (u6 (eV (aj sX (al (i:=4)) (ac le_int))) (eV (aj u7 (al (i:=5)) (ac (aj xX (ac le_int) (ac le_int)))))) (aA (ja (pE (i:=3) (aj bb (ac (aF (c:=bM) (aa (ac (ai (i:=5))) (aa (ac (aj bA (ac (bu b8 (aa (al (i:=3)) ae))) (ac le_int))) ae)))) (ac le_int)))) (aH le_int (aB (i:=6) rfl))) bJ)) (nj (kt (eV (aj sX (al (i:=6)) (ac le_int))) (eV (aj u7 (ac (bu b8 (aa (al (i:=3)) ae))) (al (i:=1))))) (aA (ja (pE (i:=3) (aj bb (al (i:=6)) (ac le_int)))) (aH (aj i8 (al (i:=6)) (ac le_int)) (aB (i:=6) rfl))))))) (aH (aj bA (al (i:=4)) (ac le_int)) (aB (i:=4) rfl)))) (aV (tm (ac (ez (al (i:=3)) fc (dG (ai (i:=1))))))))))) (fun ds Q h=>Nat.le_trans (Nat.le_of_eq (lx ds Q h)) (by decide)) qY h⟩
theorem ly:∀p ds Q,ax p ds Q->ds.length + 1=1:=fun p ds Q h=>by unfold ax at h;split at h;(first | rfl | exact h.elim);(first | rfl | exact h.elim)
theorem rl (D:cv K mg "_law_next" jn) (T:Txt mg) (TC:TxC K) (TX:TxX K mg):Cal P w K mg base 1 "_law_next" ["_law_deck_here"] (spR K ax):=by
 refine D.ok qJ (fun _ _ _ _ _ _ us hl=>match us,hl with | [_],_=>rfl) (fun vs H Q E h=>?_) (fun f cdv A outer s H vs Q E hr h=>?_)
 .exact As ly h
 .have hu:=hr.units
  exact ⟨_,(ar (aU (A3 PySem.F.plainAttrs_list PySem.F.slot_list_pop PySem.F.type_list_pop A4 (pv 0)))),fnR (K:=K) (c:=ax) (ps:=fz) (N:=["_law_deck_here"]) (aV (BF (i:=0))) (fun p ds Q h=>Nat.le_trans (Nat.le_of_eq (ly p ds Q h)) (by decide)) qZ h⟩
theorem jJ:∀p ds Q,bN p ds Q->ds.length + 1=3:=fun p ds Q h=>by unfold bN at h;split at h;(first | rfl | exact h.elim);(first | rfl | exact h.elim)
theorem qg (D:cv K mg "_law_signs" ik) (T:Txt mg) (TC:TxC K) (TX:TxX K mg) (C_law_next:Cal P w K mg base 1 "_law_next" ["_law_deck_here"] (spR K ax)):Cal P w K mg base 2 "_law_signs" ["_law_deck_here","_law_letters","_law_many"] (spR K bN):=by
 refine D.ok eE (fun _ _ _ _ _ _ us hl=>match us,hl with | [_,_,_],_=>rfl) (fun vs H Q E h=>?_) (fun f cdv A outer s H vs Q E hr h=>?_)
 .exact As jJ h
 .have hu:=hr.units
  exact ⟨_,(ah (aN (i:=3) eE.nd rfl (by first | exact Or.inl rfl | exact Or.inr rfl) (bT (l:=[]) (by decide +kernel))) (ah (fC PassesOwn.never rfl (du rfl T.b_range (paC (pv 2) ag)) (aC (i:=4) eE.nd rfl (by first | exact Or.inl rfl | exact Or.inr rfl)) (ar (aN (i:=3) eE.nd rfl (by first | exact Or.inl rfl | exact Or.inr rfl) (aG (cm K rfl) (pv 3) (bB (dz K rfl) (pv 1) (aG cF (az C_law_next (hr.mono (by decide)) (paC (pv 0) ag)) (aw (c9 K rfl) rfl T.b_len PySem.boot_len (paC (pv 1) ag))) (fun _ _=>rfl)))))) (ar (aU (pv 3))))),fnR (K:=K) (c:=bN) (ps:=eI) (N:=["_law_deck_here","_law_letters","_law_many","_law_found","_law_k"]) (aA (aH (le_str (l:=[])) (aB (i:=3) rfl)) (aA (fG (pA (aa (ac (ai (i:=2))) ae)) (ay (i:=4) rfl) (aH (aj bA (al (i:=3)) (ac (aj bD (al (i:=1)) (ac (aj bb (ac (aX (i:=0) ae)) (ac (bu b8 (aa (al (i:=1)) ae)))))))) (aB (i:=3) rfl))) (aV (ai (i:=3))))) (fun p ds Q h=>Nat.le_trans (Nat.le_of_eq (jJ p ds Q h)) (by decide)) p8 h⟩
theorem iU:∀p ds Q,bK p ds Q->ds.length + 1=2:=fun p ds Q h=>by unfold bK at h;split at h;(first | rfl | exact h.elim);(first | rfl | exact h.elim)
theorem oh (D:cv K mg "_law_pieces" gc) (T:Txt mg) (TC:TxC K) (TX:TxX K mg) (C_law_next:Cal P w K mg base 1 "_law_next" ["_law_deck_here"] (spR K ax)) (C_law_signs:Cal P w K mg base 2 "_law_signs" ["_law_deck_here","_law_letters","_law_many"] (spR K bN)):Cal P w K mg base 3 "_law_pieces" ["_law_deck_here","_law_most"] (spR K bK):=by
 refine D.ok aY (fun _ _ _ _ _ _ us hl=>match us,hl with | [_,_],_=>rfl) (fun vs H Q E h=>?_) (fun f cdv A outer s H vs Q E hr h=>?_)
 .exact As iU h
 .have hu:=hr.units
  exact ⟨_,(@ah _ _ _ _ _ (@aN _ _ 2 _ _ _ _ aY.nd rfl (by first | exact Or.inl rfl | exact Or.inr rfl) (@aG _ _ _ _ _ _ _ _ cF (@az _ _ _ _ _ _ _ _ _ _ C_law_next (hr.mono (by decide)) (@paC _ _ _ _ _ (@pv _ 0 _ _ rfl (by first | exact Or.inl rfl | exact Or.inr (Or.inl rfl) | exact Or.inr (Or.inr rfl)) (by decide) (by decide)) ag rfl) rfl (by decide) rfl rfl) ap) rfl (by first | exact .inl rfl | exact .inr rfl | assumption)) (@ah _ _ _ _ _ (@aN _ _ 3 _ _ _ _ aY.nd rfl (by first | exact Or.inl rfl | exact Or.inr rfl) (@bB _ _ _ _ _ _ _ (dz K rfl) (@bq _ _ _ _ (@paC _ _ _ _ _ ap (@paC _ _ _ _ _ ap (@paC _ _ _ _ _ ap (@paC _ _ _ _ _ ap ag rfl) rfl) rfl) rfl)) (@aG _ _ _ _ _ _ _ _ cF (@az _ _ _ _ _ _ _ _ _ _ C_law_next (hr.mono (by decide)) (@paC _ _ _ _ _ (@pv _ 0 _ _ rfl (by first | exact Or.inl rfl | exact Or.inr (Or.inl rfl) | exact Or.inr (Or.inr rfl)) (by decide) (by decide)) ag rfl) rfl (by decide) rfl rfl) ap) (fun _ _=>rfl)) rfl (by first | exact .inl rfl | exact .inr rfl | assumption)) (@ah _ _ _ _ _ (@mW _ _ _ _ _ _ ((sy (bp (a4 3) eM))) ((ca 0)) kl ((tOp (kx K) (tC (V.str (S [97,98,99,100,101,102,103,104,105,106,107,108,109,110,111,112,113,114,115,116,117,118,119,120,121,122]))) (tOp xf (tOp (tF K) (a4 1) (tOp wW (tC (V.int 7)) (a4 0))) (tC (V.int 26))))) 4 _ _ _ _ ["_law_k","_law_first"] [none,some 2] aY.nd rfl (Or.inl rfl) rfl (@du _ _ _ _ _ _ rfl T.b_range (@paC _ _ _ _ _ (@pv _ 3 _ _ rfl (by first | exact Or.inl rfl | exact Or.inr (Or.inl rfl) | exact Or.inr (Or.inr rfl)) (by decide) (by decide)) ag rfl) rfl) (fun _ _ _ _=>⟨(aC (i:=0) (by show List.Nodup (["_law_k","_law_first"]:List Str);decide +kernel) rfl (by first | exact Or.inl rfl | exact Or.inr rfl)),cw,(bB (dz K rfl) (bT (l:=[97,98,99,100,101,102,103,104,105,106,107,108,109,110,111,112,113,114,115,116,117,118,119,120,121,122]) (by decide +kernel)) (aG cF (aG (cm K rfl) (pv 1) (aG ib ap (pv 0))) ap) (fun _ _=>rfl))⟩) (by kernel_rfl) rfl (fun _=>rfl) (by first | exact .inl rfl | exact .inr rfl | assumption)) (@ah _ _ _ _ _ (@aN _ _ 5 _ _ _ _ aY.nd rfl (by first | exact Or.inl rfl | exact Or.inr rfl) (@aG _ _ _ _ _ _ _ _ cF (@az _ _ _ _ _ _ _ _ _ _ C_law_next (hr.mono (by decide)) (@paC _ _ _ _ _ (@pv _ 0 _ _ rfl (by first | exact Or.inl rfl | exact Or.inr (Or.inl rfl) | exact Or.inr (Or.inr rfl)) (by decide) (by decide)) ag rfl) rfl (by decide) rfl rfl) ap) rfl (by first | exact .inl rfl | exact .inr rfl | assumption)) (@ah _ _ _ _ _ (@aN _ _ 6 _ _ _ _ aY.nd rfl (by first | exact Or.inl rfl | exact Or.inr rfl) (@aG _ _ _ _ _ _ _ _ (cm K rfl) ap (@aG _ _ _ _ _ _ _ _ cF (@az _ _ _ _ _ _ _ _ _ _ C_law_next (hr.mono (by decide)) (@paC _ _ _ _ _ (@pv _ 0 _ _ rfl (by first | exact Or.inl rfl | exact Or.inr (Or.inl rfl) | exact Or.inr (Or.inr rfl)) (by decide) (by decide)) ag rfl) rfl (by decide) rfl rfl) ap)) rfl (by first | exact .inl rfl | exact .inr rfl | assumption)) (@ah _ _ _ _ _ (@aN _ _ 7 _ _ _ _ aY.nd rfl (by first | exact Or.inl rfl | exact Or.inr rfl) (@aG _ _ _ _ _ _ _ _ ib (@az _ _ _ _ _ _ _ _ _ _ C_law_signs (hr.mono (by decide)) (@paC _ _ _ _ _ (@pv _ 0 _ _ rfl (by first | exact Or.inl rfl | exact Or.inr (Or.inl rfl) | exact Or.inr (Or.inr rfl)) (by decide) (by decide)) (@paC _ _ _ _ _ (@pv _ 4 _ _ rfl (by first | exact Or.inl rfl | exact Or.inr (Or.inl rfl) | exact Or.inr (Or.inr rfl)) (by decide) (by decide)) (@paC _ _ _ _ _ (@aG _ _ _ _ _ _ _ _ (cm K rfl) ap (@aG _ _ _ _ _ _ _ _ cF (@az _ _ _ _ _ _ _ _ _ _ C_law_next (hr.mono (by decide)) (@paC _ _ _ _ _ (@pv _ 0 _ _ rfl (by first | exact Or.inl rfl | exact Or.inr (Or.inl rfl) | exact Or.inr (Or.inr rfl)) (by decide) (by decide)) ag rfl) rfl (by decide) rfl rfl) ap)) ag rfl) rfl) rfl) rfl (by decide) rfl rfl) ap) rfl (by first | exact .inl rfl | exact .inr rfl | assumption)) (@ah _ _ _ _ _ (@aN _ _ 8 _ _ _ _ aY.nd rfl (by first | exact Or.inl rfl | exact Or.inr rfl) (@bq _ _ _ _ ag) rfl (by first | exact .inl rfl | exact .inr rfl | assumption)) (@ah _ _ _ _ _ (@fC _ _ _ _ _ _ _ _ PassesOwn.never rfl (@du _ _ _ _ _ _ rfl T.b_range (@paC _ _ _ _ _ (@aG _ _ _ _ _ _ _ _ cF (@az _ _ _ _ _ _ _ _ _ _ C_law_next (hr.mono (by decide)) (@paC _ _ _ _ _ (@pv _ 0 _ _ rfl (by first | exact Or.inl rfl | exact Or.inr (Or.inl rfl) | exact Or.inr (Or.inr rfl)) (by decide) (by decide)) ag rfl) rfl (by decide) rfl rfl) (@aG _ _ _ _ _ _ _ _ (cm K rfl) (@pv _ 1 _ _ rfl (by first | exact Or.inl rfl | exact Or.inr (Or.inl rfl) | exact Or.inr (Or.inr rfl)) (by decide) (by decide)) ap)) ag rfl) rfl) (@aC _ _ 9 _ aY.nd rfl (by first | exact Or.inl rfl | exact Or.inr rfl) (by first | exact .inl rfl | exact .inr rfl | assumption)) (@ah _ _ _ _ _ (@aN _ _ 10 _ _ _ _ aY.nd rfl (by first | exact Or.inl rfl | exact Or.inr rfl) (@az _ _ _ _ _ _ _ _ _ _ C_law_next (hr.mono (by decide)) (@paC _ _ _ _ _ (@pv _ 0 _ _ rfl (by first | exact Or.inl rfl | exact Or.inr (Or.inl rfl) | exact Or.inr (Or.inr rfl)) (by decide) (by decide)) ag rfl) rfl (by decide) rfl rfl) rfl (by first | exact .inl rfl | exact .inr rfl | assumption)) (@ah _ _ _ _ _ (@aN _ _ 11 _ _ _ _ aY.nd rfl (by first | exact Or.inl rfl | exact Or.inr rfl) (@ey _ _ _ _ _ _ _ _ _ _ (xY K rfl) (@pv _ 7 _ _ rfl (by first | exact Or.inl rfl | exact Or.inr (Or.inl rfl) | exact Or.inr (Or.inr rfl)) (by decide) (by decide)) (@e5 _ _ _ (@aG _ _ _ _ _ _ _ _ cF (@pv _ 10 _ _ rfl (by first | exact Or.inl rfl | exact Or.inr (Or.inl rfl) | exact Or.inr (Or.inr rfl)) (by decide) (by decide)) ap)) (@e5 _ _ _ (@aG _ _ _ _ _ _ _ _ (cm K rfl) (@aG _ _ _ _ _ _ _ _ (cm K rfl) (@aG _ _ _ _ _ _ _ _ cF (@pv _ 10 _ _ rfl (by first | exact Or.inl rfl | exact Or.inr (Or.inl rfl) | exact Or.inr (Or.inr rfl)) (by decide) (by decide)) ap) (@pv _ 6 _ _ rfl (by first | exact Or.inl rfl | exact Or.inr (Or.inl rfl) | exact Or.inr (Or.inr rfl)) (by decide) (by decide))) (@aG _ _ _ _ _ _ _ _ mq (@aG _ _ _ _ _ _ _ _ cF (@aG _ _ _ _ _ _ _ _ mq (@pv _ 10 _ _ rfl (by first | exact Or.inl rfl | exact Or.inr (Or.inl rfl) | exact Or.inr (Or.inr rfl)) (by decide) (by decide)) ap) ap) ap)))) rfl (by first | exact .inl rfl | exact .inr rfl | assumption)) (@ah _ _ _ _ _ (@i5 _ _ _ (@dA _ _ _ _ _ _ _ _ (@aQ _ _ _ _ _ _ _ _ (lH K rfl hu) (@pv _ 5 _ _ rfl (by first | exact Or.inl rfl | exact Or.inr (Or.inl rfl) | exact Or.inr (Or.inr rfl)) (by decide) (by decide)) ap (bi _)) (@ar _ _ _ (@aN _ _ 11 _ _ _ _ aY.nd rfl (by first | exact Or.inl rfl | exact Or.inr rfl) (@az _ _ _ _ _ _ _ _ _ _ C_law_signs (hr.mono (by decide)) (@paC _ _ _ _ _ (@pv _ 0 _ _ rfl (by first | exact Or.inl rfl | exact Or.inr (Or.inl rfl) | exact Or.inr (Or.inr rfl)) (by decide) (by decide)) (@paC _ _ _ _ _ (@pv _ 4 _ _ rfl (by first | exact Or.inl rfl | exact Or.inr (Or.inl rfl) | exact Or.inr (Or.inr rfl)) (by decide) (by decide)) (@paC _ _ _ _ _ (@aG _ _ _ _ _ _ _ _ (cm K rfl) ap (@aG _ _ _ _ _ _ _ _ cF (@pv _ 10 _ _ rfl (by first | exact Or.inl rfl | exact Or.inr (Or.inl rfl) | exact Or.inr (Or.inr rfl)) (by decide) (by decide)) ap)) ag rfl) rfl) rfl) rfl (by decide) rfl rfl) rfl (by first | exact .inl rfl | exact .inr rfl | assumption))) bH)) (@ah _ _ _ _ _ (@i5 _ _ _ (@dA _ _ _ _ _ _ _ _ (@aQ _ _ _ _ _ _ _ _ (lH K rfl hu) (@pv _ 5 _ _ rfl (by first | exact Or.inl rfl | exact Or.inr (Or.inl rfl) | exact Or.inr (Or.inr rfl)) (by decide) (by decide)) ap (bi _)) (@ar _ _ _ (@aN _ _ 11 _ _ _ _ aY.nd rfl (by first | exact Or.inl rfl | exact Or.inr rfl) (@aG _ _ _ _ _ _ _ _ (cm K rfl) (@aG _ _ _ _ _ _ _ _ (cm K rfl) (@aG _ _ _ _ _ _ _ _ ib (@bB _ _ _ _ _ _ _ (dz K rfl) (@pv _ 4 _ _ rfl (by first | exact Or.inl rfl | exact Or.inr (Or.inl rfl) | exact Or.inr (Or.inr rfl)) (by decide) (by decide)) ap (fun _ _=>rfl)) (@aG _ _ _ _ _ _ _ _ cF (@pv _ 10 _ _ rfl (by first | exact Or.inl rfl | exact Or.inr (Or.inl rfl) | exact Or.inr (Or.inr rfl)) (by decide) (by decide)) ap)) (@bB _ _ _ _ _ _ _ (dz K rfl) (@pv _ 4 _ _ rfl (by first | exact Or.inl rfl | exact Or.inr (Or.inl rfl) | exact Or.inr (Or.inr rfl)) (by decide) (by decide)) ap (fun _ _=>rfl))) (@aG _ _ _ _ _ _ _ _ ib (@bB _ _ _ _ _ _ _ (dz K rfl) (@pv _ 4 _ _ rfl (by first | exact Or.inl rfl | exact Or.inr (Or.inl rfl) | exact Or.inr (Or.inr rfl)) (by decide) (by decide)) ap (fun _ _=>rfl)) (@aG _ _ _ _ _ _ _ _ cF (@aG _ _ _ _ _ _ _ _ mq (@pv _ 10 _ _ rfl (by first | exact Or.inl rfl | exact Or.inr (Or.inl rfl) | exact Or.inr (Or.inr rfl)) (by decide) (by decide)) ap) ap))) rfl (by first | exact .inl rfl | exact .inr rfl | assumption))) bH)) (@ar _ _ _ (@iY _ _ _ _ (@jy _ _ _ _ _ _ _ _ _ _ _ _ K rfl PySem.F.plainAttrs_list PySem.F.slot_list_append PySem.F.type_list_append dS (@pv _ 8 _ _ rfl (by first | exact Or.inl rfl | exact Or.inr (Or.inl rfl) | exact Or.inr (Or.inr rfl)) (by decide) (by decide)) (@paC _ _ _ _ _ (@pv _ 11 _ _ rfl (by first | exact Or.inl rfl | exact Or.inr (Or.inl rfl) | exact Or.inr (Or.inr rfl)) (by decide) (by decide)) ag rfl) rfl rfl rfl rfl rfl) rfl)))))) (fun _=>rfl)) (@ar _ _ _ (@aU _ _ _ _ (@pv _ 8 _ _ rfl (by first | exact Or.inl rfl | exact Or.inr (Or.inl rfl) | exact Or.inr (Or.inr rfl)) (by decide) (by decide)))))))))))),fnR (K:=K) (c:=bK) (ps:=dO) (N:=["_law_deck_here","_law_most","_law_first","_law_many","_law_letters","_law_sort","_law_long","_law_text","_law_pieces_here","_law_k","_law_at","_law_piece"]) (aA (aH (aj bb (ac (aX (i:=0) ae)) (ac le_int)) (aB (i:=2) rfl)) (aA (aH (aj bD (ac (bn (aa (ac le_int) (aa (ac le_int) (aa (ac le_int) (aa (ac le_int) ae)))))) (ac (aj bb (ac (aX (i:=0) ae)) (ac le_int)))) (aB (i:=3) rfl)) (aA (aH (br (ix:=[none,some 2]) rfl (pA (aa (ac (ai (i:=3))) ae)) (fun fs hc=>(ay (i:=0) (gJ hc (by decide)))) cX (aj bD (ac (le_str (l:=[97,98,99,100,101,102,103,104,105,106,107,108,109,110,111,112,113,114,115,116,117,118,119,120,121,122]))) (ac (aj bb (ac (aj bA (al (i:=1)) (ac (aj dY (ac le_int) (al (i:=0)))))) (ac le_int))))) (aB (i:=4) rfl)) (aA (aH (aj bb (ac (aX (i:=0) ae)) (ac le_int)) (aB (i:=5) rfl)) (aA (aH (aj bA (ac le_int) (ac (aj bb (ac (aX (i:=0) ae)) (ac le_int)))) (aB (i:=6) rfl)) (aA (aH (aj dY (ac (aX (i:=0) (aa (ac (ai (i:=4))) (aa (ac (aj bA (ac le_int) (ac (aj bb (ac (aX (i:=0) ae)) (ac le_int))))) ae)))) (ac le_int)) (aB (i:=7) rfl)) (aA (aH (bn ae) (aB (i:=8) rfl)) (aA (fG (pA (aa (ac (aj bb (ac (aX (i:=0) ae)) (ac (aj bA (al (i:=1)) (ac le_int))))) ae)) (ay (i:=9) rfl) (aA (aH (aX (i:=0) ae) (aB (i:=10) rfl)) (aA (aH (ez (al (i:=7)) (dG (aj bb (al (i:=10)) (ac le_int))) (dG (aj bA (ac (aj bA (ac (aj bb (al (i:=10)) (ac le_int))) (al (i:=6)))) (ac (aj i8 (ac (aj bb (ac (aj i8 (al (i:=10)) (ac le_int))) (ac le_int))) (ac le_int)))))) (aB (i:=11) rfl)) (aA (kz (dZ (eV (aj gO (al (i:=5)) (ac le_int))) (aH (aX (i:=0) (aa (ac (ai (i:=4))) (aa (ac (aj bA (ac le_int) (ac (aj bb (al (i:=10)) (ac le_int))))) ae))) (aB (i:=11) rfl)) bJ)) (aA (kz (dZ (eV (aj gO (al (i:=5)) (ac le_int))) (aH (aj bA (ac (aj bA (ac (aj dY (ac (aj bD (al (i:=4)) (ac le_int))) (ac (aj bb (al (i:=10)) (ac le_int))))) (ac (aj bD (al (i:=4)) (ac le_int))))) (ac (aj dY (ac (aj bD (al (i:=4)) (ac le_int))) (ac (aj bb (ac (aj i8 (al (i:=10)) (ac le_int))) (ac le_int)))))) (aB (i:=11) rfl)) bJ)) (ja (pE (i:=8) (ai (i:=11))))))))) (aV (ai (i:=8))))))))))) (fun p ds Q h=>Nat.le_trans (Nat.le_of_eq (iU p ds Q h)) (by decide)) nX h⟩
theorem jK:∀ds Q,bO ds Q->ds.length=1:=fun ds Q h=>by unfold bO at h;split at h;(first | rfl | exact h.elim);(first | rfl | exact h.elim)
theorem qh (D:cv K mg "_law_words" il) (T:Txt mg) (TC:TxC K) (TX:TxX K mg):Cal P w K mg base 1 "_law_words" ["_law_pieces_here"] (spP K bO):=by
 refine D.ok dy (fun _ _ _ _ _ _ us hl=>match us,hl with | [_],_=>rfl) (fun vs H Q E h=>?_) (fun f cdv A outer s H vs Q E hr h=>?_)
 .exact io jK h
 .have hu:=hr.units
  exact ⟨_,(ah (aN (i:=1) dy.nd rfl (by first | exact Or.inl rfl | exact Or.inr rfl) (bq ag)) (ah (fC PassesOwn.never rfl (gA K rfl rfl T.b_enumerate (paC (pv 0) ag)) (jB K rfl (n:=2) rfl (ce (aC (i:=2) dy.nd rfl (by first | exact Or.inl rfl | exact Or.inr rfl)) (ce (aC (i:=3) dy.nd rfl (by first | exact Or.inl rfl | exact Or.inr rfl)) fQ))) (ah (mW (wi:=(iX K (a4 0))) (g:=(ca 0)) (tts:=(AF (hV (tOp Dt (tCB (lD K) (bp (a4 0) eM)) (tCB (lD K) (bp (a4 1) eM)))) (hV (tOp (Au K false) (a4 1) (a4 0))))) (te:=(a4 0)) (i:=4) ["_law_other","_law_piece"] [none,some 3] dy.nd rfl (Or.inl rfl) rfl (cj K rfl (pv 0)) (fun _ _ _ _=>⟨(aC (i:=0) (by show List.Nodup (["_law_other","_law_piece"]:List Str);decide +kernel) rfl (by first | exact Or.inl rfl | exact Or.inr rfl)),(dX (PW.pt (j2 (aQ Ar (aw (c9 K rfl) rfl T.b_len PySem.boot_len (paC (pv 0) ag)) (aw (c9 K rfl) rfl T.b_len PySem.boot_len (paC (pv 1) ag)) (bi _)) (hU (aQ (Ca K rfl) (pv 1) (pv 0) (by with_unfolding_all rfl)))))),(pv 0)⟩) (by kernel_rfl)) (ar (dA (PW.pt (j2 (aQ (lH K rfl hu) (pv 4) (bq ag) (bi _)) (hU (aQ (iD K rfl) (pv 3) (ey (xY K rfl) (pv 0) hZ (e5 (pv 2))) (by with_unfolding_all rfl))))) (ar (iY (jy K rfl PySem.F.plainAttrs_list PySem.F.slot_list_append PySem.F.type_list_append dS (pv 1) (paC (pv 3) ag)))) bH)))) (ar (aU (pv 1))))),fnP (K:=K) (c:=bO) (ps:=eJ) (N:=["_law_pieces_here","_law_found","_law_k","_law_piece","_law_longer"]) (aA (aH (bn ae) (aB (i:=1) rfl)) (aA (fG (jb (aa (ac (ai (i:=0))) ae)) (jf (cf (ay (i:=2) rfl) (cf (ay (i:=3) rfl) fT))) (aA (aH (br (ix:=[none,some 3]) rfl (ck (ai (i:=0))) (fun fs hc=>(ay (i:=0) (gJ hc (by decide)))) (kt (eV (aj sX (ac (bu b8 (aa (al (i:=0)) ae))) (ac (bu b8 (aa (al (i:=1)) ae))))) (eV (aj kG (al (i:=1)) (al (i:=0))))) (ai (i:=0))) (aB (i:=4) rfl)) (dZ (kt (eV (aj gO (al (i:=4)) (ac (bn ae)))) (eV (aj kG (al (i:=3)) (ac (ez (al (i:=0)) fc (dG (ai (i:=2)))))))) (ja (pE (i:=1) (ai (i:=3)))) bJ))) (aV (ai (i:=1))))) (fun ds Q h=>Nat.le_trans (Nat.le_of_eq (jK ds Q h)) (by decide)) qa h⟩
theorem mK:∀ds Q,bU ds Q->ds.length=2:=fun ds Q h=>by unfold bU at h;split at h;(first | rfl | exact h.elim);(first | rfl | exact h.elim)
theorem tU (D:cv K mg "_law_lap" kM) (T:Txt mg) (TC:TxC K) (TX:TxX K mg):Cal P w K mg base 1 "_law_lap" ["_law_one","_law_other"] (spP K bU):=by
 refine D.ok mC (fun _ _ _ _ _ _ us hl=>match us,hl with | [_,_],_=>rfl) (fun vs H Q E h=>?_) (fun f cdv A outer s H vs Q E hr h=>?_)
 .exact io mK h
 .have hu:=hr.units
  exact ⟨_,(ah (fC PassesOwn.never rfl (oR rfl T.b_range (paC (aG nu (aw (x3 rfl) rfl T.b_min boot_min (paC (aw (c9 K rfl) rfl T.b_len PySem.boot_len (paC (pv 0) ag)) (paC (aw (c9 K rfl) rfl T.b_len PySem.boot_len (paC (pv 1) ag)) ag))) ap) (paC ap (paC (yw ug ap) ag)))) (aC (i:=2) mC.nd rfl (by first | exact Or.inl rfl | exact Or.inr rfl)) (ar (dA (aQ (lH K rfl hu) (ey (xY K rfl) (pv 0) (e5 (aG nu (aw (c9 K rfl) rfl T.b_len PySem.boot_len (paC (pv 0) ag)) (pv 2))) hZ) (ey (xY K rfl) (pv 1) hZ (e5 (pv 2))) (bi _)) (ar (aU (pv 2))) bH))) (ar (aU ap))),fnP (K:=K) (c:=bU) (ps:=gH) (N:=["_law_one","_law_other","_law_k"]) (aA (fG (BD (aa (ac (aj iw (ac (bu vf (aa (ac (bu b8 (aa (al (i:=0)) ae))) (aa (ac (bu b8 (aa (al (i:=1)) ae))) ae)))) (ac le_int))) (aa (ac le_int) (aa (ac (zb vo (ac le_int))) ae)))) (ay (i:=2) rfl) (dZ (eV (aj gO (ac (ez (al (i:=0)) (dG (aj iw (ac (bu b8 (aa (al (i:=0)) ae))) (al (i:=2)))) fc)) (ac (ez (al (i:=1)) fc (dG (ai (i:=2))))))) (aV (ai (i:=2))) bJ)) (aV le_int)) (fun ds Q h=>Nat.le_trans (Nat.le_of_eq (mK ds Q h)) (by decide)) tQ h⟩
theorem lz:∀ds Q,b7 ds Q->ds.length=1:=fun ds Q h=>by unfold b7 at h;split at h;(first | rfl | exact h.elim);(first | rfl | exact h.elim)
theorem rm (D:cv K mg "_law_laps" jo) (T:Txt mg) (TC:TxC K) (TX:TxX K mg) (C_law_lap:Cal P w K mg base 1 "_law_lap" ["_law_one","_law_other"] (spP K bU)):Cal P w K mg base 2 "_law_laps" ["_law_words_here"] (spP K b7):=by
 refine D.ok qK (fun _ _ _ _ _ _ us hl=>match us,hl with | [_],_=>rfl) (fun vs H Q E h=>?_) (fun f cdv A outer s H vs Q E hr h=>?_)
 .exact io lz h
 .have hu:=hr.units
  exact ⟨_,(ar (aU (bI (wi:=(iX K (a4 0))) (g:=(ca 0)) (tts:=kl) (te:=(sO [none,some 0] (iX K (a4 1)) (ca 0) kl (eN (spP K bU) [] E0 (bp (a4 1) (bp (a4 0) eM))))) ["_law_one","_law_words_here"] [none,some 0] rfl (cj K rfl (pv 0)) (fun _ _ _ _=>⟨(aC (i:=0) (by show List.Nodup (["_law_one","_law_words_here"]:List Str);decide +kernel) rfl (by first | exact Or.inl rfl | exact Or.inr rfl)),cw,(bI (wi:=(iX K (a4 1))) (g:=(ca 0)) (tts:=kl) (te:=(eN (spP K bU) [] E0 (bp (a4 1) (bp (a4 0) eM)))) ["_law_other","_law_one"] [none,some 0] rfl (cj K rfl (pv 1)) (fun _ _ _ _=>⟨(aC (i:=0) (by show List.Nodup (["_law_other","_law_one"]:List Str);decide +kernel) rfl (by first | exact Or.inl rfl | exact Or.inr rfl)),cw,(az C_law_lap (hr.mono (by decide)) (paC (pv 1) (paC (pv 0) ag)))⟩) (by kernel_rfl))⟩) (by kernel_rfl)))),fnP (K:=K) (c:=b7) (ps:=fA) (N:=["_law_words_here"]) (aV (B8 (br (ix:=[none,some 0]) rfl (ck (ai (i:=0))) (fun fs hc=>(ay (i:=0) (gJ hc (by decide)))) cX (br (ix:=[none,some 0]) rfl (ck (ai (i:=1))) (fun fs hc=>(ay (i:=0) (gJ hc (by decide)))) cX (aF (c:=bU) (aa (ac (ai (i:=1))) (aa (ac (ai (i:=0))) ae))))))) (fun ds Q h=>Nat.le_trans (Nat.le_of_eq (lz ds Q h)) (by decide)) rd h⟩
theorem iV:∀ds Q,bx ds Q->ds.length=3:=fun ds Q h=>by unfold bx at h;split at h;(first | rfl | exact h.elim);(first | rfl | exact h.elim)
theorem oi (D:cv K mg "_law_enough" gf) (T:Txt mg) (TC:TxC K) (TX:TxX K mg):Cal P w K mg base 1 "_law_enough" ["_law_laps_here","_law_gives","_law_takes"] (spP K bx):=by
 refine D.ok dI (fun _ _ _ _ _ _ us hl=>match us,hl with | [_,_,_],_=>rfl) (fun vs H Q E h=>?_) (fun f cdv A outer s H vs Q E hr h=>?_)
 .exact io iV h
 .have hu:=hr.units
  exact ⟨_,(ah (aN (i:=3) dI.nd rfl (by first | exact Or.inl rfl | exact Or.inr rfl) (aw (c9 K rfl) rfl T.b_len PySem.boot_len (paC (pv 0) ag))) (ah (fC PassesOwn.never rfl (du rfl T.b_range (paC (pv 3) ag)) (aC (i:=4) dI.nd rfl (by first | exact Or.inl rfl | exact Or.inr rfl)) (ah (mW (wi:=(sy (bp (a4 3) eM))) (g:=(ca 0)) (tts:=(AF (hV (tOp (pH K true) (a4 0) (a4 1))) (hV (tOp CC (tOp (tF K) (tOp (kx K) (a4 2) (a4 1)) (tOp (kx K) (a4 3) (a4 0))) (tOp (kx K) (tOp (kx K) (a4 4) (a4 1)) (a4 0)))))) (te:=(a4 0)) (i:=5) ["_law_j","_law_i","_law_gives","_law_takes","_law_laps_here"] [none,some 4,some 1,some 2,some 0] dI.nd rfl (Or.inl rfl) rfl (du rfl T.b_range (paC (pv 3) ag)) (fun _ _ _ _=>⟨(aC (i:=0) (by show List.Nodup (["_law_j","_law_i","_law_gives","_law_takes","_law_laps_here"]:List Str);decide +kernel) rfl (by first | exact Or.inl rfl | exact Or.inr rfl)),(dX (PW.pt (j2 (aQ (nz K rfl hu) (pv 0) (pv 1) (bi _)) (hU (aQ Bv (aG (cm K rfl) (bB (dz K rfl) (pv 2) (pv 1) (fun _ _=>rfl)) (bB (dz K rfl) (pv 3) (pv 0) (fun _ _=>rfl))) (bB (dz K rfl) (bB (dz K rfl) (pv 4) (pv 1) (fun _ _=>rfl)) (pv 0) (fun _ _=>rfl)) (bi _)))))),(pv 0)⟩) (by kernel_rfl)) (ar (dA (aQ (nz K rfl hu) (pv 5) (bq ag) (bi _)) (ar (aU ou)) bH)))) (ar (aU ou)))),fnP (K:=K) (c:=bx) (ps:=dP) (N:=["_law_laps_here","_law_gives","_law_takes","_law_many","_law_i","_law_low"]) (aA (aH (bu b8 (aa (al (i:=0)) ae)) (aB (i:=3) rfl)) (aA (fG (pA (aa (ac (ai (i:=3))) ae)) (ay (i:=4) rfl) (aA (aH (br (ix:=[none,some 4,some 1,some 2,some 0]) rfl (pA (aa (ac (ai (i:=3))) ae)) (fun fs hc=>(ay (i:=0) (gJ hc (by decide)))) (kt (eV (aj iA (al (i:=0)) (al (i:=1)))) (eV (aj u7 (ac (aj bA (ac (aj bD (al (i:=2)) (al (i:=1)))) (ac (aj bD (al (i:=3)) (al (i:=0)))))) (ac (aj bD (ac (aj bD (al (i:=4)) (al (i:=1)))) (al (i:=0))))))) (ai (i:=0))) (aB (i:=5) rfl)) (dZ (eV (aj iA (al (i:=5)) (ac (bn ae)))) (aV pf) bJ))) (aV pf))) (fun ds Q h=>Nat.le_trans (Nat.le_of_eq (iV ds Q h)) (by decide)) nZ h⟩
theorem iW:∀p ds Q,bL p ds Q->ds.length + 1=2:=fun p ds Q h=>by unfold bL at h;split at h;(first | rfl | exact h.elim);(first | rfl | exact h.elim)
theorem oj (D:cv K mg "_law_prices" gg) (T:Txt mg) (TC:TxC K) (TX:TxX K mg) (C_law_next:Cal P w K mg base 1 "_law_next" ["_law_deck_here"] (spR K ax)):Cal P w K mg base 2 "_law_prices" ["_law_deck_here","_law_laps_here"] (spR K bL):=by
 refine D.ok bW (fun _ _ _ _ _ _ us hl=>match us,hl with | [_,_],_=>rfl) (fun vs H Q E h=>?_) (fun f cdv A outer s H vs Q E hr h=>?_)
 .exact As iW h
 .have hu:=hr.units
  exact ⟨_,(@ah _ _ _ _ _ (@aN _ _ 2 _ _ _ _ bW.nd rfl (by first | exact Or.inl rfl | exact Or.inr rfl) (@bI _ _ _ _ _ _ ((iX K (a4 1))) ((ca 0)) kl ((tOp BW (tOp xf (eN (spR K ax) [] E0 (bp (a4 1) eM)) (tC (V.int 5))) (tC (V.int 2)))) _ ["_law_i","_law_deck_here"] [none,some 0] rfl (@cj _ _ K rfl _ _ (@pv _ 1 _ _ rfl (by first | exact Or.inl rfl | exact Or.inr (Or.inl rfl) | exact Or.inr (Or.inr rfl)) (by decide) (by decide))) (fun _ _ _ _=>⟨(aC (i:=0) (by show List.Nodup (["_law_i","_law_deck_here"]:List Str);decide +kernel) rfl (by first | exact Or.inl rfl | exact Or.inr rfl)),cw,(aG mq (aG cF (az C_law_next (hr.mono (by decide)) (paC (pv 1) ag)) ap) ap)⟩) (by kernel_rfl) (fun _=>rfl)) rfl (by first | exact .inl rfl | exact .inr rfl | assumption)) (@ah _ _ _ _ _ (@aN _ _ 3 _ _ _ _ bW.nd rfl (by first | exact Or.inl rfl | exact Or.inr rfl) (@bq _ _ _ _ ag) rfl (by first | exact .inl rfl | exact .inr rfl | assumption)) (@ah _ _ _ _ _ (@fC _ _ _ _ _ _ _ _ PassesOwn.never rfl (@gA _ _ _ _ K rfl _ _ _ _ rfl T.b_enumerate (@paC _ _ _ _ _ (@pv _ 1 _ _ rfl (by first | exact Or.inl rfl | exact Or.inr (Or.inl rfl) | exact Or.inr (Or.inr rfl)) (by decide) (by decide)) ag rfl) rfl) (@jB _ K rfl _ _ _ 2 _ rfl (@ce _ _ _ _ _ (@aC _ _ 4 _ bW.nd rfl (by first | exact Or.inl rfl | exact Or.inr rfl) (by first | exact .inl rfl | exact .inr rfl | assumption)) (@ce _ _ _ _ _ (@aC _ _ 5 _ bW.nd rfl (by first | exact Or.inl rfl | exact Or.inr rfl) (by first | exact .inl rfl | exact .inr rfl | assumption)) fQ rfl) rfl) rfl rfl) (@ah _ _ _ _ _ (@aN _ _ 6 _ _ _ _ bW.nd rfl (by first | exact Or.inl rfl | exact Or.inr rfl) (@aw _ _ _ _ _ _ _ _ _ (B0 K rfl rfl) rfl T.b_max boot_max (@paC _ _ _ _ _ (@aG _ _ _ _ _ _ _ _ (cm K rfl) (@bq _ _ _ _ (@paC _ _ _ _ _ ap ag rfl)) (@bI _ _ _ _ _ _ ((sV K (bp (a4 5) eM))) ((At K 2 (oB (ca 0) (oB (ca 1) AK)))) ((hV (tOp (pH K true) (a4 0) (a4 3)))) ((tOp BV (a4 1) (tOp (kx K) (a4 2) (a4 0)))) _ ["_law_j","_law_shared","_law_takes","_law_i"] [none,none,some 2,some 4] rfl (@gA _ _ _ _ K rfl _ _ _ _ rfl T.b_enumerate (@paC _ _ _ _ _ (@pv _ 5 _ _ rfl (by first | exact Or.inl rfl | exact Or.inr (Or.inl rfl) | exact Or.inr (Or.inr rfl)) (by decide) (by decide)) ag rfl) rfl) (fun _ _ _ _=>⟨(jB K rfl (n:=2) rfl (ce (aC (i:=0) (by show List.Nodup (["_law_j","_law_shared","_law_takes","_law_i"]:List Str);decide +kernel) rfl (by first | exact Or.inl rfl | exact Or.inr rfl)) (ce (aC (i:=1) (by show List.Nodup (["_law_j","_law_shared","_law_takes","_law_i"]:List Str);decide +kernel) rfl (by first | exact Or.inl rfl | exact Or.inr rfl)) fQ))),(dX (aQ (nz K rfl hu) (pv 0) (pv 3) (bi _))),(aG nu (pv 1) (bB (dz K rfl) (pv 2) (pv 0) (fun _ _=>rfl)))⟩) (by kernel_rfl) (fun _=>rfl))) ag rfl) (by decide) (by decide) rfl rfl) rfl (by first | exact .inl rfl | exact .inr rfl | assumption)) (@ar _ _ _ (@iY _ _ _ _ (@jy _ _ _ _ _ _ _ _ _ _ _ _ K rfl PySem.F.plainAttrs_list PySem.F.slot_list_append PySem.F.type_list_append dS (@pv _ 3 _ _ rfl (by first | exact Or.inl rfl | exact Or.inr (Or.inl rfl) | exact Or.inr (Or.inr rfl)) (by decide) (by decide)) (@paC _ _ _ _ _ (@aG _ _ _ _ _ _ _ _ (cm K rfl) (@pv _ 6 _ _ rfl (by first | exact Or.inl rfl | exact Or.inr (Or.inl rfl) | exact Or.inr (Or.inr rfl)) (by decide) (by decide)) (@bB _ _ _ _ _ _ _ (dz K rfl) (@bq _ _ _ _ (@paC _ _ _ _ _ ap (@paC _ _ _ _ _ ap (@paC _ _ _ _ _ ap (@paC _ _ _ _ _ ap (@paC _ _ _ _ _ (@aG _ _ _ _ _ _ _ _ BY ap ap) ag rfl) rfl) rfl) rfl) rfl)) (@aG _ _ _ _ _ _ _ _ cF (@az _ _ _ _ _ _ _ _ _ _ C_law_next (hr.mono (by decide)) (@paC _ _ _ _ _ (@pv _ 0 _ _ rfl (by first | exact Or.inl rfl | exact Or.inr (Or.inl rfl) | exact Or.inr (Or.inr rfl)) (by decide) (by decide)) ag rfl) rfl (by decide) rfl rfl) ap) (fun _ _=>rfl))) ag rfl) rfl rfl rfl rfl rfl) rfl))) (fun _=>rfl)) (@ah _ _ _ _ _ (@i5 _ _ _ (@dA _ _ _ _ _ _ _ _ (PW.pt (@j2 _ _ _ _ _ _ _ (@aQ _ _ _ _ _ _ _ _ (lH K rfl hu) (@aG _ _ _ _ _ _ _ _ cF (@az _ _ _ _ _ _ _ _ _ _ C_law_next (hr.mono (by decide)) (@paC _ _ _ _ _ (@pv _ 0 _ _ rfl (by first | exact Or.inl rfl | exact Or.inr (Or.inl rfl) | exact Or.inr (Or.inr rfl)) (by decide) (by decide)) ag rfl) rfl (by decide) rfl rfl) ap) ap (bi _)) (@hU _ _ _ _ (@aQ _ _ _ _ _ _ _ _ (nz K rfl hu) (@pv _ 1 _ _ rfl (by first | exact Or.inl rfl | exact Or.inr (Or.inl rfl) | exact Or.inr (Or.inr rfl)) (by decide) (by decide)) (@bq _ _ _ _ ag) (bi _))))) (@ah _ _ _ _ _ (@aN _ _ 7 _ _ _ _ bW.nd rfl (by first | exact Or.inl rfl | exact Or.inr rfl) (@aG _ _ _ _ _ _ _ _ cF (@az _ _ _ _ _ _ _ _ _ _ C_law_next (hr.mono (by decide)) (@paC _ _ _ _ _ (@pv _ 0 _ _ rfl (by first | exact Or.inl rfl | exact Or.inr (Or.inl rfl) | exact Or.inr (Or.inr rfl)) (by decide) (by decide)) ag rfl) rfl (by decide) rfl rfl) (@aw _ _ _ _ _ _ _ _ _ (c9 K rfl) rfl T.b_len PySem.boot_len (@paC _ _ _ _ _ (@pv _ 1 _ _ rfl (by first | exact Or.inl rfl | exact Or.inr (Or.inl rfl) | exact Or.inr (Or.inr rfl)) (by decide) (by decide)) ag rfl) (by decide) (by decide) rfl rfl)) rfl (by first | exact .inl rfl | exact .inr rfl | assumption)) (@ah _ _ _ _ _ (@aN _ _ 5 _ _ _ _ bW.nd rfl (by first | exact Or.inl rfl | exact Or.inr rfl) (@bB _ _ _ _ _ _ _ (dz K rfl) (@bq _ _ _ _ (@paC _ _ _ _ _ (@pv _ 3 _ _ rfl (by first | exact Or.inl rfl | exact Or.inr (Or.inl rfl) | exact Or.inr (Or.inr rfl)) (by decide) (by decide)) (@paC _ _ _ _ _ (@pv _ 2 _ _ rfl (by first | exact Or.inl rfl | exact Or.inr (Or.inl rfl) | exact Or.inr (Or.inr rfl)) (by decide) (by decide)) ag rfl) rfl)) (@aG _ _ _ _ _ _ _ _ cF (@az _ _ _ _ _ _ _ _ _ _ C_law_next (hr.mono (by decide)) (@paC _ _ _ _ _ (@pv _ 0 _ _ rfl (by first | exact Or.inl rfl | exact Or.inr (Or.inl rfl) | exact Or.inr (Or.inr rfl)) (by decide) (by decide)) ag rfl) rfl (by decide) rfl rfl) ap) (fun _ _=>rfl)) rfl (by first | exact .inl rfl | exact .inr rfl | assumption)) (@ah _ _ _ _ _ (@qF _ _ _ _ _ _ _ _ (@aw _ _ _ _ _ _ _ _ _ (BI rfl) rfl T.b_max boot_max (@paC _ _ _ _ _ ap (@paC _ _ _ _ _ (@aG _ _ _ _ _ _ _ _ nu (@aG _ _ _ _ _ _ _ _ nu (@bB _ _ _ _ _ _ _ (dz K rfl) (@pv _ 5 _ _ rfl (by first | exact Or.inl rfl | exact Or.inr (Or.inl rfl) | exact Or.inr (Or.inr rfl)) (by decide) (by decide)) (@pv _ 7 _ _ rfl (by first | exact Or.inl rfl | exact Or.inr (Or.inl rfl) | exact Or.inr (Or.inr rfl)) (by decide) (by decide)) (fun _ _=>rfl)) ap) (@aG _ _ _ _ _ _ _ _ cF (@az _ _ _ _ _ _ _ _ _ _ C_law_next (hr.mono (by decide)) (@paC _ _ _ _ _ (@pv _ 0 _ _ rfl (by first | exact Or.inl rfl | exact Or.inr (Or.inl rfl) | exact Or.inr (Or.inr rfl)) (by decide) (by decide)) ag rfl) rfl (by decide) rfl rfl) ap)) ag rfl) rfl) (by decide) (by decide) rfl rfl) (@ua _ _ _ _ _ _ _ (@pv _ 5 _ _ rfl (by first | exact Or.inl rfl | exact Or.inr (Or.inl rfl) | exact Or.inr (Or.inr rfl)) (by decide) (by decide)) (@pv _ 7 _ _ rfl (by first | exact Or.inl rfl | exact Or.inr (Or.inl rfl) | exact Or.inr (Or.inr rfl)) (by decide) (by decide)) mP (fun _=>rfl)) rfl) bH))) bH)) (@ar _ _ _ (@aU _ _ _ _ (@ju _ _ _ _ _ (@paC _ _ _ _ _ (@pv _ 3 _ _ rfl (by first | exact Or.inl rfl | exact Or.inr (Or.inl rfl) | exact Or.inr (Or.inr rfl)) (by decide) (by decide)) (@paC _ _ _ _ _ (@pv _ 2 _ _ rfl (by first | exact Or.inl rfl | exact Or.inr (Or.inl rfl) | exact Or.inr (Or.inr rfl)) (by decide) (by decide)) ag rfl) rfl)))))))),fnR (K:=K) (c:=bL) (ps:=dQ) (N:=["_law_deck_here","_law_laps_here","_law_takes","_law_gives","_law_i","_law_row","_law_need","_law_at"]) (aA (aH (br (ix:=[none,some 0]) rfl (ck (ai (i:=1))) (fun fs hc=>(ay (i:=0) (gJ hc (by decide)))) cX (aj i8 (ac (aj bb (ac (aX (i:=1) ae)) (ac le_int))) (ac le_int))) (aB (i:=2) rfl)) (aA (aH (bn ae) (aB (i:=3) rfl)) (aA (fG (jb (aa (ac (ai (i:=1))) ae)) (jf (cf (ay (i:=4) rfl) (cf (ay (i:=5) rfl) fT))) (aA (aH (bu zE (aa (ac (aj bA (ac (bn (aa (ac le_int) ae))) (ac (br (ix:=[none,none,some 2,some 4]) rfl (jb (aa (ac (ai (i:=5))) ae)) (fun fs hc=>(jf (cf (ay (i:=0) (gJ hc (by decide))) (cf (ay (i:=1) (gJ hc (by decide))) fT)))) (eV (aj iA (al (i:=0)) (al (i:=3)))) (aj iw (al (i:=1)) (ac (aj bD (al (i:=2)) (al (i:=0))))))))) ae)) (aB (i:=6) rfl)) (ja (pE (i:=3) (aj bA (al (i:=6)) (ac (aj bD (ac (bn (aa (ac le_int) (aa (ac le_int) (aa (ac le_int) (aa (ac le_int) (aa (ac (aj xX (ac le_int) (ac le_int))) ae))))))) (ac (aj bb (ac (aX (i:=0) ae)) (ac le_int)))))))))) (aA (kz (dZ (kt (eV (aj gO (ac (aj bb (ac (aX (i:=0) ae)) (ac le_int))) (ac le_int))) (eV (aj iA (al (i:=1)) (ac (bn ae))))) (aA (aH (aj bb (ac (aX (i:=0) ae)) (ac (bu b8 (aa (al (i:=1)) ae)))) (aB (i:=7) rfl)) (Ck (r:=5) (g:=3) (t:=2) rfl rfl rfl (by decide) (by decide) (aj bb (ac (aX (i:=0) ae)) (ac le_int)) (bu zo (aa (ac le_int) (aa (ac (aj iw (ac (aj iw (ac (aj bD (al (i:=5)) (al (i:=7)))) (ac le_int))) (ac (aj bb (ac (aX (i:=0) ae)) (ac le_int))))) ae))) (ai (i:=7)) bJ)) bJ)) (aV (kr (aa (ac (ai (i:=3))) (aa (ac (ai (i:=2))) ae)))))))) (fun p ds Q h=>Nat.le_trans (Nat.le_of_eq (iW p ds Q h)) (by decide)) n4 h⟩
theorem lA:∀p ds Q,cC p ds Q->ds.length + 1=3:=fun p ds Q h=>by unfold cC at h;split at h;(first | rfl | exact h.elim);(first | rfl | exact h.elim)
theorem rn (D:cv K mg "_law_bent" jp) (T:Txt mg) (TC:TxC K) (TX:TxX K mg) (C_law_next:Cal P w K mg base 1 "_law_next" ["_law_deck_here"] (spR K ax)):Cal P w K mg base 2 "_law_bent" ["_law_deck_here","_law_gives","_law_takes"] (spR K cC):=by
 refine D.ok cH (fun _ _ _ _ _ _ us hl=>match us,hl with | [_,_,_],_=>rfl) (fun vs H Q E h=>?_) (fun f cdv A outer s H vs Q E hr h=>?_)
 .exact As lA h
 .have hu:=hr.units
  exact ⟨_,(@ah _ _ _ _ _ (@aN _ _ 3 _ _ _ _ cH.nd rfl (by first | exact Or.inl rfl | exact Or.inr rfl) (@aG _ _ _ _ _ _ _ _ cF (@az _ _ _ _ _ _ _ _ _ _ C_law_next (hr.mono (by decide)) (@paC _ _ _ _ _ (@pv _ 0 _ _ rfl (by first | exact Or.inl rfl | exact Or.inr (Or.inl rfl) | exact Or.inr (Or.inr rfl)) (by decide) (by decide)) ag rfl) rfl (by decide) rfl rfl) (@aw _ _ _ _ _ _ _ _ _ (c9 K rfl) rfl T.b_len PySem.boot_len (@paC _ _ _ _ _ (@pv _ 1 _ _ rfl (by first | exact Or.inl rfl | exact Or.inr (Or.inl rfl) | exact Or.inr (Or.inr rfl)) (by decide) (by decide)) ag rfl) (by decide) (by decide) rfl rfl)) rfl (by first | exact .inl rfl | exact .inr rfl | assumption)) (@ah _ _ _ _ _ (@aN _ _ 4 _ _ _ _ cH.nd rfl (by first | exact Or.inl rfl | exact Or.inr rfl) (@aG _ _ _ _ _ _ _ _ cF (@az _ _ _ _ _ _ _ _ _ _ C_law_next (hr.mono (by decide)) (@paC _ _ _ _ _ (@pv _ 0 _ _ rfl (by first | exact Or.inl rfl | exact Or.inr (Or.inl rfl) | exact Or.inr (Or.inr rfl)) (by decide) (by decide)) ag rfl) rfl (by decide) rfl rfl) ap) rfl (by first | exact .inl rfl | exact .inr rfl | assumption)) (@ah _ _ _ _ _ (@aN _ _ 5 _ _ _ _ cH.nd rfl (by first | exact Or.inl rfl | exact Or.inr rfl) (@bq _ _ _ _ (@paC _ _ _ _ _ (@bP _ _ _ _ _ _ _ _ _ (vk K rfl) rfl T.b_list boot_list (@paC _ _ _ _ _ (@pv _ 1 _ _ rfl (by first | exact Or.inl rfl | exact Or.inr (Or.inl rfl) | exact Or.inr (Or.inr rfl)) (by decide) (by decide)) ag rfl) (by decide) (by decide) rfl rfl) (@paC _ _ _ _ _ (@bP _ _ _ _ _ _ _ _ _ (vk K rfl) rfl T.b_list boot_list (@paC _ _ _ _ _ (@pv _ 2 _ _ rfl (by first | exact Or.inl rfl | exact Or.inr (Or.inl rfl) | exact Or.inr (Or.inr rfl)) (by decide) (by decide)) ag rfl) (by decide) (by decide) rfl rfl) ag rfl) rfl)) rfl (by first | exact .inl rfl | exact .inr rfl | assumption)) (@ah _ _ _ _ _ (@aN _ _ 6 _ _ _ _ cH.nd rfl (by first | exact Or.inl rfl | exact Or.inr rfl) (@aG _ _ _ _ _ _ _ _ cF (@az _ _ _ _ _ _ _ _ _ _ C_law_next (hr.mono (by decide)) (@paC _ _ _ _ _ (@pv _ 0 _ _ rfl (by first | exact Or.inl rfl | exact Or.inr (Or.inl rfl) | exact Or.inr (Or.inr rfl)) (by decide) (by decide)) ag rfl) rfl (by decide) rfl rfl) ap) rfl (by first | exact .inl rfl | exact .inr rfl | assumption)) (@ah _ _ _ _ _ (@i5 _ _ _ (@dA _ _ _ _ _ _ _ _ (@aQ _ _ _ _ _ _ _ _ (lH K rfl hu) (@pv _ 4 _ _ rfl (by first | exact Or.inl rfl | exact Or.inr (Or.inl rfl) | exact Or.inr (Or.inr rfl)) (by decide) (by decide)) ap (bi _)) (@ar _ _ _ (@qF _ _ _ _ _ _ _ _ (@bB _ _ _ _ _ _ _ (dz K rfl) (@bq _ _ _ _ (@paC _ _ _ _ _ (@yw _ _ _ _ _ _ ug ap) (@paC _ _ _ _ _ ou (@paC _ _ _ _ _ cM (@paC _ _ _ _ _ (@bT _ _ _ [49] _ (by decide +kernel)) (@paC _ _ _ _ _ (@bq _ _ _ _ (@paC _ _ _ _ _ ap ag rfl)) ag rfl) rfl) rfl) rfl) rfl)) (@aG _ _ _ _ _ _ _ _ cF (@az _ _ _ _ _ _ _ _ _ _ C_law_next (hr.mono (by decide)) (@paC _ _ _ _ _ (@pv _ 0 _ _ rfl (by first | exact Or.inl rfl | exact Or.inr (Or.inl rfl) | exact Or.inr (Or.inr rfl)) (by decide) (by decide)) ag rfl) rfl (by decide) rfl rfl) ap) (fun _ _=>rfl)) (@ua _ _ _ _ _ _ _ (@bB _ _ _ _ _ _ _ (dz K rfl) (@pv _ 5 _ _ rfl (by first | exact Or.inl rfl | exact Or.inr (Or.inl rfl) | exact Or.inr (Or.inr rfl)) (by decide) (by decide)) (@pv _ 6 _ _ rfl (by first | exact Or.inl rfl | exact Or.inr (Or.inl rfl) | exact Or.inr (Or.inr rfl)) (by decide) (by decide)) (fun _ _=>rfl)) (@pv _ 3 _ _ rfl (by first | exact Or.inl rfl | exact Or.inr (Or.inl rfl) | exact Or.inr (Or.inr rfl)) (by decide) (by decide)) mP (fun _=>rfl)) rfl)) (@ar _ _ _ (@dA _ _ _ _ _ _ _ _ (@aQ _ _ _ _ _ _ _ _ (lH K rfl hu) (@pv _ 4 _ _ rfl (by first | exact Or.inl rfl | exact Or.inr (Or.inl rfl) | exact Or.inr (Or.inr rfl)) (by decide) (by decide)) ap (bi _)) (@ah _ _ _ _ _ (@aN _ _ 7 _ _ _ _ cH.nd rfl (by first | exact Or.inl rfl | exact Or.inr rfl) (@bq _ _ _ _ (@paC _ _ _ _ _ (@aG _ _ _ _ _ _ _ _ (cm K rfl) (@bB _ _ _ _ _ _ _ (dz K rfl) (@pv _ 5 _ _ rfl (by first | exact Or.inl rfl | exact Or.inr (Or.inl rfl) | exact Or.inr (Or.inr rfl)) (by decide) (by decide)) (@pv _ 6 _ _ rfl (by first | exact Or.inl rfl | exact Or.inr (Or.inl rfl) | exact Or.inr (Or.inr rfl)) (by decide) (by decide)) (fun _ _=>rfl)) (@bq _ _ _ _ (@paC _ _ _ _ _ ap ag rfl))) (@paC _ _ _ _ _ (@ey _ _ _ _ _ _ _ _ _ _ (xY K rfl) (@bB _ _ _ _ _ _ _ (dz K rfl) (@pv _ 5 _ _ rfl (by first | exact Or.inl rfl | exact Or.inr (Or.inl rfl) | exact Or.inr (Or.inr rfl)) (by decide) (by decide)) (@pv _ 6 _ _ rfl (by first | exact Or.inl rfl | exact Or.inr (Or.inl rfl) | exact Or.inr (Or.inr rfl)) (by decide) (by decide)) (fun _ _=>rfl)) (@e5 _ _ _ ap) hZ) (@paC _ _ _ _ _ cM (@paC _ _ _ _ _ rG (@paC _ _ _ _ _ (@aG _ _ _ _ _ _ _ _ ib (@bT _ _ _ [57] _ (by decide +kernel)) (@aw _ _ _ _ _ _ _ _ _ (c9 K rfl) rfl T.b_len PySem.boot_len (@paC _ _ _ _ _ (@pv _ 1 _ _ rfl (by first | exact Or.inl rfl | exact Or.inr (Or.inl rfl) | exact Or.inr (Or.inr rfl)) (by decide) (by decide)) ag rfl) (by decide) (by decide) rfl rfl)) ag rfl) rfl) rfl) rfl) rfl)) rfl (by first | exact .inl rfl | exact .inr rfl | assumption)) (@ar _ _ _ (@qF _ _ _ _ _ _ _ _ (@bB _ _ _ _ _ _ _ (dz K rfl) (@pv _ 7 _ _ rfl (by first | exact Or.inl rfl | exact Or.inr (Or.inl rfl) | exact Or.inr (Or.inr rfl)) (by decide) (by decide)) (@aG _ _ _ _ _ _ _ _ cF (@az _ _ _ _ _ _ _ _ _ _ C_law_next (hr.mono (by decide)) (@paC _ _ _ _ _ (@pv _ 0 _ _ rfl (by first | exact Or.inl rfl | exact Or.inr (Or.inl rfl) | exact Or.inr (Or.inr rfl)) (by decide) (by decide)) ag rfl) rfl (by decide) rfl rfl) ap) (fun _ _=>rfl)) (@ua _ _ _ _ _ _ _ (@pv _ 5 _ _ rfl (by first | exact Or.inl rfl | exact Or.inr (Or.inl rfl) | exact Or.inr (Or.inr rfl)) (by decide) (by decide)) (@pv _ 6 _ _ rfl (by first | exact Or.inl rfl | exact Or.inr (Or.inl rfl) | exact Or.inr (Or.inr rfl)) (by decide) (by decide)) mP (fun _=>rfl)) rfl))) (@ah _ _ _ _ _ (@aN _ _ 8 _ _ _ _ cH.nd rfl (by first | exact Or.inl rfl | exact Or.inr rfl) (@bB _ _ _ _ _ _ _ (dz K rfl) (@bq _ _ _ _ (@paC _ _ _ _ _ (@bB _ _ _ _ _ _ _ (dz K rfl) (@bq _ _ _ _ (@paC _ _ _ _ _ (@bT _ _ _ ([69,110,100]) _ (by decide +kernel)) (@paC _ _ _ _ _ (@bT _ _ _ [] _ (by decide +kernel)) (@paC _ _ _ _ _ cM (@paC _ _ _ _ _ ap (@paC _ _ _ _ _ (@bq _ _ _ _ (@paC _ _ _ _ _ (@bT _ _ _ ([101,110,100]) _ (by decide +kernel)) ag rfl)) (@paC _ _ _ _ _ (@bT _ _ _ ([112,97,114,116]) _ (by decide +kernel)) ag rfl) rfl) rfl) rfl) rfl) rfl)) (@aG _ _ _ _ _ _ _ _ cF (@az _ _ _ _ _ _ _ _ _ _ C_law_next (hr.mono (by decide)) (@paC _ _ _ _ _ (@pv _ 0 _ _ rfl (by first | exact Or.inl rfl | exact Or.inr (Or.inl rfl) | exact Or.inr (Or.inr rfl)) (by decide) (by decide)) ag rfl) rfl (by decide) rfl rfl) ap) (fun _ _=>rfl)) (@paC _ _ _ _ _ (@bT _ _ _ ([101,110,100]) _ (by decide +kernel)) ag rfl) rfl)) (@aG _ _ _ _ _ _ _ _ cF (@pv _ 4 _ _ rfl (by first | exact Or.inl rfl | exact Or.inr (Or.inl rfl) | exact Or.inr (Or.inr rfl)) (by decide) (by decide)) ap) (fun _ _=>rfl)) rfl (by first | exact .inl rfl | exact .inr rfl | assumption)) (@ah _ _ _ _ _ (@aN _ _ 7 _ _ _ _ cH.nd rfl (by first | exact Or.inl rfl | exact Or.inr rfl) (@bq _ _ _ _ (@paC _ _ _ _ _ (@bq _ _ _ _ (@paC _ _ _ _ _ (@pv _ 8 _ _ rfl (by first | exact Or.inl rfl | exact Or.inr (Or.inl rfl) | exact Or.inr (Or.inr rfl)) (by decide) (by decide)) (@paC _ _ _ _ _ (@bB _ _ _ _ _ _ _ (dz K rfl) (@pv _ 5 _ _ rfl (by first | exact Or.inl rfl | exact Or.inr (Or.inl rfl) | exact Or.inr (Or.inr rfl)) (by decide) (by decide)) ap (fun _ _=>rfl)) ag rfl) rfl)) (@paC _ _ _ _ _ (@bq _ _ _ _ (@paC _ _ _ _ _ (@pv _ 8 _ _ rfl (by first | exact Or.inl rfl | exact Or.inr (Or.inl rfl) | exact Or.inr (Or.inr rfl)) (by decide) (by decide)) (@paC _ _ _ _ _ (@bB _ _ _ _ _ _ _ (dz K rfl) (@pv _ 5 _ _ rfl (by first | exact Or.inl rfl | exact Or.inr (Or.inl rfl) | exact Or.inr (Or.inr rfl)) (by decide) (by decide)) ap (fun _ _=>rfl)) (@paC _ _ _ _ _ (@bB _ _ _ _ _ _ _ (dz K rfl) (@pv _ 5 _ _ rfl (by first | exact Or.inl rfl | exact Or.inr (Or.inl rfl) | exact Or.inr (Or.inr rfl)) (by decide) (by decide)) ap (fun _ _=>rfl)) (@paC _ _ _ _ _ (@bq _ _ _ _ ag) ag rfl) rfl) rfl) rfl)) (@paC _ _ _ _ _ (@ju _ _ _ _ _ (@paC _ _ _ _ _ (@pv _ 8 _ _ rfl (by first | exact Or.inl rfl | exact Or.inr (Or.inl rfl) | exact Or.inr (Or.inr rfl)) (by decide) (by decide)) ag rfl)) (@paC _ _ _ _ _ (@pv _ 8 _ _ rfl (by first | exact Or.inl rfl | exact Or.inr (Or.inl rfl) | exact Or.inr (Or.inr rfl)) (by decide) (by decide)) ag rfl) rfl) rfl) rfl)) rfl (by first | exact .inl rfl | exact .inr rfl | assumption)) (@ar _ _ _ (@aU _ _ _ _ (@bB _ _ _ _ _ _ _ (dz K rfl) (@pv _ 7 _ _ rfl (by first | exact Or.inl rfl | exact Or.inr (Or.inl rfl) | exact Or.inr (Or.inr rfl)) (by decide) (by decide)) (@aG _ _ _ _ _ _ _ _ cF (@az _ _ _ _ _ _ _ _ _ _ C_law_next (hr.mono (by decide)) (@paC _ _ _ _ _ (@pv _ 0 _ _ rfl (by first | exact Or.inl rfl | exact Or.inr (Or.inl rfl) | exact Or.inr (Or.inr rfl)) (by decide) (by decide)) ag rfl) rfl (by decide) rfl rfl) ap) (fun _ _=>rfl)))))))))) (@ar _ _ _ (@aU _ _ _ _ (@ju _ _ _ _ _ (@paC _ _ _ _ _ (@bT _ _ _ ([101,110,100]) _ (by decide +kernel)) (@paC _ _ _ _ _ (@bB _ _ _ _ _ _ _ (dz K rfl) (@pv _ 5 _ _ rfl (by first | exact Or.inl rfl | exact Or.inr (Or.inl rfl) | exact Or.inr (Or.inr rfl)) (by decide) (by decide)) ap (fun _ _=>rfl)) (@paC _ _ _ _ _ (@bB _ _ _ _ _ _ _ (dz K rfl) (@pv _ 5 _ _ rfl (by first | exact Or.inl rfl | exact Or.inr (Or.inl rfl) | exact Or.inr (Or.inr rfl)) (by decide) (by decide)) ap (fun _ _=>rfl)) ag rfl) rfl) rfl))))))))),fnR (K:=K) (c:=cC) (ps:=fB) (N:=["_law_deck_here","_law_gives","_law_takes","_law_at","_law_sort","_law_bent_here","_law_side","_law_some","_law_word"]) (aA (aH (aj bb (ac (aX (i:=0) ae)) (ac (bu b8 (aa (al (i:=1)) ae)))) (aB (i:=3) rfl)) (aA (aH (aj bb (ac (aX (i:=0) ae)) (ac le_int)) (aB (i:=4) rfl)) (Ch (x:=5) rfl zU (kI (ye (aH (aj bb (ac (aX (i:=0) ae)) (ac le_int)) (aB (i:=6) rfl)) (aH (aj bb (ac (aX (i:=0) ae)) (ac le_int)) (aB (i:=6) rfl))) (kI (xz (yd (eV (aj gO (al (i:=4)) (ac le_int))) (zT (aj bD (ac (bn (aa (ac (zb vo (ac le_int))) (aa (ac pf) (aa (ac cL) (aa (ac (le_str (l:=[49]))) (aa (ac (bn (aa (ac le_int) ae))) ae))))))) (ac (aj bb (ac (aX (i:=0) ae)) (ac le_int)))) (ai (i:=6)) (ai (i:=3))) (yd (eV (aj gO (al (i:=4)) (ac le_int))) (kI (pO (x:=5) (aH (bn (aa (ac (aj bA (ac (aj bD (al (i:=5)) (al (i:=6)))) (ac (bn (aa (ac le_int) ae))))) (aa (ac (ez (ac (aj bD (al (i:=5)) (al (i:=6)))) (dG le_int) fc)) (aa (ac cL) (aa (ac vq) (aa (ac (aj dY (ac (le_str (l:=[57]))) (ac (bu b8 (aa (al (i:=1)) ae))))) ae)))))) (aB (i:=7) rfl))) (pO (x:=5) (ve (i:=5) (aj bD (al (i:=7)) (ac (aj bb (ac (aX (i:=0) ae)) (ac le_int)))) (ai (i:=6))))) (kI (ye (aH (aj bD (ac (bn (aa (ac (aj bD (ac (bn (aa (ac (le_str (l:=[69,110,100]))) (aa (ac (le_str (l:=[]))) (aa (ac cL) (aa (ac le_int) (aa (ac (bn (aa (ac (le_str (l:=[101,110,100]))) ae))) (aa (ac (le_str (l:=[112,97,114,116]))) ae)))))))) (ac (aj bb (ac (aX (i:=0) ae)) (ac le_int))))) (aa (ac (le_str (l:=[101,110,100]))) ae)))) (ac (aj bb (al (i:=4)) (ac le_int)))) (aB (i:=8) rfl)) (aH (aj bD (ac (bn (aa (ac (aj bD (ac (bn (aa (ac (le_str (l:=[69,110,100]))) (aa (ac (le_str (l:=[]))) (aa (ac cL) (aa (ac le_int) (aa (ac (bn (aa (ac (le_str (l:=[101,110,100]))) ae))) (aa (ac (le_str (l:=[112,97,114,116]))) ae)))))))) (ac (aj bb (ac (aX (i:=0) ae)) (ac le_int))))) (aa (ac (le_str (l:=[101,110,100]))) ae)))) (ac (aj bb (al (i:=4)) (ac le_int)))) (aB (i:=8) rfl))) (kI (pO (x:=5) (aH (bn (aa (ac (bn (aa (ac (ai (i:=8))) (aa (ac (aj bD (al (i:=5)) (ac le_int))) ae)))) (aa (ac (bn (aa (ac (ai (i:=8))) (aa (ac (aj bD (al (i:=5)) (ac le_int))) (aa (ac (aj bD (al (i:=5)) (ac le_int))) (aa (ac (bn ae)) ae)))))) (aa (ac (kr (aa (ac (ai (i:=8))) ae))) (aa (ac (ai (i:=8))) ae))))) (aB (i:=7) rfl))) (pO (x:=5) (aV (aj bD (al (i:=7)) (ac (aj bb (ac (aX (i:=0) ae)) (ac le_int))))))))))) (pO (x:=5) (aV (kr (aa (ac (le_str (l:=[101,110,100]))) (aa (ac (aj bD (al (i:=5)) (ac le_int))) (aa (ac (aj bD (al (i:=5)) (ac le_int))) ae))))))))))) (fun p ds Q h=>Nat.le_trans (Nat.le_of_eq (lA p ds Q h)) (by decide)) re h⟩
theorem yp:∀ds Q,sk ds Q->ds.length=1:=fun ds Q h=>by obtain ⟨_,rfl,_⟩:=h;rfl
theorem Cv (D:cv K mg "law" xA) (T:Txt mg) (TC:TxC K) (TX:TxX K mg) (C_Family_init:Br P w K mg base 4 (bC K "Family") "Family" ["self","pieces"] (spR K bh)) (C_law_bent:Cal P w K mg base 2 "_law_bent" ["_law_deck_here","_law_gives","_law_takes"] (spR K cC)) (C_law_deck:Cal P w K mg base 2 "_law_deck" ["_law_script","_law_many"] (spP K bZ)) (C_law_enough:Cal P w K mg base 1 "_law_enough" ["_law_laps_here","_law_gives","_law_takes"] (spP K bx)) (C_law_laps:Cal P w K mg base 2 "_law_laps" ["_law_words_here"] (spP K b7)) (C_law_pieces:Cal P w K mg base 3 "_law_pieces" ["_law_deck_here","_law_most"] (spR K bK)) (C_law_prices:Cal P w K mg base 2 "_law_prices" ["_law_deck_here","_law_laps_here"] (spR K bL)) (C_law_words:Cal P w K mg base 1 "_law_words" ["_law_pieces_here"] (spP K bO)) (C_case_bound:Cal P w K mg base 6 "case_bound" ["family","paper"] (spP K aJ)):Cal P w K mg base 7 "law" ["_law_script"] (spP K sk):=by
 refine D.ok dE (fun _ _ _ _ _ _ us hl=>match us,hl with | [_],_=>rfl) (fun vs H Q E h=>?_) (fun f cdv A outer s H vs Q E hr h=>?_)
 .exact io yp h
 .have hu:=hr.units
  exact ⟨_,(@ah _ _ _ _ _ (@aN _ _ 1 _ _ _ _ dE.nd rfl (by first | exact Or.inl rfl | exact Or.inr rfl) (@az _ _ _ _ _ _ _ _ _ _ C_law_deck (hr.mono (by decide)) (@paC _ _ _ _ _ (@pv _ 0 _ _ rfl (by first | exact Or.inl rfl | exact Or.inr (Or.inl rfl) | exact Or.inr (Or.inr rfl)) (by decide) (by decide)) (@paC _ _ _ _ _ ap ag rfl) rfl) rfl (by decide) rfl rfl) rfl (by first | exact .inl rfl | exact .inr rfl | assumption)) (@ah _ _ _ _ _ (@aN _ _ 2 _ _ _ _ dE.nd rfl (by first | exact Or.inl rfl | exact Or.inr rfl) (@az _ _ _ _ _ _ _ _ _ _ C_law_pieces (hr.mono (by decide)) (@paC _ _ _ _ _ (@pv _ 1 _ _ rfl (by first | exact Or.inl rfl | exact Or.inr (Or.inl rfl) | exact Or.inr (Or.inr rfl)) (by decide) (by decide)) (@paC _ _ _ _ _ ap ag rfl) rfl) rfl (by decide) rfl rfl) rfl (by first | exact .inl rfl | exact .inr rfl | assumption)) (@ah _ _ _ _ _ (@aN _ _ 3 _ _ _ _ dE.nd rfl (by first | exact Or.inl rfl | exact Or.inr rfl) (@az _ _ _ _ _ _ _ _ _ _ C_law_words (hr.mono (by decide)) (@paC _ _ _ _ _ (@pv _ 2 _ _ rfl (by first | exact Or.inl rfl | exact Or.inr (Or.inl rfl) | exact Or.inr (Or.inr rfl)) (by decide) (by decide)) ag rfl) rfl (by decide) rfl rfl) rfl (by first | exact .inl rfl | exact .inr rfl | assumption)) (@ah _ _ _ _ _ (@aN _ _ 4 _ _ _ _ dE.nd rfl (by first | exact Or.inl rfl | exact Or.inr rfl) (@az _ _ _ _ _ _ _ _ _ _ C_law_laps (hr.mono (by decide)) (@paC _ _ _ _ _ (@pv _ 3 _ _ rfl (by first | exact Or.inl rfl | exact Or.inr (Or.inl rfl) | exact Or.inr (Or.inr rfl)) (by decide) (by decide)) ag rfl) rfl (by decide) rfl rfl) rfl (by first | exact .inl rfl | exact .inr rfl | assumption)) (@ah _ _ _ _ _ (@aN _ _ 5 _ _ _ _ dE.nd rfl (by first | exact Or.inl rfl | exact Or.inr rfl) (@rR _ _ _ _ _ _ _ _ _ _ _ C_Family_init (hr.mono (by decide)) (@paC _ _ _ _ _ (@pv _ 2 _ _ rfl (by first | exact Or.inl rfl | exact Or.inr (Or.inl rfl) | exact Or.inr (Or.inr rfl)) (by decide) (by decide)) ag rfl) rfl (by decide) rfl rfl) rfl (by first | exact .inl rfl | exact .inr rfl | assumption)) (@ah _ _ _ _ _ (@aN _ _ 6 _ _ _ _ dE.nd rfl (by first | exact Or.inl rfl | exact Or.inr rfl) (@aw _ _ _ _ _ _ _ _ _ (vQ K rfl rfl) rfl T.b_sum boot_sum (@paC _ _ _ _ _ (@bI _ _ _ _ _ _ ((iX K (a4 3))) ((ca 0)) kl ((tCB (lD K) (bp (a4 0) eM))) _ ["_law_word"] [none] rfl (@cj _ _ K rfl _ _ (@pv _ 3 _ _ rfl (by first | exact Or.inl rfl | exact Or.inr (Or.inl rfl) | exact Or.inr (Or.inr rfl)) (by decide) (by decide))) (fun _ _ _ _=>⟨(aC (i:=0) (by show List.Nodup (["_law_word"]:List Str);decide +kernel) rfl (by first | exact Or.inl rfl | exact Or.inr rfl)),cw,(aw (c9 K rfl) rfl T.b_len PySem.boot_len (paC (pv 0) ag))⟩) (by kernel_rfl) (fun _=>rfl)) ag rfl) (by decide) (by decide) rfl rfl) rfl (by first | exact .inl rfl | exact .inr rfl | assumption)) (@ah _ _ _ _ _ (@fC _ _ _ _ _ _ _ _ PassesOwn.never rfl (@du _ _ _ _ _ _ rfl T.b_range (@paC _ _ _ _ _ ap ag rfl) rfl) (@aC _ _ 7 _ dE.nd rfl (by first | exact Or.inl rfl | exact Or.inr rfl) (by first | exact .inl rfl | exact .inr rfl | assumption)) (@ah _ _ _ _ _ (@ud _ _ _ _ _ _ (@az _ _ _ _ _ _ _ _ _ _ C_law_prices (hr.mono (by decide)) (@paC _ _ _ _ _ (@pv _ 1 _ _ rfl (by first | exact Or.inl rfl | exact Or.inr (Or.inl rfl) | exact Or.inr (Or.inr rfl)) (by decide) (by decide)) (@paC _ _ _ _ _ (@pv _ 4 _ _ rfl (by first | exact Or.inl rfl | exact Or.inr (Or.inl rfl) | exact Or.inr (Or.inr rfl)) (by decide) (by decide)) ag rfl) rfl) rfl (by decide) rfl rfl) (@jB _ K rfl _ _ _ 2 _ rfl (@ce _ _ _ _ _ (@aC _ _ 8 _ dE.nd rfl (by first | exact Or.inl rfl | exact Or.inr rfl) (by first | exact .inl rfl | exact .inr rfl | assumption)) (@ce _ _ _ _ _ (@aC _ _ 9 _ dE.nd rfl (by first | exact Or.inl rfl | exact Or.inr rfl) (by first | exact .inl rfl | exact .inr rfl | assumption)) fQ rfl) rfl) rfl rfl) rfl rfl rfl) (@ah _ _ _ _ _ (@aN _ _ 10 _ _ _ _ dE.nd rfl (by first | exact Or.inl rfl | exact Or.inr rfl) cM rfl (by first | exact .inl rfl | exact .inr rfl | assumption)) (@ah _ _ _ _ _ (@i5 _ _ _ (@dA _ _ _ _ _ _ _ _ (@d8 _ _ _ (@az _ _ _ _ _ _ _ _ _ _ C_law_enough (hr.mono (by decide)) (@paC _ _ _ _ _ (@pv _ 4 _ _ rfl (by first | exact Or.inl rfl | exact Or.inr (Or.inl rfl) | exact Or.inr (Or.inr rfl)) (by decide) (by decide)) (@paC _ _ _ _ _ (@pv _ 8 _ _ rfl (by first | exact Or.inl rfl | exact Or.inr (Or.inl rfl) | exact Or.inr (Or.inr rfl)) (by decide) (by decide)) (@paC _ _ _ _ _ (@pv _ 9 _ _ rfl (by first | exact Or.inl rfl | exact Or.inr (Or.inl rfl) | exact Or.inr (Or.inr rfl)) (by decide) (by decide)) ag rfl) rfl) rfl) rfl (by decide) rfl rfl) rfl) (@ar _ _ _ (@aN _ _ 10 _ _ _ _ dE.nd rfl (by first | exact Or.inl rfl | exact Or.inr rfl) (@aG _ _ _ _ _ _ _ _ nu (@aG _ _ _ _ _ _ _ _ nu (@pv _ 6 _ _ rfl (by first | exact Or.inl rfl | exact Or.inr (Or.inl rfl) | exact Or.inr (Or.inr rfl)) (by decide) (by decide)) (@aw _ _ _ _ _ _ _ _ _ (vQ K rfl rfl) rfl T.b_sum boot_sum (@paC _ _ _ _ _ (@pv _ 8 _ _ rfl (by first | exact Or.inl rfl | exact Or.inr (Or.inl rfl) | exact Or.inr (Or.inr rfl)) (by decide) (by decide)) ag rfl) (by decide) (by decide) rfl rfl)) (@aw _ _ _ _ _ _ _ _ _ (vQ K rfl rfl) rfl T.b_sum boot_sum (@paC _ _ _ _ _ (@pv _ 9 _ _ rfl (by first | exact Or.inl rfl | exact Or.inr (Or.inl rfl) | exact Or.inr (Or.inr rfl)) (by decide) (by decide)) ag rfl) (by decide) (by decide) rfl rfl)) rfl (by first | exact .inl rfl | exact .inr rfl | assumption))) bH)) (@ah _ _ _ _ _ (@aN _ _ 11 _ _ _ _ dE.nd rfl (by first | exact Or.inl rfl | exact Or.inr rfl) (@bB _ _ _ _ _ _ _ (dz K rfl) (@bq _ _ _ _ (@paC _ _ _ _ _ (@ju _ _ _ _ _ (@paC _ _ _ _ _ (@bT _ _ _ ([101,110,100]) _ (by decide +kernel)) (@paC _ _ _ _ _ (@pv _ 8 _ _ rfl (by first | exact Or.inl rfl | exact Or.inr (Or.inl rfl) | exact Or.inr (Or.inr rfl)) (by decide) (by decide)) (@paC _ _ _ _ _ (@pv _ 9 _ _ rfl (by first | exact Or.inl rfl | exact Or.inr (Or.inl rfl) | exact Or.inr (Or.inr rfl)) (by decide) (by decide)) ag rfl) rfl) rfl)) (@paC _ _ _ _ _ (@bq _ _ _ _ (@paC _ _ _ _ _ (@bT _ _ _ ([101,110,100]) _ (by decide +kernel)) (@paC _ _ _ _ _ (@bP _ _ _ _ _ _ _ _ _ (fe K rfl) rfl T.b_tuple boot_tuple (@paC _ _ _ _ _ (@pv _ 8 _ _ rfl (by first | exact Or.inl rfl | exact Or.inr (Or.inl rfl) | exact Or.inr (Or.inr rfl)) (by decide) (by decide)) ag rfl) (by decide) (by decide) rfl rfl) (@paC _ _ _ _ _ (@bP _ _ _ _ _ _ _ _ _ (fe K rfl) rfl T.b_tuple boot_tuple (@paC _ _ _ _ _ (@pv _ 9 _ _ rfl (by first | exact Or.inl rfl | exact Or.inr (Or.inl rfl) | exact Or.inr (Or.inr rfl)) (by decide) (by decide)) ag rfl) (by decide) (by decide) rfl rfl) ag rfl) rfl) rfl)) ag rfl) rfl)) (@aG _ _ _ _ _ _ _ _ cF (@pv _ 7 _ _ rfl (by first | exact Or.inl rfl | exact Or.inr (Or.inl rfl) | exact Or.inr (Or.inr rfl)) (by decide) (by decide)) ap) (fun _ _=>rfl)) rfl (by first | exact .inl rfl | exact .inr rfl | assumption)) (@ah _ _ _ _ _ (@dA _ _ _ _ _ _ _ _ (@aQ _ _ _ _ _ _ _ _ (nz K rfl hu) (@az _ _ _ _ _ _ _ _ _ _ C_case_bound (hr.mono (by decide)) (@paC _ _ _ _ _ (@pv _ 5 _ _ rfl (by first | exact Or.inl rfl | exact Or.inr (Or.inl rfl) | exact Or.inr (Or.inr rfl)) (by decide) (by decide)) (@paC _ _ _ _ _ (@pv _ 11 _ _ rfl (by first | exact Or.inl rfl | exact Or.inr (Or.inl rfl) | exact Or.inr (Or.inr rfl)) (by decide) (by decide)) ag rfl) rfl) rfl (by decide) rfl rfl) (@pv _ 10 _ _ rfl (by first | exact Or.inl rfl | exact Or.inr (Or.inl rfl) | exact Or.inr (Or.inr rfl)) (by decide) (by decide)) (bi _)) (@ar _ _ _ (@aU _ _ _ _ ou)) bH) (@ah _ _ _ _ _ (@dA _ _ _ _ _ _ _ _ (PW.pt (@j2 _ _ _ _ _ _ _ (@aQ _ _ _ _ _ _ _ _ (nz K rfl hu) (@pv _ 4 _ _ rfl (by first | exact Or.inl rfl | exact Or.inr (Or.inl rfl) | exact Or.inr (Or.inr rfl)) (by decide) (by decide)) (@bq _ _ _ _ ag) (bi _)) (@hU _ _ _ _ (@aQ _ _ _ _ _ _ _ _ m8 (@az _ _ _ _ _ _ _ _ _ _ C_case_bound (hr.mono (by decide)) (@paC _ _ _ _ _ (@pv _ 5 _ _ rfl (by first | exact Or.inl rfl | exact Or.inr (Or.inl rfl) | exact Or.inr (Or.inr rfl)) (by decide) (by decide)) (@paC _ _ _ _ _ (@az _ _ _ _ _ _ _ _ _ _ C_law_bent (hr.mono (by decide)) (@paC _ _ _ _ _ (@pv _ 1 _ _ rfl (by first | exact Or.inl rfl | exact Or.inr (Or.inl rfl) | exact Or.inr (Or.inr rfl)) (by decide) (by decide)) (@paC _ _ _ _ _ (@pv _ 8 _ _ rfl (by first | exact Or.inl rfl | exact Or.inr (Or.inl rfl) | exact Or.inr (Or.inr rfl)) (by decide) (by decide)) (@paC _ _ _ _ _ (@pv _ 9 _ _ rfl (by first | exact Or.inl rfl | exact Or.inr (Or.inl rfl) | exact Or.inr (Or.inr rfl)) (by decide) (by decide)) ag rfl) rfl) rfl) rfl (by decide) rfl rfl) ag rfl) rfl) rfl (by decide) rfl rfl) cM (bi _))))) (@ar _ _ _ (@aU _ _ _ _ ou)) bH) (@ar _ _ _ (@fC _ _ _ _ _ _ _ _ PassesOwn.never rfl (@cj _ _ K rfl _ _ (@bq _ _ _ _ (@paC _ _ _ _ _ (@bT _ _ _ ([69,110,100]) _ (by decide +kernel)) (@paC _ _ _ _ _ ap (@paC _ _ _ _ _ (@bT _ _ _ ([112,97,114,116]) _ (by decide +kernel)) ag rfl) rfl) rfl))) (@aC _ _ 12 _ dE.nd rfl (by first | exact Or.inl rfl | exact Or.inr rfl) (by first | exact .inl rfl | exact .inr rfl | assumption)) (@ar _ _ _ (@dA _ _ _ _ _ _ _ _ (@aQ _ _ _ _ _ _ _ _ m8 (@az _ _ _ _ _ _ _ _ _ _ C_case_bound (hr.mono (by decide)) (@paC _ _ _ _ _ (@pv _ 5 _ _ rfl (by first | exact Or.inl rfl | exact Or.inr (Or.inl rfl) | exact Or.inr (Or.inr rfl)) (by decide) (by decide)) (@paC _ _ _ _ _ (@bq _ _ _ _ (@paC _ _ _ _ _ (@pv _ 12 _ _ rfl (by first | exact Or.inl rfl | exact Or.inr (Or.inl rfl) | exact Or.inr (Or.inr rfl)) (by decide) (by decide)) (@paC _ _ _ _ _ (@pv _ 8 _ _ rfl (by first | exact Or.inl rfl | exact Or.inr (Or.inl rfl) | exact Or.inr (Or.inr rfl)) (by decide) (by decide)) (@paC _ _ _ _ _ (@pv _ 9 _ _ rfl (by first | exact Or.inl rfl | exact Or.inr (Or.inl rfl) | exact Or.inr (Or.inr rfl)) (by decide) (by decide)) ag rfl) rfl) rfl)) ag rfl) rfl) rfl (by decide) rfl rfl) cM (bi _)) (@ar _ _ _ (@aU _ _ _ _ ou)) bH)) (fun _=>rfl))))))))) (fun _=>rfl)) (@ah _ _ _ _ _ (@fC _ _ _ _ _ _ _ _ PassesOwn.never rfl (@cj _ _ K rfl _ _ (@bq _ _ _ _ (@paC _ _ _ _ _ cM (@paC _ _ _ _ _ ap (@paC _ _ _ _ _ (@bT _ _ _ ([101,110,100]) _ (by decide +kernel)) (@paC _ _ _ _ _ (@bq _ _ _ _ ag) (@paC _ _ _ _ _ rG (@paC _ _ _ _ _ (@bq _ _ _ _ (@paC _ _ _ _ _ (@bT _ _ _ ([101,110,100]) _ (by decide +kernel)) ag rfl)) (@paC _ _ _ _ _ (@bq _ _ _ _ (@paC _ _ _ _ _ (@bq _ _ _ _ ag) (@paC _ _ _ _ _ (@bq _ _ _ _ ag) (@paC _ _ _ _ _ (@bq _ _ _ _ ag) ag rfl) rfl) rfl)) ag rfl) rfl) rfl) rfl) rfl) rfl) rfl))) (@aC _ _ 13 _ dE.nd rfl (by first | exact Or.inl rfl | exact Or.inr rfl) (by first | exact .inl rfl | exact .inr rfl | assumption)) (@ar _ _ _ (@dA _ _ _ _ _ _ _ _ (@aQ _ _ _ _ _ _ _ _ m8 (@az _ _ _ _ _ _ _ _ _ _ C_case_bound (hr.mono (by decide)) (@paC _ _ _ _ _ (@pv _ 5 _ _ rfl (by first | exact Or.inl rfl | exact Or.inr (Or.inl rfl) | exact Or.inr (Or.inr rfl)) (by decide) (by decide)) (@paC _ _ _ _ _ (@pv _ 13 _ _ rfl (by first | exact Or.inl rfl | exact Or.inr (Or.inl rfl) | exact Or.inr (Or.inr rfl)) (by decide) (by decide)) ag rfl) rfl) rfl (by decide) rfl rfl) cM (bi _)) (@ar _ _ _ (@aU _ _ _ _ ou)) bH)) (fun _=>rfl)) (@ah _ _ _ _ _ (@aN _ _ 14 _ _ _ _ dE.nd rfl (by first | exact Or.inl rfl | exact Or.inr rfl) (@rR _ _ _ _ _ _ _ _ _ _ _ C_Family_init (hr.mono (by decide)) (@paC _ _ _ _ _ (@bI _ _ _ _ _ _ ((sy (bp (tC (V.int 8)) eM))) ((ca 0)) kl ((tOp (kx K) (tC (V.str (S [97,98,99,100,101,102,103,104,105,106,107,108,109,110,111,112,113,114,115,116,117,118,119,120,121,122]))) (tOp xf (tOp (tF K) (tOp wW (tC (V.int 7)) (a4 0)) (tCB (lD K) (bp (a4 1) eM))) (tC (V.int 26))))) _ ["_law_k","_law_laps_here"] [none,some 4] rfl (@du _ _ _ _ _ _ rfl T.b_range (@paC _ _ _ _ _ ap ag rfl) rfl) (fun _ _ _ _=>⟨(aC (i:=0) (by show List.Nodup (["_law_k","_law_laps_here"]:List Str);decide +kernel) rfl (by first | exact Or.inl rfl | exact Or.inr rfl)),cw,(bB (dz K rfl) (bT (l:=[97,98,99,100,101,102,103,104,105,106,107,108,109,110,111,112,113,114,115,116,117,118,119,120,121,122]) (by decide +kernel)) (aG cF (aG (cm K rfl) (aG ib ap (pv 0)) (aw (c9 K rfl) rfl T.b_len PySem.boot_len (paC (pv 1) ag))) ap) (fun _ _=>rfl))⟩) (by kernel_rfl) (fun _=>rfl)) ag rfl) rfl (by decide) rfl rfl) rfl (by first | exact .inl rfl | exact .inr rfl | assumption)) (@ar _ _ _ (@aU _ _ _ _ (@iZ _ _ _ _ _ _ _ _ Dl (@az _ _ _ _ _ _ _ _ _ _ C_case_bound (hr.mono (by decide)) (@paC _ _ _ _ _ (@pv _ 14 _ _ rfl (by first | exact Or.inl rfl | exact Or.inr (Or.inl rfl) | exact Or.inr (Or.inr rfl)) (by decide) (by decide)) (@paC _ _ _ _ _ (@ju _ _ _ _ _ (@paC _ _ _ _ _ (@bT _ _ _ ([101,110,100]) _ (by decide +kernel)) (@paC _ _ _ _ _ (@aG _ _ _ _ _ _ _ _ ib (@bq _ _ _ _ (@paC _ _ _ _ _ ap ag rfl)) ap) (@paC _ _ _ _ _ (@aG _ _ _ _ _ _ _ _ ib (@bq _ _ _ _ (@paC _ _ _ _ _ ap ag rfl)) ap) ag rfl) rfl) rfl)) ag rfl) rfl) rfl (by decide) rfl rfl) cM (bi _))))))))))))),fnP (K:=K) (c:=sk) (ps:=su) (N:=["_law_script","_law_deck_here","_law_pieces_here","_law_words_here","_law_laps_here","_law_family","_law_total","_law_k","_law_gives","_law_takes","_law_due","_law_paper","_law_word","_law_thing","_law_great"]) (aA (aH (aF (c:=bZ) (aa (ac (ai (i:=0))) (aa (ac le_int) ae))) (aB (i:=1) rfl)) (aA (aH (aX (i:=1) (aa (ac le_int) ae)) (aB (i:=2) rfl)) (aA (aH (aF (c:=bO) (aa (ac (ai (i:=2))) ae)) (aB (i:=3) rfl)) (aA (aH (aF (c:=b7) (aa (ac (ai (i:=3))) ae)) (aB (i:=4) rfl)) (aA (aH (vn (aa (ac (ai (i:=2))) ae)) (aB (i:=5) rfl)) (aA (aH (bu qG (aa (ac (br (ix:=[none]) rfl (ck (ai (i:=3))) (fun fs hc=>(ay (i:=0) (gJ hc (by decide)))) cX (bu b8 (aa (al (i:=0)) ae)))) ae)) (aB (i:=6) rfl)) (aA (fG (pA (aa (ac le_int) ae)) (ay (i:=7) rfl) (aA (aH (aX (i:=1) (aa (ac (ai (i:=4))) ae)) (x9 (cf (ay (i:=8) rfl) (cf (ay (i:=9) rfl) fT)))) (aA (aH cL (aB (i:=10) rfl)) (aA (kz (dZ (tX (aF (c:=bx) (aa (ac (ai (i:=4))) (aa (ac (ai (i:=8))) (aa (ac (ai (i:=9))) ae))))) (aH (aj iw (ac (aj iw (al (i:=6)) (ac (bu qG (aa (al (i:=8)) ae))))) (ac (bu qG (aa (al (i:=9)) ae)))) (aB (i:=10) rfl)) bJ)) (aA (aH (aj bD (ac (bn (aa (ac (kr (aa (ac (le_str (l:=[101,110,100]))) (aa (ac (ai (i:=8))) (aa (ac (ai (i:=9))) ae))))) (aa (ac (bn (aa (ac (le_str (l:=[101,110,100]))) (aa (ac (bu dH (aa (al (i:=8)) ae))) (aa (ac (bu dH (aa (al (i:=9)) ae))) ae))))) ae)))) (ac (aj bb (al (i:=7)) (ac le_int)))) (aB (i:=11) rfl)) (aA (dZ (eV (aj iA (ac (aF (c:=aJ) (aa (ac (ai (i:=5))) (aa (ac (ai (i:=11))) ae)))) (al (i:=10)))) (aV pf) bJ) (aA (dZ (kt (eV (aj iA (al (i:=4)) (ac (bn ae)))) (eV (aj qu (ac (aF (c:=aJ) (aa (ac (ai (i:=5))) (aa (ac (aX (i:=1) (aa (ac (ai (i:=8))) (aa (ac (ai (i:=9))) ae)))) ae)))) (ac cL)))) (aV pf) bJ) (fG (ck (bn (aa (ac (le_str (l:=[69,110,100]))) (aa (ac le_int) (aa (ac (le_str (l:=[112,97,114,116]))) ae))))) (ay (i:=12) rfl) (dZ (eV (aj qu (ac (aF (c:=aJ) (aa (ac (ai (i:=5))) (aa (ac (bn (aa (ac (ai (i:=12))) (aa (ac (ai (i:=8))) (aa (ac (ai (i:=9))) ae))))) ae)))) (ac cL))) (aV pf) bJ))))))))) (aA (fG (ck (bn (aa (ac cL) (aa (ac le_int) (aa (ac (le_str (l:=[101,110,100]))) (aa (ac (bn ae)) (aa (ac vq) (aa (ac (bn (aa (ac (le_str (l:=[101,110,100]))) ae))) (aa (ac (bn (aa (ac (bn ae)) (aa (ac (bn ae)) (aa (ac (bn ae)) ae))))) ae))))))))) (ay (i:=13) rfl) (dZ (eV (aj qu (ac (aF (c:=aJ) (aa (ac (ai (i:=5))) (aa (ac (ai (i:=13))) ae)))) (ac cL))) (aV pf) bJ)) (aA (aH (vn (aa (ac (br (ix:=[none,some 4]) rfl (pA (aa (ac le_int) ae)) (fun fs hc=>(ay (i:=0) (gJ hc (by decide)))) cX (aj bD (ac (le_str (l:=[97,98,99,100,101,102,103,104,105,106,107,108,109,110,111,112,113,114,115,116,117,118,119,120,121,122]))) (ac (aj bb (ac (aj bA (ac (aj dY (ac le_int) (al (i:=0)))) (ac (bu b8 (aa (al (i:=1)) ae))))) (ac le_int)))))) ae)) (aB (i:=14) rfl)) (aV (aj qu (ac (aF (c:=aJ) (aa (ac (ai (i:=14))) (aa (ac (kr (aa (ac (le_str (l:=[101,110,100]))) (aa (ac (aj dY (ac (bn (aa (ac le_int) ae))) (ac le_int))) (aa (ac (aj dY (ac (bn (aa (ac le_int) ae))) (ac le_int))) ae))))) ae)))) (ac cL)))))))))))) (fun ds Q h=>Nat.le_trans (Nat.le_of_eq (yp ds Q h)) (by decide)) Ct h⟩
end
theorem Cw {l:PySem.W.OpenLaw}{w:World}{K:PySem.W.Frag}{h:Heap}{mg:Str->Option Value}{fa:Addr} (X:K.In h) (G:h.Ns mainGlobals mg) (hfa:mg "law"=some (.ref fa))
  {C_Family:Addr} (aC_Family:PySem.W.nsIn K mainGlobals "Family"=some (some (.ref C_Family))) (pg_Family:PySem.W.plainGet K C_Family Str.empty=true) (hd_Family:PySem.W.hasDictIn K C_Family=true) (po_Family:PySem.W.plainOver K C_Family=true) (sa_Family:PySem.W.findIn K (.ref C_Family) "__setattr__"=some (some (.builtin "object.__setattr__"))) (mk_Family:PySem.W.makesIn K C_Family=true) (kc_Family:PySem.W.keepIn K (.ref C_Family)=true)
  (n_Family_pieces:PySem.W.findIn K (.ref C_Family) "pieces"=some none)
  (n_Family_kept:PySem.W.findIn K (.ref C_Family) "kept"=some none)
  (n_Family_words:PySem.W.findIn K (.ref C_Family) "words"=some none)
  (n_Family_left:PySem.W.findIn K (.ref C_Family) "left"=some none)
  (n_Family_laps:PySem.W.findIn K (.ref C_Family) "laps"=some none)
  (n_Family_total:PySem.W.findIn K (.ref C_Family) "total"=some none)
  {C_GlueError:Addr} (aC_GlueError:PySem.W.nsIn K mainGlobals "GlueError"=some (some (.ref C_GlueError))) {q_GlueError:Str}{N_GlueError:Addr}{bs_GlueError sub_GlueError:List Value}{sn_GlueError:List Str}{ab_GlueError:Bool}{col_GlueError:Option Bool}{k0_GlueError k1_GlueError k2_GlueError k3_GlueError k5_GlueError:Option Value} (lC_GlueError:K.lookup C_GlueError=some (excClassObj "GlueError" q_GlueError C_GlueError N_GlueError bs_GlueError [.type "ValueError",.type "Exception",.type "BaseException",.type "object"] true sn_GlueError sub_GlueError ab_GlueError col_GlueError none k0_GlueError k1_GlueError k2_GlueError k3_GlueError k5_GlueError "ValueError.__new__")) (xq_GlueError:PySem.W.excIn K C_GlueError [.type "ValueError",.type "Exception",.type "BaseException",.type "object"] "ValueError.__new__"=true)
  {C_TooMany:Addr} (aC_TooMany:PySem.W.nsIn K mainGlobals "TooMany"=some (some (.ref C_TooMany))) {q_TooMany:Str}{N_TooMany:Addr}{bs_TooMany sub_TooMany:List Value}{sn_TooMany:List Str}{ab_TooMany:Bool}{col_TooMany:Option Bool}{k0_TooMany k1_TooMany k2_TooMany k3_TooMany k5_TooMany:Option Value} (lC_TooMany:K.lookup C_TooMany=some (excClassObj "TooMany" q_TooMany C_TooMany N_TooMany bs_TooMany (.ref C_GlueError::[.type "ValueError",.type "Exception",.type "BaseException",.type "object"]) true sn_TooMany sub_TooMany ab_TooMany col_TooMany none k0_TooMany k1_TooMany k2_TooMany k3_TooMany k5_TooMany "ValueError.__new__")) (ga_TooMany:PySem.W.findIn K (.ref C_TooMany) "__getattribute__"=some (some (.builtin "BaseException.__getattribute__"))) (gh_TooMany:PySem.W.findIn K (.ref C_TooMany) "__getattr__"=some none) (sa_TooMany:PySem.W.findIn K (.ref C_TooMany) "__setattr__"=some (some (.builtin "object.__setattr__"))) (cl_TooMany:PySem.W.findIn K (.ref C_TooMany) "__class__"=some (some (.builtin "object.__class__"))) (kc_TooMany:PySem.W.keepIn K (.ref C_TooMany)=true)
  {fx_TooMany:Addr}{xoc_TooMany xkV_TooMany xdc_TooMany xpm_TooMany xcd_TooMany xct_TooMany:Value}{xod_TooMany xan_TooMany:Option Addr}{xsl_TooMany:Array (Option Value)} (xi_TooMany:PySem.W.findIn K (.ref C_TooMany) "__init__"=some (some (.ref fx_TooMany))) (xt_TooMany:PySem.W.typeIn K (.ref fx_TooMany)=some (.type "function")) (xl_TooMany:K.lookup fx_TooMany=some ⟨xoc_TooMany,xod_TooMany,.func (PySem.W.fnOf "__init__" "TooMany.__init__" (cu cP) (bE cP) (ao cP) .none xkV_TooMany xdc_TooMany xpm_TooMany xan_TooMany xcd_TooMany xct_TooMany),xsl_TooMany⟩) (xc0_TooMany:PySem.W.codeIn K xcd_TooMany "TooMany.__init__"=true) (xk_TooMany:PySem.W.keepIn K (.ref fx_TooMany)=true) (xn_TooMany:PySem.W.findIn K (.ref C_TooMany) "most"=some none)
  {C_NoPiece:Addr} (aC_NoPiece:PySem.W.nsIn K mainGlobals "NoPiece"=some (some (.ref C_NoPiece))) {q_NoPiece:Str}{N_NoPiece:Addr}{bs_NoPiece sub_NoPiece:List Value}{sn_NoPiece:List Str}{ab_NoPiece:Bool}{col_NoPiece:Option Bool}{k0_NoPiece k1_NoPiece k2_NoPiece k3_NoPiece k5_NoPiece:Option Value} (lC_NoPiece:K.lookup C_NoPiece=some (excClassObj "NoPiece" q_NoPiece C_NoPiece N_NoPiece bs_NoPiece (.ref C_GlueError::[.type "ValueError",.type "Exception",.type "BaseException",.type "object"]) true sn_NoPiece sub_NoPiece ab_NoPiece col_NoPiece none k0_NoPiece k1_NoPiece k2_NoPiece k3_NoPiece k5_NoPiece "ValueError.__new__")) (ga_NoPiece:PySem.W.findIn K (.ref C_NoPiece) "__getattribute__"=some (some (.builtin "BaseException.__getattribute__"))) (gh_NoPiece:PySem.W.findIn K (.ref C_NoPiece) "__getattr__"=some none) (sa_NoPiece:PySem.W.findIn K (.ref C_NoPiece) "__setattr__"=some (some (.builtin "object.__setattr__"))) (cl_NoPiece:PySem.W.findIn K (.ref C_NoPiece) "__class__"=some (some (.builtin "object.__class__"))) (kc_NoPiece:PySem.W.keepIn K (.ref C_NoPiece)=true)
  {fx_NoPiece:Addr}{xoc_NoPiece xkV_NoPiece xdc_NoPiece xpm_NoPiece xcd_NoPiece xct_NoPiece:Value}{xod_NoPiece xan_NoPiece:Option Addr}{xsl_NoPiece:Array (Option Value)} (xi_NoPiece:PySem.W.findIn K (.ref C_NoPiece) "__init__"=some (some (.ref fx_NoPiece))) (xt_NoPiece:PySem.W.typeIn K (.ref fx_NoPiece)=some (.type "function")) (xl_NoPiece:K.lookup fx_NoPiece=some ⟨xoc_NoPiece,xod_NoPiece,.func (PySem.W.fnOf "__init__" "NoPiece.__init__" (cu cQ) (bE cQ) (ao cQ) .none xkV_NoPiece xdc_NoPiece xpm_NoPiece xan_NoPiece xcd_NoPiece xct_NoPiece),xsl_NoPiece⟩) (xc0_NoPiece:PySem.W.codeIn K xcd_NoPiece "NoPiece.__init__"=true) (xk_NoPiece:PySem.W.keepIn K (.ref fx_NoPiece)=true) (xn_NoPiece:PySem.W.findIn K (.ref C_NoPiece) "at"=some none)
  (d1:fY K "is_row" nI)
  (d2:fY K "is_number" ii)
  (d3:fY K "first_case" f7)
  (d4:fY K "free_to_give" eP)
  (d5:fY K "free_to_take" eQ)
  (d6:fY K "first_of_chain" dB)
  (d7:fY K "fixed_laps" f9)
  {f8:Addr}{oc8 kV8 dc8 pm8 cd8 ct8:Value}{od8 an8 dd8:Option Addr}{sl8 st8:Array (Option Value)}{dT8:Addr}{n8:Nat}{u8_0 u8_1:Tok} (a8:PySem.W.nsIn K mainGlobals "is_text"=some (some (.ref f8))) (l8:K.lookup f8=some ⟨oc8,od8,.func (PySem.W.fnOf "is_text" "is_text" (cu eX) (bE eX) (ao eX) (.ref dT8) kV8 dc8 pm8 an8 cd8 ct8),sl8⟩) (c8:PySem.W.codeIn K cd8 "is_text"=true) (k8:PySem.W.keepIn K (.ref f8)=true) (t8:K.lookup dT8=some ⟨.type "tuple",dd8,.seq [.int 0 u8_0,.int 4000 u8_1].toArray n8,st8⟩)
  (d9:fY K "first_place" fk)
  (d10:fY K "lap" zV)
  {f11:Addr}{oc11 kV11 dc11 pm11 cd11 ct11:Value}{od11 an11:Option Addr}{sl11:Array (Option Value)} (a11:PySem.W.findIn K (.ref C_Family) "many"=some (some (.ref f11))) (i11:PySem.W.isFn K (.ref f11)=true) (l11:K.lookup f11=some ⟨oc11,od11,.func (PySem.W.fnOf "many" "Family.many" (cu cA) (bE cA) (ao cA) .none kV11 dc11 pm11 an11 cd11 ct11),sl11⟩) (c11:PySem.W.codeIn K cd11 "Family.many"=true) (k11:PySem.W.keepIn K (.ref f11)=true)
  (d12:fY K "_law_mixed" ij)
  (d13:fY K "_law_next" jn)
  (d14:fY K "_law_words" il)
  (d15:fY K "_law_lap" kM)
  (d16:fY K "_law_enough" gf)
  (d17:fY K "are_numbers" fi)
  (d18:fY K "open_for" jj)
  (d19:fY K "told_by_part" eR)
  (d20:fY K "all_laps" jk)
  (d21:fY K "check_pieces" eS)
  (d22:fY K "stands_within" ef)
  (d23:fY K "_law_deck" jm)
  (d24:fY K "_law_signs" ik)
  (d25:fY K "_law_laps" jo)
  (d26:fY K "_law_prices" gg)
  (d27:fY K "_law_bent" jp)
  (d28:fY K "are_prices" fZ)
  (d29:fY K "is_kept" kL)
  (d30:fY K "left_row" jl)
  (d31:fY K "_law_pieces" gc)
  (d32:fY K "told_by_end" fj)
  {f33:Addr}{oc33 kV33 dc33 pm33 cd33 ct33:Value}{od33 an33:Option Addr}{sl33:Array (Option Value)} (a33:PySem.W.findIn K (.ref C_Family) "__init__"=some (some (.ref f33))) (i33:PySem.W.isFn K (.ref f33)=true) (l33:K.lookup f33=some ⟨oc33,od33,.func (PySem.W.fnOf "__init__" "Family.__init__" (cu cz) (bE cz) (ao cz) .none kV33 dc33 pm33 an33 cd33 ct33),sl33⟩) (c33:PySem.W.codeIn K cd33 "Family.__init__"=true) (k33:PySem.W.keepIn K (.ref f33)=true)
  (d34:fY K "told_by" kK)
  (d35:fY K "case_bound" gb)
  (d36:fY K "law" xA)
  (z1:PySem.W.nsIn K mainGlobals "all"=some none)
  (z2:PySem.W.nsIn K mainGlobals "any"=some none)
  (z3:PySem.W.nsIn K mainGlobals "bool"=some none)
  (z4:PySem.W.nsIn K mainGlobals "enumerate"=some none)
  (z5:PySem.W.nsIn K mainGlobals "int"=some none)
  (z6:PySem.W.nsIn K mainGlobals "isinstance"=some none)
  (z7:PySem.W.nsIn K mainGlobals "len"=some none)
  (z8:PySem.W.nsIn K mainGlobals "list"=some none)
  (z9:PySem.W.nsIn K mainGlobals "max"=some none)
  (z10:PySem.W.nsIn K mainGlobals "min"=some none)
  (z11:PySem.W.nsIn K mainGlobals "range"=some none)
  (z12:PySem.W.nsIn K mainGlobals "reversed"=some none)
  (z13:PySem.W.nsIn K mainGlobals "str"=some none)
  (z14:PySem.W.nsIn K mainGlobals "sum"=some none)
  (z15:PySem.W.nsIn K mainGlobals "tuple"=some none)
  {ty1:Tok} (y1:PySem.W.nsIn K mainGlobals "MOST_CASE_WORDS"=some (some (.int 7 ty1)))
  {ty2:Tok} (y2:PySem.W.nsIn K mainGlobals "MOST_PIECES"=some (some (.int 40 ty2)))
  {ty3:Tok} (y3:PySem.W.nsIn K mainGlobals "MOST_SIGNS"=some (some (.int 60 ty3))) :
  ∃fd:FuncData,(∀(s:Shared) (v:Value),BindsTo s fd ⟨[v],[]⟩ [("_law_script",v)])/\∀base:Heap,K.In base->base.Ns mainGlobals mg->mf l.prog w K mg base CX0 7 fa fd ["_law_script"] (sN K):=by
 have eC_Family:=jU aC_Family
 have TC:TxC K:=⟨by rw [eC_Family];exact ⟨pg_Family,hd_Family,po_Family,sa_Family⟩,by show PySem.W.findIn K (.ref (bC K "Family")) "pieces"=some none;rw [eC_Family];exact n_Family_pieces,by show PySem.W.findIn K (.ref (bC K "Family")) "kept"=some none;rw [eC_Family];exact n_Family_kept,by show PySem.W.findIn K (.ref (bC K "Family")) "words"=some none;rw [eC_Family];exact n_Family_words,by show PySem.W.findIn K (.ref (bC K "Family")) "left"=some none;rw [eC_Family];exact n_Family_left,by show PySem.W.findIn K (.ref (bC K "Family")) "laps"=some none;rw [eC_Family];exact n_Family_laps,by show PySem.W.findIn K (.ref (bC K "Family")) "total"=some none;rw [eC_Family];exact n_Family_total⟩
 have eC_GlueError:=jU aC_GlueError
 have tl_:=zO xq_GlueError ⟨_,_,_,_,_,_,_,_,_,_,_,_,_,lC_GlueError⟩
 have eC_TooMany:=jU aC_TooMany
 have xc_TooMany:XC K C_TooMany C_GlueError:=⟨⟨_,_,_,_,_,_,_,_,_,_,_,_,_,lC_TooMany⟩,ga_TooMany,gh_TooMany,sa_TooMany,cl_TooMany⟩
 have eC_NoPiece:=jU aC_NoPiece
 have xc_NoPiece:XC K C_NoPiece C_GlueError:=⟨⟨_,_,_,_,_,_,_,_,_,_,_,_,_,lC_NoPiece⟩,ga_NoPiece,gh_NoPiece,sa_NoPiece,cl_NoPiece⟩
 have TX:TxX K mg:=⟨⟨by rw [XCl,eC_GlueError];exact ⟨_,_,_,lC_GlueError,rfl⟩,fun c hc=>by
  simp only [xcs,List.mem_cons,List.not_mem_nil,or_false] at hc
  rcases hc with rfl | rfl
  .rw [XCl,eC_TooMany];exact ⟨_,_,_,lC_TooMany,rfl⟩
  .rw [XCl,eC_NoPiece];exact ⟨_,_,_,lC_NoPiece,rfl⟩,fun c hc=>by
  simp only [xcs,List.mem_cons,List.not_mem_nil,or_false] at hc
  rcases hc with rfl | rfl
  .rw [eC_TooMany,eC_GlueError];exact xc_TooMany
  .rw [eC_NoPiece,eC_GlueError];exact xc_NoPiece⟩,fun c g hc=>by
  simp only [D7,List.mem_cons,List.not_mem_nil,or_false,Prod.mk.injEq] at hc
  rcases hc with ⟨rfl,rfl⟩ | ⟨rfl,rfl⟩
  .rw [eC_TooMany];exact xn_TooMany
  .rw [eC_NoPiece];exact xn_NoPiece,by rw [eC_TooMany];exact PySem.W.mg_of X G aC_TooMany,by rw [eC_NoPiece];exact PySem.W.mg_of X G aC_NoPiece,by rw [eC_GlueError];exact PySem.W.mg_of X G aC_GlueError,by rw [eC_TooMany];exact ⟨_,_,_,_,_,_,_,_,_,_,_,_,_,_,_,_,_,lC_TooMany,rfl⟩,by rw [eC_NoPiece];exact ⟨_,_,_,_,_,_,_,_,_,_,_,_,_,_,_,_,_,lC_NoPiece,rfl⟩,by rw [eC_GlueError];exact ⟨_,_,_,_,_,_,_,_,_,_,_,_,_,_,_,_,_,lC_GlueError,rfl⟩⟩
 have D_is_row:=bG d1 X G
 have D_is_number:=bG d2 X G
 have D_first_case:=bG d3 X G
 have D_free_to_give:=bG d4 X G
 have D_free_to_take:=bG d5 X G
 have D_first_of_chain:=bG d6 X G
 have D_fixed_laps:=bG d7 X G
 have D_is_text:rH K mg "is_text" eX [.int 0,.int 4000]:=⟨⟨f8,dT8,oc8,od8,an8,dd8,kV8,dc8,pm8,cd8,ct8,sl8,st8,[.int 0 u8_0,.int 4000 u8_1],n8,l8,c8,k8,PySem.W.mg_of X G a8,t8,(.cons ⟨_,rfl⟩ (.cons ⟨_,rfl⟩ .nil))⟩⟩
 have D_first_place:=bG d9 X G
 have D_lap:=bG d10 X G
 have D_Family_many:rK K (bC K "Family") "many" "Family.many" cA:=by rw [eC_Family];exact ⟨⟨f11,_,oP (st:=cA) l11 c11 k11,⟨a11,i11,k11⟩⟩⟩
 have D_law_mixed:=bG d12 X G
 have D_law_next:=bG d13 X G
 have D_law_words:=bG d14 X G
 have D_law_lap:=bG d15 X G
 have D_law_enough:=bG d16 X G
 have D_are_numbers:=bG d17 X G
 have D_open_for:=bG d18 X G
 have D_told_by_part:=bG d19 X G
 have D_all_laps:=bG d20 X G
 have D_check_pieces:=bG d21 X G
 have D_stands_within:=bG d22 X G
 have D_law_deck:=bG d23 X G
 have D_law_signs:=bG d24 X G
 have D_law_laps:=bG d25 X G
 have D_law_prices:=bG d26 X G
 have D_law_bent:=bG d27 X G
 have D_are_prices:=bG d28 X G
 have D_is_kept:=bG d29 X G
 have D_left_row:=bG d30 X G
 have D_law_pieces:=bG d31 X G
 have D_told_by_end:=bG d32 X G
 have D_Family_init:rL K mg (bC K "Family") "Family" "Family.__init__" cz:=by rw [eC_Family];exact ⟨⟨f33,_,oP (st:=cz) l33 c33 k33,⟨mk_Family,a33,i33,kc_Family⟩,PySem.W.mg_of X G aC_Family⟩⟩
 have D_told_by:=bG d34 X G
 have D_case_bound:=bG d35 X G
 have D_law:=bG d36 X G
 have T:Txt mg:=⟨PySem.W.mg_none_of X G z1,PySem.W.mg_none_of X G z2,PySem.W.mg_none_of X G z3,PySem.W.mg_none_of X G z4,PySem.W.mg_none_of X G z5,PySem.W.mg_none_of X G z6,PySem.W.mg_none_of X G z7,PySem.W.mg_none_of X G z8,PySem.W.mg_none_of X G z9,PySem.W.mg_none_of X G z10,PySem.W.mg_none_of X G z11,PySem.W.mg_none_of X G z12,PySem.W.mg_none_of X G z13,PySem.W.mg_none_of X G z14,PySem.W.mg_none_of X G z15,⟨_,PySem.W.mg_of X G y1⟩,⟨_,PySem.W.mg_of X G y2⟩,⟨_,PySem.W.mg_of X G y3⟩⟩
 refine Bk (st:=xA) hfa D_law (fun _ _ _ _ _ _ s v=>.of_eq rfl) fun base=>?_
 have C_TooMany_init:Dw l.prog w K mg base 1 (bC K "TooMany") "TooMany" "most":=by
  rw [eC_TooMany]
  exact vH (oP (st:=cP) xl_TooMany xc0_TooMany xk_TooMany) kQ rfl (fun _ _ _ _ _ _ us hl=>match us,hl with | [_,_],_=>rfl) (fun cdv A outer s H E=>ar (rV K rfl (pv 0) (pv 1) rfl)) ⟨xc_TooMany,tl_,xi_TooMany,xt_TooMany,kc_TooMany⟩ xn_TooMany (PySem.W.mg_of X G aC_TooMany)
 have C_NoPiece_init:Dw l.prog w K mg base 1 (bC K "NoPiece") "NoPiece" "at":=by
  rw [eC_NoPiece]
  exact vH (oP (st:=cQ) xl_NoPiece xc0_NoPiece xk_NoPiece) kR rfl (fun _ _ _ _ _ _ us hl=>match us,hl with | [_,_],_=>rfl) (fun cdv A outer s H E=>ar (rV K rfl (pv 0) (pv 1) rfl)) ⟨xc_NoPiece,tl_,xi_NoPiece,xt_NoPiece,kc_NoPiece⟩ xn_NoPiece (PySem.W.mg_of X G aC_NoPiece)
 have C_is_row:=wm (P:=l.prog) (w:=w) (base:=base) D_is_row T TC TX
 have C_is_number:=qe (P:=l.prog) (w:=w) (base:=base) D_is_number T TC TX
 have C_first_case:=n6 (P:=l.prog) (w:=w) (base:=base) D_first_case T TC TX
 have C_free_to_give:=ln (P:=l.prog) (w:=w) (base:=base) D_free_to_give T TC TX
 have C_free_to_take:=lp (P:=l.prog) (w:=w) (base:=base) D_free_to_take T TC TX
 have C_first_of_chain:=jt (P:=l.prog) (w:=w) (base:=base) D_first_of_chain T TC TX
 have C_fixed_laps:=n9 (P:=l.prog) (w:=w) (base:=base) D_fixed_laps T TC TX
 have C_is_text:=tS (P:=l.prog) (w:=w) (base:=base) D_is_text T TC TX
 have C_first_place:=l6 (P:=l.prog) (w:=w) (base:=base) D_first_place T TC TX
 have C_lap:=Cu (P:=l.prog) (w:=w) (base:=base) D_lap T TC TX
 have C_Family_many:=l9 (P:=l.prog) (w:=w) (base:=base) D_Family_many T TC TX
 have C_law_mixed:=qf (P:=l.prog) (w:=w) (base:=base) D_law_mixed T TC TX
 have C_law_next:=rl (P:=l.prog) (w:=w) (base:=base) D_law_next T TC TX
 have C_law_words:=qh (P:=l.prog) (w:=w) (base:=base) D_law_words T TC TX
 have C_law_lap:=tU (P:=l.prog) (w:=w) (base:=base) D_law_lap T TC TX
 have C_law_enough:=oi (P:=l.prog) (w:=w) (base:=base) D_law_enough T TC TX
 have C_are_numbers:=l4 (P:=l.prog) (w:=w) (base:=base) D_are_numbers T TC TX C_is_number C_is_row
 have C_open_for:=rf (P:=l.prog) (w:=w) (base:=base) D_open_for T TC TX C_first_of_chain C_free_to_take
 have C_told_by_part:=lr (P:=l.prog) (w:=w) (base:=base) D_told_by_part T TC TX C_free_to_give C_is_number
 have C_all_laps:=rh (P:=l.prog) (w:=w) (base:=base) D_all_laps T TC TX C_lap
 have C_check_pieces:=lv (P:=l.prog) (w:=w) (base:=base) D_check_pieces T TC TX C_is_text
 have C_stands_within:=jT (P:=l.prog) (w:=w) (base:=base) D_stands_within T TC TX C_first_place
 have C_law_deck:=rk (P:=l.prog) (w:=w) (base:=base) D_law_deck T TC TX C_law_mixed
 have C_law_signs:=qg (P:=l.prog) (w:=w) (base:=base) D_law_signs T TC TX C_law_next
 have C_law_laps:=rm (P:=l.prog) (w:=w) (base:=base) D_law_laps T TC TX C_law_lap
 have C_law_prices:=oj (P:=l.prog) (w:=w) (base:=base) D_law_prices T TC TX C_law_next
 have C_law_bent:=rn (P:=l.prog) (w:=w) (base:=base) D_law_bent T TC TX C_law_next
 have C_are_prices:=n5 (P:=l.prog) (w:=w) (base:=base) D_are_prices T TC TX C_are_numbers
 have C_is_kept:=tT (P:=l.prog) (w:=w) (base:=base) D_is_kept T TC TX C_stands_within
 have C_left_row:=rj (P:=l.prog) (w:=w) (base:=base) D_left_row T TC TX C_first_place C_stands_within
 have C_law_pieces:=oh (P:=l.prog) (w:=w) (base:=base) D_law_pieces T TC TX C_law_next C_law_signs
 have C_told_by_end:=l5 (P:=l.prog) (w:=w) (base:=base) D_told_by_end T TC TX C_Family_many C_are_prices C_fixed_laps C_free_to_give C_free_to_take C_open_for
 have C_Family_init:=l7 (P:=l.prog) (w:=w) (base:=base) D_Family_init T TC TX C_all_laps C_check_pieces C_is_kept C_left_row
 have C_told_by:=tR (P:=l.prog) (w:=w) (base:=base) D_told_by T TC TX C_is_row C_told_by_end C_told_by_part
 have C_case_bound:=oa (P:=l.prog) (w:=w) (base:=base) D_case_bound T TC TX C_Family_many C_first_case C_told_by
 exact (Cv (P:=l.prog) (w:=w) (base:=base) D_law T TC TX C_Family_init C_law_bent C_law_deck C_law_enough C_law_laps C_law_pieces C_law_prices C_law_words C_case_bound).imp fun _ _ _ _ h=>zm h
end K39

open PySem PySem.W PyProof.Rows
local macro_rules | `(tactic| walk_at "fn") => `(tactic| (refine' L2.Cd ?a ?l ?c ?k; (case a => k_is); (case l => k_is); (case c => k_is); (case k => k_is)))
set_option maxRecDepth 100000 in
set_option maxHeartbeats 0 in
theorem PySem.Challenge.cw_shortglue_k39_case_ends_holds : PySem.Challenge.rw_shortglue_k39_case_ends.Holds := by
  refine topHd ?_
  k_fill
  refine L2.Bl (l := PySem.Challenge.rw_shortglue_k39_case_ends) (k := 7) (x := "_law_script") rfl rfl ⟨rfl, by decide, by decide⟩ (fun w h Y => PySem.W.kIn_of Y) ?F
  case F =>
    intro w mg fa h KX G hmg
    refine' K39.Cw KX G hmg ?aC_Family ?pg_Family ?hd_Family ?po_Family ?sa_Family ?mk_Family ?kc_Family ?n_Family_pieces ?n_Family_kept ?n_Family_words ?n_Family_left ?n_Family_laps ?n_Family_total ?aC_GlueError ?lC_GlueError ?xq_GlueError ?aC_TooMany ?lC_TooMany ?ga_TooMany ?gh_TooMany ?sa_TooMany ?cl_TooMany ?kc_TooMany ?xi_TooMany ?xt_TooMany ?xl_TooMany ?xc0_TooMany ?xk_TooMany ?xn_TooMany ?aC_NoPiece ?lC_NoPiece ?ga_NoPiece ?gh_NoPiece ?sa_NoPiece ?cl_NoPiece ?kc_NoPiece ?xi_NoPiece ?xt_NoPiece ?xl_NoPiece ?xc0_NoPiece ?xk_NoPiece ?xn_NoPiece ?d1 ?d2 ?d3 ?d4 ?d5 ?d6 ?d7 ?a8 ?l8 ?c8 ?k8 ?t8 ?d9 ?d10 ?a11 ?i11 ?l11 ?c11 ?k11 ?d12 ?d13 ?d14 ?d15 ?d16 ?d17 ?d18 ?d19 ?d20 ?d21 ?d22 ?d23 ?d24 ?d25 ?d26 ?d27 ?d28 ?d29 ?d30 ?d31 ?d32 ?a33 ?i33 ?l33 ?c33 ?k33 ?d34 ?d35 ?d36 ?z1 ?z2 ?z3 ?z4 ?z5 ?z6 ?z7 ?z8 ?z9 ?z10 ?z11 ?z12 ?z13 ?z14 ?z15 ?y1 ?y2 ?y3
    (case aC_Family => k_is)
    (case pg_Family => k_is)
    (case hd_Family => k_is)
    (case po_Family => k_is)
    (case sa_Family => k_is)
    (case mk_Family => k_is)
    (case kc_Family => k_is)
    (case n_Family_pieces => k_is)
    (case n_Family_kept => k_is)
    (case n_Family_words => k_is)
    (case n_Family_left => k_is)
    (case n_Family_laps => k_is)
    (case n_Family_total => k_is)
    (case aC_GlueError => k_is)
    (case lC_GlueError => k_is)
    (case xq_GlueError => k_exc)
    (case aC_TooMany => k_is)
    (case lC_TooMany => k_is)
    (case ga_TooMany => k_is)
    (case gh_TooMany => k_is)
    (case sa_TooMany => k_is)
    (case cl_TooMany => k_is)
    (case kc_TooMany => k_is)
    (case xi_TooMany => k_is)
    (case xt_TooMany => k_is)
    (case xl_TooMany => k_is)
    (case xc0_TooMany => k_is)
    (case xk_TooMany => k_is)
    (case xn_TooMany => k_is)
    (case aC_NoPiece => k_is)
    (case lC_NoPiece => k_is)
    (case ga_NoPiece => k_is)
    (case gh_NoPiece => k_is)
    (case sa_NoPiece => k_is)
    (case cl_NoPiece => k_is)
    (case kc_NoPiece => k_is)
    (case xi_NoPiece => k_is)
    (case xt_NoPiece => k_is)
    (case xl_NoPiece => k_is)
    (case xc0_NoPiece => k_is)
    (case xk_NoPiece => k_is)
    (case xn_NoPiece => k_is)
    (case d1 => walk_at "fn")
    (case d2 => walk_at "fn")
    (case d3 => walk_at "fn")
    (case d4 => walk_at "fn")
    (case d5 => walk_at "fn")
    (case d6 => walk_at "fn")
    (case d7 => walk_at "fn")
    (case a8 => k_is)
    (case l8 => k_is)
    (case c8 => k_is)
    (case k8 => k_is)
    (case t8 => k_is)
    (case d9 => walk_at "fn")
    (case d10 => walk_at "fn")
    (case a11 => k_is)
    (case i11 => k_is)
    (case l11 => k_is)
    (case c11 => k_is)
    (case k11 => k_is)
    (case d12 => walk_at "fn")
    (case d13 => walk_at "fn")
    (case d14 => walk_at "fn")
    (case d15 => walk_at "fn")
    (case d16 => walk_at "fn")
    (case d17 => walk_at "fn")
    (case d18 => walk_at "fn")
    (case d19 => walk_at "fn")
    (case d20 => walk_at "fn")
    (case d21 => walk_at "fn")
    (case d22 => walk_at "fn")
    (case d23 => walk_at "fn")
    (case d24 => walk_at "fn")
    (case d25 => walk_at "fn")
    (case d26 => walk_at "fn")
    (case d27 => walk_at "fn")
    (case d28 => walk_at "fn")
    (case d29 => walk_at "fn")
    (case d30 => walk_at "fn")
    (case d31 => walk_at "fn")
    (case d32 => walk_at "fn")
    (case a33 => k_is)
    (case i33 => k_is)
    (case l33 => k_is)
    (case c33 => k_is)
    (case k33 => k_is)
    (case d34 => walk_at "fn")
    (case d35 => walk_at "fn")
    (case d36 => walk_at "fn")
    (case z1 => k_is)
    (case z2 => k_is)
    (case z3 => k_is)
    (case z4 => k_is)
    (case z5 => k_is)
    (case z6 => k_is)
    (case z7 => k_is)
    (case z8 => k_is)
    (case z9 => k_is)
    (case z10 => k_is)
    (case z11 => k_is)
    (case z12 => k_is)
    (case z13 => k_is)
    (case z14 => k_is)
    (case z15 => k_is)
    (case y1 => k_is)
    (case y2 => k_is)
    (case y3 => k_is)
