import PyProof.Rows.All
import Wide.All
import OpenK.AllK
import Wide.FinOn
import Lean
import PyProof.EqAt
import PyProof.EqKinds
import PyProof.TupleCall
import KE.KSortTup
import PyProof.FString
import PyProof.StrBlock
import KE.KRevSl
import PyProof.StrLawsReplace
import PyProof.StrCalls6
import PyProof.MinMaxWalk
import PyProof.WalkInts
import PyProof.NeKinds
import KE.KEqDict
import PySem.Challenge.RW_shortglue_k14_family_refused
set_option Elab.async false
set_option linter.all false
set_option maxRecDepth 100000
set_option maxHeartbeats 4000000
noncomputable section
namespace L2
open PySem PySem.W
def jB (tb:String->Option Builtin) (p:Program) (w:World) (n₀:Nat) (ann:Option Value):Nat->SharedT->Thread->Option SharedT
 | 0,_,_=>none
 | n + 1,s,t=>match through t with
  | true=>some s
  | false=>match stepOk n₀ ann t with
   | false=>none
   | true=>match stepT (denote tb) p w s t with
    | some (s',t')=>jB tb p w n₀ ann n s' t'
    | none=>none
theorem kh {tb:String->Option Builtin}{p:Program}{w:World}{n₀:Nat}{ann:Option Value}:∀{n:Nat}{s s':SharedT}{t:Thread},jB tb p w n₀ ann n s t=some s'->topRun tb p w n₀ ann n s.abs t=some s'.abs
 | 0,_,_,_,h=>by cases h
 | n + 1,s,s',t,h=>by
  unfold jB at h
  unfold topRun
  cases he:through t with
  | true=>rw [he] at h;cases h;rfl
  | false =>
   rw [he] at h
   cases hk:stepOk n₀ ann t with
   | false=>rw [hk] at h;cases h
   | true =>
    rw [hk] at h
    cases hs:stepT (denote tb) p w s t with
    | none=>rw [hs] at h;cases h
    | some r=>obtain ⟨s₂,t₂⟩:=r;rw [hs] at h;rw [stepT_spec hs];exact kh h
def sD:List Obj->Nat->BT->BT
 | [],_,t=>t
 | o::r,i,t=>sD r (i + 1) (t.ins i o)
def tM (P:Params):BT:=sD (boot_heap P).objs.toList 0 .nil
theorem qP:∀P,absHeap (tM P) (boot_heap P).objs.size (boot_heap P).life=boot_heap P:=fun P=>by kernel_rfl
theorem vZ {p q:Program}{loose:List Str}{Xt:Shared->Bool}{α:Type}{Yf:Shared->α}{Ya:World->α}{N:Nat}{g0:Bool}{m₀:Nat}{ann:Option Value}
  (e:opening p=plainProg p.main.scope.names) (hN:Nat.ble 600 N=true) (f:∀s,fenceModules? p s=some s)
  (size:∀w:World,((boot_heap w.params).isNs mainGlobals && (Array.mk []:Array GenState).size == 0,(boot_heap w.params).objs.size,(boot_heap w.params).nsMap mainGlobals "__annotations__")=(true,m₀,ann))
  (run:∀(w:World) (os:OsState),(jB treeTable p w m₀ ann N ⟨tM w.params,m₀,(boot_heap w.params).life,Array.mk [],boot_drawn,boot_toks,os⟩ (topStub p)).map (fun sT=>((staticsOk (importedModules p.main.body) (boot_heap w.params) sT.abs.heap && namesBound p sT.abs.heap && gensDone sT.abs && laidKept (boot_heap w.params) sT.abs.heap),openSeen q loose (importedModules p.main.body) Xt g0 sT.abs,Yf sT.abs))=some (true,openGood q loose,Ya w)):LeftO p q loose Xt Yf Ya N g0:=fun w=>by
 obtain ⟨⟨h,gs,d,k,os⟩,e,e'⟩:=Option.map_eq_some_iff.mp (boot_open e hN f w)
 obtain ⟨rfl,rfl,rfl,rfl⟩:h=boot_heap w.params/\gs=Array.mk []/\d=boot_drawn/\k=boot_toks:=by simpa using e'
 obtain ⟨z1,z2,z3⟩:_/\_/\_:=by simpa only [Prod.mk.injEq] using size w
 obtain ⟨sT,r,l⟩:=Option.map_eq_some_iff.mp (run w os)
 obtain ⟨l1,l2,l3⟩:_/\_/\_:=by simpa only [Prod.mk.injEq] using l
 have r:=kh r
 rw [show SharedT.abs ⟨tM w.params,m₀,(boot_heap w.params).life,Array.mk [],boot_drawn,boot_toks,os⟩=⟨boot_heap w.params,Array.mk [],boot_drawn,boot_toks,os⟩ by
  unfold SharedT.abs;dsimp only;rw [<- z2,qP]] at r
 have t:topFrom treeTable p w N ⟨boot_heap w.params,Array.mk [],boot_drawn,boot_toks,os⟩=some sT.abs:=by
  unfold topFrom
  dsimp only
  rw [z1,z2,z3,r]
  show (match staticsOk (importedModules p.main.body) (boot_heap w.params) sT.abs.heap && namesBound p sT.abs.heap && gensDone sT.abs && laidKept (boot_heap w.params) sT.abs.heap with | true=>_ | false=>_)=_
  rw [l1]
 unfold openEnds
 rw [e]
 show (topFrom treeTable p w N _).map _=_
 rw [t]
 exact congrArg some (Prod.ext l2 l3)
end L2
section
open PySem PySem.W PyProof.Rows
def tN:Program:=PySem.W.view PySem.Challenge.pw_shortglue_k14_family_refused [1,2,3,4,5,6,7,8,9,11,12,14,15,16,18,20,21,22,23,24,26,27,28,29,30,31,32,33,34,35,36,37,38]
local macro_rules | `(tactic| o_head $H)=>`(tactic| (refine holds_open (q:=tN) (loose:=[PySem.Str.ofString "is_text"]) (Xt:=fun s=>xlAt tN [] s && recOk (RowW.records (OpenRow.toRowW (OpenLaw.row PySem.Challenge.rw_shortglue_k14_family_refused))) s) (XP:=XL tN []) (Yf:=Hook.obs $H) (Ya:=Hook.val $H) (YP:=Hook.says $H) (N:=6214) ?hl (Hook.of $H) (Hook.keeps $H) (fun s e=>xl_of s (Bool.and_eq_true_iff.mp e).1) XL.keeps (by rfl) (by rfl) (by rfl) (fun s e=>recFacts_of (Bool.and_eq_true_iff.mp e).2) (by rfl) (by first | assumption | decide +kernel) (by decide +kernel) ⟨rfl,rfl,rfl,rfl,rfl,by decide +kernel⟩ ?hw ?hc;(case hl=>(refine L2.vZ (m₀:=11) (ann:=some (.ref 6)) (by kernel_rfl) (by rfl) (fun s=>by kernel_rfl) (fun w=>by kernel_rfl) ?_;intro w os;kernel_rfl))))
set_option maxRecDepth 100000 in
set_option maxHeartbeats 0 in
open_top topHd for PySem.Challenge.rw_shortglue_k14_family_refused
end
-- CHANGE: your row's module here,as the last of these rows
namespace L2
open PySem PySem.Spec PyProof.Rows
abbrev Key:=Sum Int Str
def m7:Key->Value->Bool
 | .inl k,v=>Value.isInt k v
 | .inr x,v=>Value.isStrOf x v
def Aj (w:World):Key->Int
 | .inl k=>hashInt k
 | .inr x=>hashStr w x
theorem bo:∀{k:Key}{v:Value},m7 k v=true->(∃i t,k=Sum.inl i/\v=Value.int i t)\/(∃x t,k=Sum.inr x/\v=Value.str x t)
 | .inl i,v,h=>by
  obtain ⟨t,e⟩:=Value.isInt_shape (k:=i) (v:=v) h
  exact .inl ⟨i,t,rfl,e⟩
 | .inr x,v,h=>by
  obtain ⟨t,e⟩:=Value.isStrOf_shape (x:=x) (v:=v) h
  exact .inr ⟨x,t,rfl,e⟩
theorem n6 (i:Int) (t:Tok):m7 (.inl i) (.int i t)=true:=by simp [m7,Value.isInt]
theorem n8 (x:Str) (t:Tok):m7 (.inr x) (.str x t)=true:=by simp [m7,Value.isStrOf]
theorem v3 (a b:Int):decide ((Sum.inl a:Key)=Sum.inl b)=(a == b):=by
 by_cases e:a=b
 .subst e;simp
 .have h:¬ (Sum.inl a:Key)=Sum.inl b:=fun q=>e (Sum.inl.inj q)
  rw [decide_eq_false h]
  exact (beq_eq_false_iff_ne.mpr e).symm
theorem v4 (a b:Str):decide ((Sum.inr a:Key)=Sum.inr b)=decide (a=b):=by
 by_cases e:a=b
 .subst e;simp
 .have h:¬ (Sum.inr a:Key)=Sum.inr b:=fun q=>e (Sum.inr.inj q)
  rw [decide_eq_false h,decide_eq_false e]
theorem v9 (a:Int) (b:Str):decide ((Sum.inl a:Key)=Sum.inr b)=false:=decide_eq_false (fun q=>nomatch q)
theorem wb (a:Str) (b:Int):decide ((Sum.inr a:Key)=Sum.inl b)=false:=decide_eq_false (fun q=>nomatch q)
def cp (prog:Program) (w:World):PySem.KeyKind prog w Key where
 is:=m7
 hash:=Aj w
 inj:=fun v a b ha hb=>by
  rcases bo ha with ⟨i,t,rfl,rfl⟩ | ⟨x,t,rfl,rfl⟩
  .rcases bo hb with ⟨j,u,rfl,e⟩ | ⟨y,u,rfl,e⟩
   .injection e with e1 _;rw [e1]
   .exact nomatch e
  .rcases bo hb with ⟨j,u,rfl,e⟩ | ⟨y,u,rfl,e⟩
   .exact nomatch e
   .injection e with e1 _;rw [e1]
 byValue:=fun k v h=>by
  rcases bo h with ⟨i,t,rfl,rfl⟩ | ⟨x,t,rfl,rfl⟩ <;> rfl
 pyHash:=fun hv h=>by
  rcases bo hv with ⟨i,t,rfl,rfl⟩ | ⟨x,t,rfl,rfl⟩
  .exact wpAny_pyHash_int h
  .exact wpAny_pyHash_str h
 eqBool:=fun hu hv h=>by
  rcases bo hu with ⟨i,t,rfl,rfl⟩ | ⟨x,t,rfl,rfl⟩
  .rcases bo hv with ⟨j,u,rfl,rfl⟩ | ⟨y,u,rfl,rfl⟩
   .rw [v3] at h;exact wpAny_eqBool_int h
   .rw [v9] at h;exact SeqAt.EqAt.int_str i t y u _ _ _ _ h
  .rcases bo hv with ⟨j,u,rfl,rfl⟩ | ⟨y,u,rfl,rfl⟩
   .rw [wb] at h;exact SeqAt.EqAt.str_int x t j u _ _ _ _ h
   .rw [v4] at h;exact wpAny_eqBool_str h
 «strs»:=fun k x t v h=>by
  rcases bo h with ⟨i,u,rfl,e⟩ | ⟨y,u,rfl,e⟩
  .exact nomatch e
  .injection e with e1 _
   subst e1
   cases v <;> rfl
theorem lv (prog:Program) (w:World) (i:Int) (t:Tok):(cp prog w).is (.inl i) (.int i t)=true:=n6 i t
theorem lw (prog:Program) (w:World) (x:Str) (t:Tok):(cp prog w).is (.inr x) (.str x t)=true:=n8 x t
inductive V where
 | non | bl (b:Bool) | int (i:Int) | str (x:Str) | byt (b:Array UInt8) | flt (b:UInt64) | ref (a:Addr) | ty (n:String)
 deriving DecidableEq
def bR:V->Value->Prop
 | .non,u=>u=Value.none
 | .bl b,u=>u=Value.bool b
 | .int i,u=>∃t,u=Value.int i t
 | .str x,u=>∃t,u=Value.str x t
 | .byt b,u=>∃t,u=Value.bytes b t
 | .flt b,u=>∃t,u=Value.float b t
 | .ref a,u=>u=Value.ref a
 | .ty n,u=>u=Value.type n
abbrev bp:List V->List Value->Prop:=Paired bR
theorem bp.length {xs:List V}{us:List Value} (r:bp xs us):xs.length=us.length:=Paired.length r
theorem bp.get:∀{xs:List V}{us:List Value}{i:Nat}{x:V},bp xs us->xs[i]?=some x->∃u,us[i]?=some u/\bR x u
 | _,_,_,_,.nil,e=>by simp at e
 | _,_,0,_,.cons r _,e=>by simp at e;subst e;exact ⟨_,rfl,r⟩
 | _,_,i + 1,x,.cons _ t,e=>by
  obtain ⟨u,h1,h2⟩:=bp.get (i:=i) (x:=x) t (by simpa using e)
  exact ⟨u,by simpa using h1,h2⟩
theorem bp.set {x:V}{u:Value} (r:bR x u):∀{xs:List V}{us:List Value} (i:Nat),bp xs us->bp (xs.set i x) (us.set i u)
 | _,_,_,.nil=>.nil
 | _,_,0,.cons _ t=>.cons r t
 | _,_,i + 1,.cons q t=>.cons q (bp.set r i t)
theorem bp.append:∀{xs ys:List V}{us ws:List Value},bp xs us->bp ys ws->bp (xs++ys) (us++ws)
 | _,_,_,_,.nil,s=>s
 | _,_,_,_,.cons r t,s=>.cons r (bp.append t s)
theorem bp.take:∀{xs:List V}{us:List Value} (n:Nat),bp xs us->bp (xs.take n) (us.take n)
 | _,_,0,_=>.nil
 | _,_,_ + 1,.nil=>.nil
 | _,_,n + 1,.cons r t=>.cons r (bp.take n t)
theorem bp.drop:∀{xs:List V}{us:List Value} (n:Nat),bp xs us->bp (xs.drop n) (us.drop n)
 | _,_,0,r=>r
 | _,_,_ + 1,.nil=>.nil
 | _,_,n + 1,.cons _ t=>bp.drop n t
def qL:Option V->Option Value->Prop
 | some v,some u=>bR v u
 | none,none=>True
 | _,_=>False
def KV {κ:Type}:List (κ×V)->List (κ×Value)->Prop:=Paired fun (p:κ×V) (q:κ×Value)=>p.1=q.1/\bR p.2 q.2
def kV:Key->V
 | .inl i=>.int i
 | .inr x=>.str x
inductive HO where
 /-- a list -/
 | lst (xs:List V)
 /-- a tuple (never changes) -/
 | tup (xs:List V)
 /-- a dict whose keys are ints and texts;one whose keys are tuples of ints and texts (the empty one is both) -/
 | dK (kvs:List (Key×V)) | dT (kvs:List (List Key×V))
 /-- a set of ints: its members,its size -/
 | set (S:Int->Bool) (n:Nat)
 /-- an instance of the class at C,its dict at dx,its attributes -/
 | ins (C dx:Addr) (fs:List (Str×V))
 /-- the dict of the instance at x -/
 | own (x:Addr)
 /-- the dict of an exception -/
 | xd (fs:List (Str×V))
 /-- a bound method,f of x -/
 | met (f x:Addr)
 /-- a range object lo,lo + 1,.. below hi -/
 | rng (lo hi:Int)
 /-- a thing that is known to the object (the script;a dict while a loop walks it): read,never written while it is so -/
 | frz (o:Obj) (u:HO)
 /-- a code object's table -/
 | tbl (ps:Array Value)
 /-- any other thing,by what is true of its one object (a def of one's own: SetO a S n:=HO.ext fun h=>..) -/
 | ext (φ:Heap->Prop)
abbrev Hp:=Addr->Option HO
def upd (H:Hp) (a:Addr) (o:HO):Hp:=fun b=>if b=a then some o else H b
theorem au {H:Hp}{a:Addr}{o:HO}:upd H a o a=some o:=by unfold upd;rw [if_pos rfl]
theorem ak {H:Hp}{a b:Addr}{o:HO} (h:b≠a):upd H a o b=H b:=by unfold upd;rw [if_neg h]
theorem aD {H:Hp}{a b:Addr}{o:HO} (h:H a=some o) (h':H b=none):a≠b:=by
 intro e;subst e;rw [h] at h';cases h'
section
variable (P:Program) (w:World)
def aZ (H:Hp) (h:Heap) (a:Addr):HO->Prop
 | .lst xs=>xs.length<=sizeLine/\∃(its:List Value) (n:Nat),bp xs its/\h.get? a=some { cls:=.type "list",data:=.seq its.toArray n }
 | .tup xs=>xs.length<=sizeLine/\∃its:List Value,bp xs its/\IsTup h a its.toArray
 | .dK kvs=>kvs.length<=sizeLine/\(a == sysModules)=false/\∃vs,KV kvs vs/\h.DictOf (cp P w) a vs
 | .dT kvs=>kvs.length<=sizeLine/\(a == sysModules)=false/\∃xs:List (List Key×Addr×Value),
   Paired (fun (p:List Key×V) (q:List Key×Addr×Value)=>p.1=q.1/\H q.2.1=some (.tup (p.1.map kV))/\bR p.2 q.2.2) kvs xs /\
   ∃o es ep,h.get? a=some o/\o.ExactDict/\o.data=.dict es ep/\es.toList=xs.map (entryOfKey (tupleKind (cp P w)))/\(xs.map (·.1)).Nodup
 | .set S n=>h.SetOf (intKind P w) a S n
 | .ins C dx fs=>H dx=some (.own a)/\fs.length<=1000/\dx≠a/\h.get? a=some (PySem.W.instObj C dx) /\
   ∃mA,h.Ns1 dx mA/\(∀f,qL (fs.lookup f) (mA f))/\PySem.Within mA (fs.map (·.1))
 | .own _=>∃o,h.get? a=some o
 | .xd fs=>∃mA,h.Ns1 a mA/\∀f,qL (fs.lookup f) (mA f)
 | .rng lo hi=>∃t u v,h.get? a=some { cls:=.type "range",data:=.fields #[.int lo t,.int hi u,.int 1 v] }
 | .frz o u=>h.get? a=some o/\aZ H h a u
 | .tbl ps=>h.get? a=some { cls:=.none,data:=.fields ps }
 | .met f x=>h.get? a=some (PySem.W.methodObj (.ref f) (.ref x))
 | .ext φ=>φ h/\(∃o,h.get? a=some o)/\∀h1 h2:Heap,φ h1->(∀o,h1.get? a=some o->h2.get? a=some o)->φ h2
def HOk (H:Hp) (h:Heap):Prop:=∀a o,H a=some o->aZ P w H h a o
end
section
variable {P:Program}{w:World}{H H':Hp}{h h':Heap}{a:Addr}{o:HO}
theorem aZ.lt (x:aZ P w H h a o):a < h.objs.size:=by
 cases o with
 | lst xs=>obtain ⟨_,_,_,_,e⟩:=x;exact Heap.lt_size e
 | tup xs=>obtain ⟨_,_,_,p⟩:=x;exact p.lt
 | dK kvs=>obtain ⟨_,_,_,_,o,_,_,e,_⟩:=x;exact Heap.lt_size e
 | dT kvs=>obtain ⟨_,_,_,_,o,_,_,e,_⟩:=x;exact Heap.lt_size e
 | set S n=>obtain ⟨o,_,_,_,e,_⟩:=x;exact Heap.lt_size e
 | ins C dx fs=>obtain ⟨_,_,_,e,_⟩:=x;exact Heap.lt_size e
 | own y=>obtain ⟨_,e⟩:=x;exact Heap.lt_size e
 | xd fs=>obtain ⟨_,⟨_,_,_,e,_⟩,_⟩:=x;exact Heap.lt_size e
 | rng lo hi=>obtain ⟨_,_,_,e⟩:=x;exact Heap.lt_size e
 | frz ob u=>obtain ⟨e,_⟩:=x;exact Heap.lt_size e
 | tbl ps=>exact Heap.lt_size (show h.get? a=some _ from x)
 | met f y=>exact Heap.lt_size (show h.get? a=some _ from x)
 | ext φ=>obtain ⟨_,⟨_,e⟩,_⟩:=x;exact Heap.lt_size e
theorem Paired.mapP {α β:Type}{F G:α->β->Prop}:∀{l₁:List α}{l₂:List β},Paired F l₁ l₂->(∀a b,F a b->G a b)->Paired G l₁ l₂
 | _,_,.nil,_=>.nil
 | _,_,.cons r t,f=>.cons (f _ _ r) (Paired.mapP t f)
theorem aZ.stay (x:aZ P w H h a o) (k:∀b u,(b=a\/H b=some (.own a))->h.get? b=some u->h'.get? b=some u)
  (ho:∀b,H b=some (.own a)->H' b=some (.own a)) (ht:∀b xs,H b=some (.tup xs)->H' b=some (.tup xs)):aZ P w H' h' a o:=by
 induction o with
 | lst xs=>obtain ⟨z,its,n,r,e⟩:=x;exact ⟨z,its,n,r,k _ _ (.inl rfl) e⟩
 | tup xs=>obtain ⟨z,its,r,ob,e,c⟩:=x;exact ⟨z,its,r,ob,k _ _ (.inl rfl) e,c⟩
 | dK kvs=>obtain ⟨z,y,vs,r,ob,es,ep,e,c⟩:=x;exact ⟨z,y,vs,r,ob,es,ep,k _ _ (.inl rfl) e,c⟩
 | dT kvs =>
  obtain ⟨z,y,xs,r,ob,es,ep,e,c⟩:=x
  exact ⟨z,y,xs,Paired.mapP r fun p q z=>⟨z.1,ht _ _ z.2.1,z.2.2⟩,ob,es,ep,k _ _ (.inl rfl) e,c⟩
 | set S n=>obtain ⟨ob,es,ep,t,e,c⟩:=x;exact ⟨ob,es,ep,t,k _ _ (.inl rfl) e,c⟩
 | ins C dx fs =>
  obtain ⟨d,z,ne,e,mA,⟨od,es,ep,e2,c⟩,r⟩:=x
  exact ⟨ho _ d,z,ne,k _ _ (.inl rfl) e,mA,⟨od,es,ep,k _ _ (.inr d) e2,c⟩,r⟩
 | own y=>obtain ⟨ob,e⟩:=x;exact ⟨ob,k _ _ (.inl rfl) e⟩
 | xd fs=>obtain ⟨mA,⟨od,es,ep,e,c⟩,r⟩:=x;exact ⟨mA,⟨od,es,ep,k _ _ (.inl rfl) e,c⟩,r⟩
 | rng lo hi=>obtain ⟨t,u,v,e⟩:=x;exact ⟨t,u,v,k _ _ (.inl rfl) e⟩
 | frz ob u ih=>obtain ⟨e,q⟩:=x;exact ⟨k _ _ (.inl rfl) e,ih q⟩
 | tbl ps =>
  have e:h.get? a=some { cls:=.none,data:=.fields ps }:=x
  show h'.get? a=some { cls:=.none,data:=.fields ps }
  exact k a _ (.inl rfl) e
 | met f y =>
  have e:h.get? a=some (PySem.W.methodObj (.ref f) (.ref y)):=x
  show h'.get? a=some (PySem.W.methodObj (.ref f) (.ref y))
  exact k a _ (.inl rfl) e
 | ext φ=>obtain ⟨p,⟨o,e⟩,st⟩:=x;exact ⟨st _ _ p fun o q=>k _ _ (.inl rfl) q,⟨o,k _ _ (.inl rfl) e⟩,st⟩
theorem HOk.lt (x:HOk P w H h) (e:H a=some o):a < h.objs.size:=(x a o e).lt
theorem HOk.fresh (x:HOk P w H h) (e:h.objs.size<=a):H a=none:=by
 cases q:H a with
 | none=>rfl
 | some u=>exact absurd (Nat.lt_of_lt_of_le (x.lt q) e) (Nat.lt_irrefl _)
theorem HOk.kept (x:HOk P w H h) (k:∀b u,h.get? b=some u->h'.get? b=some u):HOk P w H h':=fun a o e =>
 (x a o e).stay (fun b u _ q=>k b u q) (fun _ q=>q) fun _ _ q=>q
theorem HOk.laid (x:HOk P w H h) (k:∀b u,h.get? b=some u->h'.get? b=some u) (hp:h.objs.size<=a) (new:aZ P w (upd H a o) h' a o):HOk P w (upd H a o) h':=fun b u e=>by
 have hn:=x.fresh hp
 by_cases hb:b=a
 .subst hb;rw [au] at e;cases e;exact new
 .rw [ak hb] at e
  exact (x b u e).stay (fun c v _ q=>k c v q) (fun c q=>by rw [ak (aD q hn)];exact q) fun c xs q=>by rw [ak (aD q hn)];exact q
end
def Rd (H:Hp) (a:Addr) (u:HO):Prop:=H a=some u\/∃o,H a=some (.frz o u)
theorem Rd.ok {P:Program}{w:World}{H:Hp}{h:Heap}{a:Addr}{u:HO} (r:Rd H a u) (x:HOk P w H h):aZ P w H h a u:=by
 rcases r with r | ⟨o,r⟩
 .exact x a u r
 .obtain ⟨_,q⟩:=x a _ r
  exact q
def Mut:Option HO->Prop
 | some (.lst _)=>True
 | some (.dK _)=>True
 | some (.dT _)=>True
 | some (.set _ _)=>True
 | some (.ins _ _ _)=>True
 | some (.ext _)=>True
 | _=>False
section
variable {P:Program}{w:World}{H:Hp}{h h':Heap}{x e:Addr}{o':HO}
theorem HOk.write (ok:HOk P w H h) (mu:Mut (H x)) (he:e=x\/H e=some (.own x)) (k:∀b u,b≠e->h.get? b=some u->h'.get? b=some u) (heo:∃u,h'.get? e=some u)
  (new:aZ P w (upd H x o') h' x o'):HOk P w (upd H x o') h':=fun b u q=>by
 have nown:∀c y,H c=some (.own y)->c≠x:=fun c y r z=>by subst z;rw [r] at mu;exact mu
 have ntup:∀c xs,H c=some (.tup xs)->c≠x:=fun c xs r z=>by subst z;rw [r] at mu;exact mu
 by_cases hb:b=x
 .subst hb;rw [au] at q;cases q;exact new
 .rw [ak hb] at q
  by_cases hbe:b=e
  .have q':H b=some (.own x):=by
    rcases he with z | z
    .exact absurd (hbe.trans z) hb
    .rw [hbe];exact z
   rw [q] at q';cases q'
   obtain ⟨v,hv⟩:=heo
   exact ⟨v,by rw [hbe];exact hv⟩
  .refine (ok b u q).stay (fun c v hc r=>k c v ?_ r) (fun c r=>by rw [ak (nown c b r)];exact r) fun c xs r=>by rw [ak (ntup c xs r)];exact r
   rcases hc with rfl | hc
   .exact hbe
   .rintro rfl
    rcases he with z | z
    .exact nown c b hc z
    .rw [hc] at z;cases z;exact hb rfl
end
structure Un (fs ex:List Addr) (H H':Hp) (h h':Heap):Prop where
 keep:∀b o,h.get? b=some o->H b=none->b∉fs->b∉ex->h'.get? b=some o
 slot:∀b o,h.get? b=some o->H b=none->b∈fs->b∉ex->∃sl,h'.get? b=some { o with slots:=sl }
 free:∀b o,h.get? b=some o->H b=none->b∉ex->H' b=none
 there:∀b o,h.get? b=some o->b∉ex->∃o',h'.get? b=some o'
 tups:∀b xs,H b=some (.tup xs)->H' b=some (.tup xs)
 frzs:∀b o u,H b=some (.frz o u)->H' b=some (.frz o u)
 tbls:∀b ps,H b=some (.tbl ps)->∃more,H' b=some (.tbl (ps++more))
section
variable {fs fs' ex ex':List Addr}{H H1 H2:Hp}{h h1 h2 h':Heap}{a x e:Addr}{o:HO}
theorem Un.any (u:Un fs ex H H1 h h1) {b:Addr}{ob:Obj} (q:h.get? b=some ob) (n:H b=none) (hx:b∉ex):∃sl,h1.get? b=some { ob with slots:=sl }:=by
 by_cases hb:b∈fs
 .exact u.slot b ob q n hb hx
 .exact ⟨ob.slots,u.keep b ob q n hb hx⟩
theorem Un.kept (k:∀b u,h.get? b=some u->h'.get? b=some u):Un fs ex H H h h' :=
 ⟨fun b ob q _ _ _=>k b ob q,fun b ob q _ _ _=>⟨ob.slots,k b ob q⟩,fun _ _ _ n _=>n,fun b ob q _=>⟨ob,k b ob q⟩,fun _ _ q=>q,fun _ _ _ q=>q,fun _ ps q=>⟨#[],by rw [q];simp⟩⟩
theorem Un.refl:Un fs ex H H h h:=Un.kept fun _ _ q=>q
theorem Un.laid (k:∀b u,h.get? b=some u->h'.get? b=some u) (hp:h.objs.size<=a) (hn:H a=none):Un fs ex H (upd H a o) h h' where
 keep:=fun b u q _ _ _=>k b u q
 slot:=fun b u q _ _ _=>⟨u.slots,k b u q⟩
 free:=fun b u q n _=>by rw [ak (Nat.ne_of_lt (Nat.lt_of_lt_of_le (Heap.lt_size q) hp))];exact n
 there:=fun b u q _=>⟨u,k b u q⟩
 tups:=fun b xs q=>by rw [ak (aD q hn)];exact q
 frzs:=fun b u xs q=>by rw [ak (aD q hn)];exact q
 tbls:=fun b ps q=>⟨#[],by rw [ak (aD q hn),q];simp⟩
theorem Un.write (mu:Mut (H x)) (he:e=x\/H e=some (.own x)) (k:∀b u,b≠e->h.get? b=some u->h'.get? b=some u) (heo:∃u,h'.get? e=some u):Un fs ex H (upd H x o) h h':=by
 have hx:∀b,H b=none->b≠x:=fun b n z=>by subst z;rw [n] at mu;exact mu
 have hb:∀b,H b=none->b≠e:=fun b n z=>by
  subst z
  rcases he with r | r
  .exact hx b n r
  .rw [n] at r;cases r
 have hm:∀b u,H b=some u->¬ Mut (some u)->b≠x:=fun b u q nm z=>by subst z;rw [q] at mu;exact nm mu
 refine ⟨fun b u q n _ _=>k b u (hb b n) q,fun b u q n _ _=>⟨u.slots,k b u (hb b n) q⟩,fun b u q n _=>by rw [ak (hx b n)];exact n,fun b u q _=>?_,
  fun b xs q=>by rw [ak (hm b _ q fun z=>z)];exact q,fun b u xs q=>by rw [ak (hm b _ q fun z=>z)];exact q,fun b ps q=>⟨#[],by rw [ak (hm b _ q fun z=>z),q];simp⟩⟩
 by_cases hbe:b=e
 .subst hbe;exact heo
 .exact ⟨u,k b u hbe q⟩
end
def trk (h:Heap) (H:Hp):List Addr:=(List.range h.objs.size).filter fun a=>(H a).isSome
def qQ (h:Heap) (H:Hp):Heap:=PySem.W.hideAll h (trk h H)
theorem n9 (h:Heap) (H:Hp):(qQ h H).objs.size=h.objs.size:=PySem.W.hideAll_size _ _
theorem qR {h:Heap}{H:Hp}{b:Addr}{o:Obj} (e:h.get? b=some o) (n:H b=none):(qQ h H).get? b=some o :=
 PySem.W.hideAll_get _ e fun hm=>by
  have q:(H b).isSome=true:=(List.mem_filter.mp hm).2
  rw [n] at q;simp at q
theorem tO {h:Heap}{H:Hp}{b:Addr}{o:Obj} (e:(qQ h H).get? b=some o):h.get? b=some o/\H b=none:=by
 have e':h.get? b=some o:=PySem.W.of_hideAll (trk h H) e
 refine ⟨e',?_⟩
 cases q:H b with
 | none=>rfl
 | some x =>
  have hm:b∈trk h H:=List.mem_filter.mpr ⟨List.mem_range.mpr (Heap.lt_size e'),by simp [q]⟩
  have z:(qQ h H).get? b=none:=PySem.W.hideAll_none (trk h H) hm
  rw [z] at e;cases e
structure Mod (K:PySem.W.Frag) (mg:Str->Option Value) (base:Heap):Prop where
 kin:K.In base
 glob:base.Ns mainGlobals mg
 blt:∃mb,base.Ns builtinsNs mb/\∀x:Str,x≠"__name__"->mb x=bootBuiltins x
 nolimit:base.NoLimit
structure Cx where
 prog:Program
 w:World
 K:PySem.W.Frag
 mg:Str->Option Value
 base:Heap
 A:Around
 N:List Str
 s₀:Shared
 H₀:Hp
 env:Env
 outer:List Env
 stack:List Env
 ex:List Addr
 fn:Str->Bool
 calm:Bool
 pn:List (Addr×Obj)
 xe:Value->Shared->Prop
def frs (l:List Env):List Addr:=l.filterMap (·.frame)
abbrev Cx.fs (X:Cx):List Addr:=frs X.outer
def Vis (sc:Scope) (x:Str):Prop:=sc.names.lookup x=some .local\/sc.names.lookup x=some .cell\/sc.names.lookup x=some .free
def Loc (sc:Scope) (x:Str):Prop:=sc.names.lookup x=some .local\/sc.names.lookup x=some .cell
def Ak (env:Env) (h:Heap) (m:Str->Option Value) (x:Str) (u:Value):Prop :=
 (env.kindOf x=some .local/\m x=some u)\/((env.kindOf x=some .cell\/env.kindOf x=some .free)/\∃c,env.cells.lookup x=some c/\h.IsCell c (some u))
structure Cx.Ok (X:Cx):Prop where
 mod:Mod X.K X.mg X.base
 kind:X.env.scope.kind=.function
 glob:X.env.globals=mainGlobals
 blt:X.env.builtins=builtinsNs
 above:X.s₀.heap.objs.size<=X.env.locals
 inj:∀x y c,X.env.cells.lookup x=some c->X.env.cells.lookup y=some c->x=y
 has:∀x,(X.env.kindOf x=some .cell\/X.env.kindOf x=some .free)->∃c,X.env.cells.lookup x=some c
 cab:∀x c,X.fn x=true->X.env.cells.lookup x=some c->X.s₀.heap.objs.size<=c
 hd:X.calm=true->X.A.handled=none
 frames:X.A.frames=some X.stack
 stk:X.stack=X.outer\/(X.stack=X.env::X.outer/\X.env.frame=some X.env.locals)
 exf:∀b∈X.ex,b≠X.env.locals/\∀x c,X.env.cells.lookup x=some c->c≠b
 bs:∀b o,X.base.get? b=some o->X.s₀.heap.get? b=some o/\X.H₀ b=none
 bsz:X.base.objs.size<=X.s₀.heap.objs.size
 noex:∀b o,X.base.get? b=some o->b∉X.ex
 exfs:∀b∈X.ex,b∉X.fs
 funs:X.s₀.heap.FunFrames X.base X.outer
 frf:∀b∈X.fs,X.H₀ b=none
structure Inv (X:Cx) (pins:List (Addr×Obj)) (σ:List (Option V)) (H:Hp) (s:Shared):Prop where
 ok:X.Ok
 os:s.os=X.s₀.os
 bare:AllBare s.gens
 base:Un X.fs X.ex X.H₀ H X.s₀.heap s.heap
 loc:∃m,s.heap.Ns X.env.locals m/\∀(i:Nat) (x:Str) (v:V),X.N[i]?=some x->σ[i]?=some (some v)->Vis X.env.scope x->∃u,bR v u/\Ak X.env s.heap m x u
 cell:∀x c,X.env.cells.lookup x=some c->∃v,s.heap.IsCell c v
 free:H X.env.locals=none
 freeC:∀x c,X.env.cells.lookup x=some c->H c=none
 pin:∀p∈X.pn++pins,s.heap.get? p.1=some p.2/\H p.1=none/\p.1≠X.env.locals/\p.1∉X.fs/\∀v,p.2.data≠.cell v
 hok:HOk X.prog X.w H s.heap
 len:σ.length=X.N.length
section
variable {X:Cx}{pins:List (Addr×Obj)}{σ:List (Option V)}{H H':Hp}{s:Shared}{h':Heap}
theorem Cx.Ok.nofr (ok:X.Ok) {b:Addr}{o:Obj} (e:X.base.get? b=some o):b∉X.fs:=fun hb=>by
 have:=(ok.funs.mem hb).1
 rw [e] at this;cases this
theorem Inv.bs (I:Inv X pins σ H s):∀b o,X.base.get? b=some o->s.heap.get? b=some o/\H b=none:=fun b o e =>
 ⟨I.base.keep b o (I.ok.bs b o e).1 (I.ok.bs b o e).2 (I.ok.nofr e) (I.ok.noex b o e),I.base.free b o (I.ok.bs b o e).1 (I.ok.bs b o e).2 (I.ok.noex b o e)⟩
theorem Inv.bk (I:Inv X pins σ H s):∀b o,X.base.get? b=some o->s.heap.get? b=some o:=fun b o e=>(I.bs b o e).1
theorem Inv.mod (I:Inv X pins σ H s):Mod X.K X.mg X.base:=I.ok.mod
theorem Inv.kIn (I:Inv X pins σ H s):X.K.In s.heap:=I.ok.mod.kin.keeps I.bk
theorem Inv.lt (I:Inv X pins σ H s):X.env.locals < s.heap.objs.size:=let ⟨_,hn,_⟩:=I.loc;hn.lt
theorem Inv.sz (I:Inv X pins σ H s):X.s₀.heap.objs.size<=s.heap.objs.size:=Nat.le_trans I.ok.above (Nat.le_of_lt I.lt)
theorem Inv.nofs (I:Inv X pins σ H s) {a:Addr} (h:s.heap.objs.size<=a):a∉X.fs:=fun hb=>by
 obtain ⟨_,o,ho,_⟩:=I.ok.funs.mem hb
 exact absurd (Nat.lt_of_lt_of_le (Heap.lt_size ho) (Nat.le_trans I.sz h)) (Nat.lt_irrefl _)
theorem Inv.cne (I:Inv X pins σ H s):∀x c,X.env.cells.lookup x=some c->c≠X.env.locals:=fun x c e z=>by
 obtain ⟨v,o,ho,hd⟩:=I.cell x c e
 obtain ⟨m,⟨o',es,ep,ho',hd',_⟩,_⟩:=I.loc
 rw [z,ho'] at ho;cases ho;rw [hd'] at hd;cases hd
theorem Inv.funs (I:Inv X pins σ H s):s.heap.FunFrames X.base X.outer:=by
 have all:∀(l:List Env),(∀b∈frs l,b∈X.fs)->X.s₀.heap.FunFrames X.base l->s.heap.FunFrames X.base l:=by
  intro l
  induction l with
  | nil=>intro _ _;trivial
  | cons env r ih =>
   intro hs hl
   obtain ⟨hk,⟨L,o,hf,hn,ho,hd⟩,hr⟩:=hl
   have hL:L∈X.fs:=hs L (by unfold frs;rw [List.filterMap_cons,hf];exact List.mem_cons_self)
   obtain ⟨sl,e⟩:=I.base.slot L o ho (I.ok.frf L hL) hL fun z=>I.ok.exfs L z hL
   exact ⟨hk,⟨L,_,hf,hn,e,hd⟩,ih (fun b hb=>hs b (by unfold frs;rw [List.filterMap_cons,hf];exact List.mem_cons_of_mem _ hb)) hr⟩
 exact all X.outer (fun _ hb=>hb) I.ok.funs
theorem Inv.stack (I:Inv X pins σ H s):s.heap.FunFrames X.base X.stack:=by
 rcases I.ok.stk with e | ⟨e,hf⟩
 .rw [e];exact I.funs
 .rw [e]
  obtain ⟨m,hn,_⟩:=I.loc
  refine .cons (by rw [I.ok.kind];decide) hf hn ?_ I.funs
  exact Heap.get?_none_of_le (Nat.le_trans I.ok.bsz I.ok.above)
theorem Inv.stkSub (I:Inv X pins σ H s):∀b∈frs X.stack,b∈X.env.locals::X.fs:=fun b hb=>by
 rcases I.ok.stk with e | ⟨e,hf⟩
 .rw [e] at hb;exact List.mem_cons_of_mem _ hb
 .rw [e] at hb
  unfold frs at hb
  rw [List.filterMap_cons,hf] at hb
  exact hb
theorem Inv.stkFree (I:Inv X pins σ H s):∀b∈frs X.stack,H b=none:=fun b hb=>by
 rcases List.mem_cons.mp (I.stkSub b hb) with e | hb
 .rw [e];exact I.free
 .obtain ⟨_,o,ho,_⟩:=I.ok.funs.mem hb
  exact I.base.free b o ho (I.ok.frf b hb) fun z=>I.ok.exfs b z hb
theorem Inv.step {g':Array GenState}{t':Nat}{d':Drawn}{ch:List Addr} (I:Inv X pins σ H s)
  (hch:∀b∈ch,(b∈X.ex\/X.s₀.heap.objs.size<=b)/\b≠X.env.locals/\(∀x c,X.env.cells.lookup x=some c->c≠b)/\∀p∈X.pn++pins,p.1≠b)
  (keep:∀b o,b≠X.env.locals->b∉X.fs->b∉ch->s.heap.get? b=some o->H b=none->h'.get? b=some o)
  (slot:∀b o,b≠X.env.locals->b∈X.fs->b∉ch->s.heap.get? b=some o->H b=none->∃sl,h'.get? b=some { o with slots:=sl }) (free:∀b o,b∉ch->s.heap.get? b=some o->H b=none->H' b=none)
  (there:∀b o,b∉ch->s.heap.get? b=some o->∃o',h'.get? b=some o')
  (tups:∀b xs,H b=some (.tup xs)->H' b=some (.tup xs)) (frzs:∀b o u,H b=some (.frz o u)->H' b=some (.frz o u)) (tbls:∀b ps,H b=some (.tbl ps)->∃more,H' b=some (.tbl (ps++more)))
  (ns:∀m,s.heap.Ns X.env.locals m->h'.Ns X.env.locals m) (hok:HOk X.prog X.w H' h') (hg:AllBare g') :
  Inv X pins σ H' { s with heap:=h',gens:=g',drawn:=d',toks:=t' }:=by
 have neL:∀b o,X.s₀.heap.get? b=some o->b≠X.env.locals:=fun b o e=>Nat.ne_of_lt (Nat.lt_of_lt_of_le (Heap.lt_size e) I.ok.above)
 have neC:∀b o,X.s₀.heap.get? b=some o->b∉X.ex->b∉ch:=fun b o e hx hb=>by
  rcases (hch b hb).1 with z | z
  .exact hx z
  .exact absurd (Nat.lt_of_lt_of_le (Heap.lt_size e) z) (Nat.lt_irrefl _)
 have cellK:∀x c,X.env.cells.lookup x=some c->∀v,s.heap.IsCell c v->h'.IsCell c v:=fun x c e v ⟨o,ho,hd⟩=>by
  have nch:c∉ch:=fun z=>(hch c z).2.2.1 x c e rfl
  by_cases hc:c∈X.fs
  .obtain ⟨sl,q⟩:=slot c o (I.cne x c e) hc nch ho (I.freeC x c e)
   exact ⟨_,q,hd⟩
  .exact ⟨o,keep c o (I.cne x c e) hc nch ho (I.freeC x c e),hd⟩
 refine ⟨I.ok,I.os,hg,⟨fun b o e n hb hx=>?_,fun b o e n hb hx=>?_,fun b o e n hx=>?_,fun b o e hx=>?_,fun b xs e=>tups b xs (I.base.tups b xs e),fun b o xs e=>frzs b o xs (I.base.frzs b o xs e),fun b ps e=>?_⟩,?_,fun x c e=>?_,?_,fun x c e=>?_,fun p hp=>?_,hok,I.len⟩
 .exact keep b o (neL b o e) hb (neC b o e hx) (I.base.keep b o e n hb hx) (I.base.free b o e n hx)
 .obtain ⟨sl,e1⟩:=I.base.slot b o e n hb hx
  obtain ⟨sl',e2⟩:=slot b _ (neL b o e) hb (neC b o e hx) e1 (I.base.free b o e n hx)
  exact ⟨sl',e2⟩
 .obtain ⟨o',e1⟩:=I.base.there b o e hx
  exact free b o' (neC b o e hx) e1 (I.base.free b o e n hx)
 .obtain ⟨o',e1⟩:=I.base.there b o e hx
  exact there b o' (neC b o e hx) e1
 .obtain ⟨m1,e1⟩:=I.base.tbls b ps e
  obtain ⟨m2,e2⟩:=tbls b _ e1
  exact ⟨m1++m2,by rw [e2,Array.append_assoc]⟩
 .obtain ⟨m,hn,hl⟩:=I.loc
  refine ⟨m,ns m hn,fun i x v e1 e2 e3=>?_⟩
  obtain ⟨u,r,l⟩:=hl i x v e1 e2 e3
  refine ⟨u,r,?_⟩
  rcases l with l | ⟨k,c,e,z⟩
  .exact .inl l
  .exact .inr ⟨k,c,e,cellK x c e _ z⟩
 .obtain ⟨v,z⟩:=I.cell x c e
  exact ⟨v,cellK x c e v z⟩
 .obtain ⟨m,⟨o,_,_,ho,_⟩,_⟩:=I.loc
  exact free _ o (fun z=>(hch _ z).2.1 rfl) ho I.free
 .obtain ⟨v,o,ho,hd⟩:=I.cell x c e
  exact free c o (fun z=>(hch c z).2.2.1 x c e rfl) ho (I.freeC x c e)
 .obtain ⟨e,n,ne,nf,d⟩:=I.pin p hp
  have nch:p.1∉ch:=fun z=>(hch p.1 z).2.2.2 p hp rfl
  exact ⟨keep p.1 p.2 ne nf nch e n,free p.1 p.2 nch e n,ne,nf,d⟩
theorem Inv.un {t':Nat} (I:Inv X pins σ H s) (u:Un X.fs [] H H' s.heap h') (hok:HOk X.prog X.w H' h'):Inv X pins σ H' { s with heap:=h',toks:=t' }:=by
 obtain ⟨m,⟨o,es,ep,ho,r⟩,_⟩:=id I.loc
 obtain ⟨sl,hL⟩:=u.any ho I.free (by simp)
 exact I.step (g':=s.gens) (d':=s.drawn) (ch:=[]) (fun _ z=>nomatch z) (fun b o _ hb _ e n=>u.keep b o e n hb (by simp)) (fun b o _ hb _ e n=>u.slot b o e n hb (by simp)) (fun b o _ e n=>u.free b o e n (by simp)) (fun b o _ e=>u.there b o e (by simp)) u.tups u.frzs u.tbls (fun m' hm=>by
  obtain ⟨o',es',ep',ho',r'⟩:=hm
  rw [ho] at ho';cases ho'
  exact ⟨_,es',ep',hL,r'⟩) hok I.bare
theorem Inv.call {g':Array GenState}{t':Nat}{d':Drawn}{ch:List Addr} (I:Inv X pins σ H s) (u:Un (frs X.stack) ch H H' s.heap h') (hok:HOk X.prog X.w H' h') (hg:AllBare g')
  (hch:∀b∈ch,(b∈X.ex\/X.s₀.heap.objs.size<=b)/\b≠X.env.locals/\(∀x c,X.env.cells.lookup x=some c->c≠b)/\∀p∈X.pn++pins,p.1≠b) :
  Inv X pins σ H' { s with heap:=h',gens:=g',drawn:=d',toks:=t' }:=by
 obtain ⟨m,⟨o,es,ep,ho,r⟩,_⟩:=id I.loc
 obtain ⟨sl,hL⟩:=u.any ho I.free fun z=>(hch _ z).2.1 rfl
 exact I.step (ch:=ch) hch (fun b o hL hb hc e n=>u.keep b o e n (fun z=>(List.mem_cons.mp (I.stkSub b z)).elim hL hb) hc) (fun b o _ _ hc e n=>u.any e n hc) (fun b o hc e n=>u.free b o e n hc) (fun b o hc e=>u.there b o e hc) u.tups u.frzs u.tbls (fun m' hm=>by
  obtain ⟨o',es',ep',ho',r'⟩:=hm
  rw [ho] at ho';cases ho'
  exact ⟨_,es',ep',hL,r'⟩) hok hg
theorem Inv.turned {t':Nat}{it:Addr} (I:Inv X pins σ H s) (k:∀b o,b≠it->s.heap.get? b=some o->h'.get? b=some o) (hn:H it=none) (hL:it≠X.env.locals)
  (h1:it∈X.ex\/X.s₀.heap.objs.size<=it) (h2:∀x c,X.env.cells.lookup x=some c->c≠it) (h3:∀p∈X.pn++pins,p.1≠it):Inv X pins σ H { s with heap:=h',toks:=t' }:=by
 have nit:∀b u,H b=some u->b≠it:=fun b u e z=>by rw [z,hn] at e;cases e
 refine I.step (g':=s.gens) (d':=s.drawn) (ch:=[it]) (fun b hb=>?_) (fun b o _ _ hc e _=>k b o (fun z=>hc (by simp [z])) e) (fun b o _ _ hc e _=>⟨o.slots,k b o (fun z=>hc (by simp [z])) e⟩) (fun _ _ _ _ n=>n)
  (fun b o hc e=>⟨o,k b o (fun z=>hc (by simp [z])) e⟩) (fun _ _ e=>e) (fun _ _ _ e=>e) (fun b ps e=>⟨#[],by rw [e];simp⟩) (fun m hm=>?_) (fun b u e=>?_) I.bare
 .have e:b=it:=by simpa using hb
  subst e
  exact ⟨h1,hL,h2,h3⟩
 .obtain ⟨o,es,ep,ho,r⟩:=hm
  exact ⟨o,es,ep,k _ o (Ne.symm hL) ho,r⟩
 .refine (I.hok b u e).stay (fun c v hc q=>k c v ?_ q) (fun _ q=>q) fun _ _ q=>q
  rcases hc with z | z
  .rw [z];exact nit b u e
  .exact nit c _ z
theorem Inv.tok (I:Inv X pins σ H s) (t:Nat):Inv X pins σ H { s with toks:=t }:=I.un (h':=s.heap) (t':=t) Un.refl I.hok
theorem Inv.kept {t':Nat} (I:Inv X pins σ H s) (k:∀b u,s.heap.get? b=some u->h'.get? b=some u):Inv X pins σ H { s with heap:=h',toks:=t' }:=I.un (Un.kept k) (I.hok.kept k)
theorem Inv.laid {a:Addr}{o:HO}{t':Nat} (I:Inv X pins σ H s) (k:∀b u,s.heap.get? b=some u->h'.get? b=some u) (hp:s.heap.objs.size<=a) (new:aZ X.prog X.w (upd H a o) h' a o) :
  Inv X pins σ (upd H a o) { s with heap:=h',toks:=t' }:=I.un (Un.laid k hp (I.hok.fresh hp)) (I.hok.laid k hp new)
theorem Inv.write {x e:Addr}{o:HO}{t':Nat} (I:Inv X pins σ H s) (mu:Mut (H x)) (he:e=x\/H e=some (.own x)) (k:∀b u,b≠e->s.heap.get? b=some u->h'.get? b=some u) (heo:∃u,h'.get? e=some u)
  (new:aZ X.prog X.w (upd H x o) h' x o):Inv X pins σ (upd H x o) { s with heap:=h',toks:=t' }:=I.un (Un.write mu he k heo) (I.hok.write mu he k heo new)
theorem Inv.pins_of {pins':List (Addr×Obj)} (I:Inv X pins σ H s) (h:∀p∈pins',s.heap.get? p.1=some p.2/\H p.1=none/\p.1≠X.env.locals/\p.1∉X.fs/\∀v,p.2.data≠.cell v):Inv X pins' σ H s :=
 ⟨I.ok,I.os,I.bare,I.base,I.loc,I.cell,I.free,I.freeC,fun p hp=>(List.mem_append.mp hp).elim (fun z=>I.pin p (List.mem_append_left _ z)) (h p),I.hok,I.len⟩
theorem jC {N:List Str} (hN:N.Nodup) {i j:Nat}{x:Str} (a:N[i]?=some x) (b:N[j]?=some x):i=j:=by
 obtain ⟨h1,e1⟩:=List.getElem?_eq_some_iff.mp a
 obtain ⟨h2,e2⟩:=List.getElem?_eq_some_iff.mp b
 exact (List.getElem_inj hN).mp (e1.trans e2.symm)
theorem oa {M:Model}{A:Around}{E:Value->Shared->Prop}{i:Nat}{x:Str}{v:V}{u:Value}{Q:Unit->Shared->Prop} (I:Inv X pins σ H s) (hN:X.N.Nodup) (hi:X.N[i]?=some x) (hx:Loc X.env.scope x) (r:bR v u)
  (h:∀s',Inv X pins (σ.set i (some v)) H s'->(∃a,Heap.SameBut a s.heap s'.heap/\(a=X.env.locals\/X.env.cells.lookup x=some a))->Q () s') (hf:X.fn x=true\/X.env.scope.names.lookup x=some .local:=by first | exact .inl rfl | exact .inr rfl | assumption):wpAny M A (storeName X.env x u) Q E s:=by
 obtain ⟨m,hn,hl⟩:=id I.loc
 have hcls:(X.env.scope.kind == .class || (X.env.scope.kind == .module && X.env.locals != X.env.globals))=false:=by rw [I.ok.kind];rfl
 have hiσ:i < σ.length:=by rw [I.len];exact (List.getElem?_eq_some_iff.mp hi).1
 have cne:=I.cne
 have tracked:∀{a:Addr}{h':Heap},(∃o,s.heap.get? a=some o/\H a=none)->Heap.SameBut a s.heap h'->HOk X.prog X.w H h':=fun {a h'} ha hs b ob e=>by
  obtain ⟨_,_,hfree⟩:=ha
  refine (I.hok b ob e).stay (fun c w' hc q=>(hs.2 c ?_).trans q) (fun _ q=>q) fun _ _ q=>q
  rintro rfl
  rcases hc with rfl | hc
  .rw [hfree] at e;cases e
  .rw [hfree] at hc;cases hc
 rcases hx with hk | hk
 .refine wpAny_storeName_local hk hn (fun h' hn' hs=>?_) hcls
  obtain ⟨oL,_,_,hoL,_⟩:=id hn
  refine h _ ⟨I.ok,I.os,I.bare,⟨fun b o e n hb hx=>?_,fun b o e n hb hx=>?_,I.base.free,fun b o e hx=>?_,I.base.tups,I.base.frzs,I.base.tbls⟩,⟨_,hn',fun j y v' e1 e2 e3=>?_⟩,fun y c e=>?_,I.free,I.freeC,fun p hp=>?_,tracked ⟨oL,hoL,I.free⟩ hs,by simpa using I.len⟩ ⟨_,hs,.inl rfl⟩
  .exact (hs.2 b (Nat.ne_of_lt (Nat.lt_of_lt_of_le (Heap.lt_size e) I.ok.above))).trans (I.base.keep b o e n hb hx)
  .obtain ⟨sl,e1⟩:=I.base.slot b o e n hb hx
   exact ⟨sl,(hs.2 b (Nat.ne_of_lt (Nat.lt_of_lt_of_le (Heap.lt_size e) I.ok.above))).trans e1⟩
  .obtain ⟨o',e1⟩:=I.base.there b o e hx
   exact ⟨o',(hs.2 b (Nat.ne_of_lt (Nat.lt_of_lt_of_le (Heap.lt_size e) I.ok.above))).trans e1⟩
  .by_cases hj:j=i
   .subst hj
    rw [hi] at e1;cases e1
    rw [List.getElem?_set_self hiσ] at e2
    cases e2
    exact ⟨u,r,.inl ⟨hk,by simp⟩⟩
   .rw [List.getElem?_set_ne (Ne.symm hj)] at e2
    obtain ⟨u',r',q⟩:=hl j y v' e1 e2 e3
    refine ⟨u',r',?_⟩
    rcases q with ⟨k,e⟩ | ⟨k,c,e,z⟩
    .refine .inl ⟨k,?_⟩
     have:y≠x:=fun e=>hj (jC hN e1 (e ▸ hi))
     simp [this,e]
    .exact .inr ⟨k,c,e,z.sameBut hs (cne y c e)⟩
  .obtain ⟨w',z⟩:=I.cell y c e
   exact ⟨w',z.sameBut hs (cne y c e)⟩
  .obtain ⟨e,n,ne,nf,d⟩:=I.pin p hp
   exact ⟨(hs.2 p.1 ne).trans e,n,ne,nf,d⟩
 .have hfn:X.fn x=true:=by
   rcases hf with z | z
   .exact z
   .rw [z] at hk;cases hk
  obtain ⟨c,hc⟩:=I.ok.has x (.inl hk)
  obtain ⟨w',z⟩:=I.cell x c hc
  refine wpAny_storeName_cell I.ok.kind hk hc z (fun h' hc' hs=>?_)
  obtain ⟨oc,hoc,hocd⟩:=id z
  refine h { s with heap:=h' } ⟨I.ok,I.os,I.bare,⟨fun b o e n hb hx=>?_,fun b o e n hb hx=>?_,I.base.free,fun b o e hx=>?_,I.base.tups,I.base.frzs,I.base.tbls⟩,⟨m,hn.sameBut hs (Ne.symm (cne x c hc)),fun j y v' e1 e2 e3=>?_⟩,fun y c' e=>?_,I.free,I.freeC,fun p hp=>?_,tracked ⟨oc,hoc,I.freeC x c hc⟩ hs,by simpa using I.len⟩ ⟨c,hs,.inr hc⟩
  .exact (hs.2 b (Nat.ne_of_lt (Nat.lt_of_lt_of_le (Heap.lt_size e) (I.ok.cab x c hfn hc)))).trans (I.base.keep b o e n hb hx)
  .obtain ⟨sl,e1⟩:=I.base.slot b o e n hb hx
   exact ⟨sl,(hs.2 b (Nat.ne_of_lt (Nat.lt_of_lt_of_le (Heap.lt_size e) (I.ok.cab x c hfn hc)))).trans e1⟩
  .obtain ⟨o',e1⟩:=I.base.there b o e hx
   exact ⟨o',(hs.2 b (Nat.ne_of_lt (Nat.lt_of_lt_of_le (Heap.lt_size e) (I.ok.cab x c hfn hc)))).trans e1⟩
  .by_cases hj:j=i
   .subst hj
    rw [hi] at e1;cases e1
    rw [List.getElem?_set_self hiσ] at e2
    cases e2
    exact ⟨u,r,.inr ⟨.inl hk,c,hc,hc'⟩⟩
   .rw [List.getElem?_set_ne (Ne.symm hj)] at e2
    obtain ⟨u',r',q⟩:=hl j y v' e1 e2 e3
    refine ⟨u',r',?_⟩
    rcases q with q | ⟨k,c',e,z'⟩
    .exact .inl q
    .refine .inr ⟨k,c',e,z'.sameBut hs ?_⟩
     rintro rfl
     exact hj (jC hN e1 (I.ok.inj _ _ _ e hc ▸ hi))
  .by_cases hcc:c'=c
   .subst hcc;exact ⟨_,hc'⟩
   .obtain ⟨w2,z2⟩:=I.cell y c' e
    exact ⟨w2,z2.sameBut hs hcc⟩
  .obtain ⟨e,n,ne,nf,d⟩:=I.pin p hp
   refine ⟨(hs.2 p.1 ?_).trans e,n,ne,nf,d⟩
   intro q
   rw [q,hoc] at e
   have q':oc=p.2:=Option.some.inj e
   exact d w' (by rw [<- q'];exact hocd)
theorem fb {M:Model}{A:Around}{E:Value->Shared->Prop}{i:Nat}{x:Str}{v:V}{u:Value}{Q:Unit->Shared->Prop} (I:Inv X pins σ H s) (hN:X.N.Nodup) (hi:X.N[i]?=some x) (hx:Loc X.env.scope x) (r:bR v u)
  (h:∀s',Inv X pins (σ.set i (some v)) H s'->Q () s') (hf:X.fn x=true\/X.env.scope.names.lookup x=some .local:=by first | exact .inl rfl | exact .inr rfl | assumption):wpAny M A (storeName X.env x u) Q E s :=
 oa I hN hi hx r (fun s' I' _=>h s' I') hf
theorem Inv.call' {s':Shared}{ch:List Addr} (I:Inv X pins σ H s) (ho:s'.os=s.os) (u:Un (frs X.stack) ch H H' s.heap s'.heap) (hok:HOk X.prog X.w H' s'.heap) (hg:AllBare s'.gens)
  (hch:∀b∈ch,(b∈X.ex\/X.s₀.heap.objs.size<=b)/\b≠X.env.locals/\(∀x c,X.env.cells.lookup x=some c->c≠b)/\∀p∈X.pn++pins,p.1≠b):Inv X pins σ H' s':=by
 obtain ⟨h',g',d',t',o'⟩:=s'
 have e:o'=s.os:=ho
 subst e
 exact I.call (g':=g') (t':=t') (d':=d') u hok hg hch
end
abbrev XK:=Value->Option Addr->Hp->Prop
abbrev St:=List (Option V)
abbrev VK:=V->Hp->Prop
abbrev TE:=St->Hp->VK->Prop
abbrev TT:=St->Hp->(Bool->Hp->Prop)->Prop
abbrev TA:=St->Hp->(List V->Hp->Prop)->Prop
structure og where
 nx:St->Hp->Prop
 rt:VK
 bk:St->Hp->Prop:=fun _ _=>False
 ct:St->Hp->Prop:=fun _ _=>False
abbrev TS:=og->St->Hp->Prop
def EP (X:Cx) (pins:List (Addr×Obj)) (σ:St) (Q:VK) (u:Value) (s':Shared):Prop:=∃v H',Inv X pins σ H' s'/\bR v u/\Q v H'
def TP (X:Cx) (pins:List (Addr×Obj)) (σ:St) (Q:Bool->Hp->Prop) (b:Bool) (s':Shared):Prop:=∃H',Inv X pins σ H' s'/\Q b H'
def AP (X:Cx) (pins:List (Addr×Obj)) (σ:St) (Q:List V->Hp->Prop) (us:List Value) (s':Shared):Prop:=∃vs H',Inv X pins σ H' s'/\bp vs us/\Q vs H'
def SP (X:Cx) (pins:List (Addr×Obj)) (D:og) (f:Flow) (s':Shared):Prop :=
 match f with
 | .next=>∃σ' H',Inv X pins σ' H' s'/\D.nx σ' H'
 | .brk=>∃σ' H',Inv X pins σ' H' s'/\D.bk σ' H'
 | .cont=>∃σ' H',Inv X pins σ' H' s'/\D.ct σ' H'
 | .ret u=>∃v σ' H',Inv X pins σ' H' s'/\bR v u/\D.rt v H'
def PE (X:Cx) (e:Expr) (t:TE):Prop :=
 ∀(pins:List (Addr×Obj)) (s:Shared) (σ:St) (H:Hp) (Q:VK),Inv X pins σ H s->t σ H Q->wpAny (model X.prog X.w) X.A (eval e X.env) (EP X pins σ Q) X.xe s
def PT (X:Cx) (e:Expr) (t:TT):Prop :=
 ∀(pins:List (Addr×Obj)) (s:Shared) (σ:St) (H:Hp) (Q:Bool->Hp->Prop),Inv X pins σ H s->t σ H Q->wpAny (model X.prog X.w) X.A (isTrue e X.env (eval e X.env)) (TP X pins σ Q) X.xe s
def PW (X:Cx) (e:Expr) (t:TT):Prop :=
 ∀(whole:Sem Value) (pins:List (Addr×Obj)) (s:Shared) (σ:St) (H:Hp) (Q:Bool->Hp->Prop),Inv X pins σ H s->t σ H Q->wpAny (model X.prog X.w) X.A (isTrue e X.env whole) (TP X pins σ Q) X.xe s
theorem PW.pt {X:Cx}{e:Expr}{t:TT} (h:PW X e t):PT X e t:=h _
def PA (X:Cx) (es:List Expr) (t:TA):Prop :=
 ∀(pos:Pos) (pins:List (Addr×Obj)) (s:Shared) (σ:St) (H:Hp) (Q:List V->Hp->Prop),Inv X pins σ H s->t σ H Q->wpAny (model X.prog X.w) X.A (spliced (backTo pos (starEach es X.env))) (AP X pins σ Q) X.xe s
def PS (X:Cx) (st:Stmt) (t:TS):Prop :=
 ∀(pins:List (Addr×Obj)) (s:Shared) (σ:St) (H:Hp) (D:og),Inv X pins σ H s->t D σ H->wpAny (model X.prog X.w) X.A (exec st X.env) (SP X pins D) X.xe s
def PSs (X:Cx) (st:List Stmt) (t:TS):Prop :=
 ∀(pins:List (Addr×Obj)) (s:Shared) (σ:St) (H:Hp) (D:og),Inv X pins σ H s->t D σ H->wpAny (model X.prog X.w) X.A (execs st X.env) (SP X pins D) X.xe s
theorem thn {α:Type}{t:Sem α}{Q Q':α->Shared->Prop}{M:Model}{A:Around}{E:Value->Shared->Prop}{s:Shared} (h:wpAny M A t Q E s) (hQ:∀a s,Q a s->Q' a s):wpAny M A t Q' E s:=wpAny_mono h hQ fun _ _ x=>x
section
variable {X:Cx}
def b5 (i:Nat):TE:=fun σ H Q=>∃v,σ[i]?=some (some v)/\Q v H
def tC (v:V):TE:=fun _ H Q=>Q v H
theorem wc {i:Nat}{x:Str}{pos:Pos} (hN:X.N[i]?=some x) (hv:Vis X.env.scope x) (hd:(x == ("__debug__":Str))=false:=by decide) (hcd:(x == ("__classdict__":Str))=false:=by decide):PE X (.Name x pos) (b5 i):=by
 intro pins s σ H Q I h
 obtain ⟨v,e,h⟩:=h
 obtain ⟨m,hn,hl⟩:=I.loc
 obtain ⟨u,r,l⟩:=hl i x v hN e hv
 have fin:EP X pins σ Q u s:=⟨v,H,I,r,h⟩
 rcases l with ⟨hk,hm⟩ | ⟨hk,c,hc,hcell⟩
 .exact wpAny_Name (wpAny_loadName_local I.ok.kind hk hn hm fin) hd
 .rcases hk with hk | hk
  .exact wpAny_Name (wpAny_loadName_cell I.ok.kind hk hc hcell fin) hd
  .exact wpAny_Name (wpAny_loadName_free I.ok.kind hk hc hcell fin hcd) hd
theorem aw {i j pos}:PE X (.Constant (.int i) j pos) (tC (.int i)):=fun _ _ _ H _ I h=>wpAny_Constant_int ⟨.int i,H,I.tok _,⟨_,rfl⟩,h⟩
theorem fH {b j pos}:PE X (.Constant (.bool b) j pos) (tC (.bl b)):=fun _ _ _ H _ I h=>Constant_bool ⟨.bl b,H,I,rfl,h⟩
theorem oh {j pos}:PE X (.Constant .none j pos) (tC .non):=fun _ _ _ H _ I h=>Constant_none ⟨.non,H,I,rfl,h⟩
theorem wd {x j pos}:PE X (.Constant (.str x) j pos) (tC (.str x)):=fun _ _ _ H _ I h=>Calls.Constant_str ⟨.str x,H,I.tok _,⟨_,rfl⟩,h⟩
def Gl (X:Cx) (x:Str):Prop:=X.env.kindOf x=some .globalImplicit
theorem c5 {E:Value->Shared->Prop}{pins:List (Addr×Obj)}{s:Shared}{σ:St}{H:Hp}{x:Str}{u:Value}{pos:Pos}{Q:Value->Shared->Prop} (I:Inv X pins σ H s) (hg:Gl X x) (hm:X.mg x=some u) (h:Q u s)
  (hd:(x == ("__debug__":Str))=false:=by decide):wpAny (model X.prog X.w) X.A (eval (.Name x pos) X.env) Q E s :=
 Calls.Name_function_global I.ok.kind hg (Calls.loadGlobal_global (by rw [I.ok.glob];exact I.mod.glob.keeps I.bk) hm h) hd
theorem gO {E:Value->Shared->Prop}{pins:List (Addr×Obj)}{s:Shared}{σ:St}{H:Hp}{x:Str}{u:Value}{pos:Pos}{Q:Value->Shared->Prop} (I:Inv X pins σ H s) (hg:Gl X x) (hm:X.mg x=none) (hv:bootBuiltins x=some u) (h:Q u s)
  (hn:x≠"__name__":=by decide) (hd:(x == ("__debug__":Str))=false:=by decide):wpAny (model X.prog X.w) X.A (eval (.Name x pos) X.env) Q E s:=by
 obtain ⟨mb,h1,h2⟩:=I.mod.blt
 exact Calls.Name_function_global I.ok.kind hg (Calls.loadGlobal_builtin (by rw [I.ok.glob];exact I.mod.glob.keeps I.bk) hm (by rw [I.ok.blt];exact h1.keeps I.bk) ((h2 x hn).trans hv) h) hd
theorem tP {x:Str}{v:V}{u:Value}{pos:Pos} (hg:Gl X x) (hm:X.mg x=some u) (r:bR v u) (hd:(x == ("__debug__":Str))=false:=by decide):PE X (.Name x pos) (tC v) :=
 fun _ _ _ H _ I h=>c5 I hg hm ⟨v,H,I,r,h⟩ hd
theorem eZ {x:Str}{v:V}{u:Value}{pos:Pos} (hg:Gl X x) (hm:X.mg x=none) (hv:bootBuiltins x=some u) (r:bR v u) (hn:x≠"__name__":=by decide) (hd:(x == ("__debug__":Str))=false:=by decide):PE X (.Name x pos) (tC v) :=
 fun _ _ _ H _ I h=>gO I hg hm hv ⟨v,H,I,r,h⟩ hn hd
variable {a b:Expr}{ta tb:TE}{pos:Pos}
def tB (t:TE):TT:=fun σ H Q=>t σ H fun x H1=>∃c,x=.bl c/\Q c H1
theorem wf {e:Expr}{t:TE} (h:PE X e t) (he:∀whole,isTrue e X.env whole=(do let v <- whole;standAt e.pos;holding [v] (truthy v)):=by intro _;rfl):PT X e (tB t):=by
 intro pins s σ H Q I hw
 refine isTrue_plain (thn (h pins s σ H _ I hw) fun v s1 ⟨x,H1,I1,r1,q1⟩=>?_) (he _)
 obtain ⟨d,rfl,q⟩:=q1
 cases r1
 exact wpAny_truthy_bool ⟨H1,I1,q⟩
variable {tA tB':TT}{rest:List Expr}
def zy (t u:TT):TT:=fun σ H Q=>t σ H fun c H1=>if c=true then u σ H1 Q else Q false H1
def tOr (t u:TT):TT:=fun σ H Q=>t σ H fun c H1=>if c=true then Q true H1 else u σ H1 Q
def zA (t:TT):TT:=fun σ H Q=>t σ H fun c H1=>Q (!c) H1
theorem tQ (ha:PT X a tA):PW X (.BoolOp .And [a] pos) tA:=by
 intro wh pins s σ H Q I h
 refine isTrue_and (thn (ha pins s σ H Q I h) fun c s1 e=>?_)
 cases c with
 | true=>exact isTrue_and_nil e
 | false=>exact e
theorem ki (ha:PT X a tA):PW X (.BoolOp .Or [a] pos) tA:=by
 intro wh pins s σ H Q I h
 refine isTrue_or (thn (ha pins s σ H Q I h) fun c s1 e=>?_)
 cases c with
 | false=>exact isTrue_or_nil e
 | true=>exact e
theorem wg (ha:PT X a tA) (hb:PW X (.BoolOp .And (b::rest) pos) tB'):PW X (.BoolOp .And (a::b::rest) pos) (zy tA tB'):=by
 intro wh pins s σ H Q I h
 refine isTrue_and (thn (ha pins s σ H _ I h) fun c s1 ⟨H1,I1,q1⟩=>?_)
 cases c with
 | true=>exact hb wh pins s1 σ H1 Q I1 q1
 | false=>exact ⟨H1,I1,q1⟩
theorem kj (ha:PT X a tA) (hb:PW X (.BoolOp .Or (b::rest) pos) tB'):PW X (.BoolOp .Or (a::b::rest) pos) (tOr tA tB'):=by
 intro wh pins s σ H Q I h
 refine isTrue_or (thn (ha pins s σ H _ I h) fun c s1 ⟨H1,I1,q1⟩=>?_)
 cases c with
 | true=>exact ⟨H1,I1,q1⟩
 | false=>exact hb wh pins s1 σ H1 Q I1 q1
theorem cX (ha:PT X a tA):PT X (.UnaryOp .Not a pos) (zA tA):=by
 intro pins s σ H Q I h
 exact isTrue_not (ha pins s σ H (fun c H1=>Q (!c) H1) I h)
def wj (ta tb:TE):TE:=fun σ H Q=>ta σ H fun x H1=>∃c,x=.bl c/\if c=true then tb σ H1 Q else Q (.bl false) H1
def wk (ta:TE):TE:=fun σ H Q=>ta σ H fun x H1=>∃c,x=.bl c/\Q (.bl (!c)) H1
theorem mm {op}{t:TE} (h:PE X a t):PE X (.BoolOp op [a] pos) t:=fun pins s σ H Q I hw=>BoolOp_one (h pins s σ H Q I hw)
theorem i7 (ha:PE X a ta) (hb:PE X (.BoolOp .And (b::rest) pos) tb):PE X (.BoolOp .And (a::b::rest) pos) (wj ta tb):=by
 intro pins s σ H Q I h
 refine BoolOp_and (thn (ha pins s σ H _ I h) fun v s1 ⟨x,H1,I1,r1,q1⟩=>?_)
 obtain ⟨c,rfl,q1⟩:=q1
 cases r1
 refine wpAny_truthy_bool ?_
 cases c with
 | true=>exact hb pins s1 σ H1 Q I1 q1
 | false=>exact ⟨.bl false,H1,I1,rfl,q1⟩
theorem oi (ha:PE X a ta):PE X (.UnaryOp .Not a pos) (wk ta):=by
 intro pins s σ H Q I h
 refine UnaryOp_ (thn (ha pins s σ H _ I h) fun v s1 ⟨x,H1,I1,r1,q1⟩=>?_)
 obtain ⟨c,rfl,q1⟩:=q1
 cases r1
 exact not_of (wpAny_truthy_bool ⟨.bl (!c),H1,I1,rfl,q1⟩)
end
def SqL (K:PySem.W.Frag) (H:Hp) (a:Addr) (xs:List V):Prop :=
 Rd H a (.lst xs) \/
  ∃(o:Obj) (its:Array Value) (n:Nat),K.lookup a=some o/\o.cls=.type "list"/\o.dict=none/\o.data=.seq its n/\its.size<=sizeLine/\bp xs its.toList
def SqT (K:PySem.W.Frag) (H:Hp) (a:Addr) (xs:List V):Prop :=
 Rd H a (.tup xs) \/
  ∃(o:Obj) (its:Array Value) (n:Nat),K.lookup a=some o/\o.cls=.type "tuple"/\o.data=.seq its n/\its.size<=sizeLine/\bp xs its.toList
def Al:Value->Option V
 | .none=>some .non
 | .bool b=>some (.bl b)
 | .int i _=>some (.int i)
 | .str x _=>some (.str x)
 | .bytes b _=>some (.byt b)
 | .float b _=>some (.flt b)
 | .ref a=>some (.ref a)
 | .type n=>some (.ty n)
 | _=>none
theorem bR.abs {x:V}{u:Value} (r:bR x u):Al u=some x:=by
 cases x with
 | non=>cases r;rfl
 | bl _=>cases r;rfl
 | int _=>obtain ⟨t,rfl⟩:=r;rfl
 | str _=>obtain ⟨t,rfl⟩:=r;rfl
 | byt _=>obtain ⟨t,rfl⟩:=r;rfl
 | flt _=>obtain ⟨t,rfl⟩:=r;rfl
 | ref _=>cases r;rfl
 | ty _=>cases r;rfl
theorem bR.inj {x y:V}{u:Value} (r:bR x u) (q:bR y u):x=y:=Option.some.inj (r.abs.symm.trans q.abs)
theorem bp.inj:∀{xs ys:List V}{us:List Value},bp xs us->bp ys us->xs=ys
 | _,_,_,.nil,.nil=>rfl
 | _,_,_,.cons r t,.cons r' t'=>by rw [r.inj r',bp.inj t t']
section
variable {X:Cx}{pins:List (Addr×Obj)}{σ:St}{H:Hp}{s:Shared}{a:Addr}{xs ys:List V}
theorem SqL.of {K:PySem.W.Frag} (h:H a=some (.lst xs)):SqL K H a xs:=.inl (.inl h)
theorem SqT.of {K:PySem.W.Frag} (h:H a=some (.tup xs)):SqT K H a xs:=.inl (.inl h)
theorem Inv.list (I:Inv X pins σ H s) (h:SqL X.K H a xs):∃its:List Value,bp xs its/\PlainL s.heap a its.toArray/\xs.length<=sizeLine:=by
 rcases h with h | ⟨o,its,n,hk,hc,hd,hs,hz,r⟩
 .obtain ⟨z,its,n,r,e⟩:=h.ok I.hok
  exact ⟨its,r,⟨_,n,e,rfl,rfl,rfl⟩,z⟩
 .refine ⟨its.toList,r,⟨o,n,I.kIn a o hk,hc,hd,by simpa using hs⟩,?_⟩
  have e:=r.length
  simp only [Array.length_toList] at e
  omega
theorem Inv.tuple (I:Inv X pins σ H s) (h:SqT X.K H a xs):∃its:List Value,bp xs its/\IsTup s.heap a its.toArray/\xs.length<=sizeLine:=by
 rcases h with h | ⟨o,its,n,hk,hc,hs,hz,r⟩
 .obtain ⟨z,its,r,p⟩:=h.ok I.hok
  exact ⟨its,r,p,z⟩
 .refine ⟨its.toList,r,⟨o,I.kIn a o hk,hc,n,by simpa using hs⟩,?_⟩
  have e:=r.length
  simp only [Array.length_toList] at e
  omega
theorem Inv.list_inj (I:Inv X pins σ H s) (h:SqL X.K H a xs) (h':SqL X.K H a ys):xs=ys:=by
 obtain ⟨its,r,⟨o,n,e,_,_,d⟩,_⟩:=I.list h
 obtain ⟨its',r',⟨o',n',e',_,_,d'⟩,_⟩:=I.list h'
 rw [e] at e';cases e'
 rw [d] at d'
 injection d' with d1 _
 have:its=its':=by simpa using congrArg Array.toList d1
 subst this
 exact r.inj r'
theorem Inv.tuple_inj (I:Inv X pins σ H s) (h:SqT X.K H a xs) (h':SqT X.K H a ys):xs=ys:=by
 obtain ⟨its,r,⟨o,e,_,n,d⟩,_⟩:=I.tuple h
 obtain ⟨its',r',⟨o',e',_,n',d'⟩,_⟩:=I.tuple h'
 rw [e] at e';cases e'
 rw [d] at d'
 injection d' with d1 _
 have:its=its':=by simpa using congrArg Array.toList d1
 subst this
 exact r.inj r'
end
abbrev Cx.wish (X:Cx) (E:Value->Shared->Prop):Cx:={ X with xe:=E }
abbrev Cx.nox (X:Cx):Cx:=X.wish fun _ _=>False
theorem Cx.Ok.wish {X:Cx} (ok:X.Ok) (E:Value->Shared->Prop):(X.wish E).Ok :=
 ⟨ok.mod,ok.kind,ok.glob,ok.blt,ok.above,ok.inj,ok.has,ok.cab,ok.hd,ok.frames,ok.stk,ok.exf,ok.bs,ok.bsz,ok.noex,ok.exfs,ok.funs,ok.frf⟩
theorem Cx.Ok.unwish {X:Cx}{E:Value->Shared->Prop} (ok:(X.wish E).Ok):X.Ok :=
 ⟨ok.mod,ok.kind,ok.glob,ok.blt,ok.above,ok.inj,ok.has,ok.cab,ok.hd,ok.frames,ok.stk,ok.exf,ok.bs,ok.bsz,ok.noex,ok.exfs,ok.funs,ok.frf⟩
section
variable {X:Cx}{pins:List (Addr×Obj)}{σ:St}{H:Hp}{s:Shared}{E:Value->Shared->Prop}
theorem Inv.wish (I:Inv X pins σ H s) (E:Value->Shared->Prop):Inv (X.wish E) pins σ H s:=⟨I.ok.wish E,I.os,I.bare,I.base,I.loc,I.cell,I.free,I.freeC,I.pin,I.hok,I.len⟩
theorem Inv.unwish (I:Inv (X.wish E) pins σ H s):Inv X pins σ H s:=⟨I.ok.unwish,I.os,I.bare,I.base,I.loc,I.cell,I.free,I.freeC,I.pin,I.hok,I.len⟩
theorem SP.unwish {D:og}{f:Flow}{s':Shared} (h:SP (X.wish E) pins D f s'):SP X pins D f s':=by
 cases f with
 | next=>obtain ⟨σ',H',I,q⟩:=h;exact ⟨σ',H',I.unwish,q⟩
 | brk=>obtain ⟨σ',H',I,q⟩:=h;exact ⟨σ',H',I.unwish,q⟩
 | cont=>obtain ⟨σ',H',I,q⟩:=h;exact ⟨σ',H',I.unwish,q⟩
 | ret u=>obtain ⟨v,σ',H',I,r,q⟩:=h;exact ⟨v,σ',H',I.unwish,r,q⟩
theorem PT.nox {e:Expr}{t:TT} (h:PT X.nox e t):PT X e t:=fun pins s σ H Q I hw =>
 wpAny_mono (h pins s σ H Q (I.wish _) hw) (fun _ _ ⟨H',I',q⟩=>⟨H',I'.unwish,q⟩) fun _ _ z=>False.elim z
theorem PSs.nox {st:List Stmt}{t:TS} (h:PSs X.nox st t):PSs X st t:=fun pins s σ H D I hw =>
 wpAny_mono (h pins s σ H D (I.wish _) hw) (fun _ _ q=>q.unwish) fun _ _ z=>False.elim z
end
section
variable {X:Cx}{st:Stmt}{rest:List Stmt}{t u:TS}{e:Expr}{te:TE}{pos:Pos}
def tR:TS:=fun D σ H=>D.nx σ H
def wl (t u:TS):TS:=fun D σ H=>t { D with nx:=u D } σ H
theorem bc:PSs X [] tR:=fun _ _ σ H _ I h=>wpAny_execs_nil ⟨σ,H,I,h⟩
theorem ai (h1:PS X st t) (h2:PSs X rest u):PSs X (st::rest) (wl t u):=by
 intro pins s σ H D I h
 refine wpAny_execs_cons (thn (h1 pins s σ H { D with nx:=u D } I h) fun f s1 q=>?_)
 cases f with
 | next =>
  obtain ⟨σ',H',I',q⟩:=q
  exact h2 pins s1 σ' H' D I' q
 | ret v=>exact q
 | brk=>exact q
 | cont=>exact q
theorem al (h1:PS X st t):PSs X [st] t:=by
 intro pins s σ H D I h
 refine wpAny_execs_cons (thn (h1 pins s σ H D I h) fun f s1 q=>?_)
 cases f with
 | next=>exact wpAny_execs_nil q
 | ret v=>exact q
 | brk=>exact q
 | cont=>exact q
theorem Inv.quiet {pins:List (Addr×Obj)}{σ:St}{H:Hp}{s:Shared} (I:Inv X pins σ H s):interactive X.env=false:=by simp [interactive,I.ok.kind]
def qS (te:TE):TS:=fun D σ H=>te σ H fun _ H1=>D.nx σ H1
theorem fJ (he:PE X e te) (hs:swapsWith e none pos.line X.env=pure false:=by rfl):PS X (.Expr e pos) (qS te):=by
 intro pins s σ H D I h
 exact wpAny_Expr_any (thn (he pins s σ H _ I h) fun v s1 ⟨x,H1,I1,r1,q1⟩=>⟨σ,H1,I1,q1⟩) I.quiet hs
def zB (te:TE):TS:=fun D σ H=>te σ H D.rt
theorem aT (he:PE X e te):PS X (.Return (some e) pos) (zB te):=by
 intro pins s σ H D I h
 exact wpAny_Return_some (thn (he pins s σ H _ I h) fun v s1 ⟨x,H1,I1,r1,q1⟩=>⟨x,σ,H1,I1,r1,q1⟩)
def ym (c:TT) (t u:TS):TS:=fun D σ H=>c σ H fun b H1=>if b=true then t D σ H1 else u D σ H1
theorem cL {c:Expr}{a b:List Stmt}{tc:TT} (hc:PT X c tc) (ha:PSs X a t) (hb:PSs X b u):PS X (.If c a b pos) (ym tc t u):=by
 intro pins s σ H D I h
 refine wpAny_If (thn (hc pins s σ H _ I h) fun d s1 ⟨H1,I1,q1⟩=>?_)
 cases d with
 | true=>exact ha pins s1 σ H1 D I1 q1
 | false=>exact hb pins s1 σ H1 D I1 q1
def sE:TS:=fun _ _ _=>False
end
abbrev TG:=V->St->Hp->(St->Hp->Prop)->Prop
abbrev TGs:=List V->St->Hp->(St->Hp->Prop)->Prop
def PG (X:Cx) (target:Expr) (t:TG):Prop :=
 ∀(pins:List (Addr×Obj)) (s:Shared) (σ:St) (H:Hp) (v:V) (u:Value) (Q:St->Hp->Prop),Inv X pins σ H s->bR v u->t v σ H Q ->
  wpAny (model X.prog X.w) X.A (assign target X.env u) (fun _ s'=>∃σ' H',Inv X pins σ' H' s'/\Q σ' H') X.xe s
def PGs (X:Cx) (ts:List Expr) (t:TGs):Prop :=
 ∀(pins:List (Addr×Obj)) (s:Shared) (σ:St) (H:Hp) (vs:List V) (us:List Value) (Q:St->Hp->Prop),Inv X pins σ H s->bp vs us->t vs σ H Q ->
  wpAny (model X.prog X.w) X.A (assignInOrder ((assignEach ts X.env).map (·.2)) us) (fun _ s'=>∃σ' H',Inv X pins σ' H' s'/\Q σ' H') X.xe s
abbrev yn:=V->V->V->Hp->(Hp->Prop)->Prop
def zC (X:Cx) (t:yn):Prop :=
 ∀(pins:List (Addr×Obj)) (s:Shared) (σ:St) (H:Hp) (o i v:V) (ov iv u:Value) (Q:Hp->Prop),Inv X pins σ H s->bR o ov->bR i iv->bR v u->t o i v H Q ->
  wpAny (model X.prog X.w) X.A (setItem ov iv u) (fun _ s'=>∃H',Inv X pins σ H' s'/\Q H') X.xe s
section
variable {X:Cx}{pos:Pos}
def dH (i:Nat):TG:=fun v σ H Q=>Q (σ.set i (some v)) H
theorem bw {i:Nat}{x:Str} (hN:X.N.Nodup) (hi:X.N[i]?=some x) (hx:Loc X.env.scope x) (hf:X.fn x=true\/X.env.scope.names.lookup x=some .local:=by first | exact .inl rfl | exact .inr rfl | assumption):PG X (.Name x pos) (dH i):=by
 intro pins s σ H v u Q I r h
 exact wpAny_assign_Name (fb I hN hi hx r (fun s' I'=>⟨_,H,I',h⟩) hf)
def zD:TGs:=fun vs σ H Q=>vs=[]/\Q σ H
def wn (t:TG) (u:TGs):TGs:=fun vs σ H Q=>∃v r,vs=v::r/\t v σ H fun σ' H'=>u r σ' H' Q
theorem tS:PGs X [] zD:=by
 intro pins s σ H vs us Q I r h
 obtain ⟨e,h⟩:=h
 subst e
 cases r
 exact assignInOrder_nil ⟨σ,H,I,h⟩
theorem mn {e:Expr}{es:List Expr}{t:TG}{u:TGs} (h1:PG X e t) (h2:PGs X es u)
  (hs:(assignEach (e::es) X.env).map (·.2)=assign e X.env::(assignEach es X.env).map (·.2):=by rfl):PGs X (e::es) (wn t u):=by
 intro pins s σ H vs us Q I r h
 obtain ⟨v,vr,e1,h⟩:=h
 subst e1
 cases r with
 | cons r rr =>
  rw [hs]
  refine assignInOrder_cons (thn (h1 pins s σ H _ _ _ I r h) fun _ s1 ⟨σ1,H1,I1,q1⟩=>?_)
  exact h2 pins s1 σ1 H1 _ _ Q I1 rr q1
def Am (K:PySem.W.Frag) (n:Nat) (t:TGs):TG:=fun v σ H Q=>∃a xs,v=.ref a/\SqT K H a xs/\xs.length=n/\t xs σ H Q
theorem wo {es:List Expr}{k:Nat}{t:TGs}{n:Nat} (hc:X.calm=true) (h:PGs X es t)
  (hn:(assignEach es X.env).length=n:=by rfl) (hst:(assignEach es X.env).findIdx? (·.1)=none:=by rfl):PG X (.Tuple es k pos) (Am X.K n t):=by
 intro pins s σ H v u Q I r hw
 obtain ⟨a,xs,e1,hq,hl,hw⟩:=hw
 subst e1
 cases r
 obtain ⟨its,rv,ht,hz⟩:=I.tuple hq
 refine assign_Tuple_tuple (I.ok.hd hc) ht (by simp [hn,<- hl,rv.length]) hst fun h' hx=>?_
 have I1:Inv X pins σ H { s with heap:=h' }:=I.kept (t':=s.toks) fun b o e=>hx b o (Nat.ne_of_lt (Heap.lt_size e)) e
 exact h pins _ σ H xs _ Q I1 (by simpa using rv) hw
def zE (to ti:TE) (t:yn):TG:=fun v σ H Q=>to σ H fun o H1=>ti σ H1 fun i H2=>t o i v H2 fun H3=>Q σ H3
theorem mo {o i:Expr}{to ti:TE}{t:yn} (ho:PE X o to) (hi:PE X i ti) (hs:zC X t)
  (ha:∀v,assign (.Subscript o i pos) X.env v=(do
   let ov <- holding [v] (eval o X.env)
   let iv <- holding [v,ov] (eval i X.env)
   standAt pos
   holding [v,ov,iv] (setItem ov iv v)
   release [v,ov,iv] []):=by intro _;rfl):PG X (.Subscript o i pos) (zE to ti t):=by
 intro pins s σ H v u Q I r h
 rw [ha]
 refine wpAny_bind (wpAny_holding (thn (ho pins s σ H _ I h) fun ov s1 ⟨x,H1,I1,r1,q1⟩=>?_))
 refine wpAny_bind (wpAny_holding (thn (hi pins s1 σ H1 _ I1 q1) fun iv s2 ⟨y,H2,I2,r2,q2⟩=>?_))
 refine wpAny_bind (wpAny_standAt (wpAny_bind (wpAny_holding (thn (hs pins s2 σ H2 x y v ov iv u _ I2 r1 r2 r q2) fun _ s3 ⟨H3,I3,q3⟩=>?_))))
 exact wpAny_release ⟨σ,H3,I3,q3⟩
def vN (te:TE) (g:TG):TS:=fun D σ H=>te σ H fun x H1=>g x σ H1 D.nx
theorem wp {tg e:Expr}{te:TE}{g:TG} (he:PE X e te) (hg:PG X tg g) (hs:swapsWithSole [tg] e pos.line X.env=pure false:=by rfl) (hw:swappedStores [tg] e X.env=pure none:=by rfl)
  (h1:(assignEach [tg] X.env).map (·.2)=[assign tg X.env]:=by rfl):PS X (.Assign [tg] e pos) (vN te g):=by
 intro pins s σ H D I h
 refine wpAny_Assign_stores (thn (he pins s σ H _ I h) fun v s1 ⟨x,H1,I1,r1,q1⟩=>?_) hs hw
 rw [h1]
 exact thn (hg pins s1 σ H1 x v _ I1 r1 q1) fun _ s2 q=>q
theorem aU {i:Nat}{x:Str}{e:Expr}{te:TE}{pos':Pos} (hN:X.N.Nodup) (hi:X.N[i]?=some x) (hx:Loc X.env.scope x) (he:PE X e te) (hs:swapsWith e (some (.Name x pos')) pos.line X.env=pure false:=by rfl) (hf:X.fn x=true\/X.env.scope.names.lookup x=some .local:=by first | exact .inl rfl | exact .inr rfl | assumption) :
  PS X (.Assign [.Name x pos'] e pos) (vN te (dH i)):=by
 intro pins s σ H D I h
 refine wpAny_Assign_Name (thn (he pins s σ H _ I h) fun v s1 ⟨y,H1,I1,r1,q1⟩=>?_) hs
 exact fb I1 hN hi hx r1 (fun s2 I2=>⟨_,H1,I2,q1⟩) hf
end
structure It where
 go:Nat->Hp->Prop
 yld:Nat->Hp->V->Hp->Prop
 stop:Nat->Hp->Prop
def nY (X:Cx) (pins:List (Addr×Obj)) (H:Hp) (b:Addr):Prop :=
 H b=none/\b≠X.env.locals/\b∉X.fs/\(b∈X.ex\/X.s₀.heap.objs.size<=b)/\(∀x c,X.env.cells.lookup x=some c->c≠b)/\∀p∈X.pn++pins,p.1≠b
theorem Inv.fpOk {X:Cx}{pins:List (Addr×Obj)}{σ:St}{H H':Hp}{s:Shared}{b:Addr} (I:Inv X pins σ H s) (hb:s.heap.objs.size<=b) (hn:H' b=none):nY X pins H' b:=by
 refine ⟨hn,Nat.ne_of_gt (Nat.lt_of_lt_of_le I.lt hb),I.nofs hb,.inr (Nat.le_trans I.sz hb),fun x c e z=>?_,fun p hp z=>?_⟩
 .obtain ⟨v,q⟩:=I.cell x c e
  exact absurd (Nat.lt_of_lt_of_le q.lt (by rw [z];exact hb)) (Nat.lt_irrefl _)
 .exact absurd (Nat.lt_of_lt_of_le (Heap.lt_size (I.pin p hp).1) (by rw [z];exact hb)) (Nat.lt_irrefl _)
structure vO (P:Program) (w:World) (K:PySem.W.Frag) (tg:Expr) (J:It) (fp:List Addr) (it:Addr) (tn:Nat->Heap->Prop):Prop where
 mem:it∈fp
 obj:∀i h,tn i h->∀b∈fp,∃o,h.get? b=some o/\∀v,o.data≠.cell v
 keep:∀i h h',tn i h->(∀b∈fp,∀o,h.get? b=some o->h'.get? b=some o)->tn i h'
 item:∀(X:Cx),X.prog=P->X.w=w->X.K=K->X.calm=true->∀(i:Nat) (pins:List (Addr×Obj)) (s:Shared) (σ:St) (H:Hp) (E:Value->Shared->Prop),Inv X pins σ H s->(∀b∈fp,nY X pins H b)->tn i s.heap->J.go i H ->
  wpAny (model P w) X.A (pyNext (.ref it)) (fun r s1=>∃u,r=some u /\
   wpAny (model P w) X.A (letOwnedTupleGo tg (.ref it) u) (fun _ s2=>∃x H',Inv X pins σ H' s2/\bR x u/\J.yld i H x H'/\tn (i + 1) s2.heap/\∀b∈fp,H' b=none) E s1) E s
 done:∀(X:Cx),X.prog=P->X.w=w->X.K=K->X.calm=true->∀(i:Nat) (pins:List (Addr×Obj)) (s:Shared) (σ:St) (H:Hp) (E:Value->Shared->Prop),Inv X pins σ H s->(∀b∈fp,nY X pins H b)->tn i s.heap->J.stop i H ->
  wpAny (model P w) X.A (pyNext (.ref it)) (fun r s1=>r=none/\Inv X pins σ H s1) E s
 self:∀(A:Around) (i:Nat) (s:Shared) (Q:Value->Shared->Prop) (E:Value->Shared->Prop),tn i s.heap->Q (.ref it) s->wpAny (model P w) A (pyIter (.ref it)) Q E s
abbrev TI:=St->Hp->(It->Hp->Prop)->Prop
def PIE (X:Cx) (pins:List (Addr×Obj)) (σ:St) (tg:Expr) (R:It->Hp->Prop) (itv:Value) (s2:Shared):Prop :=
 ∃(it:Addr) (fp:List Addr) (tn:Nat->Heap->Prop) (J:It) (H':Hp),itv=.ref it/\Inv X pins σ H' s2/\vO X.prog X.w X.K tg J fp it tn/\tn 0 s2.heap/\(∀b∈fp,nY X pins H' b)/\R J H'
def PI (X:Cx) (tg iter:Expr) (wi:TI):Prop :=
 ∀(pins:List (Addr×Obj)) (s:Shared) (σ:St) (H:Hp) (R:It->Hp->Prop),Inv X pins σ H s->wi σ H R ->
  wpAny (model X.prog X.w) X.A (eval iter X.env) (fun v s1=>wpAny (model X.prog X.w) X.A (pyIter v) (PIE X pins σ tg R) X.xe s1) X.xe s
theorem tT {M:Model}{A:Around}{E:Value->Shared->Prop}{s:Shared}{tg:Expr}{it:Addr}{u:Value}{o:Obj}{n:String}{vs:Array Value}{Q:Unit->Shared->Prop} (ho:s.heap.get? it=some o) (hc:o.cls=.type n) (hd:o.data=.fields vs)
    (hn:["enumerate","zip","dict_itemiterator","dict_reverseitemiterator","odict_iterator","itertools.zip_longest","itertools.pairwise"].contains n=false) (hQ:Q () s):wpAny M A (letOwnedTupleGo tg (.ref it) u) Q E s:=by
  unfold letOwnedTupleGo
  cases tg <;> first
    | exact wpAny_pure hQ
    | (cases u <;> first
        | exact wpAny_pure hQ
        | (refine wpAny_bind (wpAny_load ho ?_)
           rw [hc,hd]
           show wpAny M A (if (["enumerate","zip","dict_itemiterator","dict_reverseitemiterator","odict_iterator","itertools.zip_longest","itertools.pairwise"].contains n && vs[0]? == some (rawInt _))=true then _ else _) Q E s
           rw [if_neg (by intro h;rw [hn,Bool.false_and] at h;cases h)]
           exact wpAny_pure hQ))
def Itl (K:PySem.W.Frag) (a:Addr):It :=
 ⟨fun i H=>∃xs x,SqL K H a xs/\xs[i]?=some x,fun i H x H'=>H'=H/\∀xs,SqL K H a xs->xs[i]?=some x,fun i H=>∃xs,SqL K H a xs/\xs.length<=i⟩
def Itt (K:PySem.W.Frag) (a:Addr):It :=
 ⟨fun i H=>∃xs x,SqT K H a xs/\xs[i]?=some x,fun i H x H'=>H'=H/\∀xs,SqT K H a xs->xs[i]?=some x,fun i H=>∃xs,SqT K H a xs/\xs.length<=i⟩
def Itr (lo:Int) (n:Nat):It:=⟨fun i _=>i < n,fun i H x H'=>H'=H/\x=.int (lo + i),fun i _=>n<=i⟩
theorem oj {P:Program}{w:World}{K:PySem.W.Frag}{tg:Expr} (a it:Addr):vO P w K tg (Itl K a) [it] it (fun i h=>h.IsListIter it a i) where
 mem:=by simp
 obj:=fun i h st b hb=>by
  have e:b=it:=by simpa using hb
  subst e
  obtain ⟨o,e,c,d⟩:=st
  exact ⟨o,e,fun v z=>by rw [d] at z;cases z⟩
 keep:=fun i h h' st k=>st.at fun o e=>k it (by simp) o e
 item:=by
  intro X hP hw hK hc i pins s σ H E I hf st hg
  subst hP hw hK
  obtain ⟨xs,x,hq,hx⟩:=hg
  obtain ⟨its,rv,p,hz⟩:=I.list hq
  obtain ⟨u,hu,ru⟩:=rv.get hx
  obtain ⟨f0,f1,f2,f3,f4,f5⟩:=hf it (by simp)
  refine wpAny_pyNext_list_item st p.isList (x:=u) (by simpa using hu) fun h' st' sb=>?_
  have I1:Inv X pins σ H { s with heap:=h' }:=I.turned (t':=s.toks) (fun b o hb e=>(sb.2 b hb).trans e) f0 f1 f3 f4 f5
  obtain ⟨o,e,c,d⟩:=id st'
  exact ⟨u,rfl,tT (s:={ s with heap:=h' }) e c d (by decide) ⟨x,H,I1,ru,⟨rfl,fun ys hy=>by rw [I.list_inj hy hq];exact hx⟩,st',fun b hb=>(hf b hb).1⟩⟩
 done:=by
  intro X hP hw hK hc i pins s σ H E I hf st hg
  subst hP hw hK
  obtain ⟨xs,hq,hx⟩:=hg
  obtain ⟨its,rv,p,hz⟩:=I.list hq
  obtain ⟨f0,f1,f2,f3,f4,f5⟩:=hf it (by simp)
  have hl:=rv.length
  exact wpAny_pyNext_list_end (I.ok.hd hc) st p.isList (by simp;omega) fun h' eb=>⟨rfl,I.turned (t':=s.toks) (fun b o hb e=>eb b o hb e) f0 f1 f3 f4 f5⟩
 self:=fun _ _ _ _ _ st h=>wpAny_pyIter_listiter st h
theorem m8 {P:Program}{w:World}{K:PySem.W.Frag}{tg:Expr} (a it:Addr):vO P w K tg (Itt K a) [it] it (fun i h=>h.IsTupleIter it a i) where
 mem:=by simp
 obj:=fun i h st b hb=>by
  have e:b=it:=by simpa using hb
  subst e
  obtain ⟨o,e,c,d⟩:=st
  exact ⟨o,e,fun v z=>by rw [d] at z;cases z⟩
 keep:=fun i h h' st k=>st.at fun o e=>k it (by simp) o e
 item:=by
  intro X hP hw hK hc i pins s σ H E I hf st hg
  subst hP hw hK
  obtain ⟨xs,x,hq,hx⟩:=hg
  obtain ⟨its,rv,p,hz⟩:=I.tuple hq
  obtain ⟨u,hu,ru⟩:=rv.get hx
  obtain ⟨f0,f1,f2,f3,f4,f5⟩:=hf it (by simp)
  refine wpAny_pyNext_tuple_item st (show s.heap.IsTuple a its.toArray from p) (x:=u) (by simpa using hu) fun h' st' sb=>?_
  have I1:Inv X pins σ H { s with heap:=h' }:=I.turned (t':=s.toks) (fun b o hb e=>(sb.2 b hb).trans e) f0 f1 f3 f4 f5
  obtain ⟨o,e,c,d⟩:=id st'
  exact ⟨u,rfl,tT (s:={ s with heap:=h' }) e c d (by decide) ⟨x,H,I1,ru,⟨rfl,fun ys hy=>by rw [I.tuple_inj hy hq];exact hx⟩,st',fun b hb=>(hf b hb).1⟩⟩
 done:=by
  intro X hP hw hK hc i pins s σ H E I hf st hg
  subst hP hw hK
  obtain ⟨xs,hq,hx⟩:=hg
  obtain ⟨its,rv,p,hz⟩:=I.tuple hq
  obtain ⟨f0,f1,f2,f3,f4,f5⟩:=hf it (by simp)
  have hl:=rv.length
  exact wpAny_pyNext_tuple_end (I.ok.hd hc) st (show s.heap.IsTuple a its.toArray from p) (by simp;omega) fun h' eb=>⟨rfl,I.turned (t':=s.toks) (fun b o hb e=>eb b o hb e) f0 f1 f3 f4 f5⟩
 self:=fun _ _ _ _ _ st h=>wpAny_pyIter_tupleiter st h
theorem m9 {P:Program}{w:World}{K:PySem.W.Frag}{tg:Expr} (it:Addr) (lo:Int) (n:Nat):vO P w K tg (Itr lo n) [it] it (fun i h=>IsRangeIter h it (lo + (i:Nat) * 1) ((n:Int) - (i:Nat)) 1) where
 mem:=by simp
 obj:=fun i h st b hb=>by
  have e:b=it:=by simpa using hb
  subst e
  exact ⟨_,st,fun v z=>by
   have z':Data.fields _=Data.cell v:=z
   cases z'⟩
 keep:=fun i h h' st k=>k it (by simp) _ st
 item:=by
  intro X hP hw hK hc i pins s σ H E I hf st hg
  subst hP hw hK
  obtain ⟨f0,f1,f2,f3,f4,f5⟩:=hf it (by simp)
  have W:=Walks.range (prog:=X.prog) (w:=X.w) (I.ok.hd hc) it lo 1 n
  refine W.item i s _ _ hg st fun v h' tk hv st' kk=>?_
  obtain ⟨t,rfl⟩:=hv
  have I1:Inv X pins σ H { s with heap:=h',toks:=tk }:=I.turned (fun b o hb e=>kk b o (by simpa using hb) e) f0 f1 f3 f4 f5
  refine ⟨_,rfl,tT (s:={ s with heap:=h',toks:=tk }) (n:="range_iterator") st' rfl rfl (by decide) ⟨.int (lo + i),H,I1,⟨t,?_⟩,⟨rfl,rfl⟩,st',fun b hb=>(hf b hb).1⟩⟩
  rw [Int.mul_one]
 done:=by
  intro X hP hw hK hc i pins s σ H E I hf st hg
  subst hP hw hK
  obtain ⟨f0,f1,f2,f3,f4,f5⟩:=hf it (by simp)
  exact wpAny_pyNext_range_end (I.ok.hd hc) st (by have:n<=i:=hg;omega) fun h' eb=>⟨rfl,I.turned (t':=s.toks) (fun b o hb e=>eb b o hb e) f0 f1 f3 f4 f5⟩
 self:=fun _ _ _ _ _ st h=>wpAny_pyIter_rangeiter st h
section
variable {X:Cx}{tg:Expr}
theorem qT {pins:List (Addr×Obj)}{σ:St}{H:Hp}{s:Shared}{R:It->Hp->Prop}{E:Value->Shared->Prop}{lo hi:Int}{t u v:Tok}{tk:Nat} (I:Inv X pins σ H s) (h1:-(2 ^ 62)<=lo) (h2:lo < 2 ^ 62) (h3:-(2 ^ 62)<=hi) (h4:hi < 2 ^ 62)
  (q:R (Itr lo (hi - lo).toNat) H):wpAny (model X.prog X.w) X.A (pyIter (.ref s.heap.objs.size)) (PIE X pins σ tg R) E { s with heap:=s.heap.push { cls:=.type "range",data:=.fields #[.int lo t,.int hi u,.int 1 v] },toks:=tk }:=by
 refine wpAny_pyIter_range (IsRange.new ..) (small_one h1 h2 h3 h4) ?_
 have I1:Inv X pins σ H { s with heap:=s.heap.push { cls:=.type "range",data:=.fields #[.int lo t,.int hi u,.int 1 v] },toks:=tk }:=I.kept fun b o e=>Heap.get?_push_of_some _ e
 refine ⟨(s.heap.push { cls:=.type "range",data:=.fields #[.int lo t,.int hi u,.int 1 v] }).objs.size,[(s.heap.push { cls:=.type "range",data:=.fields #[.int lo t,.int hi u,.int 1 v] }).objs.size],_,_,H,rfl,
  I1.kept (t':=tk) fun b o e=>Heap.get?_push_of_some _ e,m9 _ lo (hi - lo).toNat,?_,fun b hb=>?_,q⟩
 .have e1:lo + ((0:Nat):Int) * 1=lo:=by simp
  have e2:(((hi - lo).toNat:Nat):Int) - ((0:Nat):Int)=Builtin.Range.rangeSize lo hi 1:=by rw [rangeSize_one];split <;> omega
  show IsRangeIter _ _ (lo + ((0:Nat):Int) * 1) ((((hi - lo).toNat:Nat):Int) - ((0:Nat):Int)) 1
  rw [e1,e2]
  exact Heap.get?_push_size _ rfl
 .have e:b=(s.heap.push { cls:=.type "range",data:=.fields #[.int lo t,.int hi u,.int 1 v] }).objs.size:=by simpa using hb
  subst e
  exact I1.fpOk (Nat.le_refl _) (I1.hok.fresh (Nat.le_refl _))
def qU (ta:TA):TI:=fun σ H R=>ta σ H fun vs H1=>∃j:Int,vs=[.int j]/\-(2 ^ 62)<=j/\j < 2 ^ 62/\R (Itr 0 j.toNat) H1
theorem dM {a:Expr}{ta:TA}{p pos:Pos} (hg:Gl X "range") (hm:X.mg "range"=none) (ha:PA X [a] ta) (hs:starEach [a] X.env=[(false,eval a X.env)]:=by rfl):PI X tg (.Call (.Name "range" p) [a] [] pos) (qU ta):=by
 intro pins s σ H R I h
 refine Call_ (gO I hg hm boot_range (PyProof.Rows.callWith_type1 (thn (ha pos pins s σ H _ I h) fun us s1 ⟨vs,H1,I1,r1,q1⟩=>?_) hs rfl))
 obtain ⟨j,e,q1,q2,q⟩:=q1
 subst e
 cases r1 with
 | cons r rr =>
  cases rr
  obtain ⟨t,rfl⟩:=r
  exact call_range_1 (qT I1 (by omega) (by omega) q1 q2 (by simpa using q))
def yo (wi:TI) (g:TG) (tb:TS):TS:=fun D σ H=>wi σ H fun J H1=>∃W:Nat->Nat->St->Hp->Prop,(∃m,W 0 m σ H1)/\∀i m σ H,W i m σ H ->
 (J.stop i H/\D.nx σ H)\/(J.go i H/\∃N:St->Hp->Prop,(∀σ' H',N σ' H'->∃m',m' < m/\W (i + 1) m' σ' H')/\∀x H',J.yld i H x H'->g x σ H' fun σ2 H2=>tb { D with nx:=N,ct:=N,bk:=D.nx } σ2 H2)
def km (fp:List Addr) (h:Heap):List (Addr×Obj):=fp.filterMap fun b=>(h.get? b).map fun o=>(b,o)
theorem eB {fp:List Addr}{h:Heap}{b:Addr}{o:Obj} (hb:b∈fp) (e:h.get? b=some o):(b,o)∈km fp h:=List.mem_filterMap.mpr ⟨b,hb,by rw [e];rfl⟩
theorem om {fp:List Addr}{h:Heap}{p:Addr×Obj} (hp:p∈km fp h):p.1∈fp/\h.get? p.1=some p.2:=by
 obtain ⟨b,hb,e⟩:=List.mem_filterMap.mp hp
 cases q:h.get? b with
 | none=>rw [q] at e;cases e
 | some o =>
  rw [q] at e
  have e':(b,o)=p:=Option.some.inj e
  subst e'
  exact ⟨hb,q⟩
theorem Inv.pinned {pins:List (Addr×Obj)}{σ:St}{H:Hp}{s:Shared}{fp:List Addr} (I:Inv X pins σ H s) (hf:∀b∈fp,nY X pins H b) (ho:∀b∈fp,∃o,s.heap.get? b=some o/\∀v,o.data≠.cell v):Inv X (pins++km fp s.heap) σ H s :=
 I.pins_of fun p hp=>(List.mem_append.mp hp).elim (fun z=>I.pin p (List.mem_append_right _ z)) fun z=>by
  obtain ⟨hb,e⟩:=om z
  obtain ⟨f0,f1,f2,_⟩:=hf p.1 hb
  obtain ⟨o,e',d⟩:=ho p.1 hb
  rw [e] at e';cases e'
  exact ⟨e,f0,f1,f2,d⟩
theorem Inv.unpinned {pins pl:List (Addr×Obj)}{σ:St}{H:Hp}{s:Shared} (I:Inv X (pins++pl) σ H s):Inv X pins σ H s:=I.pins_of fun p hp=>I.pin p (List.mem_append_right _ (List.mem_append_left _ hp))
theorem kn {iter:Expr}{body:List Stmt}{wi:TI}{g:TG}{tb:TS}{pos:Pos} (hp:PassesOwn (model X.prog X.w) X.A X.env X.xe) (hc:X.calm=true) (hi:PI X tg iter wi) (hg:PG X tg g) (hb:PSs X body tb)
  (hs:∀x,foldedSetIterable iter X.env x=pure x:=by intro _;rfl):PS X (.For tg iter body [] pos) (yo wi g tb):=by
 intro pins s σ H D I h
 refine wpAny_For (thn (hi pins s σ H _ I h) fun v s1 h1=>thn h1 fun itv s2 h2=>?_) hs
 obtain ⟨it,fp,tn,J,H2,e,I2,T,st2,f2,W,⟨m0,w0⟩,turn⟩:=h2
 subst e
 -- what stays true of the iterator's objects through the loop
 have stat:∀{H':Hp},(∀b∈fp,H' b=none)->∀b∈fp,nY X pins H' b:=fun hn b hb=>⟨hn b hb,(f2 b hb).2⟩
 refine codeAny_forLoop_any (fun n s'=>∃i σ' H',Inv X pins σ' H' s'/\tn i s'.heap/\(∀b∈fp,H' b=none)/\W i n σ' H') ?_ m0 ⟨0,σ,H2,I2,st2,fun b hb=>(f2 b hb).1,w0⟩
 rintro n s3 ⟨i,σ3,H3,I3,st3,fr3,w3⟩
 rcases turn i n σ3 H3 w3 with ⟨stop,qn⟩ | ⟨go,N,hN,step⟩
 .refine wpAny_passesOwn hp (thn (T.done X rfl rfl rfl hc i pins s3 σ3 H3 X.xe I3 (stat fr3) st3 stop) fun r s4 ⟨hr,I4⟩=>?_)
  subst hr
  exact wpAny_execs_nil ⟨σ3,H3,I4,qn⟩
 .refine wpAny_passesOwn hp (thn (T.item X rfl rfl rfl hc i pins s3 σ3 H3 X.xe I3 (stat fr3) st3 go) fun r s4 ⟨u,hr,h4⟩=>?_)
  subst hr
  refine wpAny_passesOwn hp (thn h4 fun _ s5 ⟨x,H5,I5,r5,y5,st5,fr5⟩=>?_)
  have I5':=I5.pinned (stat fr5) (T.obj _ _ st5)
  refine wpAny_passesOwn hp (thn (hg _ s5 σ3 H5 x u _ I5' r5 (step x H5 y5)) fun _ s6 ⟨σ6,H6,I6,q6⟩=>?_)
  refine wpAny_passesOwn hp (thn (hb _ s6 σ6 H6 _ I6 q6) fun f s7 q7=>?_)
  have again:∀{σ7:St}{H7:Hp},Inv X (pins++km fp s5.heap) σ7 H7 s7->N σ7 H7->∃m,m < n/\∃i σ' H',Inv X pins σ' H' s7/\tn i s7.heap/\(∀b∈fp,H' b=none)/\W i m σ' H':=fun {σ7 H7} I7 n7=>by
   obtain ⟨m',hm,w7⟩:=hN σ7 H7 n7
   refine ⟨m',hm,i + 1,σ7,H7,I7.unpinned,T.keep _ _ _ st5 fun b hb o e=>(I7.pin (b,o) (List.mem_append_right _ (List.mem_append_right _ (eB hb e)))).1,fun b hb=>?_,w7⟩
   obtain ⟨o,e,d⟩:=T.obj _ _ st5 b hb
   exact (I7.pin (b,o) (List.mem_append_right _ (List.mem_append_right _ (eB hb e)))).2.1
  cases f with
  | next=>obtain ⟨σ7,H7,I7,n7⟩:=q7;exact again I7 n7
  | cont=>obtain ⟨σ7,H7,I7,n7⟩:=q7;exact again I7 n7
  | brk=>obtain ⟨σ7,H7,I7,q7⟩:=q7;exact ⟨σ7,H7,I7.unpinned,q7⟩
  | ret v=>obtain ⟨x7,σ7,H7,I7,r7,q7⟩:=q7;exact ⟨x7,σ7,H7,I7.unpinned,r7,q7⟩
end
abbrev R2:=V->V->Hp->VK->Prop
def OpR (X:Cx) (f:Value->Value->Sem Value) (r:R2):Prop :=
 ∀(pins:List (Addr×Obj)) (s:Shared) (σ:St) (H:Hp) (x y:V) (v u:Value) (Q:VK),Inv X pins σ H s->bR x v->bR y u->r x y H Q ->
  wpAny (model X.prog X.w) X.A (f v u) (EP X pins σ Q) X.xe s
def UnR (X:Cx) (f:Value->Sem Value) (r:V->Hp->VK->Prop):Prop :=
 ∀(pins:List (Addr×Obj)) (s:Shared) (σ:St) (H:Hp) (x:V) (v:Value) (Q:VK),Inv X pins σ H s->bR x v->r x H Q ->
  wpAny (model X.prog X.w) X.A (f v) (EP X pins σ Q) X.xe s
def a9 (X:Cx) (f:Value) (r:List V->Hp->VK->Prop):Prop :=
 ∀(pins:List (Addr×Obj)) (s:Shared) (σ:St) (H:Hp) (xs:List V) (us:List Value) (Q:VK),Inv X pins σ H s->bp xs us->r xs H Q ->
  wpAny (model X.prog X.w) X.A (call f us) (EP X pins σ Q) X.xe s
def tOp (r:R2) (ta tb:TE):TE:=fun σ H Q=>ta σ H fun x H1=>tb σ H1 fun y H2=>r x y H2 Q
def tUn (r:V->Hp->VK->Prop) (ta:TE):TE:=fun σ H Q=>ta σ H fun x H1=>r x H1 Q
def rI (C:Int->Int->Prop) (g:Int->Int->V):R2:=fun x y H Q=>∃i j,x=.int i/\y=.int j/\C i j/\Q (g i j) H
def rI0 (g:Int->Int->V):R2:=fun x y H Q=>∃i j,x=.int i/\y=.int j/\Q (g i j) H
def rU (g:Int->V):V->Hp->VK->Prop:=fun x H Q=>∃i,x=.int i/\Q (g i) H
section
variable {X:Cx}{a b c:Expr}{ta tb tc:TE}{pos:Pos}
theorem yp (ha:PE X a ta) (hb:PE X b tb) {pins:List (Addr×Obj)}{s:Shared}{σ:St}{H:Hp}{R:V->V->Hp->Prop} (I:Inv X pins σ H s)
  (h:ta σ H fun x H1=>tb σ H1 fun y H2=>R x y H2) {Q:Value->Shared->Prop}{f:Value->Value->Sem Value}
  (hf:∀v u s2 x y H2,Inv X pins σ H2 s2->bR x v->bR y u->R x y H2->wpAny (model X.prog X.w) X.A (f v u) Q X.xe s2) :
  wpAny (model X.prog X.w) X.A (eval a X.env) (fun v s₁=>wpAny (model X.prog X.w) X.A (eval b X.env) (fun u s₂=>wpAny (model X.prog X.w) X.A (f v u) Q X.xe s₂) X.xe s₁) X.xe s:=by
 refine thn (ha pins s σ H _ I h) fun v s1 ⟨x,H1,I1,r1,q1⟩=>?_
 refine thn (hb pins s1 σ H1 _ I1 q1) fun u s2 ⟨y,H2,I2,r2,q2⟩=>?_
 exact hf v u s2 x y H2 I2 r1 r2 q2
theorem bx {op:Operator}{r:R2} (ho:OpR X (binaryOp op) r) (ha:PE X a ta) (hb:PE X b tb):PE X (.BinOp a op b pos) (tOp r ta tb):=by
 intro pins s σ H Q I h
 exact wpAny_BinOp (yp ha hb I h fun v u s2 x y H2 I2 rx ry q=>ho pins s2 σ H2 x y v u Q I2 rx ry q)
theorem yq {op:UnaryOp}{r:V->Hp->VK->Prop} (ho:UnR X (unaryOp op) r) (ha:PE X a ta):PE X (.UnaryOp op a pos) (tUn r ta):=by
 intro pins s σ H Q I h
 exact UnaryOp_ (thn (ha pins s σ H _ I h) fun v s1 ⟨x,H1,I1,r1,q1⟩=>ho pins s1 σ H1 x v Q I1 r1 q1)
theorem opI {f:Value->Value->Sem Value}{C:Int->Int->Prop}{g:Int->Int->Int}
  (rule:∀(i j:Int) (t u:Tok) (s:Shared) (Q:Value->Shared->Prop) (E:Value->Shared->Prop),C i j->Q (.int (g i j) s.toks) { s with toks:=s.toks + 1 }->wpAny (model X.prog X.w) X.A (f (.int i t) (.int j u)) Q E s) :
  OpR X f (rI C fun i j=>.int (g i j)):=by
 intro pins s σ H x y v u Q I rx ry h
 obtain ⟨i,j,rfl,rfl,hc,q⟩:=h
 obtain ⟨t,rfl⟩:=rx
 obtain ⟨t',rfl⟩:=ry
 exact rule i j t t' s _ _ hc ⟨.int (g i j),H,I.tok _,⟨_,rfl⟩,q⟩
theorem zF {f:Value->Value->Sem Value}{g:Int->Int->Int}
  (rule:∀(i j:Int) (t u:Tok) (s:Shared) (Q:Value->Shared->Prop) (E:Value->Shared->Prop),Q (.int (g i j) s.toks) { s with toks:=s.toks + 1 }->wpAny (model X.prog X.w) X.A (f (.int i t) (.int j u)) Q E s) :
  OpR X f (rI0 fun i j=>.int (g i j)):=by
 intro pins s σ H x y v u Q I rx ry h
 obtain ⟨i,j,rfl,rfl,q⟩:=h
 obtain ⟨t,rfl⟩:=rx
 obtain ⟨t',rfl⟩:=ry
 exact rule i j t t' s _ _ ⟨.int (g i j),H,I.tok _,⟨_,rfl⟩,q⟩
theorem wq {f:Value->Value->Sem Value}{g:Int->Int->Bool}
  (rule:∀(i j:Int) (t u:Tok) (s:Shared) (Q:Value->Shared->Prop) (E:Value->Shared->Prop),Q (.bool (g i j)) s->wpAny (model X.prog X.w) X.A (f (.int i t) (.int j u)) Q E s) :
  OpR X f (rI0 fun i j=>.bl (g i j)):=by
 intro pins s σ H x y v u Q I rx ry h
 obtain ⟨i,j,rfl,rfl,q⟩:=h
 obtain ⟨t,rfl⟩:=rx
 obtain ⟨t',rfl⟩:=ry
 exact rule i j t t' s _ _ ⟨.bl (g i j),H,I,rfl,q⟩
def yr (i j:Int):Prop:=0 < j/\j < 1073741824
def yt (i j:Int):Prop:=0<=j/\j<=1000000/\i.natAbs < 2 ^ 64
def yf (i j:Int):Prop:=(-(2 ^ 64) < i/\i < 2 ^ 64)\/(-(2 ^ 64) < j/\j < 2 ^ 64)
theorem yf.ok {i j:Int} (h:yf i j):IntMulOk i j:=by
 rcases h with ⟨h1,h2⟩ | ⟨h1,h2⟩
 .exact .of_left (intBits_le_64 h1 h2)
 .exact .of_right (intBits_le_64 h1 h2)
theorem wt:OpR X (binaryOp .Add) (rI0 fun i j=>.int (i + j)):=zF fun _ _ _ _ _ _ _ q=>add_int q
theorem wu:OpR X (binaryOp .Sub) (rI0 fun i j=>.int (i - j)):=zF fun _ _ _ _ _ _ _ q=>sub_int q
theorem wv:OpR X (binaryOp .Mult) (rI yf fun i j=>.int (i * j)):=opI fun _ _ _ _ _ _ _ hc q=>mul_int q hc.ok
theorem tU:OpR X (binaryOp .FloorDiv) (rI yr fun i j=>.int (i / j)):=opI fun i j _ _ _ _ _ hc q=>by
 have h1:(0:Int) < j:=hc.1
 have h2:j < 1073741824:=hc.2
 exact floordiv_int (by omega) (by rw [Int.fdiv_eq_ediv_of_nonneg i (by omega)];exact q) (.inl (PyProof.noPylong_small (by omega)))
theorem ww:OpR X (binaryOp .Mod) (rI (fun _ j=>0 < j) fun i j=>.int (i % j)):=opI fun i j _ _ _ _ _ hc q=>by
 have h1:(0:Int) < j:=hc
 exact mod_int' (by omega) (by rw [Int.fmod_eq_emod_of_nonneg i (by omega)];exact q)
theorem wx:OpR X (binaryOp .Pow) (rI yt fun i j=>.int (i ^ j.toNat)):=opI fun _ _ _ _ _ _ _ hc q=>pow_int_small hc.1 hc.2.1 hc.2.2 q
theorem unI {f:Value->Sem Value}{g:Int->Int}
  (rule:∀(i:Int) (t:Tok) (s:Shared) (Q:Value->Shared->Prop) (E:Value->Shared->Prop),Q (.int (g i) s.toks) { s with toks:=s.toks + 1 }->wpAny (model X.prog X.w) X.A (f (.int i t)) Q E s) :
  UnR X f (rU fun i=>.int (g i)):=by
 intro pins s σ H x v Q I rx h
 obtain ⟨i,rfl,q⟩:=h
 obtain ⟨t,rfl⟩:=rx
 exact rule i t s _ _ ⟨.int (g i),H,I.tok _,⟨_,rfl⟩,q⟩
theorem wy:UnR X (unaryOp .USub) (rU fun i=>.int (-i)):=unI fun _ _ _ _ _ q=>neg_int q
end
def An:V->V->Bool
 | .non,.non=>true | .non,.int _=>true | .int _,.non=>true | .non,.bl _=>true | .bl _,.non=>true | .non,.str _=>true | .str _,.non=>true
 | .int _,.int _=>true | .bl _,.bl _=>true | .str _,.str _=>true | .byt _,.byt _=>true
 | .int _,.str _=>true | .str _,.int _=>true | .bl _,.str _=>true | .str _,.bl _=>true
 | _,_=>false
def rEq:R2:=fun x y H Q=>An x y=true/\Q (.bl (decide (x=y))) H
theorem tV {i j:Int}:decide (V.int i=V.int j)=(i == j):=by
 rw [Bool.eq_iff_iff]
 simp
theorem wz {i j:Bool}:decide (V.bl i=V.bl j)=(i == j):=by
 rw [Bool.eq_iff_iff]
 simp
theorem tW {i j:Str}:decide (V.str i=V.str j)=(i == j):=by
 rw [Bool.eq_iff_iff]
 simp
theorem tX {i j:Array UInt8}:decide (V.byt i=V.byt j)=(i.toList == j.toList):=by
 rw [Bool.eq_iff_iff]
 cases i
 cases j
 simp
section
variable {X:Cx}{a b c:Expr}{ta tb tc:TE}{pos:Pos}
theorem cu {pins:List (Addr×Obj)}{σ:St}{H:Hp}{s:Shared}{Q:VK}{k k':Bool} (I:Inv X pins σ H s) (q:Q (.bl k) H) (e:k=k'):EP X pins σ Q (.bool k') s:=by
 subst e
 exact ⟨.bl k,H,I,rfl,q⟩
theorem yu:OpR X (compareOp .Eq) rEq:=by
 intro pins s σ H x y v u Q I rx ry h
 obtain ⟨hs,q⟩:=h
 cases x with
 | non =>
  cases rx
  cases y with
  | non=>cases ry;exact PySem.EqNone.eq_none_none (cu I q (by simp))
  | bl j=>cases ry;exact PySem.EqNone.eq_none_bool (cu I q (by simp))
  | int j=>obtain ⟨t',rfl⟩:=ry;exact PySem.EqNone.eq_none_int (cu I q (by simp))
  | str j=>obtain ⟨t',rfl⟩:=ry;exact PySem.EqNone.eq_none_str (cu I q (by simp))
  | _=>exact absurd (show false=true from hs) Bool.false_ne_true
 | bl i =>
  cases rx
  cases y with
  | non=>cases ry;exact PySem.EqNone.eq_bool_none (cu I q (by simp))
  | bl j=>cases ry;exact eq_bool (cu I q wz)
  | str j=>obtain ⟨t',rfl⟩:=ry;exact PySem.EqMixed.eq_bool_str (cu I q (by simp))
  | _=>exact absurd (show false=true from hs) Bool.false_ne_true
 | int i =>
  obtain ⟨t,rfl⟩:=rx
  cases y with
  | non=>cases ry;exact PySem.EqNone.eq_int_none (cu I q (by simp))
  | int j=>obtain ⟨t',rfl⟩:=ry;exact eq_int (cu I q tV)
  | str j=>obtain ⟨t',rfl⟩:=ry;exact PySem.EqMixed.eq_int_str (cu I q (by simp))
  | _=>exact absurd (show false=true from hs) Bool.false_ne_true
 | str i =>
  obtain ⟨t,rfl⟩:=rx
  cases y with
  | non=>cases ry;exact PySem.EqNone.eq_str_none (cu I q (by simp))
  | bl j=>cases ry;exact PySem.EqMixed.eq_str_bool (cu I q (by simp))
  | int j=>obtain ⟨t',rfl⟩:=ry;exact PySem.EqMixed.eq_str_int (cu I q (by simp))
  | str j=>obtain ⟨t',rfl⟩:=ry;exact eq_str (cu I q tW)
  | _=>exact absurd (show false=true from hs) Bool.false_ne_true
 | byt i =>
  obtain ⟨t,rfl⟩:=rx
  cases y with
  | byt j=>obtain ⟨t',rfl⟩:=ry;exact PySem.W.eq_bytes (cu I q tX)
  | _=>exact absurd (show false=true from hs) Bool.false_ne_true
 | _=>cases y <;> exact absurd (show false=true from hs) Bool.false_ne_true
theorem yv:OpR X (compareOp .Lt) (rI0 fun i j=>.bl (decide (i < j))):=wq fun _ _ _ _ _ _ _ q=>lt_int q
theorem yw:OpR X (compareOp .LtE) (rI0 fun i j=>.bl (decide (i<=j))):=wq fun _ _ _ _ _ _ _ q=>le_int q
theorem yx:OpR X (compareOp .Gt) (rI0 fun i j=>.bl (decide (j < i))):=wq fun _ _ _ _ _ _ _ q=>gt_int q
theorem yy:OpR X (compareOp .GtE) (rI0 fun i j=>.bl (decide (j<=i))):=wq fun _ _ _ _ _ _ _ q=>ge_int q
theorem oq:OpR X (compareOp .Lt) (fun x y H Q=>∃i j,x=.str i/\y=.str j/\Q (.bl (decide (i.cps.toList < j.cps.toList))) H):=by
 intro pins s σ H x y v u Q I rx ry h
 obtain ⟨i,j,rfl,rfl,q⟩:=h
 obtain ⟨t,rfl⟩:=rx
 obtain ⟨t',rfl⟩:=ry
 exact lt_str (cu I q rfl)
theorem OpR.or {f:Value->Value->Sem Value}{r r':R2} (h:OpR X f r) (h':OpR X f r'):OpR X f (fun x y H Q=>r x y H Q\/r' x y H Q):=by
 intro pins s σ H x y v u Q I rx ry q
 rcases q with q | q
 .exact h pins s σ H x y v u Q I rx ry q
 .exact h' pins s σ H x y v u Q I rx ry q
theorem bJ (b:Expr) {op:CmpOp} (h:op≠.In:=by decide) (h2:op≠.NotIn:=by decide):behindInMarks op b=false:=by
 have e1:(op == CmpOp.In)=false:=by cases op <;> first | rfl | exact absurd rfl h
 have e2:(op == CmpOp.NotIn)=false:=by cases op <;> first | rfl | exact absurd rfl h2
 cases b <;> simp [behindInMarks,e1,e2]
theorem dN {op:CmpOp}{r:R2} (ho:OpR X (compareOp op) r) (ha:PE X a ta) (hb:PE X b tb) (hm:behindInMarks op b=false):PE X (.Compare a [op] [b] pos) (tOp r ta tb):=by
 intro pins s σ H Q I h
 exact wpAny_Compare1 (yp ha hb I h fun v u s2 x y H2 I2 rx ry q=>ho pins s2 σ H2 x y v u Q I2 rx ry q) hm
def ou (t:TE):TT:=fun σ H Q=>t σ H fun x H'=>∃k,x=.bl k/\Q k H'
theorem bS {op:CmpOp}{r:R2} (ho:OpR X (compareOp op) r) (ha:PE X a ta) (hb:PE X b tb) (hm:behindInMarks op b=false):PT X (.Compare a [op] [b] pos) (ou (tOp r ta tb)):=by
 intro pins s σ H Q I h
 refine wpAny_isTrue_Compare1 (thn (ha pins s σ H _ I h) fun v s1 ⟨x,H1,I1,r1,q1⟩=>thn (hb pins s1 σ H1 _ I1 q1) fun u s2 ⟨y,H2,I2,r2,q2⟩ =>
  thn (ho pins s2 σ H2 x y v u _ I2 r1 r2 q2) fun c s3 ⟨z,H3,I3,r3,k,e,q3⟩=>?_) hm
 subst e
 cases r3
 exact wpAny_truthy_bool ⟨H3,I3,q3⟩
def mq (r r':R2) (ta tb tc:TE):TE:=fun σ H Q=>ta σ H fun x H1=>tb σ H1 fun y H2=>r x y H2 fun z H3=>∃k,z=.bl k /\
 (if k=true then tc σ H3 fun w' H4=>r' y w' H4 Q else Q (.bl false) H3)
theorem qV {op op':CmpOp}{r r':R2} (ho:OpR X (compareOp op) r) (ho':OpR X (compareOp op') r') (ha:PE X a ta) (hb:PE X b tb) (hc:PE X c tc)
  (hm:lastMarks [op,op'] [b,c]=false:=by with_unfolding_all rfl):PE X (.Compare a [op,op'] [b,c] pos) (mq r r' ta tb tc):=by
 intro pins s σ H Q I h
 refine Compare_chain (thn (ha pins s σ H _ I h) fun v s1 ⟨x,H1,I1,r1,q1⟩=>chain_link (thn (hb pins s1 σ H1 _ I1 q1) fun u s2 ⟨y,H2,I2,r2,q2⟩ =>
  thn (ho pins s2 σ H2 x y v u _ I2 r1 r2 q2) fun d s3 ⟨z,H3,I3,r3,k,e,q3⟩=>?_)) hm
 subst e
 cases r3
 refine wpAny_truthy_bool ?_
 cases k with
 | false=>exact ite_ff ⟨.bl false,H3,I3,rfl,q3⟩
 | true=>exact ite_tt (chain_last (thn (hc pins s3 σ H3 _ I3 q3) fun w' s4 ⟨z',H4,I4,r4,q4⟩=>ho' pins s4 σ H4 y z' u w' Q I4 r2 r4 q4))
theorem qW {op op':CmpOp}{r r':R2} (ho:OpR X (compareOp op) r) (ho':OpR X (compareOp op') r') (ha:PE X a ta) (hb:PE X b tb) (hc:PE X c tc)
  (hm:lastMarks [op,op'] [b,c]=false:=by with_unfolding_all rfl):PT X (.Compare a [op,op'] [b,c] pos) (ou (mq r r' ta tb tc)):=by
 intro pins s σ H Q I h
 refine isTrue_chain (thn (ha pins s σ H _ I h) fun v s1 ⟨x,H1,I1,r1,q1⟩=>test_link (thn (hb pins s1 σ H1 _ I1 q1) fun u s2 ⟨y,H2,I2,r2,q2⟩ =>
  thn (ho pins s2 σ H2 x y v u _ I2 r1 r2 q2) fun d s3 ⟨z,H3,I3,r3,k,e,q3⟩=>?_)) hm
 subst e
 cases r3
 refine wpAny_truthy_bool ?_
 cases k with
 | false =>
  obtain ⟨k',e',q'⟩:=q3
  cases e'
  exact ite_ff ⟨H3,I3,q'⟩
 | true =>
  refine ite_tt (test_last (thn (hc pins s3 σ H3 _ I3 q3) fun w' s4 ⟨z',H4,I4,r4,q4⟩=>thn (ho' pins s4 σ H4 y z' u w' _ I4 r2 r4 q4) fun d' s5 ⟨z2,H5,I5,r5,k2,e2,q5⟩=>?_))
  subst e2
  cases r5
  exact wpAny_truthy_bool ⟨H5,I5,q5⟩
theorem i8:(sizeLine:Nat) < 2 ^ 63:=by rw [sizeLine_eq];decide
theorem ng:OpR X (binaryOp .Add) (fun x y H Q=>∃i j,x=.str i/\y=.str j/\i.length + j.length<=sizeLine/\Q (.str (i++j)) H):=by
 intro pins s σ H x y v u Q I rx ry h
 obtain ⟨i,j,rfl,rfl,hz,q⟩:=h
 obtain ⟨t,rfl⟩:=rx
 obtain ⟨t',rfl⟩:=ry
 exact add_str (fun t' tk=>⟨.str (i++j),H,I.tok _,⟨_,rfl⟩,q⟩) hz
theorem fc {x:V}{us:List Value} (r:bp [x] us):∃u,us=[u]/\bR x u:=by
 cases r with
 | cons r1 r2=>cases r2;exact ⟨_,rfl,r1⟩
theorem nh {x y:V}{us:List Value} (r:bp [x,y] us):∃u w',us=[u,w']/\bR x u/\bR y w':=by
 cases r with
 | cons r1 r2 =>
  cases r2 with
  | cons r3 r4=>cases r4;exact ⟨_,_,rfl,r1,r3⟩
theorem qX:a9 X (.builtin "abs") (fun xs H Q=>∃i,xs=[.int i]/\Q (.int (if i < 0 then -i else i)) H):=by
 intro pins s σ H xs us Q I r h
 obtain ⟨i,rfl,q⟩:=h
 obtain ⟨u,rfl,t,rfl⟩:=fc r
 exact call_abs_int fun u tk=>⟨.int (if i < 0 then -i else i),H,I.tok _,⟨_,rfl⟩,q⟩
theorem oy (hc:X.calm=true):a9 X (.builtin "max") (fun xs H Q=>∃i j,xs=[.int i,.int j]/\Q (.int (if j > i then j else i)) H):=by
 intro pins s σ H xs us Q I r h
 obtain ⟨i,j,rfl,q⟩:=h
 obtain ⟨u,w',rfl,⟨t,rfl⟩,⟨t',rfl⟩⟩:=nh r
 refine max_two_ints (I.ok.hd hc) fun h' tk k=>⟨_,H,I.kept k,?_,q⟩
 by_cases hj:j > i
 .rw [if_pos hj,if_pos hj];exact ⟨_,rfl⟩
 .rw [if_neg hj,if_neg hj];exact ⟨_,rfl⟩
theorem oz (hc:X.calm=true):a9 X (.builtin "min") (fun xs H Q=>∃i j,xs=[.int i,.int j]/\Q (.int (if j < i then j else i)) H):=by
 intro pins s σ H xs us Q I r h
 obtain ⟨i,j,rfl,q⟩:=h
 obtain ⟨u,w',rfl,⟨t,rfl⟩,⟨t',rfl⟩⟩:=nh r
 refine min_two_ints (I.ok.hd hc) fun h' tk k=>⟨_,H,I.kept k,?_,q⟩
 by_cases hj:j < i
 .rw [if_pos hj,if_pos hj];exact ⟨_,rfl⟩
 .rw [if_neg hj,if_neg hj];exact ⟨_,rfl⟩
end
structure vP (h:Heap) (x dx C:Addr) (mA:Str->Option Value):Prop where
 obj:h.get? x=some (PySem.W.instObj C dx)
 ns:h.Ns1 dx mA
 ne:dx≠x
theorem oA {h:Heap}{dx:Addr}{mA:Str->Option Value} (n:h.Ns1 dx mA):∃od,h.get? dx=some od/\∀name,PySem.W.lookIn name od=some (mA name):=by
 obtain ⟨o,es,ep,ho,hd,hk,_,hm⟩:=n
 refine ⟨o,ho,fun name=>?_⟩
 have e:=hm name
 unfold nsFind findBy at e
 rw [<- Array.find?_toList] at e
 unfold PySem.W.lookIn
 rw [hd]
 dsimp only
 split
 .rename_i y q
  rw [q] at e
  exact congrArg some e
 .rename_i q
  rw [q] at e
  have a:es.toList.any (·.refKey)=false:=by
   rw [List.any_eq_false]
   intro y hy
   obtain ⟨z,t,hkey⟩:=hk y (Array.mem_toList_iff.mp hy)
   simp [DictEntry.refKey,hkey]
  have a':¬ es.toList.any (·.refKey)=true:=by rw [a];exact Bool.false_ne_true
  rw [if_neg a']
  exact congrArg some e
theorem vP.look {h:Heap}{x dx C:Addr}{mA:Str->Option Value} (I:vP h x dx C mA):∃od,PySem.W.InstAt h x (PySem.W.instObj C dx) C (some od)/\∀name,PySem.W.lookIn name od=some (mA name) :=
 let ⟨od,ho,hl⟩:=oA I.ns
 ⟨od,⟨I.obj,rfl,rfl,ho⟩,hl⟩
section
variable {prog:Program}{w:World}{A:Around}{E:Value->Shared->Prop}{s:Shared}{K:PySem.W.Frag}{x dx C f:Addr}{mA:Str->Option Value}{name:Str}{v:Value}
theorem tY {expr:Bool}{Q:Value->Shared->Prop} (X:K.In s.heap) (I:vP s.heap x dx C mA) (hg:PySem.W.plainGet K C name=true) (hh:PySem.W.hasDictIn K C=true)
  (ha:PySem.W.findIn K (.ref C) name=some none) (hv:mA name=some v) (hv':PySem.W.handedIn v=true) (h:Q v { s with toks:=s.toks + 1 }) :
  wpAny (model prog w) A (getAttr (.ref x) name expr) Q E s:=by
 obtain ⟨od,J,hl⟩:=I.look
 exact PySem.W.get_value X J (PySem.W.plainGet_of hg).1 (PySem.W.findObj_own hh ha rfl (by rw [hl,hv])) hv' h
theorem tZ {ns:List Str}{Q:Unit->Shared->Prop} (X:K.In s.heap) (I:vP s.heap x dx C mA)
  (hs:PySem.W.findIn K (.ref C) "__setattr__"=some (some (.builtin "object.__setattr__"))) (hp:PySem.W.plainOver K C=true) (ht:PySem.W.takerIn K C name=some none) (hh:PySem.W.hasDictIn K C=true)
  (hw:PySem.Within mA ns) (hsz:ns.length<=sizeLine)
  (h:∀h',vP h' x dx C (fun y=>if y=name then some v else mA y)->Heap.SameBut dx s.heap h'->Q () { s with heap:=h',toks:=s.toks + 2 }) :
  wpAny (model prog w) A (setAttr (.ref x) name v) Q E s:=by
 obtain ⟨od,J,hl⟩:=I.look
 refine PySem.W.set_plain X J hs (PySem.W.osa_open (s:={ s with toks:=s.toks + 1 }) (r:=none) X J hp ht fun b=>?_)
 obtain ⟨cd,hc,hd'⟩:=PySem.W.any_some hh
 have hx:s.heap.get? x=some ⟨.ref C,some dx,.plain,#[]⟩:=I.obj
 refine wpAny_bind (wpAny_pure (wpAny_bind (wpAny_bind (wpAny_loadPart hx (wpAny_bind (PySem.W.Looks.here (s:={ s with toks:=s.toks + 1 }) (PySem.W.looks_clsIn X hc) ?_))))))
 rw [hd']
 refine wpAny_pure (a:=some dx) (wpAny_bind (wpAny_pure (wpAny_bind ?_)))
 refine wpAny_nsSet1 (s:={ s with toks:=s.toks + 1 }) I.ns fun h' hn2 hs2=>?_
 obtain ⟨oD,esD,epD,hoD,hdD,hcD⟩:=hn2.count (PySem.Within.cons name v hw)
 refine wpAny_bind (wpAny_lookBehind hoD (by rw [hdD];exact pastItsLine_dict (Nat.le_trans hcD (by rw [List.length_cons];omega))) ?_)
 exact wpAny_pure (h _ ⟨(hs2.2 _ (Ne.symm I.ne)).trans I.obj,hn2,I.ne⟩ hs2)
theorem mr {R:Result->Shared->Prop}{vs:List Value}{kw:List (Str×Value)} (X:K.In s.heap) (hm:PySem.W.makesIn K C=true)
  (hi:PySem.W.findIn K (.ref C) "__init__"=some (some (.ref f))) (hf:PySem.W.typeIn K (.ref f)=some (.type "function"))
  (h:codeAny (model prog w) (A.under (.builtin "type.__call__" ⟨.ref C::vs,kw⟩)) (.call (.ref f) ⟨.ref (s.heap.objs.size + 1)::vs,kw⟩) (PySem.W.InitBack (s.heap.objs.size + 1) R)
   { s with heap:=(s.heap.push PySem.W.emptyDict).push (PySem.W.instObj C s.heap.objs.size) }) :
  codeAny (model prog w) A (.call (.ref C) ⟨vs,kw⟩) R s:=by
 obtain ⟨hh,g,d,t,os⟩:=s
 exact PySem.W.make_core (PySem.W.makes_of X hm) (PySem.W.looks_findIn X hi) (fun self=>PySem.W.bind_fn X self hf) (.inl rfl) h
end
def i9 (f:Str) (v:V):List (Str×V)->List (Str×V)
 | []=>[(f,v)]
 | (g,x)::r=>if g=f then (g,v)::r else (g,x)::i9 f v r
theorem gP (f g:Str) (v:V):∀fs:List (Str×V),(i9 f v fs).lookup g=if g=f then some v else fs.lookup g
 | []=>by
  show List.lookup g [(f,v)]=_
  by_cases h:g=f
  .have hb:(g == f)=true:=beq_iff_eq.mpr h
   simp only [List.lookup,hb,if_pos h]
  .have hb:(g == f)=false:=beq_eq_false_iff_ne.mpr h
   simp only [List.lookup,hb,if_neg h]
 | (k,x)::r=>by
  have ih:=gP f g v r
  rw [show i9 f v ((k,x)::r)=(if k=f then (k,v)::r else (k,x)::i9 f v r) from rfl]
  by_cases hk:k=f
  .rw [if_pos hk]
   by_cases h:g=k
   .have hb:(g == k)=true:=beq_iff_eq.mpr h
    simp only [List.lookup,hb,if_pos (h.trans hk)]
   .have hb:(g == k)=false:=beq_eq_false_iff_ne.mpr h
    simp only [List.lookup,hb,if_neg (fun e:g=f=>h (e.trans hk.symm))]
  .rw [if_neg hk]
   by_cases h:g=k
   .have hb:(g == k)=true:=beq_iff_eq.mpr h
    simp only [List.lookup,hb,if_neg (fun e:g=f=>hk (h.symm.trans e))]
   .have hb:(g == k)=false:=beq_eq_false_iff_ne.mpr h
    simp only [List.lookup,hb]
    exact ih
theorem gQ (f:Str) (v:V):∀fs:List (Str×V),f∈(i9 f v fs).map (·.1)/\∀g,g∈fs.map (·.1)->g∈(i9 f v fs).map (·.1)
 | []=>⟨by simp [i9],fun g h=>by simp at h⟩
 | (k,x)::r=>by
  obtain ⟨i1,i2⟩:=gQ f v r
  rw [show i9 f v ((k,x)::r)=(if k=f then (k,v)::r else (k,x)::i9 f v r) from rfl]
  by_cases hk:k=f
  .rw [if_pos hk]
   subst hk
   exact ⟨by simp,fun g h=>by simpa using h⟩
  .rw [if_neg hk]
   refine ⟨?_,fun g h=>?_⟩
   .rw [List.map_cons]
    exact List.mem_cons_of_mem _ i1
   .rw [List.map_cons] at h ⊢
    rcases List.mem_cons.mp h with e | e
    .exact List.mem_cons.mpr (.inl e)
    .exact List.mem_cons_of_mem _ (i2 g e)
theorem gR (f:Str) (v:V):∀fs:List (Str×V),(i9 f v fs).length<=fs.length + 1
 | []=>by simp [i9]
 | (k,x)::r=>by
  have ih:=gR f v r
  rw [show i9 f v ((k,x)::r)=(if k=f then (k,v)::r else (k,x)::i9 f v r) from rfl]
  by_cases hk:k=f
  .rw [if_pos hk,List.length_cons,List.length_cons];omega
  .rw [if_neg hk,List.length_cons,List.length_cons];omega
theorem qL.some_of {v:V}{o:Option Value} (r:qL (some v) o):∃u,o=some u/\bR v u:=by
 cases o with
 | none=>exact (show False from r).elim
 | some u=>exact ⟨u,rfl,r⟩
theorem oB {v:V}{u:Value} (r:bR v u):PySem.W.handedIn u=true:=by
 cases v with
 | non=>cases (show u=Value.none from r);rfl
 | bl b=>cases (show u=Value.bool b from r);rfl
 | int i=>obtain ⟨t,e⟩:=(show ∃t,u=Value.int i t from r);cases e;rfl
 | str x=>obtain ⟨t,e⟩:=(show ∃t,u=Value.str x t from r);cases e;rfl
 | byt b=>obtain ⟨t,e⟩:=(show ∃t,u=Value.bytes b t from r);cases e;rfl
 | flt b=>obtain ⟨t,e⟩:=(show ∃t,u=Value.float b t from r);cases e;rfl
 | ref a=>cases (show u=Value.ref a from r);rfl
 | ty n=>cases (show u=Value.type n from r);rfl
section
variable {P:Program}{w:World}{H H':Hp}{h h':Heap}{a C dx:Addr}{fs fs':List (Str×V)}
theorem lx (hok:HOk P w H h) (e:H a=some (.ins C dx fs)):∃mA,vP h a dx C mA/\(∀f,qL (fs.lookup f) (mA f))/\PySem.Within mA (fs.map (·.1))/\fs.length<=1000/\H dx=some (.own a):=by
 obtain ⟨d,z,ne,ob,mA,n,r,q⟩:=(show aZ P w H h a (.ins C dx fs) from hok a _ e)
 exact ⟨mA,⟨ob,n,ne⟩,r,q,z,d⟩
end
structure Cls (K:PySem.W.Frag) (C:Addr):Prop where
 pg:PySem.W.plainGet K C Str.empty=true
 hd:PySem.W.hasDictIn K C=true
 po:PySem.W.plainOver K C=true
 sa:PySem.W.findIn K (.ref C) "__setattr__"=some (some (.builtin "object.__setattr__"))
theorem Cls.get {K:PySem.W.Frag}{C:Addr} (c:Cls K C) (f:Str):PySem.W.plainGet K C f=true:=c.pg
def cM (K:PySem.W.Frag) (C:Addr) (f:Str):Prop:=PySem.W.findIn K (.ref C) f=some none
theorem cM.taker {K:PySem.W.Frag}{C:Addr}{f:Str} (n:cM K C f):PySem.W.takerIn K C f=some none:=by
 unfold PySem.W.takerIn
 rw [show PySem.W.findIn K (.ref C) f=some none from n]
 rfl
section
variable {X:Cx}{pins:List (Addr×Obj)}{σ:St}{H:Hp}{s:Shared}{a C dx:Addr}{fs:List (Str×V)}{f:Str}{v:V}{A:Around}{E:Value->Shared->Prop}
theorem nj {b:Bool}{Q:Value->Shared->Prop} (I:Inv X pins σ H s) (e:H a=some (.ins C dx fs)) (c:Cls X.K C) (n:cM X.K C f) (l:fs.lookup f=some v)
  (h:∀u s',Inv X pins σ H s'->bR v u->Q u s'):wpAny (model X.prog X.w) A (getAttr (.ref a) f b) Q E s:=by
 obtain ⟨mA,O,r,_,_,_⟩:=lx I.hok e
 obtain ⟨u,hu,ru⟩:=qL.some_of (v:=v) (o:=mA f) (by rw [<- l];exact r f)
 exact tY I.kIn O (c.get f) c.hd n hu (oB ru) (h u _ (I.tok _) ru)
theorem nk {y:V}{u:Value}{Q:Unit->Shared->Prop} (I:Inv X pins σ H s) (e:H a=some (.ins C dx fs)) (c:Cls X.K C) (n:cM X.K C f) (hl:fs.length < 1000) (ry:bR y u)
  (h:∀s',Inv X pins σ (upd H a (.ins C dx (i9 f y fs))) s'->Q () s'):wpAny (model X.prog X.w) A (setAttr (.ref a) f u) Q E s:=by
 obtain ⟨mA,O,r,wi,_,ho⟩:=lx I.hok e
 have hz:(fs.map (·.1)).length<=sizeLine:=by rw [List.length_map,sizeLine_eq];omega
 refine tZ I.kIn O c.sa c.po n.taker c.hd wi hz fun h' O' sb=>h _ ?_
 have hd:∃o,h'.get? dx=some o:=let ⟨o,_,_,e',_⟩:=O'.ns;⟨o,e'⟩
 refine I.write (x:=a) (e:=dx) (by rw [e];exact True.intro) (.inr ho) (fun b q hb z=>(sb.2 b hb).trans z) hd ?_
 refine ⟨by rw [ak O.ne];exact ho,?_,O.ne,O'.obj,_,O'.ns,fun g=>?_,fun g hg=>?_⟩
 .have:=gR f y fs;omega
 .show qL ((i9 f y fs).lookup g) (if g=f then some u else mA g)
  rw [gP]
  by_cases q:g=f
  .rw [if_pos q,if_pos q];exact ry
  .rw [if_neg q,if_neg q];exact r g
 .by_cases q:g=f
  .rw [q];exact (gQ f y fs).1
  .refine (gQ f y fs).2 g (wi g fun z=>hg ?_)
   show (if g=f then some u else mA g)=none
   rw [if_neg q];exact z
theorem Inv.made (I:Inv X pins σ H s):Inv X pins σ (upd (upd H s.heap.objs.size (.own (s.heap.objs.size + 1))) (s.heap.objs.size + 1) (.ins C s.heap.objs.size []))
  { s with heap:=(s.heap.push PySem.W.emptyDict).push (PySem.W.instObj C s.heap.objs.size) }:=by
 have e1:(s.heap.push PySem.W.emptyDict).get? s.heap.objs.size=some PySem.W.emptyDict:=Heap.get?_push_size s.heap rfl
 have e2:((s.heap.push PySem.W.emptyDict).push (PySem.W.instObj C s.heap.objs.size)).get? (s.heap.objs.size + 1)=some (PySem.W.instObj C s.heap.objs.size):=by
  have:=Heap.get?_push_size (s.heap.push PySem.W.emptyDict) (o:=PySem.W.instObj C s.heap.objs.size) rfl
  rwa [Heap.size_push] at this
 have e3:(s.heap.push PySem.W.emptyDict).Ns s.heap.objs.size (fun _=>none):=⟨PySem.W.emptyDict,#[],_,e1,rfl,(fun e he=>absurd he (by simp)),fun _=>rfl⟩
 have I1:=I.laid (a:=s.heap.objs.size) (o:=.own (s.heap.objs.size + 1)) (h':=s.heap.push PySem.W.emptyDict) (t':=s.toks) (fun b u q=>Heap.get?_push_of_some _ q) (Nat.le_refl _) ⟨_,e1⟩
 refine I1.laid (a:=s.heap.objs.size + 1) (o:=.ins C s.heap.objs.size []) (t':=s.toks) (fun b u q=>Heap.get?_push_of_some _ q) (Nat.le_of_eq (Heap.size_push _ _)) ?_
 have ne:s.heap.objs.size≠s.heap.objs.size + 1:=Nat.ne_of_lt (Nat.lt_succ_self _)
 refine ⟨by rw [ak ne,au],Nat.zero_le _,ne,e2,fun _=>none,(Heap.Ns1.of_empty e3).at fun o q=>Heap.get?_push_of_some _ q,fun _=>True.intro,fun y hy=>absurd rfl hy⟩
theorem oE {prog:Program}{w:World}{env:Env}{e:Expr}{f:Str}{pos:Pos}{s:Shared}{Q:Value->Shared->Prop} (hb:attributeBase e f env (eval e env)=eval e env)
  (h:wpAny (model prog w) A (eval e env) (fun o s₁=>wpAny (model prog w) A (getAttr o f true) Q E s₁) E s):wpAny (model prog w) A (eval (.Attribute e f pos) env) Q E s :=
 Attribute_any_ h (by rw [arm_eval_Attribute,hb])
end
def qM (K:PySem.W.Frag) (ta:TE) (f:Str):TE:=fun σ H Q=>ta σ H fun x H1=>∃a C dx fs v,x=.ref a/\H1 a=some (.ins C dx fs)/\Cls K C/\cM K C f/\fs.lookup f=some v/\Q v H1
def zG (K:PySem.W.Frag) (ta tv:TE) (f:Str):TS:=fun D σ H=>tv σ H fun y H1=>ta σ H1 fun x H2=>∃a C dx fs,x=.ref a/\H2 a=some (.ins C dx fs)/\Cls K C/\cM K C f/\fs.length < 1000 /\
 D.nx σ (upd H2 a (.ins C dx (i9 f y fs)))
section
variable {X:Cx}{o e value:Expr}{f:Str}{pos pos' tpos:Pos}{ta tv:TE}
theorem wA (he:PE X e ta) (hb:attributeBase e f X.env (eval e X.env)=eval e X.env):PE X (.Attribute e f pos) (qM X.K ta f):=by
 intro pins s σ H Q I h
 refine oE hb (thn (he pins s σ H _ I h) fun u s1 ⟨x,H1,I1,rx,a,C,dx,fs,v,ex,ea,c,n,l,q⟩=>?_)
 subst ex
 obtain rfl:u=Value.ref a:=rx
 exact nj I1 ea c n l fun u' s2 I2 ru=>⟨v,H1,I2,ru,q⟩
theorem ja (ha:PE X o ta) (hv:PE X value tv) (hs:swapsWith value (some (.Attribute o f pos')) pos.line X.env=pure false):PS X (.Assign [.Attribute o f pos'] value pos) (zG X.K ta tv f):=by
 intro pins s σ H D I h
 refine plainObj_wpAny_Assign_Attribute (thn (hv pins s σ H _ I h) fun u s1 ⟨y,H1,I1,ry,q⟩=>thn (ha pins s1 σ H1 _ I1 q) fun ov s2 ⟨x,H2,I2,rx,a,C,dx,fs,ex,ea,c,n,l,q2⟩=>?_) hs
 subst ex
 obtain rfl:ov=Value.ref a:=rx
 exact nk I2 ea c n l ry fun s3 I3=>⟨σ,_,I3,q2⟩
end
section
variable {X:Cx}{pins:List (Addr×Obj)}{σ:St}{H:Hp}{s:Shared}{A:Around}{E:Value->Shared->Prop}{Q:Value->Shared->Prop}{c:Value}{b:Bool}
inductive ly (K:PySem.W.Frag) (H:Hp):V->Value->Prop where
 | non:ly K H .non (.type "NoneType")
 | bl (x:Bool):ly K H (.bl x) (.type "bool")
 | int (i:Int):ly K H (.int i) (.type "int")
 | str (x:Str):ly K H (.str x) (.type "str")
 | flt (x:UInt64):ly K H (.flt x) (.type "float")
 | lst {a:Addr}{xs:List V} (e:H a=some (.lst xs)):ly K H (.ref a) (.type "list")
 | frz {a:Addr}{o:Obj}{xs:List V} (e:H a=some (.frz o (.lst xs))):ly K H (.ref a) (.type "list")
 | tup {a:Addr}{xs:List V} (e:H a=some (.tup xs)):ly K H (.ref a) (.type "tuple")
 | dK {a:Addr}{kvs:List (Key×V)} (e:H a=some (.dK kvs)):ly K H (.ref a) (.type "dict")
 | dT {a:Addr}{kvs:List (List Key×V)} (e:H a=some (.dT kvs)):ly K H (.ref a) (.type "dict")
 | ins {a C dx:Addr}{fs:List (Str×V)} (e:H a=some (.ins C dx fs)) (cl:Cls K C) (ha:PySem.W.findIn K (.ref C) "__class__"=some (some (.builtin "object.__class__")))
   (hn:PySem.W.specialIn K (.builtin "object.__class__") "__get__"=some (some (.builtin "getset_descriptor.__get__"))) (htk:PySem.W.takesIn K (.builtin "object.__class__")=some true)
   (hm:PySem.W.mroIn K C (.type "object")=some true):ly K H (.ref a) (.ref C)
theorem oF {x:V}{u t:Value} (I:Inv X pins σ H s) (rx:bR x u) (ty:ly X.K H x t) (e:PySem.W.kitOne X.K t c=some b) (h:∀tk,Q (.bool b) { s with toks:=tk }) :
  wpAny (model X.prog X.w) A (call (.builtin "isinstance") [u,c]) Q E s:=by
 cases ty with
 | non=>cases (show u=Value.none from rx);exact PySem.W.kia_one PySem.W.kitx_none I.kIn True.intro e (fun z=>nomatch z) h
 | bl y=>cases (show u=Value.bool y from rx);exact PySem.W.kia_one PySem.W.kitx_bool I.kIn True.intro e (fun z=>nomatch z) h
 | int i=>obtain ⟨t,q⟩:=(show ∃t,u=Value.int i t from rx);cases q;exact PySem.W.kia_one PySem.W.kitx_int I.kIn True.intro e (fun z=>nomatch z) h
 | str y=>obtain ⟨t,q⟩:=(show ∃t,u=Value.str y t from rx);cases q;exact PySem.W.kia_one PySem.W.kitx_str I.kIn True.intro e (fun z=>nomatch z) h
 | flt y=>obtain ⟨t,q⟩:=(show ∃t,u=Value.float y t from rx);cases q;exact PySem.W.kia_one PySem.W.kitx_float I.kIn True.intro e (fun z=>nomatch z) h
 | @lst a xs ea =>
  cases (show u=Value.ref a from rx)
  obtain ⟨_,_,n,_,h1⟩:=(show aZ X.prog X.w H s.heap a (.lst xs) from I.hok a _ ea)
  exact PySem.W.kia_one PySem.W.kitx_list I.kIn ⟨_,h1,rfl⟩ e (fun z=>nomatch z) h
 | @frz a ob xs ea =>
  cases (show u=Value.ref a from rx)
  obtain ⟨_,_,_,n,_,h1⟩:=(show aZ X.prog X.w H s.heap a (.frz ob (.lst xs)) from I.hok a _ ea)
  exact PySem.W.kia_one PySem.W.kitx_list I.kIn ⟨_,h1,rfl⟩ e (fun z=>nomatch z) h
 | @tup a xs ea =>
  cases (show u=Value.ref a from rx)
  obtain ⟨_,_,_,p⟩:=(show aZ X.prog X.w H s.heap a (.tup xs) from I.hok a _ ea)
  obtain ⟨o,h1,h2,_⟩:=p
  exact PySem.W.kia_one PySem.W.kitx_tuple I.kIn ⟨o,h1,h2⟩ e (fun z=>nomatch z) h
 | @dK a kvs ea =>
  cases (show u=Value.ref a from rx)
  obtain ⟨_,_,vs,_,p⟩:=(show aZ X.prog X.w H s.heap a (.dK kvs) from I.hok a _ ea)
  obtain ⟨o,es,ep,h1,h2,_⟩:=p
  exact PySem.W.kia_one PySem.W.kitx_dict I.kIn ⟨o,h1,h2.1⟩ e (fun z=>nomatch z) h
 | @dT a kvs ea =>
  cases (show u=Value.ref a from rx)
  obtain ⟨_,_,xs,_,o,es,ep,h1,h2,_⟩:=(show aZ X.prog X.w H s.heap a (.dT kvs) from I.hok a _ ea)
  exact PySem.W.kia_one PySem.W.kitx_dict I.kIn ⟨o,h1,h2.1⟩ e (fun z=>nomatch z) h
 | @ins a C dx fs ea cl ha hn htk hm =>
  cases (show u=Value.ref a from rx)
  obtain ⟨mA,O,_⟩:=lx I.hok ea
  obtain ⟨od,J,_⟩:=O.look
  exact PySem.W.kia_one (PySem.W.kitx_own (cl.get _) cl.hd ha hn htk hm) I.kIn J e (fun z=>nomatch z) h
end
structure c4 (k:Nat) (A:Around):Prop where
 hd:A.handled=none
 dp:A.depth + 3 * k + 5 < recursionLimit
 un:A.units + 16 * k + 200 < cLine
theorem c4.mono {j k:Nat}{A:Around} (r:c4 k A) (h:j<=k):c4 j A:=⟨r.hd,by have:=r.dp;omega,by have:=r.un;omega⟩
theorem c4.deeper {k:Nat}{A:Around} (r:c4 (k + 1) A) (env:Env):c4 k (A.deeper env) :=
 ⟨r.hd,by have:=r.dp;show A.depth + 1 + 3 * k + 5 < _;omega,by have:=r.un;show A.units + 3 + 16 * k + 200 < _;omega⟩
theorem nq {A:Around}{C:Addr}{us:List Value}{kw:List (Str×Value)}:(A.under (.builtin "type.__call__" ⟨.ref C::us,kw⟩)).depth=A.depth + 1:=by
 first | rfl | simp [Around.under,Code.weight,Code.isCreation,Code.isGuard,Code.isCaller,Code.frames,Code.isFrame,guardIds]
theorem nr {A:Around}{C:Addr}{us:List Value}{kw:List (Str×Value)}:(A.under (.builtin "type.__call__" ⟨.ref C::us,kw⟩)).units=A.units + 1:=by
 first | rfl | simp [Around.under,Code.cUnits,Code.frames,Code.isFrame]
theorem c4.make {k:Nat}{A:Around} (r:c4 (k + 1) A) (C:Addr) (us:List Value) (kw:List (Str×Value)):c4 k (A.under (.builtin "type.__call__" ⟨.ref C::us,kw⟩)) :=
 ⟨r.hd,by have:=r.dp;rw [nq];omega,by have:=r.un;rw [nr];omega⟩
theorem c4.depth {k:Nat}{A:Around} (r:c4 k A):A.depth < recursionLimit:=by have:=r.dp;omega
theorem c4.units {k:Nat}{A:Around} (r:c4 k A):A.units + 64 < cLine:=by have:=r.un;omega
def gg:TA:=fun _ H Q=>Q [] H
def bg (ta:TE) (tr:TA):TA:=fun σ H Q=>ta σ H fun x H1=>tr σ H1 fun xs H2=>Q (x::xs) H2
section
variable {X:Cx}{e:Expr}{es:List Expr}{te:TE}{t:TA}{pos:Pos}
theorem ag:PA X [] gg:=fun _ _ _ _ H Q I h=>Calls.spliced_nil ⟨[],H,I,.nil,h⟩
theorem t0 (ha:PE X e te) (hr:PA X es t) (hs:starEach (e::es) X.env=(false,eval e X.env)::starEach es X.env:=by rfl):PA X (e::es) (bg te t):=by
 intro pos pins s σ H Q I h
 rw [hs]
 show wpAny _ _ (spliced ((false,eval e X.env)::backTo pos (starEach es X.env))) _ _ s
 refine Calls.spliced_cons (thn (ha pins s σ H _ I h) fun u s1 ⟨x,H1,I1,r1,q1⟩=>?_)
 exact thn (hr pos pins s1 σ H1 _ I1 q1) fun us s2 ⟨xs,H2,I2,r2,q2⟩=>⟨x::xs,H2,I2,.cons r1 r2,q2⟩
def yz (t:TA):TE:=fun σ H Q=>t σ H fun xs H1=>xs.length<=sizeLine/\∀p,H1 p=none->Q (.ref p) (upd H1 p (.tup xs))
def zH (t:TA):TE:=fun σ H Q=>t σ H fun xs H1=>xs.length<=sizeLine/\∀p,H1 p=none->Q (.ref p) (upd H1 p (.lst xs))
theorem ko {x1} (h:PA X es t):PE X (.Tuple es x1 pos) (yz t):=by
 intro pins s σ H Q I hq
 refine wpAny_Tuple_spliced (thn (h pos pins s σ H _ I hq) fun us s1 ⟨xs,H1,I1,r,z,q⟩=>⟨by rw [<- r.length];exact z,?_⟩)
 have hf:H1 s1.heap.objs.size=none:=I1.hok.fresh (Nat.le_refl _)
 refine ⟨.ref s1.heap.objs.size,upd H1 s1.heap.objs.size (.tup xs),I1.laid (t':=s1.toks) (fun b u e=>Heap.get?_push_of_some _ e) (Nat.le_refl _) ?_,rfl,q _ hf⟩
 exact ⟨z,us,r,⟨_,Heap.get?_push_size _ rfl,rfl,_,rfl⟩⟩
theorem gi (h:PA X es t):PE X (.List es pos) (zH t):=by
 intro pins s σ H Q I hq
 refine wpAny_List_spliced (thn (h pos pins s σ H _ I hq) fun us s1 ⟨xs,H1,I1,r,z,q⟩=>⟨by rw [<- r.length];exact z,?_⟩)
 have hf:H1 s1.heap.objs.size=none:=I1.hok.fresh (Nat.le_refl _)
 refine ⟨.ref s1.heap.objs.size,upd H1 s1.heap.objs.size (.lst xs),I1.laid (t':=s1.toks) (fun b u e=>Heap.get?_push_of_some _ e) (Nat.le_refl _) ?_,rfl,q _ hf⟩
 exact ⟨z,us,0,r,Heap.get?_push_size _ rfl⟩
end
abbrev Sp:=List V->Hp->VK->XK->Prop
abbrev CXT:=List Env->Hp->Shared->XK->Value->Shared->Prop
structure t4 (P:Program) (w:World) (K:PySem.W.Frag) (mg:Str->Option Value) (base:Heap) (A:Around) (outer:List Env) (s:Shared) (H:Hp):Prop where
 frames:A.frames=some outer
 mod:Mod K mg base
 bs:∀b o,base.get? b=some o->s.heap.get? b=some o/\H b=none
 bsz:base.objs.size<=s.heap.objs.size
 funs:s.heap.FunFrames base outer
 frf:∀b∈frs outer,H b=none
 hok:HOk P w H s.heap
 bare:AllBare s.gens
def CE (outer:List Env) (P:Program) (w:World) (H:Hp) (s:Shared) (Q:VK) (u:Value) (s':Shared):Prop :=
 ∃v H',s'.os=s.os/\AllBare s'.gens/\Un (frs outer) [] H H' s.heap s'.heap/\HOk P w H' s'.heap/\bR v u/\Q v H'
def CR (CX:CXT) (outer:List Env) (P:Program) (w:World) (H:Hp) (s:Shared) (Q:VK) (E:XK) (r:Result) (s':Shared):Prop :=
 match r with
 | .ok (.ret u)=>CE outer P w H s Q u s'
 | .ok _=>False
 | .error e=>CX outer H s E e s'
structure jb (P:Program) (w:World) (K:PySem.W.Frag) (mg:Str->Option Value) (base:Heap) (CX:CXT) (k:Nat) (f:Addr) (fd:FuncData) (ps:List Str) (sp:Sp):Prop where
 len:∀vs H Q E,sp vs H Q E->vs.length=ps.length
 run:∀(A:Around) (outer:List Env) (s:Shared) (H:Hp) (args:Args) (us:List Value) (vs:List V) (Q:VK) (E:XK),c4 k A->t4 P w K mg base A outer s H->BindsTo s fd args (ps.zip us)->bp vs us->sp vs H Q E ->
  codeAny (model P w) A (.call (.ref f) args) (CR CX outer P w H s Q E) s
theorem jb.imp {P:Program}{w:World}{K:PySem.W.Frag}{mg:Str->Option Value}{base:Heap}{CX:CXT}{k:Nat}{f:Addr}{fd:FuncData}{ps:List Str}{sp sp':Sp} (F:jb P w K mg base CX k f fd ps sp)
  (h:∀vs H Q E,sp' vs H Q E->sp vs H Q E):jb P w K mg base CX k f fd ps sp' :=
 ⟨fun vs H Q E q=>F.len vs H Q E (h _ _ _ _ q),fun A outer s H args us vs Q E hr he hb hv hs=>F.run A outer s H args us vs Q E hr he hb hv (h _ _ _ _ hs)⟩
theorem t4.make {P:Program}{w:World}{K:PySem.W.Frag}{mg:Str->Option Value}{base:Heap}{A:Around}{outer:List Env}{s:Shared}{H:Hp} (e:t4 P w K mg base A outer s H) (C:Addr) (us:List Value) (kw:List (Str×Value)) :
  t4 P w K mg base (A.under (.builtin "type.__call__" ⟨.ref C::us,kw⟩)) outer s H:=⟨by first | exact e.frames | (simpa [Around.under,Code.envs,Code.isFrame,pushEnvs] using e.frames),e.mod,e.bs,e.bsz,e.funs,e.frf,e.hok,e.bare⟩
section
variable {X:Cx}{pins:List (Addr×Obj)}{σ:St}{H:Hp}{s s':Shared}
theorem Inv.env0 (I:Inv X pins σ H s):t4 X.prog X.w X.K X.mg X.base X.A X.stack s H :=
 ⟨I.ok.frames,I.ok.mod,I.bs,Nat.le_trans I.ok.bsz I.sz,I.stack,I.stkFree,I.hok,I.bare⟩
theorem Inv.after {Q:VK}{u:Value} (I:Inv X pins σ H s) (h:CE X.stack X.prog X.w H s Q u s'):EP X pins σ Q u s':=by
 obtain ⟨v,H',os,bare,un,hok,r,q⟩:=h
 obtain ⟨hh,g,d,t,os'⟩:=s'
 obtain rfl:os'=s.os:=os
 exact ⟨v,H',I.call (h':=hh) (g':=g) (d':=d) (t':=t) (ch:=[]) un hok bare (fun b z=>absurd z (by simp)),r,q⟩
end
def dI (sp:Sp) (dvs:List V) (E:XK) (t:TA):TE:=fun σ H Q=>t σ H fun vs H1=>sp (vs++dvs) H1 Q E
def qY (C:Addr) (sp:Sp) (dvs:List V) (E:XK) (t:TA):TE:=fun σ H Q=>t σ H fun vs H1=>∀x dx,H1 x=none->H1 dx=none->dx≠x ->
 sp (.ref x::(vs++dvs)) (upd (upd H1 dx (.own x)) x (.ins C dx [])) (fun v H2=>v=.non/\Q (.ref x) H2) E
def fK (K:PySem.W.Frag) (fd:FuncData) (ps:List Str) (ds:List Value):Prop :=
 ∀(s:Shared) (us:List Value),K.In s.heap->(us++ds).length=ps.length->BindsTo s fd ⟨us,[]⟩ (ps.zip (us++ds))
theorem fK.all {K:PySem.W.Frag}{fd:FuncData}{ps:List Str} (h:∀us:List Value,us.length=ps.length->bindArgs fd ⟨us,[]⟩=pure (ps.zip us)):fK K fd ps []:=fun s us _ hl=>by
 rw [List.append_nil] at hl ⊢
 exact .of_eq (h us hl)
def kq (CX:CXT) (X:Cx) (E:XK):Prop:=∀(pins:List (Addr×Obj)) (σ:St) (H:Hp) (s:Shared) (e:Value) (s':Shared),Inv X pins σ H s->CX X.stack H s E e s'->X.xe e s'
section
variable {X:Cx}{CX:CXT}{k:Nat}{f C:Addr}{fd:FuncData}{ps:List Str}{sp:Sp}{dvs:List V}{ds:List Value}{E:XK}{x m:Str}{p pos apos:Pos}{e o:Expr}{es:List Expr}{ta:TE}{t:TA}
theorem wB {pins:List (Addr×Obj)}{σ:St}{H:Hp}{s:Shared}{Q:VK}{us:List Value}{vs:List V} (F:jb X.prog X.w X.K X.mg X.base CX k f fd ps sp) (hr:c4 k X.A) (hb:fK X.K fd ps ds) (hd:bp dvs ds) (hx:kq CX X E)
  (I:Inv X pins σ H s) (r:bp vs us) (h:sp (vs++dvs) H Q E):wpAny (model X.prog X.w) X.A (call (.ref f) us) (EP X pins σ Q) X.xe s:=by
 have r2:bp (vs++dvs) (us++ds):=r.append hd
 have hl:(us++ds).length=ps.length:=by rw [<- r2.length];exact F.len _ _ _ _ h
 refine wpAny_call (codeAny_mono (F.run X.A X.stack s H ⟨us,[]⟩ (us++ds) (vs++dvs) Q E hr I.env0 (hb s us I.kIn hl) r2 h) fun r s' hq=>?_)
 cases r with
 | error e=>exact hx pins σ H s e s' I hq
 | ok fl =>
  cases fl with
  | ret u=>exact I.after hq
  | next=>exact False.elim hq
  | brk=>exact False.elim hq
  | cont=>exact False.elim hq
theorem oG (F:jb X.prog X.w X.K X.mg X.base CX k f fd ps sp) (hr:c4 k X.A) (hg:Gl X x) (hm:X.mg x=some (.ref f)) (hk:PySem.W.keepIn X.K (.ref f)=true) (hb:fK X.K fd ps ds) (hd:bp dvs ds) (hx:kq CX X E)
  (ha:PA X (e::es) t) (hdb:(x == ("__debug__":Str))=false:=by decide) (he:starEach (e::es) X.env=(false,eval e X.env)::starEach es X.env:=by rfl) (hpl:(backTo pos (starEach es X.env)).any (·.1)=false:=by rfl) :
  PE X (.Call (.Name x p) (e::es) [] pos) (dI sp dvs E t):=by
 intro pins s σ H Q I h
 refine wpAny_Call_Name_kw (c5 I hg hm ?_ hdb)
 refine PySem.W.callWith_K (h₀:=X.base) I.ok.mod.kin hk (thn (ha pos pins s σ H _ I h) fun us s1 ⟨vs,H1,I1,r,q⟩=>⟨I1.kIn,?_⟩) he hpl
 exact wB F hr hb hd hx I1 r q
structure Mk (K:PySem.W.Frag) (C f:Addr):Prop where
 makes:PySem.W.makesIn K C=true
 init:PySem.W.findIn K (.ref C) "__init__"=some (some (.ref f))
 fn:PySem.W.isFn K (.ref f)=true
 kp:PySem.W.keepIn K (.ref C)=true
theorem qZ {pins:List (Addr×Obj)}{σ:St}{H:Hp}{s:Shared}{Q:VK}{us:List Value}{vs:List V} (M:Mk X.K C f) (F:jb X.prog X.w X.K X.mg X.base CX k f fd ps sp) (hr:c4 (k + 1) X.A) (hb:fK X.K fd ps ds) (hd:bp dvs ds)
  (hx:kq CX X E) (I:Inv X pins σ H s) (r:bp vs us)
  (h:∀x dx,H x=none->H dx=none->dx≠x->sp (.ref x::(vs++dvs)) (upd (upd H dx (.own x)) x (.ins C dx [])) (fun v H2=>v=.non/\Q (.ref x) H2) E) :
  wpAny (model X.prog X.w) X.A (call (.ref C) us) (EP X pins σ Q) X.xe s:=by
 have hq:=h (s.heap.objs.size + 1) s.heap.objs.size (I.hok.fresh (Nat.le_succ _)) (I.hok.fresh (Nat.le_refl _)) (Nat.ne_of_lt (Nat.lt_succ_self _))
 have I2:=Inv.made (C:=C) I
 have r2:bp (V.ref (s.heap.objs.size + 1)::(vs++dvs)) (Value.ref (s.heap.objs.size + 1)::(us++ds)):=.cons rfl (r.append hd)
 have hl:(Value.ref (s.heap.objs.size + 1)::us++ds).length=ps.length:=by
  have e:=r2.length
  rw [F.len _ _ _ _ hq] at e
  exact e.symm
 refine wpAny_call (mr (f:=f) I.kIn M.makes M.init (beq_iff_eq.mp M.fn) (codeAny_mono (F.run _ X.stack _ _ ⟨Value.ref (s.heap.objs.size + 1)::us,[]⟩ (Value.ref (s.heap.objs.size + 1)::(us++ds)) _ _ E (hr.make C us [])
  (I2.env0.make C us []) (hb _ (Value.ref (s.heap.objs.size + 1)::us) I2.kIn hl) r2 hq) fun r s' hq'=>?_))
 cases r with
 | error e=>exact hx pins σ _ _ e s' I2 hq'
 | ok fl =>
  cases fl with
  | ret u =>
   obtain ⟨v,H',I3,rv,ev,q3⟩:=I2.after hq'
   subst ev
   exact ⟨rv,⟨V.ref (s.heap.objs.size + 1),H',I3,rfl,q3⟩⟩
  | next=>exact False.elim hq'
  | brk=>exact False.elim hq'
  | cont=>exact False.elim hq'
theorem t5 (M:Mk X.K C f) (F:jb X.prog X.w X.K X.mg X.base CX k f fd ps sp) (hr:c4 (k + 1) X.A) (hg:Gl X x) (hm:X.mg x=some (.ref C)) (hb:fK X.K fd ps ds) (hd:bp dvs ds) (hx:kq CX X E)
  (ha:PA X (e::es) t) (hdb:(x == ("__debug__":Str))=false:=by decide) (he:starEach (e::es) X.env=(false,eval e X.env)::starEach es X.env:=by rfl) (hpl:(backTo pos (starEach es X.env)).any (·.1)=false:=by rfl) :
  PE X (.Call (.Name x p) (e::es) [] pos) (qY C sp dvs E t):=by
 intro pins s σ H Q I h
 refine wpAny_Call_Name_kw (c5 I hg hm ?_ hdb)
 refine PySem.W.callWith_K (h₀:=X.base) I.ok.mod.kin M.kp (thn (ha pos pins s σ H _ I h) fun us s1 ⟨vs,H1,I1,r,q⟩=>⟨I1.kIn,?_⟩) he hpl
 exact qZ M F hr hb hd hx I1 r q
end
structure aI (N P:List Str) (sc:Scope):Prop where
 kind:sc.kind=.function
 co:sc.isCoroutine=false
 gen:sc.isGenerator=false
 nd:N.Nodup
 pre:N.take P.length=P
 par:∀x∈P,sc.names.lookup x=some .local\/sc.names.lookup x=some .cell
 nofree:∀y∈sc.names,y.2≠.free
theorem kr {kindOf:Str->Option NameKind}{x:Str}:∀{binds:List (Str×Value)}{m:Str->Option Value},(∀v,(x,v)∉binds)->bindL kindOf binds m x=m x
 | [],_,_=>rfl
 | (n,v)::r,m,h=>by
  unfold bindL
  rw [kr fun w hw=>h w (List.mem_cons_of_mem _ hw)]
  split
  .have:x≠n:=by rintro rfl;exact h v List.mem_cons_self
   simp [this]
  .rfl
theorem kt {kindOf:Str->Option NameKind}{x:Str}:∀{binds:List (Str×Value)}{m:Str->Option Value},(∀v,(x,v)∉binds)->bindC kindOf binds m x=m x
 | [],_,_=>rfl
 | (n,v)::r,m,h=>by
  unfold bindC
  rw [kt fun w hw=>h w (List.mem_cons_of_mem _ hw)]
  split
  .rfl
  .have:x≠n:=by rintro rfl;exact h v List.mem_cons_self
   simp [this]
theorem ku {kindOf:Str->Option NameKind}{x:Str}{v:Value}:∀{P:List Str}{vs:List Value}{i:Nat}{m:Str->Option Value},P.Nodup->P[i]?=some x->vs[i]?=some v->kindOf x=some .local ->
  bindL kindOf (P.zip vs) m x=some v
 | [],_,_,_,_,h,_,_=>by simp at h
 | _::_,[],_,_,_,_,h,_=>by simp at h
 | p::P,w::vs,0,m,nd,h1,h2,hk=>by
  simp at h1 h2;subst h1;subst h2
  show bindL kindOf ((p,w)::P.zip vs) m p=_
  unfold bindL
  rw [kr fun v hv=>(List.nodup_cons.mp nd).1 (List.of_mem_zip hv).1,if_pos hk]
  simp
 | p::P,w::vs,i + 1,m,nd,h1,h2,hk=>by
  show bindL kindOf ((p,w)::P.zip vs) m x=_
  unfold bindL
  exact ku (i:=i) (List.nodup_cons.mp nd).2 (by simpa using h1) (by simpa using h2) hk
theorem ky {kindOf:Str->Option NameKind}{x:Str}{v:Value}:∀{P:List Str}{vs:List Value}{i:Nat}{m:Str->Option Value},P.Nodup->P[i]?=some x->vs[i]?=some v->kindOf x≠some .local ->
  bindC kindOf (P.zip vs) m x=some v
 | [],_,_,_,_,h,_,_=>by simp at h
 | _::_,[],_,_,_,_,h,_=>by simp at h
 | p::P,w::vs,0,m,nd,h1,h2,hk=>by
  simp at h1 h2;subst h1;subst h2
  show bindC kindOf ((p,w)::P.zip vs) m p=_
  unfold bindC
  rw [kt fun v hv=>(List.nodup_cons.mp nd).1 (List.of_mem_zip hv).1,if_neg hk]
  simp
 | p::P,w::vs,i + 1,m,nd,h1,h2,hk=>by
  show bindC kindOf ((p,w)::P.zip vs) m x=_
  unfold bindC
  exact ky (i:=i) (List.nodup_cons.mp nd).2 (by simpa using h1) (by simpa using h2) hk
def start (N:List Str) (vs:List V):St:=vs.map some++List.replicate (N.length - vs.length) none
def kf (CX:CXT) (P:Program) (w:World) (K:PySem.W.Frag) (mg:Str->Option Value) (base:Heap) (N:List Str) (qual:Str) (scope:Scope) (f:Addr) (cd:Value) (A:Around) (outer:List Env) (s:Shared) (H:Hp) (E:XK):Cx where
 prog:=P
 w:=w
 K:=K
 mg:=mg
 base:=base
 A:=A.deeper (envOfC qual scope s.heap.objs.size f cd)
 N:=N
 s₀:=s
 H₀:=H
 env:=envOfC qual scope s.heap.objs.size f cd
 outer:=outer
 stack:=envOfC qual scope s.heap.objs.size f cd::outer
 ex:=[]
 calm:=true
 fn:=fun _=>true
 pn:=[]
 xe:=fun e s'=>wpAny (model P w) (A.deeper (envOfC qual scope s.heap.objs.size f cd)) (leaving (envOfC qual scope s.heap.objs.size f cd) e) (fun _ s''=>CX outer H s E e s'') (fun e' s''=>CX outer H s E e' s'') s'
theorem ms {sc:Scope}{n:Nat}{x:Str} (h:sc.names.lookup x=some .cell):∃c,(cellsFrom n sc.names []).lookup x=some c:=by
 have q:=PySem.W.cellsFrom_some sc.names n [] (.inl h)
 exact Option.isSome_iff_exists.mp q
theorem oH {CX:CXT}{P:Program}{w:World}{K:PySem.W.Frag}{mg:Str->Option Value}{base:Heap}{N ps:List Str}{qual:Str}{scope:Scope}{f:Addr}{cd:Value}{A:Around}{outer:List Env}{s s1:Shared}{H:Hp}{E:XK}{us:List Value}{vs:List V}
  (S:aI N ps scope) (hd:A.handled=none) (e0:t4 P w K mg base A outer s H) (hl:vs.length=ps.length) (r:bp vs us)
  (x:InCallC s s.heap.objs.size (bindL (envOfC qual scope s.heap.objs.size f cd).kindOf (ps.zip us) fun _=>none) (cellsFrom (s.heap.objs.size + 1) scope.names []) (bindC (envOfC qual scope s.heap.objs.size f cd).kindOf (ps.zip us) fun _=>none) s1) :
  Inv (kf CX P w K mg base N qual scope f cd A outer s H E) [] (start N vs) H s1:=by
 have hpl:ps.length<=N.length:=by have:=congrArg List.length S.pre;rw [List.length_take] at this;omega
 obtain ⟨h1,tk,rfl,hk⟩:=x.done
 have noA:∀b:Addr,b∉(kf CX P w K mg base N qual scope f cd A outer s H E).ex:=fun b z=>absurd (show b∈([]:List Addr) from z) (by simp)
 refine ⟨⟨e0.mod,S.kind,rfl,rfl,Nat.le_refl _,fun y z c h1 h2=>?_,fun y hy=>?_,fun y c _ h=>?_,fun _=>hd,Around.frames_deeper e0.frames,.inr ⟨rfl,rfl⟩,fun b z=>absurd z (noA b),e0.bs,e0.bsz,fun b _ _=>noA b,fun b z=>absurd z (noA b),e0.funs,e0.frf⟩,
  rfl,e0.bare,Un.kept hk,⟨_,x.toInCall.ns,fun i y v h1 h2 h3=>?_⟩,fun y c h=>⟨_,x.cell y c h⟩,e0.hok.fresh (Nat.le_refl _),fun y c h=>?_,fun p hp=>absurd (show p∈([]:List (Addr×Obj)) from hp) (by simp),e0.hok.kept hk,?_⟩
 .exact name_of_addr x.apart (PySem.mem_of_lookup h1) (PySem.mem_of_lookup h2)
 .have hy:scope.names.lookup y=some .cell\/scope.names.lookup y=some .free:=hy
  rcases hy with hy | hy
  .exact ms hy
  .exact absurd rfl (S.nofree _ (PySem.mem_of_lookup hy))
 .exact Nat.le_of_lt (x.above y c (PySem.mem_of_lookup h))
 .have hi:i < vs.length:=by
   unfold start at h2
   by_cases hi:i < vs.length
   .exact hi
   .rw [List.getElem?_append_right (by simpa using hi)] at h2
    rw [List.getElem?_replicate] at h2
    split at h2 <;> cases h2
  have ha:vs[i]?=some v:=by
   unfold start at h2
   rw [List.getElem?_append_left (by simpa using hi),List.getElem?_map] at h2
   cases e:vs[i]? with
   | none=>rw [e] at h2;cases h2
   | some a=>rw [e] at h2;cases h2;rfl
  obtain ⟨u,hu,rv⟩:=r.get ha
  have hp:ps[i]?=some y:=by
   rw [<- S.pre,List.getElem?_take_of_lt (by omega)];exact h1
  have ndP:ps.Nodup:=by rw [<- S.pre];exact S.nd.sublist (List.take_sublist _ _)
  refine ⟨u,rv,?_⟩
  rcases S.par y (List.mem_of_getElem? hp) with k | k
  .exact .inl ⟨k,ku ndP hp hu k⟩
  .obtain ⟨c,e⟩:=ms (n:=s.heap.objs.size + 1) k
   refine .inr ⟨.inl k,c,e,?_⟩
   have q:=x.cell y c e
   rw [ky ndP hp hu (by show scope.names.lookup y≠_;rw [k];decide)] at q
   exact q
 .exact e0.hok.fresh (Nat.le_of_lt (x.above y c (PySem.mem_of_lookup h)))
 .unfold start
  show _=N.length
  rw [List.length_append,List.length_map,List.length_replicate]
  omega
theorem q0 {CX:CXT}{P:Program}{w:World}{K:PySem.W.Frag}{mg:Str->Option Value}{base:Heap}{k:Nat}{f:Addr}{name qual:Str}{params:Arguments}{body:List Stmt}{scope:Scope}{dV kV doc pm cdv ct oc:Value}{an od:Option Addr}
  {osl:Array (Option Value)}{N ps:List Str}{sp:Sp} (lk:K.lookup f=some ⟨oc,od,.func (PySem.W.fnOf name qual params body scope dV kV doc pm an cdv ct),osl⟩) (hcd:PySem.W.codeIn K cdv qual=true) (S:aI N ps scope)
  (len:∀vs H Q E,sp vs H Q E->vs.length=ps.length)
  (hbody:∀(A:Around) (outer:List Env) (s:Shared) (H:Hp) (vs:List V) (Q:VK) (E:XK),c4 k (A.deeper (envOfC qual scope s.heap.objs.size f cdv))->sp vs H Q E ->
   ∃t,PSs (kf CX P w K mg base N qual scope f cdv A outer s H E) body t/\t { nx:=fun _ H'=>Q .non H',rt:=Q } (start N vs) H) :
  jb P w K mg base CX (k + 1) f (PySem.W.fnOf name qual params body scope dV kV doc pm an cdv ct) ps sp:=by
 refine ⟨len,fun A outer s H args us vs Q E hr e0 hb r hsp=>?_⟩
 have hl:=len _ _ _ _ hsp
 have KX:K.In s.heap:=e0.mod.kin.keeps fun b o e=>(e0.bs b o e).1
 have lim:s.heap.NoLimit:=e0.mod.nolimit.keeps fun b o e=>(e0.bs b o e).1
 have hkind:∀y∈ps.zip us,scope.names.lookup y.1=some .local\/(scope.names.lookup y.1=some .cell/\((cellsFrom (s.heap.objs.size + 1) scope.names []).lookup y.1).isSome=true):=fun ⟨n,v⟩ hy=>by
  rcases S.par n (List.of_mem_zip hy).1 with q | q
  .exact .inl q
  .exact .inr ⟨q,PySem.W.cellsFrom_some _ _ _ (.inl q)⟩
 refine codeAny_call_function hr.depth (KX _ _ lk) rfl S.co S.gen rfl (PySem.W.codeRec_of KX hcd) (hb _ _ _ _ ?_)
 refine wpAny_newFunctionEnv_cells S.kind hkind fun env he s1 x=>?_
 subst he
 refine ⟨lim.keeps x.toInCall.keep,codeAny_func ?_⟩
 obtain ⟨t,ht,hq⟩:=hbody A outer s H vs Q E (hr.deeper _) hsp
 have I:Inv (kf CX P w K mg base N qual scope f cdv A outer s H E) [] (start N vs) H s1:=oH S hr.hd e0 hl r x
 refine wpAny_mono (ht [] s1 (start N vs) H _ I hq) (fun fl s' hs=>?_) fun e s' hs=>hs
 have fin:∀{σ':St}{H':Hp}{v:V}{u:Value},Inv (kf CX P w K mg base N qual scope f cdv A outer s H E) [] σ' H' s'->bR v u->Q v H'->CE outer P w H s Q u s' :=
  fun {σ' H' v u} J rv q=>⟨v,H',J.os,J.bare,J.base,J.hok,rv,q⟩
 cases fl with
 | ret u =>
  obtain ⟨v,σ',H',J,rv,q⟩:=hs
  exact fin J rv q
 | next =>
  obtain ⟨σ',H',J,q⟩:=hs
  exact fin (v:=V.non) (u:=Value.none) J rfl q
 | brk =>
  obtain ⟨_,_,_,q⟩:=hs
  exact False.elim q
 | cont =>
  obtain ⟨_,_,_,q⟩:=hs
  exact False.elim q
section
variable {X:Cx}{x:Str}{p pos:Pos}{e:Expr}{es:List Expr}{t:TA}{id T:String}{r:List V->Hp->VK->Prop}
def tCB (r:List V->Hp->VK->Prop) (t:TA):TE:=fun σ H Q=>t σ H fun vs H1=>r vs H1 Q
theorem rc (hc:a9 X (.builtin id) r) (hg:Gl X x) (hm:X.mg x=none) (hv:bootBuiltins x=some (.builtin id)) (ha:PA X (e::es) t) (hn:x≠"__name__":=by decide) (hdb:(x == ("__debug__":Str))=false:=by decide)
  (he:starEach (e::es) X.env=(false,eval e X.env)::starEach es X.env:=by rfl) (hpl:(backTo pos (starEach es X.env)).any (·.1)=false:=by rfl):PE X (.Call (.Name x p) (e::es) [] pos) (tCB r t):=by
 intro pins s σ H Q I h
 refine wpAny_Call_Name_kw (gO I hg hm hv ?_ hn hdb)
 exact PyProof.Rows.callWith_builtin1 (thn (ha pos pins s σ H _ I h) fun us s1 ⟨vs,H1,I1,r1,q1⟩=>hc pins s1 σ H1 vs us Q I1 r1 q1) he hpl
theorem oI (hc:a9 X (.type T) r) (hg:Gl X x) (hm:X.mg x=none) (hv:bootBuiltins x=some (.type T)) (ha:PA X (e::es) t) (hn:x≠"__name__":=by decide) (hdb:(x == ("__debug__":Str))=false:=by decide)
  (he:starEach (e::es) X.env=(false,eval e X.env)::starEach es X.env:=by rfl) (hpl:(backTo pos (starEach es X.env)).any (·.1)=false:=by rfl):PE X (.Call (.Name x p) (e::es) [] pos) (tCB r t):=by
 intro pins s σ H Q I h
 refine wpAny_Call_Name_kw (gO I hg hm hv ?_ hn hdb)
 exact PyProof.Rows.callWith_type1 (thn (ha pos pins s σ H _ I h) fun us s1 ⟨vs,H1,I1,r1,q1⟩=>hc pins s1 σ H1 vs us Q I1 r1 q1) he hpl
end
end L2
namespace HT
open PySem PyProof.Rows
section
open PySem.SeqAt
open PySem.AutoSeq1 (wpAny_loadPart')
open PySem.MeetsSeq PySem.MeetsSeq2 PySem.MeetsSeq3
end
section
variable {prog:Program}{w:World}{A:Around}{E:Value->Shared->Prop}{s:Shared}
theorem cat_tup {t b:Addr}{vs ws:List Value}{Q:Value->Shared->Prop} (ht:IsTup s.heap t vs.toArray) (hb:IsTup s.heap b ws.toArray) (hv:vs≠[])
  (h1:ws=[]->Q (.ref t) s) (h2:ws≠[]->Q (.ref s.heap.objs.size) { s with heap:=s.heap.push { cls:=.type "tuple",data:=.seq (vs++ws).toArray } })
  (hsz:vs.length + ws.length<=sizeLine):wpAny (model prog w) A (binaryOp .Add (.ref t) (.ref b)) Q E s:=by
 obtain ⟨⟨cls,dd,data,sl⟩,ho,hc,n,hd⟩:=id ht
 obtain ⟨⟨cls2,dd2,data2,sl2⟩,ho2,hc2,n2,hd2⟩:=id hb
 simp only at hc hd hc2 hd2
 subst hc hd hc2 hd2
 have e:vs.toArray++ws.toArray=(vs++ws).toArray:=by simp
 by_cases hw:ws=[]
 .exact concat_meets ⟨_,ho,rfl⟩ ⟨_,ho2,rfl⟩ noFill_tuple_add seq_tuple_add PySem.F.slot_tuple_add PySem.F.entry_tuple_add (PySem.F.args_tuple_add_2 _ _)
   (tuple_addW1 t b vs.toArray ws.toArray n n2 dd dd2 sl sl2 (by simpa using hv) (by simp [hw])) ⟨ho,ho2,h1 hw⟩
 .refine concat_meets ⟨_,ho,rfl⟩ ⟨_,ho2,rfl⟩ noFill_tuple_add seq_tuple_add PySem.F.slot_tuple_add PySem.F.entry_tuple_add (PySem.F.args_tuple_add_2 _ _)
   (tuple_addW2 t b vs.toArray ws.toArray n n2 dd dd2 sl sl2 (by simpa using hv) (by simpa using hw) (by rw [List.size_toArray,List.size_toArray];exact hsz)) ⟨ho,ho2,?_⟩
  rw [e]
  exact h2 hw
def sIx (n d:Nat):Option Int->Nat
 | none=>d
 | some v=>if v < 0 then (v + (n:Int)).toNat else min v.toNat n
theorem sIx_nat (n d k:Nat):sIx n d (some (k:Int))=min k n:=by
 show (if (k:Int) < 0 then ((k:Int) + (n:Int)).toNat else min (k:Int).toNat n)=min k n
 rw [if_neg (by omega),Int.toNat_natCast]
theorem sIx_le (n d:Nat) (hd:d<=n) (o:Option Int):sIx n d o<=n:=by
 cases o with
 | none=>exact hd
 | some v =>
  show (if v < 0 then (v + (n:Int)).toNat else min v.toNat n)<=n
  by_cases hv:v < 0
  .rw [if_pos hv];omega
  .rw [if_neg hv];exact Nat.min_le_right _ _
theorem clip_eq (v:Int) (n d:Nat):(if v < 0 then max (v + (n:Int)) 0 else min v (n:Int))=((sIx n d (some v):Nat):Int):=by
 show (if v < 0 then max (v + (n:Int)) 0 else min v (n:Int))=(((if v < 0 then (v + (n:Int)).toNat else min v.toNat n):Nat):Int)
 by_cases hv:v < 0
 .simp only [if_pos hv];omega
 .simp only [if_neg hv];omega
theorem nu (lo hi:Option Int) (n:Nat):Builtin.Slice.sliceAdjust lo hi 1 (n:Int)=(((sIx n 0 lo:Nat):Int),((sIx n n hi:Nat):Int)):=by
 have h1:¬ ((1:Int) < 0):=by omega
 unfold Builtin.Slice.sliceAdjust
 simp only [h1,if_false]
 refine Prod.ext ?_ ?_
 .cases lo with
  | none=>rfl
  | some v=>exact clip_eq v n 0
 .cases hi with
  | none=>rfl
  | some v=>exact clip_eq v n n
theorem nv (i j:Nat):Builtin.Slice.slicePlaces (i:Int) (j:Int) 1=j - i:=by
 unfold Builtin.Slice.slicePlaces
 have h1:(1:Int) > 0:=by omega
 simp only [h1,if_true,Int.ediv_one]
 split <;> omega
theorem jc {v:Value}{o:Option Int}{Q:Option Int->Shared->Prop} (p:IsPart v o) (h:Q o s):wpAny (model prog w) A (Builtin.Slice.slicePartIndex v) Q E s:=by
 cases p with
 | none=>exact slicePart_none h
 | int i t=>exact slicePart_int h
theorem dC {sl:Addr}{vl vu:Value}{lo hi:Option Int}{n:Nat}{Q:Int×Int×Nat->Shared->Prop} (hs:s.heap.IsSliceOf sl vl vu .none) (pl:IsPart vl lo) (pu:IsPart vu hi)
  (h:Q (((sIx n 0 lo:Nat):Int),1,sIx n n hi - sIx n 0 lo) s):wpAny (model prog w) A (Builtin.Slice.sliceApplied (.ref sl) (pure (n:Int))) Q E s:=by
 obtain ⟨os,hos,hcs,hds⟩:=id hs
 unfold Builtin.Slice.sliceApplied Builtin.Slice.sliceFields
 refine wpAny_bind (wpAny_bind (wpAny_field hos hds (x:=vl) rfl (wpAny_bind (wpAny_field hos hds (x:=vu) rfl (wpAny_bind (wpAny_field hos hds (x:=.none) rfl (wpAny_pure ?_)))))))
 refine wpAny_bind (slicePart_none ?_)
 show wpAny _ _ (if ((1:Int) == 0)=true then _ else _) _ _ s
 rw [if_neg (by decide)]
 refine wpAny_bind (jc pl (wpAny_bind (jc pu (wpAny_bind (wpAny_pure ?_)))))
 show wpAny _ _ (match Builtin.Slice.sliceAdjust lo hi 1 (n:Int) with | (lo,hi)=>pure (lo,(1:Int),Builtin.Slice.slicePlaces lo hi 1)) _ _ s
 rw [nu lo hi n]
 show wpAny _ _ (pure (((sIx n 0 lo:Nat):Int),(1:Int),Builtin.Slice.slicePlaces ((sIx n 0 lo:Nat):Int) ((sIx n n hi:Nat):Int) 1)) _ _ s
 rw [nv]
 exact wpAny_pure h
theorem rd (xs:Array Value) (i k:Nat):((List.range k).filterMap fun (m:Nat)=>xs[((i:Int) + (m:Int) * 1).toNat]?).toArray=((xs.toList.drop i).take k).toArray:=by
 have e:(fun (m:Nat)=>xs[((i:Int) + (m:Int) * 1).toNat]?)=fun m=>xs[i + m]?:=by
  funext m
  have:((i:Int) + (m:Int) * 1).toNat=i + m:=by omega
  rw [this]
 rw [e]
 have:=pick_run xs i k
 rw [List.filterMap_map] at this
 have e2:((fun x=>xs[x]?) ∘ fun x=>i + x)=fun m=>xs[i + m]?:=rfl
 rw [e2] at this
 rw [this]
theorem getItem_tuple_cut {t sl:Addr}{items:Array Value}{vl vu:Value}{lo hi:Option Int}{Q:Value->Shared->Prop} (ht:IsTup s.heap t items) (hs:s.heap.IsSliceOf sl vl vu .none) (pl:IsPart vl lo) (pu:IsPart vu hi)
  (hw:¬ (sIx items.size 0 lo=0/\sIx items.size items.size hi=items.size))
  (h:Q (.ref s.heap.objs.size) { s with heap:=s.heap.push { cls:=.type "tuple",data:=.seq ((items.toList.drop (sIx items.size 0 lo)).take (sIx items.size items.size hi - sIx items.size 0 lo)).toArray } })
  (hsz:items.size<=sizeLine):wpAny (model prog w) A (getItem (.ref t) (.ref sl)) Q E s:=by
 have htake:sizeOk (.seq ((items.toList.drop (sIx items.size 0 lo)).take (sIx items.size items.size hi - sIx items.size 0 lo)).toArray):=by
  show ((items.toList.drop (sIx items.size 0 lo)).take (sIx items.size items.size hi - sIx items.size 0 lo)).toArray.size<=sizeLine
  rw [List.size_toArray,List.length_take,List.length_drop,Array.length_toList]
  omega
 have hj:sIx items.size items.size hi<=items.size:=sIx_le _ _ (Nat.le_refl _) hi
 obtain ⟨os,hos,hcs,hds⟩:=id hs
 have hTs:s.TypeIs (.ref sl) "slice":=⟨os,hos,hcs⟩
 unfold getItem
 try with_reducible refine wpAny_holding ?_
 first | refine wpAny_bind (wpAny_pure ?_) | skip
 refine wpAny_bind (wpAny_sequenceKey ht.typeIs (by decide) ?_)
 refine wpAny_bind (wpAny_callSpecial?_slot (name:=Str.ofString "__getitem__") ht.typeIs PyProof.Rows.slot_tuple_getitem
  (wpAny_call_entry PyProof.Rows.slot_tuple_getitem ht.typeIs entry_tuple_getitem ?_ (args_tuple_getitem _ _)))
 show wpAny _ _ (Builtin.Tuple.tupleItemsOf (.ref t) >>= _) _ _ s
 refine wpAny_bind (tupleItemsOf_ ht ?_)
 refine wpAny_bind (wpAny_typeOf hTs ?_)
 rw [if_pos (by decide)]
 refine wpAny_bind (dC hs pl pu ?_)
 have hno:¬ ((((sIx items.size 0 lo:Nat):Int) == 0 && (1:Int) == 1 && (sIx items.size items.size hi - sIx items.size 0 lo) == items.size)=true):=by
  intro q
  rw [Bool.and_eq_true,Bool.and_eq_true] at q
  have q1:((sIx items.size 0 lo:Nat):Int)=0:=eq_of_beq q.1.1
  have q2:sIx items.size items.size hi - sIx items.size 0 lo=items.size:=eq_of_beq q.2
  exact hw ⟨by omega,by omega⟩
 show wpAny _ _ (if (((sIx items.size 0 lo:Nat):Int) == 0 && (1:Int) == 1 && (sIx items.size items.size hi - sIx items.size 0 lo) == items.size)=true then _ else _) _ _ s
 rw [if_neg hno,rd]
 first
  | exact wpAny_bind (m:=Builtin.Tuple.tupleExact _) (wpAny_newObj_type (wpAny_pure ⟨_,rfl,wpAny_pure h⟩) htake)
  | exact wpAny_bind (m:=Builtin.Tuple.tupleExact _) (wpAny_newObj_type (wpAny_bind (wpAny_pure (wpAny_pure ⟨_,rfl,wpAny_pure h⟩))) htake)
  | exact wpAny_bind (wpAny_bind (m:=Builtin.Tuple.tupleExact _) (wpAny_newObj_type (wpAny_pure (wpAny_pure ⟨_,rfl,wpAny_pure h⟩)) htake))
  | exact wpAny_bind (wpAny_bind (m:=Builtin.Tuple.tupleExact _) (wpAny_newObj_type (wpAny_pure ⟨_,rfl,wpAny_pure h⟩) htake))
end
end HT
namespace L2
open PySem PySem.Spec PyProof.Rows
abbrev TO:=St->Hp->(Option Int->Hp->Prop)->Prop
def PO (X:Cx) (e:Option Expr) (t:TO):Prop :=
 ∀(pins:List (Addr×Obj)) (s:Shared) (σ:St) (H:Hp) (Q:Option Int->Hp->Prop),Inv X pins σ H s->t σ H Q ->
  wpAny (model X.prog X.w) X.A (evalPart e X.env) (fun u s'=>∃o H',Inv X pins σ H' s'/\IsPart u o/\Q o H') X.xe s
def oJ:TO:=fun _ H Q=>Q none H
def wC (t:TE):TO:=fun σ H Q=>t σ H fun x H1=>∃i,x=.int i/\Q (some i) H1
theorem jd {ns:List Int}:∀{us:List Value},bp (ns.map V.int) us->IntsAre us ns:=by
 induction ns with
 | nil=>intro us r;rw [List.map_nil] at r;cases r;exact .nil
 | cons n ns ih =>
  intro us r
  rw [List.map_cons] at r
  cases r with
  | cons r1 r2 =>
   obtain ⟨t,e⟩:=r1
   subst e
   exact .cons n t (ih r2)
section
variable {X:Cx}{e:Expr}{te:TE}{lo hi:Option Expr}{tl th:TO}{pos p2:Pos}
theorem e5:PO X none oJ:=by
 intro pins s σ H Q I h
 rw [evalPart_none]
 exact wpAny_pure ⟨none,H,I,.none,h⟩
theorem c6 (h:PE X e te):PO X (some e) (wC te):=by
 intro pins s σ H Q I hw
 rw [evalPart_some]
 refine thn (h pins s σ H _ I hw) fun u s1 ⟨x,H1,I1,r1,q1⟩=>?_
 obtain ⟨i,rfl,q⟩:=q1
 obtain ⟨t,rfl⟩:=r1
 exact ⟨some i,H1,I1,.int i t,q⟩
def SlR (X:Cx) (r:V->Option Int->Option Int->Hp->VK->Prop):Prop :=
 ∀(pins:List (Addr×Obj)) (s:Shared) (σ:St) (H:Hp) (x:V) (v vl vu:Value) (lo hi:Option Int) (sl:Addr) (Q:VK),Inv X pins σ H s->bR x v->s.heap.IsSliceOf sl vl vu .none->IsPart vl lo->IsPart vu hi->r x lo hi H Q ->
  ∃T id,typeLookup (.type T) "__getitem__"=pure (some (.builtin id))/\s.TypeIs v T/\wpAny (model X.prog X.w) X.A (getItem v (.ref sl)) (EP X pins σ Q) X.xe s
theorem SlR.or {r r':V->Option Int->Option Int->Hp->VK->Prop} (h:SlR X r) (h':SlR X r'):SlR X (fun x lo hi H Q=>r x lo hi H Q\/r' x lo hi H Q):=by
 intro pins s σ H x v vl vu lo hi sl Q I rx hs pl pu q
 rcases q with q | q
 .exact h pins s σ H x v vl vu lo hi sl Q I rx hs pl pu q
 .exact h' pins s σ H x v vl vu lo hi sl Q I rx hs pl pu q
def tSl (r:V->Option Int->Option Int->Hp->VK->Prop) (te:TE) (tl th:TO):TE:=fun σ H Q=>te σ H fun x H1=>tl σ H1 fun l H2=>th σ H2 fun u H3=>r x l u H3 Q
theorem cN {r:V->Option Int->Option Int->Hp->VK->Prop} (hr:SlR X r) (he:PE X e te) (hl:PO X lo tl) (hu:PO X hi th):PE X (.Subscript e (.Slice lo hi none p2) pos) (tSl r te tl th):=by
 intro pins s σ H Q I h
 refine Subscript_ (thn (he pins s σ H _ I h) fun v s1 ⟨x,H1,I1,r1,q1⟩=>?_)
 refine wpAny_Slice (thn (hl pins s1 σ H1 _ I1 q1) fun vl s2 ⟨l,H2,I2,pl,q2⟩=>thn (hu pins s2 σ H2 _ I2 q2) fun vu s3 ⟨u,H3,I3,pu,q3⟩=>?_)
 rw [evalPart_none]
 refine wpAny_pure ?_
 have I4:Inv X pins σ H3 { s3 with heap:=s3.heap.push { cls:=.type "slice",data:=.fields #[vl,vu,.none] } }:=I3.kept (t':=s3.toks) fun b ob q=>Heap.get?_push_of_some _ q
 obtain ⟨T,id,hT,ht,hg⟩:=hr pins { s3 with heap:=s3.heap.push { cls:=.type "slice",data:=.fields #[vl,vu,.none] } } σ H3 x v vl vu l u s3.heap.objs.size Q I4 r1 (Heap.IsSliceOf.new ..) pl pu q3
 show wpAny (model X.prog X.w) X.A (subscriptTail e (.Slice lo hi none p2) v (.ref s3.heap.objs.size)) (EP X pins σ Q) X.xe { s3 with heap:=s3.heap.push { cls:=.type "slice",data:=.fields #[vl,vu,.none] } }
 exact tail_any (ops:=[.ref s3.heap.objs.size,v]) ht hT hg (by with_unfolding_all rfl)
def t6 (xs:List V) (lo hi:Option Int):List V:=(xs.drop (HT.sIx xs.length 0 lo)).take (HT.sIx xs.length xs.length hi - HT.sIx xs.length 0 lo)
theorem gS (xs:List V) (lo hi:Option Int):(t6 xs lo hi).length<=xs.length:=by
 unfold t6
 rw [List.length_take,List.length_drop]
 omega
def zI (K:PySem.W.Frag):V->Option Int->Option Int->Hp->VK->Prop:=fun x lo hi H Q=>∃a xs,x=.ref a/\SqT K H a xs /\
 ¬ (HT.sIx xs.length 0 lo=0/\HT.sIx xs.length xs.length hi=xs.length)/\∀p,H p=none->Q (.ref p) (upd H p (.tup (t6 xs lo hi)))
theorem wD:SlR X (zI X.K):=by
 intro pins s σ H x v vl vu lo hi sl Q I rx hs pl pu h
 obtain ⟨a,xs,rfl,hx,hw,q⟩:=h
 cases rx
 obtain ⟨its,r,ht,hz⟩:=I.tuple hx
 have hlen:its.toArray.size=xs.length:=by rw [List.size_toArray];exact r.length.symm
 refine ⟨"tuple",_,PyProof.Rows.slot_tuple_getitem.lookup,ht.typeIs,?_⟩
 refine HT.getItem_tuple_cut ht hs pl pu (by rw [hlen];exact hw) ?_ (by rw [hlen];exact hz)
 rw [hlen]
 refine ⟨.ref s.heap.objs.size,_,I.laid (t':=s.toks) (o:=.tup (t6 xs lo hi)) (fun b ob q=>Heap.get?_push_of_some _ q) (Nat.le_refl _) ?_,rfl,q _ (I.hok.fresh (Nat.le_refl _))⟩
 exact ⟨Nat.le_trans (gS xs lo hi) hz,_,(r.drop (HT.sIx xs.length 0 lo)).take (HT.sIx xs.length xs.length hi - HT.sIx xs.length 0 lo),IsTup.new _ _⟩
def wE (K:PySem.W.Frag):R2:=fun x y H Q=>∃a b xs ys,x=.ref a/\y=.ref b/\SqT K H a xs/\SqT K H b ys/\xs≠[]/\xs.length + ys.length<=sizeLine /\
 (ys=[]->Q (.ref a) H)/\(ys≠[]->∀p,H p=none->Q (.ref p) (upd H p (.tup (xs++ys))))
theorem bp.nil_iff {xs:List V}{us:List Value} (r:bp xs us):us=[] ↔ xs=[]:=by
 cases r with
 | nil=>simp
 | cons _ _=>simp
theorem t7:OpR X (binaryOp .Add) (wE X.K):=by
 intro pins s σ H x y v u Q I rx ry h
 obtain ⟨a,b,xs,ys,rfl,rfl,ha,hb,hx,hz,q1,q2⟩:=h
 cases rx
 cases ry
 obtain ⟨its,r1,p1,_⟩:=I.tuple ha
 obtain ⟨its2,r2,p2,_⟩:=I.tuple hb
 refine HT.cat_tup p1 p2 (fun z=>hx (r1.nil_iff.mp z)) (fun z=>⟨.ref a,H,I,rfl,q1 (r2.nil_iff.mp z)⟩) (fun z=>?_) (by rw [<- r1.length,<- r2.length];exact hz)
 refine ⟨.ref s.heap.objs.size,_,I.laid (t':=s.toks) (o:=.tup (xs++ys)) (fun b ob q=>Heap.get?_push_of_some _ q) (Nat.le_refl _) ?_,rfl,q2 (fun w=>z (r2.nil_iff.mpr w)) _ (I.hok.fresh (Nat.le_refl _))⟩
 exact ⟨by rw [List.length_append];exact hz,_,r1.append r2,IsTup.new _ _⟩
end
def ixN (n:Nat) (i:Int):Option Nat:=if 0<=i then (if i < n then some i.toNat else none) else if -(n:Int)<=i then some (i + n).toNat else none
def atI {α:Type} (xs:List α) (i:Int):Option α:=(ixN xs.length i).bind fun j=>xs[j]?
theorem oK {n:Nat}{i:Int}{j:Nat} (h:ixN n i=some j):seqIndex? i n=some j/\j < n/\-(n:Int)<=i/\i < n:=by
 unfold ixN at h
 by_cases h0:0<=i
 .rw [if_pos h0] at h
  by_cases h1:i < n
  .rw [if_pos h1] at h
   have e:i.toNat=j:=Option.some.inj h
   exact ⟨by rw [seqIndex_of h0 h1,e],by omega,by omega,h1⟩
  .rw [if_neg h1] at h;cases h
 .rw [if_neg h0] at h
  by_cases h1:-(n:Int)<=i
  .rw [if_pos h1] at h
   have e:(i + n).toNat=j:=Option.some.inj h
   exact ⟨by rw [seqIndex_neg (by omega) h1,e],by omega,h1,by omega⟩
  .rw [if_neg h1] at h;cases h
theorem lz {α:Type}{xs:List α}{i:Int}{v:α} (h:atI xs i=some v):∃j,seqIndex? i xs.length=some j/\xs[j]?=some v/\j < xs.length/\-(xs.length:Int)<=i/\i < xs.length:=by
 unfold atI at h
 cases e:ixN xs.length i with
 | none=>rw [e] at h;cases h
 | some j =>
  rw [e] at h
  obtain ⟨h1,h2,h3,h4⟩:=oK e
  exact ⟨j,h1,h,h2,h3,h4⟩
theorem t8 {α:Type}{xs:List α}{j:Nat}{v:α} (h:xs[j]?=some v):atI xs (j:Int)=some v:=by
 have hj:j < xs.length:=(List.getElem?_eq_some_iff.mp h).1
 have e:ixN xs.length (j:Int)=some j:=by
  unfold ixN
  rw [if_pos (by omega),if_pos (by omega)];simp
 unfold atI;rw [e];exact h
def t9 (b:Expr):Prop:=∀o i,subscripted b false o i=operate [o,i] (getItem o i)
def IxR (X:Cx) (r:R2):Prop :=
 ∀(value slice:Expr) (pins:List (Addr×Obj)) (s:Shared) (σ:St) (H:Hp) (x y:V) (v u:Value) (Q:VK),Inv X pins σ H s->bR x v->bR y u->r x y H Q ->
  subscripted slice false v u=operate [v,u] (getItem v u)->wpAny (model X.prog X.w) X.A (subscriptTail value slice v u) (EP X pins σ Q) X.xe s
def MtR (X:Cx) (id:String) (r:V->List V->Hp->VK->Prop):Prop :=
 ∀(pins:List (Addr×Obj)) (s:Shared) (σ:St) (H:Hp) (x:V) (xs:List V) (v:Value) (us:List Value) (Q:VK),Inv X pins σ H s->bR x v->bp xs us->r x xs H Q ->
  wpAny (model X.prog X.w) X.A (call (.builtin id) (v::us)) (EP X pins σ Q) X.xe s
section
variable {X:Cx}{a b:Expr}{ta tb:TE}{pos:Pos}
theorem IxR.or {r r':R2} (h:IxR X r) (h':IxR X r'):IxR X (fun x y H Q=>r x y H Q\/r' x y H Q):=by
 intro value slice pins s σ H x y v u Q I rx ry q hs
 rcases q with q | q
 .exact h value slice pins s σ H x y v u Q I rx ry q hs
 .exact h' value slice pins s σ H x y v u Q I rx ry q hs
theorem c7 {r:R2} (hr:IxR X r) (ha:PE X a ta) (hb:PE X b tb) (hs:t9 b):PE X (.Subscript a b pos) (tOp r ta tb):=by
 intro pins s σ H Q I h
 exact Subscript_ (yp ha hb I h fun v u s2 x y H2 I2 rx ry q=>hr a b pins s2 σ H2 x y v u Q I2 rx ry q (hs _ _))
def zJ (K:PySem.W.Frag):R2:=fun x y H Q=>∃p xs i v,x=.ref p/\y=.int i/\SqL K H p xs/\atI xs i=some v/\Q v H
def zK (K:PySem.W.Frag):R2:=fun x y H Q=>∃p xs i v,x=.ref p/\y=.int i/\SqT K H p xs/\atI xs i=some v/\Q v H
def Ao:R2:=fun x y H Q=>∃z i c,x=.str z/\y=.int i/\z.length<=sizeLine/\atI z.cps.toList i=some c/\Q (.str ⟨#[c]⟩) H
theorem ua:IxR X (zJ X.K):=by
 intro value slice pins s σ H x y v u Q I rx ry h hs
 obtain ⟨p,xs,i,z,rfl,rfl,hq,he,q⟩:=h
 cases rx
 obtain ⟨t,rfl⟩:=ry
 obtain ⟨its,r,pl,hz⟩:=I.list hq
 obtain ⟨j,h1,h2,h3,h4,h5⟩:=lz he
 obtain ⟨w,ew,rw'⟩:=r.get h2
 have hl:=r.length
 have hn:=i8
 have fin:EP X pins σ Q w s:=⟨z,H,I,rw',q⟩
 by_cases h0:0<=i
 .have hj:i.toNat=j:=by
   rw [seqIndex_of h0 h5] at h1
   exact Option.some.inj h1
  exact item_listR pl.isList h0 (by omega) (by rw [hj];simpa using ew) fin hs
 .have hj:(i + (its.toArray.size:Int)).toNat=j:=by
   rw [seqIndex_neg (by omega) h4] at h1
   rw [List.size_toArray,<- hl]
   exact Option.some.inj h1
  exact subscriptTail_builtinR (x:=w) pl.isList.typeIs slot_list_getitem.lookup
   (wpAny_getItem_list_neg (Q:=fun r s'=>r=w/\EP X pins σ Q r s') pl.isList (by omega) (by rw [List.size_toArray] <;> omega) (by omega) (by rw [hj];simpa using ew) ⟨rfl,fin⟩) hs
theorem wF:IxR X (zK X.K):=by
 intro value slice pins s σ H x y v u Q I rx ry h hs
 obtain ⟨p,xs,i,z,rfl,rfl,hq,he,q⟩:=h
 cases rx
 obtain ⟨t,rfl⟩:=ry
 obtain ⟨its,r,pl,hz⟩:=I.tuple hq
 obtain ⟨j,h1,h2,h3,h4,h5⟩:=lz he
 obtain ⟨w,ew,rw'⟩:=r.get h2
 have hl:=r.length
 have hn:=i8
 have fin:EP X pins σ Q w s:=⟨z,H,I,rw',q⟩
 exact subscriptTail_builtinR (x:=w) pl.typeIs slot_tuple_getitem.lookup
  (getItem_tuple (j:=j) (Q:=fun r s'=>r=w/\EP X pins σ Q r s') pl (by omega) (by omega) (by rw [List.size_toArray,<- hl];exact h1) (by simpa using ew) ⟨rfl,fin⟩) hs
theorem wG:IxR X Ao:=by
 intro value slice pins s σ H x y v u Q I rx ry h hs
 obtain ⟨z,i,c,rfl,rfl,hz,he,q⟩:=h
 obtain ⟨t,rfl⟩:=rx
 obtain ⟨t',rfl⟩:=ry
 obtain ⟨j,h1,h2,h3,h4,h5⟩:=lz he
 have hl:z.cps.toList.length=z.length:=by simp [Str.length]
 rw [hl] at h1 h4 h5
 have hn:=i8
 exact tail_any (typeIs_str s z t) slot_str_getitem.lookup (getItem_str (c:=c) (by
  have e1:decide (i < -(2 ^ 63:Int))=false:=decide_eq_false (by omega)
  have e2:decide (i >= 2 ^ 63)=false:=decide_eq_false (by omega)
  rw [e1,e2,Bool.or_false]) (by rw [h1];simpa using h2) ⟨.str ⟨#[c]⟩,H,I.tok _,⟨_,rfl⟩,q⟩) hs
theorem ny (its:List Value) (n j:Nat) (u:Value):Obj.mapSeq (·.setIfInBounds j u) { cls:=.type "list",data:=.seq its.toArray n }={ cls:=.type "list",data:=.seq (its.set j u).toArray n }:=by
 simp [Obj.mapSeq]
theorem Inv.lst {pins:List (Addr×Obj)}{σ:St}{H:Hp}{s:Shared}{p:Addr}{xs:List V} (I:Inv X pins σ H s) (h:H p=some (.lst xs)) :
  ∃(its:List Value) (n:Nat),bp xs its/\s.heap.get? p=some { cls:=.type "list",data:=.seq its.toArray n }/\xs.length<=sizeLine:=by
 obtain ⟨z,its,n,r,e⟩:=I.hok p _ h
 exact ⟨its,n,r,e,z⟩
theorem Inv.lstUpd {pins:List (Addr×Obj)}{σ:St}{H:Hp}{s:Shared}{p:Addr}{xs ys:List V}{its its':List Value}{n n':Nat}{f:Obj->Obj} (I:Inv X pins σ H s) (h:H p=some (.lst xs))
  (ho:s.heap.get? p=some { cls:=.type "list",data:=.seq its.toArray n }) (hf:f { cls:=.type "list",data:=.seq its.toArray n }={ cls:=.type "list",data:=.seq its'.toArray n' }) (r:bp ys its') (hz:ys.length<=sizeLine) (t:Nat) :
  Inv X pins σ (upd H p (.lst ys)) { s with heap:=s.heap.update p f,toks:=t }:=by
 have e:(s.heap.update p f).get? p=some { cls:=.type "list",data:=.seq its'.toArray n' }:=by
  rw [Heap.get?_update_self f ho (by rw [hf] <;> rfl),hf]
 refine I.write (x:=p) (e:=p) (by rw [h];trivial) (.inl rfl) (fun b u hb q=>(Heap.get?_update_other _ _ (Ne.symm hb)).trans q) ⟨_,e⟩ ?_
 exact ⟨hz,its',n',r,e⟩
def wH:V->V->V->Hp->(Hp->Prop)->Prop:=fun o i v H Q=>∃p xs k j,o=.ref p/\i=.int k/\H p=some (.lst xs)/\ixN xs.length k=some j/\Q (upd H p (.lst (xs.set j v)))
theorem gK:zC X wH:=by
 intro pins s σ H o i v ov iv u Q I ro ri rv h
 obtain ⟨p,xs,k,j,rfl,rfl,hp,hj,q⟩:=h
 cases ro
 obtain ⟨t,rfl⟩:=ri
 obtain ⟨its,n,r,ho,hz⟩:=I.lst hp
 obtain ⟨h1,h2,h3,h4⟩:=oK hj
 have hl:=r.length
 have hn:=i8
 have I':Inv X pins σ (upd H p (.lst (xs.set j v))) { s with heap:=s.heap.update p (Obj.mapSeq (·.setIfInBounds j u)) } :=
  I.lstUpd hp ho (ny its n j u) (r.set rv j) (by rw [List.length_set];exact hz) s.toks
 by_cases h0:0<=k
 .have hk:k.toNat=j:=by
   rw [seqIndex_of h0 h4] at h1
   exact Option.some.inj h1
  exact PySem.W.ki_setAt ho h0 (by omega) (by rw [List.size_toArray,<- hl];exact h4) (by rw [hk];exact ⟨_,I',q⟩)
 .have hk:(k + (its.toArray.size:Int)).toNat=j:=by
   rw [seqIndex_neg (by omega) h3] at h1
   rw [List.size_toArray,<- hl]
   exact Option.some.inj h1
  exact PySem.W.ki_setBack ho (by omega) (by rw [List.size_toArray,<- hl];exact h3) (by omega) (by rw [hk];exact ⟨_,I',q⟩)
theorem kz (lo hi:Option Int) (n:Nat):(sliceBounds lo hi none n).1=((HT.sIx n 0 lo:Nat):Int)/\(sliceBounds lo hi none n).2.1=((HT.sIx n n hi:Nat):Int)/\(sliceBounds lo hi none n).2.2=1:=by
 refine ⟨?_,?_,rfl⟩
 .cases lo with
  | none=>simp [sliceBounds,HT.sIx]
  | some i =>
   simp only [sliceBounds,HT.sIx,Option.getD_none,show (1:Int) > 0 by decide,if_true]
   by_cases h:i < 0
   .simp only [h,if_true] <;> omega
   .simp only [h,if_false] <;> omega
 .cases hi with
  | none=>simp [sliceBounds,HT.sIx]
  | some i =>
   simp only [sliceBounds,HT.sIx,Option.getD_none,show (1:Int) > 0 by decide,if_true]
   by_cases h:i < 0
   .simp only [h,if_true] <;> omega
   .simp only [h,if_false] <;> omega
theorem jD (its:List Value) (lo hi:Option Int):slicePick its.toArray lo hi none=((its.drop (HT.sIx its.length 0 lo)).take (HT.sIx its.length its.length hi - HT.sIx its.length 0 lo)).toArray:=by
 obtain ⟨h1,h2,h3⟩:=kz lo hi its.toArray.size
 unfold slicePick
 rw [h1,h2,h3]
 simp only [sliceRange_one,pick_run,List.size_toArray] <;> rfl
def zL (K:PySem.W.Frag):V->Option Int->Option Int->Hp->VK->Prop:=fun x lo hi H Q=>∃a xs,x=.ref a/\SqL K H a xs/\∀p,H p=none->Q (.ref p) (upd H p (.lst (t6 xs lo hi)))
theorem ub:SlR X (zL X.K):=by
 intro pins s σ H x v vl vu lo hi sl Q I rx hs pl pu h
 obtain ⟨a,xs,rfl,hx,q⟩:=h
 cases rx
 obtain ⟨its,r,ht,hz⟩:=I.list hx
 have hlen:=r.length
 refine ⟨"list",_,slot_list_getitem.lookup,ht.isList.typeIs,?_⟩
 refine wpAny_getItem_list_slice ht.isList hs pl pu .none (by simp) ?_ (by rw [List.size_toArray] <;> omega)
 rw [jD,<- hlen]
 refine ⟨.ref s.heap.objs.size,_,I.laid (t':=s.toks) (o:=.lst (t6 xs lo hi)) (fun b ob q=>Heap.get?_push_of_some _ q) (Nat.le_refl _) ?_,rfl,q _ (I.hok.fresh (Nat.le_refl _))⟩
 exact ⟨Nat.le_trans (gS xs lo hi) hz,_,0,(r.drop (HT.sIx xs.length 0 lo)).take (HT.sIx xs.length xs.length hi - HT.sIx xs.length 0 lo),Heap.get?_push_size _ rfl⟩
def iO:V->Bool
 | .non=>true
 | .bl _=>true
 | .int _=>true
 | .str _=>true
 | _=>false
def eqV:V->V->Bool
 | .non,.non=>true
 | .bl a,.bl b=>a == b
 | .bl a,.int b=>(if a then 1 else 0) == b
 | .int a,.bl b=>a == (if b then 1 else 0)
 | .int a,.int b=>a == b
 | .str a,.str b=>a == b
 | _,_=>false
theorem wI {A:Around}{s:Shared}{y x:V}{u v:Value} (ry:bR y u) (rx:bR x v) (fy:iO y=true) (fx:iO x=true):SeqAt.EqAt A s u v (eqV y x):=by
 cases y with
 | non =>
  cases ry
  cases x with
  | non=>cases rx;exact SeqAt.EqAt.same _
  | bl b=>cases rx;exact SeqAt.EqAt.none_bool b
  | int b=>obtain ⟨t,rfl⟩:=rx;exact SeqAt.EqAt.none_int b t
  | str b=>obtain ⟨t,rfl⟩:=rx;exact SeqAt.EqAt.none_str b t
  | _=>exact absurd (show false=true from fx) Bool.false_ne_true
 | bl a =>
  cases ry
  cases x with
  | non=>cases rx;exact SeqAt.EqAt.bool_none a
  | bl b=>cases rx;exact SeqAt.EqAt.bool_bool a b
  | int b=>obtain ⟨t,rfl⟩:=rx;exact SeqAt.EqAt.bool_int a b t
  | str b=>obtain ⟨t,rfl⟩:=rx;exact SeqAt.EqAt.bool_str a b t
  | _=>exact absurd (show false=true from fx) Bool.false_ne_true
 | int a =>
  obtain ⟨t',rfl⟩:=ry
  cases x with
  | non=>cases rx;exact SeqAt.EqAt.int_none a t'
  | bl b=>cases rx;exact SeqAt.EqAt.int_bool a t' b
  | int b=>obtain ⟨t,rfl⟩:=rx;exact SeqAt.EqAt.int_int a t' b t
  | str b=>obtain ⟨t,rfl⟩:=rx;exact SeqAt.EqAt.int_str a t' b t
  | _=>exact absurd (show false=true from fx) Bool.false_ne_true
 | str a =>
  obtain ⟨t',rfl⟩:=ry
  cases x with
  | non=>cases rx;exact SeqAt.EqAt.str_none a t'
  | bl b=>cases rx;exact SeqAt.EqAt.str_bool a t' b
  | int b=>obtain ⟨t,rfl⟩:=rx;exact SeqAt.EqAt.str_int a t' b t
  | str b=>obtain ⟨t,rfl⟩:=rx;exact SeqAt.EqAt.str_str a t' b t
  | _=>exact absurd (show false=true from fx) Bool.false_ne_true
 | _=>exact absurd (show false=true from fy) Bool.false_ne_true
def eqU (x:V) (u:Value):Bool:=match u with
 | .none=>eqV .non x
 | .bool b=>eqV (.bl b) x
 | .int i _=>eqV (.int i) x
 | .str z _=>eqV (.str z) x
 | _=>false
theorem sF {x y:V}{u:Value} (r:bR y u) (f:iO y=true):eqU x u=eqV y x:=by
 cases y with
 | non=>cases r;rfl
 | bl b=>cases r;rfl
 | int i=>obtain ⟨t,rfl⟩:=r;rfl
 | str z=>obtain ⟨t,rfl⟩:=r;rfl
 | _=>exact absurd (show false=true from f) Bool.false_ne_true
theorem lA {x:V}:∀{xs:List V}{us:List Value},bp xs us->xs.all iO=true->us.any (eqU x)=xs.any fun y=>eqV y x
 | _,_,.nil,_=>rfl
 | y::xs,u::us,.cons r t,f=>by
  rw [List.all_cons,Bool.and_eq_true] at f
  rw [List.any_cons,List.any_cons,sF r f.1,lA t f.2]
theorem jE {A:Around}{s:Shared}{x:V}{v:Value} (rx:bR x v) (fx:iO x=true):∀{xs:List V}{us:List Value},bp xs us->xs.all iO=true->∀u∈us,SeqAt.EqAt A s u v (eqU x u)
 | _,_,.nil,_=>fun u hu=>by cases hu
 | y::xs,u::us,.cons r t,f=>fun u' hu=>by
  rw [List.all_cons,Bool.and_eq_true] at f
  rcases List.mem_cons.mp hu with rfl | hu
  .rw [sF r f.1];exact wI r rx f.1 fx
  .exact jE rx fx t f.2 u' hu
def inV (x:V) (xs:List V):Bool:=xs.any fun y=>eqV y x
def rIn (K:PySem.W.Frag) (neg:Bool):R2:=fun x y H Q=>∃p xs,y=.ref p/\(SqL K H p xs\/SqT K H p xs)/\iO x=true/\xs.all iO=true/\Q (.bl (if neg then !inV x xs else inV x xs)) H
theorem kA:OpR X (compareOp .NotIn) (rIn X.K true):=by
 intro pins s σ H x y v u Q I rx ry h
 obtain ⟨p,xs,rfl,hq,fx,fs,q⟩:=h
 cases ry
 rcases hq with hq | hq
 .obtain ⟨its,r,pl,hz⟩:=I.list hq
  refine SeqAt.notIn_listAt (eqU x) pl.isList (fun w hw=>jE rx fx r fs w (by simpa using hw)) ⟨.bl _,H,I,rfl,?_⟩
  rw [show its.toArray.any (eqU x)=its.any (eqU x) by simp,lA r fs]
  exact q
 .obtain ⟨its,r,pl,hz⟩:=I.tuple hq
  refine SeqAt.notIn_tupleAt (eqU x) pl (fun w hw=>jE rx fx r fs w (by simpa using hw)) ⟨.bl _,H,I,rfl,?_⟩
  rw [show its.toArray.any (eqU x)=its.any (eqU x) by simp,lA r fs]
  exact q
theorem gj:a9 X (.builtin "len") (fun xs H Q=>∃p ys,xs=[.ref p]/\(SqL X.K H p ys\/SqT X.K H p ys)/\Q (.int ys.length) H):=by
 intro pins s σ H xs us Q I r h
 obtain ⟨p,ys,rfl,hq,q⟩:=h
 obtain ⟨u,rfl,rx⟩:=fc r
 cases rx
 have hn:=i8
 rcases hq with hq | hq
 .obtain ⟨its,r',pl,hz⟩:=I.list hq
  have hlen:=r'.length
  exact Calls.call_len_list pl.isList (by simp only [List.size_toArray] <;> omega) ⟨.int ys.length,H,I.tok _,⟨s.toks + 1,by rw [List.size_toArray,hlen]⟩,q⟩
 .obtain ⟨its,r',pl,hz⟩:=I.tuple hq
  have hlen:=r'.length
  exact len_tuple pl (by simp only [List.size_toArray] <;> omega) ⟨.int ys.length,H,I.tok _,⟨s.toks + 1,by rw [List.size_toArray,hlen]⟩,q⟩
theorem kB:a9 X (.builtin "len") (fun xs H Q=>∃z,xs=[.str z]/\z.length<=sizeLine/\Q (.int z.length) H):=by
 intro pins s σ H xs us Q I r h
 obtain ⟨z,rfl,hz,q⟩:=h
 obtain ⟨u,rfl,t,rfl⟩:=fc r
 have hn:=i8
 exact len_str (by omega) ⟨.int z.length,H,I.tok _,⟨_,rfl⟩,q⟩
theorem a9.or {f:Value}{r r':List V->Hp->VK->Prop} (h:a9 X f r) (h':a9 X f r'):a9 X f (fun xs H Q=>r xs H Q\/r' xs H Q):=by
 intro pins s σ H xs us Q I rs q
 rcases q with q | q
 .exact h pins s σ H xs us Q I rs q
 .exact h' pins s σ H xs us Q I rs q
theorem kC:a9 X (.type "list") (fun xs H Q=>∃p ys,xs=[.ref p]/\(SqL X.K H p ys\/SqT X.K H p ys)/\∀l,H l=none->Q (.ref l) (upd H l (.lst ys))):=by
 intro pins s σ H xs us Q I r h
 obtain ⟨p,ys,rfl,hq,q⟩:=h
 obtain ⟨u,rfl,rx⟩:=fc r
 cases rx
 have fin:∀(its:List Value),bp ys its->ys.length<=sizeLine->∀(h':Heap) (c':Nat),(∀b o',s.heap.get? b=some o'->h'.get? b=some o') ->
   h'.get? s.heap.objs.size=some { cls:=.type "list",dict:=none,data:=.seq its.toArray c',slots:=#[] }->EP X pins σ Q (.ref s.heap.objs.size) { s with heap:=h' }:=fun its r' hz h' c' kp e =>
  ⟨.ref s.heap.objs.size,_,I.laid (t':=s.toks) kp (Nat.le_refl _) (show aZ X.prog X.w _ h' _ (.lst ys) from ⟨hz,its,c',r',e⟩),rfl,q _ (I.hok.fresh (Nat.le_refl _))⟩
 rcases hq with hq | hq
 .obtain ⟨its,r',pl,hz⟩:=I.list hq
  have hlen:=r'.length
  obtain ⟨o,ho,hc,n,hd⟩:=pl.isList
  exact call_list_seq p (.inl rfl) ho hc hd (fun h' c' kp e=>fin its r' hz h' c' kp e) (by simp only [List.size_toArray] <;> omega)
 .obtain ⟨its,r',pl,hz⟩:=I.tuple hq
  have hlen:=r'.length
  obtain ⟨o,ho,hc,n,hd⟩:=pl
  exact call_list_seq p (.inr rfl) ho hc hd (fun h' c' kp e=>fin its r' hz h' c' kp e) (by simp only [List.size_toArray] <;> omega)
theorem jF:a9 X (.type "tuple") (fun xs H Q=>∃p ys,xs=[.ref p]/\((SqL X.K H p ys/\∀l,H l=none->Q (.ref l) (upd H l (.tup ys)))\/(SqT X.K H p ys/\Q (.ref p) H))):=by
 intro pins s σ H xs us Q I r h
 obtain ⟨p,ys,rfl,h⟩:=h
 obtain ⟨u,rfl,rx⟩:=fc r
 cases rx
 rcases h with ⟨hq,q⟩ | ⟨hq,q⟩
 .obtain ⟨its,r',pl,hz⟩:=I.list hq
  have hlen:=r'.length
  refine call_tuple_list pl.isList (fun h' kp=>?_) (by simp only [List.size_toArray] <;> omega)
  have I1:Inv X pins σ H { s with heap:=h' }:=I.kept (t':=s.toks) kp
  have I2:Inv X pins σ (upd H h'.objs.size (.tup ys)) { s with heap:=h'.push { cls:=.type "tuple",data:=.seq its.toArray } } :=
   I1.laid (t':=s.toks) (fun b o e=>Heap.get?_push_of_some _ e) (Nat.le_refl _) (show aZ X.prog X.w _ _ _ (.tup ys) from ⟨hz,its,r',IsTup.new _ _⟩)
  exact ⟨.ref h'.objs.size,_,I2,rfl,q _ (I1.hok.fresh (Nat.le_refl _))⟩
 .obtain ⟨its,r',pl,hz⟩:=I.tuple hq
  exact call_tuple_same pl ⟨.ref p,H,I,rfl,q⟩
def tyV (K:PySem.W.Frag) (T:String) (x:V) (H:Hp):Prop:=match x with
 | .str _=>T="str"
 | .int _=>T="int"
 | .ref p=>(T="list"/\∃xs,SqL K H p xs)\/(T="tuple"/\∃o,K.lookup p=some o/\o.cls=.type "tuple"/\o.dict=none) \/
   (T="dict"/\((∃kvs,H p=some (.dK kvs))\/∃kvs,H p=some (.dT kvs)))\/(T="set"/\∃S n,H p=some (.set S n))
 | _=>False
theorem wJ {pins:List (Addr×Obj)}{σ:St}{H:Hp}{s:Shared}{T:String}{x:V}{v:Value} (I:Inv X pins σ H s) (r:bR x v) (ty:tyV X.K T x H) :
  s.TypeIs v T/\∀a,v=.ref a->∃ob,s.heap.get? a=some ob/\ob.dict=none:=by
 cases x with
 | str z =>
  obtain ⟨t,rfl⟩:=r
  cases (show T="str" from ty)
  exact ⟨typeIs_str s z t,fun _ e=>nomatch e⟩
 | int i =>
  obtain ⟨t,rfl⟩:=r
  cases (show T="int" from ty)
  exact ⟨typeIs_int s i t,fun _ e=>nomatch e⟩
 | ref p =>
  cases r
  rcases ty with ⟨rfl,xs,hq⟩ | ⟨rfl,o,hk,hc,hd⟩ | ⟨rfl,hk⟩ | ⟨rfl,S,n,hk⟩
  .obtain ⟨its,_,pl,_⟩:=I.list hq
   refine ⟨pl.isList.typeIs,fun a e=>?_⟩
   cases e
   obtain ⟨o,n,e,c,hd,_⟩:=pl
   exact ⟨o,e,hd⟩
  .refine ⟨⟨o,I.kIn p o hk,hc⟩,fun a e=>?_⟩
   cases e
   exact ⟨o,I.kIn _ o hk,hd⟩
  .have z:∃o,s.heap.get? p=some o/\o.ExactDict:=by
    rcases hk with ⟨kvs,hk⟩ | ⟨kvs,hk⟩
    .obtain ⟨_,_,_,_,o,_,_,e,ex,_⟩:=I.hok p _ hk
     exact ⟨o,e,ex⟩
    .obtain ⟨_,_,_,_,o,_,_,e,ex,_⟩:=I.hok p _ hk
     exact ⟨o,e,ex⟩
   obtain ⟨o,e,ex⟩:=z
   refine ⟨⟨o,e,ex.1⟩,fun a e2=>?_⟩
   cases e2
   exact ⟨o,e,ex.2.1⟩
  .obtain ⟨o,_,_,_,e,ex,_⟩:=I.hok p _ hk
   refine ⟨⟨o,e,ex.1⟩,fun a e2=>?_⟩
   cases e2
   exact ⟨o,e,ex.2.1⟩
 | _=>exact False.elim ty
def tBM (K:PySem.W.Frag) (T:String) (r:V->List V->Hp->VK->Prop) (to:TE) (t:TA):TE:=fun σ H Q=>to σ H fun x H1=>tyV K T x H1/\t σ H1 fun xs H2=>r x xs H2 Q
variable {o e:Expr}{es:List Expr}{to:TE}{t:TA}{name:Str}{apos cpos:Pos}{T id:String}{r:V->List V->Hp->VK->Prop}
theorem yA (pa:PlainAttrs T) (slot:Slot T name id) (hty:typeOf (.builtin id)=pure (.type "method_descriptor")) (hm:MtR X id r) (ho:PE X o to) (ha:PA X (e::es) t)
  (hbase:attributeBase o name X.env (eval o X.env)=eval o X.env:=by rfl)
  (hfew:((backTo cpos (starEach (e::es) X.env)).all (fun x=>!x.1) && (backToKw cpos (keywordEach [] X.env)).all (fun x=>x.1.isSome)
   && decide ((e::es).length + ([]:List Keyword).length + (if ([]:List Keyword).isEmpty then 0 else 1) < 30))=true:=by rfl)
  (hline:(apos.endLine == cpos.line)=true:=by rfl) (hs:starEach (e::es) X.env=(false,eval e X.env)::starEach es X.env:=by rfl) (hplain:(backTo cpos (starEach es X.env)).any (·.1)=false:=by rfl) :
  PE X (.Call (.Attribute o name apos) (e::es) [] cpos) (tBM X.K T r to t):=by
 intro pins s σ H Q I h
 refine wpAny_Call_method_late hbase hfew hline rfl (thn (ho pins s σ H _ I h) fun v s1 ⟨x,H1,I1,r1,ty,q1⟩=>?_)
 obtain ⟨h1,h2⟩:=wJ I1 r1 ty
 refine ⟨T,id,pa,slot,hty,h1,h2,?_⟩
 have hA:=ha cpos pins s1 σ H1 _ I1 q1
 rw [hs] at hA ⊢
 refine Calls.callWith_builtin (by show (false || (backTo cpos (starEach es X.env)).any (·.1))=false;rw [hplain] <;> rfl) (Calls.evalArgs_plain ?_)
 exact thn hA fun us s2 ⟨vs,H2,I2,r2,q2⟩=>hm pins s2 σ H2 x vs v us Q I2 r1 r2 q2
end
def MtM (X:Cx) (id:String) (r:V->List V->Hp->VK->Prop):Prop :=
 ∀(pins:List (Addr×Obj)) (s:Shared) (σ:St) (H:Hp) (x:V) (xs:List V) (v:Value) (us:List Value) (Q:VK),Inv X pins σ H s->bR x v->bp xs us->r x xs H Q ->
  wpAny (model X.prog X.w) X.A (call (.builtin id) (v::us)) (EP X pins σ Q) X.xe s
theorem bp.one:∀{x:V}{us:List Value},bp [x] us->∃u,us=[u]/\bR x u
 | _,_,.cons r .nil=>⟨_,rfl,r⟩
theorem bp.rep {xs:List V}{us:List Value} (h:bp xs us):∀k:Nat,bp (List.replicate k xs).flatten (List.replicate k us).flatten
 | 0=>.nil
 | k + 1=>by
  rw [List.replicate_succ,List.replicate_succ,List.flatten_cons,List.flatten_cons]
  exact bp.append h (bp.rep h k)
theorem kE (its:List Value):∀(k:Nat) (acc:List Value),
  List.foldl (fun x1 x2=>x1++x2) acc.toArray (List.replicate k its.toArray)=(acc++(List.replicate k its).flatten).toArray
 | 0,acc=>by simp
 | k + 1,acc=>by
  have e:acc.toArray++its.toArray=(acc++its).toArray:=by simp
  have e2:(acc++its)++(List.replicate k its).flatten=acc++(List.replicate (k + 1) its).flatten:=by
   rw [List.replicate_succ,List.flatten_cons,List.append_assoc]
  rw [<- e2,<- kE its k (acc++its),<- e,List.replicate_succ,List.foldl_cons]
section
variable {X:Cx}{pins:List (Addr×Obj)}{σ:St}{H:Hp}{s:Shared}{l b:Addr}{xs ys zs:List V}
theorem Inv.lset {its its':List Value}{n:Nat}{f:Array Value->Array Value}{t':Nat} (I:Inv X pins σ H s) (hH:H l=some (.lst xs))
  (e:s.heap.get? l=some { cls:=.type "list",data:=.seq its.toArray n }) (hf:f its.toArray=its'.toArray) (hv:bp ys its') (hz:ys.length<=sizeLine) :
  Inv X pins σ (upd H l (.lst ys)) { s with heap:=s.heap.update l (Obj.mapSeq f),toks:=t' }:=by
 have q:=PySem.IsL.update e f
 rw [hf] at q
 refine I.write (x:=l) (e:=l) (by rw [hH];exact trivial) (.inl rfl) (fun b' u hb hu=>(Heap.get?_update_other s.heap (Obj.mapSeq f) (Ne.symm hb)).trans hu) ⟨_,q⟩ ?_
 exact ⟨hz,its',_,hv,q⟩
theorem Inv.lnew {its:List Value}{t':Nat} (I:Inv X pins σ H s) (hv:bp ys its) (hz:ys.length<=sizeLine) :
  Inv X pins σ (upd H s.heap.objs.size (.lst ys)) { s with heap:=s.heap.push { cls:=.type "list",data:=.seq its.toArray },toks:=t' } :=
 I.laid (fun _ _ q=>Heap.get?_push_of_some _ q) (Nat.le_refl _) ⟨hz,its,0,hv,Heap.get?_push_size _ rfl⟩
theorem Inv.fresh (I:Inv X pins σ H s):H s.heap.objs.size=none:=I.hok.fresh (Nat.le_refl _)
theorem Inv.lstM (I:Inv X pins σ H s) (hH:H l=some (.lst xs)):xs.length<=sizeLine/\∃(its:List Value) (n:Nat),bp xs its/\xs.length=its.length/\s.heap.get? l=some { cls:=.type "list",data:=.seq its.toArray n }:=by
 obtain ⟨z,its,n,r,e⟩:=I.hok l _ hH
 exact ⟨z,its,n,r,r.length,e⟩
theorem re {n:Nat} (h:n<=sizeLine):Builtin.List.listTooLong n=false:=by
 unfold Builtin.List.listTooLong
 exact decide_eq_false (by omega)
end
section
variable {X:Cx}
def oM:V->List V->Hp->VK->Prop:=fun x vs H Q=>∃l xs y,x=.ref l/\vs=[y]/\H l=some (.lst xs)/\xs.length < sizeLine/\Q .non (upd H l (.lst (xs++[y])))
theorem gU:MtM X "list.append" oM:=by
 intro pins s σ H x vs v us Q I rx rv h
 obtain ⟨l,xs,y,rfl,rfl,hH,hz,q⟩:=h
 cases rx
 obtain ⟨u,rfl,ru⟩:=rv.one
 obtain ⟨z,its,n,r,hl,e⟩:=I.lstM hH
 refine call_meets F.slot_list_append ⟨_,e,rfl⟩ F.entry_list_append (F.args_list_append_2 _ _) (PySem.list_append l its.toArray n u (by rw [List.size_toArray];omega)) ⟨e,?_⟩
 refine ⟨.non,_,I.lset (its':=its++[u]) hH e (by simp) (r.append (.cons ru .nil)) ?_,rfl,q⟩
 rw [List.length_append,List.length_singleton]
 omega
def zM:R2:=fun x y H Q=>∃l k xs,x=.ref l/\y=.int k/\H l=some (.lst xs)/\-(2 ^ 63)<=k/\k < 2 ^ 63/\xs.length * k.toNat<=sizeLine /\
 ∀p,H p=none->Q (.ref p) (upd H p (.lst (List.replicate k.toNat xs).flatten))
theorem uc {α:Type} (xs:List α) (k:Nat):(List.replicate k xs).flatten.length=k * xs.length:=by
 induction k with
 | zero=>simp
 | succ k ih=>rw [List.replicate_succ,List.flatten_cons,List.length_append,ih,Nat.succ_mul,Nat.add_comm]
theorem wK:OpR X (binaryOp .Mult) zM:=by
 intro pins s σ H x y v u Q I rx ry h
 obtain ⟨l,k,xs,rfl,rfl,hH,h1,h2,hz,q⟩:=h
 cases rx
 obtain ⟨t,rfl⟩:=ry
 obtain ⟨z,its,n,r,hl,e⟩:=I.lstM hH
 have hlen:its.toArray.size * k.toNat<=sizeLine:=by rw [List.size_toArray,<- hl];exact hz
 have hcap:¬ its.toArray.size * k.toNat > (2 ^ 63 - 1) / 8:=by
  have:(sizeLine:Nat)<=(2 ^ 63 - 1) / 8:=by decide
  omega
 have hfit:¬ (!Builtin.List.listFitsIndex k)=true:=by
  rw [fitsIndex_both h1 h2]
  exact Bool.false_ne_true
 have hlong:¬ Builtin.List.listTooLong (its.toArray.size * k.toNat)=true:=by
  rw [re hlen]
  exact Bool.false_ne_true
 have hnew:List.foldl (fun x1 x2=>x1++x2) #[] (List.replicate (if its.toArray.isEmpty=true then 0 else k.toNat) its.toArray)=(List.replicate k.toNat its).flatten.toArray:=by
  have f0:∀m:Nat,List.foldl (fun x1 x2=>x1++x2) #[] (List.replicate m its.toArray)=(List.replicate m its).flatten.toArray:=fun m=>by
   have:=kE its m []
   rw [List.nil_append] at this
   exact this
  rw [f0]
  cases its with
  | nil=>simp
  | cons a r'=>rw [if_neg (by simp)]
 refine wpAny_binaryOp_repeat_ref (T:="list") (U:="int") (by decide) ⟨_,e,rfl⟩ (fun s'=>typeIs_int s' k t) noFill_list_mul F.fills_int_mul F.slot_int_rmul repeat_list F.slot_int_index.lookup
  (call_meets F.slot_int_rmul (typeIs_int s k t) F.entry_int_rmul (F.args_int_rmul_2 _ _) (int___rmul___int_list k t l its.toArray n)
   ⟨e,rfl,⟨_,e,rfl⟩,call_meets F.slot_list_mul ⟨_,e,rfl⟩ F.entry_list_mul (F.args_list_mul_2 _ _) (AutoListH.list___mul___list_int_3 l its.toArray n k t hfit hcap hlong) ⟨e,?_⟩⟩)
 rw [hnew]
 exact ⟨.ref _,_,I.lnew (t':=s.toks) (r.rep k.toNat) (by rw [uc,Nat.mul_comm];exact hz),rfl,q _ I.fresh⟩
end
end L2
namespace Att
open PySem PySem.W PySem.Calls PyProof.Rows
theorem gW {P:Params}{h:Heap}:∀(ns:List Int) (vs:List Value),WellAll P h vs (ns.map WData.int)->IntsAre vs ns:=by
 intro ns
 induction ns with
 | nil =>
  intro vs w
  rw [List.map_nil] at w
  cases w
  exact .nil
 | cons n ns ih =>
  intro vs w
  rw [List.map_cons] at w
  cases w with
  | cons a b =>
   cases a
   exact .cons _ _ (ih _ b)
theorem oN {l:OpenLaw}{n:Nat} (hn:l.most=some n) {P:Params}{h:Heap}{args:List WData}{vals:List Value}
  (hpre:l.row.toRowW.claim.pre args=true) (hwl:WellAll P h vals args) :
  ∃a vs ns,vals=[Value.ref a]/\args=[WData.list (ns.map WData.int)]/\h.get? a=some { cls:=.type "list",data:=.seq vs.toArray }/\IntsAre vs ns/\ns.length<=n:=by
 have hsh:WShape.hasAll [] args [.list .int]=true:=(pre_splitW hpre).1
 have hc:l.pre.holds [] { args:=args }=true:=(pre_splitW hpre).2
 obtain ⟨d,r,rfl,h1,h2⟩:=hasAllW_cons hsh
 obtain rfl:=hasAllW_nil h2
 obtain ⟨xs,rfl,h3⟩:=hasW_list h1
 obtain ⟨ns,rfl⟩:=items_int h3
 have hlen:ns.length<=n:=by
  unfold OpenLaw.pre at hc
  have h4:(WTm.not (.lt (.lit (.int (n:Int))) (.len (.arg 0)))).holds [] { args:=[.list (ns.map .int)] }=true:=by
   have h4:=(holds_andW hc).1
   rw [hn] at h4
   exact h4
  have h5:=condW_of h4 (w_not (w_lt w_lit (w_len_list (w_arg rfl))))
  rw [List.length_map] at h5
  refine Nat.le_of_not_lt fun q=>?_
  have q':(n:Int) < ((ns.length:Nat):Int):=by omega
  first
   | (rw [decide_eq_true q'] at h5;exact absurd h5 (by decide))
   | (simp at h5;omega)
 cases hwl with
 | cons w1 w2 =>
  cases w2
  cases w1 with
  | list ho hall=>exact ⟨_,_,ns,rfl,rfl,ho,gW ns _ hall,hlen⟩
theorem oO (l:OpenLaw) (args:List WData):l.row.toRowW.claim.post args (.bool true) args=true :=
 postW_of (r:=l.row.toRowW) (X:=(true == true))
  (show WShape.has [] (.bool true) .bool=true by first | rfl | decide | simp [WShape.has,WShape.arms,WShape.armsAll])
  (show (WTm.eq .res (.lit (.bool true))).value [] { args:=args,res:=some (.bool true),after:=args }=some (.bool (true == true)) from w_eq_bool (w_res rfl) w_lit) rfl
theorem attach_call {l:OpenLaw}{n:Nat}{q:Program}{loose:List Str}{XP:(Str->Option Value)->Heap->Prop}{YP:World->Heap->Prop}{d:DefRec}
  (hn:l.most=some n) (hdf:d.params.defaults=[])
  (call:∀(w:World) (s₀ s₁:Shared) (mg mb:Str->Option Value) (fa:Addr) (o:Obj) (pm cd doc:Value) (a:Addr) (vs:List Value) (ns:List Int),
   Ground q loose [] XP w s₀ mg mb s₁.heap->YP w s₁.heap ->
   s₁.heap.get? fa=some o->o.data=.func (docDef d.name d.params d.body d.scope pm cd doc)->s₁.heap.CodeRec cd d.name->mg d.name=some (.ref fa) ->
   s₁.heap.get? a=some { cls:=.type "list",data:=.seq vs.toArray }->IntsAre vs ns->ns.length<=n->s₁.gens=#[] ->
   codeAny (model l.prog w) callerA (.call (.ref fa) ⟨[.ref a],[]⟩) (fun r s'=>r=.ok (.ret (.bool true))/\OldK s₁.heap s'.heap/\s'.os=s₁.os/\AllBare s'.gens) s₁) :
  WalkO q loose XP YP l.row.toRowW d [] (fun f vs=>PySem.call f vs):=by
 intro w s₀ s₁ mg mb G Y fa o pm cd doc dV kV ho hd hcd hD hmg hg args vals as hpre hlay hrd hwl hlo
 obtain rfl:dV=.none:=Dflts.none hD hdf
 obtain rfl:kV=.none:=Dflts.noKw hD
 obtain ⟨a,vs,ns,rfl,rfl,hobj,hints,hlen⟩:=oN hn hpre hwl
 refine enter_call (codeAny_mono (call w s₀ s₁ mg mb fa o pm cd doc a vs ns G Y ho (fd_plain hd) hcd hmg hobj hints hlen hg) fun r s' hq=>?_)
 obtain ⟨rfl,h2,h3,h4⟩:=hq
 exact ⟨.inl ⟨.bool true,.bool true,[],rfl,fun _=>rfl,.bool true,oO l _,fun _=>⟨List.Pairwise.nil,fun _ hm=>(nomatch hm)⟩⟩,h2,h3,h4⟩
end Att
namespace L2
open PySem PySem.Spec PyProof.Rows
theorem kF:∀{vs:List Value}{ns:List Int},IntsAre vs ns->bp (ns.map V.int) vs
 | _,_,.nil=>.nil
 | _,_,.cons n t h=>.cons ⟨t,rfl⟩ (kF h)
def yB (H:Hp):Prop:=∀b,H b=none\/∃o xs,H b=some (.frz o (.lst xs))
theorem rf {P:Program}{w:World}{K:PySem.W.Frag}{mg mb:Str->Option Value}{CX:CXT}{k:Nat}{fa a:Addr}{fd:FuncData}{x:Str}{sp:Sp}{s₁:Shared}{vs:List Value}{ns:List Int}
  (KX:K.In s₁.heap) (hns:s₁.heap.Ns mainGlobals mg) (hb:s₁.heap.Ns builtinsNs mb) (hbb:∀x:Str,x≠"__name__"->mb x=bootBuiltins x) (hlim:s₁.heap.NoLimit) (hg:s₁.gens=#[])
  (ha:s₁.heap.get? a=some { cls:=.type "list",data:=.seq vs.toArray }) (hi:IntsAre vs ns) (hl:ns.length<=sizeLine) (hr:c4 k callerA)
  (F:∀base:Heap,K.In base->base.Ns mainGlobals mg->jb P w K mg base CX k fa fd [x] sp) (hbind:∀(s:Shared) (u:Value),BindsTo s fd ⟨[u],[]⟩ [(x,u)])
  (hsp:∀H:Hp,yB H->SqL K H a (ns.map V.int)->sp [.ref a] H (fun v _=>v=.bl true) fun _ _ _=>False)
  (hCX:∀H e s',CX [] H s₁ (fun _ _ _=>False) e s'->False) :
  codeAny (model P w) callerA (.call (.ref fa) ⟨[.ref a],[]⟩) (fun r s'=>r=.ok (.ret (.bool true))/\OldK s₁.heap s'.heap/\s'.os=s₁.os/\AllBare s'.gens) s₁:=by
 have rv:=kF hi
 have lenV:=hi.length
 -- from an abstract heap in which nothing but the script may be tracked
 have core:∀H:Hp,yB H->SqL K H a (ns.map V.int)->HOk P w H s₁.heap->(∀b,H b≠none->b=a)->(H a≠none->K.lookup a=none) ->
   codeAny (model P w) callerA (.call (.ref fa) ⟨[.ref a],[]⟩) (fun r s'=>r=.ok (.ret (.bool true))/\OldK s₁.heap s'.heap/\s'.os=s₁.os/\AllBare s'.gens) s₁:=by
  intro H hO hS hok hA hK
  have base_of:∀{b:Addr}{o:Obj},s₁.heap.get? b=some o->H b=none->(qQ s₁.heap H).get? b=some o:=fun e n=>qR e n
  have noA:∀{b:Addr}{o:Obj}{es:Array DictEntry}{ep:Nat},s₁.heap.get? b=some o->o.data=.dict es ep->H b=none:=fun {b o es ep} e d=>by
   cases q:H b with
   | none=>rfl
   | some u =>
    have e':b=a:=hA b (by rw [q];simp)
    subst e'
    rw [ha] at e;cases e
    have d':Data.seq vs.toArray _=Data.dict es ep:=d
    cases d'
  have nsK:∀{b:Addr}{m:Str->Option Value},s₁.heap.Ns b m->(qQ s₁.heap H).Ns b m:=fun {b m} ⟨o,es,ep,e,d,r⟩=>⟨o,es,ep,base_of e (noA e d),d,r⟩
  have hKb:K.In (qQ s₁.heap H):=fun b o e=>base_of (KX b o e) (by
   cases q:H b with
   | none=>rfl
   | some u =>
    have e':b=a:=hA b (by rw [q];simp)
    subst e'
    rw [hK (by rw [q];simp)] at e;cases e)
  have hM:Mod K mg (qQ s₁.heap H):=⟨hKb,nsK hns,⟨mb,nsK hb,hbb⟩,let ⟨mc,h1,h2⟩:=hlim;⟨mc,nsK h1,h2⟩⟩
  have e0:t4 P w K mg (qQ s₁.heap H) callerA [] s₁ H:=⟨rfl,hM,fun b o e=>tO e,Nat.le_of_eq (n9 _ _),trivial,fun b hb=>absurd (show b∈([]:List Addr) from hb) (by simp),hok,.of_eq hg⟩
  refine codeAny_mono ((F _ hKb (nsK hns)).run callerA [] s₁ H ⟨[.ref a],[]⟩ [.ref a] [.ref a] _ _ hr e0 (hbind s₁ (.ref a)) (.cons rfl .nil) (hsp H hO hS)) fun r s' h=>?_
  cases r with
  | error e=>exact (hCX H e s' h).elim
  | ok fl =>
   cases fl with
   | next=>exact False.elim h
   | brk=>exact False.elim h
   | cont=>exact False.elim h
   | ret u =>
    obtain ⟨v,H',os,bare,un,hok',r',q⟩:=h
    have q':v=.bl true:=q
    subst q'
    obtain rfl:u=Value.bool true:=r'
    refine ⟨rfl,OldK.of_keep fun b o e=>?_,os,bare⟩
    cases q:H b with
    | none=>exact un.keep b o e q (by intro z;exact absurd (show b∈([]:List Addr) from z) (by simp)) (by simp)
    | some u =>
     rcases hO b with z | ⟨ob,xs,z⟩
     .rw [q] at z;cases z
     .have z2:=un.frzs b ob _ z
      obtain ⟨e1,_⟩:=hok b _ z
      obtain ⟨e2,_⟩:=hok' b _ z2
      rw [e] at e1;cases e1
      exact e2
 cases hk:K.lookup a with
 | some o =>
  -- the script is one of the module's own objects
  have e:=KX a o hk
  rw [ha] at e
  cases e
  refine core (fun _=>none) (fun _=>.inl rfl) (.inr ⟨_,vs.toArray,_,hk,rfl,rfl,rfl,by rw [List.size_toArray,lenV];exact hl,by simpa using rv⟩) (fun b u z=>by have z':(none:Option HO)=some u:=z;cases z') (fun b z=>absurd rfl z) fun z=>absurd rfl z
 | none =>
  refine core (fun b=>if b=a then some (.frz { cls:=.type "list",data:=.seq vs.toArray } (.lst (ns.map V.int))) else none) (fun b=>?_) (.inl (.inr ⟨{ cls:=.type "list",data:=.seq vs.toArray },if_pos rfl⟩)) (fun b u z=>?_) (fun b z=>?_) fun _=>hk
  .by_cases hb:b=a
   .exact .inr ⟨_,_,if_pos hb⟩
   .exact .inl (if_neg hb)
  .by_cases hb:b=a
   .have z':=(if_pos hb).symm.trans z
    cases z'
    subst hb
    exact ⟨ha,by rw [List.length_map];exact hl,vs,_,rv,ha⟩
   .have z':=(if_neg hb).symm.trans z
    cases z'
  .by_cases hb:b=a
   .exact hb
   .exact absurd (if_neg hb) z
theorem ud {l:PySem.W.OpenLaw}{n k:Nat}{q:Program}{loose:List Str}{XP:(Str->Option Value)->Heap->Prop}{YP:World->Heap->Prop}{d:DefRec}{K:Params->PySem.W.Frag}{CX:World->CXT}{sp:World->Sp}{x:Str}
  (hn:l.most=some n) (hn2:n<=sizeLine) (hdf:d.params.defaults=[]) (hr:c4 k callerA)
  (hY:∀(w:World) (h:Heap),YP w h->(K w.params).In h)
  (F:∀(w:World) (mg:Str->Option Value) (fa:Addr) (h:Heap),(K w.params).In h->h.Ns mainGlobals mg->mg d.name=some (.ref fa) ->
   ∃fd:FuncData,(∀(s:Shared) (u:Value),BindsTo s fd ⟨[u],[]⟩ [(x,u)]) /\
    ∀base:Heap,(K w.params).In base->base.Ns mainGlobals mg->jb l.prog w (K w.params) mg base (CX w) k fa fd [x] (sp w))
  (hsp:∀(w:World) (H:Hp) (a:Addr) (ns:List Int),ns.length<=n->yB H->SqL (K w.params) H a (ns.map V.int)->sp w [.ref a] H (fun v _=>v=.bl true) fun _ _ _=>False)
  (hCX:∀(w:World) (H:Hp) (s:Shared) (e:Value) (s':Shared),CX w [] H s (fun _ _ _=>False) e s'->False) :
  PySem.W.WalkO q loose XP YP l.row.toRowW d [] (fun f vs=>PySem.call f vs):=by
 refine Att.attach_call hn hdf fun w s₀ s₁ mg mb fa o pm cd doc a vs ns G Y ho hd hcd hmg hobj hints hlen hg=>?_
 have KX:=hY w _ Y
 obtain ⟨fd,hb,hF⟩:=F w mg fa _ KX G.T.g hmg
 exact rf KX G.T.g G.T.b G.T.builtins G.T.nolimit hg hobj hints (Nat.le_trans hlen hn2) hr hF hb (fun H hO hS=>hsp w H a ns hlen hO hS) fun H e s'=>hCX w H s₁ e s'
def e6 (s:Stmt) (j:Nat):Stmt:=match s with
 | .ClassDef _ _ _ body _ _ _ _ _ _ _=>body.getD j (.Pass ⟨0,0,0,0⟩)
 | _=>.Pass ⟨0,0,0,0⟩
def a6 (s:Stmt):Arguments:=match s with
 | .FunctionDef _ a _ _ _ _ _ _ _ _=>a
 | _=>{ posonlyargs:=[],args:=[],vararg:=none,kwonlyargs:=[],kw_defaults:=[],kwarg:=none,defaults:=[] }
def aQ (s:Stmt):List Stmt:=match s with
 | .FunctionDef _ _ b _ _ _ _ _ _ _=>b
 | _=>[]
def ah (s:Stmt):Scope:=match s with
 | .FunctionDef _ _ _ _ _ _ sc _ _ _=>sc
 | _=>{ kind:=.function,names:=[],isGenerator:=false,isCoroutine:=false }
abbrev CX0:CXT:=fun _ _ _ _ _ _=>False
abbrev E0:XK:=fun _ _ _=>False
theorem ue {X:Cx}:kq CX0 X E0:=fun _ _ _ _ _ _ _ h=>h.elim
structure Fun (K:PySem.W.Frag) (x qual:Str) (st:Stmt) (f:Addr) (fd:FuncData):Prop where
 ex:∃(oc:Value) (od:Option Addr) (kV doc pm:Value) (an:Option Addr) (cdv ct:Value) (osl:Array (Option Value)),
  fd=PySem.W.fnOf x qual (a6 st) (aQ st) (ah st) .none kV doc pm an cdv ct/\K.lookup f=some ⟨oc,od,.func fd,osl⟩/\PySem.W.codeIn K cdv qual=true
 kp:PySem.W.keepIn K (.ref f)=true
section
variable {P:Program}{w:World}{K:PySem.W.Frag}{mg:Str->Option Value}{base:Heap}
theorem Fun.ok {x qual:Str}{st:Stmt}{f:Addr}{fd:FuncData}{N ps:List Str}{k:Nat}{sp:Sp} (F:Fun K x qual st f fd) (S:aI N ps (ah st)) (len:∀vs H Q E,sp vs H Q E->vs.length=ps.length)
  (hbody:∀(cdv:Value) (A:Around) (outer:List Env) (s:Shared) (H:Hp) (vs:List V) (Q:VK) (E:XK),c4 k (A.deeper (envOfC qual (ah st) s.heap.objs.size f cdv))->sp vs H Q E ->
   ∃t,PSs (kf CX0 P w K mg base N qual (ah st) f cdv A outer s H E).nox (aQ st) t/\t { nx:=fun _ H'=>Q .non H',rt:=Q } (start N vs) H):jb P w K mg base CX0 (k + 1) f fd ps sp:=by
 obtain ⟨oc,od,kV,doc,pm,an,cdv,ct,osl,rfl,lk,hcd⟩:=F.ex
 refine q0 lk hcd S len fun A outer s H vs Q E hr hsp=>?_
 obtain ⟨t,h,q⟩:=hbody cdv A outer s H vs Q E hr hsp
 exact ⟨t,h.nox,q⟩
theorem Fun.binds {x qual:Str}{st:Stmt}{f:Addr}{fd:FuncData}{ps:List Str} (F:Fun K x qual st f fd)
  (h:∀(kV doc pm:Value) (an:Option Addr) (cdv ct:Value) (us:List Value),us.length=ps.length->bindArgs (PySem.W.fnOf x qual (a6 st) (aQ st) (ah st) .none kV doc pm an cdv ct) ⟨us,[]⟩=pure (ps.zip us)):fK K fd ps []:=by
 obtain ⟨oc,od,kV,doc,pm,an,cdv,ct,osl,rfl,lk,hcd⟩:=F.ex
 exact .all (h kV doc pm an cdv ct)
theorem gk {x qual:Str}{st:Stmt}{f:Addr}{oc:Value}{od an:Option Addr}{osl:Array (Option Value)}{kV doc pm cdv ct:Value} (l:K.lookup f=some ⟨oc,od,.func (PySem.W.fnOf x qual (a6 st) (aQ st) (ah st) .none kV doc pm an cdv ct),osl⟩)
  (c:PySem.W.codeIn K cdv qual=true) (k:PySem.W.keepIn K (.ref f)=true):Fun K x qual st f (PySem.W.fnOf x qual (a6 st) (aQ st) (ah st) .none kV doc pm an cdv ct):=⟨⟨oc,od,kV,doc,pm,an,cdv,ct,osl,rfl,l,c⟩,k⟩
end
section
variable {X:Cx}
theorem pv (i:Nat) {x:Str}{pos:Pos} (hN:X.N[i]?=some x:=by rfl) (hv:Vis X.env.scope x:=by first | exact Or.inl rfl | exact Or.inr (Or.inl rfl) | exact Or.inr (Or.inr rfl)) (hd:(x == ("__debug__":Str))=false:=by decide)
  (hcd:(x == ("__classdict__":Str))=false:=by decide):PE X (.Name x pos) (b5 i):=wc hN hv hd hcd
end
def S (l:List Nat):Str:=⟨l.toArray⟩
theorem dJ (l:List Nat):(S l).length=l.length:=by simp [S,Str.length]
theorem uf (a b:List Nat):S a++S b=S (a++b):=by
 show (⟨a.toArray++b.toArray⟩:Str)=⟨(a++b).toArray⟩
 rw [List.append_toArray]
theorem wM {a b:List Nat} (h:S a=S b):a=b:=by
 have h':=congrArg (fun x:Str=>x.cps.toList) h
 simpa [S] using h'
theorem Ap {a b:List Nat} (h:a≠b):S a≠S b:=fun e=>h (wM e)
theorem wN {a b:List Nat}:V.str (S a)=V.str (S b) ↔ a=b:=⟨fun h=>wM (V.str.inj h),fun h=>by rw [h]⟩
theorem yC (a b:List Nat):decide (V.str (S a)=V.str (S b))=decide (a=b):=by
 by_cases h:a=b
 .rw [decide_eq_true h,decide_eq_true (wN.mpr h)]
 .rw [decide_eq_false h,decide_eq_false (fun z=>h (wN.mp z))]
def cW {α:Type} (xs:List α) (lo hi:Option Int):List α:=(xs.drop (HT.sIx xs.length 0 lo)).take (HT.sIx xs.length xs.length hi - HT.sIx xs.length 0 lo)
theorem b7 {α:Type} (xs:List α) (lo hi:Option Int):(cW xs lo hi).length<=xs.length:=by
 unfold cW
 rw [List.length_take,List.length_drop]
 omega
theorem oP (xs:List V) (lo hi:Option Int):t6 xs lo hi=cW xs lo hi:=rfl
theorem wO (lo hi:Option Int) (n:Nat):Builtin.Str.strSliceIndices lo hi 1 n=(List.range (HT.sIx n n hi - HT.sIx n 0 lo)).map (fun k=>HT.sIx n 0 lo + k):=by
 have key:∀(o:Option Int) (d:Nat),d<=n->(match o with | none=>(d:Int) | some i=>max 0 (min (if i < 0 then i + (n:Int) else i) (n:Int)))=((HT.sIx n d o:Nat):Int):=by
  intro o d hd
  cases o with
  | none=>rfl
  | some i =>
   show max 0 (min (if i < 0 then i + (n:Int) else i) (n:Int))=_
   rw [<- HT.clip_eq i n d]
   by_cases h:i < 0
   .rw [if_pos h,if_pos h];omega
   .rw [if_neg h,if_neg h];omega
 have k1:=key lo 0 (Nat.zero_le _)
 have k2:=key hi n (Nat.le_refl _)
 unfold Builtin.Str.strSliceIndices
 simp only [show (1:Int) > 0 by decide,if_true]
 refine Eq.trans (congrArg (fun a=>sliceRange a _ 1) k1) (Eq.trans (congrArg (fun b=>sliceRange _ b 1) k2) ?_)
 unfold sliceRange
 simp only [show (1:Int) > 0 by decide,if_true]
 generalize HT.sIx n 0 lo=a
 generalize HT.sIx n n hi=b
 have ec:(if (a:Int) < (b:Int) then ((b:Int) - (a:Int) + 1 - 1) / 1 else 0).toNat=b - a:=by
  split <;> omega
 rw [ec]
 apply List.map_congr_left
 intro k _
 omega
theorem oQ {α:Type} (l:List α) (a m:Nat):((List.range m).map (fun k=>a + k)).filterMap (fun i=>l[i]?)=(l.drop a).take m:=by
 induction m generalizing a with
 | zero=>simp
 | succ m ih =>
  rw [List.range_succ_eq_map,List.map_cons,List.map_map,List.filterMap_cons]
  have e:((fun k=>a + k) ∘ Nat.succ)=fun k=>(a + 1) + k:=by funext k;simp;omega
  rw [e,ih (a + 1)]
  cases h:l[a + 0]? with
  | none =>
   have hl:l.length<=a:=by simpa using List.getElem?_eq_none_iff.mp h
   rw [List.drop_eq_nil_of_le hl,List.drop_eq_nil_of_le (by omega)];simp
  | some v =>
   have hl:a < l.length:=by simpa using (List.getElem?_eq_some_iff.mp h).1
   have hv:l[a]=v:=by simpa using (List.getElem?_eq_some_iff.mp h).2
   rw [List.drop_eq_getElem_cons hl,hv];rfl
theorem ug (l:List Nat) (lo hi:Option Int):Txt.slice (S l) lo hi=S (cW l lo hi):=by
 have e1:(Builtin.Str.strSliceIndices lo hi 1 (S l).length).filterMap ((S l).cps[·]?)=cW l lo hi:=by
  rw [wO,dJ]
  have e:(fun i:Nat=>(S l).cps[i]?)=fun i:Nat=>l[i]?:=by funext i;simp [S]
  rw [e]
  exact oQ l _ _
 unfold Txt.slice
 split
 .rename_i h
  have h2:(Builtin.Str.strSliceIndices lo hi 1 (S l).length).length=(S l).length:=by simpa using h
  rw [wO,dJ,List.length_map,List.length_range] at h2
  have a0:=HT.sIx_le l.length 0 (Nat.zero_le _) lo
  have b0:=HT.sIx_le l.length l.length (Nat.le_refl _) hi
  unfold cW
  by_cases hz:l.length=0
  .have:l=[]:=List.length_eq_zero_iff.mp hz
   subst this;simp
  .have ha:HT.sIx l.length 0 lo=0:=by omega
   have hb:HT.sIx l.length l.length hi=l.length:=by omega
   rw [ha,hb]
   simp
 .rw [e1];rfl
theorem gX {α:Type} (l:List α) (k:Nat):cW l none (some (k:Int))=l.take k:=by
 unfold cW
 rw [HT.sIx_nat]
 show (l.drop 0).take (min k l.length - 0)=l.take k
 rw [List.drop_zero,Nat.sub_zero]
 by_cases h:k<=l.length
 .rw [Nat.min_eq_left h]
 .rw [Nat.min_eq_right (by omega),List.take_of_length_le (Nat.le_refl _),List.take_of_length_le (by omega)]
theorem oR {α:Type} (l:List α) (k:Nat):cW l (some (k:Int)) none=l.drop k:=by
 unfold cW
 rw [HT.sIx_nat]
 show (l.drop (min k l.length)).take (l.length - min k l.length)=l.drop k
 by_cases h:k<=l.length
 .rw [Nat.min_eq_left h,List.take_of_length_le (by rw [List.length_drop];exact Nat.le_refl _)]
 .rw [Nat.min_eq_right (by omega),Nat.sub_self,List.take_zero,List.drop_eq_nil_of_le (by omega)]
theorem oS {α:Type} (l:List α) (i j:Nat):cW l (some (i:Int)) (some (j:Int))=(l.drop i).take (j - i):=by
 unfold cW
 rw [HT.sIx_nat,HT.sIx_nat]
 by_cases h:i<=l.length
 .rw [Nat.min_eq_left h]
  by_cases h2:j<=l.length
  .rw [Nat.min_eq_left h2]
  .rw [Nat.min_eq_right (by omega),List.take_of_length_le (by rw [List.length_drop];omega),List.take_of_length_le (by rw [List.length_drop];omega)]
 .have e:min i l.length=l.length:=Nat.min_eq_right (by omega)
  rw [e,List.drop_eq_nil_of_le (Nat.le_refl _),List.drop_eq_nil_of_le (by omega),List.take_nil,List.take_nil]
section
variable {X:Cx}
def zN:V->Option Int->Option Int->Hp->VK->Prop:=fun x lo hi H Q=>∃l,x=.str (S l)/\l.length<=sizeLine/\Q (.str (S (cW l lo hi))) H
theorem wP:SlR X zN:=by
 intro pins s σ H x v vl vu lo hi sl Q I rx hs pl pu h
 obtain ⟨l,rfl,hz,q⟩:=h
 obtain ⟨t,rfl⟩:=rx
 refine ⟨"str",_,slot_str_getitem.lookup,typeIs_str s _ t,?_⟩
 obtain ⟨l',hl',el⟩:∃l':Option (Int×Tok),vl=partValue l'/\l'.map (·.1)=lo:=by
  cases pl with
  | none=>exact ⟨none,rfl,rfl⟩
  | int i t=>exact ⟨some (i,t),rfl,rfl⟩
 obtain ⟨u',hu',eu⟩:∃l':Option (Int×Tok),vu=partValue l'/\l'.map (·.1)=hi:=by
  cases pu with
  | none=>exact ⟨none,rfl,rfl⟩
  | int i t=>exact ⟨some (i,t),rfl,rfl⟩
 subst hl' hu'
 refine wpAny_getItem_str_slice (l:=l') (u:=u') (st:=none) hs rfl ?_
 have hm:∀t' k,EP X pins σ Q (.str (Txt.slice (S l) lo hi) t') { s with toks:=k }:=fun t' k=>⟨.str (S (cW l lo hi)),H,I.tok _,⟨t',by rw [ug]⟩,q⟩
 have hlen:(Txt.slice (S l) lo hi).length<=sizeLine:=Nat.le_trans (Txt.slice_le _ _ _) (by rw [dJ];exact hz)
 subst el eu
 exact post_val_or_str ⟨hlen,hm⟩
def kG {α:Type} (l:List α) (n:Int):List α:=(List.replicate n.toNat l).flatten
theorem oU (k:Nat) (l acc:List Nat):(List.replicate k l.toArray).foldl (·++·) acc.toArray=(acc++(List.replicate k l).flatten).toArray:=by
 induction k generalizing acc with
 | zero=>simp
 | succ k ih =>
  rw [List.replicate_succ,List.foldl_cons,List.append_toArray,ih (acc++l),List.replicate_succ,List.flatten_cons,List.append_assoc]
theorem yD (l:List Nat) (n:Int):Txt.mul (S l) n=S (kG l n):=by
 unfold Txt.mul kG
 by_cases h:n < 1
 .rw [if_pos h]
  have:n.toNat=0:=by omega
  rw [this];rfl
 .rw [if_neg h]
  split
  .rename_i h2
   rw [dJ] at h2
   simp only [Bool.or_eq_true,beq_iff_eq] at h2
   rcases h2 with h2 | h2
   .subst h2;simp [S]
   .have:l=[]:=List.length_eq_zero_iff.mp h2
    subst this;simp [S]
  .have e:=oU n.toNat l []
   show (⟨_⟩:Str)=_
   have e':(List.replicate n.toNat (S l).cps).foldl (·++·) #[]=((List.replicate n.toNat l).flatten).toArray:=by
    simpa [S] using e
   rw [e'];rfl
theorem e7 {α:Type} (l:List α) (n:Int):(kG l n).length=n.toNat * l.length:=by
 unfold kG
 rw [List.length_flatten,List.map_replicate,List.sum_replicate_nat]
theorem nz:OpR X (binaryOp .Mult) (fun x y H Q=>∃l n,x=.str (S l)/\y=.int n/\-1000000<=n/\n<=1000000/\n.toNat * l.length<=sizeLine/\Q (.str (S (kG l n))) H):=by
 intro pins s σ H x y v u Q I rx ry h
 obtain ⟨l,n,rfl,rfl,h1,h2,hz,q⟩:=h
 obtain ⟨t,rfl⟩:=rx
 obtain ⟨t',rfl⟩:=ry
 have hs:sizeLine=16777216:=sizeLine_eq
 have hz':n.toNat * l.length<=16777216:=by rw [<- hs];exact hz
 refine SB.mul ⟨?_,fun hn hc=>?_,fun hn hc=>?_⟩ fun t' k=>⟨.str (S (kG l n)),H,I.tok _,⟨t',by rw [yD]⟩,q⟩
 .rw [decide_eq_false (by omega),decide_eq_false (by omega)];rfl
 .rw [dJ]
  intro hgt
  have hl:l.length<=16777216:=by
   have:1 * l.length<=n.toNat * l.length:=Nat.mul_le_mul_right _ (by omega)
   omega
  have hdiv:(2 ^ 63 - 1:Int) / 1000000<=(2 ^ 63 - 1) / n:=by
   apply Int.le_ediv_of_mul_le (by omega)
   have:=Int.mul_le_mul_of_nonneg_left h2 (show (0:Int)<=(2 ^ 63 - 1) / 1000000 by decide)
   have e2:((2 ^ 63 - 1:Int) / 1000000) * 1000000<=2 ^ 63 - 1:=by decide
   omega
  have e3:(2 ^ 63 - 1:Int) / 1000000=9223372036854:=by decide
  omega
 .rw [dJ]
  have:l.length * n.toNat<=16777216:=by rw [Nat.mul_comm];exact hz'
  exact decide_eq_false (by omega)
theorem oV:OpR X (compareOp .LtE) (fun x y H Q=>∃i j,x=.str i/\y=.str j/\Q (.bl (!decide (j.cps.toList < i.cps.toList))) H):=by
 intro pins s σ H x y v u Q I rx ry h
 obtain ⟨i,j,rfl,rfl,q⟩:=h
 obtain ⟨t,rfl⟩:=rx
 obtain ⟨t',rfl⟩:=ry
 exact PySem.P.le_str ⟨.bl _,H,I,rfl,q⟩
end
def Its (xs:List V):It:=⟨fun i _=>i < xs.length,fun i H x H'=>H'=H/\xs[i]?=some x,fun i _=>xs.length=i⟩
theorem oW {M:Model}{A:Around}{E:Value->Shared->Prop}{s:Shared}{tg:Expr}{it:Addr}{u:Value}{Q:Unit->Shared->Prop} (hu:∀a,u≠.ref a) (hQ:Q () s):wpAny M A (letOwnedTupleGo tg (.ref it) u) Q E s:=by
 unfold letOwnedTupleGo
 cases tg <;> first
  | exact wpAny_pure hQ
  | (cases u <;> first
    | exact wpAny_pure hQ
    | exact absurd rfl (hu _))
theorem gY {P:Program}{w:World}{K:PySem.W.Frag}{tg:Expr}{it:Addr}{xs:List V}{n:Nat}{Pt:Nat->Value->Prop}{St:Nat->Heap->Prop}
  (W:∀A:Around,A.handled=none->Walks P w A it [it] [it] n Pt St) (hn:xs.length=n)
  (hv:∀i v,i < n->Pt i v->∃x,xs[i]?=some x/\bR x v) (hsc:∀i v,Pt i v->∀a,v≠.ref a)
  (hobj:∀i h,St i h->∃o,h.get? it=some o/\∀v,o.data≠.cell v)
  (hfr:∀i h h',St i h->(∀b∈[it],∀o,h.get? b=some o->h'.get? b=some o)->St i h')
  (hself:∀(A:Around) (i:Nat) (s:Shared) (Q:Value->Shared->Prop) (E:Value->Shared->Prop),St i s.heap->Q (.ref it) s->wpAny (model P w) A (pyIter (.ref it)) Q E s) :
  vO P w K tg (Its xs) [it] it St where
 mem:=by simp
 obj:=fun i h st b hb=>by
  have e:b=it:=by simpa using hb
  subst e
  exact hobj i h st
 keep:=fun i h h' st k=>hfr i h h' st k
 item:=by
  intro X hP hw hK hc i pins s σ H E I hf st hg
  subst hP hw hK
  obtain ⟨f0,f1,f2,f3,f4,f5⟩:=hf it (by simp)
  refine (W X.A (I.ok.hd hc)).item i s _ _ (by rw [<- hn];exact hg) st fun v h' tk hp st' kk=>?_
  obtain ⟨x,hx,rx⟩:=hv i v (by rw [<- hn];exact hg) hp
  have I1:Inv X pins σ H { s with heap:=h',toks:=tk }:=I.turned (fun b o hb e=>kk b o (by simpa using hb) e) f0 f1 f3 f4 f5
  exact ⟨v,rfl,oW (s:={ s with heap:=h',toks:=tk }) (hsc i v hp) ⟨x,H,I1,rx,⟨rfl,hx⟩,st',fun b hb=>(hf b hb).1⟩⟩
 done:=by
  intro X hP hw hK hc i pins s σ H E I hf st hg
  subst hP hw hK
  obtain ⟨f0,f1,f2,f3,f4,f5⟩:=hf it (by simp)
  have e:n=i:=hn.symm.trans hg
  subst e
  exact (W X.A (I.ok.hd hc)).done s _ _ st fun h' tk kk=>⟨rfl,I.turned (fun b o hb e=>kk b o (by simpa using hb) e) f0 f1 f3 f4 f5⟩
 self:=hself
section
variable {X:Cx}{tg:Expr}
def dO (l:List Nat):List V:=l.map fun c=>V.str (S [c])
theorem nA {l:List Nat}{i:Nat}{x:V} (h:(dO l)[i]?=some x):∃c,l[i]?=some c/\x=.str (S [c]):=by
 unfold dO at h
 rw [List.getElem?_map] at h
 cases e:l[i]? with
 | none=>rw [e] at h;cases h
 | some c=>rw [e] at h;exact ⟨c,rfl,(Option.some.inj h).symm⟩
theorem fL (l:List Nat):(dO l).length=l.length:=List.length_map _
def jG (i:Int) (n:Nat):List V:=(List.range n).map fun (k:Nat)=>V.int (i - k)
theorem gZ (i:Int) (n:Nat):(jG i n).length=n:=by simp [jG]
theorem oX {i:Int}{n k:Nat}{x:V} (h:(jG i n)[k]?=some x):k < n/\x=.int (i - k):=by
 unfold jG at h
 rw [List.getElem?_map] at h
 by_cases hk:k < n
 .rw [List.getElem?_range hk] at h
  exact ⟨hk,(Option.some.inj h).symm⟩
 .rw [List.getElem?_eq_none (by simp;omega)] at h
  cases h
def wQ (ta:TA):TI:=fun σ H R=>ta σ H fun vs H1=>∃i j:Int,vs=[.int i,.int j,.int (-1)]/\(-(2 ^ 60)<=i/\i < 2 ^ 60/\-(2 ^ 60)<=j/\j < 2 ^ 60)/\R (Its (jG i (i - j).toNat)) H1
theorem eN (i j:Int):Builtin.Range.rangeSize i j (-1)=(((i - j).toNat:Nat):Int):=by
 unfold Builtin.Range.rangeSize
 rw [if_neg (by decide)]
 simp only [Int.neg_neg,Int.ediv_one]
 split <;> omega
theorem oY {a b c:Expr}{ta:TA}{p pos:Pos} (hg:Gl X "range") (hm:X.mg "range"=none) (ha:PA X [a,b,c] ta)
  (hs:starEach [a,b,c] X.env=[(false,eval a X.env),(false,eval b X.env),(false,eval c X.env)]:=by rfl) (hs2:starEach [b,c] X.env=[(false,eval b X.env),(false,eval c X.env)]:=by rfl) :
  PI X tg (.Call (.Name "range" p) [a,b,c] [] pos) (wQ ta):=by
 intro pins s σ H R I h
 refine Call_ (gO I hg hm boot_range (PyProof.Rows.callWith_type1 (thn (ha pos pins s σ H _ I h) fun us s1 ⟨vs,H1,I1,r1,q1⟩=>?_) (by rw [hs,hs2]) (by rw [hs2];rfl)))
 obtain ⟨i,j,e,⟨q1,q2,q3,q4⟩,q⟩:=q1
 subst e
 cases r1 with
 | cons r rr =>
  cases rr with
  | cons r' rr =>
   cases rr with
   | cons r'' rr =>
    cases rr
    obtain ⟨t,rfl⟩:=r
    obtain ⟨t',rfl⟩:=r'
    obtain ⟨t'',rfl⟩:=r''
    refine call_range_3 (by decide) ?_ (.inl (PyProof.noPylong_small (by decide)))
    refine wpAny_pyIter_range (IsRange.new ..) ?_ ?_
    .unfold Builtin.Range.small
     rw [eN]
     simp only [Builtin.Range.rangeFitsLong,Bool.and_eq_true,Bool.or_eq_true,decide_eq_true_eq,beq_iff_eq,show ¬ (-1:Int) > 0 by decide,if_false]
     omega
    have I2:Inv X pins σ H1 { s1 with heap:=s1.heap.push { cls:=.type "range",data:=.fields #[.int i t,.int j t',.int (-1) t''] },toks:=s1.toks }:=I1.kept fun b o e=>Heap.get?_push_of_some _ e
    refine ⟨_,[(s1.heap.push { cls:=.type "range",data:=.fields #[.int i t,.int j t',.int (-1) t''] }).objs.size],_,Its (jG i (i - j).toNat),H1,rfl,I2.kept (t':=s1.toks) fun b o e=>Heap.get?_push_of_some _ e,
     gY (fun A hA=>Walks.range hA _ i (-1) (i - j).toNat) (gZ _ _) ?_ ?_ ?_ ?_ (fun A i s Q E st q=>wpAny_pyIter_rangeiter st q),?_,fun b hb=>?_,q⟩
    .rintro k v hk ⟨t,rfl⟩
     refine ⟨.int (i - k),?_,t,?_⟩
     .unfold jG
      rw [List.getElem?_map,List.getElem?_range hk];rfl
     .have e:i + (k:Int) * (-1)=i - k:=by omega
      rw [e]
    .rintro k v ⟨t,rfl⟩ a z
     cases z
    .exact fun k h st=>⟨_,st,fun v z=>by
      have z':Data.fields _=Data.cell v:=z
      cases z'⟩
    .exact fun k h h' st kk=>kk _ (by simp) _ st
    .show IsRangeIter _ _ (i + ((0:Nat):Int) * (-1)) ((((i - j).toNat:Nat):Int) - ((0:Nat):Int)) (-1)
     rw [<- eN]
     simp only [Int.natCast_zero,Int.zero_mul,Int.add_zero,Int.sub_zero]
     exact Heap.get?_push_size _ rfl
    .have e:b=(s1.heap.push { cls:=.type "range",data:=.fields #[.int i t,.int j t',.int (-1) t''] }).objs.size:=by simpa using hb
     subst e
     exact I2.fpOk (Nat.le_refl _) (I2.hok.fresh (Nat.le_refl _))
end
section
variable {X:Cx}
theorem lB:a9 X (.builtin "isinstance") (fun xs H Q=>∃x n t b,xs=[x,.ty n]/\ly X.K H x t/\PySem.W.kitOne X.K t (.type n)=some b/\Q (.bl b) H):=by
 intro pins s σ H xs us Q I r h
 obtain ⟨x,n,t,b,rfl,ty,e,q⟩:=h
 obtain ⟨u,w',rfl,rx,ry⟩:=nh r
 cases (show w'=Value.type n from ry)
 exact oF I rx ty e fun tk=>⟨.bl b,H,I.tok _,rfl,q⟩
mutual
inductive DV (K:PySem.W.Frag) (H:Hp):V->PyData->Prop
 | non:DV K H .non .none
 | bl (b:Bool):DV K H (.bl b) (.bool b)
 | int (i:Int):DV K H (.int i) (.int i)
 | str (x:Str):DV K H (.str x) (.str x)
 | lst {a:Addr}{xs:List V}{ds:List PyData}:SqL K H a xs->DVs K H xs ds->DV K H (.ref a) (.list ds)
 | tup {a:Addr}{xs:List V}{ds:List PyData}:SqT K H a xs->DVs K H xs ds->DV K H (.ref a) (.tuple ds)
inductive DVs (K:PySem.W.Frag) (H:Hp):List V->List PyData->Prop
 | nil:DVs K H [] []
 | cons {x:V}{d:PyData}{xs:List V}{ds:List PyData}:DV K H x d->DVs K H xs ds->DVs K H (x::xs) (d::ds)
end
mutual
theorem DV.reads {pins:List (Addr×Obj)}{σ:St}{H:Hp}{s:Shared} (I:Inv X pins σ H s):∀{x:V}{d:PyData}{u:Value},DV X.K H x d->bR x u->∃as,Reads s.heap u d as
 | _,_,u,.non,r=>by cases (show u=Value.none from r);exact ⟨_,.none⟩
 | _,_,u,.bl b,r=>by cases (show u=Value.bool b from r);exact ⟨_,.bool b⟩
 | _,_,u,.int i,r=>by obtain ⟨t,e⟩:=(show ∃t,u=Value.int i t from r);subst e;exact ⟨_,.int i t⟩
 | _,_,u,.str x,r=>by obtain ⟨t,e⟩:=(show ∃t,u=Value.str x t from r);subst e;exact ⟨_,.str x t⟩
 | _,_,u,.lst (a:=a) hq hs,r=>by
  cases (show u=Value.ref a from r)
  obtain ⟨its,rv,pl,_⟩:=I.list hq
  obtain ⟨o,ho,hc,n,hd⟩:=pl.isList
  obtain ⟨as,ra⟩:=DVs.reads I hs rv
  exact ⟨_,.list ho hc hd ra⟩
 | _,_,u,.tup (a:=a) hq hs,r=>by
  cases (show u=Value.ref a from r)
  obtain ⟨its,rv,pl,_⟩:=I.tuple hq
  obtain ⟨o,ho,hc,n,hd⟩:=pl
  obtain ⟨as,ra⟩:=DVs.reads I hs rv
  exact ⟨_,.tuple ho hc hd ra⟩
theorem DVs.reads {pins:List (Addr×Obj)}{σ:St}{H:Hp}{s:Shared} (I:Inv X pins σ H s):∀{xs:List V}{ds:List PyData}{us:List Value},DVs X.K H xs ds->bp xs us->∃as,ReadsAll s.heap us ds as
 | _,_,_,.nil,.nil=>⟨_,.nil⟩
 | _,_,_,.cons h hs,.cons r rs=>by
  obtain ⟨as,ra⟩:=DV.reads I h r
  obtain ⟨bs,rb⟩:=DVs.reads I hs rs
  exact ⟨_,.cons ra rb⟩
end
def zO (K:PySem.W.Frag) (neg:Bool):R2:=fun x y H Q=>∃da db,DV K H x da/\DV K H y db/\SeqAt.shaped da=true/\SeqAt.shaped db=true/\Q (.bl (if neg then !PyData.eqv da db else PyData.eqv da db)) H
theorem wR (hu:X.A.units + 64 < cLine):OpR X (compareOp .Eq) (zO X.K false):=by
 intro pins s σ H x y v u Q I rx ry h
 obtain ⟨da,db,ha,hb,sa,sb,q⟩:=h
 obtain ⟨as,ra⟩:=DV.reads I ha rx
 obtain ⟨bs,rb⟩:=DV.reads I hb ry
 exact eq_dataH ra rb sa sb hu ⟨.bl _,H,I,rfl,q⟩
theorem DVs.ints {K:PySem.W.Frag}{H:Hp}:∀ns:List Int,DVs K H (ns.map V.int) (ns.map PyData.int)
 | []=>.nil
 | n::ns=>.cons (.int n) (DVs.ints ns)
theorem lC:MtR X "str.endswith" (fun x xs H Q=>∃a b,x=.str (S a)/\xs=[.str (S b)]/\Q (.bl (decide (b <:+ a))) H):=by
 intro pins s σ H x xs v us Q I rx rs h
 obtain ⟨a,b,rfl,rfl,q⟩:=h
 obtain ⟨t,rfl⟩:=rx
 obtain ⟨u,rfl,t',rfl⟩:=fc rs
 have e:Txt.endswith (S a) (S b)=decide (b <:+ a):=by
  unfold Txt.endswith Builtin.Str.subAt
  rw [dJ,dJ]
  have e1:((S a).cps.extract (a.length - b.length) (a.length - b.length + b.length))=((a.drop (a.length - b.length)).take b.length).toArray:=by
   show a.toArray.extract _ _=_
   rw [List.extract_toArray,List.extract_eq_take_drop]
   have e2:a.length - b.length + b.length - (a.length - b.length)=b.length:=by omega
   rw [e2]
  rw [e1]
  by_cases h:b <:+ a
  .rw [decide_eq_true h]
   have hl:=h.length_le
   have hd:a.drop (a.length - b.length)=b:=(List.suffix_iff_eq_drop.mp h).symm
   rw [hd]
   simp [S,hl]
  .rw [decide_eq_false h]
   by_cases hl:b.length<=a.length
   .have hne:¬ (a.drop (a.length - b.length)).take b.length=b:=fun z=>h (by
     rw [List.take_of_length_le (by rw [List.length_drop];omega)] at z
     exact List.suffix_iff_eq_drop.mpr z.symm)
    simp only [Bool.and_eq_false_imp]
    intro _
    show (((a.drop (a.length - b.length)).take b.length).toArray == b.toArray)=false
    rw [beq_eq_false_iff_ne]
    intro z
    exact hne (by simpa using congrArg Array.toList z)
   .rw [decide_eq_false (by omega)];rfl
 exact SC.endswith ⟨.bl _,H,I,rfl,by rw [e];exact q⟩
end
section
variable {X:Cx}{a b:Expr}{ta tb:TE}{pos:Pos}
theorem bG {x:Str}{l:List Nat}{j:Nat} (h:x=S l):PE X (.Constant (.str x) j pos) (tC (.str (S l))):=by
 subst h
 exact wd
theorem oZ:a9 X (.builtin "len") (fun xs H Q=>∃l,xs=[.str (S l)]/\l.length<=sizeLine/\Q (.int l.length) H):=by
 intro pins s σ H xs us Q I r h
 obtain ⟨l,rfl,hz,q⟩:=h
 exact kB pins s σ H _ us Q I r ⟨S l,rfl,by rw [dJ];exact hz,by rw [dJ];exact q⟩
def wS:R2:=fun x y H Q=>∃l i c,x=.str (S l)/\y=.int i/\l.length<=sizeLine/\atI l i=some c/\Q (.str (S [c])) H
theorem uh:IxR X wS:=by
 intro value slice pins s σ H x y v u Q I rx ry q hs
 obtain ⟨l,i,c,rfl,rfl,hz,ha,q⟩:=q
 exact wG value slice pins s σ H _ _ v u Q I rx ry ⟨S l,i,c,rfl,rfl,by rw [dJ];exact hz,ha,q⟩ hs
theorem ui:OpR X (binaryOp .Add) (fun x y H Q=>∃i j,x=.str (S i)/\y=.str (S j)/\i.length + j.length<=sizeLine/\Q (.str (S (i++j))) H):=by
 intro pins s σ H x y v u Q I rx ry h
 obtain ⟨i,j,rfl,rfl,hz,q⟩:=h
 exact ng pins s σ H _ _ v u Q I rx ry ⟨S i,S j,rfl,rfl,by rw [dJ,dJ];exact hz,by rw [uf];exact q⟩
theorem wT:OpR X (compareOp .Eq) (fun x y H Q=>∃i j,x=.str (S i)/\y=.str (S j)/\Q (.bl (decide (i=j))) H):=by
 intro pins s σ H x y v u Q I rx ry h
 obtain ⟨i,j,rfl,rfl,q⟩:=h
 exact yu pins s σ H _ _ v u Q I rx ry ⟨rfl,by rw [yC];exact q⟩
theorem wU:OpR X (compareOp .Eq) (rI0 fun i j=>.bl (decide (i=j))):=wq fun _ _ _ _ _ _ _ q=>eq_int (by rw [Bool.beq_eq_decide_eq];exact q)
theorem o0:a9 X (.builtin "len") (fun xs H Q=>∃p ys,xs=[.ref p]/\SqL X.K H p ys/\Q (.int ys.length) H):=by
 intro pins s σ H xs us Q I r h
 obtain ⟨p,ys,e,hq,q⟩:=h
 exact gj pins s σ H xs us Q I r ⟨p,ys,e,.inl hq,q⟩
theorem o5:a9 X (.builtin "len") (fun xs H Q=>∃p ys,xs=[.ref p]/\SqT X.K H p ys/\Q (.int ys.length) H):=by
 intro pins s σ H xs us Q I r h
 obtain ⟨p,ys,e,hq,q⟩:=h
 exact gj pins s σ H xs us Q I r ⟨p,ys,e,.inr hq,q⟩
end
structure Cal (P:Program) (w:World) (K:PySem.W.Frag) (mg:Str->Option Value) (base:Heap) (k:Nat) (x:Str) (ps:List Str) (sp:Sp):Prop where
 ex:∃(f:Addr) (fd:FuncData),jb P w K mg base CX0 k f fd ps sp/\fK K fd ps []/\PySem.W.keepIn K (.ref f)=true/\mg x=some (.ref f)/\∃oc od osl,K.lookup f=some ⟨oc,od,.func fd,osl⟩
structure b4 (K:PySem.W.Frag) (mg:Str->Option Value) (x:Str) (st:Stmt):Prop where
 ex:∃(f:Addr) (fd:FuncData),Fun K x x st f fd/\mg x=some (.ref f)
section
variable {P:Program}{w:World}{K:PySem.W.Frag}{mg:Str->Option Value}{base:Heap}{x:Str}{st:Stmt}{N ps:List Str}{k:Nat}{sp:Sp}
theorem b4.ok (D:b4 K mg x st) (S:aI N ps (ah st))
  (hb:∀(kV doc pm:Value) (an:Option Addr) (cdv ct:Value) (us:List Value),us.length=ps.length->bindArgs (PySem.W.fnOf x x (a6 st) (aQ st) (ah st) .none kV doc pm an cdv ct) ⟨us,[]⟩=pure (ps.zip us))
  (len:∀vs H Q E,sp vs H Q E->vs.length=ps.length)
  (hbody:∀(f:Addr) (cdv:Value) (A:Around) (outer:List Env) (s:Shared) (H:Hp) (vs:List V) (Q:VK) (E:XK),c4 k (A.deeper (envOfC x (ah st) s.heap.objs.size f cdv))->sp vs H Q E ->
   ∃t,PSs (kf CX0 P w K mg base N x (ah st) f cdv A outer s H E).nox (aQ st) t/\t { nx:=fun _ H'=>Q .non H',rt:=Q } (start N vs) H):Cal P w K mg base (k + 1) x ps sp:=by
 obtain ⟨f,fd,F,hm⟩:=D.ex
 have lk:∃oc od osl,K.lookup f=some ⟨oc,od,.func fd,osl⟩:=by
  obtain ⟨oc,od,kV,doc,pm,an,cdv,ct,osl,rfl,lk,hcd⟩:=F.ex
  exact ⟨oc,od,osl,lk⟩
 exact ⟨f,fd,F.ok S len fun cdv A outer s H vs Q E hr h=>hbody f cdv A outer s H vs Q E hr h,F.binds hb,F.kp,hm,lk⟩
theorem b4.mk' {K:PySem.W.Frag}{h:Heap}{mg:Str->Option Value}{x:Str}{st:Stmt}{f:Addr}{oc:Value}{od an:Option Addr}{osl:Array (Option Value)}{kV doc pm cdv ct:Value} (X:K.In h) (G:h.Ns mainGlobals mg)
  (a:PySem.W.nsIn K mainGlobals x=some (some (.ref f))) (l:K.lookup f=some ⟨oc,od,.func (PySem.W.fnOf x x (a6 st) (aQ st) (ah st) .none kV doc pm an cdv ct),osl⟩)
  (c:PySem.W.codeIn K cdv x=true) (k:PySem.W.keepIn K (.ref f)=true):b4 K mg x st:=⟨f,_,gk (st:=st) l c k,PySem.W.mg_of X G a⟩
end
section
variable {X:Cx}{k:Nat}{x:Str}{ps:List Str}{sp:Sp}{p pos:Pos}{e:Expr}{es:List Expr}{t:TA}
theorem wV (C:Cal X.prog X.w X.K X.mg X.base k x ps sp) (hr:c4 k X.A) (ha:PA X (e::es) t) (hg:Gl X x:=by rfl) (hdb:(x == ("__debug__":Str))=false:=by decide) (he:starEach (e::es) X.env=(false,eval e X.env)::starEach es X.env:=by rfl)
  (hpl:(backTo pos (starEach es X.env)).any (·.1)=false:=by rfl):PE X (.Call (.Name x p) (e::es) [] pos) (dI sp [] E0 t):=by
 obtain ⟨f,fd,F,hb,hk,hm,_⟩:=C.ex
 exact oG F hr hg hm hk hb .nil ue ha hdb he hpl
end
def nB (K:PySem.W.Frag):Sp:=fun vs H Q _=>∃(a:Addr) (ns:List Int),vs=[.ref a]/\SqL K H a (ns.map V.int)/\ns.length<=63/\∀H',Q (.bl true) H'
theorem wW {P:Program}{w:World}{K:PySem.W.Frag}{mg:Str->Option Value}{fa:Addr}{st:Stmt}{k:Nat}{x:Str} (hfa:mg "law"=some (.ref fa)) (D:b4 K mg "law" st)
  (hbind:∀(kV doc pm:Value) (an:Option Addr) (cdv ct:Value) (s:Shared) (v:Value),BindsTo s (PySem.W.fnOf "law" "law" (a6 st) (aQ st) (ah st) .none kV doc pm an cdv ct) ⟨[v],[]⟩ [(x,v)])
  (h:∀base:Heap,Cal P w K mg base k "law" [x] (nB K)) :
  ∃fd:FuncData,(∀(s:Shared) (v:Value),BindsTo s fd ⟨[v],[]⟩ [(x,v)])/\∀base:Heap,K.In base->base.Ns mainGlobals mg->jb P w K mg base CX0 k fa fd [x] (nB K):=by
 obtain ⟨f,fd,F,hm⟩:=D.ex
 have e:=hfa.symm.trans hm
 cases e
 obtain ⟨oc,od,kV,doc,pm,an,cdv,ct,osl,rfl,lk,hcd⟩:=F.ex
 refine ⟨_,fun s v=>hbind kV doc pm an cdv ct s v,fun base kb nb=>?_⟩
 obtain ⟨f',fd',F',_,_,hm',oc',od',osl',lk'⟩:=(h base).ex
 have e:=hfa.symm.trans hm'
 cases e
 rw [lk] at lk'
 cases lk'
 exact F'
theorem wX {l:PySem.W.OpenLaw}{q:Program}{loose:List Str}{XP:(Str->Option Value)->Heap->Prop}{YP:World->Heap->Prop}{d:DefRec}{K:Params->PySem.W.Frag}{k:Nat}{x:Str} (hn:l.most=some 63) (hdf:d.params.defaults=[]) (hr:c4 k callerA)
  (hY:∀(w:World) (h:Heap),YP w h->(K w.params).In h)
  (F:∀(w:World) (mg:Str->Option Value) (fa:Addr) (h:Heap),(K w.params).In h->h.Ns mainGlobals mg->mg d.name=some (.ref fa) ->
   ∃fd:FuncData,(∀(s:Shared) (u:Value),BindsTo s fd ⟨[u],[]⟩ [(x,u)])/\∀base:Heap,(K w.params).In base->base.Ns mainGlobals mg->jb l.prog w (K w.params) mg base CX0 k fa fd [x] (nB (K w.params))) :
  PySem.W.WalkO q loose XP YP l.row.toRowW d [] (fun f vs=>PySem.call f vs) :=
 ud (n:=63) (k:=k) (x:=x) (CX:=fun _=>CX0) (sp:=fun w=>nB (K w.params)) hn (by decide) hdf hr hY F (fun _ _ a ns hl _ hS=>⟨a,ns,rfl,hS,hl,fun _=>rfl⟩) fun _ _ _ _ _ z=>z
theorem uj {α β:Type}{f:α->β}{xs:List α}{i:Int}{v:α} (h:atI xs i=some v):atI (xs.map f) i=some (f v):=by
 unfold atI at h ⊢
 rw [List.length_map]
 cases e:ixN xs.length i with
 | none=>rw [e] at h;cases h
 | some j =>
  rw [e] at h
  show (xs.map f)[j]?=some (f v)
  have h':xs[j]?=some v:=h
  rw [List.getElem?_map,h'];rfl
theorem g6 {α:Type}{xs:List α}{i:Int}{j:Nat}{v:α} (h:xs[j]?=some v) (e:i=(j:Int)):atI xs i=some v:=by subst e;exact t8 h
theorem sz (n:Nat) (h:n<=1000000):n<=sizeLine:=by rw [sizeLine_eq];omega
theorem rg {ns:List Int}{i:Nat}{x:V} (h:(ns.map V.int)[i]?=some x):∃z,ns[i]?=some z/\x=.int z:=by
 rw [List.getElem?_map] at h
 cases e:ns[i]? with
 | none=>rw [e] at h;cases h
 | some z=>rw [e] at h;exact ⟨z,rfl,(Option.some.inj h).symm⟩
section
variable {X:Cx}{st:Stmt}{t:TS}
def wY (t:TS):TS:=fun D σ H=>∃J:St->Hp->Prop,t { D with nx:=J } σ H/\∀σ' H',J σ' H'->D.nx σ' H'
theorem jH (h:PS X st t):PS X st (wY t):=by
 intro pins s σ H D I q
 obtain ⟨J,q1,q2⟩:=q
 refine thn (h pins s σ H _ I q1) fun f s' r=>?_
 cases f with
 | next=>obtain ⟨σ',H',I',r'⟩:=r;exact ⟨σ',H',I',q2 σ' H' r'⟩
 | brk=>exact r
 | cont=>exact r
 | ret u=>exact r
end
theorem rh {α β:Type} (f:α->β) (xs:List α) (lo hi:Option Int):cW (xs.map f) lo hi=(cW xs lo hi).map f:=by
 unfold cW
 rw [List.length_map,List.map_take,List.map_drop]
theorem rj {α:Type} (l:List α) {k:Int} (h:0<=k):cW l none (some k)=l.take k.toNat:=by
 have e:k=((k.toNat:Nat):Int):=by omega
 rw [e,gX];rfl
theorem cF {x:Str}{c:Addr}:∀(names:List (Str×NameKind)) (n:Nat) (acc:List (Str×Addr)),(cellsFrom n names acc).lookup x=some c->(n<=c/\(x,NameKind.cell)∈names)\/acc.lookup x=some c
 | [],n,acc,h=>.inr h
 | (y,k)::r,n,acc,h=>by
  unfold cellsFrom at h
  split at h
  .rename_i hk
   have hk':k=.cell:=by simpa using hk
   subst hk'
   rcases cF r (n + 1) ((y,n)::acc) h with ⟨h1,h2⟩ | h1
   .exact .inl ⟨by omega,List.mem_cons_of_mem _ h2⟩
   .rw [List.lookup_cons] at h1
    cases e:x == y with
    | true =>
     rw [e] at h1
     have:n=c:=Option.some.inj h1
     have ex:x=y:=by simpa using e
     subst ex
     exact .inl ⟨by omega,List.mem_cons_self⟩
    | false=>rw [e] at h1;exact .inr h1
  .rcases cF r n acc h with ⟨h1,h2⟩ | h1
   .exact .inl ⟨h1,List.mem_cons_of_mem _ h2⟩
   .exact .inr h1
theorem c8 {x:Str}:∀(names:List (Str×NameKind)) (n:Nat) (acc:List (Str×Addr)),(x,NameKind.cell)∉names->(cellsFrom n names acc).lookup x=acc.lookup x
 | [],_,_,_=>rfl
 | (y,k)::r,n,acc,h=>by
  unfold cellsFrom
  split
  .rename_i hk
   have hk':k=.cell:=by simpa using hk
   subst hk'
   rw [c8 r (n + 1) _ (fun z=>h (List.mem_cons_of_mem _ z)),List.lookup_cons]
   have:(x == y)=false:=by
    rw [beq_eq_false_iff_ne]
    intro e;subst e;exact h List.mem_cons_self
   rw [this]
  .exact c8 r n acc (fun z=>h (List.mem_cons_of_mem _ z))
theorem c9 {x y:Str}{c:Addr}:∀(names:List (Str×NameKind)) (n:Nat) (acc:List (Str×Addr)),(∀z d,acc.lookup z=some d->d < n) ->
  (cellsFrom n names acc).lookup x=some c->(cellsFrom n names acc).lookup y=some c->n<=c->x=y
 | [],n,acc,ha,h1,h2,hc=>absurd (ha x c h1) (Nat.not_lt.mpr hc)
 | (z,k)::r,n,acc,ha,h1,h2,hc=>by
  unfold cellsFrom at h1 h2
  split at h1
  .rename_i hk
   rw [if_pos hk] at h2
   have ha':∀w d,((z,n)::acc).lookup w=some d->d < n + 1:=fun w d e=>by
    rw [List.lookup_cons] at e
    cases q:w == z with
    | true=>rw [q] at e;cases e;exact Nat.lt_succ_self _
    | false=>rw [q] at e;exact Nat.lt_succ_of_lt (ha w d e)
   by_cases hcn:n + 1<=c
   .exact c9 r (n + 1) _ ha' h1 h2 hcn
   .have e:c=n:=Nat.le_antisymm (Nat.not_lt.mp hcn) hc
    subst e
    have key:∀w:Str,(cellsFrom (c + 1) r ((z,c)::acc)).lookup w=some c->w=z:=fun w hw=>by
     rcases cF r (c + 1) _ hw with ⟨q,_⟩ | q
     .exact absurd q (Nat.not_succ_le_self _)
     .rw [List.lookup_cons] at q
      cases q2:w == z with
      | true=>simpa using q2
      | false=>rw [q2] at q;exact absurd (ha w c q) (Nat.lt_irrefl _)
    rw [key x h1,key y h2]
  .rename_i hk
   rw [if_neg hk] at h2
   exact c9 r n acc ha h1 h2 hc
def fe (env:Env):List (Str×NameKind)->List (Str×Addr)->List (Str×Addr)
 | [],acc=>acc
 | (n,k)::r,acc=>if (k == .free)=true then fe env r ((n,(env.cells.lookup n).getD 0)::acc) else fe env r acc
theorem de {env:Env}{x:Str}{c:Addr}:∀(names:List (Str×NameKind)) (acc:List (Str×Addr)),(fe env names acc).lookup x=some c->((x,NameKind.free)∈names/\c=(env.cells.lookup x).getD 0)\/acc.lookup x=some c
 | [],acc,h=>.inr h
 | (y,k)::r,acc,h=>by
  unfold fe at h
  split at h
  .rename_i hk
   have hk':k=.free:=by simpa using hk
   subst hk'
   rcases de r _ h with ⟨h1,h2⟩ | h1
   .exact .inl ⟨List.mem_cons_of_mem _ h1,h2⟩
   .rw [List.lookup_cons] at h1
    cases e:x == y with
    | true =>
     rw [e] at h1
     have ex:x=y:=by simpa using e
     subst ex
     exact .inl ⟨List.mem_cons_self,(Option.some.inj h1).symm⟩
    | false=>rw [e] at h1;exact .inr h1
  .rcases de r acc h with ⟨h1,h2⟩ | h1
   .exact .inl ⟨List.mem_cons_of_mem _ h1,h2⟩
   .exact .inr h1
theorem fg {env:Env}{x:Str}:∀(names:List (Str×NameKind)) (acc:List (Str×Addr)),((x,NameKind.free)∈names\/(acc.lookup x).isSome=true)->((fe env names acc).lookup x).isSome=true
 | [],acc,h=>h.elim (fun z=>nomatch z) id
 | (y,k)::r,acc,h=>by
  unfold fe
  split
  .rename_i hk
   refine fg r _ ?_
   by_cases e:(x == y)=true
   .exact .inr (by rw [List.lookup_cons,e];rfl)
   .rcases h with h | h
    .rcases List.mem_cons.mp h with z | z
     .cases z;exact absurd (by simp) e
     .exact .inl z
    .exact .inr (by rw [List.lookup_cons];rw [Bool.not_eq_true] at e;rw [e];exact h)
  .rename_i hk
   refine fg r acc ?_
   rcases h with h | h
   .rcases List.mem_cons.mp h with z | z
    .cases z;exact absurd rfl hk
    .exact .inl z
   .exact .inr h
theorem gz {scope:Scope}{env:Env} (h:∀x∈scope.names,x.2=.free->∃c,env.cells.lookup x.1=some c):closureFor scope env=pure (fe env scope.names []):=by
 unfold closureFor
 have key:∀(names:List (Str×NameKind)) (acc:List (Str×Addr)),(∀x∈names,x.2=.free->∃c,env.cells.lookup x.1=some c) ->
   (forIn names acc fun (x:Str×NameKind) (r:List (Str×Addr))=>(if (x.2 == NameKind.free)=true then do let y <- cellOf env x.1;pure (ForInStep.yield ((x.1,y)::r)) else pure (ForInStep.yield r):Sem _))=pure (fe env names acc):=by
  intro names
  induction names with
  | nil=>intro acc _;rfl
  | cons p r ih =>
   intro acc hp
   obtain ⟨n,k⟩:=p
   rw [List.forIn_cons]
   have hr:∀x∈r,x.2=.free->∃c,env.cells.lookup x.1=some c:=fun x hx=>hp x (List.mem_cons_of_mem _ hx)
   unfold fe
   by_cases hk:(k == NameKind.free)=true
   .obtain ⟨c,hc⟩:=hp (n,k) List.mem_cons_self (by simpa using hk)
    have hc':env.cells.lookup n=some c:=hc
    have e1:cellOf env n=pure c:=by unfold cellOf;rw [hc']
    simp only [hk,if_true]
    rw [e1,hc']
    simp only [pure_bind]
    exact ih _ hr
   .rw [if_neg hk,if_neg hk]
    simp only [pure_bind]
    exact ih _ hr
 have e:=key scope.names [] h
 have e2:∀(m:Sem (List (Str×Addr))),(m >>= fun r=>pure r)=m:=fun m=>bind_pure m
 rw [<- e]
 first
  | rfl
  | exact (e2 _)
def o7 (scope:Scope) (C:Addr) (env:Env):Env :=
 { scope:=relabel scope env,locals:=C,globals:=env.globals,cells:=cellsFrom (C + 1) scope.names (fe env scope.names []),qual:=env.qual,func:=none,code:=env.code,frame:=env.frame,builtins:=env.builtins }
def bK (X:Cx) (N':List Str) (scope:Scope) (s:Shared) (H:Hp) (fp:List Addr) (pins:List (Addr×Obj)):Cx :=
 { X with N:=N',s₀:=s,H₀:=H,env:=o7 scope s.heap.objs.size X.env,outer:=X.stack,stack:=X.stack,ex:=fp,fn:=fun x=>decide ((x,NameKind.cell)∈scope.names),pn:=X.pn++pins,xe:=fun _ _=>False }
def jI (sc0:Scope) (N:List Str) (scope:Scope) (N':List Str) (ix:List (Option Nat)):Bool :=
 decide (scope.kind=.function) && scope.names.all (fun y=>(!decide (y.2=.local) || decide (scope.names.lookup y.1=some .local)) &&
  (!decide (y.2=.free) || ((decide (sc0.names.lookup y.1=some .cell) || decide (sc0.names.lookup y.1=some .free)) && !decide ((y.1,NameKind.cell)∈scope.names)))) &&
 decide (N'.length=ix.length) && (N'.zip ix).all (fun p=>match p.2 with | none=>true | some j=>decide (N[j]?=some p.1) && decide (scope.names.lookup p.1=some .free))
structure o8 (env:Env) (N:List Str) (scope:Scope) (N':List Str) (ix:List (Option Nat)):Prop where
 kind:scope.kind=.function
 loc:∀y∈scope.names,y.2=.local->scope.names.lookup y.1=some .local
 free:∀y∈scope.names,y.2=.free->(env.kindOf y.1=some .cell\/env.kindOf y.1=some .free)/\(y.1,NameKind.cell)∉scope.names
 len:N'.length=ix.length
 slot:∀(i:Nat) (x:Str) (j:Nat),N'[i]?=some x->ix[i]?=some (some j)->N[j]?=some x/\scope.names.lookup x=some .free
theorem kH {env:Env}{N:List Str}{scope:Scope}{N':List Str}{ix:List (Option Nat)} (h:jI env.scope N scope N' ix=true):o8 env N scope N' ix:=by
 unfold jI at h
 simp only [Bool.and_eq_true,decide_eq_true_eq,List.all_eq_true] at h
 obtain ⟨⟨⟨h1,h2⟩,h3⟩,h4⟩:=h
 refine ⟨h1,fun y hy e=>?_,fun y hy e=>?_,h3,fun i x j e1 e2=>?_⟩
 .have:=(h2 y hy).1
  rw [e] at this
  simpa using this
 .have:=(h2 y hy).2
  rw [e] at this
  simpa [Env.kindOf] using this
 .have hm:(x,some j)∈N'.zip ix:=by
   refine List.mem_of_getElem? (i:=i) ?_
   rw [List.getElem?_zip_eq_some]
   exact ⟨e1,e2⟩
  have:=h4 _ hm
  simpa using this
def rlf (env:Env) (p:Str×NameKind):Str×NameKind:=match p with | (n,k)=>if (k == NameKind.free && env.scope.kind == .function && env.kindOf n == some .cell) then (n,.cell) else (n,k)
theorem o9 (env:Env) (n:Str) (k:NameKind):∃k',rlf env (n,k)=(n,k')/\(k'=k\/(k=.free/\k'=.cell)):=by
 unfold rlf
 by_cases c:(k == NameKind.free && env.scope.kind == .function && env.kindOf n == some .cell)=true
 .refine ⟨.cell,if_pos c,.inr ⟨?_,rfl⟩⟩
  simp only [Bool.and_eq_true,beq_iff_eq] at c
  exact c.1.1
 .exact ⟨k,if_neg c,.inl rfl⟩
theorem mw {env:Env}:∀{names:List (Str×NameKind)}{x:Str},names.lookup x=some .free->(names.map (rlf env)).lookup x=some .cell\/(names.map (rlf env)).lookup x=some .free
 | [],_,h=>by simp at h
 | (n,k)::r,x,h=>by
  have ih:=@mw env r x
  obtain ⟨k',e,hk'⟩:=o9 env n k
  rw [List.map_cons,e]
  cases hx:x == n with
  | true =>
   simp only [List.lookup_cons,hx] at h ⊢
   have hk:k=.free:=Option.some.inj h
   rcases hk' with z | z
   .right;rw [z,hk]
   .left;rw [z.2]
  | false =>
   simp only [List.lookup_cons,hx] at h ⊢
   exact ih h
theorem jJ {env:Env}:∀{names:List (Str×NameKind)}{x:Str}{k':NameKind},(names.map (rlf env)).lookup x=some k'->k'=.cell\/k'=.free->names.lookup x=some .cell\/names.lookup x=some .free
 | [],_,_,h,_=>by simp at h
 | (n,k)::r,x,k',h,hk'=>by
  have ih:=@jJ env r x k'
  obtain ⟨k2,e,hk2⟩:=o9 env n k
  rw [List.map_cons,e] at h
  cases hx:x == n with
  | true =>
   simp only [List.lookup_cons,hx] at h ⊢
   have:k2=k':=Option.some.inj h
   subst this
   rcases hk2 with z | z
   .rw [<- z]
    rcases hk' with q | q
    .left;rw [q]
    .right;rw [q]
   .right;rw [z.1]
  | false =>
   simp only [List.lookup_cons,hx] at h ⊢
   exact ih h hk'
theorem kI {x:Str}{c:Addr}:∀(names:List (Str×NameKind)) (n:Nat) (acc:List (Str×Addr)),(cellsFrom n names acc).lookup x=some c->(x,c)∈cellsFrom n names []\/acc.lookup x=some c:=by
 have app:∀(names:List (Str×NameKind)) (n:Nat) (acc:List (Str×Addr)),cellsFrom n names acc=cellsFrom n names []++acc:=by
  intro names
  induction names with
  | nil=>intro n acc;rfl
  | cons p r ih =>
   intro n acc
   obtain ⟨y,k⟩:=p
   unfold cellsFrom
   split
   .rw [ih (n + 1) ((y,n)::acc),ih (n + 1) [(y,n)],List.append_assoc];rfl
   .exact ih n acc
 intro names n acc h
 rw [app] at h
 rw [List.lookup_append] at h
 cases e:(cellsFrom n names []).lookup x with
 | some d =>
  rw [e] at h
  have:d=c:=by simpa using h
  subst this
  exact .inl (mem_of_lookup e)
 | none=>rw [e] at h;exact .inr (by simpa using h)
def pd (ix:List (Option Nat)) (σ:St):St:=ix.map fun o=>match o with
 | none=>none
 | some j=>match σ[j]? with
  | some v=>v
  | none=>none
section
variable {X:Cx}{pins:List (Addr×Obj)}{σ:St}{H:Hp}{s:Shared}
theorem rl {N':List Str}{ix:List (Option Nat)}{scope:Scope}{fp:List Addr} (ok:o8 X.env X.N scope N' ix) (I:Inv X pins σ H s) (hf:∀b∈fp,nY X pins H b) (hfl:∀b∈fp,b < s.heap.objs.size) :
  Inv (bK X N' scope s H fp pins) [] (pd ix σ) H { s with heap:=pushCells (s.heap.push { cls:=.type "dict",data:=.dict #[] }) scope.names }:=by
 have hk4:∀b o,s.heap.get? b=some o->(pushCells (s.heap.push { cls:=.type "dict",data:=.dict #[] }) scope.names).get? b=some o:=fun b o e=>pushCells_keeps _ _ b o (Heap.get?_push_of_some _ e)
 have hclo:∀x c,(fe X.env scope.names []).lookup x=some c->X.env.cells.lookup x=some c:=fun x c e=>by
  rcases de scope.names [] e with ⟨h1,h2⟩ | h1
  .obtain ⟨d,hd⟩:=I.ok.has x (ok.free _ h1 rfl).1
   rw [hd] at h2 ⊢
   rw [h2];rfl
  .cases h1
 have hcl:∀x c,X.env.cells.lookup x=some c->c < s.heap.objs.size:=fun x c e=>by
  obtain ⟨v,q⟩:=I.cell x c e
  exact q.lt
 have own:=cellsFrom_ok scope.names (s.heap.push { cls:=.type "dict",data:=.dict #[] }) (s.heap.objs.size + 1) [] ⟨fun _ _ hm=>(nomatch hm),List.Pairwise.nil⟩ (by rw [Heap.size_push];exact Nat.le_refl _)
 rw [Heap.size_push] at own
 have cases:∀x c,(cellsFrom (s.heap.objs.size + 1) scope.names (fe X.env scope.names [])).lookup x=some c ->
   ((pushCells (s.heap.push { cls:=.type "dict",data:=.dict #[] }) scope.names).IsCell c none/\s.heap.objs.size + 1<=c)\/X.env.cells.lookup x=some c:=fun x c e=>by
  rcases kI _ _ _ e with h | h
  .exact .inl (own.empty x c h)
  .exact .inr (hclo x c h)
 have fs':∀b,b∈frs X.stack->b < s.heap.objs.size:=fun b hb=>by
  rcases List.mem_cons.mp (I.stkSub b hb) with z | z
  .rw [z];exact I.lt
  .by_cases q:b < s.heap.objs.size
   .exact q
   .exact absurd z (I.nofs (Nat.not_lt.mp q))
 have cix:(bK X N' scope s H fp pins).Ok:=by
  refine ⟨I.ok.mod,ok.kind,I.ok.glob,I.ok.blt,Nat.le_refl _,fun x y c h1 h2=>?_,fun x hx=>?_,fun x c hx e=>?_,I.ok.hd,I.ok.frames,.inl rfl,fun b hb=>⟨Nat.ne_of_lt (hfl b hb),fun x c e=>?_⟩,fun b o e=>I.bs b o e,Nat.le_trans I.ok.bsz I.sz,fun b o e hb=>?_,fun b hb=>?_,I.stack,I.stkFree⟩
  .rcases cases x c h1 with ⟨_,z⟩ | z
   .exact c9 scope.names _ _ (fun w d e=>Nat.lt_succ_of_lt (hcl w d (hclo w d e))) h1 h2 z
   .rcases cases y c h2 with ⟨_,z2⟩ | z2
    .exact absurd (hcl x c z) (Nat.not_lt.mpr (Nat.le_of_succ_le z2))
    .exact I.ok.inj x y c z z2
  .have hx':scope.names.lookup x=some .cell\/scope.names.lookup x=some .free:=by
    rcases hx with z | z
    .exact jJ (env:=X.env) z (.inl rfl)
    .exact jJ (env:=X.env) z (.inr rfl)
   rcases hx' with z | z
   .exact Option.isSome_iff_exists.mp (PySem.W.cellsFrom_some scope.names _ _ (.inl z))
   .exact Option.isSome_iff_exists.mp (PySem.W.cellsFrom_some scope.names _ _ (.inr (fg _ _ (.inl (mem_of_lookup z)))))
  .have hx':(x,NameKind.cell)∈scope.names:=of_decide_eq_true hx
   rcases cases x c e with ⟨_,z⟩ | z
   .exact Nat.le_of_succ_le z
   .rcases kI _ _ _ e with h | h
    .exact Nat.le_of_succ_le (own.empty x c h).2
    .rcases de scope.names [] h with ⟨h1,_⟩ | h1
     .exact absurd hx' (ok.free _ h1 rfl).2
     .cases h1
  .intro z
   rcases cases x c e with ⟨_,z2⟩ | z2
   .rw [z] at z2;exact absurd (hfl b hb) (Nat.not_lt.mpr (Nat.le_of_succ_le z2))
   .exact (hf b hb).2.2.2.2.1 x c z2 z
  .rcases (hf b hb).2.2.2.1 with z | z
   .exact I.ok.noex b o e z
   .exact absurd (Heap.lt_size (I.ok.bs b o e).1) (Nat.not_lt.mpr z)
  .intro z
   rcases List.mem_cons.mp (I.stkSub b z) with q | q
   .exact (hf b hb).2.1 q
   .exact (hf b hb).2.2.1 q
 refine ⟨cix,rfl,I.bare,Un.kept hk4,⟨fun _=>none,?_,fun i x v e1 e2 e3=>?_⟩,fun x c e=>?_,I.hok.fresh (Nat.le_refl _),fun x c e=>?_,fun p hp=>?_,I.hok.kept hk4,?_⟩
 .exact (Heap.Ns.new s.heap (.type "dict")).keeps (pushCells_keeps _ _)
 .have e2':∃j,ix[i]?=some (some j)/\σ[j]?=some (some v):=by
   unfold pd at e2
   rw [List.getElem?_map] at e2
   cases q:ix[i]? with
   | none=>rw [q] at e2;cases e2
   | some o =>
    rw [q] at e2
    cases o with
    | none=>cases (Option.some.inj e2)
    | some j =>
     refine ⟨j,rfl,?_⟩
     have e2'':(match σ[j]? with | some v=>v | none=>none)=some v:=Option.some.inj e2
     cases r:σ[j]? with
     | none=>rw [r] at e2'';cases e2''
     | some w=>rw [r] at e2'';exact congrArg some e2''
  obtain ⟨j,hj,hv⟩:=e2'
  obtain ⟨hN,hfr⟩:=ok.slot i x j e1 hj
  have hk:=(ok.free _ (mem_of_lookup hfr) rfl).1
  have hvis:Vis X.env.scope x:=by
   rcases hk with z | z
   .exact .inr (.inl z)
   .exact .inr (.inr z)
  obtain ⟨m,hn,hl⟩:=I.loc
  obtain ⟨u,ru,lk⟩:=hl j x v hN hv hvis
  refine ⟨u,ru,.inr ⟨?_,?_⟩⟩
  .exact mw (env:=X.env) hfr
  .rcases lk with ⟨z,_⟩ | ⟨_,c,hc,hcell⟩
   .rcases hk with q | q
    .rw [z] at q;cases q
    .rw [z] at q;cases q
   .refine ⟨c,?_,hcell.keeps hk4⟩
    show (cellsFrom (s.heap.objs.size + 1) scope.names (fe X.env scope.names [])).lookup x=some c
    rw [c8 scope.names _ _ (ok.free _ (mem_of_lookup hfr) rfl).2]
    obtain ⟨d,hd⟩:=Option.isSome_iff_exists.mp (fg (env:=X.env) scope.names [] (.inl (mem_of_lookup hfr)))
    rw [hd,<- hclo x d hd,hc]
 .rcases cases x c e with ⟨z,_⟩ | z
  .exact ⟨none,z⟩
  .obtain ⟨v,q⟩:=I.cell x c z
   exact ⟨v,q.keeps hk4⟩
 .rcases cases x c e with ⟨_,z⟩ | z
  .exact I.hok.fresh (Nat.le_of_succ_le z)
  .exact I.freeC x c z
 .have hp':p∈X.pn++pins:=by simpa [bK] using hp
  obtain ⟨q1,q2,q3,q4,q5⟩:=I.pin p hp'
  refine ⟨hk4 _ _ q1,q2,Nat.ne_of_lt (Heap.lt_size q1),fun z=>?_,q5⟩
  rcases List.mem_cons.mp (I.stkSub p.1 z) with q | q
  .exact q3 q
  .exact q4 q
 .unfold pd
  rw [List.length_map]
  exact ok.len.symm
end
section
variable {M:Model}{A:Around}{E:Value->Shared->Prop}{s:Shared}
theorem e8 {scope:Scope}{globals:Addr}{cl:List (Str×Addr)}{qual:Str}{func:Option Addr}{code:Value}{env:Env}{Q:Env->Shared->Prop}
  (hQ:Q { scope:=scope,locals:=s.heap.objs.size,globals:=globals,cells:=cellsFrom (s.heap.objs.size + 1) scope.names cl,qual:=qual,func:=func,code:=env.code,frame:=env.frame,builtins:=env.builtins }
   { s with heap:=pushCells (s.heap.push { cls:=.type "dict",data:=.dict #[] }) scope.names }) :
  wpAny M A (newFunctionEnv scope globals cl [] qual func code (some env)) Q E s:=by
 simp only [newFunctionEnv,Option.isSome_some,if_true]
 refine wpAny_bind (wpAny_alloc ?_)
 refine wpAny_bind (wpAny_layCells _ (fun name kind cells=>by cases hkc:kind == NameKind.cell <;> simp [hkc]) _ _ _ _ ?_)
 rw [show ({ s with heap:=s.heap.push { cls:=.type "dict",data:=.dict #[] } }:Shared).heap.objs.size=s.heap.objs.size + 1 from Heap.size_push ..]
 simp only [List.forIn_nil]
 exact wpAny_bind (wpAny_pure (wpAny_pure hQ))
end
section
variable {prog:Program}{w:World}{A:Around}{R:Result->Shared->Prop}{s:Shared}
theorem kJ {elt target iter:Expr}{ifs:List Expr}{scope:Scope}{pos:Pos}{it acc:Value}{env:Env} (I:Nat->Shared->Prop)
  (turn:∀n s,I n s->wpAny (model prog w) A (pyNext it) (fun r s₁=>match r with
   | none=>R (.ok .next) s₁
   | some v=>wpAny (model prog w) A (letOwnedTupleGo target it v) (fun _ s₂=>wpAny (model prog w) A (assign target env v) (fun _ s₃ =>
     wpAny (model prog w) A (forIn ifs true fun c r=>if r=true then do let ok <- isTrue c env (eval c env);pure (ForInStep.yield ok) else pure (ForInStep.yield r)) (fun ok s₄ =>
      if ok=true then wpAny (model prog w) A (eval elt env) (fun x s₅ =>
       wpAny (model prog w) A (call (.builtin "list.append") [acc,x]) (fun _ s₆=>∃m,m < n/\I m s₆) (fun _ _=>False) s₅) (fun _ _=>False) s₄
      else ∃m,m < n/\I m s₄) (fun _ _=>False) s₃) (fun _ _=>False) s₂) (fun _ _=>False) s₁) (fun _ _=>False) s)
  (n:Nat) (h:I n s) :
  codeAny (model prog w) A (.compLoop (.ListComp elt [⟨target,iter,ifs,0⟩] scope pos) 0 it acc env) R s:=by
 refine codeAny_loop rfl I (fun n s hI=>?_) n h
 show wpAny _ A ((compTurn (.ListComp elt [⟨target,iter,ifs,0⟩] scope pos) 0 it acc env).onRaise (fun x=>do noteFrame x env;theTreesLotGoes x)) _ _ s
 refine wpAny_noted ?_
 rw [compTurn_list]
 refine wpAny_bind (wpAny_standAt (wpAny_bind (wpAny_mono (turn n s hI) (fun r s₁ h₁=>?_) fun _ _ h'=>h'.elim)))
 cases r with
 | none=>exact wpAny_pure h₁
 | some v =>
  refine wpAny_bind (wpAny_mono h₁ (fun _ s₂ h₂=>?_) fun _ _ h'=>h'.elim)
  refine wpAny_bind (wpAny_mono h₂ (fun _ s₃ h₃=>wpAny_bind (wpAny_mono h₃ (fun ok s₄ h₄=>?_) fun _ _ h'=>h'.elim)) fun _ _ h'=>h'.elim)
  cases ok with
  | false=>exact wpAny_pure ⟨rfl,h₄⟩
  | true =>
   exact wpAny_bind (wpAny_bind (wpAny_mono h₄ (fun x s₅ h₅=>wpAny_bind (wpAny_mono h₅ (fun _ s₆ h₆=>wpAny_pure (wpAny_pure ⟨rfl,h₆⟩)) fun _ _ h'=>h'.elim)) fun _ _ h'=>h'.elim))
end
def PIf (X:Cx) (ifs:List Expr) (t:TT):Prop :=
 ∀(pins:List (Addr×Obj)) (s:Shared) (σ:St) (H:Hp) (Q:Bool->Hp->Prop),Inv X pins σ H s->t σ H Q ->
  wpAny (model X.prog X.w) X.A (forIn ifs true fun c r=>if r=true then do let ok <- isTrue c X.env (eval c X.env);pure (ForInStep.yield ok) else pure (ForInStep.yield r)) (TP X pins σ Q) X.xe s
def pf:TT:=fun _ H Q=>Q true H
section
variable {X:Cx}
theorem dP:PIf X [] pf:=fun _ _ _ H _ I h=>wpAny_tests_nil ⟨H,I,h⟩
theorem jK {c:Expr}{t:TT} (h:PT X c t):PIf X [c] t:=fun pins s σ H Q I q=>wpAny_tests_one (h pins s σ H Q I q)
end
def pj (ix:List (Option Nat)) (wi:TI) (g:TG) (tts:TT) (te:TE):TE:=fun σ H Q=>wi σ H fun J H1=>∀D,H1 D=none->∃W:Nat->Nat->St->Hp->Prop,(∃m,W 0 m (pd ix σ) (upd H1 D (.lst [])))/\∀i m τ H2,W i m τ H2 ->
 (J.stop i H2/\Q (.ref D) H2)\/(J.go i H2/\∀x H3,J.yld i H2 x H3->g x τ H3 fun τ2 H4=>tts τ2 H4 fun ok H5=>if ok=true then te τ2 H5 fun v H6=>∃ys,H6 D=some (.lst ys)/\ys.length < sizeLine/\∃m',m' < m/\W (i + 1) m' τ2 (upd H6 D (.lst (ys++[v])))
  else ∃m',m' < m/\W (i + 1) m' τ2 H5)
section
variable {X:Cx}{tg iter elt:Expr}{ifs:List Expr}{scope:Scope}{N':List Str}{ix:List (Option Nat)}{wi:TI}{g:TG}{tts:TT}{te:TE}
theorem kK {use:Option (Value->Sem Unit)}{Qf:Value->Shared->Prop}{pos p':Pos}{pins:List (Addr×Obj)}{σ:St}{H:Hp}{s:Shared}{Q:VK} (hc:X.calm=true) (ok:o8 X.env X.N scope N' ix) (hi:PI X tg iter wi)
  (blk:∀s H fp pn,PG (bK X N' scope s H fp pn) tg g/\PIf (bK X N' scope s H fp pn) ifs tts/\PE (bK X N' scope s H fp pn) elt te)
  (hs:∀x,foldedSetIterable iter X.env x=pure x) (I:Inv X pins σ H s) (hw:pj ix wi g tts te σ H Q)
  (fin:∀D C H' s',Inv X pins σ H' s'->Q (.ref D) H'->(∃m,s'.heap.Ns C m)->H' C=none->X.s₀.heap.objs.size<=C->C≠X.env.locals->(∀x c,X.env.cells.lookup x=some c->c≠C)->C∉X.fs->(∀p∈X.pn++pins,p.1≠C) ->
   compPost (model X.prog X.w) X.A X.xe use Qf (.ref D) C (.ok .next) s') :
  wpAny (model X.prog X.w) X.A (comprehension (.ListComp elt [⟨tg,iter,ifs,0⟩] scope pos) scope X.env p' (newList []) false (eval iter X.env) use) Qf X.xe s:=by
 have hclos:closureFor scope X.env=pure (fe X.env scope.names []):=gz fun y hy e=>I.ok.has y.1 (ok.free y hy e).1
 refine wpAny_comprehension_free (use:=use) rfl hs hclos ok.kind ok.loc (thn (hi pins s σ H _ I hw) fun v s1 h1=>thn h1 fun itv s2 h2=>?_)
 obtain ⟨it,fp,tn,J,H2,e,I2,T,st2,f2,hW⟩:=h2
 subst e
 obtain ⟨W,⟨m0,w0⟩,turn⟩:=hW s2.heap.objs.size (I2.hok.fresh (Nat.le_refl _))
 have hfl:∀b∈fp,b < s2.heap.objs.size:=fun b hb=>by
  obtain ⟨o,e,_⟩:=T.obj 0 _ st2 b hb
  exact Heap.lt_size e
 refine wpAny_newObj_type ?_
 have I3:Inv X pins σ (upd H2 s2.heap.objs.size (.lst [])) { s2 with heap:=s2.heap.push { cls:=.type "list",dict:=none,data:=.seq ([]:List Value).toArray } } :=
  I2.laid (t':=s2.toks) (fun b o e=>Heap.get?_push_of_some _ e) (Nat.le_refl _) (show aZ X.prog X.w _ _ _ (.lst []) from ⟨Nat.zero_le _,[],0,.nil,Heap.get?_push_size _ rfl⟩)
 have st3:tn 0 (s2.heap.push { cls:=.type "list",dict:=none,data:=.seq ([]:List Value).toArray }):=T.keep 0 _ _ st2 fun b _ o e=>Heap.get?_push_of_some _ e
 have f3:∀b∈fp,nY X pins (upd H2 s2.heap.objs.size (.lst [])) b:=fun b hb=>⟨by rw [ak (Nat.ne_of_lt (hfl b hb))];exact (f2 b hb).1,(f2 b hb).2⟩
 have hfl3:∀b∈fp,b < (s2.heap.push { cls:=.type "list",dict:=none,data:=.seq ([]:List Value).toArray }).objs.size:=fun b hb=>by rw [Heap.size_push];exact Nat.lt_succ_of_lt (hfl b hb)
 generalize hs3:({ s2 with heap:=s2.heap.push { cls:=.type "list",dict:=none,data:=.seq ([]:List Value).toArray } }:Shared)=s3 at I3 ⊢
 have eh3:s3.heap=s2.heap.push { cls:=.type "list",dict:=none,data:=.seq ([]:List Value).toArray }:=by rw [<- hs3]
 rw [<- eh3] at st3 hfl3
 generalize hH3:upd H2 s2.heap.objs.size (.lst [])=H3 at I3 f3 w0
 generalize hD:s2.heap.objs.size=D at *
 refine e8 ?_
 have I4:=rl ok I3 f3 hfl3
 obtain ⟨hg,ht,he⟩:=blk s3 H3 fp pins
 have st4:tn 0 (pushCells (s3.heap.push { cls:=.type "dict",data:=.dict #[] }) scope.names):=T.keep 0 _ _ st3 fun b _ o e=>pushCells_keeps _ _ b o (Heap.get?_push_of_some _ e)
 have stat:∀{H':Hp},(∀b∈fp,H' b=none)->∀b∈fp,nY (bK X N' scope s3 H3 fp pins) [] H' b:=fun hn b hb=>by
  refine ⟨hn b hb,Nat.ne_of_lt (hfl3 b hb),I4.ok.exfs b hb,.inl hb,(I4.ok.exf b hb).2,fun p hp=>?_⟩
  have hp':p∈X.pn++pins:=by simpa [bK] using hp
  exact (f2 b hb).2.2.2.2.2 p hp'
 have loop:∀(s4:Shared),Inv (bK X N' scope s3 H3 fp pins) [] (pd ix σ) H3 s4->tn 0 s4.heap ->
   codeAny (model X.prog X.w) X.A (.compLoop (.ListComp elt [⟨tg,iter,ifs,0⟩] scope pos) 0 (.ref it) (.ref D) (o7 scope s3.heap.objs.size X.env)) (compPost (model X.prog X.w) X.A X.xe use Qf (.ref D) s3.heap.objs.size) s4:=by
  intro s4 I4 st4
  refine kJ (fun n s'=>∃i τ H',Inv (bK X N' scope s3 H3 fp pins) [] τ H' s'/\tn i s'.heap/\(∀b∈fp,H' b=none)/\W i n τ H') ?_ m0 ⟨0,_,H3,I4,st4,fun b hb=>(f3 b hb).1,w0⟩
  rintro n s5 ⟨i,τ,H5,I5,st5,fr5,w5⟩
  rcases turn i n τ H5 w5 with ⟨stop,qn⟩ | ⟨go,step⟩
  .refine thn (T.done (bK X N' scope s3 H3 fp pins) rfl rfl rfl hc i [] s5 τ H5 (fun _ _=>False) I5 (stat fr5) st5 stop) fun r s6 ⟨hr,I6⟩=>?_
   subst hr
   have I7:Inv X pins σ H5 s6:=I3.call' (ch:=fp) I6.os I6.base I6.hok I6.bare fun b hb=>⟨(f2 b hb).2.2.2.1,(f2 b hb).2.1,(f2 b hb).2.2.2.2.1,(f2 b hb).2.2.2.2.2⟩
   obtain ⟨m6,hn6,_⟩:=I6.loc
   refine fin D s3.heap.objs.size H5 s6 I7 qn ⟨m6,hn6⟩ I6.free ?_ ?_ ?_ ?_ ?_
   .exact I3.sz
   .exact Nat.ne_of_gt I3.lt
   .intro x c e z
    obtain ⟨v,q⟩:=I3.cell x c e
    have:=q.lt
    rw [z] at this
    exact Nat.lt_irrefl _ this
   .exact I3.nofs (Nat.le_refl _)
   .intro p hp z
    have:=Heap.lt_size (I3.pin p hp).1
    rw [z] at this
    exact Nat.lt_irrefl _ this
  .refine thn (T.item (bK X N' scope s3 H3 fp pins) rfl rfl rfl hc i [] s5 τ H5 (fun _ _=>False) I5 (stat fr5) st5 go) fun r s6 ⟨u,hr,h6⟩=>?_
   subst hr
   refine thn h6 fun _ s7 ⟨x,H7,I7,r7,y7,st7,fr7⟩=>?_
   have I7':=I7.pinned (stat fr7) (T.obj _ _ st7)
   have again:∀{s8:Shared}{τ8:St}{H8:Hp},Inv (bK X N' scope s3 H3 fp pins) ([]++km fp s7.heap) τ8 H8 s8->(∃m',m' < n/\W (i + 1) m' τ8 H8) ->
     ∃m,m < n/\∃i τ H',Inv (bK X N' scope s3 H3 fp pins) [] τ H' s8/\tn i s8.heap/\(∀b∈fp,H' b=none)/\W i m τ H':=fun {s8 τ8 H8} I8 ⟨m',hm,w8⟩=>by
    refine ⟨m',hm,i + 1,τ8,H8,I8.unpinned,T.keep _ _ _ st7 fun b hb o e=>(I8.pin (b,o) (List.mem_append_right _ (List.mem_append_right _ (eB hb e)))).1,fun b hb=>?_,w8⟩
    obtain ⟨o,e,d⟩:=T.obj _ _ st7 b hb
    exact (I8.pin (b,o) (List.mem_append_right _ (List.mem_append_right _ (eB hb e)))).2.1
   refine thn (hg _ s7 τ H7 x u _ I7' r7 (step x H7 y7)) fun _ s8 ⟨τ8,H8,I8,q8⟩=>?_
   refine thn (ht _ s8 τ8 H8 _ I8 q8) fun okb s9 ⟨H9,I9,q9⟩=>?_
   cases okb with
   | false =>
    rw [if_neg Bool.false_ne_true] at q9
    rw [if_neg Bool.false_ne_true]
    exact again I9 q9
   | true =>
    rw [if_pos rfl] at q9
    rw [if_pos rfl]
    refine thn (he _ s9 τ8 H9 _ I9 q9) fun v10 s10 ⟨x10,H10,I10,r10,q10⟩=>?_
    obtain ⟨ys,hD10,hz,m',hm,w10⟩:=q10
    refine thn (gU (X:=bK X N' scope s3 H3 fp pins) _ s10 τ8 H10 (.ref D) [x10] (.ref D) [v10] (fun _ H'=>∃m',m' < n/\W (i + 1) m' τ8 H') I10 rfl (.cons r10 .nil) ⟨D,ys,x10,rfl,rfl,hD10,hz,m',hm,w10⟩) fun _ s11 ⟨_,H11,I11,_,q11⟩=>?_
    exact again I11 q11
 exact codeAny_compStart_list (loop _ I4 st4) (T.self X.A 0 _ _ _ st4 (loop _ I4 st4))
theorem cG {pos:Pos} (N':List Str) (ix:List (Option Nat)) (hc:X.calm=true) (hi:PI X tg iter wi)
  (blk:∀s H fp pn,PG (bK X N' scope s H fp pn) tg g/\PIf (bK X N' scope s H fp pn) ifs tts/\PE (bK X N' scope s H fp pn) elt te)
  (chk:jI X.env.scope X.N scope N' ix=true) (hs:∀x,foldedSetIterable iter X.env x=pure x:=by intro _;rfl) :
  PE X (.ListComp elt [⟨tg,iter,ifs,0⟩] scope pos) (pj ix wi g tts te):=by
 intro pins s σ H Q I hw
 rw [eval_ListComp]
 refine kK (use:=none) hc (kH chk) hi blk hs I hw fun D C H' s' I' q hm hn h1 h2 h3 h4 h5=>?_
 obtain ⟨m,hm⟩:=hm
 refine ⟨m,hm,fun h' sb=>⟨.ref D,H',?_,rfl,q⟩⟩
 exact I'.turned (t':=s'.toks) (fun b o hb e=>(sb.2 b hb).trans e) hn h2 (.inr h1) h3 h5
end
section
variable {X:Cx}{tg iter elt:Expr}{ifs:List Expr}{scope:Scope}{N':List Str}{ix:List (Option Nat)}{wi:TI}{g:TG}{tts:TT}{te:TE}
theorem uk {i:Nat}{x:Str}{pos pos' cpos:Pos} (N':List Str) (ix:List (Option Nat)) (hN:X.N.Nodup) (hi:X.N[i]?=some x) (hx:Loc X.env.scope x) (hc:X.calm=true) (hit:PI X tg iter wi)
  (blk:∀s H fp pn,PG (bK X N' scope s H fp pn) tg g/\PIf (bK X N' scope s H fp pn) ifs tts/\PE (bK X N' scope s H fp pn) elt te)
  (chk:jI X.env.scope X.N scope N' ix=true) (hsw:swapsWith (.ListComp elt [⟨tg,iter,ifs,0⟩] scope cpos) (some (.Name x pos')) pos.line X.env=pure true:=by rfl)
  (hs:∀x,foldedSetIterable iter X.env x=pure x:=by intro _;rfl) (hf:X.fn x=true\/X.env.scope.names.lookup x=some .local:=by first | exact .inl rfl | exact .inr rfl | assumption) :
  PS X (.Assign [.Name x pos'] (.ListComp elt [⟨tg,iter,ifs,0⟩] scope cpos) pos) (vN (pj ix wi g tts te) (dH i)):=by
 intro pins s σ H D I hw
 rw [exec_Assign_Name_used _ _ _ _ hsw]
 refine wpAny_bind (wpAny_standAt (wpAny_bind ?_))
 show wpAny _ X.A (do let _ <- comprehension (.ListComp elt [⟨tg,iter,ifs,0⟩] scope cpos) scope X.env _ (newList []) false (eval iter X.env) (some (assign (.Name x pos') X.env))) _ _ s
 refine wpAny_bind (thn (kK (use:=some (assign (.Name x pos') X.env)) (Qf:=fun _ s'=>SP X pins D .next s') hc (kH chk) hit blk hs I hw fun D' C H' s' I' q hm hn h1 h2 h3 h4 h5=>?_) fun _ s' q=>wpAny_pure (wpAny_pure q))
 obtain ⟨m,oC,es,ep,hoC,hdC,hrC⟩:=hm
 have Ip:Inv X (pins++[(C,oC)]) σ H' s':=I'.pins_of fun p hp=>(List.mem_append.mp hp).elim (fun z=>I'.pin p (List.mem_append_right _ z)) fun z=>by
  have e:p=(C,oC):=by simpa using z
  subst e
  exact ⟨hoC,hn,h2,h4,fun v z=>by rw [hdC] at z;cases z⟩
 refine wpAny_assign_Name (fb (v:=.ref D') Ip hN hi hx rfl (fun s2 I2=>?_) hf)
 have hC2:s2.heap.get? C=some oC:=(I2.pin (C,oC) (by simp)).1
 have I2':Inv X pins (σ.set i (some (.ref D'))) H' s2:=I2.pins_of fun p hp=>I2.pin p (List.mem_append_right _ (List.mem_append_left _ hp))
 refine ⟨m,⟨oC,es,ep,hC2,hdC,hrC⟩,fun h' sb=>⟨_,H',?_,q⟩⟩
 exact I2'.turned (t':=s2.toks) (fun b o hb e=>(sb.2 b hb).trans e) hn h2 (.inr h1) h3 h5
end
def sG (p:Addr) (a b c:Int):HO:=.ext fun h=>∃t u v,IsRange h p a b c t u v
def lD (a c:Int) (n:Nat):List V:=(List.range n).map fun (k:Nat)=>V.int (a + k * c)
theorem nC {a c:Int}{n:Nat}{acc:Array Value} (h:ItemsOf (fun i v=>∃t,v=.int (a + i * c) t) acc n):bp (lD a c n) acc.toList:=by
 obtain ⟨hn,hi⟩:=h
 have key:∀(m:Nat) (us:List Value) (f:Nat->Int),us.length=m->(∀i u,us[i]?=some u->∃t,u=Value.int (f i) t)->bp ((List.range m).map fun k=>V.int (f k)) us:=by
  intro m
  induction m with
  | zero=>intro us f hl _;rw [List.length_eq_zero_iff] at hl;subst hl;exact .nil
  | succ m ih =>
   intro us f hl hu
   cases us with
   | nil=>simp at hl
   | cons u r =>
    rw [List.range_succ_eq_map,List.map_cons,List.map_map]
    refine .cons (hu 0 u rfl) (ih r (fun k=>f (k + 1)) (by simpa using hl) fun i v e=>hu (i + 1) v (by simpa using e))
 refine key n acc.toList (fun k=>a + k * c) (by simpa using hn) fun i u e=>?_
 exact hi i u (by simpa using e)
theorem pq (a c:Int) (n:Nat):(lD a c n).length=n:=by simp [lD]
section
variable {X:Cx}
theorem rm {pins:List (Addr×Obj)}{σ:St}{H:Hp}{s:Shared}{a b c:Int}{t u v:Tok}{tk:Nat} (I:Inv X pins σ H s) :
  Inv X pins σ (upd H s.heap.objs.size (sG s.heap.objs.size a b c)) { s with heap:=s.heap.push { cls:=.type "range",data:=.fields #[.int a t,.int b u,.int c v] },toks:=tk }:=by
 refine I.laid (fun b o e=>Heap.get?_push_of_some _ e) (Nat.le_refl _) ⟨⟨t,u,v,IsRange.new ..⟩,⟨_,Heap.get?_push_size _ rfl⟩,fun h1 h2 ⟨t,u,v,z⟩ k=>⟨t,u,v,k _ z⟩⟩
theorem pz {a:Expr}{ta:TA}{p pos:Pos} (hg:Gl X "range") (hm:X.mg "range"=none) (ha:PA X [a] ta) (hs:starEach [a] X.env=[(false,eval a X.env)]:=by rfl) :
  PE X (.Call (.Name "range" p) [a] [] pos) (fun σ H Q=>ta σ H fun vs H1=>∃j:Int,vs=[.int j]/\∀p,H1 p=none->Q (.ref p) (upd H1 p (sG p 0 j 1))):=by
 intro pins s σ H Q I h
 refine Call_ (gO I hg hm boot_range (PyProof.Rows.callWith_type1 (thn (ha pos pins s σ H _ I h) fun us s1 ⟨vs,H1,I1,r1,q1⟩=>?_) hs rfl))
 obtain ⟨j,e,q⟩:=q1
 subst e
 cases r1 with
 | cons r rr =>
  cases rr
  obtain ⟨t,rfl⟩:=r
  exact call_range_1 ⟨.ref s1.heap.objs.size,_,rm I1,rfl,q _ (I1.hok.fresh (Nat.le_refl _))⟩
def yE (K:PySem.W.Frag) (mk:List V->HO):List V->Hp->VK->Prop:=fun xs H Q=>∃p a b c n,xs=[.ref p]/\H p=some (sG p a b c)/\Builtin.Range.small a b c=true/\Builtin.Range.rangeSize a b c=((n:Nat):Int)/\n<=1000000/\∀l,H l=none->Q (.ref l) (upd H l (mk (lD a c n)))
theorem nE (hc:X.calm=true):a9 X (.type "list") (yE X.K .lst):=by
 intro pins s σ H xs us Q I r h
 obtain ⟨p,a,b,c,n,rfl,hp,hsm,hsz,hn,q⟩:=h
 obtain ⟨u,rfl,rx⟩:=fc r
 cases rx
 obtain ⟨⟨t,u,v,hr⟩,_,_⟩:=(show aZ X.prog X.w H s.heap p (sG p a b c) from I.hok p _ hp)
 have hs:sizeLine=16777216:=sizeLine_eq
 refine call_list_range (I.ok.hd hc) hr hsm hsz (by omega) fun h' tk acc c' hk e hacc=>?_
 exact ⟨.ref s.heap.objs.size,_,I.laid (t':=tk) hk (Nat.le_refl _) (show aZ X.prog X.w _ h' _ (.lst (lD a c n)) from ⟨by rw [pq];omega,acc.toList,c',nC hacc,by simpa using e⟩),rfl,q _ (I.hok.fresh (Nat.le_refl _))⟩
end
def g7 (k:Bool) (h:Heap) (a:Addr) (its:Array Value):Prop:=∃o,h.get? a=some o/\o.cls=.type (cond k "tuple" "list")/\∃n,o.data=.seq its n
def fh (k:Bool) (h:Heap) (it a:Addr) (i:Nat):Prop:=∃o,h.get? it=some o/\o.cls=.type (cond k "tuple_iterator" "list_iterator")/\o.data=.fields #[.ref a,.int i 0]
theorem g7.mv {k:Bool}{h h':Heap}{a:Addr}{its:Array Value} (r:g7 k h a its) (f:∀o,h.get? a=some o->h'.get? a=some o):g7 k h' a its:=let ⟨o,e,q⟩:=r;⟨o,f o e,q⟩
theorem fh.mv {k:Bool}{h h':Heap}{it a:Addr}{i:Nat} (r:fh k h it a i) (f:∀o,h.get? it=some o->h'.get? it=some o):fh k h' it a i:=let ⟨o,e,q⟩:=r;⟨o,f o e,q⟩
section
variable {P:Program}{w:World}{A:Around}{E:Value->Shared->Prop}{s:Shared}{k:Bool}{it a:Addr}{i:Nat}{its:Array Value}
theorem kL {x:Value}{Q:Value->Shared->Prop} (W:s.heap.IsTupleIter it a i) (R:s.heap.IsTuple a its) (hx:its[i]?=some x)
  (hQ:∀h',h'.IsTupleIter it a (i + 1)->Heap.SameBut it s.heap h'->Q x { s with heap:=h' }):wpAny (model P w) A (Builtin.SmallTypes.nextOf (.ref it)) Q E s:=by
 have hT:=W.typeIs
 obtain ⟨o,ho,c,d⟩:=W
 obtain ⟨ol,hol,_,nl,dl⟩:=R
 unfold Builtin.SmallTypes.nextOf
 refine wpAny_bind (wpAny_callSpecial?_slot (name:=Str.ofString "__next__") hT F.slot_tuple_iterator_next (wpAny_call_entry F.slot_tuple_iterator_next hT F.entry_tuple_iterator_next ?_ (F.args_tuple_iterator_next_1 _)))
 refine wpAny_bind (m:=field (.ref it) 0) (wpAny_field ho d (x:=.ref a) rfl ?_)
 have nn:¬ ((Value.ref a == Value.none)=true):=Bool.false_ne_true
 show wpAny _ _ (if (Value.ref a == Value.none)=true then _ else _) _ _ s
 rw [if_neg nn]
 refine wpAny_bind (m:=field (.ref it) 1) (wpAny_field ho d (x:=.int i 0) rfl ?_)
 refine wpAny_bind (m:=seqItems? (.ref a)) (wpAny_seqItems hol dl ?_)
 simp only [Int.toNat_natCast,hx]
 exact wpAny_bind (wpAny_setField ho d (by simp) (wpAny_pure ⟨x,rfl,wpAny_pure (hQ _ ⟨_,Heap.get?_update_self _ ho (Obj.isFreed_of_fields (Obj.data_mapFields d _)),(Obj.cls_mapFields ..).trans c,by rw [Obj.data_mapFields d];simp [rawInt]⟩ (Heap.SameBut.update ..))⟩))
theorem lE {Q:Value->Shared->Prop} (hh:A.handled=none) (W:s.heap.IsTupleIter it a i) (R:s.heap.IsTuple a its) (hx:its[i]?=none)
  (hE:∀h' e,Heap.ExtBut it s.heap h'->(∃o,h'.get? e=some o/\o.cls=.type "StopIteration")->E (.ref e) { s with heap:=h' }):wpAny (model P w) A (Builtin.SmallTypes.nextOf (.ref it)) Q E s:=by
 have hT:=W.typeIs
 obtain ⟨o,ho,c,d⟩:=W
 obtain ⟨ol,hol,_,nl,dl⟩:=R
 unfold Builtin.SmallTypes.nextOf
 refine wpAny_bind (wpAny_callSpecial?_slot (name:=Str.ofString "__next__") hT F.slot_tuple_iterator_next (wpAny_call_entry F.slot_tuple_iterator_next hT F.entry_tuple_iterator_next ?_ (F.args_tuple_iterator_next_1 _)))
 refine wpAny_bind (m:=field (.ref it) 0) (wpAny_field ho d (x:=.ref a) rfl ?_)
 have nn:¬ ((Value.ref a == Value.none)=true):=Bool.false_ne_true
 show wpAny _ _ (if (Value.ref a == Value.none)=true then _ else _) _ _ s
 rw [if_neg nn]
 refine wpAny_bind (m:=field (.ref it) 1) (wpAny_field ho d (x:=.int i 0) rfl ?_)
 refine wpAny_bind (m:=seqItems? (.ref a)) (wpAny_seqItems hol dl ?_)
 simp only [Int.toNat_natCast,hx]
 refine wpAny_bind (wpAny_rule (wpAny_bind (wpAny_setField ho d (by simp) (wpAny_bind (m:=newExc (.type "StopIteration") []) ?_))))
 simp only [newExc,newTuple]
 refine wpAny_bind (wpAny_newObj_type (wpAny_bind (m:=firstArgMember _ _) (wpAny_of_eq (a:=Value.none) (by first | rfl | (simp only [firstArgMember];rfl)) (wpAny_newObj_type ?_ (by size_fits)))) (by size_fits))
 simp only [raiseNew]
 refine wpAny_bind (wpAny_handled ?_)
 first | rw [show A.in1.handled=none from hh] | rw [hh]
 exact wpAny_bind (wpAny_pure (wpAny_throw (hE _ _ (((Heap.SameBut.update ..).extBut.push _).push _) ⟨_,Heap.get?_push_size _ rfl,rfl⟩)))
theorem kM {x:Value}{Q:Value->Shared->Prop} (W:fh k s.heap it a i) (R:g7 k s.heap a its) (hx:its[i]?=some x)
  (hQ:∀h',fh k h' it a (i + 1)->Heap.SameBut it s.heap h'->Q x { s with heap:=h' }):wpAny (model P w) A (Builtin.SmallTypes.nextOf (.ref it)) Q E s:=by
 cases k with
 | false=>exact wpAny_nextOf_list_item W R hx hQ
 | true=>exact kL W R hx hQ
theorem g8 {Q:Value->Shared->Prop} (hh:A.handled=none) (W:fh k s.heap it a i) (R:g7 k s.heap a its) (hx:its[i]?=none)
  (hE:∀h' e,Heap.ExtBut it s.heap h'->(∃o,h'.get? e=some o/\o.cls=.type "StopIteration")->E (.ref e) { s with heap:=h' }):wpAny (model P w) A (Builtin.SmallTypes.nextOf (.ref it)) Q E s:=by
 cases k with
 | false=>exact wpAny_nextOf_list_end hh W R hx hE
 | true=>exact lE hh W R hx hE
end
def Sq (k:Bool) (K:PySem.W.Frag) (H:Hp) (a:Addr) (xs:List V):Prop:=cond k (SqT K H a xs) (SqL K H a xs)
section
variable {X:Cx}{pins:List (Addr×Obj)}{σ:St}{H:Hp}{s:Shared}{k l:Bool}{a b c:Addr}{xs ys:List V}
theorem Inv.row (I:Inv X pins σ H s) (h:Sq k X.K H a xs):∃its:List Value,bp xs its/\g7 k s.heap a its.toArray/\xs.length<=sizeLine:=by
 cases k with
 | false=>obtain ⟨its,r,p,z⟩:=I.list h;exact ⟨its,r,p.isList,z⟩
 | true=>obtain ⟨its,r,p,z⟩:=I.tuple h;exact ⟨its,r,p,z⟩
theorem Inv.row_inj (I:Inv X pins σ H s) (h:Sq k X.K H a xs) (h':Sq k X.K H a ys):xs=ys:=by
 cases k with
 | false=>exact I.list_inj h h'
 | true=>exact I.tuple_inj h h'
theorem pA {u:HO} (r:Rd H a u):∃v,H a=some v:=by
 rcases r with r | ⟨o,r⟩ <;> exact ⟨_,r⟩
theorem Inv.row_ne (I:Inv X pins σ H s) (h:Sq k X.K H a xs) (f:nY X pins H b):a≠b:=by
 have kk:∀o,X.K.lookup a=some o->a≠b:=fun o e z=>by
  have e1:=I.ok.mod.kin a o e
  rcases f.2.2.2.1 with q | q
  .exact I.ok.noex a o e1 (z ▸ q)
  .exact absurd (Nat.lt_of_lt_of_le (Heap.lt_size (I.ok.bs a o e1).1) (z ▸ q)) (Nat.lt_irrefl _)
 have hh:∀u,H a=some u->a≠b:=fun u e z=>by rw [z,f.1] at e;cases e
 cases k with
 | false =>
  rcases h with r | ⟨o,its,n,e,_⟩
  .obtain ⟨v,e⟩:=pA r;exact hh v e
  .exact kk o e
 | true =>
  rcases h with r | ⟨o,its,n,e,_⟩
  .obtain ⟨v,e⟩:=pA r;exact hh v e
  .exact kk o e
theorem Inv.yielded {h':Heap}{T:Addr}{zs:List V}{t':Nat}{ch:List Addr} (I:Inv X pins σ H s) (hf:∀b∈ch,nY X pins H b) (hT:s.heap.objs.size<=T)
  (kp:∀b o,b∉ch->s.heap.get? b=some o->h'.get? b=some o) (new:aZ X.prog X.w (upd H T (.tup zs)) h' T (.tup zs)):Inv X pins σ (upd H T (.tup zs)) { s with heap:=h',toks:=t' }:=by
 have hn:H T=none:=I.hok.fresh hT
 have nT:∀b u,H b=some u->b≠T:=fun b u e z=>by rw [z,hn] at e;cases e
 have oT:∀b o,s.heap.get? b=some o->b≠T:=fun b o e z=>absurd (Nat.lt_of_lt_of_le (Heap.lt_size e) (z ▸ hT)) (Nat.lt_irrefl _)
 have nc:∀b u,H b=some u->b∉ch:=fun b u e z=>by rw [(hf b z).1] at e;cases e
 refine I.step (g':=s.gens) (d':=s.drawn) (ch:=ch) (fun b hb=>⟨(hf b hb).2.2.2.1,(hf b hb).2.1,(hf b hb).2.2.2.2.1,(hf b hb).2.2.2.2.2⟩) (fun b o _ _ hc e _=>kp b o hc e) (fun b o _ _ hc e _=>⟨o.slots,kp b o hc e⟩)
  (fun b o _ e n=>by rw [ak (oT b o e)];exact n) (fun b o hc e=>⟨o,kp b o hc e⟩) (fun b xs e=>by rw [ak (nT b _ e)];exact e) (fun b o u e=>by rw [ak (nT b _ e)];exact e)
  (fun b ps e=>⟨#[],by rw [ak (nT b _ e),e];simp⟩) (fun m hm=>?_) (fun b u e=>?_) I.bare
 .obtain ⟨o,es,ep,ho,r⟩:=hm
  exact ⟨o,es,ep,kp _ o (fun z=>(hf _ z).2.1 rfl) ho,r⟩
 .by_cases hb:b=T
  .subst hb;rw [au] at e;cases e;exact new
  .rw [ak hb] at e
   refine (I.hok b u e).stay (fun c v hc q=>kp c v ?_ q) (fun c q=>by rw [ak (nT c _ q)];exact q) fun c xs q=>by rw [ak (nT c _ q)];exact q
   rcases hc with z | z
   .rw [z];exact nc b u e
   .exact nc c _ z
end
section
variable {P:Program}{w:World}{A:Around}{E:Value->Shared->Prop}{s:Shared}{k l:Bool}
abbrev lF (k:Bool) (a:Addr):Obj:={ cls:=.type (cond k "tuple_iterator" "list_iterator"),data:=.fields #[.ref a,.int 0 0] }
theorem fM {a:Addr}{its:Array Value}{Q:Value->Shared->Prop} (R:g7 k s.heap a its) (hQ:Q (.ref s.heap.objs.size) { s with heap:=s.heap.push (lF k a) }):wpAny (model P w) A (pyIter (.ref a)) Q E s:=by
 cases k with
 | false=>exact wpAny_pyIter_list R hQ
 | true=>exact wpAny_pyIter_tuple R hQ
end
def stA (a b:List Nat) (i:Nat):Bool:=decide (i + b.length<=a.length/\(a.drop i).take b.length=b)
def fnd (a b:List Nat) (lo:Nat):Int:=match (List.range' lo (a.length + 1 - lo)).find? (stA a b) with | some k=>(k:Int) | none=>-1
theorem kN (s sub:Str) (hi:Nat):∀(l:List Nat) (st:Array Nat×Nat),st.fst.size=1->(forIn l st (StrLaws.occBody s sub hi 1)).run.fst=st.fst
 | [],_,_=>rfl
 | x::l,st,h=>by
  rw [List.forIn_cons]
  unfold StrLaws.occBody
  rw [if_neg (fun z=>by have:=z.1.1.1;omega)]
  exact kN s sub hi l (st.fst,st.snd) h
theorem kO (s sub:Str) (hi:Nat) (p:Nat->Bool) (hp:∀i,p i=true ↔ (i + sub.length<=hi/\Builtin.Str.subAt s sub i=true)):∀(l:List Nat) (free:Nat),(∀i∈l,free<=i) ->
  (forIn l ((#[]:Array Nat),free) (StrLaws.occBody s sub hi 1)).run.fst=(match l.find? p with | some k=>#[k] | none=>#[])
 | [],_,_=>rfl
 | x::l,free,hf=>by
  rw [List.forIn_cons,List.find?_cons]
  unfold StrLaws.occBody
  have hx:free<=x:=hf x (List.mem_cons_self ..)
  cases c:p x with
  | true =>
   have hc:=(hp x).mp c
   rw [if_pos ⟨⟨⟨by simp,hx⟩,hc.1⟩,hc.2⟩]
   exact kN s sub hi l (#[x],x + sub.length) rfl
  | false =>
   rw [if_neg (fun z=>by
    have:=(hp x).mpr ⟨z.1.2,z.2⟩
    rw [c] at this;cases this)]
   exact kO s sub hi p hp l free fun i h=>hf i (List.mem_cons_of_mem _ h)
theorem ul (a b:List Nat) (i:Nat):Builtin.Str.subAt (S a) (S b) i=decide ((a.drop i).take b.length=b):=by
 unfold Builtin.Str.subAt
 rw [dJ]
 have e1:((S a).cps.extract i (i + b.length))=((a.drop i).take b.length).toArray:=by
  show a.toArray.extract _ _=_
  rw [List.extract_toArray,List.extract_eq_take_drop]
  congr 2
  omega
 rw [e1]
 show (((a.drop i).take b.length).toArray == b.toArray)=_
 by_cases h:(a.drop i).take b.length=b
 .rw [decide_eq_true h,h];simp
 .rw [decide_eq_false h,beq_eq_false_iff_ne]
  intro z
  exact h (by simpa using congrArg Array.toList z)
theorem pD (a b:List Nat) (lo:Nat):(match Builtin.Str.occurrences (S a) (S b) lo (S a).length 1 with | k::_=>(k:Int) | []=>-1)=fnd a b lo:=by
 rw [StrLaws.occ_eq,dJ,kO (S a) (S b) a.length (stA a b) (fun i=>?_) _ lo (fun i hi=>(List.mem_range'_1.mp hi).1)]
 .unfold fnd
  cases (List.range' lo (a.length + 1 - lo)).find? (stA a b) <;> rfl
 .unfold stA
  rw [ul,dJ]
  simp
section
variable {X:Cx}
theorem rn:MtR X "str.find" (fun x xs H Q=>∃a b,x=.str (S a)/\xs=[.str (S b)]/\Q (.int (fnd a b 0)) H):=by
 intro pins s σ H x xs v us Q I rx rs h
 obtain ⟨a,b,rfl,rfl,q⟩:=h
 obtain ⟨t,rfl⟩:=rx
 obtain ⟨u,rfl,t',rfl⟩:=fc rs
 have e:Txt.find (S a) (S b)=fnd a b 0:=pD a b 0
 exact SC.find ⟨.int _,H,I.tok _,⟨_,rfl⟩,by rw [e];exact q⟩
end
theorem mx {a b:List Nat}{lo:Nat} (h:fnd a b lo≠-1):∃k:Nat,fnd a b lo=(k:Int)/\lo<=k/\stA a b k=true/\∀j,lo<=j->j < k->stA a b j=false:=by
 unfold fnd at h ⊢
 cases e:(List.range' lo (a.length + 1 - lo)).find? (stA a b) with
 | none=>rw [e] at h;exact absurd rfl h
 | some k =>
  obtain ⟨h1,h2⟩:=List.find?_eq_some_iff_append.mp e
  obtain ⟨as,bs,hl,hn⟩:=h2
  have hk:k∈List.range' lo (a.length + 1 - lo):=by rw [hl];simp
  refine ⟨k,rfl,(List.mem_range'_1.mp hk).1,h1,fun j hj1 hj2=>?_⟩
  have hj:j∈List.range' lo (a.length + 1 - lo):=List.mem_range'_1.mpr ⟨hj1,by have:=(List.mem_range'_1.mp hk).2;omega⟩
  have hs:(List.range' lo (a.length + 1 - lo)).Pairwise (· < ·):=List.pairwise_lt_range'
  rw [hl] at hj hs
  rcases List.mem_append.mp hj with z | z
  .have:=hn j z
   simpa using this
  .rcases List.mem_cons.mp z with z | z
   .omega
   .have:=(List.pairwise_cons.mp (List.pairwise_append.mp hs).2.1).1 j z
    omega
theorem rp {a b:List Nat}{lo:Nat} (h:fnd a b lo=-1):∀j,lo<=j->stA a b j=false:=by
 unfold fnd at h
 cases e:(List.range' lo (a.length + 1 - lo)).find? (stA a b) with
 | some k=>rw [e] at h;simp only at h;omega
 | none =>
  intro j hj
  by_cases hlt:j < a.length + 1
  .have:=List.find?_eq_none.mp e j (List.mem_range'_1.mpr ⟨hj,by omega⟩)
   simpa using this
  .unfold stA
   rw [decide_eq_false (fun z=>by have:=z.1;omega)]
section
variable {X:Cx}{tg:Expr}
def Itk (k:Bool) (K:PySem.W.Frag) (a:Addr):It:=cond k (Itt K a) (Itl K a)
def wZ (K:PySem.W.Frag):R2:=fun x y H Q=>∃l b xs zs,x=.ref l/\y=.ref b/\SqL K H l xs/\SqL K H b zs/\xs.length + zs.length<=sizeLine/\∀p,H p=none->Q (.ref p) (upd H p (.lst (xs++zs)))
theorem um:OpR X (binaryOp .Add) (wZ X.K):=by
 intro pins s σ H x y v u Q I rx ry h
 obtain ⟨l,b,xs,zs,rfl,rfl,hH,hB,hz,q⟩:=h
 cases rx
 cases ry
 obtain ⟨its,r,pl,hl⟩:=I.list hH
 obtain ⟨its2,r2,pl2,hl2⟩:=I.list hB
 obtain ⟨⟨cls,dd,data,sl⟩,ho,hc,n,hd⟩:=pl.isList
 obtain ⟨⟨cls2,dd2,data2,sl2⟩,ho2,hc2,n2,hd2⟩:=pl2.isList
 simp only at hc hd hc2 hd2
 subst hc hd hc2 hd2
 have n1:=r.length
 have n2':=r2.length
 have ea:its.toArray++its2.toArray=(its++its2).toArray:=by simp
 have fin:EP X pins σ Q (.ref s.heap.objs.size) { s with heap:=s.heap.push { cls:=.type "list",data:=.seq (its.toArray++its2.toArray) } }:=by
  rw [ea]
  exact ⟨.ref _,_,I.lnew (t':=s.toks) (r.append r2) (by rw [List.length_append];omega),rfl,q _ I.fresh⟩
 exact concat_meets ⟨_,ho,rfl⟩ ⟨_,ho2,rfl⟩ noFill_list_add seq_list_add PySem.F.slot_list_add PySem.F.entry_list_add (PySem.F.args_list_add_2 _ _) (list_addW l b its.toArray its2.toArray n n2 dd dd2 sl sl2 (by simp;omega)) ⟨ho,ho2,fin⟩
end
def tx (l:List Nat):V:=.str (S l)
def lG (n:Nat) (d:PyData):Prop:=d.canLay0=true/\d.depth<=n
theorem lG.shaped {n:Nat}{d:PyData} (h:lG n d) (hn:n<=64):SeqAt.shaped d=true:=by
 unfold SeqAt.shaped
 rw [h.1,decide_eq_true (Nat.le_trans h.2 hn)];rfl
theorem lH {n:Nat}:∀{ds:List PyData},(∀d∈ds,lG n d)->PyData.canLayAll0 ds=true/\PyData.depthAll ds<=n
 | [],_=>⟨rfl,Nat.zero_le _⟩
 | d::ds,h=>by
  obtain ⟨a,b⟩:=lH (ds:=ds) fun x hx=>h x (List.mem_cons_of_mem _ hx)
  obtain ⟨c,e⟩:=h d List.mem_cons_self
  simp only [PyData.canLayAll0,PyData.depthAll,a,c]
  exact ⟨rfl,Nat.max_le.mpr ⟨e,b⟩⟩
theorem lG.list {n:Nat}{ds:List PyData} (h:∀d∈ds,lG n d):lG (n + 1) (.list ds):=by
 obtain ⟨a,b⟩:=lH h
 exact ⟨by simp only [PyData.canLay0];exact a,by simp only [PyData.depth];omega⟩
theorem lG.tuple {n:Nat}{ds:List PyData} (h:∀d∈ds,lG n d):lG (n + 1) (.tuple ds):=by
 obtain ⟨a,b⟩:=lH h
 exact ⟨by simp only [PyData.canLay0];exact a,by simp only [PyData.depth];omega⟩
def Lts (l:List Nat):Prop:=∀c∈l,97<=c/\c<=122
theorem Lts.nil:Lts []:=fun c h=>nomatch h
theorem Lts.app {a b:List Nat} (x:Lts a) (y:Lts b):Lts (a++b):=fun c h=>(List.mem_append.mp h).elim (x c) (y c)
theorem Lts.one {c:Nat} (h:97<=c/\c<=122):Lts [c]:=fun d hd=>by
 have:d=c:=by simpa using hd
 subst this;exact h
theorem Lts.take {a:List Nat} (x:Lts a) (n:Nat):Lts (a.take n):=fun c h=>x c (List.mem_of_mem_take h)
theorem Lts.drop {a:List Nat} (x:Lts a) (n:Nat):Lts (a.drop n):=fun c h=>x c (List.mem_of_mem_drop h)
theorem Lts.cut {a:List Nat} (x:Lts a) (lo hi:Option Int):Lts (cW a lo hi):=(x.drop _).take _
theorem Lts.rep {a:List Nat} (x:Lts a) (n:Int):Lts (kG a n):=fun c h=>by
 unfold kG at h
 obtain ⟨l,h1,h2⟩:=List.mem_flatten.mp h
 rw [List.eq_of_mem_replicate h1] at h2
 exact x c h2
theorem lG.str {l:List Nat} (h:Lts l):lG 0 (.str (S l)):=by
 refine ⟨?_,by simp [PyData.depth]⟩
 simp only [PyData.canLay0,PyData.strOk,S]
 rw [Array.all_eq_true]
 intro i hi
 have:=h l[i] (List.getElem_mem _)
 simp only [List.getElem_toArray,decide_eq_true_eq]
 omega
theorem je {ws:List (List Nat)} (h:∀w∈ws,Lts w):∀d∈ws.map (fun w=>PyData.str (S w)),lG 0 d:=fun d hd=>by
 obtain ⟨i,hi,rfl⟩:=List.mem_map.mp hd
 exact lG.str (h i hi)
theorem kP {ws:List (List Nat)} (h:∀w∈ws,Lts w):SeqAt.shaped (.list (ws.map fun w=>PyData.str (S w)))=true:=(lG.list (je h)).shaped (by decide)
theorem rq {d:PyData} (h:SeqAt.shaped d=true):PyData.eqv d d=true:=SeqAt.eqv_refl d (SeqAt.canLay_of_shaped h)
theorem g9 (p:Nat->Prop) (h0:p 0):∀n,0 < n->∃k,k < n/\p k/\∀j,j < n->p j->j<=k
 | 0,h=>absurd h (by decide)
 | 1,_=>⟨0,by decide,h0,fun j hj _=>by omega⟩
 | n + 2,_=>by
  obtain ⟨k,h1,h2,h3⟩:=g9 p h0 (n + 1) (by omega)
  by_cases c:p (n + 1)
  .exact ⟨n + 1,by omega,c,fun j hj _=>by omega⟩
  .refine ⟨k,by omega,h2,fun j hj hp=>?_⟩
   by_cases e:j=n + 1
   .subst e;exact absurd hp c
   .exact h3 j (by omega) hp
section
variable {κ:Type} [DecidableEq κ]
def pE (kvs:List (κ×V)) (k:κ) (v:V):List (κ×V) :=
 if (kvs.any fun kv=>decide (kv.1=k))=true then kvs.map (fun kv=>if kv.1=k then (kv.1,v) else kv) else kvs++[(k,v)]
theorem lI (kvs:List (κ×V)) (k:κ) (v:V):(pE kvs k v).length<=kvs.length + 1:=by
 unfold pE
 split
 .rw [List.length_map];omega
 .rw [List.length_append,List.length_cons,List.length_nil];omega
theorem KV.any {kvs:List (κ×V)}{vs:List (κ×Value)} (r:KV kvs vs) (k:κ):(kvs.any fun kv=>decide (kv.1=k))=vs.any fun kv=>decide (kv.1=k):=by
 unfold KV at r
 induction r with
 | nil=>rfl
 | cons h t ih=>rw [List.any_cons,List.any_cons,ih,h.1]
theorem KV.repl {kvs:List (κ×V)}{vs:List (κ×Value)} (r:KV kvs vs) (k:κ) {y:V}{u:Value} (ry:bR y u) :
  KV (kvs.map fun kv=>if kv.1=k then (kv.1,y) else kv) (vs.map fun kv=>if kv.1=k then (kv.1,u) else kv):=by
 unfold KV at r ⊢
 induction r with
 | nil=>exact .nil
 | @cons p q ps qs h t ih =>
  rw [List.map_cons,List.map_cons]
  refine .cons ?_ ih
  obtain ⟨h1,h2⟩:=h
  by_cases e:p.1=k
  .rw [if_pos e,if_pos (h1.symm.trans e)];exact ⟨h1,ry⟩
  .rw [if_neg e,if_neg (fun z=>e (h1.trans z))];exact ⟨h1,h2⟩
theorem KV.put {kvs:List (κ×V)}{vs:List (κ×Value)} (r:KV kvs vs) (k:κ) {y:V}{u:Value} (ry:bR y u):KV (pE kvs k y) (stored vs k u):=by
 unfold pE stored
 rw [r.any k]
 by_cases e:(vs.any fun kv=>decide (kv.1=k))=true
 .rw [if_pos e,if_pos e];exact r.repl k ry
 .rw [if_neg e,if_neg e];exact Paired.snoc r ⟨rfl,ry⟩
theorem KV.length {kvs:List (κ×V)}{vs:List (κ×Value)} (r:KV kvs vs):kvs.length=vs.length:=Paired.length r
end
theorem yF {P:Program}{w:World}{k:Key}{u:Value} (r:bR (kV k) u):(cp P w).is k u=true:=by
 cases k with
 | inl i=>obtain ⟨t,e⟩:=(show ∃t,u=Value.int i t from r);subst e;exact lv P w i t
 | inr x=>obtain ⟨t,e⟩:=(show ∃t,u=Value.str x t from r);subst e;exact lw P w x t
section
variable {P:Program}{w:World}{H:Hp}{h:Heap}{a:Addr}
theorem yG {u:HO} (ok:HOk P w H h) (e:Rd H a u):aZ P w H h a u:=e.ok ok
theorem w4 {kvs:List (Key×V)} (ok:HOk P w H h) (e:Rd H a (.dK kvs)):kvs.length<=sizeLine/\(a == sysModules)=false/\∃vs,KV kvs vs/\h.DictOf (cp P w) a vs :=
 show aZ P w H h a (.dK kvs) from yG ok e
theorem yH {kvs:List (Key×V)} (ok:HOk P w H h) (e:H a=some (.dK kvs)):kvs.length<=sizeLine/\(a == sysModules)=false/\∃vs,KV kvs vs/\h.DictOf (cp P w) a vs:=w4 ok (.inl e)
end
section
variable {X:Cx}{pins:List (Addr×Obj)}{σ:St}{H:Hp}{s:Shared}{a:Addr}{y v:V}{u r:Value}{o:Option V}{A:Around}{E:Value->Shared->Prop}
theorem Inv.big (I:Inv X pins σ H s):sysModules < s.heap.objs.size:=by
 have h:mainGlobals < s.heap.objs.size:=(I.mod.glob.keeps I.bk).lt
 exact Nat.lt_trans (by decide) h
theorem uo {h':Heap}{t':Nat}{ob:HO} (I:Inv X pins σ H s) (mu:Mut (H a)) (hs:Heap.SameBut a s.heap h') (he:∃q,h'.get? a=some q) (new:aZ X.prog X.w (upd H a ob) h' a ob) :
  Inv X pins σ (upd H a ob) { s with heap:=h',toks:=t' } :=
 I.write (x:=a) (e:=a) mu (.inl rfl) (fun b q hb z=>(hs.2 b hb).trans z) he new
theorem w6 {P:Program}{w:World}{H':Hp}{h':Heap}{kvs:List (Key×V)}{vs:List (Key×Value)} (z:kvs.length<=sizeLine) (hd:(a == sysModules)=false) (rel:KV kvs vs) (dd:h'.DictOf (cp P w) a vs) :
  aZ P w H' h' a (.dK kvs):=⟨z,hd,vs,rel,dd⟩
end
section
variable {X:Cx}{pins:List (Addr×Obj)}{σ:St}{H:Hp}{s:Shared}{a:Addr}{kvs:List (Key×V)}{k:Key}{u:Value}{A:Around}{E:Value->Shared->Prop}
theorem yI {Q:Value->Shared->Prop} (I:Inv X pins σ H s) (e:Rd H a (.dK kvs)) (h:∀t s',Inv X pins σ H s'->Q (.int kvs.length t) s'):wpAny (model X.prog X.w) A (call (.builtin "len") [.ref a]) Q E s:=by
 obtain ⟨z,hd,vs,rel,dd⟩:=w4 I.hok e
 refine call_len_dict hd dd (by rw [<- rel.length];rw [sizeLine_eq] at z;omega) ?_
 rw [<- rel.length]
 exact h _ _ (I.tok _)
end
theorem my {P:Program}{w:World}{H:Hp} (h:Heap) (hb:sysModules < h.objs.size):aZ P w H (h.push { cls:=.type "dict",data:=.dict #[] }) h.objs.size (.dK []) :=
 ⟨Nat.zero_le _,beq_eq_false_iff_ne.mpr (Ne.symm (Nat.ne_of_lt hb)),[],.nil,Heap.DictOf.new h⟩
def sH:TE:=fun _ H Q=>∀p,H p=none->Q (.ref p) (upd H p (.dK []))
section
variable {X:Cx}{pos:Pos}
theorem rz:PE X (.Dict [] [] pos) sH:=fun pins s σ H Q I h =>
 wpAny_Dict_empty ⟨.ref s.heap.objs.size,_,I.laid (a:=s.heap.objs.size) (o:=.dK []) (t':=s.toks) (fun _ _ q=>Heap.get?_push_of_some _ q) (Nat.le_refl _) (my s.heap I.big),rfl,h _ (I.hok.fresh (Nat.le_refl _))⟩
end
def mz:List (TE×TE)->St->Hp->(List (V×V)->Hp->Prop)->Prop
 | [],_,H,Q=>Q [] H
 | (tk,tv)::r,σ,H,Q=>tk σ H fun x H1=>tv σ H1 fun y H2=>mz r σ H2 fun ps H3=>Q ((x,y)::ps) H3
abbrev VV:List (V×V)->List (Value×Value)->Prop:=Paired fun p q=>bR p.1 q.1/\bR p.2 q.2
def PPs (X:Cx) (pos:Pos) (keys:List (Option Expr)) (values:List Expr) (trs:List (TE×TE)):Prop :=
 ∀(pins:List (Addr×Obj)) (s:Shared) (σ:St) (H:Hp) (Q:List (V×V)->Hp->Prop),Inv X pins σ H s->mz trs σ H Q ->
  wpAny (model X.prog X.w) X.A (evalPairs (pairTrees keys values X.env pos)) (fun vs s'=>∃ps H',Inv X pins σ H' s'/\VV ps vs/\Q ps H') X.xe s
theorem up {X:Cx}{pos:Pos}:PPs X pos [] [] []:=fun pins s σ H Q I h=>pairTrees_nil_walk ⟨[],H,I,.nil,h⟩
theorem rA {X:Cx}{pos:Pos}{k v:Expr}{ks:List (Option Expr)}{vs:List Expr}{tk tv:TE}{trs:List (TE×TE)} (hk:PE X k tk) (hv:PE X v tv) (hr:PPs X pos ks vs trs) :
  PPs X pos (some k::ks) (v::vs) ((tk,tv)::trs):=fun pins s σ H Q I h =>
 pairTrees_cons_walk (thn (hk pins s σ H _ I h) fun u s1 ⟨x,H1,I1,rx,q1⟩=>thn (hv pins s1 σ H1 _ I1 q1) fun w2 s2 ⟨y,H2,I2,ry,q2⟩ =>
  thn (hr pins s2 σ H2 _ I2 q2) fun ws s3 ⟨ps,H3,I3,rel,q3⟩=>⟨(x,y)::ps,H3,I3,.cons ⟨rx,ry⟩ rel,q3⟩)
def gm (kvs more:List (Key×V)):List (Key×V):=more.foldl (fun acc kv=>pE acc kv.1 kv.2) kvs
theorem KV.merge:∀{more:List (Key×V)}{rs:List (Key×Value)}{kvs:List (Key×V)}{vs:List (Key×Value)},KV more rs->KV kvs vs->KV (gm kvs more) (merged vs rs):=by
 intro more rs kvs vs r
 unfold KV at r
 induction r generalizing kvs vs with
 | nil=>intro q;exact q
 | @cons p q ps qs h t ih =>
  intro r0
  have e:KV (pE kvs p.1 p.2) (stored vs q.1 q.2):=by
   have:=r0.put p.1 h.2
   rw [<- h.1];exact this
  exact ih e
theorem fi:∀(more kvs:List (Key×V)),(gm kvs more).length<=kvs.length + more.length
 | [],kvs=>by show kvs.length<=kvs.length + 0;omega
 | p::r,kvs=>by
  have h1:=fi r (pE kvs p.1 p.2)
  have h2:=lI kvs p.1 p.2
  show (gm (pE kvs p.1 p.2) r).length<=_
  rw [List.length_cons];omega
theorem jf {P:Program}{w:World}:∀{kvs:List (Key×V)}{ws:List (Value×Value)},VV (kvs.map fun kv=>(kV kv.1,kv.2)) ws->∃rs,Carries (cp P w) ws rs/\KV kvs rs
 | [],_,r=>by rw [List.map_nil] at r;cases r;exact ⟨[],True.intro,.nil⟩
 | p::kvs,_,r=>by
  rw [List.map_cons] at r
  cases r with
  | @cons a b as bs h t =>
   obtain ⟨rs,c,q⟩:=jf (P:=P) (w:=w) t
   obtain ⟨b1,b2⟩:=b
   exact ⟨(p.1,b2)::rs,⟨yF h.1,rfl,c⟩,.cons ⟨rfl,h.2⟩ q⟩
def w9 (trs:List (TE×TE)):TE:=fun σ H Q=>∀p,H p=none->mz trs σ (upd H p (.dK [])) fun ps H2=>H2 p=some (.dK [])/\∃kvs:List (Key×V),ps=kvs.map (fun kv=>(kV kv.1,kv.2))/\kvs.length<=15/\Q (.ref p) (upd H2 p (.dK (gm [] kvs)))
theorem uq {X:Cx}{pos:Pos}{keys:List (Option Expr)}{values:List Expr}{trs:List (TE×TE)} (h:PPs X pos keys values trs) (hall:keys.all (·.isSome)=true) (hl:keys.length=values.length) (h0:keys≠[])
  (h15:keys.length<=15):PE X (.Dict keys values pos) (w9 trs):=by
 intro pins s σ H Q I q
 have hn:=I.hok.fresh (Nat.le_refl s.heap.objs.size)
 have I1:=I.laid (a:=s.heap.objs.size) (o:=.dK []) (h':=s.heap.push { cls:=.type "dict",data:=.dict #[] }) (t':=s.toks) (fun _ _ q=>Heap.get?_push_of_some _ q) (Nat.le_refl _) (my s.heap I.big)
 refine wpAny_Dict_walk (knd:=cp X.prog X.w) hall hl h0 h15 (thn (h pins _ σ _ _ I1 (q _ hn)) fun ws s2 ⟨ps,H2,I2,rel,e,kvs,ep,lk,q2⟩=>?_)
 subst ep
 obtain ⟨rs,c,rk⟩:=jf (P:=X.prog) (w:=X.w) rel
 obtain ⟨z,hd,vs0,r0,dd⟩:=yH I2.hok e
 cases r0
 refine ⟨rs,c,dd,fun h' dd' hs=>⟨.ref s.heap.objs.size,_,?_,rfl,q2⟩⟩
 have hz:(gm [] kvs).length<=sizeLine:=by
  have h1:=fi kvs []
  rw [List.length_nil] at h1
  rw [sizeLine_eq];omega
 have he:∃q,h'.get? s.heap.objs.size=some q:=let ⟨q,_,_,hq,_⟩:=dd';⟨q,hq⟩
 exact uo I2 (by rw [e];exact True.intro) hs he (w6 hz hd (rk.merge .nil) dd')
section
variable {X:Cx}
theorem jL {x:Str}{i:Int}{pos:Pos} (hg:Gl X x) (h:∃t,X.mg x=some (.int i t)) (hd:(x == ("__debug__":Str))=false:=by decide):PE X (.Name x pos) (tC (.int i)):=by
 obtain ⟨t,e⟩:=h
 exact tP (u:=.int i t) hg e ⟨t,rfl⟩ hd
end
structure xb (P:Program) (w:World) (K:PySem.W.Frag) (mg:Str->Option Value) (base:Heap) (k:Nat) (x:Str) (ps:List Str) (dvs:List V) (sp:Sp):Prop where
 ex:∃(f:Addr) (fd:FuncData),jb P w K mg base CX0 k f fd ps sp/\(∀n,n<=dvs.length->∃ds,bp (dvs.drop n) ds/\fK K fd ps ds)/\PySem.W.keepIn K (.ref f)=true/\mg x=some (.ref f)
structure mB (K:PySem.W.Frag) (mg:Str->Option Value) (x:Str) (st:Stmt) (dvs:List V):Prop where
 ex:∃(f dT:Addr) (oc:Value) (od an dd:Option Addr) (kV doc pm cdv ct:Value) (osl sl:Array (Option Value)) (items:List Value) (n:Nat),
  K.lookup f=some ⟨oc,od,.func (PySem.W.fnOf x x (a6 st) (aQ st) (ah st) (.ref dT) kV doc pm an cdv ct),osl⟩/\PySem.W.codeIn K cdv x=true/\PySem.W.keepIn K (.ref f)=true/\mg x=some (.ref f) /\
  K.lookup dT=some ⟨.type "tuple",dd,.seq items.toArray n,sl⟩/\bp dvs items
section
variable {P:Program}{w:World}{K:PySem.W.Frag}{mg:Str->Option Value}{base:Heap}{x:Str}{st:Stmt}{N ps:List Str}{k:Nat}{sp:Sp}{dvs:List V}
theorem mB.ok (D:mB K mg x st dvs) (S:aI N ps (ah st))
  (hb:∀(dT:Addr) (kV doc pm:Value) (an:Option Addr) (cdv ct:Value) (items:List Value) (us:List Value) (n:Nat),items.length=dvs.length->n<=dvs.length->(us++items.drop n).length=ps.length ->
   ∃k,bindArgs (PySem.W.fnOf x x (a6 st) (aQ st) (ah st) (.ref dT) kV doc pm an cdv ct) ⟨us,[]⟩=seqItems? (.ref dT) >>= k/\k (some items.toArray)=pure (ps.zip (us++items.drop n)))
  (len:∀vs H Q E,sp vs H Q E->vs.length=ps.length)
  (hbody:∀(f:Addr) (cdv:Value) (A:Around) (outer:List Env) (s:Shared) (H:Hp) (vs:List V) (Q:VK) (E:XK),c4 k (A.deeper (envOfC x (ah st) s.heap.objs.size f cdv))->sp vs H Q E ->
   ∃t,PSs (kf CX0 P w K mg base N x (ah st) f cdv A outer s H E).nox (aQ st) t/\t { nx:=fun _ H'=>Q .non H',rt:=Q } (start N vs) H):xb P w K mg base (k + 1) x ps dvs sp:=by
 obtain ⟨f,dT,oc,od,an,dd,kV,doc,pm,cdv,ct,osl,sl,items,n,lk,hcd,kp,hm,lt,rv⟩:=D.ex
 have hl:=rv.length
 refine ⟨f,_,q0 lk hcd S len fun A outer s H vs Q E hr hsp=>?_,fun j hj=>⟨items.drop j,rv.drop j,fun s us X hlen=>?_⟩,kp,hm⟩
 .obtain ⟨t,h,q⟩:=hbody f cdv A outer s H vs Q E hr hsp
  exact ⟨t,h.nox,q⟩
 .obtain ⟨k,h1,h2⟩:=hb dT kV doc pm an cdv ct items us j hl.symm hj hlen
  exact BindsTo.of_defaults rfl (X dT _ lt) rfl h1 h2
end
section
variable {X:Cx}{k:Nat}{x:Str}{ps:List Str}{sp:Sp}{p pos:Pos}{e:Expr}{es:List Expr}{t:TA}{dvs:List V}
theorem ur (j:Nat) (C:xb X.prog X.w X.K X.mg X.base k x ps dvs sp) (hr:c4 k X.A) (hj:j<=dvs.length) (ha:PA X (e::es) t) (hg:Gl X x:=by rfl) (hdb:(x == ("__debug__":Str))=false:=by decide) (he:starEach (e::es) X.env=(false,eval e X.env)::starEach es X.env:=by rfl)
  (hpl:(backTo pos (starEach es X.env)).any (·.1)=false:=by rfl):PE X (.Call (.Name x p) (e::es) [] pos) (dI sp (dvs.drop j) E0 t):=by
 obtain ⟨f,fd,F,hb,hk,hm⟩:=C.ex
 obtain ⟨ds,rv,hb⟩:=hb j hj
 exact oG F hr hg hm hk hb rv ue ha hdb he hpl
theorem jM (bs:List Bool):(List.range bs.length).all (fun i=>bs.getD i false)=bs.all id:=by
 induction bs with
 | nil=>rfl
 | cons b bs ih=>rw [List.length_cons,List.range_succ_eq_map,List.all_cons,List.all_map,List.all_cons,<- ih];rfl
theorem jN (bs:List Bool):(List.range bs.length).any (fun i=>bs.getD i false)=bs.any id:=by
 induction bs with
 | nil=>rfl
 | cons b bs ih=>rw [List.length_cons,List.range_succ_eq_map,List.any_cons,List.any_map,List.any_cons,<- ih];rfl
theorem pF {bs:List Bool}{its:List Value} (r:bp (bs.map V.bl) its) {i:Nat}{v:Value} (h:its.toArray[i]?=some v):v=.bool (bs.getD i false):=by
 have h':its[i]?=some v:=by simpa using h
 have hl:=r.length
 rw [List.length_map] at hl
 have hi:i < bs.length:=by have:=(List.getElem?_eq_some_iff.mp h').1;omega
 obtain ⟨u,e1,e2⟩:=r.get (i:=i) (x:=V.bl bs[i]) (by rw [List.getElem?_map,List.getElem?_eq_getElem hi];rfl)
 rw [h'] at e1
 cases e1
 rw [show v=Value.bool bs[i] from e2,List.getD_eq_getElem?_getD,List.getElem?_eq_getElem hi];rfl
theorem rB (hc:X.calm=true):a9 X (.builtin "all") (fun xs H Q=>∃(p:Addr) (bs:List Bool),xs=[.ref p]/\SqL X.K H p (bs.map V.bl)/\Q (.bl (bs.all id)) H):=by
 intro pins s σ H xs us Q I r h
 obtain ⟨p,bs,rfl,hS,q⟩:=h
 obtain ⟨u,rfl,ru⟩:=fc r
 cases (show u=Value.ref p from ru)
 obtain ⟨its,rv,pl,hz⟩:=I.list hS
 have hl:=rv.length
 rw [List.length_map] at hl
 have hps:p < s.heap.objs.size:=let ⟨o,ho,_⟩:=pl.isList;Heap.lt_size ho
 obtain ⟨f0,f1,f2,f3,f4,f5⟩:=I.fpOk (H':=H) (Nat.le_refl s.heap.objs.size) (I.hok.fresh (Nat.le_refl _))
 refine call_all_walk (wpAny_pyIter_list pl.isList ⟨s.heap.objs.size,_,_,its.toArray.size,_,_,fun i=>bs.getD i false,rfl,Walks.list (by exact I.ok.hd hc) s.heap.objs.size p (Nat.ne_of_lt hps) its.toArray,⟨⟨_,Heap.get?_push_size _ rfl,rfl,rfl⟩,pl.isList.push _⟩,fun i v s Q E hP hQ=>?_,fun h' tk hk=>?_⟩)
 .rw [pF rv hP];exact wpAny_truthy_bool hQ
 .have I1:Inv X pins σ H { s with heap:=s.heap.push { cls:=.type "list_iterator",data:=.fields #[.ref p,.int 0 0] } }:=I.kept (t':=s.toks) fun b o e=>Heap.get?_push_of_some _ e
  have I2:=I1.turned (h':=h') (t':=tk) (it:=s.heap.objs.size) (fun b o hb e=>hk b o (by simpa using hb) e) f0 f1 f3 f4 f5
  refine ⟨.bl (bs.all id),H,I2,?_,q⟩
  show Value.bool _=Value.bool _
  rw [List.size_toArray,<- hl,jM]
theorem rC (hc:X.calm=true):a9 X (.builtin "any") (fun xs H Q=>∃(p:Addr) (bs:List Bool),xs=[.ref p]/\SqL X.K H p (bs.map V.bl)/\Q (.bl (bs.any id)) H):=by
 intro pins s σ H xs us Q I r h
 obtain ⟨p,bs,rfl,hS,q⟩:=h
 obtain ⟨u,rfl,ru⟩:=fc r
 cases (show u=Value.ref p from ru)
 obtain ⟨its,rv,pl,hz⟩:=I.list hS
 have hl:=rv.length
 rw [List.length_map] at hl
 have hps:p < s.heap.objs.size:=let ⟨o,ho,_⟩:=pl.isList;Heap.lt_size ho
 obtain ⟨f0,f1,f2,f3,f4,f5⟩:=I.fpOk (H':=H) (Nat.le_refl s.heap.objs.size) (I.hok.fresh (Nat.le_refl _))
 refine call_any_walk (wpAny_pyIter_list pl.isList ⟨s.heap.objs.size,_,_,its.toArray.size,_,_,fun i=>bs.getD i false,rfl,Walks.list (by exact I.ok.hd hc) s.heap.objs.size p (Nat.ne_of_lt hps) its.toArray,⟨⟨_,Heap.get?_push_size _ rfl,rfl,rfl⟩,pl.isList.push _⟩,fun i v s Q E hP hQ=>?_,fun h' tk hk=>?_⟩)
 .rw [pF rv hP];exact wpAny_truthy_bool hQ
 .have I1:Inv X pins σ H { s with heap:=s.heap.push { cls:=.type "list_iterator",data:=.fields #[.ref p,.int 0 0] } }:=I.kept (t':=s.toks) fun b o e=>Heap.get?_push_of_some _ e
  have I2:=I1.turned (h':=h') (t':=tk) (it:=s.heap.objs.size) (fun b o hb e=>hk b o (by simpa using hb) e) f0 f1 f3 f4 f5
  refine ⟨.bl (bs.any id),H,I2,?_,q⟩
  show Value.bool _=Value.bool _
  rw [List.size_toArray,<- hl,jN]
end
section
variable {X:Cx}{o e f:Expr}{apos cpos:Pos}{td ty tx:TE}
theorem pG:a9 X (.builtin "len") (fun xs H Q=>∃p kvs,xs=[.ref p]/\Rd H p (.dK kvs)/\Q (.int kvs.length) H):=by
 intro pins s σ H xs us Q I r h
 obtain ⟨p,kvs,rfl,hd,q⟩:=h
 obtain ⟨u,rfl,ru⟩:=fc r
 cases (show u=Value.ref p from ru)
 exact yI I hd fun t s' I'=>⟨.int kvs.length,H,I',⟨t,rfl⟩,q⟩
end
def aq (K:PySem.W.Frag) (x:Str):Addr:=match PySem.W.nsIn K mainGlobals x with
 | some (some (.ref C))=>C
 | _=>0
theorem b8 {K:PySem.W.Frag}{x:Str}{C:Addr} (h:PySem.W.nsIn K mainGlobals x=some (some (.ref C))):aq K x=C:=by unfold aq;rw [h]
structure vQ (P:Program) (w:World) (K:PySem.W.Frag) (mg:Str->Option Value) (base:Heap) (k:Nat) (C:Addr) (x:Str) (ps:List Str) (sp:Sp):Prop where
 ex:∃(f:Addr) (fd:FuncData),jb P w K mg base CX0 k f fd ps sp/\fK K fd ps []/\Mk K C f/\mg x=some (.ref C)
structure hG (K:PySem.W.Frag) (mg:Str->Option Value) (C:Addr) (x qual:Str) (st:Stmt):Prop where
 ex:∃(f:Addr) (fd:FuncData),Fun K "__init__" qual st f fd/\Mk K C f/\mg x=some (.ref C)
section
variable {P:Program}{w:World}{K:PySem.W.Frag}{mg:Str->Option Value}{base:Heap}{x m qual:Str}{C:Addr}{st:Stmt}{N ps:List Str}{k:Nat}{sp:Sp}
theorem hG.ok (D:hG K mg C x qual st) (S:aI N ps (ah st))
  (hb:∀(kV doc pm:Value) (an:Option Addr) (cdv ct:Value) (us:List Value),us.length=ps.length->bindArgs (PySem.W.fnOf "__init__" qual (a6 st) (aQ st) (ah st) .none kV doc pm an cdv ct) ⟨us,[]⟩=pure (ps.zip us))
  (len:∀vs H Q E,sp vs H Q E->vs.length=ps.length)
  (hbody:∀(f:Addr) (cdv:Value) (A:Around) (outer:List Env) (s:Shared) (H:Hp) (vs:List V) (Q:VK) (E:XK),c4 k (A.deeper (envOfC qual (ah st) s.heap.objs.size f cdv))->sp vs H Q E ->
   ∃t,PSs (kf CX0 P w K mg base N qual (ah st) f cdv A outer s H E).nox (aQ st) t/\t { nx:=fun _ H'=>Q .non H',rt:=Q } (start N vs) H):vQ P w K mg base (k + 1) C x ps sp:=by
 obtain ⟨f,fd,F,hm,e⟩:=D.ex
 exact ⟨f,fd,F.ok S len fun cdv A outer s H vs Q E hr h=>hbody f cdv A outer s H vs Q E hr h,F.binds hb,hm,e⟩
end
section
variable {X:Cx}{k:Nat}{x m:Str}{C:Addr}{ps:List Str}{sp:Sp}{p pos apos:Pos}{o e:Expr}{es:List Expr}{ta:TE}{t:TA}
theorem ut (M:vQ X.prog X.w X.K X.mg X.base k C x ps sp) (hr:c4 (k + 1) X.A) (ha:PA X (e::es) t) (hg:Gl X x:=by rfl) (hdb:(x == ("__debug__":Str))=false:=by decide) (he:starEach (e::es) X.env=(false,eval e X.env)::starEach es X.env:=by rfl)
  (hpl:(backTo pos (starEach es X.env)).any (·.1)=false:=by rfl):PE X (.Call (.Name x p) (e::es) [] pos) (qY C sp [] E0 t):=by
 obtain ⟨f,fd,F,hb,hk,hm⟩:=M.ex
 exact t5 hk F hr hg hm hb .nil ue ha hdb he hpl
end
theorem pH {prog:Program}{w:World}{A:Around} (k:Bool) (hh:A.handled=none) (it a:Addr) (hne:a≠it) (its:Array Value) :
  Draws prog w A it [it,a] its.size (fun i v=>its[i]?=some v) (fun i h=>fh k h it a i/\g7 k h a its) where
 live:=fun _ _ st=>let ⟨o,ho,_⟩:=st.1;⟨o,ho⟩
 frame:=fun _ _ _ st hk=>⟨st.1.mv fun o e=>hk it (by simp) o e,st.2.mv fun o e=>hk a (by simp) o e⟩
 item:=fun i s Q E hi st hQ=>by
  refine kM st.1 st.2 (x:=its[i]) (by simp [hi]) fun h' hit' hs'=>?_
  exact hQ _ h' s.toks (by simp [hi]) ⟨hit',st.2.mv fun o e=>hs'.extBut _ o hne e⟩ hs'
 done:=fun s Q E st hE=>g8 hh st.1 st.2 (by simp) hE
def Ite (k:Bool) (K:PySem.W.Frag) (a:Addr):It :=
  ⟨fun i H=>∃xs x,Sq k K H a xs/\xs[i]?=some x,
   fun i H p H'=>∃T x,H T=none/\p=.ref T/\(∀xs,Sq k K H a xs->xs[i]?=some x)/\H'=upd H T (.tup [.int (i:Int),x]),
   fun i H=>∃xs,Sq k K H a xs/\xs.length<=i⟩
theorem pI {P:Program}{w:World}{K:PySem.W.Frag}{es:List Expr}{ct:Nat}{tp:Pos}{k:Bool}{a e it:Addr} (hei:e≠it) :
  vO P w K (.Tuple es ct tp) (Ite k K a) [e,it] e (fun n h=>(∃old,IsEnum h e it ((n:Nat):Int) old)/\fh k h it a n) where
 mem:=by simp
 obj:=fun n h st b hb=>by
  obtain ⟨⟨old,he⟩,o1,g1,c1,d1⟩:=st
  simp only [List.mem_cons,List.not_mem_nil,or_false] at hb
  rcases hb with rfl | rfl
  .exact ⟨_,he,fun v q=>by cases q⟩
  .exact ⟨_,g1,fun v q=>by rw [d1] at q;cases q⟩
 keep:=fun n h h' st kk=>by
  obtain ⟨⟨old,he⟩,w1⟩:=st
  exact ⟨⟨old,kk e (by simp) _ he⟩,w1.mv fun o q=>kk it (by simp) o q⟩
 item:=by
  intro X hP hw hK hc n pins s σ H E I hf st hg
  subst hP hw hK
  obtain ⟨xs,x,q1,hx⟩:=hg
  obtain ⟨⟨old,he⟩,w1⟩:=st
  obtain ⟨its,rv,p,_⟩:=I.row q1
  obtain ⟨ux,hux,rx⟩:=rv.get hx
  have ne:=I.row_ne q1 (hf e (by simp))
  have ni:=I.row_ne q1 (hf it (by simp))
  have hlt:n < its.toArray.size:=by
   have:=(List.getElem?_eq_some_iff.mp hux).1
   simpa using this
  have hhd:X.A.in1.handled=none:=by exact I.ok.hd hc
  refine wpAny_pyNext_enum_itemD (pH k hhd it a ni its.toArray) he ⟨w1,p⟩ hlt hei (by simp [hei,Ne.symm ne]) fun y h' tk hP ho hst ht hsz hk=>?_
  have hy:y=ux:=by
   have h1:its[n]?=some y:=by simpa using hP
   rw [hux] at h1;exact (Option.some.inj h1).symm
  subst hy
  refine ⟨_,rfl,wpAny_letOwnedTupleGo_enum ho fun g ge gs=>?_⟩
  have lt:∀{b o},s.heap.get? b=some o->s.heap.objs.size≠b:=fun q=>Nat.ne_of_gt (Heap.lt_size q)
  have kp:∀b o,b∉[e,it]->s.heap.get? b=some o->g.get? b=some o:=fun b o hb q=>by
   simp only [List.mem_cons,List.not_mem_nil,or_false,not_or] at hb
   exact gs.extBut _ _ hb.1 (hk b o hb.1 hb.2 q)
  have I2:Inv X pins σ (upd H s.heap.objs.size (.tup [.int (n:Int),x])) { s with heap:=g,toks:=tk + 1 }:=I.yielded (ch:=[e,it]) (fun b hb=>hf b hb) (Nat.le_refl _) kp
   ⟨by show 2<=sizeLine;decide,[.int (n:Int) tk,y],.cons ⟨tk,rfl⟩ (.cons rx .nil),_,gs.extBut _ _ (lt he) ht,rfl,_,rfl⟩
  refine ⟨.ref s.heap.objs.size,_,I2,rfl,⟨_,x,I.hok.fresh (Nat.le_refl _),rfl,fun xs' q=>by rw [I.row_inj q q1];exact hx,rfl⟩,⟨⟨y,by simpa using ge⟩,hst.1.mv fun o q=>gs.extBut _ o (Ne.symm hei) q⟩,fun b hb=>?_⟩
  rw [ak ?_]
  .exact (hf b hb).1
  .intro q
   subst q
   simp only [List.mem_cons,List.not_mem_nil,or_false] at hb
   obtain ⟨o1,g1,_⟩:=w1
   rcases hb with q | q
   .exact lt he q
   .exact lt g1 q
 done:=by
  intro X hP hw hK hc n pins s σ H E I hf st hg
  subst hP hw hK
  obtain ⟨xs,q1,hend⟩:=hg
  obtain ⟨⟨old,he⟩,w1⟩:=st
  obtain ⟨its,rv,p,_⟩:=I.row q1
  have e1:=rv.length
  have ni:=I.row_ne q1 (hf it (by simp))
  have hhd:X.A.in1.handled=none:=by exact I.ok.hd hc
  obtain ⟨f0,f1,f2,f3,f4,f5⟩:=hf it (by simp)
  -- the walk's end is wherever the row has no item
  have hT:s.TypeIs (.ref e) "enumerate":=⟨_,he,rfl⟩
  unfold pyNext
  refine wpAny_bind (wpAny_attempt (wpAny_callSpecial?_slot (name:=Str.ofString "__next__") hT F.slot_enumerate_next
   (wpAny_call_entry F.slot_enumerate_next hT F.entry_enumerate_next ?_ (F.args_enumerate_next_1 _))))
  show wpAny _ _ (field (.ref e) 2 >>= _) _ _ _
  refine wpAny_bind (wpAny_field he rfl (x:=.ref it) rfl ?_)
  refine wpAny_bind (g8 hhd w1 p (by simp;omega) fun h' x he' hx'=>?_)
  obtain ⟨o,ho,hcl⟩:=hx'
  refine wpAny_bind (wpAny_isInstance (T:="StopIteration") (b:=true) ⟨o,ho,hcl⟩ isSubtype_stop ?_)
  exact wpAny_pure ⟨rfl,I.turned (t':=s.toks) (fun b o hb q=>he' b o hb q) f0 f1 f3 f4 f5⟩
 self:=fun _ _ _ _ _ st h=>let ⟨⟨_,he⟩,_⟩:=st;wpAny_pyIter_enum he h
section
variable {P:Program}{w:World}{A:Around}{E:Value->Shared->Prop}{s:Shared}{k:Bool}
theorem rD (k:Bool) (a:Addr) (xs:Array Value):Meets (Builtin.«enumerate.__new__» ⟨[.type "enumerate",.ref a],[]⟩) (fun _ R s=>g7 k s.heap a xs /\
   R (.ok (.ret (.ref (s.heap.push (lF k a)).objs.size))) { s with heap:=(s.heap.push (lF k a)).push { cls:=.type "enumerate",data:=.fields #[.none,.bool false,.ref s.heap.objs.size,rawInt 0,.none,.none] } }) :=
 .of_wp fun prog w A R s h=>by
  obtain ⟨hp,g,d,tk,os⟩:=s
  obtain ⟨r1,h⟩:=h
  have hsub:=sub_enumerate
  have R1:g7 k (Shared.heap ⟨hp,g,d,tk,os⟩) a xs:=r1
  obtain ⟨⟨cls,dd,data,sl⟩,ho,hc,n,hd⟩:=id r1
  simp only at hc hd
  subst hc hd
  wp_walk using AutoSeq1.wpAny_loadPart' ho
  refine wpAny_stack_any fun st=>wpAny_pure ?_
  split
  .rename_i c _ _ _ _ _
   cases (c == Value.type "enumerate")
   .wp_walk using AutoSeq1.wpAny_loadPart' ho,fM R1
    exact ⟨_,rfl,h⟩
   .wp_walk using AutoSeq1.wpAny_loadPart' ho,fM R1
    exact ⟨_,rfl,h⟩
  .wp_walk using AutoSeq1.wpAny_loadPart' ho,fM R1
   exact ⟨_,rfl,h⟩
theorem rE {a:Addr}{xs:Array Value}{Q:Value->Shared->Prop} (r1:g7 k s.heap a xs)
  (h:∀h',IsEnum h' (s.heap.objs.size + 1) s.heap.objs.size 0 .none->fh k h' s.heap.objs.size a 0->(∀b o,s.heap.get? b=some o->h'.get? b=some o)->Q (.ref (s.heap.objs.size + 1)) { s with heap:=h' }) :
  wpAny (model P w) A (call (.type "enumerate") [.ref a]) Q E s:=by
 refine callType_new F.called_enumerate (by decide) (F.typeCall_enumerate_1 _) (F.newCall_enumerate_1 _) (fun obj=>F.args_object_init_2 obj _) F.entry_enumerate_new (rD k a xs) ⟨r1,?_⟩
 have z1:(s.heap.push (lF k a)).objs.size=s.heap.objs.size + 1:=Heap.size_push ..
 have g2:((s.heap.push (lF k a)).push { cls:=.type "enumerate",data:=.fields #[.none,.bool false,.ref s.heap.objs.size,rawInt 0,.none,.none] }).get? (s.heap.push (lF k a)).objs.size=some _:=Heap.get?_push_size _ rfl
 have g1:=Heap.get?_push_of_some { cls:=.type "enumerate",data:=.fields #[.none,.bool false,.ref s.heap.objs.size,rawInt 0,.none,.none] } (Heap.get?_push_size s.heap (o:=lF k a) rfl)
 show _/\_
 rw [z1] at g2 ⊢
 exact ⟨⟨_,g2,rfl⟩,h _ g2 ⟨_,g1,rfl,rfl⟩ fun b o q=>Heap.get?_push_of_some _ (Heap.get?_push_of_some _ q)⟩
end
section
variable {X:Cx}{es:List Expr}{ct:Nat}{tp:Pos}
def uu (K:PySem.W.Frag) (ta:TA):TI:=fun σ H R=>ta σ H fun vs H1=>∃k a,vs=[.ref a]/\(∃xs,Sq k K H1 a xs)/\R (Ite k K a) H1
theorem uv {a:Expr}{ta:TA}{p pos:Pos} (hg:Gl X "enumerate") (hm:X.mg "enumerate"=none) (ha:PA X [a] ta) (hs:starEach [a] X.env=[(false,eval a X.env)]:=by rfl) :
  PI X (.Tuple es ct tp) (.Call (.Name "enumerate" p) [a] [] pos) (uu X.K ta):=by
 intro pins s σ H R I h
 refine Call_ (gO I hg hm boot_enumerate (PyProof.Rows.callWith_type1 (thn (ha pos pins s σ H _ I h) fun us s1 ⟨vs,H1,I1,r1,q1⟩=>?_) hs rfl))
 obtain ⟨k,a,e,⟨xs,q1⟩,q⟩:=q1
 subst e
 cases r1 with
 | cons r rr =>
  cases rr
  cases r
  obtain ⟨its,rv,p,_⟩:=I1.row q1
  refine rE p fun h' g1 g2 kk=>wpAny_pyIter_enum g1 ?_
  have I2:Inv X pins σ H1 { s1 with heap:=h',toks:=s1.toks }:=I1.kept kk
  refine ⟨s1.heap.objs.size + 1,[s1.heap.objs.size + 1,s1.heap.objs.size],_,_,H1,rfl,I2,pI (k:=k) (a:=a) (it:=s1.heap.objs.size) (Nat.ne_of_gt (Nat.lt_succ_self _)),⟨⟨_,g1⟩,g2⟩,fun b hb=>?_,q⟩
  have hle:s1.heap.objs.size<=b:=by
   simp only [List.mem_cons,List.not_mem_nil,or_false] at hb
   rcases hb with e | e
   .rw [e];exact Nat.le_add_right _ _
   .rw [e];exact Nat.le_refl _
  exact I1.fpOk hle (I1.hok.fresh hle)
end
section
variable {X:Cx}
theorem pJ (hc:X.calm=true):a9 X (.builtin "min") (fun xs H Q=>∃(p:Addr) (ns:List Int),xs=[.ref p]/\SqL X.K H p (ns.map V.int)/\0 < ns.length/\∀m:Int,m∈ns->(∀a∈ns,m<=a)->Q (.int m) H):=by
 intro pins s σ H xs us Q I r h
 obtain ⟨p,ns,rfl,hS,hne,q⟩:=h
 obtain ⟨u,rfl,ru⟩:=fc r
 cases (show u=Value.ref p from ru)
 obtain ⟨its,rv,pl,hz⟩:=I.list hS
 have hi:=jd rv
 have hl:=pl.isList
 obtain ⟨ys,e⟩:=hi.allInts.items
 have hns:ns=ys.toList.map (·.1):=by rw [<- hi.numsOf,<- nums_intItems,<- e]
 have hsz:0 < ys.size:=by
  have h3:=hne;rw [hns,List.length_map,Array.length_toList] at h3;exact h3
 rw [e] at hl
 refine min_intList (by exact I.ok.hd hc) hl hsz fun v h' tk hv hk=>?_
 obtain ⟨t,rfl⟩:=intItems_at hv
 obtain ⟨h1,h2⟩:=argBest_lt (numAt ys) (ys.size - 1)
 refine ⟨.int _,H,I.kept (t':=tk) hk,⟨t,rfl⟩,q _ ?_ fun a ha=>?_⟩
 .rw [hns,numAt_eq];exact getD_mem (by rw [List.length_map,Array.length_toList];omega)
 .rw [hns] at ha
  obtain ⟨j,hj,rfl⟩:=mem_getD ha
  rw [List.length_map,Array.length_toList] at hj
  rw [<- numAt_eq];exact h2 j (by omega)
theorem jg (ns:List Int):∀k,k<=ns.length->preSum (fun i=>ns.getD i 0) k=(ns.take k).sum
 | 0,_=>rfl
 | k + 1,h=>by
  rw [preSum,jg ns k (by omega),List.take_add_one,List.getElem?_eq_getElem (by omega),List.sum_append,List.getD_eq_getElem?_getD,List.getElem?_eq_getElem (by omega)]
  simp
theorem pK (hc:X.calm=true):a9 X (.builtin "sum") (fun xs H Q=>∃(p:Addr) (ns:List Int),xs=[.ref p]/\SqL X.K H p (ns.map V.int)/\Q (.int ns.sum) H):=by
 intro pins s σ H xs us Q I r h
 obtain ⟨p,ns,rfl,hS,q⟩:=h
 obtain ⟨u,rfl,ru⟩:=fc r
 cases (show u=Value.ref p from ru)
 obtain ⟨its,rv,pl,hz⟩:=I.list hS
 have hi:=jd rv
 have hl:=pl.isList
 obtain ⟨ys,e⟩:=hi.allInts.items
 have hns:ns=ys.toList.map (·.1):=by rw [<- hi.numsOf,<- nums_intItems,<- e]
 rw [e] at hl
 refine sum_intListG (by exact I.ok.hd hc) hl fun h' tk t' hk=>⟨.int ns.sum,H,I.kept (t':=tk) hk,⟨t',?_⟩,q⟩
 have hlen:ys.size=ns.length:=by rw [hns,List.length_map,Array.length_toList]
 have hnum:numAt ys=fun i=>ns.getD i 0:=by
  funext i
  rw [numAt_eq,hns]
 rw [hnum,hlen,jg ns ns.length (Nat.le_refl _),List.take_length]
theorem pL:∀{ws:List (List Nat)}{us:List Value},bp (ws.map tx) us->StrsAre us (ws.map S)
 | [],_,.nil=>.nil
 | w::ws,_,.cons r rr=>by
  obtain ⟨t,e⟩:=r
  subst e
  exact .cons _ _ (pL rr)
end
section
variable {X:Cx}{e:Expr}{ta:TE}{f:Str}{pos:Pos}
theorem cq (K:PySem.W.Frag) (eK:X.K=K) (he:PE X e ta) (hb:attributeBase e f X.env (eval e X.env)=eval e X.env):PE X (.Attribute e f pos) (qM K ta f):=eK ▸ wA he hb
def yJ (K:PySem.W.Frag):List V->Hp->VK->Prop:=fun xs H Q=>∃p ys,xs=[.ref p]/\SqL K H p ys/\Q (.int ys.length) H
def yK (K:PySem.W.Frag):List V->Hp->VK->Prop:=fun xs H Q=>∃p ys,xs=[.ref p]/\SqT K H p ys/\Q (.int ys.length) H
def zP (K:PySem.W.Frag):List V->Hp->VK->Prop:=fun xs H Q=>∃x n t b,xs=[x,.ty n]/\ly K H x t/\PySem.W.kitOne K t (.type n)=some b/\Q (.bl b) H
def pM (K:PySem.W.Frag):List V->Hp->VK->Prop:=fun xs H Q=>∃p ys,xs=[.ref p]/\(SqL K H p ys\/SqT K H p ys)/\∀l,H l=none->Q (.ref l) (upd H l (.lst ys))
end
section
variable {X:Cx}{o e:Expr}{es:List Expr}{to:TE}{t:TA}{name:Str}{apos cpos:Pos}{T id:String}{r:V->List V->Hp->VK->Prop}
theorem jh (K:PySem.W.Frag) (eK:X.K=K) (pa:PlainAttrs T) (slot:Slot T name id) (hty:typeOf (.builtin id)=pure (.type "method_descriptor")) (hm:MtR X id r) (ho:PE X o to) (ha:PA X (e::es) t)
  (hbase:attributeBase o name X.env (eval o X.env)=eval o X.env:=by rfl)
  (hfew:((backTo cpos (starEach (e::es) X.env)).all (fun x=>!x.1) && (backToKw cpos (keywordEach [] X.env)).all (fun x=>x.1.isSome)
   && decide ((e::es).length + ([]:List Keyword).length + (if ([]:List Keyword).isEmpty then 0 else 1) < 30))=true:=by rfl)
  (hline:(apos.endLine == cpos.line)=true:=by rfl) (hs:starEach (e::es) X.env=(false,eval e X.env)::starEach es X.env:=by rfl) (hplain:(backTo cpos (starEach es X.env)).any (·.1)=false:=by rfl) :
  PE X (.Call (.Attribute o name apos) (e::es) [] cpos) (tBM K T r to t):=eK ▸ yA pa slot hty hm ho ha hbase hfew hline hs hplain
end
def gA (c:Bool) (A B:Prop):Prop:=match c with | true=>A | false=>B
theorem uw {c:Bool}{A B:Prop} (h1:c=true->A) (h2:c=false->B):gA c A B:=by
 cases c with
 | true=>exact h1 rfl
 | false=>exact h2 rfl
theorem df {p:Prop} [Decidable p] {A B:Prop} (h1:p->A) (h2:¬ p->B):gA (decide p) A B:=uw (fun h=>h1 (of_decide_eq_true h)) (fun h=>h2 (of_decide_eq_false h))
theorem rF {p:Prop} [Decidable p] {A B:Prop} (h1:¬ p->A) (h2:p->B):gA (!decide p) A B:=uw (fun h=>h1 fun z=>by rw [decide_eq_true z] at h;cases h) (fun h=>h2 (by
 by_cases z:p
 .exact z
 .rw [decide_eq_false z] at h;cases h))
theorem yL {p:Prop} [Decidable p] {A B:Prop} (h:p) (hA:A):gA (decide p) A B:=df (fun _=>hA) (fun z=>absurd h z)
theorem yM {p:Prop} [Decidable p] {A B:Prop} (h:¬ p) (hB:B):gA (decide p) A B:=df (fun z=>absurd z h) (fun _=>hB)
theorem xc {p:Prop} [Decidable p] {A B:Prop} (h:¬ p) (hA:A):gA (!decide p) A B:=rF (fun _=>hA) (fun z=>absurd z h)
theorem xf {p:Prop} [Decidable p] {A B:Prop} (h:p) (hB:B):gA (!decide p) A B:=rF (fun z=>absurd h z) (fun _=>hB)
theorem hU {c:Bool}{A B:Prop} (h:gA c B A):gA (!c) A B:=by
 cases c <;> exact h
theorem Aq {c:Bool}{A B:Prop} (h:c=true) (hA:A):gA c A B:=by subst h;exact hA
theorem Ar {c:Bool}{A B:Prop} (h:c=false) (hB:B):gA c A B:=by subst h;exact hB
theorem yN {c:Bool}{A B:Prop} (h:c=false) (hA:A):gA (!c) A B:=by subst h;exact hA
theorem yO {c:Bool}{A B:Prop} (h:c=true) (hB:B):gA (!c) A B:=by subst h;exact hB
inductive D where
 | non | bl (b:Bool) | int (i:Int) | str (l:List Nat) | ty (n:String)
 | lst (ds:List D) | tup (ds:List D) | scr (ns:List Int) | dic (ks:List Key) (ds:List D) | obj (c:Str) (ns:List Str) (ds:List D) | exc (c:Str) (ns:List Str) (ds:List D)
def XAt (x C:Addr) (dd:Option Addr) (new:Bool) (h:Heap):Prop:=∃o vs,h.get? x=some o/\o.cls=.ref C/\o.dict=dd/\o.data=.fields vs/\1 < vs.size/\(new=true->vs[1]?=some .none)
def cH (A:Addr->Prop) (a:Addr):Addr->Prop:=fun b=>A b\/b=a
def vR (K:PySem.W.Frag) (O:Addr->Prop) (H:Hp) (a:Addr) (xs:List V):Prop :=
 (¬ O a/\Rd H a (.lst xs))\/∃(o:Obj) (its:Array Value) (n:Nat),K.lookup a=some o/\o.cls=.type "list"/\o.dict=none/\o.data=.seq its n/\its.size<=sizeLine/\bp xs its.toList
theorem vR.sq {K:PySem.W.Frag}{O:Addr->Prop}{H:Hp}{a:Addr}{xs:List V} (h:vR K O H a xs):SqL K H a xs:=h.elim (fun z=>.inl z.2) .inr
def aK (O:Addr->Prop) (H:Hp) (O':Addr->Prop) (H':Hp):Prop:=∀b o,¬ O b->H b=some o->¬ O' b/\H' b=some o
theorem Rd.keeps {O O':Addr->Prop}{H H':Hp}{a:Addr}{u:HO} (k:aK O H O' H') (n:¬ O a) (r:Rd H a u):¬ O' a/\Rd H' a u:=by
 rcases r with e | ⟨o,e⟩
 .exact ⟨(k _ _ n e).1,.inl (k _ _ n e).2⟩
 .exact ⟨(k _ _ n e).1,.inr ⟨o,(k _ _ n e).2⟩⟩
theorem vR.keeps {K:PySem.W.Frag}{O O':Addr->Prop}{H H':Hp}{a:Addr}{xs:List V} (k:aK O H O' H') (h:vR K O H a xs):vR K O' H' a xs:=by
 rcases h with ⟨n,r⟩ | r
 .exact .inl (r.keeps k n)
 .exact .inr r
mutual
inductive FV (K:PySem.W.Frag) (O:Addr->Prop) (H:Hp):V->D->Prop
 | non:FV K O H .non .non
 | bl (b:Bool):FV K O H (.bl b) (.bl b)
 | int (i:Int):FV K O H (.int i) (.int i)
 | str (l:List Nat):l.length<=1000000->FV K O H (.str (S l)) (.str l)
 | ty (n:String):FV K O H (.ty n) (.ty n)
 | scr {a:Addr}{ns:List Int}:vR K O H a (ns.map V.int)->FV K O H (.ref a) (.scr ns)
 | lst {a:Addr}{xs:List V}{ds:List D}:¬ O a->H a=some (.lst xs)->FVs K O H xs ds->FV K O H (.ref a) (.lst ds)
 | tup {a:Addr}{xs:List V}{ds:List D}:¬ O a->H a=some (.tup xs)->FVs K O H xs ds->FV K O H (.ref a) (.tup ds)
 | dic {a:Addr}{kvs:List (Key×V)}{ks:List Key}{ds:List D}:¬ O a->H a=some (.dK kvs)->kvs.map Prod.fst=ks->FVs K O H (kvs.map Prod.snd) ds->FV K O H (.ref a) (.dic ks ds)
 | obj {a dx:Addr}{c:Str}{fs:List (Str×V)}{ns:List Str}{ds:List D}:¬ O a->H a=some (.ins (aq K c) dx fs)->fs.map Prod.fst=ns->FVs K O H (fs.map Prod.snd) ds->FV K O H (.ref a) (.obj c ns ds)
 | exc0 {a:Addr}{c:Str}{new:Bool}:¬ O a->H a=some (.ext (XAt a (aq K c) none new))->FV K O H (.ref a) (.exc c [] [])
 | exc1 {a dx:Addr}{c:Str}{new:Bool}{fs:List (Str×V)}{ns:List Str}{ds:List D}:¬ O a->¬ O dx->H a=some (.ext (XAt a (aq K c) (some dx) new))->H dx=some (.xd fs)->fs.map Prod.fst=ns->FVs K O H (fs.map Prod.snd) ds->FV K O H (.ref a) (.exc c ns ds)
inductive FVs (K:PySem.W.Frag) (O:Addr->Prop) (H:Hp):List V->List D->Prop
 | nil:FVs K O H [] []
 | cons {x:V}{d:D}{xs:List V}{ds:List D}:FV K O H x d->FVs K O H xs ds->FVs K O H (x::xs) (d::ds)
end
section
variable {K:PySem.W.Frag}{O O':Addr->Prop}{H H':Hp}
mutual
theorem FV.keeps (k:aK O H O' H'):∀{v:V}{d:D},FV K O H v d->FV K O' H' v d
 | _,_,.non=>.non
 | _,_,.bl b=>.bl b
 | _,_,.int i=>.int i
 | _,_,.str l h=>.str l h
 | _,_,.ty n=>.ty n
 | _,_,.scr s=>.scr (s.keeps k)
 | _,_,.lst n e f=>.lst (k _ _ n e).1 (k _ _ n e).2 (FVs.keeps k f)
 | _,_,.tup n e f=>.tup (k _ _ n e).1 (k _ _ n e).2 (FVs.keeps k f)
 | _,_,.dic n e m f=>.dic (k _ _ n e).1 (k _ _ n e).2 m (FVs.keeps k f)
 | _,_,.obj n e m f=>.obj (k _ _ n e).1 (k _ _ n e).2 m (FVs.keeps k f)
 | _,_,.exc0 n e=>.exc0 (k _ _ n e).1 (k _ _ n e).2
 | _,_,.exc1 n n2 e e2 m f=>.exc1 (k _ _ n e).1 (k _ _ n2 e2).1 (k _ _ n e).2 (k _ _ n2 e2).2 m (FVs.keeps k f)
theorem FVs.keeps (k:aK O H O' H'):∀{vs:List V}{ds:List D},FVs K O H vs ds->FVs K O' H' vs ds
 | _,_,.nil=>.nil
 | _,_,.cons a b=>.cons (FV.keeps k a) (FVs.keeps k b)
end
theorem FVs.length:∀{vs:List V}{ds:List D},FVs K O H vs ds->vs.length=ds.length
 | _,_,.nil=>rfl
 | _,_,.cons _ b=>by rw [List.length_cons,List.length_cons,b.length]
theorem FVs.get:∀{vs:List V}{ds:List D}{i:Nat}{v:V},FVs K O H vs ds->vs[i]?=some v->∃d,ds[i]?=some d/\FV K O H v d
 | _,_,0,_,.cons a _,e=>by simp at e;subst e;exact ⟨_,rfl,a⟩
 | _,_,i + 1,v,.cons _ b,e=>by
  obtain ⟨d,h1,h2⟩:=b.get (i:=i) (v:=v) (by simpa using e)
  exact ⟨d,by simpa using h1,h2⟩
theorem FVs.getD:∀{vs:List V}{ds:List D}{i:Nat}{d:D},FVs K O H vs ds->ds[i]?=some d->∃v,vs[i]?=some v/\FV K O H v d
 | _,_,0,_,.cons a _,e=>by simp at e;subst e;exact ⟨_,rfl,a⟩
 | _,_,i + 1,v,.cons _ b,e=>by
  obtain ⟨d,h1,h2⟩:=b.getD (i:=i) (d:=v) (by simpa using e)
  exact ⟨d,by simpa using h1,h2⟩
theorem FVs.append:∀{vs ws:List V}{ds es:List D},FVs K O H vs ds->FVs K O H ws es->FVs K O H (vs++ws) (ds++es)
 | _,_,_,_,.nil,s=>s
 | _,_,_,_,.cons a b,s=>.cons a (b.append s)
theorem FVs.set {v:V}{d:D} (f:FV K O H v d):∀{vs:List V}{ds:List D} (i:Nat),FVs K O H vs ds->FVs K O H (vs.set i v) (ds.set i d)
 | _,_,_,.nil=>.nil
 | _,_,0,.cons _ t=>.cons f t
 | _,_,i + 1,.cons q t=>.cons q (FVs.set f i t)
theorem FVs.take:∀{vs:List V}{ds:List D} (n:Nat),FVs K O H vs ds->FVs K O H (vs.take n) (ds.take n)
 | _,_,0,_=>.nil
 | _,_,_ + 1,.nil=>.nil
 | _,_,n + 1,.cons r t=>.cons r (t.take n)
theorem FVs.drop:∀{vs:List V}{ds:List D} (n:Nat),FVs K O H vs ds->FVs K O H (vs.drop n) (ds.drop n)
 | _,_,0,r=>r
 | _,_,_ + 1,.nil=>.nil
 | _,_,n + 1,.cons _ t=>t.drop n
theorem FVs.ints:∀{vs:List V}{ns:List Int},FVs K O H vs (ns.map D.int)->vs=ns.map V.int
 | _,[],.nil=>rfl
 | _,n::r,h=>by
  cases h with
  | cons a b=>cases a;rw [FVs.ints b];rfl
theorem FVs.of_ints:∀ns:List Int,FVs K O H (ns.map V.int) (ns.map D.int)
 | []=>.nil
 | n::r=>.cons (.int n) (FVs.of_ints r)
theorem FVs.strs:∀{vs:List V}{ws:List (List Nat)},FVs K O H vs (ws.map D.str)->vs=ws.map tx
 | _,[],.nil=>rfl
 | _,n::r,h=>by
  cases h with
  | cons a b=>cases a;rw [FVs.strs b];rfl
theorem FVs.bls:∀{vs:List V}{bs:List Bool},FVs K O H vs (bs.map D.bl)->vs=bs.map V.bl
 | _,[],.nil=>rfl
 | _,n::r,h=>by
  cases h with
  | cons a b=>cases a;rw [FVs.bls b];rfl
end
inductive PV where
 | dat (d:D) | own (ds:List D) | ins (c:Str) (ns:List Str) (ds:List D)
def PV.isOwn:PV->Bool
 | .dat _=>false
 | _=>true
def PV.d:PV->D
 | .dat d=>d
 | .own ds=>.lst ds
 | .ins c ns ds=>.obj c ns ds
abbrev PSt:=List (Option PV)
def Wr (ρ:PSt) (σ:St) (b:Addr):Prop:=∃(i:Nat) (p:PV),ρ[i]?=some (some p)/\p.isOwn=true/\σ[i]?=some (some (.ref b))
def OO (A:Addr->Prop) (ρ:PSt) (σ:St) (b:Addr):Prop:=A b\/Wr ρ σ b
def RS (K:PySem.W.Frag) (O:Addr->Prop) (H:Hp):PV->V->Prop
 | .dat d,v=>FV K O H v d
 | .own ds,v=>∃a xs,v=.ref a/\H a=some (.lst xs)/\FVs K O H xs ds
 | .ins c ns ds,v=>∃a dx fs,v=.ref a/\H a=some (.ins (aq K c) dx fs)/\fs.map Prod.fst=ns/\FVs K O H (fs.map Prod.snd) ds
structure Rel (K:PySem.W.Frag) (A:Addr->Prop) (ρ:PSt) (σ:St) (H:Hp):Prop where
 len:ρ.length=σ.length
 get:∀(i:Nat) (p:PV),ρ[i]?=some (some p)->∃v,σ[i]?=some (some v)/\RS K (OO A ρ σ) H p v
 dj:∀(i j:Nat) (p q:PV) (v:V),ρ[i]?=some (some p)->ρ[j]?=some (some q)->p.isOwn=true->q.isOwn=true->σ[i]?=some (some v)->σ[j]?=some (some v)->i=j
 dom:∀b,A b->H b≠none
 sep:∀b,A b->¬ Wr ρ σ b
structure Fr (ρ:PSt) (σ:St) (H:Hp) (ρ':PSt) (H':Hp):Prop where
 kp:∀b o,¬ Wr ρ σ b->H b=some o->H' b=some o
 dm:∀b,H b≠none->H' b≠none
 ow:∀b,Wr ρ' σ b->Wr ρ σ b
theorem Fr.refl (ρ:PSt) (σ:St) (H:Hp):Fr ρ σ H ρ H:=⟨fun _ _ _ h=>h,fun _ h=>h,fun _ h=>h⟩
theorem Fr.trans {ρ ρ1 ρ2:PSt}{σ:St}{H H1 H2:Hp} (a:Fr ρ σ H ρ1 H1) (b:Fr ρ1 σ H1 ρ2 H2):Fr ρ σ H ρ2 H2 :=
 ⟨fun c o n h=>b.kp c o (fun z=>n (a.ow c z)) (a.kp c o n h),fun c h=>b.dm c (a.dm c h),fun c h=>a.ow c (b.ow c h)⟩
theorem Fr.keeps {ρ ρ':PSt}{σ:St}{H H':Hp}{A:Addr->Prop} (f:Fr ρ σ H ρ' H'):aK (OO A ρ σ) H (OO A ρ' σ) H':=fun b o n h =>
 ⟨fun z=>z.elim (fun z=>n (.inl z)) (fun z=>n (.inr (f.ow b z))),f.kp b o (fun z=>n (.inr z)) h⟩
theorem Fr.new {ρ:PSt}{σ:St}{H:Hp}{p:Addr}{o:HO} (h:H p=none):Fr ρ σ H ρ (upd H p o) :=
 ⟨fun b u _ e=>by rw [ak (aD e h)];exact e,fun b e=>by
  by_cases z:b=p
  .rw [z,au];exact nofun
  .rw [ak z];exact e,fun _ h=>h⟩
theorem aK.fresh {O:Addr->Prop}{H:Hp}{p:Addr}{o:HO} (h:H p=none):aK O H (cH O p) (upd H p o):=fun b u n e =>
 ⟨fun z=>z.elim n (fun z=>by rw [z,h] at e;cases e),by rw [ak (aD e h)];exact e⟩
theorem aK.less {O O':Addr->Prop}{H:Hp} (h:∀b,O' b->O b):aK O H O' H:=fun b o n e=>⟨fun z=>n (h b z),e⟩
theorem RS.keeps {K:PySem.W.Frag}{O O':Addr->Prop}{H H':Hp}{p:PV}{v:V} (k:aK O H O' H') (w:p.isOwn=true->∀a,v=.ref a->H' a=H a) (h:RS K O H p v):RS K O' H' p v:=by
 cases p with
 | dat d=>exact FV.keeps k h
 | own ds =>
  obtain ⟨a,xs,e,g,f⟩:=h
  exact ⟨a,xs,e,by rw [w rfl a e];exact g,f.keeps k⟩
 | ins c ns ds =>
  obtain ⟨a,dx,fs,e,g,m,f⟩:=h
  exact ⟨a,dx,fs,e,by rw [w rfl a e];exact g,m,f.keeps k⟩
theorem RS.ref {K:PySem.W.Frag}{O:Addr->Prop}{H:Hp}{p:PV}{v:V} (h:RS K O H p v) (o:p.isOwn=true):∃a u,v=.ref a/\H a=some u:=by
 cases p with
 | dat d=>cases o
 | own ds=>obtain ⟨a,xs,e,g,f⟩:=h;exact ⟨a,_,e,g⟩
 | ins c ns ds=>obtain ⟨a,dx,fs,e,g,m,f⟩:=h;exact ⟨a,_,e,g⟩
theorem Rel.wr {K:PySem.W.Frag}{A:Addr->Prop}{ρ:PSt}{σ:St}{H:Hp} (R:Rel K A ρ σ H) {b:Addr} (h:Wr ρ σ b):H b≠none:=by
 obtain ⟨i,p,e,o,s⟩:=h
 obtain ⟨v,s',r⟩:=R.get i p e
 rw [s] at s';cases s'
 obtain ⟨a,u,e1,e2⟩:=r.ref o
 cases e1
 rw [e2];exact nofun
theorem Rel.oo {K:PySem.W.Frag}{A:Addr->Prop}{ρ:PSt}{σ:St}{H:Hp} (R:Rel K A ρ σ H) {b:Addr} (h:H b=none):¬ OO A ρ σ b:=fun z=>z.elim (fun z=>R.dom b z h) (fun z=>R.wr z h)
theorem Rel.grow {K:PySem.W.Frag}{A:Addr->Prop}{ρ:PSt}{σ:St}{H:Hp} (R:Rel K A ρ σ H) {p:Addr}{o:HO} (h:H p=none):Rel K A ρ σ (upd H p o):=by
 have k:aK (OO A ρ σ) H (OO A ρ σ) (upd H p o):=Fr.keeps (Fr.new h)
 refine ⟨R.len,fun i q e=>?_,R.dj,fun b z=>(Fr.new (ρ:=ρ) (σ:=σ) h).dm b (R.dom b z),R.sep⟩
 obtain ⟨v,s,r⟩:=R.get i q e
 refine ⟨v,s,r.keeps k fun ow a ea=>?_⟩
 obtain ⟨a',u,e1,e2⟩:=r.ref ow
 rw [ea] at e1;cases e1
 rw [ak (aD e2 h)]
theorem Rel.less {K:PySem.W.Frag}{A A':Addr->Prop}{ρ:PSt}{σ:St}{H:Hp} (R:Rel K A ρ σ H) (h:∀b,A' b->A b):Rel K A' ρ σ H:=by
 refine ⟨R.len,fun i q e=>?_,R.dj,fun b z=>R.dom b (h b z),fun b z=>R.sep b (h b z)⟩
 obtain ⟨v,s,r⟩:=R.get i q e
 exact ⟨v,s,r.keeps (aK.less fun b z=>z.imp (h b) id) fun _ _ _=>rfl⟩
theorem Rel.write {K:PySem.W.Frag}{A:Addr->Prop}{ρ:PSt}{σ:St}{H:Hp} (R:Rel K A ρ σ H) {i:Nat}{p q:PV}{a:Addr}{o:HO} (e:ρ[i]?=some (some p)) (ow:p.isOwn=true) (ow':q.isOwn=true) (es:σ[i]?=some (some (.ref a)))
  (new:RS K (OO A ρ σ) (upd H a o) q (.ref a)):Rel K A (ρ.set i (some q)) σ (upd H a o)/\Fr ρ σ H (ρ.set i (some q)) (upd H a o):=by
 have hi:i < ρ.length:=(List.getElem?_eq_some_iff.mp e).1
 have wa:Wr ρ σ a:=⟨i,p,e,ow,es⟩
 have weq:∀b,Wr (ρ.set i (some q)) σ b ↔ Wr ρ σ b:=fun b=>by
  constructor
  .rintro ⟨j,r,e1,o1,s1⟩
   by_cases z:i=j
   .subst z;exact ⟨i,p,e,ow,s1⟩
   .rw [List.getElem?_set_ne z] at e1;exact ⟨j,r,e1,o1,s1⟩
  .rintro ⟨j,r,e1,o1,s1⟩
   by_cases z:i=j
   .subst z;exact ⟨i,q,List.getElem?_set_self hi,ow',s1⟩
   .exact ⟨j,r,by rw [List.getElem?_set_ne z];exact e1,o1,s1⟩
 have oeq:OO A (ρ.set i (some q)) σ=OO A ρ σ:=funext fun b=>propext (or_congr Iff.rfl (weq b))
 have kp:∀b u,¬ Wr ρ σ b->H b=some u->upd H a o b=some u:=fun b u n h=>by rw [ak (fun z=>n (by rw [z];exact wa))];exact h
 have k:aK (OO A ρ σ) H (OO A ρ σ) (upd H a o):=fun b u n h=>⟨n,kp b u (fun z=>n (.inr z)) h⟩
 have dm:∀b,H b≠none->upd H a o b≠none:=fun b n=>by
  by_cases z:b=a
  .rw [z,au];exact nofun
  .rw [ak z];exact n
 refine ⟨⟨by rw [List.length_set];exact R.len,fun j r e1=>?_,fun j l p1 q1 v e1 e2 o1 o2 s1 s2=>?_,fun b z=>dm b (R.dom b z),fun b z w=>R.sep b z ((weq b).mp w)⟩,⟨kp,dm,fun b w=>(weq b).mp w⟩⟩
 .rw [oeq]
  by_cases z:i=j
  .subst z
   rw [List.getElem?_set_self hi] at e1
   cases e1
   exact ⟨_,es,new⟩
  .rw [List.getElem?_set_ne z] at e1
   obtain ⟨v,s,rr⟩:=R.get j r e1
   refine ⟨v,s,rr.keeps k fun ow2 b eb=>?_⟩
   rw [ak]
   intro zz
   subst zz
   rw [eb] at s
   exact z (R.dj i j p r _ e e1 ow ow2 es s)
 .have ex:∀(m:Nat) (x:PV),(ρ.set i (some q))[m]?=some (some x)->x.isOwn=true->∃y:PV,ρ[m]?=some (some y)/\y.isOwn=true:=fun m x em ox=>by
   by_cases z:i=m
   .subst z;exact ⟨p,e,ow⟩
   .rw [List.getElem?_set_ne z] at em;exact ⟨x,em,ox⟩
  obtain ⟨y1,h1,h2⟩:=ex j p1 e1 o1
  obtain ⟨y2,h3,h4⟩:=ex l q1 e2 o2
  exact R.dj j l y1 y2 v h1 h3 h2 h4 s1 s2
theorem Rel.frz {K:PySem.W.Frag}{A:Addr->Prop}{ρ:PSt}{σ:St}{H:Hp} (R:Rel K A ρ σ H) {i:Nat}{p:PV} (e:ρ[i]?=some (some p)) :
  Rel K A (ρ.set i (some (.dat p.d))) σ H/\Fr ρ σ H (ρ.set i (some (.dat p.d))) H:=by
 have hi:i < ρ.length:=(List.getElem?_eq_some_iff.mp e).1
 have ex:∀(m:Nat) (x:PV),(ρ.set i (some (.dat p.d)))[m]?=some (some x)->x.isOwn=true->m≠i/\ρ[m]?=some (some x):=fun m x em ox=>by
  by_cases z:i=m
  .subst z;rw [List.getElem?_set_self hi] at em;cases em;cases ox
  .rw [List.getElem?_set_ne z] at em;exact ⟨fun q=>z q.symm,em⟩
 have ow:∀b,Wr (ρ.set i (some (.dat p.d))) σ b->Wr ρ σ b:=fun b ⟨j,r,e1,o1,s1⟩=>⟨j,r,(ex j r e1 o1).2,o1,s1⟩
 have k:aK (OO A ρ σ) H (OO A (ρ.set i (some (.dat p.d))) σ) H:=aK.less fun b z=>z.imp id (ow b)
 refine ⟨⟨by rw [List.length_set];exact R.len,fun j r e1=>?_,fun j l p1 q1 v e1 e2 o1 o2 s1 s2=>R.dj j l p1 q1 v (ex j p1 e1 o1).2 (ex l q1 e2 o2).2 o1 o2 s1 s2,R.dom,fun b z w=>R.sep b z (ow b w)⟩,⟨fun _ _ _ h=>h,fun _ h=>h,ow⟩⟩
 by_cases z:i=j
 .subst z
  rw [List.getElem?_set_self hi] at e1
  cases e1
  obtain ⟨v,s,r⟩:=R.get i p e
  refine ⟨v,s,?_⟩
  have na:∀a,v=.ref a->p.isOwn=true->¬ OO A (ρ.set i (some (.dat p.d))) σ a:=fun a ea oo z=>by
   subst ea
   rcases z with z | ⟨j,r,e1,o1,s1⟩
   .exact R.sep a z ⟨i,p,e,oo,s⟩
   .obtain ⟨n1,n2⟩:=ex j r e1 o1
    exact n1 (R.dj j i r p _ n2 e o1 oo s1 s)
  cases p with
  | dat d=>exact FV.keeps k r
  | own ds =>
   obtain ⟨a,xs,rfl,g,f⟩:=r
   exact .lst (na a rfl rfl) g (f.keeps k)
  | ins c ns ds =>
   obtain ⟨a,dx,fs,rfl,g,m,f⟩:=r
   exact .obj (na a rfl rfl) g m (f.keeps k)
 .rw [List.getElem?_set_ne z] at e1
  obtain ⟨v,s,r⟩:=R.get j _ e1
  exact ⟨v,s,r.keeps k fun _ _ _=>rfl⟩
abbrev PKt:=PV->PSt->Prop
abbrev PTE:=PSt->PKt->Prop
abbrev PTT:=PSt->(Bool->PSt->Prop)->Prop
inductive AV where
 | v (d:D) | sl (i:Nat)
abbrev PA1:=PSt->(AV->PSt->Prop)->Prop
abbrev PTA:=PSt->(List AV->PSt->Prop)->Prop
def Out (K:PySem.W.Frag) (A:Addr->Prop) (ρ:PSt) (σ:St) (H0 H:Hp):PV->V->Prop
 | .dat d,v=>Rel K A ρ σ H/\FV K (OO A ρ σ) H v d
 | .own ds,v=>∃a xs,v=.ref a/\¬ A a/\H0 a=none/\H a=some (.lst xs)/\Rel K (cH A a) ρ σ H/\FVs K (OO (cH A a) ρ σ) H xs ds
 | .ins c ns ds,v=>∃a dx fs,v=.ref a/\¬ A a/\H0 a=none/\H a=some (.ins (aq K c) dx fs)/\fs.map Prod.fst=ns/\Rel K (cH A a) ρ σ H/\FVs K (OO (cH A a) ρ σ) H (fs.map Prod.snd) ds
def LE (K:PySem.W.Frag) (te:TE) (pe:PTE):Prop:=∀(A:Addr->Prop) (ρ:PSt) (σ:St) (H:Hp) (Q:PKt) (Q':VK),Rel K A ρ σ H->pe ρ Q ->
 (∀v H' p ρ',Q p ρ'->Fr ρ σ H ρ' H'->Out K A ρ' σ H H' p v->Q' v H')->te σ H Q'
def LT (K:PySem.W.Frag) (tt:TT) (pt:PTT):Prop:=∀(A:Addr->Prop) (ρ:PSt) (σ:St) (H:Hp) (Q:Bool->PSt->Prop) (Q':Bool->Hp->Prop),Rel K A ρ σ H->pt ρ Q ->
 (∀b H' ρ',Q b ρ'->Fr ρ σ H ρ' H'->Rel K A ρ' σ H'->Q' b H')->tt σ H Q'
def AOk (K:PySem.W.Frag) (O:Addr->Prop) (σ:St) (H:Hp):AV->V->Prop
 | .v d,v=>FV K O H v d
 | .sl i,v=>σ[i]?=some (some v)
def LA1 (K:PySem.W.Frag) (te:TE) (pa:PA1):Prop:=∀(A:Addr->Prop) (ρ:PSt) (σ:St) (H:Hp) (Q:AV->PSt->Prop) (Q':VK),Rel K A ρ σ H->pa ρ Q ->
 (∀v H' av ρ',Q av ρ'->Fr ρ σ H ρ' H'->Rel K A ρ' σ H'->AOk K (OO A ρ' σ) σ H' av v->Q' v H')->te σ H Q'
inductive sI (K:PySem.W.Frag) (O:Addr->Prop) (σ:St) (H:Hp):List AV->List V->Prop
 | nil:sI K O σ H [] []
 | cons {a:AV}{v:V}{as:List AV}{vs:List V}:AOk K O σ H a v->sI K O σ H as vs->sI K O σ H (a::as) (v::vs)
def LAs (K:PySem.W.Frag) (ta:TA) (pa:PTA):Prop:=∀(A:Addr->Prop) (ρ:PSt) (σ:St) (H:Hp) (Q:List AV->PSt->Prop) (Q':List V->Hp->Prop),Rel K A ρ σ H->pa ρ Q ->
 (∀vs H' as ρ',Q as ρ'->Fr ρ σ H ρ' H'->Rel K A ρ' σ H'->sI K (OO A ρ' σ) σ H' as vs->Q' vs H')->ta σ H Q'
section
variable {K:PySem.W.Frag}{A O O':Addr->Prop}{ρ ρ':PSt}{σ:St}{H H' H0:Hp}
theorem AOk.keeps {a:AV}{v:V} (k:aK O H O' H') (h:AOk K O σ H a v):AOk K O' σ H' a v:=by
 cases a with
 | v d=>exact FV.keeps k h
 | sl i=>exact h
theorem Out.frz {p:PV}{v:V} (h:Out K A ρ σ H0 H p v):Rel K A ρ σ H/\FV K (OO A ρ σ) H v p.d:=by
 cases p with
 | dat d=>exact h
 | own ds =>
  obtain ⟨a,xs,rfl,na,_,e,R,f⟩:=h
  refine ⟨R.less fun b z=>.inl z,.lst (fun z=>?_) e (f.keeps (aK.less fun b z=>z.imp .inl id))⟩
  exact z.elim na (fun z=>R.sep a (.inr rfl) z)
 | ins c ns ds =>
  obtain ⟨a,dx,fs,rfl,na,_,e,m,R,f⟩:=h
  refine ⟨R.less fun b z=>.inl z,.obj (fun z=>?_) e m (f.keeps (aK.less fun b z=>z.imp .inl id))⟩
  exact z.elim na (fun z=>R.sep a (.inr rfl) z)
theorem Out.h0 {p:PV}{v:V}{H1:Hp} (h:Out K A ρ σ H0 H p v) (dm:∀b,H1 b≠none->H0 b≠none):Out K A ρ σ H1 H p v:=by
 have k:∀a,H0 a=none->H1 a=none:=fun a e=>by
  cases z:H1 a with
  | none=>rfl
  | some o=>exact absurd e (dm a (by rw [z];exact nofun))
 cases p with
 | dat d=>exact h
 | own ds=>obtain ⟨a,xs,e1,na,e2,r⟩:=h;exact ⟨a,xs,e1,na,k a e2,r⟩
 | ins c ns ds=>obtain ⟨a,dx,fs,e1,na,e2,r⟩:=h;exact ⟨a,dx,fs,e1,na,k a e2,r⟩
def Gr (H H':Hp):Prop:=∀b o,H b=some o->H' b=some o
theorem Gr.fr (g:Gr H H'):Fr ρ σ H ρ H':=⟨fun b o _ h=>g b o h,fun b h=>by
 cases e:H b with
 | none=>exact absurd e h
 | some o=>rw [g b o e];exact nofun,fun _ h=>h⟩
theorem Gr.new {p:Addr}{o:HO} (h:H p=none):Gr H (upd H p o):=fun b u e=>by rw [ak (aD e h)];exact e
theorem Gr.refl (H:Hp):Gr H H:=fun _ _ h=>h
theorem Rel.gr (R:Rel K A ρ σ H) (g:Gr H H'):Rel K A ρ σ H':=by
 refine ⟨R.len,fun i q e=>?_,R.dj,fun b z=>(g.fr (ρ:=ρ) (σ:=σ)).dm b (R.dom b z),R.sep⟩
 obtain ⟨v,s,r⟩:=R.get i q e
 refine ⟨v,s,r.keeps (g.fr (ρ:=ρ) (σ:=σ)).keeps fun ow a ea=>?_⟩
 obtain ⟨a',u,e1,e2⟩:=r.ref ow
 rw [ea] at e1;cases e1
 rw [e2];exact g _ _ e2
theorem Rel.grA (R:Rel K A ρ σ H) (g:Gr H H') {p:Addr} (h:H p=none) (h':H' p≠none):Rel K (cH A p) ρ σ H':=by
 have k:aK (OO A ρ σ) H (OO (cH A p) ρ σ) H':=fun b u n e=>by
  refine ⟨fun z=>?_,g _ _ e⟩
  rcases z with (z | z) | z
  .exact n (.inl z)
  .rw [z,h] at e;cases e
  .exact n (.inr z)
 refine ⟨R.len,fun i q e=>?_,R.dj,fun b z=>?_,fun b z w=>?_⟩
 .obtain ⟨v,s,r⟩:=R.get i q e
  refine ⟨v,s,r.keeps k fun ow a ea=>?_⟩
  obtain ⟨a',u,e1,e2⟩:=r.ref ow
  rw [ea] at e1;cases e1
  rw [e2];exact g _ _ e2
 .rcases z with z | z
  .exact (g.fr (ρ:=ρ) (σ:=σ)).dm b (R.dom b z)
  .rw [z];exact h'
 .rcases z with z | z
  .exact R.sep b z w
  .exact R.wr w (by rw [z];exact h)
def lq (K:PySem.W.Frag) (O:Addr->Prop) (H0 H:Hp):PV->V->Prop
 | .dat d,v=>FV K O H v d
 | .own ds,v=>∃a xs,v=.ref a/\H0 a=none/\H a=some (.lst xs)/\FVs K (cH O a) H xs ds
 | .ins c ns ds,v=>∃a dx fs,v=.ref a/\H0 a=none/\H a=some (.ins (aq K c) dx fs)/\fs.map Prod.fst=ns/\FVs K (cH O a) H (fs.map Prod.snd) ds
theorem lq.out {p:PV}{v:V} (R:Rel K A ρ σ H) (g:Gr H H') (h:lq K (OO A ρ σ) H H' p v):Out K A ρ σ H H' p v:=by
 cases p with
 | dat d=>exact ⟨R.gr g,h⟩
 | own ds =>
  obtain ⟨a,xs,rfl,e0,e,f⟩:=h
  refine ⟨a,xs,rfl,fun z=>R.dom a z e0,e0,e,R.grA g e0 (by rw [e];exact nofun),f.keeps (aK.less fun b z=>?_)⟩
  rcases z with (z | z) | z
  .exact .inl (.inl z)
  .exact .inr z
  .exact .inl (.inr z)
 | ins c ns ds =>
  obtain ⟨a,dx,fs,rfl,e0,e,m,f⟩:=h
  refine ⟨a,dx,fs,rfl,fun z=>R.dom a z e0,e0,e,m,R.grA g e0 (by rw [e];exact nofun),f.keeps (aK.less fun b z=>?_)⟩
  rcases z with (z | z) | z
  .exact .inl (.inl z)
  .exact .inr z
  .exact .inl (.inr z)
def FVc (K:PySem.W.Frag) (O:Addr->Prop) (H:Hp) (v:V) (d:D):Prop:=FV K O H v d\/(∃a xs ds,v=.ref a/\d=.lst ds/\H a=some (.lst xs)/\FVs K O H xs ds) \/
 ∃a dx c fs ns ds,v=.ref a/\d=.obj c ns ds/\H a=some (.ins (aq K c) dx fs)/\fs.map Prod.fst=ns/\FVs K O H (fs.map Prod.snd) ds
def cont (ρ:PSt):AV->Option D
 | .v d=>some d
 | .sl i=>match ρ[i]? with | some (some p)=>some p.d | _=>none
theorem Rel.cont {av:AV}{v:V}{d:D} (R:Rel K A ρ σ H) (h:AOk K (OO A ρ σ) σ H av v) (e:L2.cont ρ av=some d):FVc K (OO A ρ σ) H v d:=by
 cases av with
 | v d'=>cases e;exact .inl h
 | sl i =>
  have h:σ[i]?=some (some v):=h
  simp only [L2.cont] at e
  split at e
  .rename_i p ep
   cases e
   obtain ⟨v',s,r⟩:=R.get i p ep
   rw [h] at s;cases s
   cases p with
   | dat d=>exact .inl r
   | own ds=>obtain ⟨a,xs,e1,e2,f⟩:=r;exact .inr (.inl ⟨a,xs,ds,e1,rfl,e2,f⟩)
   | ins c ns ds=>obtain ⟨a,dx,fs,e1,e2,m,f⟩:=r;exact .inr (.inr ⟨a,dx,c,fs,ns,ds,e1,rfl,e2,m,f⟩)
  .cases e
theorem FVc.lst {v:V}{ds:List D} (h:FVc K O H v (.lst ds)):∃a xs,v=.ref a/\H a=some (.lst xs)/\FVs K O H xs ds:=by
 rcases h with h | ⟨a,xs,ds',e1,e2,e3,f⟩ | ⟨a,dx,c,fs,ns,ds',e1,e2,_⟩
 .cases h with
  | lst n s f=>exact ⟨_,_,rfl,s,f⟩
 .cases e2;exact ⟨a,xs,e1,e3,f⟩
 .cases e2
theorem FVc.fv {v:V}{d:D} (h:FVc K O H v d) (n:∀ds,d≠.lst ds) (n':∀c ns ds,d≠.obj c ns ds):FV K O H v d:=by
 rcases h with h | ⟨a,xs,ds',e1,e2,e3,f⟩ | ⟨a,dx,c,fs,ns,ds',e1,e2,_⟩
 .exact h
 .exact absurd e2 (n _)
 .exact absurd e2 (n' _ _ _)
theorem FVc.tup {v:V}{ds:List D} (h:FVc K O H v (.tup ds)):∃a xs,v=.ref a/\¬ O a/\H a=some (.tup xs)/\FVs K O H xs ds:=by
 cases h.fv nofun nofun with
 | tup n s f=>exact ⟨_,_,rfl,n,s,f⟩
theorem FVc.scr {v:V}{ns:List Int} (h:FVc K O H v (.scr ns)):∃a,v=.ref a/\SqL K H a (ns.map V.int):=by
 cases h.fv nofun nofun with
 | scr s=>exact ⟨_,rfl,s.sq⟩
theorem FVc.int {v:V}{i:Int} (h:FVc K O H v (.int i)):v=.int i:=by cases h.fv nofun nofun;rfl
theorem FVc.str {v:V}{i:List Nat} (h:FVc K O H v (.str i)):v=.str (S i)/\i.length<=1000000:=by
 cases h.fv nofun nofun with
 | str _ z=>exact ⟨rfl,z⟩
end
def pC (d:D):PTE:=fun ρ Q=>Q (.dat d) ρ
def bD (i:Nat):PTE:=fun ρ Q=>match ρ[i]? with
 | some (some (.dat d))=>Q (.dat d) ρ
 | some (some (.own ds))=>Q (.dat (.lst ds)) (ρ.set i (some (.dat (.lst ds))))
 | some (some (.ins c ns ds))=>Q (.dat (.obj c ns ds)) (ρ.set i (some (.dat (.obj c ns ds))))
 | _=>False
def pSl (i:Nat):PA1:=fun ρ Q=>match ρ[i]? with
 | some (some (.dat d))=>Q (.v d) ρ
 | some (some (.own _))=>Q (.sl i) ρ
 | some (some (.ins _ _ _))=>Q (.sl i) ρ
 | _=>False
def pFz (pe:PTE):PA1:=fun ρ Q=>pe ρ fun p ρ1=>Q (.v p.d) ρ1
def am:PTA:=fun ρ Q=>Q [] ρ
def af (pa:PA1) (pr:PTA):PTA:=fun ρ Q=>pa ρ fun a ρ1=>pr ρ1 fun as ρ2=>Q (a::as) ρ2
section
variable {K:PySem.W.Frag}{ta tb tc:TE}{pa pb pc:PA1}{pe pe':PTE}{tr:TA}{pr:PTA}
theorem yg {v:V}{d:D} (h:∀O H,FV K O H v d):LE K (tC v) (pC d):=fun A ρ σ H Q Q' R q k=>k v H (.dat d) ρ q (Fr.refl _ _ _) ⟨R,h _ _⟩
theorem le_int {i:Int}:LE K (tC (.int i)) (pC (.int i)):=yg fun _ _=>.int i
theorem fN {i:Bool}:LE K (tC (.bl i)) (pC (.bl i)):=yg fun _ _=>.bl i
theorem pN:LE K (tC .non) (pC .non):=yg fun _ _=>.non
theorem le_str {l:List Nat} (h:l.length<=1000000:=by decide):LE K (tC (.str (S l))) (pC (.str l)):=yg fun _ _=>.str l h
theorem ay {i:Nat}:LE K (b5 i) (bD i):=by
 intro A ρ σ H Q Q' R q k
 unfold bD at q
 split at q
 .rename_i d e
  obtain ⟨v,s,r⟩:=R.get i _ e
  exact ⟨v,s,k v H (.dat d) ρ q (Fr.refl _ _ _) ⟨R,r⟩⟩
 .rename_i ds e
  obtain ⟨R',f⟩:=R.frz e
  obtain ⟨v,s,r⟩:=R'.get i _ (List.getElem?_set_self (List.getElem?_eq_some_iff.mp e).1)
  exact ⟨v,s,k v H (.dat (.lst ds)) _ q f ⟨R',r⟩⟩
 .rename_i c ns ds e
  obtain ⟨R',f⟩:=R.frz e
  obtain ⟨v,s,r⟩:=R'.get i _ (List.getElem?_set_self (List.getElem?_eq_some_iff.mp e).1)
  exact ⟨v,s,k v H (.dat (.obj c ns ds)) _ q f ⟨R',r⟩⟩
 .exact q.elim
theorem ar {i:Nat}:LA1 K (b5 i) (pSl i):=by
 intro A ρ σ H Q Q' R q k
 unfold pSl at q
 split at q
 .rename_i d e
  obtain ⟨v,s,r⟩:=R.get i _ e
  exact ⟨v,s,k v H _ ρ q (Fr.refl _ _ _) R r⟩
 .rename_i e
  obtain ⟨v,s,r⟩:=R.get i _ e
  exact ⟨v,s,k v H _ ρ q (Fr.refl _ _ _) R s⟩
 .rename_i e
  obtain ⟨v,s,r⟩:=R.get i _ e
  exact ⟨v,s,k v H _ ρ q (Fr.refl _ _ _) R s⟩
 .exact q.elim
theorem ac (h:LE K ta pe):LA1 K ta (pFz pe):=fun A ρ σ H Q Q' R q k=>h A ρ σ H _ Q' R q fun v H' p ρ' q f o=>k v H' _ ρ' q f o.frz.1 o.frz.2
theorem ae:LAs K gg am:=fun A ρ σ H Q Q' R q k=>k [] H [] ρ q (Fr.refl _ _ _) R .nil
theorem aa (h:LA1 K ta pa) (hr:LAs K tr pr):LAs K (bg ta tr) (af pa pr):=fun A ρ σ H Q Q' R q k =>
 h A ρ σ H _ _ R q fun v H1 a ρ1 q1 f1 R1 o1=>hr A ρ1 σ H1 _ _ R1 q1 fun vs H2 as ρ2 q2 f2 R2 o2=>k _ H2 _ ρ2 q2 (f1.trans f2) R2 (.cons (o1.keeps f2.keeps) o2)
def LO (K:PySem.W.Frag) (r:R2) (f:D->D->(PV->Prop)->Prop):Prop:=∀(O:Addr->Prop) (H:Hp) (x y:V) (a b:D) (Q:PV->Prop) (Q':VK),(∀b,O b->H b≠none)->FVc K O H x a->FVc K O H y b->f a b Q ->
 (∀v H' p,Q p->Gr H H'->lq K O H H' p v->Q' v H')->r x y H Q'
def op2 (f:D->D->(PV->Prop)->Prop) (ρ:PSt) (x y:AV) (Q:PKt):Prop:=match cont ρ x,cont ρ y with
 | some a,some b=>f a b fun p=>Q p ρ
 | _,_=>False
def pOp (f:D->D->(PV->Prop)->Prop) (pa pb:PA1):PTE:=fun ρ Q=>pa ρ fun x ρ1=>pb ρ1 fun y ρ2=>op2 f ρ2 x y Q
theorem Rel.dom2 {A:Addr->Prop}{ρ:PSt}{σ:St}{H:Hp} (R:Rel K A ρ σ H):∀b,OO A ρ σ b->H b≠none:=fun b z=>z.elim (R.dom b) R.wr
theorem aE {r:R2}{f:D->D->(PV->Prop)->Prop} (o:LO K r f) (ha:LA1 K ta pa) (hb:LA1 K tb pb):LE K (tOp r ta tb) (pOp f pa pb):=fun A ρ σ H Q Q' R q k =>
 ha A ρ σ H _ _ R q fun v H1 a ρ1 q1 f1 R1 o1=>hb A ρ1 σ H1 _ _ R1 q1 fun w H2 b ρ2 q2 f2 R2 o2=>by
  unfold op2 at q2
  split at q2
  .rename_i da db e1 e2
   exact o _ H2 v w da db _ _ R2.dom2 (R2.cont (o1.keeps f2.keeps) e1) (R2.cont o2 e2) q2 fun z H3 p q3 g ov=>k z H3 p ρ2 q3 ((f1.trans f2).trans g.fr) ((ov.out R2 g).h0 fun b z=>f2.dm b (f1.dm b z))
  .exact q2.elim
def LU (K:PySem.W.Frag) (r:V->Hp->VK->Prop) (f:D->(PV->Prop)->Prop):Prop:=∀(O:Addr->Prop) (H:Hp) (x:V) (a:D) (Q:PV->Prop) (Q':VK),(∀b,O b->H b≠none)->FVc K O H x a->f a Q ->
 (∀v H' p,Q p->Gr H H'->lq K O H H' p v->Q' v H')->r x H Q'
def op1 (f:D->(PV->Prop)->Prop) (ρ:PSt) (x:AV) (Q:PKt):Prop:=match cont ρ x with
 | some a=>f a fun p=>Q p ρ
 | _=>False
def pUn (f:D->(PV->Prop)->Prop) (pa:PA1):PTE:=fun ρ Q=>pa ρ fun x ρ1=>op1 f ρ1 x Q
theorem yP {r:V->Hp->VK->Prop}{f:D->(PV->Prop)->Prop} (o:LU K r f) (ha:LA1 K ta pa):LE K (tUn r ta) (pUn f pa):=fun A ρ σ H Q Q' R q k =>
 ha A ρ σ H _ _ R q fun v H1 a ρ1 q1 f1 R1 o1=>by
  unfold op1 at q1
  split at q1
  .rename_i da e1
   exact o _ H1 v da _ _ R1.dom2 (R1.cont o1 e1) q1 fun z H3 p q3 g ov=>k z H3 p ρ1 q3 (f1.trans g.fr) ((ov.out R1 g).h0 fun b z=>f1.dm b z)
  .exact q1.elim
inductive vS (K:PySem.W.Frag) (O:Addr->Prop) (H:Hp):List V->List D->Prop
 | nil:vS K O H [] []
 | cons {x:V}{d:D}{xs:List V}{ds:List D}:FVc K O H x d->vS K O H xs ds->vS K O H (x::xs) (d::ds)
def conts (ρ:PSt):List AV->Option (List D)
 | []=>some []
 | a::r=>match cont ρ a,conts ρ r with
  | some d,some ds=>some (d::ds)
  | _,_=>none
theorem Rel.conts {A:Addr->Prop}{ρ:PSt}{σ:St}{H:Hp} (R:Rel K A ρ σ H):∀{as:List AV}{vs:List V}{ds:List D},sI K (OO A ρ σ) σ H as vs->L2.conts ρ as=some ds->vS K (OO A ρ σ) H vs ds
 | _,_,_,.nil,e=>by cases e;exact .nil
 | _,_,_,.cons a b,e=>by
  unfold L2.conts at e
  split at e
  .rename_i e1 e2
   cases e
   exact .cons (R.cont a e1) (R.conts b e2)
  .cases e
def LC (K:PySem.W.Frag) (r:List V->Hp->VK->Prop) (f:List D->(PV->Prop)->Prop):Prop:=∀(O:Addr->Prop) (H:Hp) (xs:List V) (as:List D) (Q:PV->Prop) (Q':VK),(∀b,O b->H b≠none)->vS K O H xs as->f as Q ->
 (∀v H' p,Q p->Gr H H'->lq K O H H' p v->Q' v H')->r xs H Q'
def opN (f:List D->(PV->Prop)->Prop) (ρ:PSt) (as:List AV) (Q:PKt):Prop:=match conts ρ as with
 | some ds=>f ds fun p=>Q p ρ
 | _=>False
def pCB (f:List D->(PV->Prop)->Prop) (pr:PTA):PTE:=fun ρ Q=>pr ρ fun as ρ1=>opN f ρ1 as Q
theorem bz {r:List V->Hp->VK->Prop}{f:List D->(PV->Prop)->Prop} (o:LC K r f) (ha:LAs K tr pr):LE K (tCB r tr) (pCB f pr):=fun A ρ σ H Q Q' R q k =>
 ha A ρ σ H _ _ R q fun vs H1 as ρ1 q1 f1 R1 o1=>by
  unfold opN at q1
  split at q1
  .rename_i ds e1
   exact o _ H1 vs ds _ _ R1.dom2 (R1.conts o1 e1) q1 fun z H3 p q3 g ov=>k z H3 p ρ1 q3 (f1.trans g.fr) ((ov.out R1 g).h0 fun b z=>f1.dm b z)
  .exact q1.elim
def avD:List AV->Option (List D)
 | []=>some []
 | .v d::r=>match avD r with | some ds=>some (d::ds) | none=>none
 | .sl _::_=>none
theorem sI.avD {O:Addr->Prop}{σ:St}{H:Hp}:∀{as:List AV}{vs:List V}{ds:List D},sI K O σ H as vs->L2.avD as=some ds->FVs K O H vs ds
 | _,_,_,.nil,e=>by cases e;exact .nil
 | .v d::r,_,_,.cons a b,e=>by
  simp only [L2.avD] at e
  split at e
  .rename_i e1;cases e;exact .cons a (b.avD e1)
  .cases e
 | .sl i::r,_,_,.cons a b,e=>by cases e
def rG (pr:PTA):PTE:=fun ρ Q=>pr ρ fun as ρ1=>match avD as with
 | some ds=>ds.length<=1000000/\Q (.own ds) ρ1
 | _=>False
def yh (pr:PTA):PTE:=fun ρ Q=>pr ρ fun as ρ1=>match avD as with
 | some ds=>ds.length<=1000000/\Q (.dat (.tup ds)) ρ1
 | _=>False
theorem gn (ha:LAs K tr pr):LE K (zH tr) (rG pr):=fun A ρ σ H Q Q' R q k =>
 ha A ρ σ H _ _ R q fun vs H1 as ρ1 q1 f1 R1 o1=>by
  split at q1
  .rename_i ds e1
   have fs:=o1.avD e1
   refine ⟨sz _ (by rw [fs.length];exact q1.1),fun p hp=>k _ _ (.own ds) ρ1 q1.2 (f1.trans (Fr.new hp)) ?_⟩
   have g:Gr H1 (upd H1 p (.lst vs)):=Gr.new hp
   exact (lq.out (p:=.own ds) R1 g ⟨p,vs,rfl,hp,au,fs.keeps (aK.fresh hp)⟩).h0 fun b z=>f1.dm b z
  .exact q1.elim
theorem pO (ha:LAs K tr pr):LE K (yz tr) (yh pr):=fun A ρ σ H Q Q' R q k =>
 ha A ρ σ H _ _ R q fun vs H1 as ρ1 q1 f1 R1 o1=>by
  split at q1
  .rename_i ds e1
   have fs:=o1.avD e1
   refine ⟨sz _ (by rw [fs.length];exact q1.1),fun p hp=>k _ _ (.dat (.tup ds)) ρ1 q1.2 (f1.trans (Fr.new hp)) ⟨R1.grow hp,?_⟩⟩
   exact .tup (R1.oo hp) au (fs.keeps (Fr.new hp).keeps)
  .exact q1.elim
def pB (pe:PTE):PTT:=fun ρ Q=>pe ρ fun p ρ1=>match p with
 | .dat (.bl b)=>Q b ρ1
 | _=>False
theorem ji (h:LE K ta pe):LT K (tB ta) (pB pe):=fun A ρ σ H Q Q' R q k=>h A ρ σ H _ _ R q fun v H1 p ρ1 q1 f1 o1=>by
 split at q1
 .rename_i b
  obtain ⟨R1,f⟩:=o1
  cases f
  exact ⟨b,rfl,k b H1 ρ1 q1 f1 R1⟩
 .exact q1.elim
theorem lr (h:LE K ta pe):LT K (ou ta) (pB pe):=ji h
def zQ (a b:PTT):PTT:=fun ρ Q=>a ρ fun c ρ1=>gA c (b ρ1 Q) (Q false ρ1)
def pOr (a b:PTT):PTT:=fun ρ Q=>a ρ fun c ρ1=>gA c (Q true ρ1) (b ρ1 Q)
def mC (a:PTT):PTT:=fun ρ Q=>a ρ fun c ρ1=>Q (!c) ρ1
variable {tta ttb:TT}{pta ptb:PTT}
theorem xg (ha:LT K tta pta) (hb:LT K ttb ptb):LT K (zy tta ttb) (zQ pta ptb):=fun A ρ σ H Q Q' R q k=>ha A ρ σ H _ _ R q fun c H1 ρ1 q1 f1 R1=>by
 cases c with
 | true=>exact hb A ρ1 σ H1 _ _ R1 q1 fun b H2 ρ2 q2 f2 R2=>k b H2 ρ2 q2 (f1.trans f2) R2
 | false=>exact k false H1 ρ1 q1 f1 R1
theorem kQ (ha:LT K tta pta) (hb:LT K ttb ptb):LT K (tOr tta ttb) (pOr pta ptb):=fun A ρ σ H Q Q' R q k=>ha A ρ σ H _ _ R q fun c H1 ρ1 q1 f1 R1=>by
 cases c with
 | false=>exact hb A ρ1 σ H1 _ _ R1 q1 fun b H2 ρ2 q2 f2 R2=>k b H2 ρ2 q2 (f1.trans f2) R2
 | true=>exact k true H1 ρ1 q1 f1 R1
theorem cY (ha:LT K tta pta):LT K (zA tta) (mC pta):=fun A ρ σ H Q Q' R q k=>ha A ρ σ H _ _ R q fun c H1 ρ1 q1 f1 R1=>k _ H1 ρ1 q1 f1 R1
def lJ (a b:PTE):PTE:=fun ρ Q=>a ρ fun p ρ1=>match p with
 | .dat (.bl c)=>gA c (b ρ1 Q) (Q (.dat (.bl false)) ρ1)
 | _=>False
def rH (a:PTE):PTE:=fun ρ Q=>a ρ fun p ρ1=>match p with
 | .dat (.bl c)=>Q (.dat (.bl (!c))) ρ1
 | _=>False
theorem jj (ha:LE K ta pe) (hb:LE K tb pe'):LE K (wj ta tb) (lJ pe pe'):=fun A ρ σ H Q Q' R q k=>ha A ρ σ H _ _ R q fun v H1 p ρ1 q1 f1 o1=>by
 split at q1
 .rename_i c
  obtain ⟨R1,f⟩:=o1
  cases f
  refine ⟨c,rfl,?_⟩
  cases c with
  | true=>exact hb A ρ1 σ H1 _ _ R1 q1 fun b H2 p2 ρ2 q2 f2 o2=>k b H2 p2 ρ2 q2 (f1.trans f2) (o2.h0 fun b z=>f1.dm b z)
  | false=>exact k _ H1 _ ρ1 q1 f1 ⟨R1,.bl false⟩
 .exact q1.elim
theorem pP (ha:LE K ta pe):LE K (wk ta) (rH pe):=fun A ρ σ H Q Q' R q k=>ha A ρ σ H _ _ R q fun v H1 p ρ1 q1 f1 o1=>by
 split at q1
 .rename_i c
  obtain ⟨R1,f⟩:=o1
  cases f
  exact ⟨c,rfl,k _ H1 _ ρ1 q1 f1 ⟨R1,.bl (!c)⟩⟩
 .exact q1.elim
end
abbrev F2:=D->D->(PV->Prop)->Prop
def fI0 (g:Int->Int->D):F2
 | .int i,.int j,Q=>Q (.dat (g i j))
 | _,_,_=>False
def fI (C:Int->Int->Prop) (g:Int->Int->D):F2
 | .int i,.int j,Q=>C i j/\Q (.dat (g i j))
 | _,_,_=>False
section
variable {K:PySem.W.Frag}{X:Cx}
theorem uy {g:Int->Int->V}{g':Int->Int->D} (h:∀i j O H,FV K O H (g i j) (g' i j)):LO K (rI0 g) (fI0 g'):=by
 intro O H x y a b Q Q' dom fx fy q k
 unfold fI0 at q
 split at q
 .rename_i i j;exact ⟨i,j,fx.int,fy.int,k _ H _ q (Gr.refl _) (h i j _ _)⟩
 .exact q.elim
theorem yQ {C:Int->Int->Prop}{g:Int->Int->V}{g':Int->Int->D} (h:∀i j O H,FV K O H (g i j) (g' i j)):LO K (rI C g) (fI C g'):=by
 intro O H x y a b Q Q' dom fx fy q k
 unfold fI at q
 split at q
 .rename_i i j;exact ⟨i,j,fx.int,fy.int,q.1,k _ H _ q.2 (Gr.refl _) (h i j _ _)⟩
 .exact q.elim
theorem dg {O:Addr->Prop}{H:Hp}{xs:List V}{ds:List D}{p:Addr} (hp:H p=none) (f:FVs K O H xs ds):lq K O H (upd H p (.lst xs)) (.own ds) (.ref p) :=
 ⟨p,xs,rfl,hp,au,f.keeps (aK.fresh hp)⟩
theorem hV {O:Addr->Prop}{H:Hp}{xs:List V}{ds:List D}{p:Addr} (dom:∀b,O b->H b≠none) (hp:H p=none) (f:FVs K O H xs ds):lq K O H (upd H p (.tup xs)) (.dat (.tup ds)) (.ref p) :=
 .tup (fun z=>dom p z hp) au (f.keeps fun b o n e=>⟨n,by rw [ak (aD e hp)];exact e⟩)
def yR:R2:=fun x y H Q=>∃i j,x=.str (S i)/\y=.str (S j)/\i.length + j.length<=sizeLine/\Q (.str (S (i++j))) H
def uz (K:PySem.W.Frag):R2:=fun x y H Q=>rI0 (fun i j=>.int (i + j)) x y H Q\/yR x y H Q\/wZ K x y H Q\/wE K x y H Q
theorem yS (K:PySem.W.Frag) (e:X.K=K):OpR X (binaryOp .Add) (uz K):=by
 subst e
 exact OpR.or wt (OpR.or ui (OpR.or um t7))
def yT:F2
 | .int i,.int j,Q=>Q (.dat (.int (i + j)))
 | .str a,.str b,Q=>a.length + b.length<=1000000/\Q (.dat (.str (a++b)))
 | .lst a,.lst b,Q=>a.length + b.length<=1000000/\Q (.own (a++b))
 | .scr a,.lst b,Q=>a.length + b.length<=1000000/\Q (.own (a.map .int++b))
 | .tup a,.tup b,Q=>a≠[]/\a.length + b.length<=1000000/\Q (.dat (.tup (a++b)))
 | _,_,_=>False
theorem sJ:LO K (uz K) yT:=by
 intro O H x y a b Q Q' dom fx fy q k
 unfold yT at q
 split at q
 .rename_i i j;exact .inl ⟨i,j,fx.int,fy.int,k _ H _ q (Gr.refl _) (.int _)⟩
 .rename_i i j;exact .inr (.inl ⟨i,j,fx.str.1,fy.str.1,sz _ q.1,k _ H _ q.2 (Gr.refl _) (.str _ (by rw [List.length_append];exact q.1))⟩)
 .rename_i i j
  obtain ⟨a,xs,rfl,e1,f1⟩:=fx.lst
  obtain ⟨b,ys,rfl,e2,f2⟩:=fy.lst
  exact .inr (.inr (.inl ⟨a,b,xs,ys,rfl,rfl,SqL.of e1,SqL.of e2,sz _ (by rw [f1.length,f2.length];exact q.1),fun p hp=>k _ _ _ q.2 (Gr.new hp) (dg hp (f1.append f2))⟩))
 .rename_i i j
  obtain ⟨a,rfl,e1⟩:=fx.scr
  obtain ⟨b,ys,rfl,e2,f2⟩:=fy.lst
  exact .inr (.inr (.inl ⟨a,b,_,ys,rfl,rfl,e1,SqL.of e2,sz _ (by rw [List.length_map,f2.length];exact q.1),fun p hp=>k _ _ _ q.2 (Gr.new hp) (dg hp ((FVs.of_ints i).append f2))⟩))
 .rename_i i j
  obtain ⟨a,xs,rfl,n1,e1,f1⟩:=fx.tup
  obtain ⟨b,ys,rfl,n2,e2,f2⟩:=fy.tup
  have l1:=f1.length
  have l2:=f2.length
  refine .inr (.inr (.inr ⟨a,b,xs,ys,rfl,rfl,SqT.of e1,SqT.of e2,fun z=>q.1 ?_,sz _ (by rw [l1,l2];exact q.2.1),fun z=>?_,fun _ p hp=>k _ _ _ q.2.2 (Gr.new hp) (hV dom hp (f1.append f2))⟩))
  .exact List.length_eq_zero_iff.mp (by rw [<- l1,z];rfl)
  .have:j=[]:=List.length_eq_zero_iff.mp (by rw [<- l2,z];rfl)
   subst this
   exact k _ H _ q.2.2 (Gr.refl _) (by rw [List.append_nil];exact .tup n1 e1 f1)
 .exact q.elim
theorem pQ:LO K (rI0 fun i j=>.int (i - j)) (fI0 fun i j=>.int (i - j)):=uy fun _ _ _ _=>.int _
theorem hX:LO K (rI (fun _ j=>0 < j) fun i j=>.int (i % j)) (fI (fun _ j=>0 < j) fun i j=>.int (i % j)):=yQ fun _ _ _ _=>.int _
theorem uA:LO K (rI yr fun i j=>.int (i / j)) (fI (fun _ j=>0 < j/\j < 1073741824) fun i j=>.int (i / j)):=yQ fun _ _ _ _=>.int _
theorem xh:LO K (rI yt fun i j=>.int (i ^ j.toNat)) (fI (fun i j=>0<=j/\j<=1000000/\i.natAbs < 2 ^ 64) fun i j=>.int (i ^ j.toNat)):=yQ fun _ _ _ _=>.int _
def yU:R2:=fun x y H Q=>∃l n,x=.str (S l)/\y=.int n/\-1000000<=n/\n<=1000000/\n.toNat * l.length<=sizeLine/\Q (.str (S (kG l n))) H
def xi:R2:=fun x y H Q=>rI yf (fun i j=>.int (i * j)) x y H Q\/yU x y H Q\/zM x y H Q
theorem jO:OpR X (binaryOp .Mult) xi:=OpR.or wv (OpR.or nz wK)
def pR:F2
 | .int i,.int j,Q=>((-(2 ^ 64) < i/\i < 2 ^ 64)\/(-(2 ^ 64) < j/\j < 2 ^ 64))/\Q (.dat (.int (i * j)))
 | .str a,.int n,Q=>(-1000000<=n/\n<=1000000/\n.toNat * a.length<=1000000)/\Q (.dat (.str (kG a n)))
 | .lst a,.int n,Q=>(-1000000<=n/\n<=1000000/\a.length * n.toNat<=1000000)/\Q (.own (kG a n))
 | _,_,_=>False
theorem FVs.rep {O:Addr->Prop}{H:Hp}{xs:List V}{ds:List D} (f:FVs K O H xs ds):∀n,FVs K O H (List.replicate n xs).flatten (List.replicate n ds).flatten
 | 0=>.nil
 | n + 1=>by rw [List.replicate_succ,List.replicate_succ,List.flatten_cons,List.flatten_cons];exact f.append (f.rep n)
theorem fj:LO K xi pR:=by
 intro O H x y a b Q Q' dom fx fy q k
 unfold pR at q
 split at q
 .rename_i i j;exact .inl ⟨i,j,fx.int,fy.int,q.1,k _ H _ q.2 (Gr.refl _) (.int _)⟩
 .rename_i i j;exact .inr (.inl ⟨i,j,fx.str.1,fy.int,q.1.1,q.1.2.1,sz _ q.1.2.2,k _ H _ q.2 (Gr.refl _) (.str _ (by rw [e7];exact q.1.2.2))⟩)
 .rename_i i j
  obtain ⟨a,xs,rfl,e1,f1⟩:=fx.lst
  exact .inr (.inr ⟨a,j,xs,rfl,fy.int,e1,by omega,by omega,sz _ (by rw [f1.length];exact q.1.2.2),fun p hp=>k _ _ _ q.2 (Gr.new hp) (dg hp (f1.rep _))⟩)
 .exact q.elim
def zR:R2:=fun x y H Q=>rI0 (fun i j=>.bl (decide (i < j))) x y H Q\/∃i j,x=.str i/\y=.str j/\Q (.bl (decide (i.cps.toList < j.cps.toList))) H
def yi:R2:=fun x y H Q=>rI0 (fun i j=>.bl (decide (i<=j))) x y H Q\/∃i j,x=.str i/\y=.str j/\Q (.bl (!decide (j.cps.toList < i.cps.toList))) H
theorem zS:OpR X (compareOp .Lt) zR:=OpR.or yv oq
theorem yj:OpR X (compareOp .LtE) yi:=OpR.or yw oV
def fLt:F2
 | .int i,.int j,Q=>Q (.dat (.bl (decide (i < j))))
 | .str i,.str j,Q=>Q (.dat (.bl (decide (i < j))))
 | _,_,_=>False
def fLe:F2
 | .int i,.int j,Q=>Q (.dat (.bl (decide (i<=j))))
 | .str i,.str j,Q=>Q (.dat (.bl (!decide (j < i))))
 | _,_,_=>False
theorem xj:LO K zR fLt:=by
 intro O H x y a b Q Q' dom fx fy q k
 unfold fLt at q
 split at q
 .rename_i i j;exact .inl ⟨i,j,fx.int,fy.int,k _ H _ q (Gr.refl _) (.bl _)⟩
 .rename_i i j;exact .inr ⟨_,_,fx.str.1,fy.str.1,k _ H _ q (Gr.refl _) (.bl _)⟩
 .exact q.elim
theorem rJ:LO K yi fLe:=by
 intro O H x y a b Q Q' dom fx fy q k
 unfold fLe at q
 split at q
 .rename_i i j;exact .inl ⟨i,j,fx.int,fy.int,k _ H _ q (Gr.refl _) (.bl _)⟩
 .rename_i i j;exact .inr ⟨_,_,fx.str.1,fy.str.1,k _ H _ q (Gr.refl _) (.bl _)⟩
 .exact q.elim
theorem nF:LO K (rI0 fun i j=>.bl (decide (j < i))) (fI0 fun i j=>.bl (decide (j < i))):=uy fun _ _ _ _=>.bl _
theorem yV:LO K (rI0 fun i j=>.bl (decide (j<=i))) (fI0 fun i j=>.bl (decide (j<=i))):=uy fun _ _ _ _=>.bl _
mutual
def D.py:D->PyData
 | .non=>.none | .bl b=>.bool b | .int i=>.int i | .str l=>.str (S l) | .ty _=>.none
 | .lst ds=>.list (D.pys ds) | .tup ds=>.tuple (D.pys ds) | .scr ns=>.list (ns.map .int) | .dic _ _=>.none | .obj _ _ _=>.none | .exc _ _ _=>.none
def D.pys:List D->List PyData
 | []=>[]
 | d::r=>d.py::D.pys r
end
mutual
def D.plain:D->Bool
 | .non=>true | .bl _=>true | .int _=>true | .str _=>true | .ty _=>false
 | .lst ds=>D.plains ds | .tup ds=>D.plains ds | .scr _=>true | .dic _ _=>false | .obj _ _ _=>false | .exc _ _ _=>false
def D.plains:List D->Bool
 | []=>true
 | d::r=>d.plain && D.plains r
end
mutual
theorem FV.dv {O:Addr->Prop}{H:Hp}:∀{v:V}{d:D},FV K O H v d->d.plain=true->DV K H v d.py
 | _,_,.non,_=>.non
 | _,_,.bl b,_=>.bl b
 | _,_,.int i,_=>.int i
 | _,_,.str l h,_=>.str (S l)
 | _,_,.ty n,p=>nomatch p
 | _,_,.scr s,_=>.lst s.sq (DVs.ints _)
 | _,_,.lst n e f,p=>.lst (SqL.of e) (FVs.dvs f p)
 | _,_,.tup n e f,p=>.tup (SqT.of e) (FVs.dvs f p)
 | _,_,.dic _ _ _ _,p=>nomatch p
 | _,_,.obj _ _ _ _,p=>nomatch p
 | _,_,.exc0 _ _,p=>nomatch p
 | _,_,.exc1 _ _ _ _ _ _,p=>nomatch p
theorem FVs.dvs {O:Addr->Prop}{H:Hp}:∀{vs:List V}{ds:List D},FVs K O H vs ds->D.plains ds=true->DVs K H vs (D.pys ds)
 | _,_,.nil,_=>.nil
 | _,_,.cons a b,p=>by
  have p:(_ && _)=true:=p
  rw [Bool.and_eq_true] at p
  exact .cons (FV.dv a p.1) (FVs.dvs b p.2)
end
theorem FVc.dv {O:Addr->Prop}{H:Hp}{v:V}{d:D} (h:FVc K O H v d) (p:d.plain=true):DV K H v d.py:=by
 rcases h with h | ⟨a,xs,ds',rfl,rfl,e3,f⟩ | ⟨a,dx,c,fs,ns,ds',e1,rfl,_⟩
 .exact h.dv p
 .exact .lst (SqL.of e3) (f.dvs p)
 .cases p
def yW (K:PySem.W.Frag) (neg:Bool):R2:=fun x y H Q=>rI0 (fun i j=>.bl (if neg then !decide (i=j) else decide (i=j))) x y H Q\/(∃i j,x=.str (S i)/\y=.str (S j)/\Q (.bl (if neg then !decide (i=j) else decide (i=j))) H)\/zO K neg x y H Q
theorem As (K:PySem.W.Frag) (e:X.K=K) (hu:X.A.units + 64 < cLine):OpR X (compareOp .Eq) (yW K false):=by
 subst e
 exact OpR.or wU (OpR.or wT (wR hu))
def xk (a b:D):Prop:=a.plain=true/\b.plain=true/\SeqAt.shaped a.py=true/\SeqAt.shaped b.py=true
def deq (a b:D):Bool:=PyData.eqv a.py b.py
def fEq:F2
 | .int i,.int j,Q=>Q (.dat (.bl (decide (i=j))))
 | .str i,.str j,Q=>Q (.dat (.bl (decide (i=j))))
 | a,b,Q=>xk a b/\Q (.dat (.bl (deq a b)))
theorem yX:LO K (yW K false) fEq:=by
 intro O H x y a b Q Q' dom fx fy q k
 unfold fEq at q
 split at q
 .rename_i i j;exact .inl ⟨i,j,fx.int,fy.int,k _ H _ q (Gr.refl _) (.bl _)⟩
 .rename_i i j;exact .inr (.inl ⟨i,j,fx.str.1,fy.str.1,k _ H _ q (Gr.refl _) (.bl _)⟩)
 .exact .inr (.inr ⟨_,_,fx.dv q.1.1,fy.dv q.1.2.1,q.1.2.2.1,q.1.2.2.2,k _ H _ q.2 (Gr.refl _) (.bl _)⟩)
def D.fl:D->Bool
 | .non=>true | .bl _=>true | .int _=>true | .str _=>true
 | _=>false
def eqF:D->D->Bool
 | .non,.non=>true
 | .bl a,.bl b=>a == b
 | .bl a,.int b=>(if a then 1 else 0) == b
 | .int a,.bl b=>a == (if b then 1 else 0)
 | .int a,.int b=>a == b
 | .str a,.str b=>a == b
 | _,_=>false
def inD (x:D) (xs:List D):Bool:=xs.any fun y=>eqF y x
theorem FV.fl {O:Addr->Prop}{H:Hp}{v:V}{d:D} (h:FV K O H v d) (f:d.fl=true):iO v=true:=by cases h <;> first | rfl | cases f
theorem xl (a b:List Nat):(S a == S b)=(a == b):=by
 by_cases h:a=b
 .subst h;rw [beq_self_eq_true,beq_self_eq_true]
 .rw [beq_eq_false_iff_ne.mpr h,beq_eq_false_iff_ne.mpr (Ap h)]
theorem FV.eqF {O:Addr->Prop}{H:Hp}{v w:V}{d e:D} (h:FV K O H v d) (f:d.fl=true) (h':FV K O H w e) (f':e.fl=true):eqV v w=L2.eqF d e:=by
 cases h <;> first | (cases f;done) | (cases h' <;> first | (cases f';done) | rfl | exact xl _ _)
theorem FVs.inD {O:Addr->Prop}{H:Hp}{v:V}{d:D} (h:FV K O H v d) (f:d.fl=true):∀{xs:List V}{ds:List D},FVs K O H xs ds->ds.all D.fl=true->xs.all iO=true/\inV v xs=L2.inD d ds
 | _,_,.nil,_=>⟨rfl,rfl⟩
 | _,_,.cons a b,g=>by
  rw [List.all_cons,Bool.and_eq_true] at g
  obtain ⟨i1,i2⟩:=b.inD h f g.2
  refine ⟨by rw [List.all_cons,a.fl g.1,i1];rfl,?_⟩
  unfold inV L2.inD at i2 ⊢
  rw [List.any_cons,List.any_cons,i2,a.eqF g.1 h f]
def fIn (neg:Bool):F2
 | a,.lst ds,Q=>(a.fl=true/\ds.all D.fl=true)/\Q (.dat (.bl (if neg then !inD a ds else inD a ds)))
 | a,.tup ds,Q=>(a.fl=true/\ds.all D.fl=true)/\Q (.dat (.bl (if neg then !inD a ds else inD a ds)))
 | _,_,_=>False
theorem FVc.fl {O:Addr->Prop}{H:Hp}{v:V}{d:D} (h:FVc K O H v d) (f:d.fl=true):FV K O H v d:=h.fv (fun _ z=>by rw [z] at f;cases f) (fun _ _ _ z=>by rw [z] at f;cases f)
theorem uB (K:PySem.W.Frag) (e:X.K=K):OpR X (compareOp .NotIn) (rIn K true):=by subst e;exact kA
theorem xm {neg:Bool}:LO K (rIn K neg) (fIn neg):=by
 intro O H x y a b Q Q' dom fx fy q k
 unfold fIn at q
 split at q
 .obtain ⟨p,xs,rfl,e1,f1⟩:=fy.lst
  obtain ⟨g1,g2⟩:=f1.inD (fx.fl q.1.1) q.1.1 q.1.2
  exact ⟨p,xs,rfl,.inl (SqL.of e1),(fx.fl q.1.1).fl q.1.1,g1,by rw [g2];exact k _ H _ q.2 (Gr.refl _) (.bl _)⟩
 .obtain ⟨p,xs,rfl,n1,e1,f1⟩:=fy.tup
  obtain ⟨g1,g2⟩:=f1.inD (fx.fl q.1.1) q.1.1 q.1.2
  exact ⟨p,xs,rfl,.inr (SqT.of e1),(fx.fl q.1.1).fl q.1.1,g1,by rw [g2];exact k _ H _ q.2 (Gr.refl _) (.bl _)⟩
 .exact q.elim
def uC (K:PySem.W.Frag):R2:=fun x y H Q=>zJ K x y H Q\/zK K x y H Q\/wS x y H Q
theorem jP (K:PySem.W.Frag) (e:X.K=K):IxR X (uC K):=by
 subst e
 exact IxR.or ua (IxR.or wF uh)
def fIx:F2
 | .lst ds,.int i,Q=>∃d,atI ds i=some d/\Q (.dat d)
 | .tup ds,.int i,Q=>∃d,atI ds i=some d/\Q (.dat d)
 | .scr ns,.int i,Q=>∃d,atI ns i=some d/\Q (.dat (.int d))
 | .str l,.int i,Q=>∃c,atI l i=some c/\Q (.dat (.str [c]))
 | _,_,_=>False
theorem FVs.atI {O:Addr->Prop}{H:Hp}{vs:List V}{ds:List D}{i:Int}{d:D} (f:FVs K O H vs ds) (h:L2.atI ds i=some d):∃v,L2.atI vs i=some v/\FV K O H v d:=by
 unfold L2.atI at h ⊢
 rw [f.length]
 cases e:ixN ds.length i with
 | none=>rw [e] at h;cases h
 | some j=>rw [e] at h;exact f.getD h
theorem dh:LO K (uC K) fIx:=by
 intro O H x y a b Q Q' dom fx fy q k
 unfold fIx at q
 split at q
 .obtain ⟨d,hd,q⟩:=q
  obtain ⟨p,xs,rfl,e1,f1⟩:=fx.lst
  obtain ⟨v,hv,fv⟩:=f1.atI hd
  exact .inl ⟨p,xs,_,v,rfl,fy.int,SqL.of e1,hv,k _ H _ q (Gr.refl _) fv⟩
 .obtain ⟨d,hd,q⟩:=q
  obtain ⟨p,xs,rfl,n1,e1,f1⟩:=fx.tup
  obtain ⟨v,hv,fv⟩:=f1.atI hd
  exact .inr (.inl ⟨p,xs,_,v,rfl,fy.int,SqT.of e1,hv,k _ H _ q (Gr.refl _) fv⟩)
 .obtain ⟨d,hd,q⟩:=q
  obtain ⟨p,rfl,e1⟩:=fx.scr
  exact .inl ⟨p,_,_,_,rfl,fy.int,e1,uj hd,k _ H _ q (Gr.refl _) (.int d)⟩
 .obtain ⟨c,hc,q⟩:=q
  exact .inr (.inr ⟨_,_,c,fx.str.1,fy.int,sz _ fx.str.2,hc,k _ H _ q (Gr.refl _) (.str _ (by show 1<=1000000;decide))⟩)
 .exact q.elim
end
end L2
namespace L2
open PySem PySem.Spec PyProof.Rows _root_.HT
section
variable {prog:Program}{w:World}{A:Around}{E:Value->Shared->Prop}{s:Shared}
theorem fO {t sl:Addr}{items:Array Value}{vl vu:Value}{lo hi:Option Int}{Q:Value->Shared->Prop} (ht:IsTup s.heap t items) (hs:s.heap.IsSliceOf sl vl vu .none) (pl:IsPart vl lo) (pu:IsPart vu hi)
  (hw:sIx items.size 0 lo=0/\sIx items.size items.size hi=items.size)
  (h:Q (.ref t) s):wpAny (model prog w) A (getItem (.ref t) (.ref sl)) Q E s:=by
 obtain ⟨os,hos,hcs,hds⟩:=id hs
 have hTs:s.TypeIs (.ref sl) "slice":=⟨os,hos,hcs⟩
 unfold getItem
 try with_reducible refine wpAny_holding ?_
 first | refine wpAny_bind (wpAny_pure ?_) | skip
 refine wpAny_bind (wpAny_sequenceKey ht.typeIs (by decide) ?_)
 refine wpAny_bind (wpAny_callSpecial?_slot (name:=Str.ofString "__getitem__") ht.typeIs PyProof.Rows.slot_tuple_getitem
  (wpAny_call_entry PyProof.Rows.slot_tuple_getitem ht.typeIs entry_tuple_getitem ?_ (args_tuple_getitem _ _)))
 show wpAny _ _ (Builtin.Tuple.tupleItemsOf (.ref t) >>= _) _ _ s
 refine wpAny_bind (tupleItemsOf_ ht ?_)
 refine wpAny_bind (wpAny_typeOf hTs ?_)
 rw [if_pos (by decide)]
 refine wpAny_bind (dC hs pl pu ?_)
 have hyes:(((sIx items.size 0 lo:Nat):Int) == 0 && (1:Int) == 1 && (sIx items.size items.size hi - sIx items.size 0 lo) == items.size)=true:=by
  rw [hw.1,hw.2,Nat.sub_zero];simp
 show wpAny _ _ (if (((sIx items.size 0 lo:Nat):Int) == 0 && (1:Int) == 1 && (sIx items.size items.size hi - sIx items.size 0 lo) == items.size)=true then _ else _) _ _ s
 rw [if_pos hyes]
 refine wpAny_bind (m:=Builtin.Tuple.tupleIsExact _) (wpAny_bind (wpAny_typeOf ht.typeIs (wpAny_pure ?_)))
 rw [if_pos (by decide)]
 first
  | exact wpAny_bind (m:=rule _) (wpAny_pure (wpAny_pure ⟨_,rfl,wpAny_pure h⟩))
  | exact wpAny_pure ⟨_,rfl,wpAny_pure h⟩
  | exact wpAny_bind (wpAny_rule (wpAny_pure ⟨_,rfl,wpAny_pure h⟩))
def xn (K:PySem.W.Frag):V->Option Int->Option Int->Hp->VK->Prop:=fun x lo hi H Q=>∃a xs,x=.ref a/\SqT K H a xs/\(sIx xs.length 0 lo=0/\sIx xs.length xs.length hi=xs.length)/\Q (.ref a) H
theorem uD {X:Cx}:SlR X (xn X.K):=by
 intro pins s σ H x v vl vu lo hi sl Q I rx hs pl pu h
 obtain ⟨a,xs,rfl,hx,hw,q⟩:=h
 cases rx
 obtain ⟨its,r,ht,hz⟩:=I.tuple hx
 have hlen:its.toArray.size=xs.length:=by rw [List.size_toArray];exact r.length.symm
 refine ⟨"tuple",_,PyProof.Rows.slot_tuple_getitem.lookup,ht.typeIs,?_⟩
 exact fO ht hs pl pu (by rw [hlen];exact hw) ⟨.ref a,H,I,rfl,q⟩
end
end L2
namespace L2
open PySem PySem.Spec PyProof.Rows
section
variable {K:PySem.W.Frag}{X:Cx}{ta tb tc to:TE}{pa pb pc:PA1}{pe:PTE}{tr:TA}{pr:PTA}
def pS (f f':F2) (pa pb pc:PA1):PTE:=fun ρ Q=>pa ρ fun x ρ1=>pb ρ1 fun y ρ2=>op2 f ρ2 x y fun p ρ3=>match p with
 | .dat (.bl k)=>gA k (pc ρ3 fun z ρ4=>op2 f' ρ4 y z Q) (Q (.dat (.bl false)) ρ3)
 | _=>False
theorem mD {r r':R2}{f f':F2} (o:LO K r f) (o':LO K r' f') (ha:LA1 K ta pa) (hb:LA1 K tb pb) (hc:LA1 K tc pc):LE K (mq r r' ta tb tc) (pS f f' pa pb pc):=fun A ρ σ H Q Q' R q k =>
 ha A ρ σ H _ _ R q fun v H1 a ρ1 q1 f1 R1 o1=>hb A ρ1 σ H1 _ _ R1 q1 fun w H2 b ρ2 q2 f2 R2 o2=>by
  unfold op2 at q2
  split at q2
  .rename_i da db e1 e2
   refine o _ H2 v w da db _ _ R2.dom2 (R2.cont (o1.keeps f2.keeps) e1) (R2.cont o2 e2) q2 fun z H3 p q3 g ov=>?_
   dsimp only at q3
   split at q3
   .rename_i c
    cases ov
    refine ⟨c,rfl,?_⟩
    have R3:=R2.gr g
    cases c with
    | true =>
     refine hc A ρ2 σ H3 _ _ R3 q3 fun u H4 cc ρ4 q4 f4 R4 o4=>?_
     try unfold op2 at q4
     split at q4
     .rename_i dc dd e3 e4
      have o2':AOk K (OO A ρ4 σ) σ H4 b w:=(o2.keeps (g.fr (ρ:=ρ2) (σ:=σ)).keeps).keeps f4.keeps
      exact o' _ H4 w u _ _ _ _ R4.dom2 (R4.cont o2' e3) (R4.cont o4 e4) q4 fun z H5 p q5 g5 ov=>k z H5 p ρ4 q5 ((((f1.trans f2).trans g.fr).trans f4).trans g5.fr) ((ov.out R4 g5).h0 fun b z=>f4.dm b ((g.fr (ρ:=ρ2) (σ:=σ)).dm b (f2.dm b (f1.dm b z))))
     .exact q4.elim
    | false=>exact k _ H3 _ ρ2 q3 ((f1.trans f2).trans g.fr) ⟨R3,.bl false⟩
   .exact q3.elim
  .exact q2.elim
abbrev PTO:=PSt->(Option Int->PSt->Prop)->Prop
def LPo (K:PySem.W.Frag) (t:TO) (p:PTO):Prop:=∀(A:Addr->Prop) (ρ:PSt) (σ:St) (H:Hp) (Q:Option Int->PSt->Prop) (Q':Option Int->Hp->Prop),Rel K A ρ σ H->p ρ Q ->
 (∀b H' ρ',Q b ρ'->Fr ρ σ H ρ' H'->Rel K A ρ' σ H'->Q' b H')->t σ H Q'
def gq:PTO:=fun ρ Q=>Q none ρ
def eO (pe:PTE):PTO:=fun ρ Q=>pe ρ fun p ρ1=>match p with
 | .dat (.int i)=>Q (some i) ρ1
 | _=>False
theorem di:LPo K oJ gq:=fun A ρ σ H Q Q' R q k=>k none H ρ q (Fr.refl _ _ _) R
theorem cw (h:LE K ta pe):LPo K (wC ta) (eO pe):=fun A ρ σ H Q Q' R q k=>h A ρ σ H _ _ R q fun v H1 p ρ1 q1 f1 o1=>by
 split at q1
 .rename_i i
  obtain ⟨R1,f⟩:=o1
  cases f
  exact ⟨i,rfl,k _ H1 ρ1 q1 f1 R1⟩
 .exact q1.elim
def yY (K:PySem.W.Frag):V->Option Int->Option Int->Hp->VK->Prop:=fun x lo hi H Q=>zL K x lo hi H Q\/zN x lo hi H Q\/zI K x lo hi H Q\/xn K x lo hi H Q
theorem sK (K:PySem.W.Frag) (e:X.K=K):SlR X (yY K):=by
 subst e
 exact SlR.or ub (SlR.or wP (SlR.or wD uD))
def fSl:D->Option Int->Option Int->(PV->Prop)->Prop
 | .lst ds,lo,hi,Q=>Q (.own (cW ds lo hi))
 | .scr ns,lo,hi,Q=>Q (.own ((cW ns lo hi).map .int))
 | .str l,lo,hi,Q=>Q (.dat (.str (cW l lo hi)))
 | .tup ds,lo,hi,Q=>Q (.dat (.tup (cW ds lo hi)))
 | _,_,_,_=>False
theorem FVs.cut {O:Addr->Prop}{H:Hp}{xs:List V}{ds:List D} (f:FVs K O H xs ds) (lo hi:Option Int):FVs K O H (cW xs lo hi) (cW ds lo hi):=by
 unfold cW
 rw [f.length]
 exact (f.drop _).take _
def fk (pa:PA1) (pl ph:PTO):PTE:=fun ρ Q=>pa ρ fun x ρ1=>pl ρ1 fun lo ρ2=>ph ρ2 fun hi ρ3=>match cont ρ3 x with
 | some d=>fSl d lo hi fun p=>Q p ρ3
 | _=>False
theorem uE {α:Type}{ds:List α}{lo hi:Option Int}{n:Nat} (h:n=ds.length) (hw:HT.sIx n 0 lo=0/\HT.sIx n n hi=n):cW ds lo hi=ds:=by
 subst h
 unfold cW
 rw [hw.1,hw.2,List.drop_zero,Nat.sub_zero,List.take_length]
theorem lsl {O:Addr->Prop}{H:Hp}{x:V}{d:D}{lo hi:Option Int}{Q:PV->Prop}{Q':VK} (dom:∀b,O b->H b≠none) (fx:FVc K O H x d) (q:fSl d lo hi Q) (k:∀v H' p,Q p->Gr H H'->lq K O H H' p v->Q' v H'):yY K x lo hi H Q':=by
 unfold fSl at q
 split at q
 .obtain ⟨a,xs,rfl,e1,f1⟩:=fx.lst
  exact .inl ⟨a,xs,rfl,SqL.of e1,fun p hp=>k _ _ _ q (Gr.new hp) (dg hp (f1.cut _ _))⟩
 .obtain ⟨a,rfl,e1⟩:=fx.scr
  exact .inl ⟨a,_,rfl,e1,fun p hp=>k _ _ _ q (Gr.new hp) (dg hp (by rw [oP,rh];exact FVs.of_ints _))⟩
 .exact .inr (.inl ⟨_,fx.str.1,sz _ fx.str.2,k _ H _ q (Gr.refl _) (.str _ (Nat.le_trans (b7 _ _ _) fx.str.2))⟩)
 .obtain ⟨a,xs,rfl,n1,e1,f1⟩:=fx.tup
  by_cases hw:HT.sIx xs.length 0 lo=0/\HT.sIx xs.length xs.length hi=xs.length
  .refine .inr (.inr (.inr ⟨a,xs,rfl,SqT.of e1,hw,k _ H _ q (Gr.refl _) ?_⟩))
   rw [uE f1.length hw]
   exact .tup n1 e1 f1
  .exact .inr (.inr (.inl ⟨a,xs,rfl,SqT.of e1,hw,fun p hp=>k _ _ _ q (Gr.new hp) (hV dom hp (f1.cut _ _))⟩))
 .exact q.elim
theorem cO {tl th:TO}{pl ph:PTO} (ha:LA1 K ta pa) (hl:LPo K tl pl) (hh:LPo K th ph):LE K (tSl (yY K) ta tl th) (fk pa pl ph):=fun A ρ σ H Q Q' R q k =>
 ha A ρ σ H _ _ R q fun v H1 a ρ1 q1 f1 R1 o1=>hl A ρ1 σ H1 _ _ R1 q1 fun lo H2 ρ2 q2 f2 R2=>hh A ρ2 σ H2 _ _ R2 q2 fun hi H3 ρ3 q3 f3 R3=>by
  split at q3
  .rename_i d e1
   exact lsl R3.dom2 (R3.cont (o1.keeps (f2.trans f3).keeps) e1) q3 fun z H4 p q4 g ov=>k z H4 p ρ3 q4 (((f1.trans f2).trans f3).trans g.fr) ((ov.out R3 g).h0 fun b z=>f3.dm b (f2.dm b (f1.dm b z)))
  .exact q3.elim
abbrev FN:=List D->(PV->Prop)->Prop
def nG (K:PySem.W.Frag):List V->Hp->VK->Prop:=fun xs H Q=>(∃l,xs=[.str (S l)]/\l.length<=sizeLine/\Q (.int l.length) H)\/yJ K xs H Q\/yK K xs H Q\/∃p kvs,xs=[.ref p]/\Rd H p (.dK kvs)/\Q (.int kvs.length) H
theorem dQ (K:PySem.W.Frag) (e:X.K=K):a9 X (.builtin "len") (nG K):=by
 subst e
 exact a9.or oZ (a9.or o0 (a9.or o5 pG))
def jQ:FN
 | [.str l],Q=>Q (.dat (.int l.length))
 | [.lst l],Q=>Q (.dat (.int l.length))
 | [.tup l],Q=>Q (.dat (.int l.length))
 | [.scr l],Q=>Q (.dat (.int l.length))
 | [.dic ks _],Q=>Q (.dat (.int ks.length))
 | _,_=>False
theorem ci:LC K (nG K) jQ:=by
 intro O H xs as Q Q' dom fs q k
 unfold jQ at q
 split at q
 .cases fs with | cons a b=>cases b;rw [a.str.1];exact .inl ⟨_,rfl,sz _ a.str.2,k _ H _ q (Gr.refl _) (.int _)⟩
 .cases fs with
  | cons a b =>
   cases b
   obtain ⟨p,ys,rfl,e1,f1⟩:=a.lst
   exact .inr (.inl ⟨p,ys,rfl,SqL.of e1,by rw [f1.length];exact k _ H _ q (Gr.refl _) (.int _)⟩)
 .cases fs with
  | cons a b =>
   cases b
   obtain ⟨p,ys,rfl,n1,e1,f1⟩:=a.tup
   exact .inr (.inr (.inl ⟨p,ys,rfl,SqT.of e1,by rw [f1.length];exact k _ H _ q (Gr.refl _) (.int _)⟩))
 .cases fs with
  | cons a b =>
   cases b
   obtain ⟨p,rfl,e1⟩:=a.scr
   exact .inr (.inl ⟨p,_,rfl,e1,by rw [List.length_map];exact k _ H _ q (Gr.refl _) (.int _)⟩)
 .cases fs with
  | cons a b =>
   cases b
   cases a.fv nofun nofun with
   | dic n e m f=>subst m;exact .inr (.inr (.inr ⟨_,_,rfl,.inl e,k _ H _ q (Gr.refl _) (by rw [List.length_map];exact .int _)⟩))
 .exact q.elim
inductive Kd where
 | int | bool | str | list | tuple | dict
def Kd.nm:Kd->String
 | .int=>"int" | .bool=>"bool" | .str=>"str" | .list=>"list" | .tuple=>"tuple" | .dict=>"dict"
def isK:Kd->D->Bool
 | .int,.int _=>true
 | .int,.bl _=>true
 | .bool,.bl _=>true
 | .str,.str _=>true
 | .list,.lst _=>true
 | .tuple,.tup _=>true
 | .dict,.dic _ _=>true
 | _,_=>false
def D.sort:D->Bool
 | .obj _ _ _=>false
 | .exc _ _ _=>false
 | .scr _=>false
 | .ty _=>false
 | _=>true
theorem FVc.ty {O:Addr->Prop}{H:Hp}{v:V}{d:D} (h:FVc K O H v d) (s:d.sort=true):∃t,ly K H v t/\∀k:Kd,PySem.W.kitOne K t (.type k.nm)=some (isK k d):=by
 rcases h with h | ⟨a,xs,ds',rfl,rfl,e3,f⟩ | ⟨a,dx,c,fs,ns,ds',rfl,rfl,_⟩
 .cases h with
  | non=>exact ⟨_,.non,fun k=>by cases k <;> rfl⟩
  | bl b=>exact ⟨_,.bl b,fun k=>by cases k <;> rfl⟩
  | int i=>exact ⟨_,.int i,fun k=>by cases k <;> rfl⟩
  | str l h=>exact ⟨_,.str _,fun k=>by cases k <;> rfl⟩
  | ty n=>cases s
  | scr _=>cases s
  | lst n e f=>exact ⟨_,.lst e,fun k=>by cases k <;> rfl⟩
  | tup n e f=>exact ⟨_,.tup e,fun k=>by cases k <;> rfl⟩
  | dic n e m f=>exact ⟨_,.dK e,fun k=>by cases k <;> rfl⟩
  | obj _ _ _ _=>cases s
  | exc0 _ _=>cases s
  | exc1 _ _ _ _ _ _=>cases s
 .exact ⟨_,.lst e3,fun k=>by cases k <;> rfl⟩
 .cases s
theorem pT (K:PySem.W.Frag) (e:X.K=K):a9 X (.builtin "isinstance") (zP K):=by subst e;exact lB
def vT (k:Kd) (pa:PA1):PTE:=fun ρ Q=>pa ρ fun x ρ1=>match cont ρ1 x with
 | some d=>gA d.sort (Q (.dat (.bl (isK k d))) ρ1) False
 | _=>False
theorem kR (k:Kd) (ha:LA1 K ta pa):LE K (tCB (zP K) (bg ta (bg (tC (.ty k.nm)) gg))) (vT k pa):=fun A ρ σ H Q Q' R q kk =>
 ha A ρ σ H _ _ R q fun v H1 a ρ1 q1 f1 R1 o1=>by
  split at q1
  .rename_i d e1
   cases hs:d.sort with
   | false=>rw [hs] at q1;exact q1.elim
   | true =>
    rw [hs] at q1
    obtain ⟨t,ty,hk⟩:=(R1.cont o1 e1).ty hs
    exact ⟨v,k.nm,t,isK k d,rfl,ty,hk k,kk _ H1 _ ρ1 q1 f1 ⟨R1,.bl _⟩⟩
  .exact q1.elim
end
structure rK where
 nx:PSt->Prop
 rt:PV->PSt->Prop
 bk:PSt->Prop:=fun _=>False
 ct:PSt->Prop:=fun _=>False
abbrev PTS:=rK->PSt->Prop
structure b9 (fx:List (Nat×V)) (R:Addr->Prop) (H0:Hp) (ρ:PSt) (σ:St) (H:Hp):Prop where
 kp:∀b o,¬ R b->H0 b=some o->H b=some o
 dm:∀b,H0 b≠none->H b≠none
 ow:∀b,Wr ρ σ b->R b\/H0 b=none
 fx:∀p∈fx,σ[p.1]?=some (some p.2)
section
variable {K:PySem.W.Frag}{fx:List (Nat×V)}{A R:Addr->Prop}{H0 H H':Hp}{ρ ρ':PSt}{σ:St}
theorem b9.fr (F:b9 fx R H0 ρ σ H) (f:Fr ρ σ H ρ' H'):b9 fx R H0 ρ' σ H' :=
 ⟨fun b o n e=>f.kp b o (fun w=>(F.ow b w).elim n (fun z=>by rw [z] at e;cases e)) (F.kp b o n e),fun b z=>f.dm b (F.dm b z),fun b w=>F.ow b (f.ow b w),F.fx⟩
theorem b9.start (hfx:∀p∈fx,σ[p.1]?=some (some p.2)):b9 fx (Wr ρ σ) H ρ σ H:=⟨fun _ _ _ h=>h,fun _ h=>h,fun _ h=>.inl h,hfx⟩
theorem b9.keepsR {ρ1:PSt}{σ1:St}{H1:Hp} (F:b9 fx R H1 ρ σ H) (hR:∀b,R b->OO A ρ1 σ1 b):aK (OO A ρ1 σ1) H1 (OO A ρ σ) H:=fun b o n e=>by
 refine ⟨fun z=>?_,F.kp b o (fun z=>n (hR b z)) e⟩
 rcases z with z | z
 .exact n (.inl z)
 .rcases F.ow b z with z | z
  .exact n (hR b z)
  .rw [z] at e;cases e
theorem b9.keeps {ρ1:PSt}{σ1:St}{H1:Hp} (F:b9 fx (Wr ρ1 σ1) H1 ρ σ H):aK (OO A ρ1 σ1) H1 (OO A ρ σ) H:=F.keepsR fun b z=>.inr z
theorem b9.trans {fx':List (Nat×V)}{ρ1:PSt}{σ1:St}{H1:Hp} (F:b9 fx R H0 ρ1 σ1 H1) (G:b9 fx' (Wr ρ1 σ1) H1 ρ σ H) (hfx:∀p∈fx,σ[p.1]?=some (some p.2)):b9 fx R H0 ρ σ H:=by
 refine ⟨fun b o n e=>G.kp b o (fun w=>(F.ow b w).elim n (fun z=>by rw [z] at e;cases e)) (F.kp b o n e),fun b z=>G.dm b (F.dm b z),fun b w=>?_,hfx⟩
 rcases G.ow b w with z | z
 .exact F.ow b z
 .refine .inr ?_
  cases e:H0 b with
  | none=>rfl
  | some o=>exact absurd z (F.dm b (by rw [e];exact nofun))
theorem Out.put {p:PV}{v:V}{i:Nat} (h:Out K A ρ σ H0 H p v):Rel K A (ρ.set i (some p)) (σ.set i (some v)) H/\∀b,Wr (ρ.set i (some p)) (σ.set i (some v)) b->Wr ρ σ b\/H0 b=none:=by
 have get:∀(j:Nat) (q:PV),(ρ.set i (some p))[j]?=some (some q)->(j=i/\q=p/\i < ρ.length)\/(j≠i/\ρ[j]?=some (some q)):=fun j q e=>by
  by_cases z:i=j
  .subst z
   by_cases hi:i < ρ.length
   .rw [List.getElem?_set_self hi] at e;cases e;exact .inl ⟨rfl,rfl,hi⟩
   .rw [List.getElem?_eq_none (by rw [List.length_set];omega)] at e;cases e
  .rw [List.getElem?_set_ne z] at e;exact .inr ⟨fun q=>z q.symm,e⟩
 cases p with
 | dat d =>
  obtain ⟨R1,f⟩:=h
  have ow:∀b,Wr (ρ.set i (some (.dat d))) (σ.set i (some v)) b->Wr ρ σ b:=fun b ⟨j,r,e1,o1,s1⟩=>by
   rcases get j r e1 with ⟨_,rfl,_⟩ | ⟨n,e⟩
   .cases o1
   .rw [List.getElem?_set_ne (fun z=>n z.symm)] at s1;exact ⟨j,r,e,o1,s1⟩
  have k:aK (OO A ρ σ) H (OO A (ρ.set i (some (.dat d))) (σ.set i (some v))) H:=aK.less fun b z=>z.imp id (ow b)
  refine ⟨⟨by rw [List.length_set,List.length_set];exact R1.len,fun j r e1=>?_,fun j l p1 q1 v' e1 e2 o1 o2 s1 s2=>?_,R1.dom,fun b z w=>R1.sep b z (ow b w)⟩,fun b w=>.inl (ow b w)⟩
  .rcases get j r e1 with ⟨rfl,rfl,hi⟩ | ⟨n,e⟩
   .exact ⟨v,List.getElem?_set_self (by rw [<- R1.len];exact hi),f.keeps k⟩
   .obtain ⟨u,s,r'⟩:=R1.get j r e
    exact ⟨u,by rw [List.getElem?_set_ne (fun z=>n z.symm)];exact s,r'.keeps k fun _ _ _=>rfl⟩
  .rcases get j p1 e1 with ⟨_,rfl,_⟩ | ⟨n1,e1⟩
   .cases o1
   .rcases get l q1 e2 with ⟨_,rfl,_⟩ | ⟨n2,e2⟩
    .cases o2
    .rw [List.getElem?_set_ne (fun z=>n1 z.symm)] at s1
     rw [List.getElem?_set_ne (fun z=>n2 z.symm)] at s2
     exact R1.dj j l p1 q1 v' e1 e2 o1 o2 s1 s2
 | own ds =>
  obtain ⟨a,xs,rfl,na,hn,e0,R1,f⟩:=h
  have ow:∀b,Wr (ρ.set i (some (.own ds))) (σ.set i (some (.ref a))) b->Wr ρ σ b\/b=a:=fun b ⟨j,r,e1,o1,s1⟩=>by
   rcases get j r e1 with ⟨rfl,rfl,hi⟩ | ⟨n,e⟩
   .rw [List.getElem?_set_self (by rw [<- R1.len];exact hi)] at s1;cases s1;exact .inr rfl
   .rw [List.getElem?_set_ne (fun z=>n z.symm)] at s1;exact .inl ⟨j,r,e,o1,s1⟩
  have k:aK (OO (cH A a) ρ σ) H (OO A (ρ.set i (some (.own ds))) (σ.set i (some (.ref a)))) H:=aK.less fun b z=>by
   rcases z with z | z
   .exact .inl (.inl z)
   .rcases ow b z with z | z
    .exact .inr z
    .exact .inl (.inr z)
  refine ⟨⟨by rw [List.length_set,List.length_set];exact R1.len,fun j r e1=>?_,fun j l p1 q1 v' e1 e2 o1 o2 s1 s2=>?_,fun b z=>R1.dom b (.inl z),fun b z w=>?_⟩,fun b w=>(ow b w).imp id fun z=>by rw [z];exact hn⟩
  .rcases get j r e1 with ⟨rfl,rfl,hi⟩ | ⟨n,e⟩
   .exact ⟨_,List.getElem?_set_self (by rw [<- R1.len];exact hi),a,xs,rfl,e0,f.keeps k⟩
   .obtain ⟨u,s,r'⟩:=R1.get j r e
    exact ⟨u,by rw [List.getElem?_set_ne (fun z=>n z.symm)];exact s,r'.keeps k fun _ _ _=>rfl⟩
  .rcases get j p1 e1 with ⟨rfl,rfl,hi⟩ | ⟨n1,e1'⟩
   .rw [List.getElem?_set_self (by rw [<- R1.len];exact hi)] at s1;cases s1
    rcases get l q1 e2 with ⟨rfl,rfl,_⟩ | ⟨n2,e2⟩
    .rfl
    .rw [List.getElem?_set_ne (fun z=>n2 z.symm)] at s2
     exact absurd ⟨l,q1,e2,o2,s2⟩ (R1.sep a (.inr rfl))
   .rw [List.getElem?_set_ne (fun z=>n1 z.symm)] at s1
    rcases get l q1 e2 with ⟨rfl,rfl,hi⟩ | ⟨n2,e2⟩
    .rw [List.getElem?_set_self (by rw [<- R1.len];exact hi)] at s2;cases s2
     exact absurd ⟨j,p1,e1',o1,s1⟩ (R1.sep a (.inr rfl))
    .rw [List.getElem?_set_ne (fun z=>n2 z.symm)] at s2
     exact R1.dj j l p1 q1 v' e1' e2 o1 o2 s1 s2
  .rcases ow b w with w | w
   .exact R1.sep b (.inl z) w
   .rw [w] at z;exact na z
 | ins c ns ds =>
  obtain ⟨a,dx,fs,rfl,na,hn,e0,m,R1,f⟩:=h
  have ow:∀b,Wr (ρ.set i (some (.ins c ns ds))) (σ.set i (some (.ref a))) b->Wr ρ σ b\/b=a:=fun b ⟨j,r,e1,o1,s1⟩=>by
   rcases get j r e1 with ⟨rfl,rfl,hi⟩ | ⟨n,e⟩
   .rw [List.getElem?_set_self (by rw [<- R1.len];exact hi)] at s1;cases s1;exact .inr rfl
   .rw [List.getElem?_set_ne (fun z=>n z.symm)] at s1;exact .inl ⟨j,r,e,o1,s1⟩
  have k:aK (OO (cH A a) ρ σ) H (OO A (ρ.set i (some (.ins c ns ds))) (σ.set i (some (.ref a)))) H:=aK.less fun b z=>by
   rcases z with z | z
   .exact .inl (.inl z)
   .rcases ow b z with z | z
    .exact .inr z
    .exact .inl (.inr z)
  refine ⟨⟨by rw [List.length_set,List.length_set];exact R1.len,fun j r e1=>?_,fun j l p1 q1 v' e1 e2 o1 o2 s1 s2=>?_,fun b z=>R1.dom b (.inl z),fun b z w=>?_⟩,fun b w=>(ow b w).imp id fun z=>by rw [z];exact hn⟩
  .rcases get j r e1 with ⟨rfl,rfl,hi⟩ | ⟨n,e⟩
   .exact ⟨_,List.getElem?_set_self (by rw [<- R1.len];exact hi),a,dx,fs,rfl,e0,m,f.keeps k⟩
   .obtain ⟨u,s,r'⟩:=R1.get j r e
    exact ⟨u,by rw [List.getElem?_set_ne (fun z=>n z.symm)];exact s,r'.keeps k fun _ _ _=>rfl⟩
  .rcases get j p1 e1 with ⟨rfl,rfl,hi⟩ | ⟨n1,e1'⟩
   .rw [List.getElem?_set_self (by rw [<- R1.len];exact hi)] at s1;cases s1
    rcases get l q1 e2 with ⟨rfl,rfl,_⟩ | ⟨n2,e2⟩
    .rfl
    .rw [List.getElem?_set_ne (fun z=>n2 z.symm)] at s2
     exact absurd ⟨l,q1,e2,o2,s2⟩ (R1.sep a (.inr rfl))
   .rw [List.getElem?_set_ne (fun z=>n1 z.symm)] at s1
    rcases get l q1 e2 with ⟨rfl,rfl,hi⟩ | ⟨n2,e2⟩
    .rw [List.getElem?_set_self (by rw [<- R1.len];exact hi)] at s2;cases s2
     exact absurd ⟨j,p1,e1',o1,s1⟩ (R1.sep a (.inr rfl))
    .rw [List.getElem?_set_ne (fun z=>n2 z.symm)] at s2
     exact R1.dj j l p1 q1 v' e1' e2 o1 o2 s1 s2
  .rcases ow b w with w | w
   .exact R1.sep b (.inl z) w
   .rw [w] at z;exact na z
end
abbrev PTG:=PV->PSt->(PSt->Prop)->Prop
abbrev uF:=List D->PSt->(PSt->Prop)->Prop
def LG (K:PySem.W.Frag) (fs:List Nat) (g:TG) (pg:PTG):Prop:=∀(fx:List (Nat×V)) (A R:Addr->Prop) (H0:Hp) (ρ:PSt) (σ:St) (H:Hp) (p:PV) (v:V) (Q:PSt->Prop) (Q':St->Hp->Prop),fx.map Prod.fst=fs->b9 fx R H0 ρ σ H->Out K A ρ σ H0 H p v->pg p ρ Q ->
 (∀ρ' σ' H',Q ρ'->Rel K A ρ' σ' H'->b9 fx R H0 ρ' σ' H'->Q' σ' H')->g v σ H Q'
def LGs (K:PySem.W.Frag) (fs:List Nat) (g:TGs) (pg:uF):Prop:=∀(fx:List (Nat×V)) (A R:Addr->Prop) (H0:Hp) (ρ:PSt) (σ:St) (H:Hp) (ds:List D) (vs:List V) (Q:PSt->Prop) (Q':St->Hp->Prop),fx.map Prod.fst=fs->b9 fx R H0 ρ σ H->Rel K A ρ σ H->FVs K (OO A ρ σ) H vs ds->pg ds ρ Q ->
 (∀ρ' σ',Q ρ'->Rel K A ρ' σ' H->b9 fx R H0 ρ' σ' H->(∀b,Wr ρ' σ' b->Wr ρ σ b)->Q' σ' H)->g vs σ H Q'
def LGd (K:PySem.W.Frag) (fs:List Nat) (g:TG) (pg:PTG):Prop:=∀(fx:List (Nat×V)) (A R:Addr->Prop) (H0:Hp) (ρ:PSt) (σ:St) (H:Hp) (d:D) (v:V) (Q:PSt->Prop) (Q':St->Hp->Prop),fx.map Prod.fst=fs->b9 fx R H0 ρ σ H->Rel K A ρ σ H->FV K (OO A ρ σ) H v d->pg (.dat d) ρ Q ->
 (∀ρ' σ',Q ρ'->Rel K A ρ' σ' H->b9 fx R H0 ρ' σ' H->(∀b,Wr ρ' σ' b->Wr ρ σ b)->Q' σ' H)->g v σ H Q'
def aB (i:Nat):PTG:=fun p ρ Q=>Q (ρ.set i (some p))
def uG:uF:=fun ds ρ Q=>match ds with | []=>Q ρ | _=>False
def mE (g:PTG) (gs:uF):uF:=fun ds ρ Q=>match ds with | d::r=>g (.dat d) ρ fun ρ1=>gs r ρ1 Q | []=>False
section
variable {K:PySem.W.Frag}{fs:List Nat}
theorem b9.put {fx:List (Nat×V)}{R:Addr->Prop}{H0 H:Hp}{ρ:PSt}{σ:St}{i:Nat}{p:PV}{v:V} (hf:fx.map Prod.fst=fs) (hi:fs.contains i=false) (F:b9 fx R H0 ρ σ H) (ow:∀b,Wr (ρ.set i (some p)) (σ.set i (some v)) b->Wr ρ σ b\/H0 b=none):b9 fx R H0 (ρ.set i (some p)) (σ.set i (some v)) H :=
 ⟨F.kp,F.dm,fun b w=>(ow b w).elim (F.ow b) .inr,fun q hq=>by
  have:q.1≠i:=fun z=>by
   have h1:i∈fs:=by rw [<- hf,<- z];exact List.mem_map_of_mem hq
   rw [List.contains_iff_mem.mpr h1] at hi;cases hi
  rw [List.getElem?_set_ne (fun z=>this z.symm)];exact F.fx q hq⟩
theorem aJ {i:Nat} (hi:fs.contains i=false):LG K fs (dH i) (aB i):=fun fx A R H0 ρ σ H p v Q Q' hf F o q k=>k _ _ _ q o.put.1 (F.put hf hi o.put.2)
theorem uH:LGs K fs zD uG:=fun fx A R H0 ρ σ H ds vs Q Q' hf F r fv q k=>by
 unfold uG at q
 split at q
 .cases fv;exact ⟨rfl,k _ _ q r F fun _ h=>h⟩
 .exact q.elim
theorem a8 {i:Nat} (hi:fs.contains i=false):LGd K fs (dH i) (aB i):=fun fx A R H0 ρ σ H d v Q Q' hf F r fv q k=>by
 have o:Out K A ρ σ H0 H (.dat d) v:=⟨r,fv⟩
 have ow:∀b,Wr (ρ.set i (some (.dat d))) (σ.set i (some v)) b->Wr ρ σ b:=fun b ⟨j,p,e1,o1,s1⟩=>by
  by_cases z:i=j
  .subst z
   by_cases hl:i < ρ.length
   .rw [List.getElem?_set_self hl] at e1;cases e1;cases o1
   .rw [List.getElem?_eq_none (by rw [List.length_set];omega)] at e1;cases e1
  .rw [List.getElem?_set_ne z] at e1 s1;exact ⟨j,p,e1,o1,s1⟩
 exact k _ _ q o.put.1 (F.put hf hi o.put.2) ow
theorem mF {g:TG}{pg:PTG}{gs:TGs}{pgs:uF} (hg:LGd K fs g pg) (h:LGs K fs gs pgs):LGs K fs (wn g gs) (mE pg pgs):=fun fx A R H0 ρ σ H ds vs Q Q' hf F r fv q k=>by
 unfold mE at q
 split at q
 .cases fv with
  | cons a b =>
   exact ⟨_,_,rfl,hg fx A R H0 ρ σ H _ _ _ _ hf F r a q fun ρ1 σ1 q1 r1 F1 w1=>h fx A R H0 ρ1 σ1 H _ _ _ _ hf F1 r1 (b.keeps (aK.less fun b z=>z.imp id (w1 b))) q1 fun ρ2 σ2 q2 r2 F2 w2=>k ρ2 σ2 q2 r2 F2 fun b z=>w1 b (w2 b z)⟩
 .exact q.elim
end
def LS (K:PySem.W.Frag) (fs:List Nat) (ts:TS) (ps:PTS):Prop:=∀(fx:List (Nat×V)) (A R:Addr->Prop) (H0:Hp) (ρ:PSt) (σ:St) (H:Hp) (D:rK) (D':og),fx.map Prod.fst=fs->Rel K A ρ σ H->b9 fx R H0 ρ σ H->ps D ρ ->
 (∀ρ' σ' H',D.nx ρ'->Rel K A ρ' σ' H'->b9 fx R H0 ρ' σ' H'->D'.nx σ' H') ->
 (∀v p ρ' σ' H',D.rt p ρ'->Out K A ρ' σ' H0 H' p v->b9 fx R H0 ρ' σ' H'->D'.rt v H') ->
 (∀ρ' σ' H',D.bk ρ'->Rel K A ρ' σ' H'->b9 fx R H0 ρ' σ' H'->D'.bk σ' H') ->
 (∀ρ' σ' H',D.ct ρ'->Rel K A ρ' σ' H'->b9 fx R H0 ρ' σ' H'->D'.ct σ' H')->ts D' σ H
def bM:PTS:=fun D ρ=>D.nx ρ
def aO (a b:PTS):PTS:=fun D ρ=>a { D with nx:=b D } ρ
def mG (pe:PTE):PTS:=fun D ρ=>pe ρ fun _ ρ1=>D.nx ρ1
def bA (pe:PTE):PTS:=fun D ρ=>pe ρ D.rt
def gL (t:PTT) (a b:PTS):PTS:=fun D ρ=>t ρ fun c ρ1=>gA c (a D ρ1) (b D ρ1)
def br (pe:PTE) (g:PTG):PTS:=fun D ρ=>pe ρ fun p ρ1=>g p ρ1 D.nx
def kS (a:PTS):PTS:=fun D ρ=>∃J:PSt->Prop,a { D with nx:=J } ρ/\∀ρ',J ρ'->D.nx ρ'
section
variable {K:PySem.W.Frag}{fs:List Nat}{ta tb:TS}{pa pb:PTS}{te:TE}{pe:PTE}{tt:TT}{pt:PTT}
theorem bj:LS K fs tR bM:=fun fx A R H0 ρ σ H D D' hf r F q k1 k2 k3 k4=>k1 _ _ _ q r F
theorem aA (ha:LS K fs ta pa) (hb:LS K fs tb pb):LS K fs (wl ta tb) (aO pa pb):=fun fx A R H0 ρ σ H D D' hf r F q k1 k2 k3 k4 =>
 ha fx A R H0 ρ σ H _ _ hf r F q (fun ρ1 σ1 H1 q1 r1 F1=>hb fx A R H0 ρ1 σ1 H1 _ _ hf r1 F1 q1 k1 k2 k3 k4) k2 k3 k4
theorem lK (h:LE K te pe):LS K fs (qS te) (mG pe):=fun fx A R H0 ρ σ H D D' hf r F q k1 k2 k3 k4=>h A ρ σ H _ _ r q fun v H1 p ρ1 q1 f1 o1=>k1 _ _ _ q1 o1.frz.1 (F.fr f1)
theorem aV (h:LE K te pe):LS K fs (zB te) (bA pe):=fun fx A R H0 ρ σ H D D' hf r F q k1 k2 k3 k4=>h A ρ σ H _ _ r q fun v H1 p ρ1 q1 f1 o1=>k2 v p ρ1 σ H1 q1 (o1.h0 F.dm) (F.fr f1)
theorem cZ (ht:LT K tt pt) (ha:LS K fs ta pa) (hb:LS K fs tb pb):LS K fs (ym tt ta tb) (gL pt pa pb):=fun fx A R H0 ρ σ H D D' hf r F q k1 k2 k3 k4=>ht A ρ σ H _ _ r q fun c H1 ρ1 q1 f1 r1=>by
 cases c with
 | true=>exact ha fx A R H0 ρ1 σ H1 D D' hf r1 (F.fr f1) q1 k1 k2 k3 k4
 | false=>exact hb fx A R H0 ρ1 σ H1 D D' hf r1 (F.fr f1) q1 k1 k2 k3 k4
theorem aS {g:TG}{pg:PTG} (h:LE K te pe) (hg:LG K fs g pg):LS K fs (vN te g) (br pe pg):=fun fx A R H0 ρ σ H D D' hf r F q k1 k2 k3 k4=>h A ρ σ H _ _ r q fun v H1 p ρ1 q1 f1 o1 =>
 hg fx A R H0 ρ1 σ H1 p v _ _ hf (F.fr f1) (o1.h0 F.dm) q1 k1
theorem jR (h:LS K fs ta pa):LS K fs (wY ta) (kS pa):=fun fx A R H0 ρ σ H D D' hf r F q k1 k2 k3 k4=>by
 obtain ⟨J,q1,q2⟩:=q
 refine ⟨fun σ' H'=>∃ρ',J ρ'/\Rel K A ρ' σ' H'/\b9 fx R H0 ρ' σ' H',?_,fun σ' H' ⟨ρ',j,r',F'⟩=>k1 ρ' σ' H' (q2 ρ' j) r' F'⟩
 exact h fx A R H0 ρ σ H _ _ hf r F q1 (fun ρ' σ' H' j r' F'=>⟨ρ',j,r',F'⟩) k2 k3 k4
end
def mH (K:PySem.W.Frag) (tl:TE):TI:=fun σ H R=>tl σ H fun x H1=>(∃k a xs,x=.ref a/\Sq k K H1 a xs/\R (Itk k K a) H1)\/∃l,x=.str (S l)/\R (Its (dO l)) H1
section
variable {X:Cx}{tg:Expr}
theorem uI {l:Expr}{tl:TE} (hl:PE X l tl):PI X tg l (mH X.K tl):=by
 intro pins s σ H R I h
 refine thn (hl pins s σ H _ I h) fun v s1 ⟨x,H1,I1,r1,q1⟩=>?_
 have fin:∀b∈[s1.heap.objs.size],nY X pins H1 b:=fun b hb=>by
  have e:b=s1.heap.objs.size:=by simpa using hb
  subst e
  exact I1.fpOk (Nat.le_refl _) (I1.hok.fresh (Nat.le_refl _))
 rcases q1 with ⟨k,a,xs,e,hq,q⟩ | ⟨l,e,q⟩
 .subst e
  cases r1
  cases k with
  | false =>
   obtain ⟨its,rv,p,hz⟩:=I1.list hq
   refine wpAny_pyIter_list p.isList ?_
   exact ⟨s1.heap.objs.size,[s1.heap.objs.size],_,_,H1,rfl,I1.kept (t':=s1.toks) fun b o e=>Heap.get?_push_of_some _ e,oj a _,⟨_,Heap.get?_push_size _ rfl,rfl,rfl⟩,fin,q⟩
  | true =>
   obtain ⟨its,rv,p,hz⟩:=I1.tuple hq
   refine wpAny_pyIter_tuple (show s1.heap.IsTuple a its.toArray from p) ?_
   exact ⟨s1.heap.objs.size,[s1.heap.objs.size],_,_,H1,rfl,I1.kept (t':=s1.toks) fun b o e=>Heap.get?_push_of_some _ e,m8 a _,⟨_,Heap.get?_push_size _ rfl,rfl,rfl⟩,fin,q⟩
 .subst e
  obtain ⟨t,rfl⟩:=r1
  have hv:∀i v,i < (S l).cps.size->SignAt (S l) i v->∃x,(dO l)[i]?=some x/\bR x v:=fun i v _ ⟨c,u,hc,e⟩=>by
   subst e
   have hc':l[i]?=some c:=by simpa [S] using hc
   exact ⟨.str (S [c]),by unfold dO;rw [List.getElem?_map,hc'];rfl,u,rfl⟩
  have hsc:∀i v,SignAt (S l) i v->∀a,v≠.ref a:=fun i v ⟨c,u,hc,e⟩ a z=>by subst e;cases z
  have hn:(dO l).length=(S l).cps.size:=by rw [fL];simp [S]
  have hobj:∀ty i (h:Heap),h.IsStrIter s1.heap.objs.size ty (S l) t i->∃o,h.get? s1.heap.objs.size=some o/\∀v,o.data≠.cell v:=fun ty i h ⟨o,ho,_,hd⟩=>⟨o,ho,fun v z=>by rw [hd] at z;cases z⟩
  have hfr:∀ty i (h h':Heap),h.IsStrIter s1.heap.objs.size ty (S l) t i->(∀b∈[s1.heap.objs.size],∀o,h.get? b=some o->h'.get? b=some o)->h'.IsStrIter s1.heap.objs.size ty (S l) t i:=fun ty i h h' ⟨o,ho,r⟩ k=>⟨o,k _ (by simp) o ho,r⟩
  cases ha:(S l).cps.all (· < 128)
  .refine wpAny_pyIter_wide ha ⟨s1.heap.objs.size,[s1.heap.objs.size],_,Its (dO l),H1,rfl,I1.kept (t':=s1.toks) fun b o e=>Heap.get?_push_of_some _ e,
    gY (fun A hA=>Walks.strWide hA _ (S l) t) hn hv hsc (hobj _) (hfr _) (fun A i s Q E st q=>wpAny_pyIter_striter_wide st q),⟨_,Heap.get?_push_size _ rfl,rfl,rfl⟩,fin,q⟩
  .refine wpAny_pyIter_ascii ha ⟨s1.heap.objs.size,[s1.heap.objs.size],_,Its (dO l),H1,rfl,I1.kept (t':=s1.toks) fun b o e=>Heap.get?_push_of_some _ e,
    gY (fun A hA=>Walks.strAscii hA _ (S l) t) hn hv hsc (hobj _) (hfr _) (fun A i s Q E st q=>wpAny_pyIter_striter_ascii st q),⟨_,Heap.get?_push_size _ rfl,rfl,rfl⟩,fin,q⟩
theorem eP (K:PySem.W.Frag) (e:X.K=K) {l:Expr}{tl:TE} (hl:PE X l tl):PI X tg l (mH K tl):=by subst e;exact uI hl
end
abbrev PTI:=PSt->(Nat->(Nat->D)->PSt->Prop)->Prop
def Wlk (K:PySem.W.Frag) (O:Addr->Prop) (H:Hp) (J:It) (n:Nat) (it:Nat->D):Prop:=∀(O':Addr->Prop) (H':Hp),aK O H O' H'->(∀b,O' b->H' b≠none) ->
 (∀k,k < n->J.go k H'/\∀x H'',J.yld k H' x H''->Gr H' H''/\FV K O' H'' x (it k))/\J.stop n H'
def LI (K:PySem.W.Frag) (wi:TI) (pi:PTI):Prop:=∀(A:Addr->Prop) (ρ:PSt) (σ:St) (H:Hp) (Q:Nat->(Nat->D)->PSt->Prop) (Q':It->Hp->Prop),Rel K A ρ σ H->pi ρ Q ->
 (∀J H' n it ρ',Q n it ρ'->Fr ρ σ H ρ' H'->Rel K A ρ' σ H'->Wlk K (OO A ρ' σ) H' J n it->Q' J H')->wi σ H Q'
def itD (ds:List D) (k:Nat):D:=ds.getD k .non
theorem uJ {ds:List D}{k:Nat} (h:k < ds.length):ds[k]?=some (itD ds k):=by unfold itD;rw [List.getD_eq_getElem?_getD,List.getElem?_eq_getElem h];rfl
theorem kT {ds:List D}{k:Nat}{d:D} (h:ds[k]?=some d):itD ds k=d:=by unfold itD;rw [List.getD_eq_getElem?_getD,h];rfl
def zT:D->Option (Nat×(Nat->D))
 | .lst ds=>some (ds.length,itD ds)
 | .tup ds=>some (ds.length,itD ds)
 | .scr ns=>some (ns.length,fun k=>.int (ns.getD k 0))
 | .str l=>some (l.length,fun k=>.str [l.getD k 0])
 | _=>none
def hZ (pe:PTE):PTI:=fun ρ Q=>pe ρ fun p ρ1=>match zT p.d with
 | some (n,it)=>Q n it ρ1
 | none=>False
section
variable {K:PySem.W.Frag}{te:TE}{pe:PTE}{ta:TA}{pa:PTA}
theorem FV.row {O:Addr->Prop}{H:Hp}{v:V}{d:D}{n:Nat}{it:Nat->D} (h:FV K O H v d) (e:zT d=some (n,it)) :
  (∃k a xs,v=.ref a/\xs.length=n/\(∀O' H',aK O H O' H'->Sq k K H' a xs/\∀j x,xs[j]?=some x->FV K O' H' x (it j)))\/∃l,v=.str (S l)/\l.length=n/\(∀k,it k=.str [l.getD k 0]):=by
 cases h with
 | lst nn e0 f =>
  cases e
  refine .inl ⟨false,_,_,rfl,f.length,fun O' H' k=>⟨SqL.of (k _ _ nn e0).2,fun j x hx=>?_⟩⟩
  obtain ⟨d,hd,fd⟩:=f.get hx
  rw [kT hd];exact fd.keeps k
 | tup nn e0 f =>
  cases e
  refine .inl ⟨true,_,_,rfl,f.length,fun O' H' k=>⟨SqT.of (k _ _ nn e0).2,fun j x hx=>?_⟩⟩
  obtain ⟨d,hd,fd⟩:=f.get hx
  rw [kT hd];exact fd.keeps k
 | scr s =>
  cases e
  refine .inl ⟨false,_,_,rfl,List.length_map _,fun O' H' k=>⟨(s.keeps k).sq,fun j x hx=>?_⟩⟩
  obtain ⟨z,hz,rfl⟩:=rg hx
  show FV K O' H' (V.int z) (D.int (List.getD _ j 0))
  rw [List.getD_eq_getElem?_getD,hz];exact .int z
 | str l hl=>cases e;exact .inr ⟨l,rfl,rfl,fun _=>rfl⟩
 | non=>cases e
 | bl b=>cases e
 | int i=>cases e
 | ty n=>cases e
 | dic _ _ _ _=>cases e
 | obj _ _ _ _=>cases e
 | exc0 _ _=>cases e
 | exc1 _ _ _ _ _ _=>cases e
theorem eQ (h:LE K te pe):LI K (mH K te) (hZ pe):=fun A ρ σ H Q Q' R q k=>h A ρ σ H _ _ R q fun v H1 p ρ1 q1 f1 o1=>by
 obtain ⟨R1,fv⟩:=o1.frz
 split at q1
 .rename_i n it e
  rcases fv.row e with ⟨b,a,xs,rfl,hl,hr⟩ | ⟨l,rfl,hl,hi⟩
  .refine .inl ⟨b,a,xs,rfl,(hr _ H1 (fun b o n h=>⟨n,h⟩)).1,k _ H1 n it ρ1 q1 f1 R1 fun O' H' kk dom=>?_⟩
   obtain ⟨sq,hx⟩:=hr O' H' kk
   cases b with
   | false =>
    refine ⟨fun j hj=>⟨⟨xs,_,sq,List.getElem?_eq_getElem (by rw [hl];exact hj)⟩,fun x H'' ⟨e,y⟩=>?_⟩,⟨xs,sq,by rw [hl];exact Nat.le_refl _⟩⟩
    subst e;exact ⟨Gr.refl _,hx j x (y xs sq)⟩
   | true =>
    refine ⟨fun j hj=>⟨⟨xs,_,sq,List.getElem?_eq_getElem (by rw [hl];exact hj)⟩,fun x H'' ⟨e,y⟩=>?_⟩,⟨xs,sq,by rw [hl];exact Nat.le_refl _⟩⟩
    subst e;exact ⟨Gr.refl _,hx j x (y xs sq)⟩
  .refine .inr ⟨l,rfl,k _ H1 n it ρ1 q1 f1 R1 fun O' H' kk dom=>?_⟩
   refine ⟨fun j hj=>⟨by show j < (dO l).length;rw [fL,hl];exact hj,fun x H'' ⟨e,y⟩=>?_⟩,by show (dO l).length=n;rw [fL,hl]⟩
   subst e
   obtain ⟨c,hc,rfl⟩:=nA y
   rw [hi,List.getD_eq_getElem?_getD,hc]
   exact ⟨Gr.refl _,.str _ (by show 1<=1000000;decide)⟩
 .exact q1.elim
def vU (pa:PTA):PTI:=fun ρ Q=>pa ρ fun as ρ1=>match as with
 | [.v (.int j)]=>(-(2 ^ 60)<=j/\j < 2 ^ 60)/\Q j.toNat (fun k=>.int (k:Int)) ρ1
 | _=>False
def zU (pa:PTA):PTI:=fun ρ Q=>pa ρ fun as ρ1=>match as with
 | [.v (.int i),.v (.int j),.v (.int (-1))]=>(-(2 ^ 60)<=i/\i < 2 ^ 60/\-(2 ^ 60)<=j/\j < 2 ^ 60)/\Q (i - j).toNat (fun k=>.int (i - (k:Int))) ρ1
 | _=>False
theorem yZ {O:Addr->Prop}{H:Hp}{lo:Int}{n:Nat}{it:Nat->D} (h:∀k:Nat,it k=.int (lo + k)):Wlk K O H (Itr lo n) n it:=fun O' H' _ _ =>
 ⟨fun j hj=>⟨hj,fun x H'' ⟨e,y⟩=>by subst e y;rw [h];exact ⟨Gr.refl _,.int _⟩⟩,Nat.le_refl _⟩
theorem y0 {O:Addr->Prop}{H:Hp}{lo:Int}{n:Nat}:Wlk K O H (Its (jG lo n)) n (fun k=>.int (lo - (k:Int))):=fun O' H' _ _ =>
 ⟨fun j hj=>⟨by show j < (jG lo n).length;rw [gZ];exact hj,fun x H'' ⟨e,y⟩=>by subst e;rw [(oX y).2];exact ⟨Gr.refl _,.int _⟩⟩,gZ _ _⟩
theorem pU (h:LAs K ta pa):LI K (qU ta) (vU pa):=fun A ρ σ H Q Q' R q k=>h A ρ σ H _ _ R q fun vs H1 as ρ1 q1 f1 R1 o1=>by
 split at q1
 .rename_i j
  cases o1 with
  | cons a b =>
   cases b
   cases a
   exact ⟨j,rfl,by omega,by omega,k _ H1 _ _ ρ1 q1.2 f1 R1 (yZ fun k=>by rw [Int.zero_add])⟩
 .exact q1.elim
theorem y3 (h:LAs K ta pa):LI K (wQ ta) (zU pa):=fun A ρ σ H Q Q' R q k=>h A ρ σ H _ _ R q fun vs H1 as ρ1 q1 f1 R1 o1=>by
 split at q1
 .rename_i i j
  cases o1 with
  | cons a b =>
   cases b with
   | cons c d =>
    cases d with
    | cons e f =>
     cases f
     cases a
     cases c
     cases e
     exact ⟨i,j,rfl,q1.1,k _ H1 _ _ ρ1 q1.2 f1 R1 y0⟩
 .exact q1.elim
def rowD:D->Option (List D)
 | .lst ds=>some ds
 | .tup ds=>some ds
 | .scr ns=>some (ns.map .int)
 | _=>none
theorem FV.rowD {O:Addr->Prop}{H:Hp}{v:V}{d:D}{ds:List D} (h:FV K O H v d) (e:L2.rowD d=some ds) :
  ∃k a xs,v=.ref a/\xs.length=ds.length/\(∀O' H',aK O H O' H'->Sq k K H' a xs/\FVs K O' H' xs ds):=by
 cases h with
 | lst nn e0 f=>cases e;exact ⟨false,_,_,rfl,f.length,fun O' H' k=>⟨SqL.of (k _ _ nn e0).2,f.keeps k⟩⟩
 | tup nn e0 f=>cases e;exact ⟨true,_,_,rfl,f.length,fun O' H' k=>⟨SqT.of (k _ _ nn e0).2,f.keeps k⟩⟩
 | scr s=>cases e;exact ⟨false,_,_,rfl,by rw [List.length_map,List.length_map],fun O' H' k=>⟨(s.keeps k).sq,FVs.of_ints _⟩⟩
 | str l hl=>cases e
 | non=>cases e
 | bl b=>cases e
 | int i=>cases e
 | ty n=>cases e
 | dic _ _ _ _=>cases e
 | obj _ _ _ _=>cases e
 | exc0 _ _=>cases e
 | exc1 _ _ _ _ _ _=>cases e
def sL (pa:PTA):PTI:=fun ρ Q=>pa ρ fun as ρ1=>match as with
 | [.v a]=>(match rowD a with
  | some xs=>Q xs.length (fun k=>.tup [.int (k:Int),itD xs k]) ρ1
  | _=>False)
 | _=>False
theorem uK (h:LAs K ta pa):LI K (uu K ta) (sL pa):=fun A ρ σ H Q Q' R q k=>h A ρ σ H _ _ R q fun vs H1 as ρ1 q1 f1 R1 o1=>by
 split at q1
 .rename_i da
  cases o1 with
  | cons o1 o3 =>
   cases o3
   split at q1
   .rename_i xs ex
    obtain ⟨b1,a1,us,rfl,l1,w1⟩:=FV.rowD (show FV K _ H1 _ da from o1) ex
    have t1:=w1 _ H1 (fun b o n h=>⟨n,h⟩)
    refine ⟨b1,a1,rfl,⟨us,t1.1⟩,k _ H1 _ _ ρ1 q1 f1 R1 fun O' H' kk dom=>?_⟩
    obtain ⟨s1,g1⟩:=w1 O' H' kk
    refine ⟨fun j hj=>?_,⟨us,s1,by omega⟩⟩
    have h1:j < us.length:=by omega
    refine ⟨⟨us,_,s1,List.getElem?_eq_getElem h1⟩,fun x H'' ⟨T,u,hT,e,y1,e2⟩=>?_⟩
    subst e e2
    obtain ⟨d1,hd1,fd1⟩:=g1.get (y1 us s1)
    have e1:itD xs j=d1:=by unfold itD;rw [List.getD_eq_getElem?_getD,hd1];rfl
    rw [e1]
    have kk2:aK O' H' O' (upd H' T (.tup [.int (j:Int),u])):=fun b o n e=>⟨n,by rw [ak (aD e hT)];exact e⟩
    exact ⟨Gr.new hT,.tup (fun z=>dom T z hT) au (.cons (.int _) (.cons (fd1.keeps kk2) .nil))⟩
   .exact q1.elim
 .exact q1.elim
end
def lL (pi:PTI) (g:PTG) (pb:PTS):PTS:=fun D ρ=>pi ρ fun n it ρ1=>∃I:Nat->PSt->Prop,I 0 ρ1/\(∀k ρ d,k < n->d=it k->I k ρ->g (.dat d) ρ fun ρ2=>pb { D with nx:=I (k + 1),ct:=I (k + 1),bk:=D.nx } ρ2)/\∀ρ,I n ρ->D.nx ρ
section
variable {K:PySem.W.Frag}{fs:List Nat}{wi:TI}{pi:PTI}{g:TG}{pg:PTG}{tb:TS}{pb:PTS}{tt:TT}{pt:PTT}
theorem mI (hi:LI K wi pi) (hg:LGd K fs g pg) (hb:LS K fs tb pb):LS K fs (yo wi g tb) (lL pi pg pb):=fun fx A R H0 ρ σ H D D' hf r F q k1 k2 k3 k4=>hi A ρ σ H _ _ r q fun J H1 n it ρ1 q1 f1 r1 W=>by
 obtain ⟨I,i0,turn,after⟩:=q1
 have F1:=F.fr f1
 refine ⟨fun i m σ' H'=>i + m=n/\∃ρ',I i ρ'/\Rel K A ρ' σ' H'/\b9 fx (Wr ρ1 σ) H1 ρ' σ' H',⟨n,Nat.zero_add n,ρ1,i0,r1,b9.start F1.fx⟩,fun i m σ' H' ⟨him,ρ',iv,r',F'⟩=>?_⟩
 obtain ⟨go,stop⟩:=W _ H' F'.keeps r'.dom2
 by_cases hk:i < n
 .obtain ⟨g1,g2⟩:=go i hk
  refine .inr ⟨g1,fun σ'' H''=>∃ρ'',I (i + 1) ρ''/\Rel K A ρ'' σ'' H''/\b9 fx (Wr ρ1 σ) H1 ρ'' σ'' H'',fun σ'' H'' z=>⟨m - 1,by omega,by omega,z⟩,fun x H'' y=>?_⟩
  obtain ⟨gr,fv⟩:=g2 x H'' y
  refine hg fx A (Wr ρ1 σ) H1 ρ' σ' H'' _ x _ _ hf (F'.fr gr.fr) (r'.gr gr) fv (turn i ρ' _ hk rfl iv) fun ρ2 σ2 q2 r2 F2 _=>?_
  refine hb fx A (Wr ρ1 σ) H1 ρ2 σ2 H'' _ _ hf r2 F2 q2 (fun ρ3 σ3 H3 q3 r3 F3=>⟨ρ3,q3,r3,F3⟩) (fun v p ρ3 σ3 H3 q3 o3 F3=>k2 v p ρ3 σ3 H3 q3 (o3.h0 F1.dm) (F1.trans F3 F3.fx)) (fun ρ3 σ3 H3 q3 r3 F3=>k1 ρ3 σ3 H3 q3 r3 (F1.trans F3 F3.fx)) (fun ρ3 σ3 H3 q3 r3 F3=>⟨ρ3,q3,r3,F3⟩)
 .have e:i=n:=by omega
  subst e
  exact .inl ⟨stop,k1 ρ' σ' H' (after ρ' iv) r' (F1.trans F' F'.fx)⟩
end
def fP (ix:List (Option Nat)) (ρ:PSt):PSt:=ix.map fun o=>match o with
 | none=>none
 | some j=>match ρ[j]? with
  | some v=>v
  | none=>none
def e9:List (Option Nat)->PSt->PSt->PSt
 | some j::ix,ρ,t::τ=>e9 ix (ρ.set j t) τ
 | none::ix,ρ,_::τ=>e9 ix ρ τ
 | _,ρ,_=>ρ
def uL:List (Option Nat)->Bool
 | []=>true
 | none::r=>uL r
 | some j::r=>!r.contains (some j) && uL r
theorem jS:∀(ix:List (Option Nat)) (ρ τ:PSt),(e9 ix ρ τ).length=ρ.length
 | [],ρ,τ=>by unfold e9;rfl
 | some j::ix,ρ,t::τ=>by show (e9 ix (ρ.set j t) τ).length=_;rw [jS ix,List.length_set]
 | none::ix,ρ,t::τ=>by show (e9 ix ρ τ).length=_;exact jS ix ρ τ
 | some j::ix,ρ,[]=>by unfold e9;rfl
 | none::ix,ρ,[]=>by unfold e9;rfl
theorem gM:∀(ix:List (Option Nat)) (ρ τ:PSt) (j:Nat),some j∉ix->(e9 ix ρ τ)[j]?=ρ[j]?
 | [],ρ,τ,j,_=>by unfold e9;rfl
 | some i::ix,ρ,t::τ,j,h=>by
  show (e9 ix (ρ.set i t) τ)[j]?=_
  rw [gM ix _ τ j (fun z=>h (List.mem_cons_of_mem _ z)),List.getElem?_set_ne (fun z=>h (by rw [z];exact List.mem_cons_self ..))]
 | none::ix,ρ,t::τ,j,h=>by show (e9 ix ρ τ)[j]?=_;exact gM ix ρ τ j fun z=>h (List.mem_cons_of_mem _ z)
 | some i::ix,ρ,[],j,_=>by unfold e9;rfl
 | none::ix,ρ,[],j,_=>by unfold e9;rfl
theorem lM:∀(ix:List (Option Nat)) (ρ τ:PSt) (j k:Nat),uL ix=true->ix[k]?=some (some j)->k < τ.length->j < ρ.length->(e9 ix ρ τ)[j]?=τ[k]?
 | some i::ix,ρ,t::τ,j,k,h,e,hk,hj=>by
  have h:(!ix.contains (some i) && uL ix)=true:=h
  rw [Bool.and_eq_true] at h
  show (e9 ix (ρ.set i t) τ)[j]?=_
  cases k with
  | zero =>
   have e:some (some i)=some (some j):=e
   cases e
   have hn:some i∉ix:=fun z=>by
    have:=h.1
    rw [List.contains_iff_mem.mpr z] at this;cases this
   rw [gM ix _ τ i hn,List.getElem?_set_self hj];rfl
  | succ k =>
   have e:ix[k]?=some (some j):=by simpa using e
   rw [lM ix _ τ j k h.2 e (by simpa using hk) (by rw [List.length_set];exact hj)];simp
 | none::ix,ρ,t::τ,j,k,h,e,hk,hj=>by
  show (e9 ix ρ τ)[j]?=_
  cases k with
  | zero=>cases e
  | succ k =>
   have e:ix[k]?=some (some j):=by simpa using e
   rw [lM ix _ τ j k h e (by simpa using hk) hj];simp
 | [],ρ,τ,j,k,h,e,hk,hj=>by simp at e
 | some i::ix,ρ,[],j,k,h,e,hk,hj=>absurd hk (Nat.not_lt_zero _)
 | none::ix,ρ,[],j,k,h,e,hk,hj=>absurd hk (Nat.not_lt_zero _)
theorem jT:∀{ix:List (Option Nat)}{k l j:Nat},uL ix=true->ix[k]?=some (some j)->ix[l]?=some (some j)->k=l
 | some i::ix,k,l,j,h,e1,e2=>by
  have h:(!ix.contains (some i) && uL ix)=true:=h
  rw [Bool.and_eq_true] at h
  have no:∀m,ix[m]?≠some (some i):=fun m z=>by
   have:=h.1
   rw [List.contains_iff_mem.mpr (List.mem_of_getElem? z)] at this;cases this
  cases k with
  | zero =>
   have e1:some (some i)=some (some j):=e1
   cases e1
   cases l with
   | zero=>rfl
   | succ l=>exact absurd (by simpa using e2) (no l)
  | succ k =>
   cases l with
   | zero =>
    have e2:some (some i)=some (some j):=e2
    cases e2
    exact absurd (by simpa using e1) (no k)
   | succ l=>rw [jT (k:=k) (l:=l) h.2 (by simpa using e1) (by simpa using e2)]
 | none::ix,k,l,j,h,e1,e2=>by
  cases k with
  | zero=>cases e1
  | succ k =>
   cases l with
   | zero=>cases e2
   | succ l=>rw [jT (ix:=ix) (k:=k) (l:=l) (j:=j) h (by simpa using e1) (by simpa using e2)]
 | [],k,l,j,h,e1,e2=>by simp at e1
theorem dR {ix:List (Option Nat)}{ρ:PSt}{k:Nat}{p:PV} (h:(fP ix ρ)[k]?=some (some p)):∃j,ix[k]?=some (some j)/\ρ[j]?=some (some p):=by
 unfold fP at h
 rw [List.getElem?_map] at h
 cases e:ix[k]? with
 | none=>rw [e] at h;cases h
 | some o =>
  rw [e] at h
  cases o with
  | none=>cases h
  | some j =>
   refine ⟨j,rfl,?_⟩
   have h:some (match ρ[j]? with | some v=>v | none=>none)=some (some p):=h
   cases e2:ρ[j]? with
   | none=>rw [e2] at h;cases h
   | some v=>rw [e2] at h;exact h
theorem eC {ix:List (Option Nat)}{σ:St}{k j:Nat}{v:V} (h:ix[k]?=some (some j)) (e:σ[j]?=some (some v)):(pd ix σ)[k]?=some (some v):=by
 unfold pd
 rw [List.getElem?_map,h]
 show some (match σ[j]? with | some v=>v | none=>none)=some (some v)
 rw [e]
theorem Rel.amb {K:PySem.W.Frag}{A:Addr->Prop}{ρ:PSt}{σ:St}{H:Hp}{a:Addr}{o:HO} (R:Rel K A ρ σ H) (ha:A a):Rel K A ρ σ (upd H a o):=by
 have k:aK (OO A ρ σ) H (OO A ρ σ) (upd H a o):=fun b u n e=>⟨n,by rw [ak (fun z=>n (by rw [z];exact .inl ha))];exact e⟩
 refine ⟨R.len,fun i q e=>?_,R.dj,fun b z=>?_,R.sep⟩
 .obtain ⟨v,s,r⟩:=R.get i q e
  refine ⟨v,s,r.keeps k fun ow b eb=>?_⟩
  rw [ak]
  intro z
  subst z eb
  exact R.sep b ha ⟨i,q,e,ow,s⟩
 .by_cases z':b=a
  .rw [z',au];exact nofun
  .rw [ak z'];exact R.dom b z
def y4 (ix:List (Option Nat)) (ρ:PSt):Bool:=ix.all fun o=>match o with | none=>true | some j=>(match ρ[j]? with | some (some _)=>true | _=>false)
structure uM (ix:List (Option Nat)) (ρ1:PSt) (n:Nat) (it:Nat->D) (g:PTG) (pt:PTT) (pe:PTE) (Q:PKt):Prop where
 ex:∃I:Nat->List D->PSt->Prop,I 0 [] (fP ix ρ1) /\
  (∀k ys τ d,k < n->d=it k->I k ys τ->g (.dat d) τ fun τ2=>pt τ2 fun ok τ3=>gA ok (pe τ3 fun p τ4=>I (k + 1) (ys++[p.d]) τ4) (I (k + 1) ys τ3))/\∀ys τ,I n ys τ->Q (.own ys) (e9 ix ρ1 τ)
def fQ (ix:List (Option Nat)) (pi:PTI) (g:PTG) (pt:PTT) (pe:PTE):PTE:=fun ρ Q=>pi ρ fun n it ρ1=>y4 ix ρ1=true/\n<=1000000/\uM ix ρ1 n it g pt pe Q
def qN:PTT:=fun ρ Q=>Q true ρ
theorem gu {K:PySem.W.Frag}:LT K pf qN:=fun A ρ σ H Q Q' R q k=>k true H ρ q (Fr.refl _ _ _) R
def vV (ix:List (Option Nat)):List Nat:=(List.range ix.length).filter fun k=>(ix.getD k none).isSome
theorem cr {K:PySem.W.Frag}{ix:List (Option Nat)}{wi:TI}{pi:PTI}{g:TG}{pg:PTG}{tts:TT}{pt:PTT}{te:TE}{pe:PTE} (hix:uL ix=true) (hi:LI K wi pi) (hg:∀fs:List Nat,(∀k∈fs,k∈vV ix)->LGd K fs g pg) (ht:LT K tts pt) (he:LE K te pe) :
  LE K (pj ix wi g tts te) (fQ ix pi pg pt pe):=fun A ρ σ H Q Q' R q k=>hi A ρ σ H _ _ R q fun J H1 n it ρ1 q1 f1 R1 W D hD=>by
 obtain ⟨hcap,hn,⟨I,i0,turn,after⟩⟩:=q1
 let τρ0:=fP ix ρ1
 let τσ0:=pd ix σ
 let Ai:Addr->Prop:=fun b=>A b\/b=D\/(Wr ρ1 σ b/\¬ Wr τρ0 τσ0 b)
 let H0':=upd H1 D (.lst [])
 have wsub:∀b,Wr τρ0 τσ0 b->Wr ρ1 σ b:=fun b ⟨m,p,e,o,s⟩=>by
  obtain ⟨j,h1,h2⟩:=dR e
  obtain ⟨v,hv,_⟩:=R1.get j p h2
  have:=eC h1 hv
  rw [s] at this
  cases this
  exact ⟨j,p,h2,o,hv⟩
 have nD:¬ Wr ρ1 σ D:=fun z=>R1.wr z hD
 have oosub:∀b,OO Ai τρ0 τσ0 b->OO A ρ1 σ b\/b=D:=fun b z=>by
  rcases z with (z | z | z) | z
  .exact .inl (.inl z)
  .exact .inr z
  .exact .inl (.inr z.1)
  .exact .inl (.inr (wsub b z))
 have kD:aK (OO A ρ1 σ) H1 (OO Ai τρ0 τσ0) H0':=fun b o nn e=>by
  refine ⟨fun z=>?_,?_⟩
  .rcases oosub b z with z | z
   .exact nn z
   .rw [z,hD] at e;cases e
  .rw [show H0' b=H1 b from ak (aD e hD)];exact e
 have Ri:Rel K Ai τρ0 τσ0 H0':=by
  refine ⟨by show (fP ix ρ1).length=(pd ix σ).length;unfold fP pd;rw [List.length_map,List.length_map],fun m p e=>?_,fun m l p q v e1 e2 o1 o2 s1 s2=>?_,fun b z=>?_,fun b z w=>?_⟩
  .obtain ⟨j,h1,h2⟩:=dR e
   obtain ⟨v,hv,r⟩:=R1.get j p h2
   refine ⟨v,eC h1 hv,r.keeps kD fun ow a ea=>?_⟩
   subst ea
   exact ak (fun z=>nD (by rw [<- z];exact ⟨j,p,h2,ow,hv⟩))
  .obtain ⟨j,h1,h2⟩:=dR e1
   obtain ⟨j',h3,h4⟩:=dR e2
   obtain ⟨v1,hv1,_⟩:=R1.get j p h2
   obtain ⟨v2,hv2,_⟩:=R1.get j' q h4
   have t1:=eC h1 hv1
   have t2:=eC h3 hv2
   rw [s1] at t1
   rw [s2] at t2
   cases t1
   cases t2
   have:=R1.dj j j' p q _ h2 h4 o1 o2 hv1 hv2
   subst this
   exact jT hix h1 h3
  .rcases z with z | z | z
   .intro e
    by_cases zz:b=D
    .exact R1.dom b z (by rw [zz];exact hD)
    .rw [show H0' b=H1 b from ak zz] at e;exact R1.dom b z e
   .rw [z];show upd H1 D _ D≠none;rw [au];exact nofun
   .intro e
    rw [show H0' b=H1 b from ak (fun zz=>nD (by rw [<- zz];exact z.1))] at e;exact R1.wr z.1 e
  .rcases z with z | z | z
   .exact R1.sep b z (wsub b w)
   .rw [z] at w;exact nD (wsub D w)
   .exact z.2 w
 let fxi:List (Nat×V):=(vV ix).filterMap fun m=>match (τσ0[m]?) with | some (some v)=>some (m,v) | _=>none
 have hfx:∀p∈fxi,τσ0[p.1]?=some (some p.2):=fun p hp=>by
  obtain ⟨m,hm,e⟩:=List.mem_filterMap.mp hp
  split at e
  .rename_i v ev;cases e;exact ev
  .cases e
 have hfs:∀m∈fxi.map Prod.fst,m∈vV ix:=fun m hm=>by
  obtain ⟨p,hp,rfl⟩:=List.mem_map.mp hm
  obtain ⟨m',hm',e⟩:=List.mem_filterMap.mp hp
  split at e
  .cases e;exact hm'
  .cases e
 have hgi:=hg (fxi.map Prod.fst) hfs
 have fxget:∀(m j:Nat) (v:V),ix[m]?=some (some j)->σ[j]?=some (some v)->(m,v)∈fxi:=fun m j v h1 h2=>by
  refine List.mem_filterMap.mpr ⟨m,?_,?_⟩
  .unfold vV
   refine List.mem_filter.mpr ⟨List.mem_range.mpr (List.getElem?_eq_some_iff.mp h1).1,?_⟩
   rw [List.getD_eq_getElem?_getD,h1];rfl
  .show (match (pd ix σ)[m]? with | some (some v)=>some (m,v) | _=>none)=_
   rw [eC h1 h2]
 let Rr:Addr->Prop:=fun b=>Wr τρ0 τσ0 b\/b=D
 have hRr:∀b,Rr b->OO Ai τρ0 τσ0 b:=fun b z=>z.elim (fun z=>.inr z) (fun z=>.inl (.inr (.inl z)))
 have F0:b9 fxi Rr H0' τρ0 τσ0 H0':=⟨fun _ _ _ h=>h,fun _ h=>h,fun b w=>.inl (.inl w),hfx⟩
 refine ⟨fun i m τ H2=>i + m=n/\∃ys τρ xs,I i ys τρ/\ys.length<=i/\Rel K Ai τρ τ H2/\b9 fxi Rr H0' τρ τ H2/\H2 D=some (.lst xs)/\FVs K (OO Ai τρ τ) H2 xs ys/\∀b,Wr τρ τ b->Wr τρ0 τσ0 b,
  ⟨n,Nat.zero_add n,[],τρ0,[],i0,Nat.le_refl _,Ri,F0,au,.nil,fun _ h=>h⟩,fun i m τ H2 ⟨him,ys,τρ,xs,iv,hy,r2,F2,eD,fD,hw⟩=>?_⟩
 have kk:aK (OO A ρ1 σ) H1 (OO Ai τρ τ) H2:=fun b o nn e=>(F2.keepsR hRr) b o (kD b o nn e).1 (kD b o nn e).2
 obtain ⟨go,stop⟩:=W _ H2 kk r2.dom2
 by_cases hk:i < n
 .obtain ⟨g1,g2⟩:=go i hk
  refine .inr ⟨g1,fun x H3 y=>?_⟩
  obtain ⟨gr,fv⟩:=g2 x H3 y
  have AiD:Ai D:=.inr (.inl rfl)
  refine hgi fxi Ai Rr H0' τρ τ H3 _ x _ _ rfl (F2.fr gr.fr) (r2.gr gr) fv (turn i ys τρ _ hk rfl iv) fun τρ2 τ2 q2 r3 F3 w3=>?_
  refine ht Ai τρ2 τ2 H3 _ _ r3 q2 fun ok H5 τρ3 q3 f5 r5=>?_
  have F5:=F3.fr f5
  have fD5:FVs K (OO Ai τρ3 τ2) H5 xs ys:=((fD.keeps (gr.fr (ρ:=τρ) (σ:=τ)).keeps).keeps (aK.less fun b z=>z.imp id (w3 b))).keeps f5.keeps
  have eD5:H5 D=some (.lst xs):=f5.kp D _ (r3.sep D AiD) (gr D _ eD)
  cases ok with
  | true =>
   refine he Ai τρ3 τ2 H5 _ _ r5 q3 fun v H6 p τρ4 q4 f6 o6=>?_
   obtain ⟨r6,fv6⟩:=o6.frz
   have F6:=F5.fr f6
   have eD6:H6 D=some (.lst xs):=f6.kp D _ (r5.sep D AiD) eD5
   have kw:aK (OO Ai τρ4 τ2) H6 (OO Ai τρ4 τ2) (upd H6 D (.lst (xs++[v]))):=fun b o nn e=>⟨nn,by rw [ak (fun z=>nn (by rw [z];exact .inl AiD))];exact e⟩
   refine ⟨xs,eD6,?_,m - 1,by omega,by omega,ys++[p.d],τρ4,xs++[v],q4,by rw [List.length_append];show _ + 1<=_;omega,r6.amb AiD,⟨fun b o nn e=>?_,fun b z=>?_,F6.ow,F6.fx⟩,au,((fD5.keeps f6.keeps).append (.cons fv6 .nil)).keeps kw,fun b z=>hw b (w3 b (f5.ow b (f6.ow b z)))⟩
   .have:xs.length=ys.length:=fD.length
    exact Nat.lt_of_lt_of_le (by omega:xs.length < 1000000) (sz _ (Nat.le_refl _))
   .rw [ak (fun z=>nn (.inr z))];exact F6.kp b o nn e
   .by_cases zz:b=D
    .rw [zz,au];exact nofun
    .rw [ak zz];exact F6.dm b z
  | false=>exact ⟨m - 1,by omega,by omega,ys,τρ3,xs,q3,by omega,r5,F5,eD5,fD5,fun b z=>hw b (w3 b (f5.ow b z))⟩
 .have e:i=n:=by omega
  subst e
  refine .inl ⟨stop,?_⟩
  have q':=after ys τρ iv
  have cap:∀(m j:Nat),ix[m]?=some (some j)->∃p v,ρ1[j]?=some (some p)/\σ[j]?=some (some v)/\τ[m]?=some (some v):=fun m j e=>by
   have h1:=List.all_eq_true.mp hcap _ (List.mem_of_getElem? e)
   have h1:(match ρ1[j]? with | some (some _)=>true | _=>false)=true:=h1
   split at h1
   .rename_i p ep
    obtain ⟨v,hv,_⟩:=R1.get j p ep
    exact ⟨p,v,ep,hv,F2.fx _ (fxget m j v e hv)⟩
   .cases h1
  have get':∀(j:Nat) (p:PV),(e9 ix ρ1 τρ)[j]?=some (some p)->(∃m v,ix[m]?=some (some j)/\σ[j]?=some (some v)/\τ[m]?=some (some v)/\τρ[m]?=some (some p))\/(some j∉ix/\ρ1[j]?=some (some p)):=fun j p e=>by
   by_cases hj:some j∈ix
   .obtain ⟨m,hm,em⟩:=List.getElem_of_mem hj
    have em':ix[m]?=some (some j):=by rw [List.getElem?_eq_getElem hm,em]
    obtain ⟨p0,v,h1,h2,h3⟩:=cap m j em'
    rw [lM ix ρ1 τρ j m hix em' (by rw [r2.len];exact (List.getElem?_eq_some_iff.mp h3).1) (List.getElem?_eq_some_iff.mp h1).1] at e
    exact .inl ⟨m,v,em',h2,h3,e⟩
   .rw [gM ix ρ1 τρ j hj] at e
    exact .inr ⟨hj,e⟩
  have nocap:∀(j:Nat) (p:PV) (b:Addr),some j∉ix->ρ1[j]?=some (some p)->p.isOwn=true->σ[j]?=some (some (.ref b))->¬ Wr τρ0 τσ0 b:=fun j p b hj e o s ⟨m,q,e1,o1,s1⟩=>by
   obtain ⟨j',h1,h2⟩:=dR e1
   obtain ⟨v,hv,_⟩:=R1.get j' q h2
   have:=eC h1 hv
   rw [s1] at this
   cases this
   have:=R1.dj j j' p q _ e h2 o o1 s hv
   subst this
   exact hj (List.mem_of_getElem? h1)
  have w':∀b,Wr (e9 ix ρ1 τρ) σ b->Wr τρ τ b\/(Wr ρ1 σ b/\¬ Wr τρ0 τσ0 b):=fun b ⟨j,p,e,o,s⟩=>by
   rcases get' j p e with ⟨m,v,h1,h2,h3,h4⟩ | ⟨hj,h1⟩
   .rw [s] at h2;cases h2;exact .inl ⟨m,p,h4,o,h3⟩
   .exact .inr ⟨⟨j,p,h1,o,s⟩,nocap j p b hj h1 o s⟩
  have oo':∀b,OO (cH A D) (e9 ix ρ1 τρ) σ b->OO Ai τρ τ b:=fun b z=>by
   rcases z with (z | z) | z
   .exact .inl (.inl z)
   .exact .inl (.inr (.inl z))
   .rcases w' b z with z | z
    .exact .inr z
    .exact .inl (.inr (.inr z))
  have kp1:∀b o,¬ Wr τρ0 τσ0 b->b≠D->H1 b=some o->H2 b=some o:=fun b o n1 n2 e=>F2.kp b o (fun z=>z.elim n1 n2) (by rw [show H0' b=H1 b from ak n2];exact e)
  have k1:aK (OO A ρ1 σ) H1 (OO (cH A D) (e9 ix ρ1 τρ) σ) H2:=fun b o nn e=>⟨fun z=>(kk b o nn e).1 (oo' b z),(kk b o nn e).2⟩
  have AiD:Ai D:=.inr (.inl rfl)
  have R':Rel K (cH A D) (e9 ix ρ1 τρ) σ H2:=by
   refine ⟨by rw [jS];exact R1.len,fun j p e=>?_,fun j l p q v e1 e2 o1 o2 s1 s2=>?_,fun b z=>?_,fun b z w=>?_⟩
   .rcases get' j p e with ⟨m,v,h1,h2,h3,h4⟩ | ⟨hj,h1⟩
    .obtain ⟨v',hv',r⟩:=r2.get m p h4
     rw [h3] at hv';cases hv'
     exact ⟨v,h2,r.keeps (aK.less oo') fun _ _ _=>rfl⟩
    .obtain ⟨v,hv,r⟩:=R1.get j p h1
     refine ⟨v,hv,r.keeps k1 fun ow a ea=>?_⟩
     subst ea
     obtain ⟨a',u,e1,e2⟩:=r.ref ow
     cases e1
     rw [e2]
     exact kp1 a u (nocap j p a hj h1 ow hv) (fun z=>by rw [z,hD] at e2;cases e2) e2
   .rcases get' j p e1 with ⟨m,v1,h1,h2,h3,h4⟩ | ⟨hj,h1⟩
    .rw [s1] at h2;cases h2
     rcases get' l q e2 with ⟨m',v2,g1,g2,g3,g4⟩ | ⟨hl,g1⟩
     .rw [s2] at g2;cases g2
      have:=r2.dj m m' p q _ h4 g4 o1 o2 h3 g3
      subst this
      rw [h1] at g1;cases g1;rfl
     .exfalso
      obtain ⟨v',hv',r⟩:=r2.get m p h4
      rw [h3] at hv';cases hv'
      obtain ⟨a,u,ea,_⟩:=r.ref o1
      subst ea
      exact nocap l q a hl g1 o2 s2 (hw a ⟨m,p,h4,o1,h3⟩)
    .rcases get' l q e2 with ⟨m',v2,g1,g2,g3,g4⟩ | ⟨hl,g1⟩
     .rw [s2] at g2;cases g2
      exfalso
      obtain ⟨v',hv',r⟩:=r2.get m' q g4
      rw [g3] at hv';cases hv'
      obtain ⟨a,u,ea,_⟩:=r.ref o2
      subst ea
      exact nocap j p a hj h1 o1 s1 (hw a ⟨m',q,g4,o2,g3⟩)
     .exact R1.dj j l p q v h1 g1 o1 o2 s1 s2
   .rcases z with z | z
    .exact r2.dom b (.inl z)
    .rw [z,eD];exact nofun
   .rcases w' b w with w | w
    .rcases z with z | z
     .exact r2.sep b (.inl z) w
     .rw [z] at w;exact r2.sep D AiD w
    .rcases z with z | z
     .exact R1.sep b z w.1
     .rw [z] at w;exact nD w.1
  have f2:Fr ρ1 σ H1 (e9 ix ρ1 τρ) H2:=by
   refine ⟨fun b o nn e=>kp1 b o (fun z=>nn (wsub b z)) (fun z=>by rw [z,hD] at e;cases e) e,fun b z=>F2.dm b ?_,fun b z=>?_⟩
   .intro e
    by_cases zz:b=D
    .exact z (by rw [zz];exact hD)
    .rw [show H0' b=H1 b from ak zz] at e;exact z e
   .rcases w' b z with z | z
    .exact wsub b (hw b z)
    .exact z.1
  have hD0:H D=none:=by
   cases e:H D with
   | none=>rfl
   | some o=>exact absurd hD (f1.dm D (by rw [e];exact nofun))
  exact k _ H2 (.own ys) _ q' (f1.trans f2) ⟨D,xs,rfl,fun z=>R1.dom D z hD,hD0,eD,R',fD.keeps (aK.less oo')⟩
section
variable {K:PySem.W.Frag}{A A':Addr->Prop}{ρ:PSt}{σ:St}{H H':Hp}
theorem Rel.step (R:Rel K A ρ σ H) {i:Nat}{p q:PV}{a:Addr} (e:ρ[i]?=some (some p)) (ow:p.isOwn=true) (ow':q.isOwn=true) (es:σ[i]?=some (some (.ref a)))
  (kp:∀b o,b≠a->H b=some o->H' b=some o) (ha:H' a≠none) (h1:∀b,A b->A' b) (h2:∀b,A' b->A b\/H b=none) (dom':∀b,A' b->H' b≠none)
  (new:RS K (OO A' ρ σ) H' q (.ref a)):Rel K A' (ρ.set i (some q)) σ H'/\Fr ρ σ H (ρ.set i (some q)) H':=by
 have hi:i < ρ.length:=(List.getElem?_eq_some_iff.mp e).1
 have wa:Wr ρ σ a:=⟨i,p,e,ow,es⟩
 have weq:∀b,Wr (ρ.set i (some q)) σ b ↔ Wr ρ σ b:=fun b=>by
  constructor
  .rintro ⟨j,r,e1,o1,s1⟩
   by_cases z:i=j
   .subst z;exact ⟨i,p,e,ow,s1⟩
   .rw [List.getElem?_set_ne z] at e1;exact ⟨j,r,e1,o1,s1⟩
  .rintro ⟨j,r,e1,o1,s1⟩
   by_cases z:i=j
   .subst z;exact ⟨i,q,List.getElem?_set_self hi,ow',s1⟩
   .exact ⟨j,r,by rw [List.getElem?_set_ne z];exact e1,o1,s1⟩
 have oeq:OO A' (ρ.set i (some q)) σ=OO A' ρ σ:=funext fun b=>propext (or_congr Iff.rfl (weq b))
 have kp1:∀b u,¬ Wr ρ σ b->H b=some u->H' b=some u:=fun b u n h=>kp b u (fun z=>n (by rw [z];exact wa)) h
 have k:aK (OO A ρ σ) H (OO A' ρ σ) H':=fun b u n h=>by
  refine ⟨fun z=>?_,kp1 b u (fun z=>n (.inr z)) h⟩
  rcases z with z | z
  .rcases h2 b z with z | z
   .exact n (.inl z)
   .rw [z] at h;cases h
  .exact n (.inr z)
 have dm:∀b,H b≠none->H' b≠none:=fun b n=>by
  by_cases z:b=a
  .rw [z];exact ha
  .cases eb:H b with
   | none=>exact absurd eb n
   | some o=>rw [kp b o z eb];exact nofun
 refine ⟨⟨by rw [List.length_set];exact R.len,fun j r e1=>?_,fun j l p1 q1 v e1 e2 o1 o2 s1 s2=>?_,dom',fun b z w=>?_⟩,⟨kp1,dm,fun b w=>(weq b).mp w⟩⟩
 .rw [oeq]
  by_cases z:i=j
  .subst z
   rw [List.getElem?_set_self hi] at e1
   cases e1
   exact ⟨_,es,new⟩
  .rw [List.getElem?_set_ne z] at e1
   obtain ⟨v,s,rr⟩:=R.get j r e1
   refine ⟨v,s,rr.keeps k fun ow2 b eb=>?_⟩
   obtain ⟨b',u,e3,e4⟩:=rr.ref ow2
   rw [eb] at e3;cases e3
   rw [e4]
   refine kp b u (fun zz=>?_) e4
   subst zz
   rw [eb] at s
   exact z (R.dj i j p r _ e e1 ow ow2 es s)
 .have ex:∀(m:Nat) (x:PV),(ρ.set i (some q))[m]?=some (some x)->x.isOwn=true->∃y:PV,ρ[m]?=some (some y)/\y.isOwn=true:=fun m x em ox=>by
   by_cases z:i=m
   .subst z;exact ⟨p,e,ow⟩
   .rw [List.getElem?_set_ne z] at em;exact ⟨x,em,ox⟩
  obtain ⟨y1,g1,g2⟩:=ex j p1 e1 o1
  obtain ⟨y2,g3,g4⟩:=ex l q1 e2 o2
  exact R.dj j l y1 y2 v g1 g3 g2 g4 s1 s2
 .rcases h2 b z with z | z
  .exact R.sep b z ((weq b).mp w)
  .exact R.wr ((weq b).mp w) z
theorem Rel.lstw (R:Rel K A ρ σ H) {i:Nat}{ds es:List D}{a:Addr}{ys:List V} (e:ρ[i]?=some (some (.own ds))) (es':σ[i]?=some (some (.ref a))) (f:FVs K (OO A ρ σ) H ys es) :
  Rel K A (ρ.set i (some (.own es))) σ (upd H a (.lst ys))/\Fr ρ σ H (ρ.set i (some (.own es))) (upd H a (.lst ys)):=by
 have wa:OO A ρ σ a:=.inr ⟨i,_,e,rfl,es'⟩
 exact R.write (q:=.own es) e rfl rfl es' ⟨a,ys,rfl,au,f.keeps fun b u n h=>⟨n,by rw [ak (fun z=>n (by rw [z];exact wa))];exact h⟩⟩
theorem Rel.ownAt (R:Rel K A ρ σ H) {i:Nat}{ds:List D} (e:ρ[i]?=some (some (.own ds))):∃a xs,σ[i]?=some (some (.ref a))/\H a=some (.lst xs)/\FVs K (OO A ρ σ) H xs ds:=by
 obtain ⟨v,s,a,xs,rfl,g,f⟩:=R.get i _ e
 exact ⟨a,xs,s,g,f⟩
end
def yk (i:Nat) (pe:PTE):PTE:=fun ρ Q=>match ρ[i]? with
 | some (some (.own _))=>pe ρ fun p ρ1=>(match ρ1[i]? with
  | some (some (.own ds))=>ds.length < 1000000/\Q (.dat .non) (ρ1.set i (some (.own (ds++[p.d]))))
  | _=>False)
 | _=>False
def kU (i:Nat) (pe pk:PTE):PTS:=fun D ρ=>pe ρ fun p ρ1=>(match ρ1[i]? with
 | some (some (.own _))=>pk ρ1 fun kp ρ2=>(match ρ2[i]?,kp with
  | some (some (.own ds)),.dat (.int k)=>∃j,ixN ds.length k=some j/\D.nx (ρ2.set i (some (.own (ds.set j p.d))))
  | _,_=>False)
 | _=>False)
section
variable {K:PySem.W.Frag}{te tk:TE}{pe pk:PTE}{fs:List Nat}
theorem sM {i:Nat} (h:LE K te pe):LE K (tBM K "list" oM (b5 i) (bg te gg)) (yk i pe):=fun A ρ σ H Q Q' R q k=>by
 unfold yk at q
 split at q
 .rename_i ds0 e0
  obtain ⟨a0,xs0,s0,g0,f0⟩:=R.ownAt e0
  refine ⟨_,s0,.inl ⟨rfl,xs0,SqL.of g0⟩,h A ρ σ H _ _ R q fun v H1 p ρ1 q1 f1 o1=>?_⟩
  obtain ⟨R1,fv⟩:=o1.frz
  split at q1
  .rename_i ds e1
   obtain ⟨a,xs,s,g,f⟩:=R1.ownAt e1
   rw [s0] at s;cases s
   obtain ⟨R2,f2⟩:=R1.lstw e1 s0 (f.append (.cons fv .nil))
   exact ⟨a0,xs,v,rfl,rfl,g,Nat.lt_of_lt_of_le (by rw [f.length];exact q1.1) (sz _ (Nat.le_refl _)),k _ _ _ _ q1.2 (f1.trans f2) ⟨R2,.non⟩⟩
  .exact q1.elim
 .exact q.elim
theorem jU {i:Nat} (h:LE K te pe) (hk:LE K tk pk):LS K fs (vN te (zE (b5 i) tk wH)) (kU i pe pk):=fun fx A R H0 ρ σ H D D' hf r F q k1 k2 k3 k4=>h A ρ σ H _ _ r q fun v H1 p ρ1 q1 f1 o1=>by
 obtain ⟨R1,fv⟩:=o1.frz
 split at q1
 .rename_i ds0 e0
  obtain ⟨a0,xs0,s0,g0,f0⟩:=R1.ownAt e0
  refine ⟨_,s0,hk A ρ1 σ H1 _ _ R1 q1 fun w H2 kp ρ2 q2 f2 o2=>?_⟩
  split at q2
  .rename_i ds j e2
   obtain ⟨n,hn,q2⟩:=q2
   obtain ⟨R2,fw⟩:=o2
   cases fw
   obtain ⟨a,xs,s,g,f⟩:=R2.ownAt e2
   rw [s0] at s;cases s
   obtain ⟨R3,f3⟩:=R2.lstw e2 s0 (FVs.set (fv.keeps f2.keeps) n f)
   exact ⟨a0,xs,j,n,rfl,rfl,g,by rw [f.length];exact hn,k1 _ _ _ q2 R3 (((F.fr f1).fr f2).fr f3)⟩
  .exact q2.elim
 .exact q1.elim
end
def spP (K:PySem.W.Frag) (c:FN):Sp:=fun vs H Q _=>∃(O:Addr->Prop) (ds:List D) (Qc:PV->Prop),(∀b,O b->H b≠none)/\FVs K O H vs ds/\c ds Qc/\∀r,Qc r->∀v H',Gr H H'->lq K O H H' r v->Q v H'
def cj (c:FN) (pr:PTA):PTE:=fun ρ Q=>pr ρ fun as ρ1=>match avD as with
 | some ds=>c ds fun r=>Q r ρ1
 | none=>False
theorem fm {N:List Str}{vs:List V}{i:Nat}{v:V} (h:vs[i]?=some v):(start N vs)[i]?=some (some v):=by
 unfold start
 rw [List.getElem?_append_left (by rw [List.length_map];exact (List.getElem?_eq_some_iff.mp h).1),List.getElem?_map,h];rfl
def bU (n:Nat) (ps:List PV):PSt:=ps.map some++List.replicate (n - ps.length) none
theorem bW {n:Nat}{ps:List PV}{i:Nat}{p:PV} (h:(bU n ps)[i]?=some (some p)):ps[i]?=some p:=by
 unfold bU at h
 by_cases hi:i < ps.length
 .rw [List.getElem?_append_left (by rw [List.length_map];exact hi),List.getElem?_map] at h
  cases e:ps[i]? with
  | none=>rw [e] at h;cases h
  | some q=>rw [e] at h;cases h;rfl
 .rw [List.getElem?_append_right (by rw [List.length_map];omega)] at h
  have:=List.mem_of_getElem? h
  rw [List.mem_replicate] at this
  cases this.2
section
variable {K:PySem.W.Frag}{tr:TA}{pr:PTA}{ts:TS}{ps:PTS}
theorem bi {c:FN} (h:LAs K tr pr):LE K (dI (spP K c) [] E0 tr) (cj c pr):=fun A ρ σ H Q Q' R q k=>h A ρ σ H _ _ R q fun vs H1 as ρ1 q1 f1 R1 o1=>by
 split at q1
 .rename_i ds e
  rw [List.append_nil]
  exact ⟨OO A ρ1 σ,ds,_,R1.dom2,o1.avD e,q1,fun r qr v H' g ov=>k v H' r ρ1 qr (f1.trans g.fr) ((ov.out R1 g).h0 f1.dm)⟩
 .exact q1.elim
theorem Out.outV {O:Addr->Prop}{ρ:PSt}{σ:St}{H H':Hp}{p:PV}{v:V} (h:Out K O ρ σ H H' p v):lq K O H H' p v:=by
 cases p with
 | dat d=>exact h.2.keeps (aK.less fun b z=>.inl z)
 | own ds =>
  obtain ⟨a,xs,e1,na,e2,e3,R,f⟩:=h
  exact ⟨a,xs,e1,e2,e3,f.keeps (aK.less fun b z=>.inl z)⟩
 | ins c ns ds =>
  obtain ⟨a,dx,fs,e1,na,e2,e3,m,R,f⟩:=h
  exact ⟨a,dx,fs,e1,e2,e3,m,f.keeps (aK.less fun b z=>.inl z)⟩
theorem fnP {c:FN}{N:List Str} (hl:LS K [] ts ps) (hn:∀ds Q,c ds Q->ds.length<=N.length) (hc:∀ds Q,c ds Q->ps { nx:=fun _=>Q (.dat .non),rt:=fun p _=>Q p } (bU N.length (ds.map .dat)))
  {vs:List V}{H:Hp}{Q:VK}{E:XK} (h:spP K c vs H Q E):ts { nx:=fun _ H'=>Q .non H',rt:=Q } (start N vs) H:=by
 obtain ⟨O,ds,Qc,dom,fv,hq,k⟩:=h
 have nw:∀(ρ:PSt) (b:Addr),ρ=bU N.length (ds.map .dat)->¬ Wr ρ (start N vs) b:=fun ρ b e ⟨i,p,e1,o1,s1⟩=>by
  rw [e] at e1
  have:=bW e1
  rw [List.getElem?_map] at this
  cases e2:ds[i]? with
  | none=>rw [e2] at this;cases this
  | some d=>rw [e2] at this;cases this;cases o1
 have lenv:=fv.length
 have hle:=hn ds Qc hq
 have R0:Rel K O (bU N.length (ds.map .dat)) (start N vs) H:=by
  refine ⟨?_,fun i p e=>?_,fun i j p q v e1 e2 o1 o2 s1 s2=>?_,dom,fun b _ w=>nw _ b rfl w⟩
  .unfold bU start
   rw [List.length_append,List.length_append,List.length_map,List.length_map,List.length_map,List.length_replicate,List.length_replicate,lenv]
  .have:=bW e
   rw [List.getElem?_map] at this
   cases e2:ds[i]? with
   | none=>rw [e2] at this;cases this
   | some d =>
    rw [e2] at this;cases this
    obtain ⟨v,hv,f⟩:=fv.getD e2
    exact ⟨v,fm hv,f.keeps (aK.less fun b z=>z.elim id fun w=>absurd w (nw _ b rfl))⟩
  .have:=bW e1
   rw [List.getElem?_map] at this
   cases e3:ds[i]? with
   | none=>rw [e3] at this;cases this
   | some d=>rw [e3] at this;cases this;cases o1
 refine hl [] O (fun _=>False) H _ _ H _ _ rfl R0 ⟨fun _ _ _ h=>h,fun _ h=>h,fun b w=>absurd w (nw _ b rfl),fun p hp=>nomatch hp⟩ (hc ds Qc hq) (fun ρ' σ' H' q r F=>?_) (fun v p ρ' σ' H' q o F=>?_) (fun _ _ _ z=>z.elim) (fun _ _ _ z=>z.elim)
 .exact k _ q .non H' (fun b o e=>F.kp b o id e) .non
 .exact k _ q v H' (fun b o e=>F.kp b o id e) o.outV
abbrev FR:=PV->List D->(PV->PV->Prop)->Prop
def spR (K:PySem.W.Frag) (c:FR):Sp:=fun vs H Q _=>∃(A:Addr->Prop) (a:Addr) (p:PV) (ws:List V) (ds:List D) (Qc:PV->PV->Prop),vs=.ref a::ws/\p.isOwn=true/\(∀b,A b->H b≠none)/\¬ A a/\RS K (cH A a) H p (.ref a)/\FVs K (cH A a) H ws ds/\c p ds Qc /\
 ∀r p',Qc r p'->p'.isOwn=true->∀v H',(∀b o,b≠a->H b=some o->H' b=some o)->H' a≠none->RS K (cH A a) H' p' (.ref a)->lq K (cH A a) H H' r v->(∀a',v=.ref a'->r.isOwn=true->RS K (cH (cH A a) a') H' p' (.ref a))->Q v H'
def a5 (c:FR) (i:Nat) (pr:PTA):PTE:=fun ρ Q=>match ρ[i]? with
 | some (some _)=>pr ρ fun as ρ1=>(match ρ1[i]?,avD as with
  | some (some p),some ds=>p.isOwn=true/\c p ds fun r p'=>Q r (ρ1.set i (some p'))
  | _,_=>False)
 | _=>False
theorem aG {c:FR}{i:Nat} (h:LAs K tr pr):LE K (dI (spR K c) [] E0 (bg (b5 i) tr)) (a5 c i pr):=fun A ρ σ H Q Q' R q k=>by
 unfold a5 at q
 split at q
 .rename_i p0 e0
  obtain ⟨v0,s0,_⟩:=R.get i p0 e0
  refine ⟨v0,s0,h A ρ σ H _ _ R q fun vs H1 as ρ1 q1 f1 R1 o1=>?_⟩
  split at q1
  .rename_i p ds e1 ed
   obtain ⟨ow,q1⟩:=q1
   obtain ⟨v1,s1,rs⟩:=R1.get i p e1
   rw [s0] at s1;cases s1
   obtain ⟨a,u,rfl,ea⟩:=rs.ref ow
   rw [List.append_nil]
   have wa:Wr ρ1 σ a:=⟨i,p,e1,ow,s0⟩
   have oeq:cH (fun b=>(OO A ρ1 σ b)/\b≠a) a=OO A ρ1 σ:=funext fun b=>propext ⟨fun z=>z.elim (fun z=>z.1) (fun z=>by rw [z];exact .inr wa),fun z=>by
    by_cases e:b=a
    .exact .inr e
    .exact .inl ⟨z,e⟩⟩
   refine ⟨fun b=>(OO A ρ1 σ b)/\b≠a,a,p,vs,ds,_,rfl,ow,fun b z=>R1.dom2 b z.1,fun z=>z.2 rfl,by rw [oeq];exact rs,by rw [oeq];exact o1.avD ed,q1,fun r p' qr ow' v H' kp ha rs' ov hx=>?_⟩
   rw [oeq] at rs' ov hx
   have domA:∀b,A b->H' b≠none:=fun b z=>by
    have:b≠a:=fun e=>R1.sep b z (by rw [e];exact wa)
    cases eb:H1 b with
    | none=>exact absurd eb (R1.dom b z)
    | some o=>rw [kp b o this eb];exact nofun
   cases r with
   | dat d =>
    obtain ⟨R2,f2⟩:=R1.step (A':=A) e1 ow ow' s0 kp ha (fun _ h=>h) (fun _ h=>.inl h) domA rs'
    exact k v H' _ _ qr (f1.trans f2) ⟨R2,FV.keeps (aK.less fun b z=>z.imp id (f2.ow b)) ov⟩
   | own es =>
    obtain ⟨a',xs,rfl,n1,e2,f⟩:=ov
    have hx:=hx a' rfl rfl
    have na:a'≠a:=fun e=>by rw [e,ea] at n1;cases n1
    have oo2:∀b,OO (cH A a') ρ1 σ b ↔ cH (OO A ρ1 σ) a' b:=fun b=>⟨fun z=>by
     rcases z with (z | z) | z
     .exact .inl (.inl z)
     .exact .inr z
     .exact .inl (.inr z),fun z=>by
     rcases z with (z | z) | z
     .exact .inl (.inl z)
     .exact .inr z
     .exact .inl (.inr z)⟩
    have oo2':OO (cH A a') ρ1 σ=cH (OO A ρ1 σ) a':=funext fun b=>propext (oo2 b)
    obtain ⟨R2,f2⟩:=R1.step (A':=cH A a') e1 ow ow' s0 kp ha (fun _ h=>.inl h) (fun b z=>z.imp id fun z=>by rw [z];exact n1) (fun b z=>z.elim (domA b) fun z=>by rw [z,e2];exact nofun) (by rw [oo2'];exact hx)
    .refine k _ H' (.own es) _ qr (f1.trans f2) ⟨a',xs,rfl,fun z=>R1.dom a' z n1,?_,e2,R2,f.keeps (aK.less fun b z=>?_)⟩
     .cases eb:H a' with
      | none=>rfl
      | some o=>exact absurd n1 (f1.dm a' (by rw [eb];exact nofun))
     .rw [<- oo2'];exact z.imp id (f2.ow b)
   | ins c ns es =>
    obtain ⟨a',dx,fs,rfl,n1,e2,m,f⟩:=ov
    have hx:=hx a' rfl rfl
    have oo2':OO (cH A a') ρ1 σ=cH (OO A ρ1 σ) a':=funext fun b=>propext ⟨fun z=>by
     rcases z with (z | z) | z
     .exact .inl (.inl z)
     .exact .inr z
     .exact .inl (.inr z),fun z=>by
     rcases z with (z | z) | z
     .exact .inl (.inl z)
     .exact .inr z
     .exact .inl (.inr z)⟩
    obtain ⟨R2,f2⟩:=R1.step (A':=cH A a') e1 ow ow' s0 kp ha (fun _ h=>.inl h) (fun b z=>z.imp id fun z=>by rw [z];exact n1) (fun b z=>z.elim (domA b) fun z=>by rw [z,e2];exact nofun) (by rw [oo2'];exact hx)
    .refine k _ H' (.ins c ns es) _ qr (f1.trans f2) ⟨a',dx,fs,rfl,fun z=>R1.dom a' z n1,?_,e2,m,R2,f.keeps (aK.less fun b z=>?_)⟩
     .cases eb:H a' with
      | none=>rfl
      | some o=>exact absurd n1 (f1.dm a' (by rw [eb];exact nofun))
     .rw [<- oo2'];exact z.imp id (f2.ow b)
  .exact q1.elim
 .exact q.elim
def vW (Q:PV->PV->Prop) (r:PV) (ρ:PSt):Prop:=match ρ[0]? with
 | some (some p)=>p.isOwn=true/\Q r p
 | _=>False
theorem fnR {c:FR}{N:List Str} (hl:LS K [0] ts ps) (hn:∀p ds Q,c p ds Q->ds.length + 1<=N.length) (hc:∀p ds Q,p.isOwn=true->c p ds Q->ps { nx:=vW Q (.dat .non),rt:=vW Q } (bU N.length (p::ds.map .dat)))
  {vs:List V}{H:Hp}{Q:VK}{E:XK} (h:spR K c vs H Q E):ts { nx:=fun _ H'=>Q .non H',rt:=Q } (start N vs) H:=by
 obtain ⟨A,a,p,ws,ds,Qc,rfl,ow,dom,na,rs,fv,hq,k⟩:=h
 have s0:(start N (V.ref a::ws))[0]?=some (some (.ref a)):=fm rfl
 have b0:(bU N.length (p::ds.map .dat))[0]?=some (some p):=rfl
 have wr:∀b,Wr (bU N.length (p::ds.map .dat)) (start N (.ref a::ws)) b->b=a:=fun b ⟨i,q,e1,o1,s1⟩=>by
  have:=bW e1
  cases i with
  | zero=>rw [s0] at s1;cases s1;rfl
  | succ i =>
   rw [List.getElem?_cons_succ,List.getElem?_map] at this
   cases e2:ds[i]? with
   | none=>rw [e2] at this;cases this
   | some d=>rw [e2] at this;cases this;cases o1
 have wa:Wr (bU N.length (p::ds.map .dat)) (start N (.ref a::ws)) a:=⟨0,p,b0,ow,s0⟩
 have oeq:OO A (bU N.length (p::ds.map .dat)) (start N (.ref a::ws))=cH A a:=funext fun b=>propext ⟨fun z=>z.imp id (wr b),fun z=>z.imp id fun z=>by rw [z];exact wa⟩
 have lenv:=fv.length
 have hle:=hn p ds Qc hq
 have R0:Rel K A (bU N.length (p::ds.map .dat)) (start N (.ref a::ws)) H:=by
  refine ⟨?_,fun i q e=>?_,fun i j q1 q2 v e1 e2 o1 o2 s1 s2=>?_,dom,fun b z w=>?_⟩
  .unfold bU start
   simp only [List.length_append,List.length_map,List.length_replicate,List.length_cons,lenv]
  .have:=bW e
   rw [oeq]
   cases i with
   | zero=>cases this;exact ⟨_,s0,rs⟩
   | succ i =>
    rw [List.getElem?_cons_succ,List.getElem?_map] at this
    cases e2:ds[i]? with
    | none=>rw [e2] at this;cases this
    | some d =>
     rw [e2] at this;cases this
     obtain ⟨v,hv,f⟩:=fv.getD e2
     exact ⟨v,fm (by rw [List.getElem?_cons_succ];exact hv),f⟩
  .have own0:∀(i:Nat) (q:PV),(bU N.length (p::ds.map .dat))[i]?=some (some q)->q.isOwn=true->i=0:=fun i q e o=>by
    have:=bW e
    cases i with
    | zero=>rfl
    | succ i =>
     rw [List.getElem?_cons_succ,List.getElem?_map] at this
     cases e2:ds[i]? with
     | none=>rw [e2] at this;cases this
     | some d=>rw [e2] at this;cases this;cases o
   rw [own0 i q1 e1 o1,own0 j q2 e2 o2]
  .rw [wr b w] at z;exact na z
 have fin:∀(v:V) (r:PV) (ρ':PSt) (σ':St) (H':Hp),vW Qc r ρ'->Out K A ρ' σ' H H' r v->b9 [(0,.ref a)] (fun b=>b=a) H ρ' σ' H'->Q v H':=fun v r ρ' σ' H' q o F=>by
  unfold vW at q
  split at q
  .rename_i p' e'
   obtain ⟨ow',q⟩:=q
   have sa:=F.fx (0,.ref a) (List.mem_singleton.mpr rfl)
   have wa':Wr ρ' σ' a:=⟨0,p',e',ow',sa⟩
   have kpa:∀b o,b≠a->H b=some o->H' b=some o:=fun b o n e=>F.kp b o n e
   cases r with
   | dat d =>
    obtain ⟨R1,f1⟩:=o
    obtain ⟨v1,s1,rs1⟩:=R1.get 0 p' e'
    rw [sa] at s1;cases s1
    have less:∀b,cH A a b->OO A ρ' σ' b:=fun b z=>z.imp id fun z=>by rw [z];exact wa'
    exact k _ p' q ow' v H' kpa (R1.wr wa') (rs1.keeps (aK.less less) fun _ _ _=>rfl) (f1.keeps (aK.less less)) (fun _ _ z=>nomatch z)
   | own es =>
    obtain ⟨a',xs,rfl,n1,n2,e3,R1,f1⟩:=o
    obtain ⟨v1,s1,rs1⟩:=R1.get 0 p' e'
    rw [sa] at s1;cases s1
    have less:∀b,cH (cH A a) a' b->OO (cH A a') ρ' σ' b:=fun b z=>by
     rcases z with (z | z) | z
     .exact .inl (.inl z)
     .exact .inr (by rw [z];exact wa')
     .exact .inl (.inr z)
    exact k _ p' q ow' _ H' kpa (R1.wr wa') (rs1.keeps (aK.less fun b z=>less b (.inl z)) fun _ _ _=>rfl) ⟨a',xs,rfl,n2,e3,f1.keeps (aK.less less)⟩ (fun a'' e _=>by cases e;exact rs1.keeps (aK.less less) fun _ _ _=>rfl)
   | ins c ns es =>
    obtain ⟨a',dx,fs,rfl,n1,n2,e3,m,R1,f1⟩:=o
    obtain ⟨v1,s1,rs1⟩:=R1.get 0 p' e'
    rw [sa] at s1;cases s1
    have less:∀b,cH (cH A a) a' b->OO (cH A a') ρ' σ' b:=fun b z=>by
     rcases z with (z | z) | z
     .exact .inl (.inl z)
     .exact .inr (by rw [z];exact wa')
     .exact .inl (.inr z)
    exact k _ p' q ow' _ H' kpa (R1.wr wa') (rs1.keeps (aK.less fun b z=>less b (.inl z)) fun _ _ _=>rfl) ⟨a',dx,fs,rfl,n2,e3,m,f1.keeps (aK.less less)⟩ (fun a'' e _=>by cases e;exact rs1.keeps (aK.less less) fun _ _ _=>rfl)
  .exact q.elim
 refine hl [(0,.ref a)] A (fun b=>b=a) H _ _ H _ _ rfl R0 ⟨fun _ _ _ h=>h,fun _ h=>h,fun b w=>.inl (wr b w),fun q hq=>by rw [List.mem_singleton.mp hq];exact s0⟩ (hc p ds Qc ow hq) (fun ρ' σ' H' q r F=>fin .non (.dat .non) ρ' σ' H' q ⟨r,.non⟩ F) (fun v p ρ' σ' H' q o F=>fin v p ρ' σ' H' q o F) (fun _ _ _ z=>z.elim) (fun _ _ _ z=>z.elim)
end
def zV:FN:=fun as Q=>∃ns:List Int,as=[.scr ns]/\ns.length<=63/\Q (.dat (.bl true))
theorem uN {K:PySem.W.Frag}{vs:List V}{H:Hp}{Q:VK}{E:XK} (h:nB K vs H Q E):spP K zV vs H Q E:=by
 obtain ⟨a,ns,rfl,hS,h63,q⟩:=h
 refine ⟨fun _=>False,[.scr ns],fun r=>r=.dat (.bl true),nofun,.cons (.scr ?_) .nil,⟨ns,rfl,h63,rfl⟩,fun r e v H' g o=>?_⟩
 .rcases hS with h | h
  .exact .inl ⟨id,h⟩
  .exact .inr h
 .subst e
  cases o
  exact q H'
section
variable {K:PySem.W.Frag}{X:Cx}
def zW:List V->Hp->VK->Prop:=fun xs H Q=>∃i,xs=[.int i]/\Q (.int (if i < 0 then -i else i)) H
def xo:List V->Hp->VK->Prop:=fun xs H Q=>∃i j,xs=[.int i,.int j]/\Q (.int (if j < i then j else i)) H
def xp:List V->Hp->VK->Prop:=fun xs H Q=>∃i j,xs=[.int i,.int j]/\Q (.int (if j > i then j else i)) H
theorem y6:a9 X (.builtin "abs") zW:=qX
theorem pV (hc:X.calm=true):a9 X (.builtin "min") xo:=oz hc
theorem xq (hc:X.calm=true):a9 X (.builtin "max") xp:=oy hc
def y8:FN
 | [.int i],Q=>Q (.dat (.int (if i < 0 then -i else i)))
 | _,_=>False
def pW:FN
 | [.int i,.int j],Q=>Q (.dat (.int (if j < i then j else i)))
 | _,_=>False
def uO:FN
 | [.int i,.int j],Q=>Q (.dat (.int (if j > i then j else i)))
 | _,_=>False
theorem xt:LC K zW y8:=by
 intro O H xs as Q Q' dom fs q k
 unfold y8 at q
 split at q
 .cases fs with | cons a b=>cases b;rw [a.int];exact ⟨_,rfl,k _ H _ q (Gr.refl _) (.int _)⟩
 .exact q.elim
theorem lN:LC K xo pW:=by
 intro O H xs as Q Q' dom fs q k
 unfold pW at q
 split at q
 .cases fs with
  | cons a b=>cases b with | cons b c=>cases c;rw [a.int,b.int];exact ⟨_,_,rfl,k _ H _ q (Gr.refl _) (.int _)⟩
 .exact q.elim
theorem uP:LC K xp uO:=by
 intro O H xs as Q Q' dom fs q k
 unfold uO at q
 split at q
 .cases fs with
  | cons a b=>cases b with | cons b c=>cases c;rw [a.int,b.int];exact ⟨_,_,rfl,k _ H _ q (Gr.refl _) (.int _)⟩
 .exact q.elim
def xu (K:PySem.W.Frag):List V->Hp->VK->Prop:=fun xs H Q=>∃(p:Addr) (ns:List Int),xs=[.ref p]/\SqL K H p (ns.map V.int)/\0 < ns.length/\∀m:Int,m∈ns->(∀a∈ns,m<=a)->Q (.int m) H
def xv (K:PySem.W.Frag):List V->Hp->VK->Prop:=fun xs H Q=>∃(p:Addr) (ns:List Int),xs=[.ref p]/\SqL K H p (ns.map V.int)/\Q (.int ns.sum) H
def zX (K:PySem.W.Frag):List V->Hp->VK->Prop:=fun xs H Q=>∃(p:Addr) (bs:List Bool),xs=[.ref p]/\SqL K H p (bs.map V.bl)/\Q (.bl (bs.all id)) H
def zY (K:PySem.W.Frag):List V->Hp->VK->Prop:=fun xs H Q=>∃(p:Addr) (bs:List Bool),xs=[.ref p]/\SqL K H p (bs.map V.bl)/\Q (.bl (bs.any id)) H
theorem xw (K:PySem.W.Frag) (e:X.K=K) (hc:X.calm=true):a9 X (.builtin "min") (xu K):=by subst e;exact pJ hc
theorem xx (K:PySem.W.Frag) (e:X.K=K) (hc:X.calm=true):a9 X (.builtin "sum") (xv K):=by subst e;exact pK hc
theorem y9 (K:PySem.W.Frag) (e:X.K=K) (hc:X.calm=true):a9 X (.builtin "all") (zX K):=by subst e;exact rB hc
theorem za (K:PySem.W.Frag) (e:X.K=K) (hc:X.calm=true):a9 X (.builtin "any") (zY K):=by subst e;exact rC hc
def uQ:FN
 | [.lst ds],Q=>∃ns:List Int,ds=ns.map .int/\0 < ns.length/\∀m:Int,m∈ns->(∀a∈ns,m<=a)->Q (.dat (.int m))
 | _,_=>False
def uR:FN
 | [.lst ds],Q=>∃ns:List Int,ds=ns.map .int/\Q (.dat (.int ns.sum))
 | _,_=>False
def zb:FN
 | [.lst ds],Q=>∃bs:List Bool,ds=bs.map .bl/\Q (.dat (.bl (bs.all id)))
 | _,_=>False
def zc:FN
 | [.lst ds],Q=>∃bs:List Bool,ds=bs.map .bl/\Q (.dat (.bl (bs.any id)))
 | _,_=>False
theorem uS:LC K (xu K) uQ:=by
 intro O H xs as Q Q' dom fs q k
 unfold uQ at q
 split at q
 .obtain ⟨ns,rfl,h0,q⟩:=q
  cases fs with
  | cons a b =>
   cases b
   obtain ⟨p,ys,rfl,e1,f1⟩:=a.lst
   rw [f1.ints] at e1
   exact ⟨p,ns,rfl,SqL.of e1,h0,fun m hm hle=>k _ H _ (q m hm hle) (Gr.refl _) (.int _)⟩
 .exact q.elim
theorem uT:LC K (xv K) uR:=by
 intro O H xs as Q Q' dom fs q k
 unfold uR at q
 split at q
 .obtain ⟨ns,rfl,q⟩:=q
  cases fs with
  | cons a b =>
   cases b
   obtain ⟨p,ys,rfl,e1,f1⟩:=a.lst
   rw [f1.ints] at e1
   exact ⟨p,ns,rfl,SqL.of e1,k _ H _ q (Gr.refl _) (.int _)⟩
 .exact q.elim
theorem xy:LC K (zX K) zb:=by
 intro O H xs as Q Q' dom fs q k
 unfold zb at q
 split at q
 .obtain ⟨ns,rfl,q⟩:=q
  cases fs with
  | cons a b =>
   cases b
   obtain ⟨p,ys,rfl,e1,f1⟩:=a.lst
   rw [f1.bls] at e1
   exact ⟨p,ns,rfl,SqL.of e1,k _ H _ q (Gr.refl _) (.bl _)⟩
 .exact q.elim
theorem xz:LC K (zY K) zc:=by
 intro O H xs as Q Q' dom fs q k
 unfold zc at q
 split at q
 .obtain ⟨ns,rfl,q⟩:=q
  cases fs with
  | cons a b =>
   cases b
   obtain ⟨p,ys,rfl,e1,f1⟩:=a.lst
   rw [f1.bls] at e1
   exact ⟨p,ns,rfl,SqL.of e1,k _ H _ q (Gr.refl _) (.bl _)⟩
 .exact q.elim
def uU (K:PySem.W.Frag):List V->Hp->VK->Prop:=fun xs H Q=>∃p ys,xs=[.ref p]/\((SqL K H p ys/\∀l,H l=none->Q (.ref l) (upd H l (.tup ys)))\/(SqT K H p ys/\Q (.ref p) H))
theorem dk (K:PySem.W.Frag) (e:X.K=K):a9 X (.type "tuple") (uU K):=by subst e;exact jF
theorem sN (K:PySem.W.Frag) (e:X.K=K):a9 X (.type "list") (pM K):=by subst e;exact kC
def dS:FN
 | [.lst ds],Q=>Q (.dat (.tup ds))
 | [.tup ds],Q=>Q (.dat (.tup ds))
 | [.scr ns],Q=>Q (.dat (.tup (ns.map .int)))
 | _,_=>False
def rL:FN
 | [.lst ds],Q=>Q (.own ds)
 | [.tup ds],Q=>Q (.own ds)
 | [.scr ns],Q=>Q (.own (ns.map .int))
 | _,_=>False
theorem cz:LC K (uU K) dS:=by
 intro O H xs as Q Q' dom fs q k
 unfold dS at q
 split at q
 .cases fs with
  | cons a b =>
   cases b
   obtain ⟨p,ys,rfl,e1,f1⟩:=a.lst
   exact ⟨p,ys,rfl,.inl ⟨SqL.of e1,fun l hl=>k _ _ _ q (Gr.new hl) (hV dom hl f1)⟩⟩
 .cases fs with
  | cons a b =>
   cases b
   obtain ⟨p,ys,rfl,n1,e1,f1⟩:=a.tup
   exact ⟨p,ys,rfl,.inr ⟨SqT.of e1,k _ H _ q (Gr.refl _) (.tup n1 e1 f1)⟩⟩
 .cases fs with
  | cons a b =>
   cases b
   obtain ⟨p,rfl,e1⟩:=a.scr
   exact ⟨p,_,rfl,.inl ⟨e1,fun l hl=>k _ _ _ q (Gr.new hl) (hV dom hl (FVs.of_ints _))⟩⟩
 .exact q.elim
theorem pX:LC K (pM K) rL:=by
 intro O H xs as Q Q' dom fs q k
 unfold rL at q
 split at q
 .cases fs with
  | cons a b =>
   cases b
   obtain ⟨p,ys,rfl,e1,f1⟩:=a.lst
   exact ⟨p,ys,rfl,.inl (SqL.of e1),fun l hl=>k _ _ _ q (Gr.new hl) (dg hl f1)⟩
 .cases fs with
  | cons a b =>
   cases b
   obtain ⟨p,ys,rfl,n1,e1,f1⟩:=a.tup
   exact ⟨p,ys,rfl,.inr (SqT.of e1),fun l hl=>k _ _ _ q (Gr.new hl) (dg hl f1)⟩
 .cases fs with
  | cons a b =>
   cases b
   obtain ⟨p,rfl,e1⟩:=a.scr
   exact ⟨p,_,rfl,.inl e1,fun l hl=>k _ _ _ q (Gr.new hl) (dg hl (FVs.of_ints _))⟩
 .exact q.elim
variable {ta:TE}{pa:PA1}{tr:TA}{pr:PTA}{pe:PTE}
def nZ (i:Int) (n:Nat):List D:=(List.range n).map fun (k:Nat)=>D.int (i + (k:Int))
def mkL (tup:Bool) (ds:List D):PV:=match tup with | true=>.dat (.tup ds) | false=>.own ds
def xA (tup:Bool) (pr:PTA):PTE:=fun ρ Q=>pr ρ fun as ρ1=>match as with
 | [.v (.int j)]=>(0<=j/\j<=1000000)/\Q (mkL tup (nZ 0 j.toNat)) ρ1
 | _=>False
theorem xB {O:Addr->Prop}{H:Hp} (i:Int) (n:Nat):FVs K O H (lD i 1 n) (nZ i n):=by
 have e:∀l:List Nat,FVs K O H (l.map fun (k:Nat)=>V.int (i + k * 1)) (l.map fun (k:Nat)=>D.int (i + (k:Int))):=fun l=>by
  induction l with
  | nil=>exact .nil
  | cons a r ih=>exact .cons (by show FV K O H (V.int (i + (a:Int) * 1)) (D.int (i + (a:Int)));rw [show i + (a:Int) * 1=i + (a:Int) by omega];exact .int _) ih
 exact e _
theorem jk {i j:Int} (h:i<=j):Builtin.Range.rangeSize i j 1=(((j - i).toNat:Nat):Int):=by
 unfold Builtin.Range.rangeSize
 rw [if_pos (by decide)]
 simp only [Int.ediv_one]
 split <;> omega
theorem nH {i j:Int} (h0:-1000000<=i) (h1:i<=j) (h2:j<=1000000):Builtin.Range.small i j 1=true:=by
 unfold Builtin.Range.small
 rw [jk h1]
 simp only [Builtin.Range.rangeFitsLong,Bool.and_eq_true,Bool.or_eq_true,decide_eq_true_eq,beq_iff_eq,show (1:Int) > 0 by decide,if_true]
 omega
def mkO (tup:Bool):List V->HO:=match tup with | true=>.tup | false=>.lst
theorem xC {O:Addr->Prop}{H:Hp}{xs:List V}{ds:List D}{p:Addr} (tup:Bool) (dom:∀b,O b->H b≠none) (hp:H p=none) (f:FVs K O H xs ds):lq K O H (upd H p (mkO tup xs)) (mkL tup ds) (.ref p):=by
 cases tup with
 | true=>exact hV dom hp f
 | false=>exact dg hp f
theorem rM (tup:Bool) (h:LAs K tr pr):LE K (tCB (yE K (mkO tup)) (bg (fun σ H Q=>tr σ H fun vs H1=>∃j:Int,vs=[.int j]/\∀p,H1 p=none->Q (.ref p) (upd H1 p (sG p 0 j 1))) gg)) (xA tup pr):=fun A ρ σ H Q Q' R q k=>h A ρ σ H _ _ R q fun vs H1 as ρ1 q1 f1 R1 o1=>by
 split at q1
 .rename_i j
  cases o1 with
  | cons a b =>
   cases b
   cases a
   refine ⟨j,rfl,fun p hp=>⟨p,0,j,1,j.toNat,rfl,au,nH (by decide) q1.1.1 q1.1.2,by rw [jk q1.1.1,Int.sub_zero],by omega,fun l hl=>?_⟩⟩
   have g:Gr H1 (upd H1 p (sG p 0 j 1)):=Gr.new hp
   have R2:=R1.gr g
   have g2:Gr (upd H1 p (sG p 0 j 1)) (upd (upd H1 p (sG p 0 j 1)) l (mkO tup (lD 0 1 j.toNat))):=Gr.new hl
   exact k _ _ _ ρ1 q1.2 (f1.trans (g.fr.trans g2.fr)) ((lq.out R2 g2 (xC tup R2.dom2 hl (xB 0 _))).h0 fun b z=>(g.fr (ρ:=ρ1) (σ:=σ)).dm b (f1.dm b z))
 .exact q1.elim
theorem xD (K:PySem.W.Frag) (e:X.K=K) (hc:X.calm=true):a9 X (.type "list") (yE K (mkO false)):=by subst e;exact nE hc
abbrev FM:=List Nat->List D->(PV->Prop)->Prop
def LM (K:PySem.W.Frag) (r:V->List V->Hp->VK->Prop) (f:FM):Prop:=∀(O:Addr->Prop) (H:Hp) (l:List Nat) (xs:List V) (as:List D) (Q:PV->Prop) (Q':VK),(∀b,O b->H b≠none)->l.length<=1000000->vS K O H xs as->f l as Q ->
 (∀v H' p,Q p->Gr H H'->lq K O H H' p v->Q' v H')->r (.str (S l)) xs H Q'
def pSM (f:FM) (pe:PTE) (pr:PTA):PTE:=fun ρ Q=>pe ρ fun p ρ1=>match p with
 | .dat (.str l)=>pr ρ1 fun as ρ2=>(match conts ρ2 as with
  | some ds=>f l ds fun r=>Q r ρ2
  | none=>False)
 | _=>False
theorem rN {r:V->List V->Hp->VK->Prop}{f:FM} (o:LM K r f) (he:LE K ta pe) (hr:LAs K tr pr):LE K (tBM K "str" r ta tr) (pSM f pe pr):=fun A ρ σ H Q Q' R q k=>he A ρ σ H _ _ R q fun v H1 p ρ1 q1 f1 o1=>by
 split at q1
 .rename_i l
  obtain ⟨R1,fv⟩:=o1
  cases fv with
  | str _ hl =>
   refine ⟨rfl,hr A ρ1 σ H1 _ _ R1 q1 fun vs H2 as ρ2 q2 f2 R2 o2=>?_⟩
   split at q2
   .rename_i ds e
    exact o _ H2 l vs ds _ _ R2.dom2 hl (R2.conts o2 e) q2 fun z H3 p q3 g ov=>k z H3 p ρ2 q3 ((f1.trans f2).trans g.fr) ((ov.out R2 g).h0 fun b z=>f2.dm b (f1.dm b z))
   .exact q2.elim
 .exact q1.elim
def xE:V->List V->Hp->VK->Prop:=fun x xs H Q=>∃a b,x=.str (S a)/\xs=[.str (S b)]/\Q (.bl (decide (b <:+ a))) H
def sO:V->List V->Hp->VK->Prop:=fun x xs H Q=>∃a b,x=.str (S a)/\xs=[.str (S b)]/\Q (.int (fnd a b 0)) H
theorem uV:MtR X "str.endswith" xE:=lC
theorem rO:MtR X "str.find" sO:=rn
def uW:FM
 | a,[.str b],Q=>Q (.dat (.bl (decide (b <:+ a))))
 | _,_,_=>False
def pY:FM
 | a,[.str b],Q=>Q (.dat (.int (fnd a b 0)))
 | _,_,_=>False
theorem uX:LM K xE uW:=by
 intro O H l xs as Q Q' dom hl fs q k
 unfold uW at q
 split at q
 .cases fs with | cons a b=>cases b;rw [a.str.1];exact ⟨_,_,rfl,rfl,k _ H _ q (Gr.refl _) (.bl _)⟩
 .exact q.elim
theorem rP:LM K sO pY:=by
 intro O H l xs as Q Q' dom hl fs q k
 unfold pY at q
 split at q
 .cases fs with | cons a b=>cases b;rw [a.str.1];exact ⟨_,_,rfl,rfl,k _ H _ q (Gr.refl _) (.int _)⟩
 .exact q.elim
def dU (f:Str):List Str->Option Nat
 | []=>none
 | n::r=>if n=f then some 0 else (dU f r).map (· + 1)
theorem h7 {f:Str}:∀{fs:List (Str×V)}{k:Nat},dU f (fs.map Prod.fst)=some k->fs.lookup f=(fs.map Prod.snd)[k]?
 | [],k,h=>by cases h
 | (n,v)::r,k,h=>by
  unfold dU at h
  rw [List.map_cons] at h
  simp only at h
  rw [List.lookup_cons]
  by_cases e:n=f
  .rw [if_pos e] at h;cases h
   rw [show (f == n)=true by rw [e];exact beq_self_eq_true _];rfl
  .rw [if_neg e] at h
   rw [show (f == n)=false from beq_eq_false_iff_ne.mpr fun z=>e z.symm]
   cases e2:dU f (r.map Prod.fst) with
   | none=>rw [e2] at h;cases h
   | some j=>rw [e2] at h;cases h;show List.lookup f r=_;rw [h7 e2];simp
theorem jV {f:Str}{v:V}:∀{fs:List (Str×V)},dU f (fs.map Prod.fst)=none->i9 f v fs=fs++[(f,v)]
 | [],h=>rfl
 | (n,x)::r,h=>by
  unfold dU at h
  rw [List.map_cons] at h
  simp only at h
  by_cases e:n=f
  .rw [if_pos e] at h;cases h
  .rw [if_neg e] at h
   cases e2:dU f (r.map Prod.fst) with
   | none=>unfold i9;rw [if_neg e,jV e2];rfl
   | some j=>rw [e2] at h;cases h
theorem FVc.obj {O:Addr->Prop}{H:Hp}{v:V}{c:Str}{ns:List Str}{ds:List D} (h:FVc K O H v (.obj c ns ds)):∃a dx fs,v=.ref a/\H a=some (.ins (aq K c) dx fs)/\fs.map Prod.fst=ns/\FVs K O H (fs.map Prod.snd) ds:=by
 rcases h with h | ⟨a,xs,ds',e1,e2,e3,f⟩ | ⟨a,dx,c,fs,ns,ds',e1,e2,e3,m,f⟩
 .cases h with
  | obj n e m f=>exact ⟨_,_,_,rfl,e,m,f⟩
 .cases e2
 .cases e2;exact ⟨a,dx,fs,e1,e3,m,f⟩
def nI (c0:Str) (ns0:List Str) (k:Nat) (pa:PA1):PTE:=fun ρ Q=>pa ρ fun x ρ1=>match cont ρ1 x with
 | some (.obj c ns ds)=>(c=c0/\ns=ns0)/\∃d,ds[k]?=some d/\Q (.dat d) ρ1
 | _=>False
theorem dD {c0 f:Str}{ns0:List Str}{i:Nat} (hc:Cls K (aq K c0)) (hn:cM K (aq K c0) f) (hk:dU f ns0=some i) (h:LA1 K ta pa):LE K (qM K ta f) (nI c0 ns0 i pa):=fun A ρ σ H Q Q' R q k=>h A ρ σ H _ _ R q fun v H1 a ρ1 q1 f1 R1 o1=>by
 split at q1
 .rename_i c ns ds e
  obtain ⟨⟨rfl,rfl⟩,d,hd,q1⟩:=q1
  obtain ⟨a,dx,fs,rfl,e1,m,f⟩:=(R1.cont o1 e).obj
  obtain ⟨v,hv,fv⟩:=f.getD hd
  exact ⟨a,_,dx,fs,v,rfl,e1,hc,hn,by rw [h7 (k:=i) (by rw [m];exact hk)];exact hv,k v H1 _ ρ1 q1 f1 ⟨R1,fv⟩⟩
 .exact q1.elim
def h8 (c0:Str) (ns0:List Str) (f:Str) (i:Nat) (pe:PTE):PTS:=fun D ρ=>pe ρ fun p ρ1=>match ρ1[i]? with
 | some (some (.ins c ns ds))=>(c=c0/\ns=ns0/\ns0.length < 1000)/\D.nx (ρ1.set i (some (.ins c0 (ns0++[f]) (ds++[p.d]))))
 | _=>False
theorem fR {fs':List Nat}{c0 f:Str}{ns0:List Str}{i:Nat} (hc:Cls K (aq K c0)) (hn:cM K (aq K c0) f) (hk:dU f ns0=none) (h:LE K ta pe):LS K fs' (zG K (b5 i) ta f) (h8 c0 ns0 f i pe):=fun fx A R H0 ρ σ H D D' hf r F q k1 k2 k3 k4=>h A ρ σ H _ _ r q fun v H1 p ρ1 q1 f1 o1=>by
 obtain ⟨R1,fv⟩:=o1.frz
 split at q1
 .rename_i c ns ds e
  obtain ⟨⟨rfl,rfl,hl⟩,q1⟩:=q1
  obtain ⟨w,s,a,dx,fs,rfl,g,m,ff⟩:=R1.get i _ e
  have hk':dU f (fs.map Prod.fst)=none:=by rw [m];exact hk
  have wa:OO A ρ1 σ a:=.inr ⟨i,_,e,rfl,s⟩
  have kw:∀o,aK (OO A ρ1 σ) H1 (OO A ρ1 σ) (upd H1 a o):=fun o b u n h=>⟨n,by rw [ak (fun z=>n (by rw [z];exact wa))];exact h⟩
  obtain ⟨R2,f2⟩:=R1.write (o:=.ins (aq K c) dx (i9 f v fs)) (q:=.ins c (ns++[f]) (ds++[p.d])) e rfl rfl s ⟨a,dx,i9 f v fs,rfl,au,by rw [jV hk',List.map_append,m];rfl,by rw [jV hk',List.map_append];exact (ff.append (.cons fv .nil)).keeps (kw _)⟩
  refine ⟨_,s,a,_,dx,fs,rfl,g,hc,hn,?_,k1 _ _ _ q1 R2 ((F.fr f1).fr f2)⟩
  have:fs.length=ns.length:=by rw [<- m,List.length_map]
  omega
 .exact q1.elim
def rQ (c0:Str) (c:FR) (pr:PTA):PTE:=fun ρ Q=>pr ρ fun as ρ1=>match avD as with
 | some ds=>c (.ins c0 [] []) ds fun r p'=>(match r,p' with
  | .dat .non,.ins c1 ns es=>c1=c0/\Q (.ins c1 ns es) ρ1
  | _,_=>False)
 | none=>False
theorem lO {c0:Str}{c:FR} (h:LAs K tr pr):LE K (qY (aq K c0) (spR K c) [] E0 tr) (rQ c0 c pr):=fun A ρ σ H Q Q' R q k=>h A ρ σ H _ _ R q fun vs H1 as ρ1 q1 f1 R1 o1=>by
 split at q1
 .rename_i ds e
  intro x dx hx hdx hne
  rw [List.append_nil]
  let H2:=upd (upd H1 dx (.own x)) x (.ins (aq K c0) dx [])
  have g2:Gr H1 H2:=fun b o z=>by
   show upd (upd H1 dx (.own x)) x _ b=_
   rw [ak (aD z hx),ak (aD z hdx)];exact z
  have nx:¬ OO A ρ1 σ x:=R1.oo hx
  have keep2:aK (OO A ρ1 σ) H1 (cH (OO A ρ1 σ) x) H2:=fun b o n z=>by
   refine ⟨fun y=>?_,g2 b o z⟩
   rcases y with y | y
   .exact n y
   .rw [y,hx] at z;cases z
  refine ⟨OO A ρ1 σ,x,.ins c0 [] [],vs,ds,_,rfl,rfl,fun b z=>(g2.fr (ρ:=ρ1) (σ:=σ)).dm b (R1.dom2 b z),nx,⟨x,dx,[],rfl,au,rfl,.nil⟩,(o1.avD e).keeps keep2,q1,fun r p' qr ow' v H' kp ha rs ov _=>?_⟩
  split at qr
  .obtain ⟨rfl,qr⟩:=qr
   cases ov
   refine ⟨rfl,?_⟩
   obtain ⟨a',dx',fs,ea,e2,m,f⟩:=rs
   cases ea
   have g:Gr H1 H':=fun b o z=>kp b o (aD z hx) (g2 b o z)
   have hx0:H x=none:=by
    cases eb:H x with
    | none=>rfl
    | some o=>exact absurd hx (f1.dm x (by rw [eb];exact nofun))
   refine k _ H' _ ρ1 qr (f1.trans g.fr) ⟨x,dx',fs,rfl,fun z=>nx (.inl z),hx0,e2,m,R1.grA g hx (by rw [e2];exact nofun),f.keeps (aK.less fun b z=>?_)⟩
   rcases z with (z | z) | z
   .exact .inl (.inl z)
   .exact .inr z
   .exact .inl (.inr z)
  .exact qr.elim
 .exact q1.elim
end
abbrev zd:R2:=rI0 fun i j=>.int (i - j)
abbrev xF:R2:=rI (fun _ j=>0 < j) fun i j=>.int (i % j)
abbrev ze:R2:=rI yr fun i j=>.int (i / j)
abbrev zf:R2:=rI yt fun i j=>.int (i ^ j.toNat)
abbrev zZ:R2:=rI0 fun i j=>.bl (decide (j < i))
abbrev At:R2:=rI0 fun i j=>.bl (decide (j<=i))
abbrev zg:V->Hp->VK->Prop:=rU fun i=>.int (-i)
abbrev zh:F2:=fI0 fun i j=>.int (i - j)
abbrev uY:F2:=fI (fun _ j=>0 < j) fun i j=>.int (i % j)
abbrev Au:F2:=fI (fun _ j=>0 < j/\j < 1073741824) fun i j=>.int (i / j)
abbrev Av:F2:=fI (fun i j=>0<=j/\j<=1000000/\i.natAbs < 2 ^ 64) fun i j=>.int (i ^ j.toNat)
abbrev fGt:F2:=fI0 fun i j=>.bl (decide (j < i))
abbrev fGe:F2:=fI0 fun i j=>.bl (decide (j<=i))
def zi:D->(PV->Prop)->Prop
 | .int i,Q=>Q (.dat (.int (-i)))
 | _,_=>False
section
variable {K:PySem.W.Frag}{X:Cx}{ta:TE}{tr:TA}{pr:PTA}{ts:TS}{ps:PTS}
theorem uZ:OpR X (binaryOp .Sub) zd:=wu
theorem lP:OpR X (binaryOp .Mod) xF:=ww
theorem xG:OpR X (binaryOp .FloorDiv) ze:=tU
theorem zj:OpR X (binaryOp .Pow) zf:=wx
theorem vX:OpR X (compareOp .Gt) zZ:=yx
theorem Aw:OpR X (compareOp .GtE) At:=yy
theorem xH:LU K zg zi:=by
 intro O H x a Q Q' dom fx q k
 unfold zi at q
 split at q
 .rename_i i;exact ⟨i,fx.int,k _ H _ q (Gr.refl _) (.int _)⟩
 .exact q.elim
theorem rR {es:List Expr}{ct:Nat}{tp:Pos} (K:PySem.W.Frag) (e:X.K=K) {a:Expr}{ta:TA}{p pos:Pos} (hg:Gl X "enumerate") (hm:X.mg "enumerate"=none) (ha:PA X [a] ta) (hs:starEach [a] X.env=[(false,eval a X.env)]:=by rfl) :
  PI X (.Tuple es ct tp) (.Call (.Name "enumerate" p) [a] [] pos) (uu K ta):=by subst e;exact uv hg hm ha hs
theorem n4 {ix:List (Option Nat)}{fs:List Nat}{i:Nat} (h:∀k∈fs,k∈vV ix) (hi:(vV ix).contains i=false):fs.contains i=false:=by
 cases e:fs.contains i with
 | false=>rfl
 | true =>
  have:=h i (List.contains_iff_mem.mp e)
  rw [List.contains_iff_mem.mpr this] at hi;cases hi
def sP (c:FN) (es:List D) (pr:PTA):PTE:=fun ρ Q=>pr ρ fun as ρ1=>match avD as with
 | some ds=>c (ds++es) fun r=>Q r ρ1
 | none=>False
theorem rS {c:FN}{vs0:List V}{ds:List D} (hd:∀{O:Addr->Prop}{H:Hp},FVs K O H vs0 ds) (h:LAs K tr pr):LE K (dI (spP K c) vs0 E0 tr) (sP c ds pr):=fun A ρ σ H Q Q' R q k=>h A ρ σ H _ _ R q fun vs H1 as ρ1 q1 f1 R1 o1=>by
 split at q1
 .rename_i es e
  exact ⟨OO A ρ1 σ,_,_,R1.dom2,(o1.avD e).append hd,q1,fun r qr v H' g ov=>k v H' r ρ1 qr (f1.trans g.fr) ((ov.out R1 g).h0 f1.dm)⟩
 .exact q1.elim
theorem nJ {c:FN}{n:Nat} (hn:∀ds Q,c ds Q->ds.length=n) {vs:List V}{H:Hp}{Q:VK}{E:XK} (h:spP K c vs H Q E):vs.length=n:=by
 obtain ⟨O,ds,Qc,_,f,hq,_⟩:=h
 rw [f.length];exact hn ds Qc hq
theorem sQ {c:FR}{n:Nat} (hn:∀p ds Q,c p ds Q->ds.length + 1=n) {vs:List V}{H:Hp}{Q:VK}{E:XK} (h:spR K c vs H Q E):vs.length=n:=by
 obtain ⟨A,a,p,ws,ds,Qc,rfl,_,_,_,_,f,hq,_⟩:=h
 rw [List.length_cons,f.length];exact hn p ds Qc hq
abbrev gv (pp:PTS) (n:Nat) (ds:List D) (Q:PV->Prop):Prop:=pp { nx:=fun _=>Q (.dat .non),rt:=fun p _=>Q p } (bU n (ds.map .dat))
abbrev lu (pp:PTS) (n:Nat) (p:PV) (ds:List D) (Q:PV->PV->Prop):Prop:=pp { nx:=vW Q (.dat .non),rt:=vW Q } (bU n (p::ds.map .dat))
end
end L2
namespace L2
theorem Cal.imp {P:PySem.Program}{w:PySem.World}{K:PySem.W.Frag}{mg:PySem.Str->Option PySem.Value}{base:PySem.Heap}{k:Nat}{x:PySem.Str}{ps:List PySem.Str}{sp sp':Sp} (C:Cal P w K mg base k x ps sp) (h:∀vs H Q E,sp' vs H Q E->sp vs H Q E):Cal P w K mg base k x ps sp':=by
 obtain ⟨f,fd,F,r⟩:=C.ex
 exact ⟨f,fd,F.imp h,r⟩
end L2
namespace L2
open PySem PySem.Spec PyProof.Rows
theorem cfm {ix:List (Option Nat)}{ρ1:PSt}{n:Nat}{it:Nat->D}{g:PTG}{pt:PTT}{pe:PTE}{Q:PKt} (T:PSt->Prop) (f:Nat->Option D) (h0:T (fP ix ρ1))
  (hs:∀k τ d,k < n->d=it k->T τ->∀(K1:D->PSt->Prop) (K2:PSt->Prop),(∀d τ',f k=some d->T τ'->K1 d τ')->(∀τ',f k=none->T τ'->K2 τ')->g (.dat d) τ fun τ2=>pt τ2 fun ok τ3=>gA ok (pe τ3 fun p τ4=>K1 p.d τ4) (K2 τ3))
  (hq:∀τ,T τ->Q (.own ((List.range n).filterMap f)) (e9 ix ρ1 τ)) :
  uM ix ρ1 n it g pt pe Q:=by
 refine ⟨fun k ys τ=>ys=(List.range k).filterMap f/\T τ,⟨rfl,h0⟩,fun k ys τ dd hk ed ⟨e,t⟩=>?_,fun ys τ ⟨e,t⟩=>by rw [e];exact hq τ t⟩
 have r:(List.range (k + 1)).filterMap f=(List.range k).filterMap f++(f k).toList:=by
  rw [List.range_succ,List.filterMap_append]
  cases e:f k with
  | none=>rw [show [k].filterMap f=[] by simp [e]];rfl
  | some d=>rw [show [k].filterMap f=[d] by simp [e]];rfl
 refine hs k τ dd hk ed t (fun d τ'=>(ys++[d]=(List.range (k + 1)).filterMap f/\T τ')) (fun τ'=>(ys=(List.range (k + 1)).filterMap f/\T τ')) (fun d τ' h t'=>⟨?_,t'⟩) (fun τ' h t'=>⟨?_,t'⟩)
 .rw [r,e,h];rfl
 .rw [r,e,h];simp
theorem sR {ix:List (Option Nat)}{ρ1:PSt}{n:Nat}{it:Nat->D}{g:PTG}{pe:PTE}{Q:PKt} (T:PSt->Prop) (f:Nat->D) (h0:T (fP ix ρ1))
  (hs:∀k τ d,k < n->d=it k->T τ->∀K1:D->PSt->Prop,(∀τ',T τ'->K1 (f k) τ')->g (.dat d) τ fun τ2=>pe τ2 fun p τ4=>K1 p.d τ4)
  (hq:∀τ,T τ->Q (.own ((List.range n).map f)) (e9 ix ρ1 τ)) :
  uM ix ρ1 n it g qN pe Q:=by
 refine cfm T (fun k=>some (f k)) h0 (fun k τ d hk ed t K1 K2 k1 k2=>?_) fun τ t=>?_
 .exact hs k τ d hk ed t K1 fun τ' t'=>k1 _ τ' rfl t'
 .have:(List.range n).filterMap (fun k=>some (f k))=(List.range n).map f:=by rw [<- List.filterMap_eq_map];rfl
  rw [this];exact hq τ t
theorem dn {β:Type} (f:Nat->β) (l:List Nat):(List.range l.length).map (fun k=>f (l.getD k 0))=l.map f:=by
 apply List.ext_getElem?
 intro i
 rw [List.getElem?_map,List.getElem?_map]
 by_cases h:i < l.length
 .rw [List.getElem?_range h]
  show some (f (l.getD i 0))=_
  rw [List.getD_eq_getElem?_getD,List.getElem?_eq_getElem h];rfl
 .rw [List.getElem?_eq_none (by rw [List.length_range];omega),List.getElem?_eq_none (by omega)];rfl
def pw (ws:List (List Nat)) (k:Nat):List Nat:=ws.getD k []
theorem fo {ws:List (List Nat)}{k:Nat} (h:k < ws.length):ws[k]?=some (pw ws k):=by unfold pw;rw [List.getD_eq_getElem?_getD,List.getElem?_eq_getElem h];rfl
theorem gw {ws:List (List Nat)}{k:Nat} (h:k < ws.length):pw ws k∈ws:=List.mem_of_getElem? (fo h)
theorem dW {ws:List (List Nat)}{k:Nat} (h:k < (ws.map D.str).length):itD (ws.map D.str) k=.str (pw ws k):=kT (by rw [List.getElem?_map,fo (by rwa [List.length_map] at h)];rfl)
theorem dX {ws:List (List Nat)}{i:Int}{k:Nat} (h:k < ws.length) (e:i=(k:Int)):atI (ws.map D.str) i=some (.str (pw ws k)):=g6 (j:=k) (by rw [List.getElem?_map,fo h];rfl) e
def Pc (m:Nat) (w:List Nat):Prop:=0 < w.length/\w.length<=m/\Lts w
def Pcs (m:Nat) (ws:List (List Nat)):Prop:=∀w∈ws,Pc m w
theorem Pcs.app {m:Nat}{ws:List (List Nat)}{w:List Nat} (h:Pcs m ws) (h':Pc m w):Pcs m (ws++[w]):=fun v hv=>by
 rcases List.mem_append.mp hv with z | z
 .exact h v z
 .rw [List.mem_singleton.mp z];exact h'
def ltB (c:Nat):Bool:=decide (97<=c) && decide (c<=122)
def kg:D->Int->Int->Bool
 | .str l,a,b=>(decide (a<=(l.length:Int)) && decide ((l.length:Int)<=b)) && l.all ltB
 | _,_,_=>false
theorem gN (l:List Nat) (a b:Int):kg (.str l) a b=((decide (a<=(l.length:Int)) && decide ((l.length:Int)<=b)) && l.all ltB):=rfl
def rT:D->Nat
 | .str l=>l.length
 | _=>0
theorem fS {l:List Nat}:l.all ltB=true ↔ Lts l:=by
 rw [List.all_eq_true]
 unfold Lts ltB
 constructor
 .intro h c hc
  have:=h c hc
  rw [Bool.and_eq_true,decide_eq_true_eq,decide_eq_true_eq] at this
  exact this
 .intro h c hc
  rw [Bool.and_eq_true,decide_eq_true_eq,decide_eq_true_eq]
  exact h c hc
theorem lQ {w:List Nat}:kg (.str w) 1 60=true ↔ Pc 60 w:=by
 unfold kg Pc
 rw [Bool.and_eq_true,Bool.and_eq_true,decide_eq_true_eq,decide_eq_true_eq,fS]
 constructor
 .rintro ⟨⟨h1,h2⟩,h3⟩;exact ⟨by omega,by omega,h3⟩
 .rintro ⟨h1,h2,h3⟩;exact ⟨⟨by omega,by omega⟩,h3⟩
theorem cP (ls:List Nat):(ls.map fun c=>[c]).flatten=ls:=by
 induction ls with
 | nil=>rfl
 | cons c r ih=>rw [List.map_cons,List.flatten_cons,ih];rfl
theorem mJ (ls:List Nat):ls.map (fun c=>D.str [c])=(ls.map fun c=>[c]).map D.str:=by rw [List.map_map];rfl
theorem lR (i j:Nat):(!decide (([j]:List Nat) < [i]))=decide (i<=j):=by
 by_cases h:i<=j
 .rw [decide_eq_true h]
  have:¬ ([j]:List Nat) < [i]:=by
   rw [List.cons_lt_cons_iff]
   rintro (z | ⟨_,z⟩)
   .omega
   .exact absurd z (List.lt_irrefl _)
  rw [decide_eq_false this];rfl
 .rw [decide_eq_false h]
  have:([j]:List Nat) < [i]:=by
   rw [List.cons_lt_cons_iff];exact .inl (by omega)
  rw [decide_eq_true this];rfl
theorem lS:∀ws:List (List Nat),D.pys (ws.map .str)=ws.map fun w=>PyData.str (S w)
 | []=>rfl
 | w::r=>by rw [List.map_cons,List.map_cons,<- lS r];rfl
theorem fT:∀ws:List (List Nat),D.plains (ws.map .str)=true
 | []=>rfl
 | w::r=>by rw [List.map_cons];show (true && D.plains (r.map .str))=true;rw [fT r];rfl
def Sh (d:D):Prop:=d.plain=true/\SeqAt.shaped d.py=true
theorem xk.of {a b:D} (h:Sh a) (h':Sh b):xk a b:=⟨h.1,h'.1,h.2,h'.2⟩
theorem Sh.lstS {ws:List (List Nat)} (h:∀w∈ws,Lts w):Sh (.lst (ws.map .str)):=⟨fT ws,by show SeqAt.shaped (.list (D.pys _))=true;rw [lS];exact kP h⟩
theorem Sh.tupS {ws:List (List Nat)} (h:∀w∈ws,Lts w):Sh (.tup (ws.map .str)):=⟨fT ws,by show SeqAt.shaped (.tuple (D.pys _))=true;rw [lS];exact (lG.tuple (je h)).shaped (by decide)⟩
theorem mK {d:D} (h:Sh d):deq d d=true:=rq h.2
theorem Pcs.lts {m:Nat}{ws:List (List Nat)} (h:Pcs m ws):∀w∈ws,Lts w:=fun w hw=>(h w hw).2.2
theorem mL {α:Type} (c:α) (n:Nat):kG [c] (n:Int)=List.replicate n c:=by
 unfold kG
 rw [Int.toNat_natCast]
 induction n with
 | zero=>rfl
 | succ n ih=>rw [List.replicate_succ,List.flatten_cons,ih];rfl
def iP (sep:List Nat):List (List Nat)->List Nat
 | []=>[]
 | [w]=>w
 | w::v::r=>w++sep++iP sep (v::r)
theorem pZ (sep:List Nat):∀ws:List (List Nat),PySem.Str.join (S sep) (ws.map S)=S (iP sep ws)
 | []=>rfl
 | [w]=>rfl
 | w::v::r=>by
  show S w++S sep++PySem.Str.join (S sep) ((v::r).map S)=S (w++sep++iP sep (v::r))
  rw [pZ sep (v::r),uf,uf]
theorem kW (sep:List Nat):∀ws:List (List Nat),(iP sep ws).length<=ws.flatten.length + ws.length * sep.length
 | []=>Nat.zero_le _
 | [w]=>by show w.length<=_;rw [List.flatten_cons,List.flatten_nil,List.append_nil];omega
 | w::v::r=>by
  have ih:=kW sep (v::r)
  show (w++sep++iP sep (v::r)).length<=_
  rw [List.flatten_cons,List.length_append,List.length_append,List.length_append]
  rw [List.length_cons (as:=v::r),Nat.succ_mul]
  omega
section
variable {K:PySem.W.Frag}{X:Cx}
def sS (K:PySem.W.Frag):V->List V->Hp->VK->Prop:=fun x xs H Q=>∃(p:Addr) (sep:List Nat) (ws:List (List Nat)),x=.str (S sep)/\xs=[.ref p]/\SqL K H p (ws.map tx)/\ws.flatten.length + ws.length * sep.length<=1000000/\Q (.str (S (iP sep ws))) H
theorem mM (K:PySem.W.Frag) (e:X.K=K):MtR X "str.join" (sS K):=by
 subst e
 intro pins s σ H x xs v us Q I rx rs h
 obtain ⟨p,sep,ws,rfl,rfl,hS,hz,q⟩:=h
 obtain ⟨t,rfl⟩:=rx
 obtain ⟨u,rfl,ru⟩:=fc rs
 cases (show u=Value.ref p from ru)
 obtain ⟨its,rv,pl,_⟩:=I.list hS
 refine join_list pl.isList (by simpa using pL rv) ?_ fun t' k=>?_
 .rw [List.map_map,dJ]
  have e1:(ws.map ((fun y:Str=>y.length) ∘ S)).sum=ws.flatten.length:=by
   rw [List.length_flatten]
   exact congrArg List.sum (List.map_congr_left fun w _=>dJ w)
  rw [e1]
  simp only [List.length_map]
  omega
 .refine ⟨.str (S (iP sep ws)),H,I.tok _,⟨t',?_⟩,q⟩
  rw [<- pZ]
  exact congrArg (fun z=>Value.str z t') (StrLaws.glued_eq_join _ _)
def mO:FM
 | [],[.lst ds],Q=>∃ws:List (List Nat),ds=ws.map .str/\ws.flatten.length<=1000000/\Q (.dat (.str ws.flatten))
 | c::sep,[.lst ds],Q=>∃ws:List (List Nat),ds=ws.map .str/\ws.flatten.length + ws.length * (c::sep).length<=1000000/\Q (.dat (.str (iP (c::sep) ws)))
 | _,_,_=>False
theorem kX:∀ws:List (List Nat),iP [] ws=ws.flatten
 | []=>rfl
 | [w]=>by show w=w++[];rw [List.append_nil]
 | w::v::r=>by show w++[]++iP [] (v::r)=_;rw [kX (v::r),List.append_nil];rfl
theorem mP:LM K (sS K) mO:=by
 intro O H l xs as Q Q' dom hl fs q k
 unfold mO at q
 split at q
 .obtain ⟨ws,rfl,hw,q⟩:=q
  cases fs with
  | cons a b =>
   cases b
   obtain ⟨p,ys,rfl,e1,f1⟩:=a.lst
   rw [f1.strs] at e1
   refine ⟨p,[],ws,rfl,rfl,SqL.of e1,by rw [List.length_nil,Nat.mul_zero];exact hw,?_⟩
   rw [kX]
   exact k _ H _ q (Gr.refl _) (.str _ hw)
 .obtain ⟨ws,rfl,hw,q⟩:=q
  cases fs with
  | cons a b =>
   cases b
   obtain ⟨p,ys,rfl,e1,f1⟩:=a.lst
   rw [f1.strs] at e1
   exact ⟨p,_,ws,rfl,rfl,SqL.of e1,hw,k _ H _ q (Gr.refl _) (.str _ (Nat.le_trans (kW _ _) hw))⟩
 .exact q.elim
end
section
variable {X:Cx}{K:PySem.W.Frag}
def xI:PTE:=fun ρ Q=>Q (.dat (.dic [] [])) ρ
theorem u0:LE K sH xI:=fun A ρ σ H Q Q' R q k=>fun p hp =>
 k _ _ (.dat (.dic [] [])) ρ q (Fr.new hp) ⟨R.grow hp,.dic (R.oo hp) au rfl .nil⟩
def sU (neg:Bool):R2:=fun x y H Q=>∃a b,x=.ref a/\y=.ref b/\H a=some (.dK [])/\H b=some (.dK [])/\Q (.bl (!neg)) H
theorem rV (hu:X.A.units + 64 < cLine):OpR X (compareOp .Eq) (sU false):=by
 intro pins s σ H x y v u Q I rx ry ⟨a,b,e1,e2,h1,h2,q⟩
 subst e1 e2
 cases rx
 cases ry
 obtain ⟨_,y1,vs,r1,p1⟩:=(show aZ X.prog X.w H s.heap a (.dK []) from I.hok a _ h1)
 obtain ⟨_,y2,ws,r2,p2⟩:=(show aZ X.prog X.w H s.heap b (.dK []) from I.hok b _ h2)
 cases r1
 cases r2
 exact PySem.W.keq_eq (r:=true) y1 y2 p1 p2 (by omega) (fun _=>.nil) ⟨.bl true,H,I,rfl,q⟩
def xJ (K:PySem.W.Frag) (neg:Bool):R2:=fun x y H Q=>yW K neg x y H Q\/sU neg x y H Q
theorem h9 (K:PySem.W.Frag) (e:X.K=K) (hu:X.A.units + 64 < cLine):OpR X (compareOp .Eq) (xJ K false):=OpR.or (As K e hu) (rV hu)
def nK:F2
 | .dic [] [],.dic [] [],Q=>Q (.dat (.bl true))
 | a,b,Q=>fEq a b Q
theorem FVc.dic0 {O:Addr->Prop}{H:Hp}{v:V} (h:FVc K O H v (.dic [] [])):∃a,v=.ref a/\H a=some (.dK []):=by
 cases h.fv nofun nofun with
 | dic n e m f =>
  rename_i a kvs
  cases kvs with
  | nil=>exact ⟨a,rfl,e⟩
  | cons x r=>cases m
theorem dY:LO K (xJ K false) nK:=by
 intro O H x y a b Q Q' dom fx fy q k
 unfold nK at q
 split at q
 .obtain ⟨a,rfl,e1⟩:=fx.dic0
  obtain ⟨b,rfl,e2⟩:=fy.dic0
  exact .inr ⟨a,b,rfl,rfl,e1,e2,k _ H _ q (Gr.refl _) (.bl _)⟩
 .exact .inl (yX O H x y _ _ Q Q' dom fx fy q k)
end
theorem p3 {ds:List D}{k:Nat} (h:k < ds.length):itD ds k∈ds:=List.mem_of_getElem? (uJ h)
section
variable {K:PySem.W.Frag}{te:TE}{pe:PTE}{tr:TA}{pr:PTA}
def p4 (c:FR) (pe:PTE) (pr:PTA):PTE:=fun ρ Q=>pe ρ fun p ρ1=>match p with
 | .own es=>pr ρ1 fun as ρ2=>(match avD as with
  | some ds=>c (.own es) ds fun r _=>Q (.dat r.d) ρ2
  | none=>False)
 | _=>False
theorem p5 {c:FR} (h1:LE K te pe) (h2:LAs K tr pr):LE K (dI (spR K c) [] E0 (bg te tr)) (p4 c pe pr):=fun A ρ σ H Q Q' R q k=>h1 A ρ σ H _ _ R q fun v H1 p ρ1 q1 f1 o1=>by
 cases p with
 | dat d=>exact q1.elim
 | ins c ns ds=>exact q1.elim
 | own es =>
  obtain ⟨a,xs,rfl,na,n0,e,R1,fv⟩:=o1
  refine h2 (cH A a) ρ1 σ H1 _ _ R1 q1 fun vs H2 as ρ2 q2 f2 R2 o2=>?_
  split at q2
  .rename_i ds ed
   have e2:H2 a=some (.lst xs):=f2.kp a _ (R1.sep a (.inr rfl)) e
   have fv2:=fv.keeps (f2.keeps (A:=cH A a))
   have nw:¬ Wr ρ2 σ a:=R2.sep a (.inr rfl)
   have oeq:cH (OO A ρ2 σ) a=OO (cH A a) ρ2 σ:=funext fun b=>propext ⟨fun z=>by
    rcases z with (z | z) | z
    .exact .inl (.inl z)
    .exact .inr z
    .exact .inl (.inr z),fun z=>by
    rcases z with (z | z) | z
    .exact .inl (.inl z)
    .exact .inr z
    .exact .inl (.inr z)⟩
   rw [List.append_nil]
   refine ⟨OO A ρ2 σ,a,.own es,vs,ds,_,rfl,rfl,fun b z=>R2.dom2 b (z.imp .inl id),fun z=>z.elim na nw,by rw [oeq];exact ⟨a,xs,rfl,e2,fv2⟩,by rw [oeq];exact o2.avD ed,q2,fun r p' qr ow' v H' kp ha rs' ov hx=>?_⟩
   rw [oeq] at ov
   have fvr:FV K (OO (cH A a) ρ2 σ) H' v r.d:=by
    cases r with
    | dat d=>exact ov
    | own es =>
     obtain ⟨w,ys,rfl,ew0,ew,f⟩:=ov
     exact .lst (fun z=>R2.dom2 w z ew0) ew (f.keeps (aK.less fun b z=>.inl z))
    | ins c ns es =>
     obtain ⟨w,dx,fs,rfl,ew0,ew,m,f⟩:=ov
     exact .obj (fun z=>R2.dom2 w z ew0) ew m (f.keeps (aK.less fun b z=>.inl z))
   have kk:aK (OO (cH A a) ρ2 σ) H2 (OO A ρ2 σ) H':=fun b o n hb=>⟨fun z=>n (z.imp .inl id),kp b o (fun z=>n (.inl (.inr z))) hb⟩
   have kl:aK (OO (cH A a) ρ2 σ) H' (OO A ρ2 σ) H':=aK.less fun b z=>z.imp .inl id
   have ne:∀b,Wr ρ2 σ b->b≠a:=fun b z e=>nw (by rw [<- e];exact z)
   have R3:Rel K A ρ2 σ H':=by
    refine ⟨R2.len,fun i p e=>?_,R2.dj,fun b z=>?_,fun b z=>R2.sep b (.inl z)⟩
    .obtain ⟨v,s,rs⟩:=R2.get i p e
     refine ⟨v,s,?_⟩
     cases p with
     | dat d=>exact FV.keeps kk rs
     | own es =>
      obtain ⟨w,ys,rfl,ew,f⟩:=rs
      exact ⟨w,ys,rfl,kp w _ (ne w ⟨i,_,e,rfl,s⟩) ew,f.keeps kk⟩
     | ins c ns es =>
      obtain ⟨w,dx,fs,rfl,ew,m,f⟩:=rs
      exact ⟨w,dx,fs,rfl,kp w _ (ne w ⟨i,_,e,rfl,s⟩) ew,m,f.keeps kk⟩
    .cases eb:H2 b with
     | none=>exact absurd eb (R2.dom b (.inl z))
     | some o=>rw [kp b o (fun y=>na (by rw [<- y];exact z)) eb];exact nofun
   have f12:=f1.trans f2
   refine k v H' (.dat r.d) ρ2 qr ⟨fun b o n hb=>?_,fun b hb=>?_,f12.ow⟩ ⟨R3,FV.keeps kl fvr⟩
   .exact kp b o (aD hb n0) (f12.kp b o n hb)
   .cases eb:H2 b with
    | none=>exact absurd eb (f12.dm b hb)
    | some o=>rw [kp b o (fun y=>hb (by rw [y];exact n0)) eb];exact nofun
  .exact q2.elim
end
section
variable {prog:Program}{w:World}{A:Around}{E:Value->Shared->Prop}{s:Shared}
theorem kY {it t:Addr}{items:Array Value} (hne:t≠it):∀(n i:Nat) (s:Shared) (Q:List Value->Shared->Prop),s.heap.IsListIter it t i->s.heap.IsList t items->i + n<=items.size ->
  (∀h',h'.IsListIter it t (i + n)->Heap.SameBut it s.heap h'->Q ((items.toList.drop i).take n) { s with heap:=h' })->wpAny (model prog w) A (draw (.ref it) n) Q E s
 | 0,i,s,Q,hit,_,_,hQ=>by
  show wpAny _ _ (pure []) Q E s
  exact wpAny_pure (by simpa using hQ s.heap hit (Heap.SameBut.refl ..))
 | n + 1,i,s,Q,hit,ht,hle,hQ=>by
  have hlt:i < items.size:=by omega
  show wpAny _ _ (pyNext (.ref it) >>= _) Q E s
  refine wpAny_bind (wpAny_pyNext_list_item hit ht (x:=items[i]) (by simp [hlt]) fun h₁ hit₁ hs₁=>?_)
  refine wpAny_bind (wpAny_holding (kY hne n (i + 1) _ _ hit₁ (ht.extBut hs₁.extBut hne) (by omega) fun h₂ hit₂ hs₂=>wpAny_pure ?_))
  have hd:items.toList.drop i=items[i]::items.toList.drop (i + 1):=by simp [List.drop_eq_getElem_cons,hlt]
  have:=hQ h₂ (by rw [show i + (n + 1)=i + 1 + n by omega];exact hit₂) (hs₁.trans hs₂)
  rw [hd,List.take_succ_cons] at this
  exact this
theorem gB {t:Addr}{items:Array Value}{Q:List Value->Shared->Prop} (hh:A.handled=none) (ht:s.heap.IsList t items)
  (hQ:∀h',Heap.ExtBut s.heap.objs.size s.heap h'->Q items.toList { s with heap:=h' }):wpAny (model prog w) A (unpackItems (.ref t) items.size none) Q E s:=by
 have hlt:t≠s.heap.objs.size:=by obtain ⟨o,ho,_⟩:=ht;exact Nat.ne_of_lt (Heap.lt_size ho)
 unfold unpackItems
 refine wpAny_bind ?_
 .unfold notIterableAtAll
  refine wpAny_bind (wpAny_specialOf ht.typeIs PySem.F.slot_list_iter.lookup ?_)
  refine wpAny_pure ?_
  simp only [Bool.false_eq_true,if_false]
  refine wpAny_bind (wpAny_holding (wpAny_pyIter_list ht ?_))
  refine wpAny_bind (wpAny_holding (kY hlt items.size 0 _ _ ⟨_,Heap.get?_push_size _ rfl,rfl,rfl⟩ (ht.push _) (by omega) fun h₁ hit₁ hs₁=>?_))
  have hall:List.take items.size (List.drop 0 items.toList)=items.toList:=by
   rw [List.drop_zero];exact List.take_of_length_le (by simp)
  rw [hall]
  rw [if_neg (by simp)]
  have ht₁:h₁.IsList t items:=(ht.push _).extBut hs₁.extBut hlt
  refine wpAny_bind (wpAny_holding (wpAny_pyNext_list_end hh hit₁ ht₁ (by simp) fun h₂ he₂=>?_))
  simp only [Option.isSome_none,Bool.false_eq_true,if_false]
  refine wpAny_pure (hQ h₂ fun b o hb e=>he₂ b o hb (hs₁.extBut b o hb (Heap.get?_push_of_some _ e)))
theorem fU {env:Env}{elts:List Expr}{x1}{pos:Pos}{t:Addr}{items:Array Value}{Q:Unit->Shared->Prop} (hh:A.handled=none) (ht:s.heap.IsList t items)
  (hn:(assignEach elts env).length=items.size) (hstar:(assignEach elts env).findIdx? (·.1)=none)
  (h:∀h',Heap.ExtBut s.heap.objs.size s.heap h'->wpAny (model prog w) A (assignInOrder ((assignEach elts env).map (·.2)) items.toList) Q E { s with heap:=h' }) :
  wpAny (model prog w) A (assign (.Tuple elts x1 pos) env (.ref t)) Q E s:=by
 rw [assign_Tuple]
 refine wpAny_bind (wpAny_standAt ?_)
 unfold unpack
 rw [hn,hstar]
 exact wpAny_bind (wpAny_holding (gB hh ht h))
end
def z0 (K:PySem.W.Frag) (n:Nat) (t:TGs):TG:=fun v σ H Q=>∃b a xs,v=.ref a/\Sq b K H a xs/\xs.length=n/\t xs σ H Q
section
variable {X:Cx}
theorem xK (K:PySem.W.Frag) (eK:X.K=K) {es:List Expr}{k:Nat}{t:TGs}{n:Nat}{pos:Pos} (hc:X.calm=true) (h:PGs X es t)
  (hn:(assignEach es X.env).length=n:=by rfl) (hst:(assignEach es X.env).findIdx? (·.1)=none:=by rfl):PG X (.Tuple es k pos) (z0 K n t):=by
 subst eK
 intro pins s σ H v u Q I r hw
 obtain ⟨b,a,xs,e1,hq,hl,hw⟩:=hw
 cases b with
 | true=>exact wo hc h hn hst pins s σ H v u Q I r ⟨a,xs,e1,hq,hl,hw⟩
 | false =>
  subst e1
  cases r
  obtain ⟨its,rv,ht,hz⟩:=I.list hq
  refine fU (I.ok.hd hc) ht.isList (by simp [hn,<- hl,rv.length]) hst fun h' hx=>?_
  have I1:Inv X pins σ H { s with heap:=h' }:=I.kept (t':=s.toks) fun b o e=>hx b o (Nat.ne_of_lt (Heap.lt_size e)) e
  exact h pins _ σ H xs _ Q I1 (by simpa using rv) hw
def u4 (n:Nat) (gs:uF):PTG:=fun p ρ Q=>match p with | .dat (.tup ds)=>ds.length=n/\gs ds ρ Q | .dat (.lst ds)=>ds.length=n/\gs ds ρ Q | .own ds=>ds.length=n/\gs ds ρ Q | _=>False
end
section
variable {K:PySem.W.Frag}{fs:List Nat}
theorem u8 {n:Nat}{gs:TGs}{pgs:uF} (h:LGs K fs gs pgs):LGd K fs (z0 K n gs) (u4 n pgs):=fun fx A R H0 ρ σ H d v Q Q' hf F r fv q k=>by
 unfold u4 at q
 split at q
 .rename_i e
  cases e
  cases fv with
  | tup nn e f=>exact ⟨true,_,_,rfl,SqT.of e,by rw [f.length];exact q.1,h fx A R H0 ρ σ H _ _ Q Q' hf F r f q.2 k⟩
 .rename_i e
  cases e
  cases fv with
  | lst nn e f=>exact ⟨false,_,_,rfl,SqL.of e,by rw [f.length];exact q.1,h fx A R H0 ρ σ H _ _ Q Q' hf F r f q.2 k⟩
 .rename_i e
  cases e
 .exact q.elim
end
def n5 (d:D) (xs:List D):Prop:=d=.lst xs\/d=.tup xs
theorem n5.lst (xs:List D):n5 (.lst xs) xs:=.inl rfl
theorem n5.tup (xs:List D):n5 (.tup xs) xs:=.inr rfl
def nSt:Expr->Bool
 | .Starred _ _=>false
 | _=>true
theorem cQ {e:Expr}{es:List Expr}{env:Env} (h:nSt e=true):starEach (e::es) env=(false,eval e env)::starEach es env:=by
 cases e <;> first | rfl | cases h
theorem cA {env:Env}{pos:Pos}:∀{es:List Expr},es.all nSt=true->(backTo pos (starEach es env)).any (·.1)=false
 | [],_=>rfl
 | e::es,h=>by
  rw [List.all_cons,Bool.and_eq_true] at h
  rw [cQ h.1]
  show (false || (backTo pos (starEach es env)).any (·.1))=false
  rw [cA h.2];rfl
section
variable {X:Cx}{k:Nat}{x:Str}{ps:List Str}{sp:Sp}{e:Expr}{es:List Expr}{te:TE}{t:TA}{p pos:Pos}{dvs:List V}{C:Addr}{id T:String}{r:List V->Hp->VK->Prop}
theorem paC (ha:PE X e te) (hr:PA X es t) (hn:nSt e=true:=by rfl):PA X (e::es) (bg te t):=t0 ha hr (cQ hn)
theorem az (C:Cal X.prog X.w X.K X.mg X.base k x ps sp) (hr:c4 k X.A) (ha:PA X (e::es) t) (hg:Gl X x:=by rfl) (hdb:(x == ("__debug__":Str))=false:=by decide) (hn:nSt e=true:=by rfl) (hp:es.all nSt=true:=by rfl) :
  PE X (.Call (.Name x p) (e::es) [] pos) (dI sp [] E0 t):=wV C hr ha hg hdb (cQ hn) (cA hp)
theorem rW (j:Nat) (C:xb X.prog X.w X.K X.mg X.base k x ps dvs sp) (hr:c4 k X.A) (hj:j<=dvs.length) (ha:PA X (e::es) t) (hg:Gl X x:=by rfl) (hdb:(x == ("__debug__":Str))=false:=by decide) (hn:nSt e=true:=by rfl) (hp:es.all nSt=true:=by rfl) :
  PE X (.Call (.Name x p) (e::es) [] pos) (dI sp (dvs.drop j) E0 t):=ur j C hr hj ha hg hdb (cQ hn) (cA hp)
theorem jW (M:vQ X.prog X.w X.K X.mg X.base k C x ps sp) (hr:c4 (k + 1) X.A) (ha:PA X (e::es) t) (hg:Gl X x:=by rfl) (hdb:(x == ("__debug__":Str))=false:=by decide) (hn:nSt e=true:=by rfl) (hp:es.all nSt=true:=by rfl) :
  PE X (.Call (.Name x p) (e::es) [] pos) (qY C sp [] E0 t):=ut M hr ha hg hdb (cQ hn) (cA hp)
theorem ao (hc:a9 X (.builtin id) r) (hg:Gl X x) (hm:X.mg x=none) (hv:bootBuiltins x=some (.builtin id)) (ha:PA X (e::es) t) (hnn:x≠"__name__":=by decide) (hdb:(x == ("__debug__":Str))=false:=by decide) (hn:nSt e=true:=by rfl) (hp:es.all nSt=true:=by rfl) :
  PE X (.Call (.Name x p) (e::es) [] pos) (tCB r t):=rc hc hg hm hv ha hnn hdb (cQ hn) (cA hp)
theorem bd (hc:a9 X (.type T) r) (hg:Gl X x) (hm:X.mg x=none) (hv:bootBuiltins x=some (.type T)) (ha:PA X (e::es) t) (hnn:x≠"__name__":=by decide) (hdb:(x == ("__debug__":Str))=false:=by decide) (hn:nSt e=true:=by rfl) (hp:es.all nSt=true:=by rfl) :
  PE X (.Call (.Name x p) (e::es) [] pos) (tCB r t):=oI hc hg hm hv ha hnn hdb (cQ hn) (cA hp)
end
def plT:Expr->Bool
 | .Call _ _ _ _=>true
 | .Name _ _=>true
 | .Subscript _ _ _=>true
 | .Attribute _ _ _=>true
 | _=>false
theorem u9 {e:Expr}{env:Env} (h:plT e=true):∀whole,isTrue e env whole=(do let v <- whole;standAt e.pos;holding [v] (truthy v)):=by
 cases e <;> first | (intro _;rfl) | cases h
theorem bq {X:Cx}{e:Expr}{t:TE} (h:PE X e t) (hp:plT e=true:=by rfl):PT X e (tB t):=wf h (u9 hp)
def fq (a b:List Nat):Bool:=decide (0<=fnd b a 0)
def eM (ps:List (List Nat)) (i:Nat):Bool:=!decide (pw ps i∈ps.take i) && !(ps.filter fun o=>decide ((pw ps i).length < o.length)).any fun o=>fq (pw ps i) o
theorem jX {a b:List Nat}:fq a b=true ↔ ∃k,stA b a k=true:=by
 unfold fq
 constructor
 .intro h
  have h0:fnd b a 0≠-1:=fun z=>by rw [z] at h;exact absurd (of_decide_eq_true h) (by decide)
  obtain ⟨k,_,_,h1,_⟩:=mx h0
  exact ⟨k,h1⟩
 .rintro ⟨k,hk⟩
  by_cases h0:fnd b a 0=-1
  .rw [rp h0 k (Nat.zero_le _)] at hk;cases hk
  .obtain ⟨j,e,_⟩:=mx h0
   rw [e];exact decide_eq_true (by omega)
theorem rX (a:List Nat):fq a a=true:=jX.mpr ⟨0,decide_eq_true ⟨by omega,by rw [List.drop_zero,List.take_length]⟩⟩
theorem p6 {a b c:List Nat} (h1:fq a b=true) (h2:fq b c=true):fq a c=true:=by
 obtain ⟨k1,e1⟩:=jX.mp h1
 obtain ⟨k2,e2⟩:=jX.mp h2
 obtain ⟨l1,t1⟩:=of_decide_eq_true e1
 obtain ⟨l2,t2⟩:=of_decide_eq_true e2
 refine jX.mpr ⟨k2 + k1,decide_eq_true ⟨by omega,?_⟩⟩
 have hb:b.drop k1=(c.drop (k2 + k1)).take (b.length - k1):=by
  rw [<- t2,List.drop_take,List.drop_drop,t2]
 have ha:a=((c.drop (k2 + k1)).take (b.length - k1)).take a.length:=by rw [<- hb,t1]
 rw [List.take_take,show min a.length (b.length - k1)=a.length by omega] at ha
 exact ha.symm
theorem rY {ps:List (List Nat)}{i:Nat}:eM ps i=true ↔ pw ps i∉ps.take i/\∀o∈ps,(pw ps i).length < o.length->fq (pw ps i) o=false:=by
 unfold eM
 rw [Bool.and_eq_true,Bool.not_eq_true',Bool.not_eq_true',decide_eq_false_iff_not,List.any_eq_false]
 constructor
 .rintro ⟨h1,h2⟩
  refine ⟨h1,fun o ho hl=>?_⟩
  have:=h2 o (List.mem_filter.mpr ⟨ho,decide_eq_true hl⟩)
  simpa using this
 .rintro ⟨h1,h2⟩
  refine ⟨h1,fun o ho=>?_⟩
  obtain ⟨m1,m2⟩:=List.mem_filter.mp ho
  rw [h2 o m1 (of_decide_eq_true m2)];decide
theorem p7 {ps:List (List Nat)} (hw:∀w∈ps,w.length<=60):∀(m i:Nat),i < ps.length->(61 - (pw ps i).length) * (ps.length + 1) + i<=m->∃j,j < ps.length/\eM ps j=true/\fq (pw ps i) (pw ps j)=true:=by
 intro m
 induction m with
 | zero =>
  intro i hi h
  have hl:=hw _ (List.mem_of_getElem? (fo hi))
  have:0 < (61 - (pw ps i).length) * (ps.length + 1):=Nat.mul_pos (by omega) (by omega)
  omega
 | succ m ih =>
  intro i hi h
  have hl:=hw _ (List.mem_of_getElem? (fo hi))
  by_cases hk:eM ps i=true
  .exact ⟨i,hi,hk,rX _⟩
  .by_cases h1:pw ps i∈ps.take i
   .obtain ⟨i',hi'⟩:=List.mem_iff_getElem?.mp h1
    have hlt:i' < i:=by
     have:=(List.getElem?_eq_some_iff.mp hi').1
     rw [List.length_take] at this;omega
    have he:pw ps i'=pw ps i:=by
     rw [List.getElem?_take,if_pos hlt] at hi'
     have:=fo (ws:=ps) (k:=i') (by omega)
     rw [hi'] at this;exact (Option.some.inj this).symm
    obtain ⟨j,a1,a2,a3⟩:=ih i' (by omega) (by rw [he];omega)
    exact ⟨j,a1,a2,by rw [<- he];exact a3⟩
   .have h2:∃o∈ps,(pw ps i).length < o.length/\fq (pw ps i) o=true:=by
     apply Classical.byContradiction
     intro z
     refine hk (rY.mpr ⟨h1,fun o ho hlo=>?_⟩)
     cases hs:fq (pw ps i) o with
     | false=>rfl
     | true=>exact absurd ⟨o,ho,hlo,hs⟩ z
    obtain ⟨o,ho,hlo,hs⟩:=h2
    obtain ⟨i',hi'⟩:=List.mem_iff_getElem?.mp ho
    have hlt:i' < ps.length:=(List.getElem?_eq_some_iff.mp hi').1
    have he:pw ps i'=o:=by
     have:=fo hlt
     rw [hi'] at this;exact (Option.some.inj this).symm
    have hm:(61 - o.length + 1) * (ps.length + 1)<=(61 - (pw ps i).length) * (ps.length + 1):=Nat.mul_le_mul_right _ (by have:=hw o ho;omega)
    rw [Nat.add_mul,Nat.one_mul] at hm
    obtain ⟨j,a1,a2,a3⟩:=ih i' hlt (by rw [he];omega)
    rw [he] at a3
    exact ⟨j,a1,a2,p6 hs a3⟩
def lT (a b:List Nat) (k:Nat):Prop:=k < min a.length b.length/\b.take k <:+ a/\∀j,j < min a.length b.length->b.take j <:+ a->j<=k
theorem lT.uniq {a b:List Nat}{j k:Nat} (x:lT a b j) (y:lT a b k):j=k:=Nat.le_antisymm (y.2.2 j x.1 x.2.1) (x.2.2 k y.1 y.2.1)
def p8 (a b:List Nat):Nat:=open Classical in if h:∃k,lT a b k then Classical.choose h else 0
theorem va {a b:List Nat} (ha:0 < a.length) (hb:0 < b.length):lT a b (p8 a b):=by
 obtain ⟨k,h1,h2,h3⟩:=g9 (fun k=>b.take k <:+ a) (by rw [List.take_zero];exact List.nil_suffix) (min a.length b.length) (by omega)
 have h:∃k,lT a b k:=⟨k,h1,h2,h3⟩
 unfold p8
 rw [dif_pos h]
 exact Classical.choose_spec h
theorem p9 {a b:List Nat}{k:Nat} (h:lT a b k):p8 a b=k:=(va (by have:=h.1;omega) (by have:=h.1;omega)).uniq h
def aC (ps:List (List Nat)):List Nat:=(List.range ps.length).filter (eM ps)
def qa (ps:List (List Nat)):List Nat:=(List.range ps.length).filter fun i=>!decide (i∈aC ps)
def bb (ps:List (List Nat)):List (List Nat):=(aC ps).map (pw ps)
theorem dZ {ps:List (List Nat)}{i:Nat} (h:i∈aC ps):i < ps.length:=List.mem_range.mp (List.mem_filter.mp h).1
theorem fV (ps:List (List Nat)):(aC ps).length<=ps.length:=Nat.le_trans (List.length_filter_le ..) (by rw [List.length_range];omega)
theorem jl {m:Nat}{ps:List (List Nat)} (h:Pcs m ps):Pcs m (bb ps):=fun w hw=>by
 obtain ⟨i,hi,rfl⟩:=List.mem_map.mp hw
 exact h _ (gw (dZ hi))
theorem jm (ps:List (List Nat)):(bb ps).length<=ps.length:=by unfold bb;rw [List.length_map];exact fV ps
def ia (ps:List (List Nat)) (i:Nat):List Nat:=(aC ps).filter fun j=>fq (pw ps i) (pw ps j)
def mQ (ps:List (List Nat)) (i:Nat):Nat:=(ia ps i).headD 0
theorem rZ {l:List Nat} (h:l.Pairwise (· < ·)) {m:Nat} (hm:m∈l) (hle:∀a∈l,m<=a):l.headD 0=m:=by
 cases l with
 | nil=>cases hm
 | cons x r =>
  show x=m
  have h1:=hle x (List.mem_cons_self ..)
  rcases List.mem_cons.mp hm with e | e
  .exact e.symm
  .have:=(List.pairwise_cons.mp h).1 m e;omega
theorem kZ (ps:List (List Nat)):(aC ps).Pairwise (· < ·):=List.pairwise_lt_range.filter _
theorem qb {ps:List (List Nat)}{i m:Nat} (hm:m∈ia ps i) (hle:∀a∈ia ps i,m<=a):mQ ps i=m:=rZ ((kZ ps).filter _) hm hle
theorem nL {ps:List (List Nat)} (hw:∀w∈ps,w.length<=60) {i:Nat} (hi:i < ps.length):∃j,j∈ia ps i:=by
 obtain ⟨j,h1,h2,h3⟩:=p7 hw _ i hi (Nat.le_refl _)
 exact ⟨j,List.mem_filter.mpr ⟨List.mem_filter.mpr ⟨List.mem_range.mpr h1,h2⟩,h3⟩⟩
def cI (ps:List (List Nat)) (i:Nat):D:=.tup [.int (i:Int),.int (mQ ps i:Int),.int (fnd (pw ps (mQ ps i)) (pw ps i) 0)]
def xL (ws:List (List Nat)):D:=.tup (ws.map fun w=>.tup (ws.map fun v=>.int (p8 w v:Int)))
def vb (ps:List (List Nat)):Int:=((bb ps).map fun w=>(w.length:Int)).sum
def nD (k:Nat):D:=.int (k:Int)
def zk:List Str:=["pieces","kept","words","left","laps","total"]
def zl (ps:List (List Nat)):List D:=[.tup (ps.map .str),.tup ((aC ps).map nD),.tup ((bb ps).map .str),.tup ((qa ps).map (cI ps)),xL (bb ps),.int (vb ps)]
theorem qc {ks:List Nat}{k:Nat} (h:k < (ks.map nD).length):itD (ks.map nD) k=.int ((ks.getD k 0:Nat):Int):=kT (by
 have h:k < ks.length:=by rwa [List.length_map] at h
 rw [List.getElem?_map,List.getD_eq_getElem?_getD,List.getElem?_eq_getElem h];rfl)
theorem mR (w:List Nat):∀ws:List (List Nat),inD (.str w) (ws.map .str)=decide (w∈ws)
 | []=>by simp [inD]
 | v::r=>by
  have ih:=mR w r
  unfold inD at ih ⊢
  rw [List.map_cons,List.any_cons,ih]
  show ((v == w) || decide (w∈r))=_
  by_cases h:v=w
  .subst h;simp
  .rw [beq_eq_false_iff_ne.mpr h,Bool.false_or]
   by_cases h2:w∈r
   .rw [decide_eq_true h2,decide_eq_true (List.mem_cons_of_mem _ h2)]
   .rw [decide_eq_false h2,decide_eq_false (fun z=>(List.mem_cons.mp z).elim (fun e=>h e.symm) h2)]
theorem qe (k:Nat):∀ks:List Nat,inD (.int (k:Int)) (ks.map nD)=decide (k∈ks)
 | []=>by simp [inD]
 | v::r=>by
  have ih:=qe k r
  unfold inD at ih ⊢
  rw [List.map_cons,List.any_cons,ih]
  show (((v:Int) == (k:Int)) || decide (k∈r))=_
  by_cases h:v=k
  .subst h;simp
  .rw [show ((v:Int) == (k:Int))=false from beq_eq_false_iff_ne.mpr (by omega),Bool.false_or]
   by_cases h2:k∈r
   .rw [decide_eq_true h2,decide_eq_true (List.mem_cons_of_mem _ h2)]
   .rw [decide_eq_false h2,decide_eq_false (fun z=>(List.mem_cons.mp z).elim (fun e=>h e.symm) h2)]
theorem vc (ws:List (List Nat)):(ws.map D.str).all D.fl=true:=by rw [List.all_map];exact List.all_eq_true.mpr fun _ _=>rfl
theorem xM (ks:List Nat):(ks.map nD).all D.fl=true:=by rw [List.all_map];exact List.all_eq_true.mpr fun _ _=>rfl
theorem mS (ws:List (List Nat)):(List.range ws.length).map (pw ws)=ws:=by
 apply List.ext_getElem?
 intro k
 rw [List.getElem?_map]
 by_cases hk:k < ws.length
 .rw [List.getElem?_range hk,fo hk];rfl
 .rw [List.getElem?_eq_none (by rw [List.length_range];omega),List.getElem?_eq_none (by omega)];rfl
theorem r8 {β:Type} (f:List Nat->Option β) (ws:List (List Nat)):(List.range ws.length).filterMap (fun k=>f (pw ws k))=ws.filterMap f:=by
 conv=>rhs;rw [<- mS ws]
 rw [List.filterMap_map];rfl
theorem ck {α β:Type} (p:α->Bool) (g:α->β):∀l:List α,l.filterMap (fun a=>if p a=true then some (g a) else none)=(l.filter p).map g
 | []=>rfl
 | a::r=>by
  rw [List.filterMap_cons,List.filter_cons]
  cases h:p a with
  | true=>simp [ck p g r]
  | false=>simp [ck p g r]
theorem r9 {β:Type} (f:Nat->Option β) (ks:List Nat):(List.range ks.length).filterMap (fun k=>f (ks.getD k 0))=ks.filterMap f:=by
 have e:(List.range ks.length).map (fun k=>ks.getD k 0)=ks:=by
  have:=dn (fun k=>k) ks
  rw [List.map_id'] at this;exact this
 conv=>rhs;rw [<- e]
 rw [List.filterMap_map];rfl
theorem fW (n:Nat):(nZ 0 n).length=n:=by unfold nZ;rw [List.length_map,List.length_range]
theorem jY {n j:Nat} (h:j < (nZ 0 n).length):itD (nZ 0 n) j=.int (j:Int):=kT (by
 rw [fW] at h
 unfold nZ
 rw [List.getElem?_map,List.getElem?_range h]
 show some (D.int (0 + (j:Int)))=_
 rw [Int.zero_add])
abbrev vmB:List Value:=[.type "ValueError",.type "Exception",.type "BaseException",.type "object"]
section
variable {prog:Program}{w:World}{A:Around}{E:Value->Shared->Prop}{K:PySem.W.Frag}{h:Heap}{g:Array GenState}{d:Drawn}{t:Nat}{os:OsState}
variable {nm q:Str}{C N:Addr}{bs bm:List Value}{sn:List Str}{sub:List Value}{ab:Bool}{col:Option Bool}{k0 k1 k2 k3 k5:Option Value}
theorem lU {rest:List Value}{fI:Addr}{Q:Fin->Shared->Prop} (X:K.In h) (hC:h.get? C=some (excClassObj nm q C N bs bm true sn sub ab col none k0 k1 k2 k3 k5 "ValueError.__new__")) (T:OwnTail h vmB bm)
  (hi:PySem.W.findIn K (.ref C) "__init__"=some (some (.ref fI))) (hf:PySem.W.typeIn K (.ref fI)=some (.type "function")) (hrest:rest.length<=sizeLine)
  (hq:∀h',Heap.MadeExcOf h h' (h.objs.size + 1) (.ref C) rest->wpAny (model prog w) A (call (.ref fI) (.ref (h.objs.size + 1)::rest)) (fun r s'=>r=.none/\Q (.done (.ret (.ref (h.objs.size + 1)))) s') E ⟨h',g,d,t,os⟩) :
  wpAny (model prog w) A (Builtin.«type.__call__» ⟨.ref C::rest,[]⟩) Q E ⟨h,g,d,t,os⟩:=by
 have FV:=PySem.F.excBase_ValueError
 repeat (first
  | with_reducible refine wpAny_loadPart_at hC ?_
  | with_reducible refine wpAny_madeBy_exc hC ?_
  | wp_step)
 refine codeAny_call_builtin_code (Code.quiet_builtin _ FV.quiet) (wpAny_check_new_subT FV T hC ?_)
 refine codeAny_exc_new_subT FV T hC ?_ hrest
 show wpAny _ _ _ _ _ _
 generalize hh1:(h.push { cls:=.type "tuple",data:=.seq rest.toArray })=h1
 generalize hh2:(h1.push { cls:=.ref C,data:=.fields #[.ref h.objs.size,.none,.none,.none,.bool false,.none] })=h2
 have kp:∀b o,h.get? b=some o->h2.get? b=some o:=fun b o e=>by
  rw [<- hh2,<- hh1]
  exact Heap.get?_push_of_some _ (Heap.get?_push_of_some _ e)
 have hC2:=kp _ _ hC
 have X2:K.In h2:=X.keeps kp
 have sz:h1.objs.size=h.objs.size + 1:=by rw [<- hh1];exact Heap.size_push ..
 have ge:h2.get? (h.objs.size + 1)=some { cls:=.ref C,data:=.fields #[.ref h.objs.size,.none,.none,.none,.bool false,.none] }:=by
  rw [<- hh2,<- sz]
  exact Heap.get?_push_size _ rfl
 have gt:h2.get? h.objs.size=some { cls:=.type "tuple",data:=.seq rest.toArray }:=by
  rw [<- hh2,<- hh1]
  exact Heap.get?_push_of_some _ (Heap.get?_push_size _ rfl)
 have cc:(Value.ref C::bm).contains (.ref C)=true:=by simp
 unfold isInstance
 repeat (first
  | with_reducible refine wpAny_loadPart_at ge ?_
  | (with_reducible refine wpAny_isSubtype_exc hC2 ?_;rw [cc])
  | wp_step)
 show wpAny _ _ (typeLookup (.ref C) _) _ _ _
 refine (PySem.W.looks_findIn X2 hi).at ?_
 refine wpAny_holding (wpAny_bind ((PySem.W.bind_fn X2 _ hf).at ?_))
 refine wpAny_bind (wpAny_mono (hq h2 ⟨kp,Heap.get?_none_of_le (Nat.le_succ _),h.objs.size,ge,Heap.get?_none_of_le (Nat.le_refl _),gt⟩) (fun r s' hr=>?_) fun _ _ x=>x)
 obtain ⟨rfl,hQ⟩:=hr
 wp_walk
 exact hQ
theorem vd {rest:List Value}{fI:Addr}{Q:Value->Shared->Prop} (X:K.In h) (hC:h.get? C=some (excClassObj nm q C N bs bm true sn sub ab col none k0 k1 k2 k3 k5 "ValueError.__new__")) (T:OwnTail h vmB bm)
  (hi:PySem.W.findIn K (.ref C) "__init__"=some (some (.ref fI))) (hf:PySem.W.typeIn K (.ref fI)=some (.type "function")) (hrest:rest.length<=sizeLine)
  (hq:∀h',Heap.MadeExcOf h h' (h.objs.size + 1) (.ref C) rest->wpAny (model prog w) (A.under (.builtin "type.__call__" ⟨.ref C::rest,[]⟩)) (call (.ref fI) (.ref (h.objs.size + 1)::rest)) (fun r s'=>r=.none/\Q (.ref (h.objs.size + 1)) s') E ⟨h',g,d,t,os⟩) :
  wpAny (model prog w) A (call (.ref C) rest) Q E ⟨h,g,d,t,os⟩:=by
 have u1:=tc_lookup
 have u2:=tc_bind (.ref C)
 have hT:(⟨h,g,d,t,os⟩:Shared).TypeIs (.ref C) "type":=⟨_,hC,rfl⟩
 refine wpAny_call (codeAny_of_tree ?_)
 show wpAny _ _ (callAny (.ref C) _) _ _ _
 repeat (any_goals (first
  | assumption
  | with_reducible refine wpAny_loadPart_at hC ?_
  | wp_step))
 refine ⟨rfl,?_⟩
 refine codeAny_call_builtin_at (Code.quiet_builtin _ (by decide +kernel)) entry_typeCall ?_
 refine wpAny_check_type_call_sub hC (lU X hC T hi hf hrest fun h' hm=>?_)
 exact hq h' hm
end
open PySem.Builtin PySem.Builtin.ObjectAttr
section
variable {prog:Program}{w:World}{A:Around}{E:Value->Shared->Prop}{K:PySem.W.Frag}{h:Heap}{g:Array GenState}{d:Drawn}{t:Nat}{os:OsState}
variable {nm q:Str}{C G N x:Addr}{bs:List Value}{sn:List Str}{sub:List Value}{ab:Bool}{col:Option Bool}{k0 k1 k2 k3 k5:Option Value}{name:Str}{v:Value}{o:Obj}{vs:Array Value}
def Aa (h h':Heap) (x:Addr) (o:Obj) (name:Str) (v:Value) (dx:Addr):Prop :=
 h'.get? x=some { o with dict:=some dx }/\h.objs.size<=dx/\dx≠x/\h'.Ns1 dx (fun y=>if y=name then some v else none)/\∀b ob,b≠x->h.get? b=some ob->h'.get? b=some ob
theorem jZ {tk:Tok}{Q:Fin->Shared->Prop} (X:K.In h) (hC:h.get? C=some (excClassObj nm q C N bs (.ref G::vmB) true sn sub ab col none k0 k1 k2 k3 k5 "ValueError.__new__"))
  (hna:PySem.W.findIn K (.ref C) name=some none) (hx:h.get? x=some o) (hc:o.cls=.ref C) (hd:o.data=.fields vs) (hdn:o.dict=none)
  (hq:∀h' tk' dx,Aa h h' x o name v dx->Q (.done (.ret .none)) ⟨h',g,d,tk',os⟩) :
  wpAny (model prog w) A (Builtin.«object.__setattr__» ⟨[.ref x,.str name tk,v],[]⟩) Q E ⟨h,g,d,t,os⟩:=by
 have hpass:=PySem.F.store_ValueError.passes (.ref x)
 unfold Builtin.«object.__setattr__»
 repeat (first
  | rw [refuse_eq]
  | (rw [refuseLoop_ref,refuseLoop_ref,hpass])
  | (with_reducible refine wpAny_loadPart_at hx ?_;rw [hc])
  | with_reducible refine wpAny_mroOf_exc hC ?_
  | (with_reducible refine (PySem.W.looks_findIn X hna).at ?_)
  | wp_step)
 rw [hdn,if_neg (by simp [typeHasDict])]
 split
 .rename_i hcd
  cases hcd
 split
 .rename_i c hcd
  rw [hd] at hcd;cases hcd
 .have hx1:(h.push { cls:=.type "dict",data:=.dict #[] }).get? x=some o:=Heap.get?_push_of_some _ hx
  have hxs:x≠h.objs.size:=Nat.ne_of_lt (Heap.lt_size hx)
  refine wpAny_bind (wpAny_alloc' ?_)
  refine wpAny_bind (wpAny_update' hx1 ?_)
  refine wpAny_pure ?_
  generalize hg2:((h.push { cls:=.type "dict",data:=.dict #[] }).update x fun o=>{ cls:=o.cls,dict:=some h.objs.size,data:=o.data,slots:=o.slots })=h2
  have gd:h2.get? h.objs.size=some { cls:=.type "dict",data:=.dict #[] }:=by
   rw [<- hg2]
   exact (Heap.get?_update_ne _ _ _ _ hxs.symm).trans (Heap.get?_push_at rfl rfl)
  have gx:h2.get? x=some { o with dict:=some h.objs.size }:=by
   rw [<- hg2]
   refine Heap.get?_update_self _ hx1 ?_
   have hfr:=(Heap.get?_some_iff.mp hx).2
   obtain ⟨oc,od,odt,osl⟩:=o
   cases odt <;> first | rfl | exact hfr
  have kp:∀b ob,b≠x->h.get? b=some ob->h2.get? b=some ob:=fun b ob hb e=>by
   rw [<- hg2]
   exact (Heap.get?_update_ne _ _ _ _ hb).trans (Heap.get?_push_of_some _ e)
  have hnd:h2.Ns h.objs.size (fun _=>none):=⟨_,#[],_,gd,rfl,fun e he=>absurd he (by simp),fun _=>rfl⟩
  show wpAny _ _ (storeInDict h.objs.size (.str name tk) name v) _ _ _
  unfold storeInDict newKeyGuard
  refine wpAny_bind (wpAny_pure (wpAny_bind (wpAny_nsSet1 (Heap.Ns1.of_empty hnd) fun h' hn' hs=>?_)))
  obtain ⟨oD,esD,epD,hoD,hdD,hcD⟩:=hn'.count (Within.cons name v Within.nil)
  refine wpAny_bind (wpAny_lookBehind hoD (by
   rw [hdD]
   exact pastItsLine_dict (Nat.le_trans hcD (by rw [List.length_cons,List.length_nil,sizeLine_eq];omega))) ?_)
  wp_walk
  exact hq h' _ h.objs.size ⟨(hs.2 x hxs).trans gx,Nat.le_refl _,hxs.symm,hn',fun b ob hb e=>(hs.2 b (Nat.ne_of_lt (Heap.lt_size e))).trans (kp b ob hb e)⟩
theorem ve {Q:Unit->Shared->Prop} (X:K.In h) (hC:h.get? C=some (excClassObj nm q C N bs (.ref G::vmB) true sn sub ab col none k0 k1 k2 k3 k5 "ValueError.__new__"))
  (hsa:PySem.W.findIn K (.ref C) "__setattr__"=some (some (.builtin "object.__setattr__"))) (hna:PySem.W.findIn K (.ref C) name=some none)
  (hx:h.get? x=some o) (hc:o.cls=.ref C) (hd:o.data=.fields vs) (hdn:o.dict=none)
  (hq:∀h' tk' dx,Aa h h' x o name v dx->Q () ⟨h',g,d,tk',os⟩) :
  wpAny (model prog w) A (setAttr (.ref x) name v) Q E ⟨h,g,d,t,os⟩:=by
 have SF:=PySem.F.store_ValueError
 have u3:=SF.slot.bind (.ref x)
 unfold setAttr callSpecial? specialOf
 refine wpAny_bind (wpAny_mkText (wpAny_bind (wpAny_bind (wpAny_bind (wpAny_typeOf_ref hx ?_)))))
 rw [hc]
 refine (PySem.W.looks_findIn X hsa).at ?_
 refine wpAny_holding (wpAny_bind (wpAny_of_eq u3 (wpAny_bind (wpAny_call ?_))))
 have own:(Value.ref C::.ref G::vmB).contains (.type "object")=true:=by
  rw [List.contains_cons,List.contains_cons,SF.hasOwner,Bool.or_true,Bool.or_true]
 refine codeAny_call_builtin SF.slot.plain SF.entry ?_
 simp only [checkBuiltinCall,SF.kind,SF.split]
 have ha:=SF.args (.ref x) (.str name t) v
 show wpAny _ _ (isInstance (.ref x) (.type "object") >>= _) _ _ _
 refine wpAny_bind ?_
 unfold isInstance
 refine wpAny_bind (wpAny_typeOf_ref hx ?_)
 rw [hc]
 refine wpAny_isSubtype_exc hC ?_
 rw [own]
 have step:∀{Q':Fin->Shared->Prop},(∀s',Q () s'->Q' (.done (.ret .none)) s')->wpAny (model prog w) A.in1 (Builtin.«object.__setattr__» ⟨[.ref x,.str name t,v],[]⟩) Q' E ⟨h,g,d,t + 1,os⟩:=fun k =>
  jZ X hC hna hx hc hd hdn fun h' tk' dx z=>k _ (hq h' tk' dx z)
 show wpAny _ _ (match Manifest.signature? "object.__setattr__" with | some sig=>Bind.checkArgs "object.__setattr__" sig { pos:=[Value.ref x]++[Value.str name t,v] } | x=>pure ()) _ _ _
 cases hsig:Manifest.signature? "object.__setattr__" with
 | none=>exact wpAny_pure (step fun s' z=>wpAny_pure (wpAny_pure z))
 | some sig =>
  simp only [argsOk,hsig] at ha
  have h2:Bind.checkArgs "object.__setattr__" sig ⟨[.ref x,.str name t,v],[]⟩=pure ():=ha
  show wpAny _ _ (Bind.checkArgs "object.__setattr__" sig ⟨[.ref x,.str name t,v],[]⟩) _ _ _
  rw [h2]
  exact wpAny_pure (step fun s' z=>wpAny_pure (wpAny_pure z))
end
open PySem.Builtin PySem.Builtin.ObjectAttr
section
variable {prog:Program}{w:World}{A:Around}{E:Value->Shared->Prop}{K:PySem.W.Frag}{h:Heap}{g:Array GenState}{d:Drawn}{t:Nat}{os:OsState}
variable {nm q:Str}{C G N x dx:Addr}{bs:List Value}{sn:List Str}{sub:List Value}{ab:Bool}{col:Option Bool}{k0 k1 k2 k3 k5:Option Value}{name:Str}{v:Value}{o:Obj}{vs:Array Value}{mA:Str->Option Value}
theorem k6 {tk:Tok}{Q:Fin->Shared->Prop} (X:K.In h) (hC:h.get? C=some (excClassObj nm q C N bs (.ref G::vmB) true sn sub ab col none k0 k1 k2 k3 k5 "ValueError.__new__"))
  (hna:PySem.W.findIn K (.ref C) name=some none) (hx:h.get? x=some o) (hc:o.cls=.ref C) (hd:o.data=.fields vs) (hdx:o.dict=some dx) (hns:h.Ns dx mA) (hv:mA name=some v)
  (hq:Q (.done (.ret v)) ⟨h,g,d,t,os⟩):wpAny (model prog w) A (Builtin.«object.__getattribute__» ⟨[.ref x,.str name tk],[]⟩) Q E ⟨h,g,d,t,os⟩:=by
 unfold Builtin.«object.__getattribute__»
 repeat (first
  | (with_reducible refine wpAny_loadPart_at hx ?_;rw [hc])
  | (with_reducible refine (PySem.W.looks_findIn X hna).at ?_)
  | wp_step)
 rw [hd]
 show wpAny _ _ (instanceDict x false) _ _ _
 unfold instanceDict
 repeat (first
  | (with_reducible refine wpAny_loadPart_at hx ?_;rw [hc])
  | with_reducible refine wpAny_loadPart_at hC ?_
  | wp_step)
 rw [hdx]
 repeat (first
  | (with_reducible refine wpAny_nsGet hns ?_;rw [hv])
  | wp_step)
 exact hq
end
open PySem.Builtin PySem.Builtin.ObjectAttr
section
variable {prog:Program}{w:World}{A:Around}{E:Value->Shared->Prop}{K:PySem.W.Frag}{h:Heap}{g:Array GenState}{d:Drawn}{t:Nat}{os:OsState}
variable {nm q:Str}{C G N x dx:Addr}{bs:List Value}{sn:List Str}{sub:List Value}{ab:Bool}{col:Option Bool}{k0 k1 k2 k3 k5:Option Value}{name:Str}{v:Value}{o:Obj}{vs:Array Value}{mA:Str->Option Value}
theorem qf {R:Result->Shared->Prop} (hC:h.get? C=some (excClassObj nm q C N bs (.ref G::vmB) true sn sub ab col none k0 k1 k2 k3 k5 "ValueError.__new__")) (hx:h.get? x=some o) (hc:o.cls=.ref C)
  (hq:R (.ok (.ret (.ref C))) ⟨h,g,d,t,os⟩):codeAny (model prog w) A (.call (.builtin "getset_descriptor.__get__") ⟨[.builtin "object.__class__",.ref x,.ref C],[]⟩) R ⟨h,g,d,t,os⟩:=by
 have hT5:(⟨h,g,d,t,os⟩:Shared).TypeIs (.builtin "object.__class__") "getset_descriptor":=PySem.F.typeOf_object_class
 have own:(Value.ref C::.ref G::vmB).contains (.type (".".intercalate ("object.__class__".cutAt '.').dropLast))=true:=by
  rw [PySem.F.owner_object_class]
  rfl
 refine codeAny_call_builtin PySem.F.slot_gs_get.plain PySem.F.entry_gs_get ?_
 refine PySem.F.slot_gs_get.check _ _ _ _ _ _ _ _ hT5 (PySem.F.args_gs_get _ _ _) ?_
 repeat (any_goals (first
  | assumption
  | (with_reducible refine wpAny_loadPart_at hx ?_;rw [hc])
  | (with_reducible refine wpAny_isSubtype_exc hC ?_;rw [own])
  | wp_step))
 refine ⟨Code.quiet_builtin _ (by decide +kernel),codeAny_builtin PySem.F.entry_object_class ?_⟩
 repeat (any_goals (first
  | assumption
  | (with_reducible refine wpAny_loadPart_at hx ?_;rw [hc])
  | wp_step))
theorem lV {tk:Tok}{Q:Fin->Shared->Prop} (X:K.In h) (hC:h.get? C=some (excClassObj nm q C N bs (.ref G::vmB) true sn sub ab col none k0 k1 k2 k3 k5 "ValueError.__new__")) (hx:h.get? x=some o) (hc:o.cls=.ref C)
  (hcl:PySem.W.findIn K (.ref C) "__class__"=some (some (.builtin "object.__class__"))) (hq:Q (.done (.ret (.ref C))) ⟨h,g,d,t,os⟩) :
  wpAny (model prog w) A (Builtin.«object.__getattribute__» ⟨[.ref x,.str "__class__" tk],[]⟩) Q E ⟨h,g,d,t,os⟩:=by
 have u5:=PySem.F.typeOf_object_class
 have u6:=PySem.F.slot_gs_get.lookup
 have u7:=PySem.F.slot_gs_set.lookup
 unfold Builtin.«object.__getattribute__»
 repeat (any_goals (first
  | assumption
  | (with_reducible refine wpAny_loadPart_at hx ?_;rw [hc])
  | (with_reducible refine (PySem.W.looks_findIn X hcl).at ?_)
  | wp_step))
 refine qf hC hx hc ?_
 repeat (any_goals (first
  | assumption
  | wp_step))
end
open PySem.Builtin PySem.Builtin.ObjectAttr
section
variable {prog:Program}{w:World}{A:Around}{E:Value->Shared->Prop}{K:PySem.W.Frag}{h:Heap}{g:Array GenState}{d:Drawn}{t:Nat}{os:OsState}
variable {nm q:Str}{C G N x dx:Addr}{bs:List Value}{sn:List Str}{sub:List Value}{ab:Bool}{col:Option Bool}{k0 k1 k2 k3 k5:Option Value}{name:Str}{v:Value}{o:Obj}{vs:Array Value}{mA:Str->Option Value}
theorem Ab {fill expr:Bool}{tk:Tok}{Q:Value->Shared->Prop} (X:K.In h) (hC:h.get? C=some (excClassObj nm q C N bs (.ref G::vmB) true sn sub ab col none k0 k1 k2 k3 k5 "ValueError.__new__"))
  (hga:PySem.W.findIn K (.ref C) "__getattribute__"=some (some (.builtin "BaseException.__getattribute__"))) (hgh:PySem.W.findIn K (.ref C) "__getattr__"=some none)
  (hx:h.get? x=some o) (hc:o.cls=.ref C) (hh:handedOut v=pure v)
  (step:∀{Q':Fin->Shared->Prop}{E':Value->Shared->Prop},Q' (.done (.ret v)) ⟨h,g,d,t,os⟩->wpAny (model prog w) A.in1 (Builtin.«object.__getattribute__» ⟨[.ref x,.str name tk],[]⟩) Q' E' ⟨h,g,d,t,os⟩)
  (hq:Q v ⟨h,g,d,t,os⟩):wpAny (model prog w) A (getAttrBy (.ref x) (.str name tk) fill expr) Q E ⟨h,g,d,t,os⟩:=by
 unfold getAttrBy
 refine wpAny_holding (wpAny_bind (wpAny_typeOf_ref hx ?_))
 rw [hc]
 refine wpAny_bind ((PySem.W.looks_findIn X hga).at ?_)
 have hx2:(Value.builtin "BaseException.__getattribute__" == Value.builtin "object.__getattribute__")=false:=by decide +kernel
 show wpAny _ _ (if (onTheHeap (.ref C) && (Value.builtin "BaseException.__getattribute__" == Value.builtin "object.__getattribute__"))=true then _ else _) _ _ _
 rw [hx2,Bool.and_false,if_neg (by decide)]
 unfold getAttrByItsOwn
 refine wpAny_bind ((PySem.W.looks_hook X (r:=none) (by rw [if_pos (by rfl)];exact hgh)).at ?_)
 refine wpAny_bind (wpAny_attempt ?_)
 unfold callGetattribute
 refine wpAny_holding ?_
 rw [if_neg (by cases expr <;> decide)]
 unfold boundAndCalled
 have FB:=PySem.F.attrBase_ValueError
 have own:(Value.ref C::.ref G::vmB).contains (.type "BaseException")=true:=by
  rw [List.contains_cons,List.contains_cons,FB.hasBase,Bool.or_true,Bool.or_true]
 have ha:=PySem.F.args_bexc_ga (.ref x) (.str name tk)
 have hk:builtinKind "BaseException.__getattribute__"=some .slot:=by decide +kernel
 have hsp:splitId "BaseException.__getattribute__"=some ("BaseException","__getattribute__"):=by decide +kernel
 refine wpAny_bind (wpAny_of_eq (FB.ga.bind (.ref x)) ?_)
 refine wpAny_call (codeAny_call_builtin FB.ga.plain PySem.F.entry_bexc_ga ?_)
 simp only [checkBuiltinCall,hk,hsp]
 show wpAny _ _ (isInstance (.ref x) (.type "BaseException") >>= _) _ _ _
 refine wpAny_bind ?_
 unfold isInstance
 refine wpAny_bind (wpAny_typeOf_ref hx ?_)
 rw [hc]
 refine wpAny_isSubtype_exc hC ?_
 rw [own]
 have done:wpAny (model prog w) A (handedOut v) Q E ⟨h,g,d,t,os⟩:=by rw [hh];exact wpAny_pure hq
 show wpAny _ _ (match Manifest.signature? "BaseException.__getattribute__" with | some sig=>Bind.checkArgs "BaseException.__getattribute__" sig { pos:=[Value.ref x]++[Value.str name tk] } | x=>pure ()) _ _ _
 cases hsig:Manifest.signature? "BaseException.__getattribute__" with
 | none=>exact wpAny_pure (step done)
 | some sig =>
  simp only [argsOk,hsig] at ha
  have h2:Bind.checkArgs "BaseException.__getattribute__" sig ⟨[.ref x,.str name tk],[]⟩=pure ():=ha
  show wpAny _ _ (Bind.checkArgs "BaseException.__getattribute__" sig ⟨[.ref x,.str name tk],[]⟩) _ _ _
  rw [h2]
  exact wpAny_pure (step done)
theorem vf {Q:Option Value->Shared->Prop} (X:K.In h) (hC:h.get? C=some (excClassObj nm q C N bs (.ref G::vmB) true sn sub ab col none k0 k1 k2 k3 k5 "ValueError.__new__"))
  (hga:PySem.W.findIn K (.ref C) "__getattribute__"=some (some (.builtin "BaseException.__getattribute__"))) (hgh:PySem.W.findIn K (.ref C) "__getattr__"=some none)
  (hcl:PySem.W.findIn K (.ref C) "__class__"=some (some (.builtin "object.__class__"))) (hx:h.get? x=some o) (hc:o.cls=.ref C) (hq:Q (some (.ref C)) ⟨h,g,d,t + 1,os⟩) :
  wpAny (model prog w) A (getAttr? (.ref x) "__class__") Q E ⟨h,g,d,t,os⟩:=by
 unfold getAttr? getAttrBy?
 refine wpAny_bind (wpAny_mkText (wpAny_bind (wpAny_attempt ?_)))
 exact Ab X hC hga hgh hx hc rfl (fun k=>lV X hC hx hc hcl k) (wpAny_pure hq)
structure XC (K:PySem.W.Frag) (C G:Addr):Prop where
 obj:∃nm q N bs sn sub ab col k0 k1 k2 k3 k5,K.lookup C=some (excClassObj nm q C N bs (.ref G::vmB) true sn sub ab col none k0 k1 k2 k3 k5 "ValueError.__new__")
 ga:PySem.W.findIn K (.ref C) "__getattribute__"=some (some (.builtin "BaseException.__getattribute__"))
 gh:PySem.W.findIn K (.ref C) "__getattr__"=some none
 sa:PySem.W.findIn K (.ref C) "__setattr__"=some (some (.builtin "object.__setattr__"))
 cl:PySem.W.findIn K (.ref C) "__class__"=some (some (.builtin "object.__class__"))
theorem j0 {dd:Option Addr}{new:Bool} (c:XC K C G):PySem.W.KitX K (.ref x) (.ref C) (XAt x C dd new) where
 ty:=fun M h X p=>by
  obtain ⟨o,vs,h1,h2,_⟩:=p
  exact h2 ▸ (PySem.W.Looks.ld h1).andThen .now
 it:=fun M h X p=>by
  obtain ⟨nm,q,N,bs,sn,sub,ab,col,k0,k1,k2,k3,k5,e⟩:=c.obj
  intro A' Q' E' s' k q
  unfold isType loadHead
  exact wpAny_bind (wpAny_loadPart (k _ _ (X _ _ e)) (wpAny_pure q))
 ne:=fun h tp dd its n sl X htp=>by
  obtain ⟨nm,q,N,bs,sn,sub,ab,col,k0,k1,k2,k3,k5,e⟩:=c.obj
  refine Bool.eq_false_iff.mpr fun z=>?_
  have e2:C=tp:=Value.ref.inj (beq_iff_eq.mp z)
  subst e2
  have e3:=congrArg Obj.data (Option.some.inj ((X _ _ e).symm.trans htp))
  cases e3
 ca:=fun {prog w A E Q s} X p k=>by
  obtain ⟨h,g,d,t,os⟩:=s
  obtain ⟨o,vs,h1,h2,_⟩:=p
  obtain ⟨nm,q,N,bs,sn,sub,ab,col,k0,k1,k2,k3,k5,e⟩:=c.obj
  exact vf X (X _ _ e) c.ga c.gh c.cl h1 h2 k
end
theorem qg {v:V}{u:Value} (r:bR v u):handedOut u=pure u:=by
 cases v with
 | non=>cases (show u=Value.none from r);rfl
 | bl b=>cases (show u=Value.bool b from r);rfl
 | int i=>obtain ⟨t,e⟩:=(show ∃t,u=Value.int i t from r);subst e;rfl
 | str x=>obtain ⟨t,e⟩:=(show ∃t,u=Value.str x t from r);subst e;rfl
 | flt x=>obtain ⟨t,e⟩:=(show ∃t,u=Value.float x t from r);subst e;rfl
 | ty n=>cases (show u=Value.type n from r);rfl
 | byt b=>obtain ⟨t,e⟩:=(show ∃t,u=Value.bytes b t from r);subst e;rfl
 | ref a=>cases (show u=Value.ref a from r);rfl
theorem XAt.ok {P:Program}{w:World}{H:Hp}{h:Heap}{x C:Addr}{dd:Option Addr}{new:Bool} (p:XAt x C dd new h):aZ P w H h x (.ext (XAt x C dd new)):=by
 obtain ⟨o,vs,h1,h2,h3,h4⟩:=id p
 exact ⟨p,⟨o,h1⟩,fun g1 g2 ⟨o',vs',a1,a2⟩ k=>⟨o',vs',k _ a1,a2⟩⟩
section
variable {X:Cx}{pins:List (Addr×Obj)}{σ:St}{H:Hp}{s:Shared}{a dx C G:Addr}{f:Str}{v:V}{fs:List (Str×V)}{A:Around}{E:Value->Shared->Prop}
theorem Ax {b new:Bool}{Q:Value->Shared->Prop} (I:Inv X pins σ H s) (ea:H a=some (.ext (XAt a C (some dx) new))) (ed:H dx=some (.xd fs)) (c:XC X.K C G) (n:PySem.W.findIn X.K (.ref C) f=some none) (l:fs.lookup f=some v)
  (h:∀u s',Inv X pins σ H s'->bR v u->Q u s'):wpAny (model X.prog X.w) A (getAttr (.ref a) f b) Q E s:=by
 obtain ⟨⟨o,vs,h1,h2,h3,h4,h5⟩,_,_⟩:=(show aZ X.prog X.w H s.heap a (.ext (XAt a C (some dx) new)) from I.hok a _ ea)
 obtain ⟨mA,hns,r⟩:=(show aZ X.prog X.w H s.heap dx (.xd fs) from I.hok dx _ ed)
 obtain ⟨u,hu,ru⟩:=qL.some_of (v:=v) (o:=mA f) (by rw [<- l];exact r f)
 obtain ⟨nm,q,N,bs,sn,sub,ab,col,k0,k1,k2,k3,k5,e⟩:=c.obj
 have I2:=I.tok (s.toks + 1)
 have X2:=I.kIn
 obtain ⟨hh,g,d,t,os⟩:=s
 unfold getAttr
 refine wpAny_bind (wpAny_mkText ?_)
 exact Ab X2 (X2 _ _ e) c.ga c.gh h1 h2 (qg ru) (fun k=>k6 X2 (X2 _ _ e) n h1 h2 h4 h3 hns.ns hu k) (h u _ I2 ru)
theorem Un.setX {h h':Heap}{fs ex:List Addr}{o:HO}{o2:HO} (mu:Mut (H a)) (hx:H dx=none) (hd:h.get? dx=none) (k:∀b ob,b≠a->h.get? b=some ob->h'.get? b=some ob) (ha:∃o,h'.get? a=some o):Un fs ex H (upd (upd H dx o) a o2) h h':=by
 have na:∀b,H b=none->b≠a:=fun b n z=>by subst z;rw [n] at mu;exact mu
 have nd:∀b ob,h.get? b=some ob->b≠dx:=fun b ob e z=>by rw [z,hd] at e;cases e
 have hm:∀b u,H b=some u->¬ Mut (some u)->b≠a/\b≠dx:=fun b u q nm=>⟨fun z=>by subst z;rw [q] at mu;exact nm mu,fun z=>by subst z;rw [hx] at q;cases q⟩
 refine ⟨fun b u q n _ _=>k b u (na b n) q,fun b u q n _ _=>⟨u.slots,k b u (na b n) q⟩,fun b u q n _=>by rw [ak (na b n),ak (nd b u q)];exact n,fun b u q _=>?_,
  fun b xs q=>by rw [ak (hm b _ q fun z=>z).1,ak (hm b _ q fun z=>z).2];exact q,fun b u xs q=>by rw [ak (hm b _ q fun z=>z).1,ak (hm b _ q fun z=>z).2];exact q,
  fun b ps q=>⟨#[],by rw [ak (hm b _ q fun z=>z).1,ak (hm b _ q fun z=>z).2,q];simp⟩⟩
 by_cases hb:b=a
 .subst hb;exact ha
 .exact ⟨u,k b u hb q⟩
theorem setX {new:Bool}{y:V}{u:Value}{Q:Unit->Shared->Prop} (I:Inv X pins σ H s) (ea:H a=some (.ext (XAt a C none new))) (c:XC X.K C G) (n:PySem.W.findIn X.K (.ref C) f=some none) (ry:bR y u)
  (h:∀dx s',H dx=none->Inv X pins σ (upd (upd H dx (.xd [(f,y)])) a (.ext (XAt a C (some dx) new))) s'->Q () s'):wpAny (model X.prog X.w) A (setAttr (.ref a) f u) Q E s:=by
 obtain ⟨⟨o,vs,h1,h2,h3,h4,h5⟩,_,_⟩:=(show aZ X.prog X.w H s.heap a (.ext (XAt a C none new)) from I.hok a _ ea)
 obtain ⟨nm,q,N,bs,sn,sub,ab,col,k0,k1,k2,k3,k5,e⟩:=c.obj
 have X2:=I.kIn
 obtain ⟨hh,g,d,t,os⟩:=s
 refine ve X2 (X2 _ _ e) c.sa n h1 h2 h4 h3 fun h' tk' dx z=>?_
 obtain ⟨z1,z2,z3,z4,z5⟩:=z
 have hdx:H dx=none:=I.hok.fresh z2
 have hg0:hh.get? dx=none:=Heap.get?_none_of_le z2
 have hne:dx≠a:=z3
 have mu:Mut (H a):=by rw [ea];exact True.intro
 refine h dx _ hdx (I.un (t':=tk') (Un.setX mu hdx hg0 z5 ⟨_,z1⟩) fun b ob eb=>?_)
 by_cases hb:b=a
 .subst hb
  rw [au] at eb
  cases eb
  exact XAt.ok ⟨_,vs,z1,h2,rfl,h4,h5⟩
 .rw [ak hb] at eb
  by_cases hb2:b=dx
  .subst hb2
   rw [au] at eb
   cases eb
   refine ⟨_,z4,fun y'=>?_⟩
   show qL (List.lookup y' [(f,y)]) _
   by_cases q:y'=f
   .subst q
    rw [if_pos rfl]
    have e1:List.lookup y' [(y',y)]=some y:=by simp [List.lookup]
    rw [e1];exact ry
   .rw [if_neg q]
    have:(y' == f)=false:=beq_eq_false_iff_ne.mpr q
    simp [List.lookup,this,qL]
  .rw [ak hb2] at eb
   refine (I.hok b ob eb).stay (fun c w hc e=>?_) (fun c e=>?_) fun c xs e=>?_
   .refine z5 c w ?_ e
    rintro rfl
    rcases hc with hc | hc
    .exact hb hc.symm
    .rw [ea] at hc;cases hc
   .rw [ak,ak]
    .exact e
    .rintro rfl;rw [hdx] at e;cases e
    .rintro rfl;rw [ea] at e;cases e
   .rw [ak,ak]
    .exact e
    .rintro rfl;rw [hdx] at e;cases e
    .rintro rfl;rw [ea] at e;cases e
end
section
variable {X:Cx}{o e value:Expr}{f:Str}{pos pos':Pos}{ta tv:TE}
def vg (K:PySem.W.Frag) (ta:TE) (f:Str):TE:=fun σ H Q=>ta σ H fun x H1=>∃a C G dx new fs v,x=.ref a/\H1 a=some (.ext (XAt a C (some dx) new))/\H1 dx=some (.xd fs)/\XC K C G/\PySem.W.findIn K (.ref C) f=some none/\fs.lookup f=some v/\Q v H1
theorem vh (he:PE X e ta) (hb:attributeBase e f X.env (eval e X.env)=eval e X.env):PE X (.Attribute e f pos) (vg X.K ta f):=by
 intro pins s σ H Q I h
 refine oE hb (thn (he pins s σ H _ I h) fun u s1 ⟨x,H1,I1,rx,a,C,G,dx,new,fs,v,ex,ea,ed,c,n,l,q⟩=>?_)
 subst ex
 obtain rfl:u=Value.ref a:=rx
 exact Ax I1 ea ed c n l fun u' s2 I2 ru=>⟨v,H1,I2,ru,q⟩
def vi (K:PySem.W.Frag) (ta tv:TE) (f:Str):TS:=fun D σ H=>tv σ H fun y H1=>ta σ H1 fun x H2=>∃a C G new,x=.ref a/\H2 a=some (.ext (XAt a C none new))/\XC K C G/\PySem.W.findIn K (.ref C) f=some none /\
 ∀dx,H2 dx=none->D.nx σ (upd (upd H2 dx (.xd [(f,y)])) a (.ext (XAt a C (some dx) new)))
theorem vj (ha:PE X o ta) (hv:PE X value tv) (hs:swapsWith value (some (.Attribute o f pos')) pos.line X.env=pure false):PS X (.Assign [.Attribute o f pos'] value pos) (vi X.K ta tv f):=by
 intro pins s σ H D I h
 refine plainObj_wpAny_Assign_Attribute (thn (hv pins s σ H _ I h) fun u s1 ⟨y,H1,I1,ry,q⟩=>thn (ha pins s1 σ H1 _ I1 q) fun ov s2 ⟨x,H2,I2,rx,a,C,G,new,ex,ea,c,n,q2⟩=>?_) hs
 subst ex
 obtain rfl:ov=Value.ref a:=rx
 exact setX I2 ea c n ry fun dx s3 hdx I3=>⟨σ,_,I3,q2 dx hdx⟩
end
theorem aZ.there {P:Program}{w:World}{H:Hp}{h:Heap}{a:Addr}{o:HO} (x:aZ P w H h a o):∃ob,h.get? a=some ob:=by
 cases o with
 | lst xs=>obtain ⟨_,_,_,_,e⟩:=x;exact ⟨_,e⟩
 | tup xs=>obtain ⟨_,_,_,ob,e,_⟩:=x;exact ⟨ob,e⟩
 | dK kvs=>obtain ⟨_,_,_,_,o,_,_,e,_⟩:=x;exact ⟨o,e⟩
 | dT kvs=>obtain ⟨_,_,_,_,o,_,_,e,_⟩:=x;exact ⟨o,e⟩
 | set S n=>obtain ⟨o,_,_,_,e,_⟩:=x;exact ⟨o,e⟩
 | ins C dx fs=>obtain ⟨_,_,_,e,_⟩:=x;exact ⟨_,e⟩
 | own y=>exact x
 | xd fs=>obtain ⟨_,⟨o,_,_,e,_⟩,_⟩:=x;exact ⟨o,e⟩
 | rng lo hi=>obtain ⟨_,_,_,e⟩:=x;exact ⟨_,e⟩
 | frz ob u=>obtain ⟨e,_⟩:=x;exact ⟨ob,e⟩
 | tbl ps=>exact ⟨_,(show h.get? a=some _ from x)⟩
 | met f y=>exact ⟨_,(show h.get? a=some _ from x)⟩
 | ext φ=>exact x.2.1
theorem HOk.not {P:Program}{w:World}{H:Hp}{h:Heap}{a:Addr} (x:HOk P w H h) (e:h.get? a=none):H a=none:=by
 cases q:H a with
 | none=>rfl
 | some u=>obtain ⟨ob,e2⟩:=(x a u q).there;rw [e] at e2;cases e2
section
variable {X:Cx}{pins:List (Addr×Obj)}{σ:St}{H:Hp}{s:Shared}{h':Heap}{a:Addr}{o:HO}
theorem Inv.news {t':Nat} (I:Inv X pins σ H s) (k:∀b u,s.heap.get? b=some u->h'.get? b=some u) (hn:s.heap.get? a=none) (new:aZ X.prog X.w (upd H a o) h' a o):Inv X pins σ (upd H a o) { s with heap:=h',toks:=t' }:=by
 have ha:=I.hok.not hn
 refine I.un ⟨fun b u q _ _ _=>k b u q,fun b u q _ _ _=>⟨u.slots,k b u q⟩,fun b u q n _=>?_,fun b u q _=>⟨u,k b u q⟩,fun b xs q=>?_,fun b u xs q=>?_,fun b ps q=>⟨#[],?_⟩⟩ fun b u q=>?_
 .rw [ak (fun z=>by rw [z,hn] at q;cases q)];exact n
 .rw [ak (aD q ha)];exact q
 .rw [ak (aD q ha)];exact q
 .rw [ak (aD q ha),q];simp
 .by_cases hb:b=a
  .subst hb;rw [au] at q;cases q;exact new
  .rw [ak hb] at q
   exact (I.hok b u q).stay (fun c v _ e=>k c v e) (fun c e=>by rw [ak (aD e ha)];exact e) fun c xs e=>by rw [ak (aD e ha)];exact e
end
structure XM (K:PySem.W.Frag) (C G fI:Addr):Prop where
 c:XC K C G
 tail:∀h:Heap,K.In h->OwnTail h vmB (.ref G::vmB)
 init:PySem.W.findIn K (.ref C) "__init__"=some (some (.ref fI))
 fn:PySem.W.typeIn K (.ref fI)=some (.type "function")
 kp:PySem.W.keepIn K (.ref C)=true
def sV (K:PySem.W.Frag) (f:Str):Sp:=fun vs H Q _=>∃a C G new v,vs=[.ref a,v]/\H a=some (.ext (XAt a C none new))/\XC K C G/\PySem.W.findIn K (.ref C) f=some none/\∀dx,H dx=none->Q .non (upd (upd H dx (.xd [(f,v)])) a (.ext (XAt a C (some dx) new)))
structure qh (P:Program) (w:World) (K:PySem.W.Frag) (mg:Str->Option Value) (base:Heap) (k:Nat) (C:Addr) (x f:Str):Prop where
 ex:∃(G fI:Addr) (fd:FuncData) (ps:List Str),jb P w K mg base CX0 k fI fd ps (sV K f)/\fK K fd ps []/\XM K C G fI/\PySem.W.findIn K (.ref C) f=some none/\mg x=some (.ref C)
def xN (C:Addr) (f:Str) (t:TA):TE:=fun σ H Q=>t σ H fun vs H1=>∃v,vs=[v]/\∀e dx,H1 e=none->H1 dx=none->dx≠e->Q (.ref e) (upd (upd H1 dx (.xd [(f,v)])) e (.ext (XAt e C (some dx) true)))
section
variable {X:Cx}{k:Nat}{C:Addr}{x f:Str}{p pos:Pos}{e:Expr}{es:List Expr}{t:TA}
theorem sd {pins:List (Addr×Obj)}{σ:St}{H:Hp}{s:Shared}{Q:VK}{u:Value}{v:V} (M:qh X.prog X.w X.K X.mg X.base k C x f) (hr:c4 (k + 1) X.A) (I:Inv X pins σ H s) (r:bR v u)
  (h:∀e dx,H e=none->H dx=none->dx≠e->Q (.ref e) (upd (upd H dx (.xd [(f,v)])) e (.ext (XAt e C (some dx) true)))):wpAny (model X.prog X.w) X.A (call (.ref C) [u]) (EP X pins σ Q) X.xe s:=by
 obtain ⟨G,fI,fd,ps,F,hb,m,na,hm⟩:=M.ex
 obtain ⟨nm,q,N,bs,sn,sub,ab,col,k0,k1,k2,k3,k5,ob⟩:=m.c.obj
 have X2:=I.kIn
 have I0:=I
 have hz:s.heap.get? (s.heap.objs.size + 1)=none:=Heap.get?_none_of_le (Nat.le_succ _)
 have he0:=I.hok.not hz
 obtain ⟨hh,g,d,tk,os⟩:=s
 refine vd X2 (X2 _ _ ob) (m.tail hh X2) m.init m.fn (by show 1<=sizeLine;decide) fun h' made=>?_
 obtain ⟨tt,m1,m2,m3⟩:=made.there
 have new:XAt (hh.objs.size + 1) C none true h':=⟨_,_,m1,rfl,rfl,rfl,(by show 1 < 6;decide),fun _=>rfl⟩
 have I2:Inv X pins σ (upd H (hh.objs.size + 1) (.ext (XAt (hh.objs.size + 1) C none true))) { heap:=h',gens:=g,drawn:=d,toks:=tk,os:=os }:=I0.news (t':=tk) made.keeps hz new.ok
 have hsp:sV X.K f [V.ref (hh.objs.size + 1),v] (upd H (hh.objs.size + 1) (.ext (XAt (hh.objs.size + 1) C none true))) (fun y H2=>y=.non/\Q (.ref (hh.objs.size + 1)) H2) E0:=by
  refine ⟨_,C,G,true,v,rfl,au,m.c,na,fun dx hdx=>⟨rfl,?_⟩⟩
  have hne:dx≠hh.objs.size + 1:=fun z=>by rw [z,au] at hdx;cases hdx
  rw [ak hne] at hdx
  have e1:upd (upd (upd H (hh.objs.size + 1) (.ext (XAt (hh.objs.size + 1) C none true))) dx (.xd [(f,v)])) (hh.objs.size + 1) (.ext (XAt (hh.objs.size + 1) C (some dx) true))=upd (upd H dx (.xd [(f,v)])) (hh.objs.size + 1) (.ext (XAt (hh.objs.size + 1) C (some dx) true)):=by
   funext b
   unfold upd
   by_cases z:b=hh.objs.size + 1
   .rw [if_pos z,if_pos z]
   .rw [if_neg z,if_neg z,if_neg z]
  rw [e1]
  exact h _ dx he0 hdx hne
 have hl:[Value.ref (hh.objs.size + 1),u].length=ps.length:=(F.len _ _ _ E0 hsp).symm ▸ rfl
 refine wpAny_call (codeAny_mono (F.run _ X.stack _ _ ⟨[Value.ref (hh.objs.size + 1),u],[]⟩ [Value.ref (hh.objs.size + 1),u] [V.ref (hh.objs.size + 1),v] _ E0 (hr.make C [u] []) (I2.env0.make C [u] []) (hb _ [Value.ref (hh.objs.size + 1),u] I2.kIn (by rw [List.append_nil];exact hl)) (.cons rfl (.cons r .nil)) hsp) fun r s' hq=>?_)
 cases r with
 | error e=>exact hq.elim
 | ok fl =>
  cases fl with
  | ret w =>
   obtain ⟨y,H',I3,rv,ev,q3⟩:=I2.after hq
   subst ev
   exact ⟨rv,V.ref (hh.objs.size + 1),H',I3,rfl,q3⟩
  | next=>exact False.elim hq
  | brk=>exact False.elim hq
  | cont=>exact False.elim hq
theorem qi (M:qh X.prog X.w X.K X.mg X.base k C x f) (hr:c4 (k + 1) X.A) (ha:PA X (e::es) t) (hg:Gl X x:=by rfl) (hdb:(x == ("__debug__":Str))=false:=by decide) (hn:nSt e=true:=by rfl) (hp:es.all nSt=true:=by rfl) :
  PE X (.Call (.Name x p) (e::es) [] pos) (xN C f t):=by
 intro pins s σ H Q I h
 obtain ⟨G,fI,fd,ps,F,hb,m,na,hm⟩:=id M.ex
 refine wpAny_Call_Name_kw (c5 I hg hm ?_ hdb)
 refine PySem.W.callWith_K (h₀:=X.base) I.ok.mod.kin m.kp (thn (ha pos pins s σ H _ I h) fun us s1 ⟨vs,H1,I1,r,q⟩=>⟨I1.kIn,?_⟩) (cQ hn) (cA hp)
 obtain ⟨v,rfl,q⟩:=q
 cases r with
 | cons r rr =>
  cases rr
  exact sd M hr I1 r q
end
def X0 (K:PySem.W.Frag) (C:Addr):Prop:=∀h:Heap,K.In h->∃bm N nm q bs hd sn sub ab col dd k0 k1 k2 k3 k5 mN,
 h.get? C=some (excClassObj nm q C N bs bm hd sn sub ab col dd k0 k1 k2 k3 k5 "ValueError.__new__")/\h.Ns N mN/\mN "__init__"=none/\OwnTail h vmB bm
theorem vk {K:PySem.W.Frag}{C:Addr} (q:PySem.W.excIn K C vmB "ValueError.__new__"=true):X0 K C:=fun h X=>by
 unfold PySem.W.excIn at q
 split at q
 case h_2=>cases q
 case h_1 dd cd sl ho =>
  split at q
  case h_2=>cases q
  case h_1 C' bm k0 k1 k2 k3 n k5 hm hs =>
   simp only [Bool.and_eq_true,beq_iff_eq,Bool.not_eq_true'] at q
   obtain ⟨⟨⟨⟨⟨e1,e2⟩,hdel⟩,ht⟩,hok⟩,hni⟩:=q
   subst e1 e2
   cases cd with
   | mk nm bs mro ns qn hd sn sub ab col del =>
    cases sl with
    | mk l =>
     have hs:l=[k0,k1,k2,k3,some (.builtin "ValueError.__new__"),k5]:=hs
     have hm:mro=.ref C'::bm:=hm
     have hdel:del=false:=hdel
     subst hs hm hdel
     refine ⟨bm,ns,nm,qn,bs,hd,sn,sub,ab,col,dd,k0,k1,k2,k3,k5,_,X _ _ ho,.of_isNs (PySem.W.isNs_of_in X hok),PySem.W.nsMap_none_of_in X hok hni,PySem.W.tail_of_in X ht⟩
theorem vm {K:PySem.W.Frag}{G:Addr} (q:PySem.W.excIn K G vmB "ValueError.__new__"=true) (hg:∃nm q N bs sn sub ab col k0 k1 k2 k3 k5,K.lookup G=some (excClassObj nm q G N bs vmB true sn sub ab col none k0 k1 k2 k3 k5 "ValueError.__new__")) :
  ∀h:Heap,K.In h->OwnTail h vmB (.ref G::vmB):=fun h X=>by
 obtain ⟨bm,N,nm,qn,bs,hd,sn,sub,ab,col,dd,k0,k1,k2,k3,k5,mN,h1,h2,h3,_⟩:=vk q h X
 exact .own h1 h2 h3 .base
section
variable {X:Cx}{C:Addr}{x:Str}{p pos:Pos}
def zm (K:PySem.W.Frag) (D:Addr):List V->Hp->VK->Prop:=fun xs H Q=>∃a C G dd new b,xs=[.ref a,.ref D]/\H a=some (.ext (XAt a C dd new))/\XC K C G/\PySem.W.kitOne K (.ref C) (.ref D)=some b/\Q (.bl b) H
theorem se {D:Addr}:a9 X (.builtin "isinstance") (zm X.K D):=by
 intro pins s σ H xs us Q I r h
 obtain ⟨a,C,G,dd,new,b,rfl,ea,c,e,q⟩:=h
 obtain ⟨u,w',rfl,rx,ry⟩:=nh r
 cases (show u=Value.ref a from rx)
 cases (show w'=Value.ref D from ry)
 have ok:=(show aZ X.prog X.w H s.heap a (.ext (XAt a C dd new)) from I.hok a _ ea)
 exact PySem.W.kia_one (j0 c) I.kIn ok.1 e (fun z=>nomatch z) fun tk=>⟨.bl b,H,I.tok _,rfl,q⟩
def vn (K:PySem.W.Frag):List V->Hp->VK->Prop:=fun xs H Q=>∃a C G dd new n b,xs=[.ref a,.ty n]/\H a=some (.ext (XAt a C dd new))/\XC K C G/\PySem.W.kitOne K (.ref C) (.type n)=some b/\Q (.bl b) H
theorem qj:a9 X (.builtin "isinstance") (vn X.K):=by
 intro pins s σ H xs us Q I r h
 obtain ⟨a,C,G,dd,new,n,b,rfl,ea,c,e,q⟩:=h
 obtain ⟨u,w',rfl,rx,ry⟩:=nh r
 cases (show u=Value.ref a from rx)
 cases (show w'=Value.type n from ry)
 have ok:=(show aZ X.prog X.w H s.heap a (.ext (XAt a C dd new)) from I.hok a _ ea)
 exact PySem.W.kia_one (j0 c) I.kIn ok.1 e (fun z=>nomatch z) fun tk=>⟨.bl b,H,I.tok _,rfl,q⟩
end
def XCl (K:PySem.W.Frag) (c:Str):Prop:=∃dd cd sl,K.lookup (aq K c)=some ⟨.type "type",dd,.cls cd,sl⟩/\cd.name=c
structure qk (K:PySem.W.Frag) (cs:List Str):Prop where
 g:XCl K "GlueError"
 n:∀c∈cs,XCl K c
 c:∀c∈cs,XC K (aq K c) (aq K "GlueError")
section
variable {K:PySem.W.Frag}{C G D:Addr}{c d:Str}
theorem XCl.ne (h1:XCl K c) (h2:XCl K d) (n:c≠d):aq K c≠aq K d:=fun e=>by
 obtain ⟨_,cd,_,l1,n1⟩:=h1
 obtain ⟨_,cd2,_,l2,n2⟩:=h2
 rw [e,l2] at l1
 cases l1
 exact n (n1.symm.trans n2)
theorem ql (x:XC K C G) (base:Value):PySem.W.subIn K (.ref C) base=some ((Value.ref C::.ref G::vmB).contains base):=by
 obtain ⟨nm,q,N,bs,sn,sub,ab,col,k0,k1,k2,k3,k5,e⟩:=x.obj
 show PySem.W.mroIn K C base=_
 unfold PySem.W.mroIn PySem.W.clsIn
 rw [e]
 rfl
theorem vo (x:XC K C G) (y:∃dd cd sl,K.lookup D=some ⟨.type "type",dd,.cls cd,sl⟩):PySem.W.kitOne K (.ref C) (.ref D)=some (decide (C=D) || decide (D=G)):=by
 obtain ⟨dd,cd,sl,e⟩:=y
 unfold PySem.W.kitOne
 by_cases h:C=D
 .subst h;simp
 .rw [if_neg (fun z=>h (Value.ref.inj (beq_iff_eq.mp z)))]
  unfold PySem.W.kitCls
  have e1:((PySem.W.clsIn K D).isSome && PySem.W.typeIn K (.ref D) == some (.type "type"))=true:=by
   have e2:PySem.W.clsIn K D=some cd:=by unfold PySem.W.clsIn;rw [e]
   have e3:PySem.W.typeIn K (.ref D)=some (.type "type"):=by show (K.lookup D).map (·.cls)=_;rw [e];rfl
   rw [e2,e3]
   rfl
  show (if ((PySem.W.clsIn K D).isSome && PySem.W.typeIn K (.ref D) == some (.type "type"))=true then PySem.W.subIn K (.ref C) (.ref D) else none)=_
  rw [if_pos e1,ql x,decide_eq_false h,Bool.false_or]
  congr 1
  rw [List.contains_cons,List.contains_cons]
  have t1:(Value.ref D == Value.ref C)=false:=beq_eq_false_iff_ne.mpr fun z=>h (Value.ref.inj z).symm
  have t2:vmB.contains (Value.ref D)=false:=rfl
  rw [t1,t2,Bool.false_or,Bool.or_false]
  by_cases g:D=G
  .subst g;simp
  .rw [decide_eq_false g];exact beq_eq_false_iff_ne.mpr fun z=>g (Value.ref.inj z)
theorem vp (x:XC K C G):PySem.W.kitOne K (.ref C) (.type "ValueError")=some true:=by
 unfold PySem.W.kitOne
 rw [if_neg (by intro z;cases beq_iff_eq.mp z)]
 unfold PySem.W.kitCls
 show (if PySem.W.kitMeta "ValueError"=true then PySem.W.subIn K (.ref C) (.type "ValueError") else none)=_
 rw [if_pos (by decide +kernel),ql x]
 rfl
end
def iM (c d:Str):Bool:=decide (c=d) || decide (d="GlueError")
theorem qm {K:PySem.W.Frag}{cs:List Str} (X:qk K cs) {c d:Str} (hc:c∈cs) (hd:d∈cs\/d="GlueError"):PySem.W.kitOne K (.ref (aq K c)) (.ref (aq K d))=some (iM c d):=by
 have yd:XCl K d:=hd.elim (X.n d) fun e=>by rw [e];exact X.g
 obtain ⟨dd,cd,sl,e1,e2⟩:=id yd
 rw [vo (X.c c hc) ⟨dd,cd,sl,e1⟩]
 unfold iM
 congr 2
 .by_cases h:c=d
  .subst h;rw [decide_eq_true rfl,decide_eq_true rfl]
  .rw [decide_eq_false h,decide_eq_false ((X.n c hc).ne yd h)]
 .by_cases h:d="GlueError"
  .subst h;rw [decide_eq_true rfl,decide_eq_true rfl]
  .rw [decide_eq_false h,decide_eq_false (yd.ne X.g h)]
section
variable {K:PySem.W.Frag}{ta:TA}{te:TE}{pa:PTA}{pe:PA1}{cs:List Str}
theorem FVc.exc {O:Addr->Prop}{H:Hp}{v:V}{c:Str}{ns:List Str}{ds:List D} (h:FVc K O H v (.exc c ns ds)):FV K O H v (.exc c ns ds):=h.fv nofun nofun
def vq (c f:Str) (pa:PTA):PTE:=fun ρ Q=>pa ρ fun as ρ1=>match avD as with
 | some [d]=>Q (.dat (.exc c [f] [d])) ρ1
 | _=>False
def lW (cs:List Str) (ats:List (Str×Str)) (f:Str) (pa:PA1):PTE:=fun ρ Q=>pa ρ fun x ρ1=>match cont ρ1 x with
 | some (.exc c ns ds)=>(cs.contains c=true/\ats.contains (c,f)=true)/\∃i,dU f ns=some i/\∃d,ds[i]?=some d/\Q (.dat d) ρ1
 | _=>False
theorem fX {ats:List (Str×Str)}{f:Str} (X:qk K cs) (hat:∀c g,(c,g)∈ats->PySem.W.findIn K (.ref (aq K c)) g=some none) (h:LA1 K te pe):LE K (vg K te f) (lW cs ats f pe):=fun A ρ σ H Q Q' R q k=>h A ρ σ H _ _ R q fun v H1 a ρ1 q1 f1 R1 o1=>by
 split at q1
 .rename_i c ns ds e
  obtain ⟨⟨hc,ha⟩,i,hi,d,hd,q1⟩:=q1
  have hc:c∈cs:=List.contains_iff_mem.mp hc
  cases (R1.cont o1 e).exc with
  | exc0 n1 e1=>cases hd
  | exc1 n1 n2 e1 e2 m f =>
   obtain ⟨v,hv,fv⟩:=f.getD hd
   exact ⟨_,_,_,_,_,_,v,rfl,e1,e2,X.c c hc,hat c _ (List.contains_iff_mem.mp ha),by rw [h7 (k:=i) (by rw [m];exact hi)];exact hv,k v H1 _ ρ1 q1 f1 ⟨R1,fv⟩⟩
 .exact q1.elim
def xO (cs:List Str) (d:Str) (pa:PA1):PTE:=fun ρ Q=>pa ρ fun x ρ1=>match cont ρ1 x with
 | some (.exc c ns ds)=>cs.contains c=true/\Q (.dat (.bl (iM c d))) ρ1
 | _=>False
theorem mT {d:Str} (X:qk K cs) (hd:d∈cs\/d="GlueError") (h:LA1 K te pe):LE K (tCB (zm K (aq K d)) (bg te (bg (tC (.ref (aq K d))) gg))) (xO cs d pe):=fun A ρ σ H Q Q' R q k=>h A ρ σ H _ _ R q fun v H1 a ρ1 q1 f1 R1 o1=>by
 split at q1
 .rename_i c ns ds e
  obtain ⟨hc,q1⟩:=q1
  have hc:c∈cs:=List.contains_iff_mem.mp hc
  have ek:=qm X hc hd
  cases (R1.cont o1 e).exc with
  | exc0 n1 e1=>exact ⟨_,_,_,_,_,_,rfl,e1,X.c c hc,ek,k _ H1 _ ρ1 q1 f1 ⟨R1,.bl _⟩⟩
  | exc1 n1 n2 e1 e2 m f=>exact ⟨_,_,_,_,_,_,rfl,e1,X.c c hc,ek,k _ H1 _ ρ1 q1 f1 ⟨R1,.bl _⟩⟩
 .exact q1.elim
def zn (cs:List Str) (pa:PA1):PTE:=fun ρ Q=>pa ρ fun x ρ1=>match cont ρ1 x with
 | some (.exc c ns ds)=>cs.contains c=true/\Q (.dat (.bl true)) ρ1
 | _=>False
theorem sW (X:qk K cs) (h:LA1 K te pe):LE K (tCB (vn K) (bg te (bg (tC (.ty "ValueError")) gg))) (zn cs pe):=fun A ρ σ H Q Q' R q k=>h A ρ σ H _ _ R q fun v H1 a ρ1 q1 f1 R1 o1=>by
 split at q1
 .rename_i c ns ds e
  obtain ⟨hc,q1⟩:=q1
  have hc:c∈cs:=List.contains_iff_mem.mp hc
  have ek:=vp (X.c c hc)
  cases (R1.cont o1 e).exc with
  | exc0 n1 e1=>exact ⟨_,_,_,_,_,_,_,rfl,e1,X.c c hc,ek,k _ H1 _ ρ1 q1 f1 ⟨R1,.bl _⟩⟩
  | exc1 n1 n2 e1 e2 m f=>exact ⟨_,_,_,_,_,_,_,rfl,e1,X.c c hc,ek,k _ H1 _ ρ1 q1 f1 ⟨R1,.bl _⟩⟩
 .exact q1.elim
end
section
variable {X:Cx}
theorem sg (K:PySem.W.Frag) (e:X.K=K) {D:Addr}:a9 X (.builtin "isinstance") (zm K D):=by subst e;exact se
theorem xP (K:PySem.W.Frag) (e:X.K=K):a9 X (.builtin "isinstance") (vn K):=by subst e;exact qj
theorem bH {x:Str}{C:Addr}{p:Pos} (hm:X.mg x=some (.ref C)) (hg:Gl X x:=by rfl) (hdb:(x == ("__debug__":Str))=false:=by decide):PE X (.Name x p) (tC (.ref C)):=by
 intro pins s σ H Q I h
 exact c5 I hg hm ⟨.ref C,H,I,rfl,h⟩ hdb
end
section
variable {P:Program}{w:World}{K:PySem.W.Frag}{mg:Str->Option Value}{base:Heap}{x qual nm:Str}{C G fI:Addr}{st:Stmt}{fd:FuncData}{N ps:List Str}
theorem fY (F:Fun K "__init__" qual st fI fd) (S:aI N ps (ah st)) (hl:ps.length=2)
  (hb:∀(kV doc pm:Value) (an:Option Addr) (cdv ct:Value) (us:List Value),us.length=ps.length->bindArgs (PySem.W.fnOf "__init__" qual (a6 st) (aQ st) (ah st) .none kV doc pm an cdv ct) ⟨us,[]⟩=pure (ps.zip us))
  (hp:∀(cdv:Value) (A:Around) (outer:List Env) (s:Shared) (H:Hp) (E:XK),PSs (kf CX0 P w K mg base N qual (ah st) fI cdv A outer s H E).nox (aQ st) (vi K (b5 0) (b5 1) nm))
  (m:XM K C G fI) (na:PySem.W.findIn K (.ref C) nm=some none) (hm:mg x=some (.ref C)):qh P w K mg base 1 C x nm:=by
 refine ⟨G,fI,fd,ps,F.ok (k:=0) S (fun vs H Q E h=>?_) (fun cdv A outer s H vs Q E hr h=>⟨_,hp cdv A outer s H E,?_⟩),F.binds hb,m,na,hm⟩
 .obtain ⟨a,C,G,new,v,rfl,_⟩:=h
  exact hl.symm
 .obtain ⟨a,C,G,new,v,rfl,ea,c,n,q⟩:=h
  exact ⟨v,rfl,.ref a,rfl,a,C,G,new,rfl,ea,c,n,fun dx hdx=>q dx hdx⟩
end
section
variable {X:Cx}{e:Expr}{f:Str}{pos:Pos}{ta:TE}
theorem eE (K:PySem.W.Frag) (ek:X.K=K) (he:PE X e ta) (hb:attributeBase e f X.env (eval e X.env)=eval e X.env):PE X (.Attribute e f pos) (vg K ta f):=by subst ek;exact vh he hb
theorem eF (K:PySem.W.Frag) (ek:X.K=K) {o value:Expr}{pos':Pos}{tv:TE} (ha:PE X o ta) (hv:PE X value tv) (hs:swapsWith value (some (.Attribute o f pos')) pos.line X.env=pure false):PS X (.Assign [.Attribute o f pos'] value pos) (vi K ta tv f):=by subst ek;exact vj ha hv hs
end
def qO (h:Heap) (e T:Addr) (fl:Value):Prop:=∃oe vs oT ts,h.get? e=some oe/\oe.data=.fields vs/\vs[1]?=some (.ref T)/\T≠e/\h.get? T=some oT/\oT.data=.fields ts/\ts[3]?=some fl
structure qo (fs:List Addr) (e:Addr) (T0:Option Addr) (h h':Heap):Prop where
 kp:∀b o,b∉fs->b≠e->T0≠some b->h.get? b=some o->h'.get? b=some o
 sl:∀b o,b∈fs->h.get? b=some o->∃sl,h'.get? b=some { o with slots:=sl }
 ex:∀oe vs,h.get? e=some oe->oe.data=.fields vs->∃oe' vs',h'.get? e=some oe'/\oe'.cls=oe.cls/\oe'.dict=oe.dict/\oe'.data=.fields vs'/\vs'.size=vs.size
section
variable {M:Model}{A:Around}{E:Value->Shared->Prop}{s:Shared}{base:Heap}{env:Env}{outer:List Env}{L e T0:Addr}{oe:Obj}{vs:Array Value}
theorem qp {head:Value}{hadNext:Bool}{Q:Unit->Shared->Prop} (hfr:A.frames=some (env::outer)) (hl:s.heap.FunFrames base (env::outer)) (hf:env.frame=some L)
  (he:s.heap.get? e=some oe) (hd:oe.data=.fields vs) (hsz:1 < vs.size)
  (h:∀h' T,s.heap.objs.size<=T->qo (frs (env::outer)) e none s.heap h'->qO h' e T (rawInt L)->Q () { s with heap:=h' }) :
  wpAny M A (do let a <- frameOf env;let pl <- entryPlaceOf L hadNext;let b <- EntryCells.newEntry head a .none (rawInt L) .none pl;setField (.ref e) 1 b) Q E s:=by
 have nf:e∉frs (env::outer):=fun hm=>by
  obtain ⟨_,o,ho,hn⟩:=hl.mem hm
  rw [he] at ho
  cases ho
  exact hn vs hd
 refine wpAny_bind (wpAny_frameOf_fun hfr hl hf fun g1 hs1=>?_)
 refine wpAny_bind (wpAny_entryPlaceOf fun pl hpl=>?_)
 have e1:g1.get? e=some oe:=(hs1.2.1 e nf).trans he
 unfold EntryCells.newEntry newFields
 refine wpAny_bind (wpAny_newObj_type ?_ (hpl.sizeOk5 _ _ _ _ _))
 have hts:∃ts:Array Value,([head,.ref L,.none,rawInt L,.none]++(if pl.isEmpty then List.replicate 6 Value.none else pl)).toArray=ts/\ts[3]?=some (rawInt L):=⟨_,rfl,by
  rcases hpl with rfl | ⟨_,_,_,_,_,_,_,rfl⟩ <;> simp⟩
 obtain ⟨ts,ets,t3⟩:=hts
 rw [ets]
 generalize hg2:g1.push { cls:=.type "traceback",dict:=none,data:=.fields ts }=g2
 have sz1:g1.objs.size=s.heap.objs.size:=hs1.1
 have k2:∀b o,g1.get? b=some o->g2.get? b=some o:=fun b o q=>by rw [<- hg2];exact Heap.get?_push_of_some _ q
 have gT:g2.get? g1.objs.size=some { cls:=.type "traceback",dict:=none,data:=.fields ts }:=by rw [<- hg2];exact Heap.get?_push_size _ rfl
 refine wpAny_setField (k2 _ _ e1) hd hsz ?_
 have ne:g1.objs.size≠e:=Nat.ne_of_gt (Heap.lt_size e1)
 generalize hg3:g2.update e (Obj.mapFields (·.setIfInBounds 1 (Value.ref g1.objs.size)))=g3
 have d3:=Obj.data_mapFields hd (·.setIfInBounds 1 (Value.ref g1.objs.size))
 have e3:g3.get? e=some (oe.mapFields (·.setIfInBounds 1 (Value.ref g1.objs.size))):=by rw [<- hg3];exact Heap.get?_update_self _ (k2 _ _ e1) (Obj.isFreed_of_fields d3)
 have k3:∀b o,b≠e->g2.get? b=some o->g3.get? b=some o:=fun b o hb q=>by rw [<- hg3];exact (Heap.get?_update_ne _ _ _ _ hb).trans q
 refine h g3 g1.objs.size (by rw [sz1];exact Nat.le_refl _) ⟨fun b o hb hbe _ q=>k3 b o hbe (k2 b o ((hs1.2.1 b hb).trans q)),fun b o hb q=>?_,fun oe' vs' q1 q2=>?_⟩ ⟨_,_,_,ts,e3,d3,by simp [hsz],ne,k3 _ _ ne gT,rfl,t3⟩
 .obtain ⟨sl,q'⟩:=hs1.2.2 b o q
  exact ⟨sl,k3 b _ (fun z=>nf (by rw [<- z];exact hb)) (k2 b _ q')⟩
 .rw [he] at q1
  cases q1
  rw [hd] at q2
  cases q2
  obtain ⟨c,dc,dt,sl⟩:=oe
  cases hd
  exact ⟨_,_,e3,rfl,rfl,d3,by simp⟩
theorem vt {Q:Unit->Shared->Prop} (hfr:A.frames=some (env::outer)) (hl:s.heap.FunFrames base (env::outer)) (hf:env.frame=some L)
  (he:s.heap.get? e=some oe) (hd:oe.data=.fields vs) (h1:vs[1]?=some .none)
  (h:∀h' T,s.heap.objs.size<=T->qo (frs (env::outer)) e none s.heap h'->qO h' e T (rawInt L)->Q () { s with heap:=h' }):wpAny M A (noteFrame (.ref e) env) Q E s:=by
 unfold noteFrame
 simp only [hf]
 refine wpAny_bind (wpAny_field he hd h1 ?_)
 rw [if_neg (by decide)]
 exact qp hfr hl hf he hd (Array.getElem?_eq_some_iff.mp h1).1 h
theorem qq {Q:Unit->Shared->Prop} (hfr:A.frames=some (env::outer)) (hl:s.heap.FunFrames base (env::outer)) (hf:env.frame=some L) (fly:qO s.heap e T0 .none) (nT:T0∉frs (env::outer))
  (h:∀h' T,s.heap.objs.size<=T->qo (frs (env::outer)) e (some T0) s.heap h'->qO h' e T (rawInt L)->Q () { s with heap:=h' }):wpAny M A (noteFrame (.ref e) env) Q E s:=by
 obtain ⟨oe,vs,oT,ts,he,hd,h1,ne,hT,hdT,h3⟩:=fly
 have hsz:1 < vs.size:=(Array.getElem?_eq_some_iff.mp h1).1
 unfold noteFrame
 simp only [hf]
 refine wpAny_bind (wpAny_field he hd h1 ?_)
 rw [if_pos (show (Value.ref T0 != Value.none)=true by simp)]
 refine wpAny_bind (wpAny_field hT hdT h3 ?_)
 rw [if_neg (show ¬ ((Value.none == rawInt L)=true) by simp [rawInt])]
 refine wpAny_bind (wpAny_setField hT hdT (Array.getElem?_eq_some_iff.mp h3).1 ?_)
 have ot:∀b,b≠T0->(s.heap.update T0 (Obj.mapFields (·.setIfInBounds 3 Value.none))).get? b=s.heap.get? b:=fun b hb=>Heap.get?_update_ne _ _ _ _ hb
 have sz:(s.heap.update T0 (Obj.mapFields (·.setIfInBounds 3 Value.none))).objs.size=s.heap.objs.size:=by simp [Heap.update]
 have hl2:(s.heap.update T0 (Obj.mapFields (·.setIfInBounds 3 Value.none))).FunFrames base (env::outer):=hl.of_keeps fun b o q nf=>⟨o,(ot b (fun z=>by rw [z,hT] at q;cases q;exact nf ts hdT)).trans q,rfl⟩
 refine qp hfr hl2 hf ((ot e (Ne.symm ne)).trans he) hd hsz fun h' T hT' mv fly=>h h' T (by rw [<- sz];exact hT') ⟨fun b o h1 h2 h3 q=>mv.kp b o h1 h2 (by simp) ((ot b (fun z=>h3 (by rw [z]))).trans q),fun b o h1 q=>mv.sl b o h1 ((ot b (fun z=>nT (by rw [<- z];exact h1))).trans q),fun oe' vs' q1 q2=>mv.ex oe' vs' ((ot e (Ne.symm ne)).trans q1) q2⟩ fly
theorem ib {fl:Value}{T:Addr}{Q:Unit->Shared->Prop} (fly:qO s.heap e T fl) (h:∀h',(∀b o,b≠T->s.heap.get? b=some o->h'.get? b=some o)->qO h' e T .none->Q () { s with heap:=h' }):wpAny M A (setFlight (.ref e) none) Q E s:=by
 obtain ⟨oe,vs,oT,ts,he,hd,h1,ne,hT,hdT,h3⟩:=fly
 unfold setFlight
 refine wpAny_bind (wpAny_field he hd h1 ?_)
 rw [if_pos (show (Value.ref T != Value.none)=true by simp)]
 have hs3:3 < ts.size:=(Array.getElem?_eq_some_iff.mp h3).1
 refine wpAny_setField hT hdT hs3 (h _ (fun b o hb q=>(Heap.get?_update_ne _ _ _ _ hb).trans q) ?_)
 have dT:=Obj.data_mapFields hdT (·.setIfInBounds 3 ((none:Option Addr).elim Value.none fun f=>rawInt f))
 exact ⟨oe,vs,_,_,(Heap.get?_update_ne _ _ _ _ (Ne.symm ne)).trans he,hd,h1,ne,Heap.get?_update_self _ hT (Obj.isFreed_of_fields dT),dT,by simp [hs3]⟩
end
def CXe (P:Program) (w:World):CXT:=fun outer H s E e s'=>∃(ea C:Addr) (dd:Option Addr) (H':Hp) (T:Addr),e=.ref ea/\s'.os=s.os/\AllBare s'.gens/\Un (frs outer) [] H H' s.heap s'.heap/\HOk P w H' s'.heap /\
 H' ea=some (.ext (XAt ea C dd false))/\qO s'.heap ea T .none/\s.heap.get? T=none/\H' T=none/\E (.ref ea) dd H'
theorem j3 {l:List Env}{h base:Heap} (hl:h.FunFrames base l) {b:Addr} (hb:b∈frs l):∃o,h.get? b=some o:=by
 obtain ⟨_,o,ho,_⟩:=hl.mem hb
 exact ⟨o,ho⟩
theorem XAt.moved {fs:List Addr}{ea C:Addr}{dd:Option Addr}{new:Bool}{T0:Option Addr}{h h':Heap} (x:XAt ea C dd new h) (mv:qo fs ea T0 h h'):XAt ea C dd false h':=by
 obtain ⟨o,vs,h1,h2,h3,h4,h5,_⟩:=x
 obtain ⟨o',vs',q1,q2,q3,q4,q5⟩:=mv.ex o vs h1 h4
 exact ⟨o',vs',q1,q2.trans h2,q3.trans h3,q4,by rw [q5];exact h5,nofun⟩
theorem HOk.moved {P:Program}{w:World}{H H':Hp}{h h1 h2:Heap}{fs:List Addr}{ea C T:Addr}{dd:Option Addr}{new:Bool}{T0:Option Addr} (ok:HOk P w H h) (hea:H ea=some (.ext (XAt ea C dd new))) (mv:qo fs ea T0 h h1) (hT:h.objs.size<=T) (un:∀b o,b≠T->h1.get? b=some o->h2.get? b=some o)
  (hfs:∀b∈fs,H b=none) (hT0:∀b,T0=some b->H b=none) (fly:qO h2 ea T .none) (hH:H'=upd H ea (.ext (XAt ea C dd false))):HOk P w H' h2:=fun b o eb=>by
 subst hH
 have ne:∀c u,H c=some u->c≠T:=fun c u q=>Nat.ne_of_lt (Nat.lt_of_lt_of_le (ok.lt q) hT)
 have kp:∀c u,c≠ea->H c=some u->∀v,h.get? c=some v->h2.get? c=some v:=fun c u hc q v z=>un c v (ne c u q) (mv.kp c v (fun m=>by rw [hfs c m] at q;cases q) hc (fun e=>by rw [hT0 c e] at q;cases q) z)
 by_cases hb:b=ea
 .subst hb
  rw [au] at eb
  cases eb
  have x:XAt b C dd new h:=(ok b _ hea).1
  obtain ⟨o',vs',q1,q2,q3,q4,q5,q6⟩:=x.moved mv
  exact XAt.ok ⟨o',vs',un b o' (ne b _ hea) q1,q2,q3,q4,q5,q6⟩
 .rw [ak hb] at eb
  refine (ok b o eb).stay (fun c v hc q=>?_) (fun c q=>?_) fun c xs q=>?_
  .rcases hc with rfl | hc
   .exact kp c o hb eb v q
   .exact kp c _ (fun z=>by rw [z,hea] at hc;cases hc) hc v q
  .rw [ak (fun z=>by rw [z,hea] at q;cases q)];exact q
  .rw [ak (fun z=>by rw [z,hea] at q;cases q)];exact q
section
variable {P:Program}{w:World}{K:PySem.W.Frag}{mg:Str->Option Value}{base:Heap}{N:List Str}{qual:Str}{scope:Scope}{f:Addr}{cd:Value}{A:Around}{outer:List Env}{s0:Shared}{H0:Hp}{E:XK}{pins:List (Addr×Obj)}{σ:St}{H:Hp}{s:Shared}
theorem qt {ea C:Addr}{dd:Option Addr} (I:Inv (kf (CXe P w) P w K mg base N qual scope f cd A outer s0 H0 E) pins σ H s) (hea:H ea=some (.ext (XAt ea C dd true))) (hE:E (.ref ea) dd (upd H ea (.ext (XAt ea C dd false)))) :
  (kf (CXe P w) P w K mg base N qual scope f cd A outer s0 H0 E).xe (.ref ea) s:=by
 obtain ⟨⟨o,vs,h1,h2,h3,h4,h5,h6⟩,_,_⟩:=(show aZ P w H s.heap ea (.ext (XAt ea C dd true)) from I.hok ea _ hea)
 show wpAny (model P w) _ (leaving _ (.ref ea)) _ _ s
 unfold leaving
 refine wpAny_bind (vt I.ok.frames I.stack rfl h1 h4 (h6 rfl) fun g1 T hT mv fly=>?_)
 refine ib fly fun g2 un fly2=>?_
 have hf2:∀b∈frs (envOfC qual scope s0.heap.objs.size f cd::outer),H b=none:=I.stkFree
 have hok:=I.hok.moved hea mv hT un hf2 (fun b e=>nomatch e) fly2 rfl
 have old:∀b o,s0.heap.get? b=some o->b≠s0.heap.objs.size:=fun b o q=>Nat.ne_of_lt (Heap.lt_size q)
 have bT:∀b o,s.heap.get? b=some o->b≠T:=fun b o q=>Nat.ne_of_lt (Nat.lt_of_lt_of_le (Heap.lt_size q) hT)
 have nea:∀b,H b=none->b≠ea:=fun b n z=>by rw [z,hea] at n;cases n
 have sub:∀b,b∈frs outer->b∈frs (envOfC qual scope s0.heap.objs.size f cd::outer):=fun b hb=>List.mem_cons_of_mem _ hb
 have nsub:∀b o,s0.heap.get? b=some o->b∉frs outer->b∉frs (envOfC qual scope s0.heap.objs.size f cd::outer):=fun b o q hb z=>by
  rcases List.mem_cons.mp (show b∈s0.heap.objs.size::frs outer from z) with z | z
  .exact old b o q z
  .exact hb z
 have un0:Un (frs outer) [] H0 (upd H ea (.ext (XAt ea C dd false))) s0.heap g2:=by
  refine ⟨fun b ob q n hb hx=>?_,fun b ob q n hb hx=>?_,fun b ob q n hx=>?_,fun b ob q hx=>?_,fun b xs q=>?_,fun b ob u q=>?_,fun b ps q=>?_⟩
  .have q1:=I.base.keep b ob q n hb hx
   have n1:=I.base.free b ob q n hx
   exact un b ob (bT b ob q1) (mv.kp b ob (nsub b ob q hb) (nea b n1) (by simp) q1)
  .obtain ⟨sl,q1⟩:=I.base.slot b ob q n hb hx
   obtain ⟨sl2,q2⟩:=mv.sl b _ (sub b hb) q1
   exact ⟨sl2,un b _ (bT b _ q1) q2⟩
  .have n1:=I.base.free b ob q n hx
   rw [ak (nea b n1)];exact n1
  .obtain ⟨o1,q1⟩:=I.base.there b ob q hx
   by_cases hbe:b=ea
   .subst hbe
    obtain ⟨o2,vs2,q2,_⟩:=mv.ex o vs h1 h4
    exact ⟨o2,un b o2 (bT b _ q1) q2⟩
   .by_cases hb:b∈frs (envOfC qual scope s0.heap.objs.size f cd::outer)
    .obtain ⟨sl2,q2⟩:=mv.sl b _ hb q1
     exact ⟨_,un b _ (bT b _ q1) q2⟩
    .exact ⟨o1,un b o1 (bT b _ q1) (mv.kp b o1 hb hbe (by simp) q1)⟩
  .have q1:=I.base.tups b xs q
   rw [ak (fun z=>by rw [z,hea] at q1;cases q1)];exact q1
  .have q1:=I.base.frzs b ob u q
   rw [ak (fun z=>by rw [z,hea] at q1;cases q1)];exact q1
  .obtain ⟨m,q1⟩:=I.base.tbls b ps q
   exact ⟨m,by rw [ak (fun z=>by rw [z,hea] at q1;cases q1)];exact q1⟩
 refine ⟨ea,C,dd,_,T,rfl,I.os,I.bare,un0,hok,au,fly2,?_,?_,hE⟩
 .cases q:s0.heap.get? T with
  | none=>rfl
  | some ob =>
   obtain ⟨o1,q1⟩:=I.base.there T ob q (show T∉([]:List Addr) by simp)
   exact absurd rfl (bT T o1 q1)
 .rw [ak (fun z=>by
   have:=I.hok.lt hea
   rw [<- z] at this
   exact absurd (Nat.lt_of_lt_of_le this hT) (Nat.lt_irrefl _))]
  exact I.hok.fresh hT
theorem vv {E1:XK}{e:Value}{s':Shared} (I:Inv (kf (CXe P w) P w K mg base N qual scope f cd A outer s0 H0 E) pins σ H s)
  (h:CXe P w (envOfC qual scope s0.heap.objs.size f cd::outer) H s E1 e s') (hE:∀c dd H',E1 c dd H'->E c dd H'):(kf (CXe P w) P w K mg base N qual scope f cd A outer s0 H0 E).xe e s':=by
 obtain ⟨ea,C,dd,H',T0,rfl,os,bare,un1,hok1,hea,fly0,hT0,hT0',hE1⟩:=h
 have hf1:∀b∈frs (envOfC qual scope s0.heap.objs.size f cd::outer),H b=none:=I.stkFree
 have hst:=I.stack
 have hl:s'.heap.FunFrames base (envOfC qual scope s0.heap.objs.size f cd::outer):=by
  have all:∀l:List Env,(∀b∈frs l,b∈frs (envOfC qual scope s0.heap.objs.size f cd::outer))->s.heap.FunFrames base l->s'.heap.FunFrames base l:=by
   intro l
   induction l with
   | nil=>intro _ _;trivial
   | cons en r ih =>
    intro hs hl
    obtain ⟨hk,⟨L,o,hf,hn,ho,hd⟩,hr⟩:=hl
    have hL:L∈frs (en::r):=by unfold frs;rw [List.filterMap_cons,hf];exact List.mem_cons_self
    obtain ⟨sl,q⟩:=un1.slot L o ho (hf1 L (hs L hL)) (hs L hL) (by simp)
    exact ⟨hk,⟨L,_,hf,hn,q,hd⟩,ih (fun b hb=>hs b (by unfold frs;rw [List.filterMap_cons,hf];exact List.mem_cons_of_mem _ hb)) hr⟩
  exact all _ (fun _ hb=>hb) hst
 have nT0:T0∉frs (envOfC qual scope s0.heap.objs.size f cd::outer):=fun z=>by
  obtain ⟨o,q⟩:=j3 hst z
  rw [hT0] at q;cases q
 have hf2:∀b∈frs (envOfC qual scope s0.heap.objs.size f cd::outer),H' b=none:=fun b hb=>by
  obtain ⟨o,q⟩:=j3 hst hb
  exact un1.free b o q (hf1 b hb) (by simp)
 show wpAny (model P w) _ (leaving _ (.ref ea)) _ _ s'
 unfold leaving
 refine wpAny_bind (qq I.ok.frames hl rfl fly0 nT0 fun g1 T hT mv fly=>?_)
 refine ib fly fun g2 un fly2=>?_
 have hok:=hok1.moved hea mv hT un hf2 (fun b e=>by cases e;exact hT0') fly2 rfl
 have upe:upd H' ea (.ext (XAt ea C dd false))=H':=by
  funext b
  by_cases z:b=ea
  .subst z;rw [au,hea]
  .rw [ak z]
 rw [upe] at hok
 have old:∀b o,s0.heap.get? b=some o->b≠s0.heap.objs.size:=fun b o q=>Nat.ne_of_lt (Heap.lt_size q)
 have bT:∀b o,s'.heap.get? b=some o->b≠T:=fun b o q=>Nat.ne_of_lt (Nat.lt_of_lt_of_le (Heap.lt_size q) hT)
 have bT0:∀b o,s.heap.get? b=some o->some T0≠some b:=fun b o q z=>by cases z;rw [hT0] at q;cases q
 have nea:∀b,H' b=none->b≠ea:=fun b n z=>by rw [z,hea] at n;cases n
 have sub:∀b,b∈frs outer->b∈frs (envOfC qual scope s0.heap.objs.size f cd::outer):=fun b hb=>List.mem_cons_of_mem _ hb
 have nsub:∀b o,s0.heap.get? b=some o->b∉frs outer->b∉frs (envOfC qual scope s0.heap.objs.size f cd::outer):=fun b o q hb z=>by
  rcases List.mem_cons.mp (show b∈s0.heap.objs.size::frs outer from z) with z | z
  .exact old b o q z
  .exact hb z
 obtain ⟨oe,vs,oT,ts,he1,he2,_⟩:=id fly0
 have un0:Un (frs outer) [] H0 H' s0.heap g2:=by
  refine ⟨fun b ob q n hb hx=>?_,fun b ob q n hb hx=>?_,fun b ob q n hx=>?_,fun b ob q hx=>?_,fun b xs q=>un1.tups b xs (I.base.tups b xs q),fun b ob u q=>un1.frzs b ob u (I.base.frzs b ob u q),fun b ps q=>?_⟩
  .have q1:=I.base.keep b ob q n hb hx
   have n1:=I.base.free b ob q n hx
   have q2:=un1.keep b ob q1 n1 (nsub b ob q hb) hx
   exact un b ob (bT b ob q2) (mv.kp b ob (nsub b ob q hb) (nea b (un1.free b ob q1 n1 hx)) (bT0 b ob q1) q2)
  .obtain ⟨sl,q1⟩:=I.base.slot b ob q n hb hx
   obtain ⟨sl1,q2⟩:=un1.slot b _ q1 (I.base.free b ob q n hx) (sub b hb) hx
   obtain ⟨sl2,q3⟩:=mv.sl b _ (sub b hb) q2
   exact ⟨sl2,un b _ (bT b _ q2) q3⟩
  .obtain ⟨o1,q1⟩:=I.base.there b ob q hx
   exact un1.free b o1 q1 (I.base.free b ob q n hx) hx
  .obtain ⟨o1,q1⟩:=I.base.there b ob q hx
   obtain ⟨o2,q2⟩:=un1.there b o1 q1 hx
   by_cases hbe:b=ea
   .subst hbe
    obtain ⟨o3,vs3,q3,_⟩:=mv.ex oe vs he1 he2
    exact ⟨o3,un b o3 (bT b _ q2) q3⟩
   .by_cases hb:b∈frs (envOfC qual scope s0.heap.objs.size f cd::outer)
    .obtain ⟨sl2,q3⟩:=mv.sl b _ hb q2
     exact ⟨_,un b _ (bT b _ q2) q3⟩
    .exact ⟨o2,un b o2 (bT b _ q2) (mv.kp b o2 hb hbe (bT0 b o1 q1) q2)⟩
  .obtain ⟨m,q1⟩:=I.base.tbls b ps q
   obtain ⟨m2,q2⟩:=un1.tbls b _ q1
   exact ⟨m++m2,by rw [q2,Array.append_assoc]⟩
 refine ⟨ea,C,dd,H',T,rfl,os.trans I.os,bare,un0,hok,hea,fly2,?_,hok1.fresh hT,hE _ _ _ hE1⟩
 cases q:s0.heap.get? T with
 | none=>rfl
 | some ob =>
  obtain ⟨o1,q1⟩:=I.base.there T ob q (show T∉([]:List Addr) by simp)
  obtain ⟨o2,q2⟩:=un1.there T o1 q1 (by simp)
  exact absurd rfl (bT T o2 q2)
end
section
variable {prog:Program}{w:World}{A:Around}{E:Value->Shared->Prop}{K:PySem.W.Frag}{env:Env}
theorem vw {Q:Flow->Shared->Prop}{x:Sem Value}{s:Shared} (hh:A.handled=none)
  (hx:wpAny (model prog w) A x (fun v s₁=>∃ea C G dd,v=.ref ea/\K.In s₁.heap/\XC K C G/\XAt ea C dd true s₁.heap/\E (.ref ea) s₁) E s):wpAny (model prog w) A (raiseStmt env (some x) none) Q E s:=by
 unfold raiseStmt
 refine wpAny_bind (wpAny_mono hx (fun v s1 h1=>?_) fun _ _ z=>z)
 obtain ⟨ea,C,G,dd,rfl,X,c,⟨o,vs,q1,q2,q3,q4,q5,q6⟩,hE⟩:=h1
 obtain ⟨nm,q,N,bs,sn,sub,ab,col,k0,k1,k2,k3,k5,e⟩:=c.obj
 have hC:=X _ _ e
 obtain ⟨hp,g,d,tk,os⟩:=s1
 have own:(Value.ref C::.ref G::vmB).contains (.type "BaseException")=true:=rfl
 have qn:=q6 rfl
 repeat (first
  | (with_reducible refine wpAny_loadPart_at q1 ?_;first | rw [q2] | rw [q4] | skip)
  | with_reducible refine wpAny_loadPart_at hC ?_
  | (with_reducible refine wpAny_isSubtype_exc hC ?_;rw [own])
  | with_reducible refine wpAny_field q1 q4 qn ?_
  | wp_step)
 exact wpAny_raiseNew_none hh hE
end
def RX (X:Cx) (J:St->XK):Prop:=∀(pins:List (Addr×Obj)) (σ:St) (H:Hp) (s:Shared) (ea C:Addr) (dd:Option Addr),Inv X pins σ H s->H ea=some (.ext (XAt ea C dd true))->J σ (.ref ea) dd (upd H ea (.ext (XAt ea C dd false)))->X.xe (.ref ea) s
def sX (K:PySem.W.Frag) (te:TE) (J:St->XK):TS:=fun D σ H=>te σ H fun v H1=>∃ea C G dd,v=.ref ea/\H1 ea=some (.ext (XAt ea C dd true))/\XC K C G/\J σ (.ref ea) dd (upd H1 ea (.ext (XAt ea C dd false)))
section
variable {X:Cx}{J:St->XK}{x:Expr}{pos:Pos}{te:TE}
theorem mU (K:PySem.W.Frag) (ek:X.K=K) (hc:X.calm=true) (hx:RX X J) (he:PE X x te):PS X (.Raise (some x) none pos) (sX K te J):=by
 subst ek
 intro pins s σ H D I h
 have key:wpAny (model X.prog X.w) X.A (raiseStmt X.env (some (do let v <- eval x X.env;standAt pos;pure v)) none) (SP X pins D) X.xe s:=by
  refine vw (K:=X.K) (I.ok.hd hc) (wpAny_bind (wpAny_mono (he pins s σ H _ I h) (fun u s1 ⟨v,H1,I1,rv,ea,C,G,dd,ev,hea,c,hj⟩=>wpAny_bind (wpAny_standAt (wpAny_pure ?_))) fun _ _ z=>z))
  subst ev
  obtain rfl:u=Value.ref ea:=rv
  have ok:=(show aZ X.prog X.w H1 s1.heap ea (.ext (XAt ea C dd true)) from I1.hok ea _ hea)
  exact ⟨ea,C,G,dd,rfl,I1.kIn,c,ok.1,hx pins σ H1 s1 ea C dd I1 hea hj⟩
 rw [arm_exec_Raise]
 first
  | exact wpAny_bind (wpAny_standAt key)
  | (simp only [evalOpt,Option.map];exact wpAny_bind (wpAny_standAt key))
  | (show wpAny _ _ (do standAt pos;raiseStmt X.env (some (do let v <- eval x X.env;standAt pos;pure v)) none) _ _ s;exact wpAny_bind (wpAny_standAt key))
theorem sY {P:Program}{w:World}{K:PySem.W.Frag}{mg:Str->Option Value}{base:Heap}{N:List Str}{qual:Str}{scope:Scope}{f:Addr}{cd:Value}{A:Around}{outer:List Env}{s0:Shared}{H0:Hp}{E:XK} :
  RX (kf (CXe P w) P w K mg base N qual scope f cd A outer s0 H0 E) (fun _=>E):=fun pins σ H s ea C dd I hea hj=>qt I hea hj
end
def PX (CX:CXT) (X:Cx) (J:St->XK):Prop:=∀(pins:List (Addr×Obj)) (σ:St) (H:Hp) (s:Shared) (e:Value) (s':Shared),Inv X pins σ H s->CX X.stack H s (J σ) e s'->X.xe e s'
theorem xQ {P:Program}{w:World}{K:PySem.W.Frag}{mg:Str->Option Value}{base:Heap}{N:List Str}{qual:Str}{scope:Scope}{f:Addr}{cd:Value}{A:Around}{outer:List Env}{s0:Shared}{H0:Hp}{E:XK} :
  PX (CXe P w) (kf (CXe P w) P w K mg base N qual scope f cd A outer s0 H0 E) (fun _=>E):=fun pins σ H s e s' I h=>vv I h fun _ _ _ z=>z
def qu (sp:Sp) (J:St->XK) (t:TA):TE:=fun σ H Q=>t σ H fun vs H1=>sp vs H1 Q (J σ)
structure xR (P:Program) (w:World) (K:PySem.W.Frag) (mg:Str->Option Value) (base:Heap) (k:Nat) (x:Str) (ps:List Str) (sp:Sp):Prop where
 ex:∃(f:Addr) (fd:FuncData),jb P w K mg base (CXe P w) k f fd ps sp/\fK K fd ps []/\PySem.W.keepIn K (.ref f)=true/\mg x=some (.ref f)
section
variable {X:Cx}{k:Nat}{x:Str}{ps:List Str}{sp:Sp}{p pos:Pos}{e:Expr}{es:List Expr}{t:TA}{J:St->XK}
theorem qv (C:xR X.prog X.w X.K X.mg X.base k x ps sp) (hr:c4 k X.A) (hx:PX (CXe X.prog X.w) X J) (ha:PA X (e::es) t) (hg:Gl X x:=by rfl) (hdb:(x == ("__debug__":Str))=false:=by decide) (hn:nSt e=true:=by rfl) (hp:es.all nSt=true:=by rfl) :
  PE X (.Call (.Name x p) (e::es) [] pos) (qu sp J t):=by
 obtain ⟨f,fd,F,hb,hk,hm⟩:=C.ex
 intro pins s σ H Q I h
 refine wpAny_Call_Name_kw (c5 I hg hm ?_ hdb)
 refine PySem.W.callWith_K (h₀:=X.base) I.ok.mod.kin hk (thn (ha pos pins s σ H _ I h) fun us s1 ⟨vs,H1,I1,r,q⟩=>⟨I1.kIn,?_⟩) (cQ hn) (cA hp)
 have hl:us.length=ps.length:=by rw [<- r.length];exact F.len _ _ _ _ q
 refine wpAny_call (codeAny_mono (F.run X.A X.stack s1 H1 ⟨us,[]⟩ us vs Q (J σ) hr I1.env0 ?_ r q) fun r s' hq=>?_)
 .have:=hb s1 us I1.kIn (by rw [List.append_nil];exact hl)
  rw [List.append_nil] at this
  exact this
 .cases r with
  | error e=>exact hx pins σ H1 s1 e s' I1 hq
  | ok fl =>
   cases fl with
   | ret u=>exact I1.after hq
   | next=>exact False.elim hq
   | brk=>exact False.elim hq
   | cont=>exact False.elim hq
end
section
variable {X:Cx}{pins:List (Addr×Obj)}{σ:St}{H:Hp}{s:Shared}
abbrev Cx.mk' (X:Cx) (e:Value):Cx:={ X with A:=X.A.mark (some e),calm:=false }
theorem Inv.mark (I:Inv X pins σ H s) (e:Value):Inv (X.mk' e) pins σ H s :=
 ⟨⟨I.ok.mod,I.ok.kind,I.ok.glob,I.ok.blt,I.ok.above,I.ok.inj,I.ok.has,I.ok.cab,nofun,I.ok.frames,I.ok.stk,I.ok.exf,I.ok.bs,I.ok.bsz,I.ok.noex,I.ok.exfs,I.ok.funs,I.ok.frf⟩,I.os,I.bare,I.base,I.loc,I.cell,I.free,I.freeC,I.pin,I.hok,I.len⟩
theorem Inv.unmark {e:Value} (I:Inv (X.mk' e) pins σ H s) (hd:X.calm=true->X.A.handled=none):Inv X pins σ H s :=
 ⟨⟨I.ok.mod,I.ok.kind,I.ok.glob,I.ok.blt,I.ok.above,I.ok.inj,I.ok.has,I.ok.cab,hd,I.ok.frames,I.ok.stk,I.ok.exf,I.ok.bs,I.ok.bsz,I.ok.noex,I.ok.exfs,I.ok.funs,I.ok.frf⟩,I.os,I.bare,I.base,I.loc,I.cell,I.free,I.freeC,I.pin,I.hok,I.len⟩
theorem fu {M:Model}{A:Around}{E:Value->Shared->Prop}{i:Nat}{x:Str}{pos:Pos}{Q:Unit->Shared->Prop} (I:Inv X pins σ H s) (hN:X.N.Nodup) (hi:X.N[i]?=some x) (hk:X.env.scope.names.lookup x=some .local)
  (h:∀s',Inv X pins (σ.set i none) H s'->Q () s'):wpAny M A (do bindName X.env x .none;unbindBehindTheSuite X.env x pos) Q E s:=by
 refine wpAny_bind (wpAny_bindName (fb I hN hi (.inl hk) (v:=.non) rfl (fun s1 I1=>?_) (.inr hk)))
 have hiσ:i < σ.length:=by rw [I.len];exact (List.getElem?_eq_some_iff.mp hi).1
 obtain ⟨m,hn,hl⟩:=id I1.loc
 obtain ⟨u,ru,lk⟩:=hl i x .non hi (List.getElem?_set_self hiσ) (.inl hk)
 have hm:m x=some u:=by
  rcases lk with ⟨_,z⟩ | ⟨z,_⟩
  .exact z
  .have z':X.env.scope.names.lookup x=some .cell\/X.env.scope.names.lookup x=some .free:=z
   rw [hk] at z'
   rcases z' with z' | z' <;> cases z'
 unfold unbindBehindTheSuite
 refine wpAny_onRaise (wpAny_unbindName_local hk hn hm (by rw [I.ok.kind];rfl) fun h' u' hn' hs=>?_)
 have cne:=I1.cne
 obtain ⟨oL,_,_,hoL,_⟩:=id hn
 have big:∀b o,X.s₀.heap.get? b=some o->b≠X.env.locals:=fun b o q=>Nat.ne_of_lt (Nat.lt_of_lt_of_le (Heap.lt_size q) I.ok.above)
 refine h _ ⟨I1.ok,I1.os,I1.bare,⟨fun b o q n hb hx=>(hs.2 b (big b o q)).trans (I1.base.keep b o q n hb hx),fun b o q n hb hx=>?_,I1.base.free,fun b o q hx=>?_,I1.base.tups,I1.base.frzs,I1.base.tbls⟩,⟨_,hn',fun j y v' e1 e2 e3=>?_⟩,fun y c q=>?_,I1.free,I1.freeC,fun p hp=>?_,fun b ob q=>?_,by simpa using I.len⟩
 .obtain ⟨sl,q1⟩:=I1.base.slot b o q n hb hx
  exact ⟨sl,(hs.2 b (big b o q)).trans q1⟩
 .obtain ⟨o',q1⟩:=I1.base.there b o q hx
  exact ⟨o',(hs.2 b (big b o q)).trans q1⟩
 .by_cases hj:j=i
  .subst hj
   rw [List.getElem?_set_self hiσ] at e2
   cases e2
  .rw [List.getElem?_set_ne (Ne.symm hj)] at e2
   obtain ⟨u2,r2,q⟩:=hl j y v' e1 (by rw [List.getElem?_set_ne (Ne.symm hj)];exact e2) e3
   refine ⟨u2,r2,?_⟩
   rcases q with ⟨k,z⟩ | ⟨k,c,z1,z2⟩
   .have:y≠x:=fun z=>hj (jC hN e1 (z ▸ hi))
    exact .inl ⟨k,by simp [this,z]⟩
   .exact .inr ⟨k,c,z1,z2.sameBut hs (cne y c z1)⟩
 .obtain ⟨w',z⟩:=I1.cell y c q
  exact ⟨w',z.sameBut hs (cne y c q)⟩
 .obtain ⟨q,n,ne,nf,dd⟩:=I1.pin p hp
  exact ⟨(hs.2 p.1 ne).trans q,n,ne,nf,dd⟩
 .refine (I1.hok b ob q).stay (fun c w' hc z=>(hs.2 c ?_).trans z) (fun _ z=>z) fun _ _ z=>z
  rintro rfl
  rcases hc with hc | hc
  .rw [<- hc,I1.free] at q;cases q
  .rw [I1.free] at hc;cases hc
end
section
variable {M:Model}{A:Around}{E:Value->Shared->Prop}{K:PySem.W.Frag}{C G D:Addr}
theorem k7 {h:Heap}{g:Array GenState}{d:Drawn}{t:Nat}{os:OsState}{ea:Addr}{dd:Option Addr}{new:Bool}{Q:Bool->Shared->Prop} (X:K.In h) (c:XC K C G) (x:XAt ea C dd new h)
  (hD:∃nm q N bs bm hd sn sub ab col d0 k0 k1 k2 k3 k5 nw,K.lookup D=some (excClassObj nm q D N bs bm hd sn sub ab col d0 k0 k1 k2 k3 k5 nw)/\(Value.ref D::bm).contains (.type "BaseException")=true)
  (hq:Q ((Value.ref C::.ref G::vmB).contains (.ref D)) ⟨h,g,d,t,os⟩):wpAny M A (excMatches (.ref ea) (.ref D)) Q E ⟨h,g,d,t,os⟩:=by
 obtain ⟨nm,q,N,bs,sn,sub,ab,col,k0,k1,k2,k3,k5,e⟩:=c.obj
 obtain ⟨nm',q',N',bs',bm',hd',sn',sub',ab',col',d0',k0',k1',k2',k3',k5',nw',e2,hb⟩:=hD
 obtain ⟨o,vs,q1,q2,_⟩:=x
 have hC:=X _ _ e
 have hDo:=X _ _ e2
 have f:=tc_notTuple
 generalize hbb:(Value.ref C::.ref G::vmB).contains (.ref D)=b at hq
 unfold excMatches
 repeat (first
  | (with_reducible refine wpAny_loadPart_at q1 ?_;rw [q2])
  | with_reducible refine wpAny_loadPart_at hDo ?_
  | with_reducible refine wpAny_loadPart_at hC ?_
  | (with_reducible refine wpAny_isSubtype_exc hDo ?_;rw [hb])
  | (with_reducible refine wpAny_isSubtype_exc hC ?_;rw [hbb])
  | wp_step)
 cases b <;> (wp_walk;exact hq)
end
structure FTk (X:Cx) (pins:List (Addr×Obj)) (H:Hp) (T:Addr):Prop where
 nt:H T=none
 sz:X.s₀.heap.objs.size<=T
 nl:T≠X.env.locals
 nc:∀x c,X.env.cells.lookup x=some c->c≠T
 np:∀p∈X.pn++pins,p.1≠T
section
variable {X:Cx}{pins:List (Addr×Obj)}{σ:St}{H:Hp}{s:Shared}
theorem Ay {M:Model}{Er:Value->Shared->Prop}{E1:XK}{e:Value}{s':Shared}{Q:Unit->Shared->Prop} (hst:X.stack=X.env::X.outer) (hfm:X.env.frame=some X.env.locals) (I:Inv X pins σ H s) (h:CXe X.prog X.w X.stack H s E1 e s')
  (k:∀ea C dd H' T s2,e=.ref ea->Inv X pins σ H' s2->H' ea=some (.ext (XAt ea C dd false))->qO s2.heap ea T .none->FTk X pins H' T->E1 (.ref ea) dd H'->Q () s2) :
  wpAny M X.A (noteFrame e X.env) (fun _ s1=>wpAny M X.A (setFlight e none) Q Er s1) Er s':=by
 obtain ⟨ea,C,dd,H',T0,rfl,os,bare,un1,hok1,hea,fly0,hT0,hT0',hE1⟩:=h
 have hf1:∀b∈frs X.stack,H b=none:=I.stkFree
 have hss:=I.stack
 have hl:s'.heap.FunFrames X.base X.stack:=by
  have all:∀l:List Env,(∀b∈frs l,b∈frs X.stack)->s.heap.FunFrames X.base l->s'.heap.FunFrames X.base l:=by
   intro l
   induction l with
   | nil=>intro _ _;trivial
   | cons en r ih =>
    intro hs hl
    obtain ⟨hk,⟨L,o,hf,hn,ho,hd⟩,hr⟩:=hl
    have hL:L∈frs (en::r):=by unfold frs;rw [List.filterMap_cons,hf];exact List.mem_cons_self
    obtain ⟨sl,q⟩:=un1.slot L o ho (hf1 L (hs L hL)) (hs L hL) (by simp)
    exact ⟨hk,⟨L,_,hf,hn,q,hd⟩,ih (fun b hb=>hs b (by unfold frs;rw [List.filterMap_cons,hf];exact List.mem_cons_of_mem _ hb)) hr⟩
  exact all _ (fun _ hb=>hb) hss
 have nT0:T0∉frs X.stack:=fun z=>by
  obtain ⟨o,q⟩:=j3 hss z
  rw [hT0] at q;cases q
 have hf2:∀b∈frs X.stack,H' b=none:=fun b hb=>by
  obtain ⟨o,q⟩:=j3 hss hb
  exact un1.free b o q (hf1 b hb) (by simp)
 have fr:=I.ok.frames
 rw [hst] at fr hl nT0 hf2
 refine qq fr hl hfm fly0 nT0 fun g1 T hT mv fly=>?_
 refine ib fly fun g2 un fly2=>?_
 have hok:=hok1.moved hea mv hT un hf2 (fun b e=>by cases e;exact hT0') fly2 rfl
 have upe:upd H' ea (.ext (XAt ea C dd false))=H':=by
  funext b
  by_cases z:b=ea
  .subst z;rw [au,hea]
  .rw [ak z]
 rw [upe] at hok
 have bT:∀b o,s'.heap.get? b=some o->b≠T:=fun b o q=>Nat.ne_of_lt (Nat.lt_of_lt_of_le (Heap.lt_size q) hT)
 have bT0:∀b o,s.heap.get? b=some o->some T0≠some b:=fun b o q z=>by cases z;rw [hT0] at q;cases q
 have nea:∀b,H' b=none->b≠ea:=fun b n z=>by rw [z,hea] at n;cases n
 obtain ⟨oe,vs,oT,ts,he1,he2,_⟩:=id fly0
 have u:Un (frs X.stack) [] H H' s.heap g2:=by
  rw [hst] at un1 ⊢
  refine ⟨fun b ob q n hb hx=>?_,fun b ob q n hb hx=>?_,un1.free,fun b ob q hx=>?_,un1.tups,un1.frzs,un1.tbls⟩
  .have q2:=un1.keep b ob q n hb hx
   exact un b ob (bT b ob q2) (mv.kp b ob hb (nea b (un1.free b ob q n hx)) (bT0 b ob q) q2)
  .obtain ⟨sl1,q2⟩:=un1.slot b ob q n hb hx
   obtain ⟨sl2,q3⟩:=mv.sl b _ hb q2
   exact ⟨sl2,un b _ (bT b _ q2) q3⟩
  .obtain ⟨o2,q2⟩:=un1.there b ob q hx
   by_cases hbe:b=ea
   .subst hbe
    obtain ⟨o3,vs3,q3,_⟩:=mv.ex oe vs he1 he2
    exact ⟨o3,un b o3 (bT b _ q2) q3⟩
   .by_cases hb:b∈frs (X.env::X.outer)
    .obtain ⟨sl2,q3⟩:=mv.sl b _ hb q2
     exact ⟨_,un b _ (bT b _ q2) q3⟩
    .exact ⟨o2,un b o2 (bT b _ q2) (mv.kp b o2 hb hbe (bT0 b ob q) q2)⟩
 have far:∀b o,s.heap.get? b=some o->b < T:=fun b o q=>by
  obtain ⟨o2,q2⟩:=un1.there b o q (by simp)
  exact Nat.lt_of_lt_of_le (Heap.lt_size q2) hT
 have hL:X.env.locals < T:=by
  obtain ⟨m,⟨o,_,_,ho,_⟩,_⟩:=I.loc
  exact far _ o ho
 refine k ea C dd H' T { s' with heap:=g2 } rfl (I.call' (s':={ s' with heap:=g2 }) os u hok bare (fun b z=>nomatch z)) hea fly2 ⟨hok1.fresh hT,Nat.le_of_lt (Nat.lt_of_le_of_lt I.ok.above hL),Ne.symm (Nat.ne_of_lt hL),fun x c q=>?_,fun p hp=>?_⟩ hE1
 .obtain ⟨v,o,ho,_⟩:=I.cell x c q
  exact Nat.ne_of_lt (far c o ho)
 .exact Nat.ne_of_lt (far _ _ (I.pin p hp).1)
end
abbrev THd:=Addr->Addr->Option Addr->og->St->Hp->Prop
def PH (X:Cx) (hs:List ExceptHandler) (th:THd):Prop:=∀(pins:List (Addr×Obj)) (s:Shared) (σ:St) (H:Hp) (ea C:Addr) (dd:Option Addr) (T:Addr) (D:og),Inv X pins σ H s->H ea=some (.ext (XAt ea C dd false))->qO s.heap ea T .none->FTk X pins H T->th ea C dd D σ H ->
 wpAny (model X.prog X.w) X.A (handleBy (.ref ea) X.env hs) (SP X pins D) X.xe s
def hAs (K:PySem.W.Frag) (C0:Addr) (i:Nat) (ts:TS) (tr:THd):THd:=fun ea C dd D σ H=>∃G,XC K C G /\
 ((Value.ref C::.ref G::vmB).contains (.ref C0)=true->ts { nx:=fun σ' H'=>D.nx (σ'.set i none) H',bk:=fun σ' H'=>D.bk (σ'.set i none) H',ct:=fun σ' H'=>D.ct (σ'.set i none) H',rt:=D.rt } (σ.set i (some (.ref ea))) H) /\
 ((Value.ref C::.ref G::vmB).contains (.ref C0)=false->tr ea C dd D σ H)
def XD (K:PySem.W.Frag) (D:Addr):Prop:=∃nm q N bs bm hd sn sub ab col d0 k0 k1 k2 k3 k5 nw,K.lookup D=some (excClassObj nm q D N bs bm hd sn sub ab col d0 k0 k1 k2 k3 k5 nw)/\(Value.ref D::bm).contains (.type "BaseException")=true
section
variable {X:Cx}{C0:Addr}{cn n:Str}{np pos:Pos}{b0:Stmt}{suite:List Stmt}{rest:List ExceptHandler}{i:Nat}{ts:TS}{tr:THd}
theorem zo (K:PySem.W.Frag) (ek:X.K=K) (hx:XD K C0) (hm:X.mg cn=some (.ref C0)) (hN:X.N.Nodup) (hi:X.N[i]?=some n) (hk:X.env.scope.names.lookup n=some .local) (hs:∀e,PSs (X.mk' e).nox (b0::suite) ts) (hr:PH X rest tr)
  (hg:Gl X cn:=by rfl) (hdb:(cn == ("__debug__":Str))=false:=by decide):PH X (.ExceptHandler (some (.Name cn np)) (some n) (b0::suite) pos::rest) (hAs K C0 i ts tr):=by
 subst ek
 intro pins s σ H ea C dd T D I hea fly ft h
 obtain ⟨G,c,h1,h2⟩:=h
 have xa:XAt ea C dd false s.heap:=(show aZ X.prog X.w H s.heap ea (.ext (XAt ea C dd false)) from I.hok ea _ hea).1
 refine wpAny_handleBy_cons (codeAny_handlers_test ?_) (by intro z;cases z)
 refine c5 (X:=X.mk' (.ref ea)) (I.mark (.ref ea)) hg hm ?_ hdb
 have X2:=I.kIn
 have I0:=I
 obtain ⟨hh,g,d,tk,os⟩:=s
 refine k7 X2 c xa hx ?_
 cases hb:(Value.ref C::.ref G::vmB).contains (.ref C0) with
 | false=>exact hr pins _ σ H ea C dd T D I0 hea fly ft (h2 hb)
 | true =>
  refine codeAny_handlers_suite_as ?_
  refine ib fly fun g2 un fly2=>?_
  have I1:Inv X pins σ H { heap:=g2,gens:=g,drawn:=d,toks:=tk,os:=os }:=I0.turned (it:=T) (t':=tk) un ft.nt ft.nl (.inr ft.sz) ft.nc ft.np
  refine fb (X:=X) (v:=.ref ea) I1 hN hi (.inl hk) rfl (fun s2 I2=>?_) (.inr hk)
  refine wpAny_mono (hs (.ref ea) pins s2 _ H _ ((I2.mark (.ref ea)).wish _) (h1 hb)) (fun f s3 hf=>?_) fun _ _ z=>False.elim z
  have un1:∀{σ' H'},Inv (X.mk' (.ref ea)).nox pins σ' H' s3->Inv X pins σ' H' s3:=fun J=>(Inv.unwish J).unmark I0.ok.hd
  show wpAny _ X.A (do bindName X.env n .none;unbindBehindTheSuite X.env n pos) (fun _ s4=>SP X pins D f s4) X.xe s3
  cases f with
  | next =>
   obtain ⟨σ',H',J,q⟩:=hf
   exact fu (un1 J) hN hi hk fun s4 I4=>⟨_,H',I4,q⟩
  | brk =>
   obtain ⟨σ',H',J,q⟩:=hf
   exact fu (un1 J) hN hi hk fun s4 I4=>⟨_,H',I4,q⟩
  | cont =>
   obtain ⟨σ',H',J,q⟩:=hf
   exact fu (un1 J) hN hi hk fun s4 I4=>⟨_,H',I4,q⟩
  | ret u =>
   obtain ⟨v,σ',H',J,r,q⟩:=hf
   exact fu (un1 J) hN hi hk fun s4 I4=>⟨v,_,H',I4,r,q⟩
theorem sZ:PH X [] (fun _ _ _ _ _ _=>False):=fun _ _ _ _ _ _ _ _ _ _ _ _ _ h=>h.elim
end
def hNo (K:PySem.W.Frag) (C0:Addr) (ts:TS) (tr:THd):THd:=fun ea C dd D σ H=>∃G,XC K C G /\
 ((Value.ref C::.ref G::vmB).contains (.ref C0)=true->ts D σ H) /\
 ((Value.ref C::.ref G::vmB).contains (.ref C0)=false->tr ea C dd D σ H)
abbrev Cx.tryb (X:Cx) (pn:List (Addr×Obj)) (E:Value->Shared->Prop):Cx:={ X with pn:=pn,xe:=E }
def Ac (tb:(St->XK)->TS) (th:THd):TS:=fun D σ H=>∃J:St->XK,tb J D σ H/\∀(σ':St) (ea:Addr) (dd:Option Addr) (H':Hp),J σ' (.ref ea) dd H'->∃C,H' ea=some (.ext (XAt ea C dd false))/\th ea C dd D σ' H'
section
variable {X:Cx}{C0:Addr}{cn n:Str}{np pos:Pos}{b0:Stmt}{suite body:List Stmt}{rest:List ExceptHandler}{h0:ExceptHandler}{hs:List ExceptHandler}{i:Nat}{ts:TS}{tr th:THd}{tb:(St->XK)->TS}
theorem xS (K:PySem.W.Frag) (ek:X.K=K) (hx:XD K C0) (hm:X.mg cn=some (.ref C0)) (hs:∀e,PSs (X.mk' e).nox (b0::suite) ts) (hr:PH X rest tr)
  (hg:Gl X cn:=by rfl) (hdb:(cn == ("__debug__":Str))=false:=by decide):PH X (.ExceptHandler (some (.Name cn np)) none (b0::suite) pos::rest) (hNo K C0 ts tr):=by
 subst ek
 intro pins s σ H ea C dd T D I hea fly ft h
 obtain ⟨G,c,h1,h2⟩:=h
 have xa:XAt ea C dd false s.heap:=(show aZ X.prog X.w H s.heap ea (.ext (XAt ea C dd false)) from I.hok ea _ hea).1
 refine wpAny_handleBy_cons (codeAny_handlers_test ?_) (by intro z;cases z)
 refine c5 (X:=X.mk' (.ref ea)) (I.mark (.ref ea)) hg hm ?_ hdb
 have X2:=I.kIn
 have I0:=I
 obtain ⟨hh,g,d,tk,os⟩:=s
 refine k7 X2 c xa hx ?_
 cases hb:(Value.ref C::.ref G::vmB).contains (.ref C0) with
 | false=>exact hr pins _ σ H ea C dd T D I0 hea fly ft (h2 hb)
 | true =>
  refine codeAny_handlers_suite ?_
  refine ib fly fun g2 un fly2=>?_
  have I1:Inv X pins σ H { heap:=g2,gens:=g,drawn:=d,toks:=tk,os:=os }:=I0.turned (it:=T) (t':=tk) un ft.nt ft.nl (.inr ft.sz) ft.nc ft.np
  refine wpAny_mono (hs (.ref ea) pins _ _ H _ ((I1.mark (.ref ea)).wish _) (h1 hb)) (fun f s3 hf=>?_) fun _ _ z=>False.elim z
  have un1:∀{σ' H'},Inv (X.mk' (.ref ea)).nox pins σ' H' s3->Inv X pins σ' H' s3:=fun J=>(Inv.unwish J).unmark I0.ok.hd
  cases f with
  | next =>
   obtain ⟨σ',H',J,q⟩:=hf
   exact ⟨_,H',un1 J,q⟩
  | brk =>
   obtain ⟨σ',H',J,q⟩:=hf
   exact ⟨_,H',un1 J,q⟩
  | cont =>
   obtain ⟨σ',H',J,q⟩:=hf
   exact ⟨_,H',un1 J,q⟩
  | ret u =>
   obtain ⟨v,σ',H',J,r,q⟩:=hf
   exact ⟨v,_,H',un1 J,r,q⟩
theorem tf (hst:X.stack=X.env::X.outer) (hfm:X.env.frame=some X.env.locals)
  (hb:∀J pn E,PX (CXe X.prog X.w) (X.tryb pn E) J->PSs (X.tryb pn E) body (tb J)) (hh:PH X (h0::hs) th):PS X (.Try body (h0::hs) [] [] pos) (Ac tb th):=by
 intro pins s σ H D I h
 obtain ⟨J,h1,h2⟩:=h
 have mk:∀{E σ H s},Inv X pins σ H s->Inv (X.tryb (X.pn++pins) E) [] σ H s:=fun I =>
  ⟨⟨I.ok.mod,I.ok.kind,I.ok.glob,I.ok.blt,I.ok.above,I.ok.inj,I.ok.has,I.ok.cab,I.ok.hd,I.ok.frames,I.ok.stk,I.ok.exf,I.ok.bs,I.ok.bsz,I.ok.noex,I.ok.exfs,I.ok.funs,I.ok.frf⟩,I.os,I.bare,I.base,I.loc,I.cell,I.free,I.freeC,fun p hp=>I.pin p (by simpa using hp),I.hok,I.len⟩
 have un:∀{E pins' σ H s},Inv (X.tryb (X.pn++pins) E) pins' σ H s->Inv X pins σ H s:=fun {E pins' σ H s} I =>
  ⟨⟨I.ok.mod,I.ok.kind,I.ok.glob,I.ok.blt,I.ok.above,I.ok.inj,I.ok.has,I.ok.cab,I.ok.hd,I.ok.frames,I.ok.stk,I.ok.exf,I.ok.bs,I.ok.bsz,I.ok.noex,I.ok.exfs,I.ok.funs,I.ok.frf⟩,I.os,I.bare,I.base,I.loc,I.cell,I.free,I.freeC,fun p hp=>I.pin p (List.mem_append_left pins' hp),I.hok,I.len⟩
 let XE:Value->Shared->Prop:=fun e s1=>∃σ H s,Inv X pins σ H s/\CXe X.prog X.w X.stack H s (J σ) e s1
 have px:PX (CXe X.prog X.w) (X.tryb (X.pn++pins) XE) J:=fun pins' σ' H' s' e s1 I' h=>⟨σ',H',s',un I',h⟩
 refine wpAny_Try_except (wpAny_mono (hb J _ _ px [] s σ H D (mk I) h1) (fun f s1 hf=>?_) fun e s1 he=>?_)
 .cases f with
  | next =>
   obtain ⟨σ',H',I',q⟩:=hf
   rw [arm_execs_nil]
   exact wpAny_pure ⟨σ',H',un I',q⟩
  | brk =>
   obtain ⟨σ',H',I',q⟩:=hf
   exact ⟨σ',H',un I',q⟩
  | cont =>
   obtain ⟨σ',H',I',q⟩:=hf
   exact ⟨σ',H',un I',q⟩
  | ret u =>
   obtain ⟨v,σ',H',I',r,q⟩:=hf
   exact ⟨v,σ',H',un I',r,q⟩
 .obtain ⟨σ',H',s',I',cx⟩:=he
  refine Ay hst hfm I' cx fun ea C dd H2 T s2 ee I2 hea fly ft hJ=>?_
  subst ee
  obtain ⟨C2,hea2,ht⟩:=h2 σ' ea dd H2 hJ
  exact hh pins s2 σ' H2 ea C2 dd T D I2 hea2 fly ft ht
end
def XR (K:PySem.W.Frag) (O:Addr->Prop) (H:Hp) (ea:Addr) (dd:Option Addr) (d:D):Prop:=∃c ns ds,d=.exc c ns ds/\H ea=some (.ext (XAt ea (aq K c) dd false))/\FV K O H (.ref ea) d
theorem XR.keeps {K:PySem.W.Frag}{O O':Addr->Prop}{H H':Hp}{ea:Addr}{dd:Option Addr}{d:D} (k:aK O H O' H') (h:XR K O H ea dd d):XR K O' H' ea dd d:=by
 obtain ⟨c,ns,ds,rfl,e,f⟩:=h
 have n:¬ O ea:=by cases f with
  | exc0 n _=>exact n
  | exc1 n _ _ _ _ _=>exact n
 exact ⟨c,ns,ds,rfl,(k _ _ n e).2,f.keeps k⟩
def LSX (K:PySem.W.Frag) (E:D->Prop) (Eo:XK) (fs:List Nat) (ts:TS) (ps:PTS):Prop:=∀(fx:List (Nat×V)) (A R:Addr->Prop) (H0:Hp) (ρ:PSt) (σ:St) (H:Hp) (D:rK) (D':og),fx.map Prod.fst=fs->Rel K A ρ σ H->b9 fx R H0 ρ σ H->ps D ρ ->
 (∀ρ' σ' H',D.nx ρ'->Rel K A ρ' σ' H'->b9 fx R H0 ρ' σ' H'->D'.nx σ' H') ->
 (∀v p ρ' σ' H',D.rt p ρ'->Out K A ρ' σ' H0 H' p v->b9 fx R H0 ρ' σ' H'->D'.rt v H') ->
 (∀ρ' σ' H',D.bk ρ'->Rel K A ρ' σ' H'->b9 fx R H0 ρ' σ' H'->D'.bk σ' H') ->
 (∀ρ' σ' H',D.ct ρ'->Rel K A ρ' σ' H'->b9 fx R H0 ρ' σ' H'->D'.ct σ' H') ->
 (∀ρ' σ' H' ea dd d,E d->Rel K A ρ' σ' H'->b9 fx R H0 ρ' σ' H'->H0 ea=none->XR K (OO A ρ' σ') H' ea dd d->Eo (.ref ea) dd H')->ts D' σ H
theorem b9.nn {fx:List (Nat×V)}{R:Addr->Prop}{H0 H:Hp}{ρ:PSt}{σ:St} (F:b9 fx R H0 ρ σ H) {b:Addr} (h:H b=none):H0 b=none:=by
 cases e:H0 b with
 | none=>rfl
 | some o=>exact absurd h (F.dm b (by rw [e];exact nofun))
section
variable {K:PySem.W.Frag}{E:D->Prop}{Eo:XK}{fs:List Nat}{ta tb ts:TS}{pa pb ps:PTS}{te:TE}{pe:PTE}{tt:TT}{pt:PTT}{wi:TI}{pi:PTI}{g:TG}{pg:PTG}
theorem LS.x (h:LS K fs ts ps):LSX K E Eo fs ts ps:=fun fx A R H0 ρ σ H D D' hf r F q k1 k2 k3 k4 _=>h fx A R H0 ρ σ H D D' hf r F q k1 k2 k3 k4
theorem xT (ha:LSX K E Eo fs ta pa) (hb:LSX K E Eo fs tb pb):LSX K E Eo fs (wl ta tb) (aO pa pb):=fun fx A R H0 ρ σ H D D' hf r F q k1 k2 k3 k4 k5 =>
 ha fx A R H0 ρ σ H _ _ hf r F q (fun ρ1 σ1 H1 q1 r1 F1=>hb fx A R H0 ρ1 σ1 H1 _ _ hf r1 F1 q1 k1 k2 k3 k4 k5) k2 k3 k4 k5
theorem xU (ht:LT K tt pt) (ha:LSX K E Eo fs ta pa) (hb:LSX K E Eo fs tb pb):LSX K E Eo fs (ym tt ta tb) (gL pt pa pb):=fun fx A R H0 ρ σ H D D' hf r F q k1 k2 k3 k4 k5=>ht A ρ σ H _ _ r q fun c H1 ρ1 q1 f1 r1=>by
 cases c with
 | true=>exact ha fx A R H0 ρ1 σ H1 D D' hf r1 (F.fr f1) q1 k1 k2 k3 k4 k5
 | false=>exact hb fx A R H0 ρ1 σ H1 D D' hf r1 (F.fr f1) q1 k1 k2 k3 k4 k5
theorem xV (hi:LI K wi pi) (hg:LGd K fs g pg) (hb:LSX K E Eo fs tb pb):LSX K E Eo fs (yo wi g tb) (lL pi pg pb):=fun fx A R H0 ρ σ H D D' hf r F q k1 k2 k3 k4 k5=>hi A ρ σ H _ _ r q fun J H1 n it ρ1 q1 f1 r1 W=>by
 obtain ⟨I,i0,turn,after⟩:=q1
 have F1:=F.fr f1
 refine ⟨fun i m σ' H'=>i + m=n/\∃ρ',I i ρ'/\Rel K A ρ' σ' H'/\b9 fx (Wr ρ1 σ) H1 ρ' σ' H',⟨n,Nat.zero_add n,ρ1,i0,r1,b9.start F1.fx⟩,fun i m σ' H' ⟨him,ρ',iv,r',F'⟩=>?_⟩
 obtain ⟨go,stop⟩:=W _ H' F'.keeps r'.dom2
 by_cases hk:i < n
 .obtain ⟨g1,g2⟩:=go i hk
  refine .inr ⟨g1,fun σ'' H''=>∃ρ'',I (i + 1) ρ''/\Rel K A ρ'' σ'' H''/\b9 fx (Wr ρ1 σ) H1 ρ'' σ'' H'',fun σ'' H'' z=>⟨m - 1,by omega,by omega,z⟩,fun x H'' y=>?_⟩
  obtain ⟨gr,fv⟩:=g2 x H'' y
  refine hg fx A (Wr ρ1 σ) H1 ρ' σ' H'' _ x _ _ hf (F'.fr gr.fr) (r'.gr gr) fv (turn i ρ' _ hk rfl iv) fun ρ2 σ2 q2 r2 F2 _=>?_
  refine hb fx A (Wr ρ1 σ) H1 ρ2 σ2 H'' _ _ hf r2 F2 q2 (fun ρ3 σ3 H3 q3 r3 F3=>⟨ρ3,q3,r3,F3⟩) (fun v p ρ3 σ3 H3 q3 o3 F3=>k2 v p ρ3 σ3 H3 q3 (o3.h0 F1.dm) (F1.trans F3 F3.fx)) (fun ρ3 σ3 H3 q3 r3 F3=>k1 ρ3 σ3 H3 q3 r3 (F1.trans F3 F3.fx)) (fun ρ3 σ3 H3 q3 r3 F3=>⟨ρ3,q3,r3,F3⟩)
   (fun ρ3 σ3 H3 ea dd d q3 r3 F3 n3 x3=>k5 ρ3 σ3 H3 ea dd d q3 r3 (F1.trans F3 F3.fx) (F1.nn n3) x3)
 .have e:i=n:=by omega
  subst e
  exact .inl ⟨stop,k1 ρ' σ' H' (after ρ' iv) r' (F1.trans F' F'.fx)⟩
end
def lX (E:D->Prop) (pe:PTE):PTS:=fun _ ρ=>pe ρ fun p _=>match p with
 | .dat d=>E d
 | _=>False
section
variable {K:PySem.W.Frag}{E:D->Prop}{Eo:XK}{fs:List Nat}{ta:TA}{pa:PTA}{cs:List Str}{c f:Str}
theorem zp {H:Hp}{a:Addr}{o o':HO}:upd (upd H a o) a o'=upd H a o':=by
 funext b
 by_cases z:b=a
 .subst z;rw [au,au]
 .rw [ak z,ak z,ak z]
theorem k8 (X:qk K cs) (hc:c∈cs) (h:LAs K ta pa):LSX K E Eo fs (sX K (xN (aq K c) f ta) (fun _=>Eo)) (lX E (vq c f pa)):=fun fx A R H0 ρ σ H D D' hf r F q k1 k2 k3 k4 k5 =>
 h A ρ σ H _ _ r q fun vs H1 as ρ1 q1 f1 R1 o1=>by
  split at q1
  .rename_i d e1
   have fs:=o1.avD e1
   cases fs with
   | @cons v _ _ _ fv fr =>
    cases fr
    refine ⟨_,rfl,fun e dx he hdx hne=>⟨e,aq K c,aq K "GlueError",some dx,rfl,au,X.c c hc,?_⟩⟩
    rw [zp]
    have he2:upd H1 dx (.xd [(f,v)]) e=none:=by rw [ak (fun z=>hne z.symm)];exact he
    have g1:Gr H1 (upd H1 dx (.xd [(f,v)])):=Gr.new hdx
    have g2:=Gr.new (o:=.ext (XAt e (aq K c) (some dx) false)) he2
    have g:Gr H1 (upd (upd H1 dx (.xd [(f,v)])) e (.ext (XAt e (aq K c) (some dx) false))):=fun b o z=>g2 b o (g1 b o z)
    have F1:=F.fr f1
    exact k5 ρ1 σ _ e _ _ q1 (R1.gr g) (F1.fr g.fr) (F1.nn he) ⟨_,_,_,rfl,au,.exc1 (fs:=[(f,v)]) (fun z=>R1.dom2 e z he) (fun z=>R1.dom2 dx z hdx) au (by rw [ak hne];exact au) rfl (.cons (fv.keeps fun b o n z=>⟨n,g b o z⟩) .nil)⟩
  .exact q1.elim
end
abbrev FX:=List D->(PV->Prop)->(D->Prop)->Prop
def spX (K:PySem.W.Frag) (c:FX):Sp:=fun vs H Q E=>∃(O:Addr->Prop) (ds:List D) (Qc:PV->Prop) (Ec:D->Prop),(∀b,O b->H b≠none)/\FVs K O H vs ds/\c ds Qc Ec/\(∀r,Qc r->∀v H',Gr H H'->lq K O H H' r v->Q v H') /\
 ∀d,Ec d->∀ea dd H',Gr H H'->H ea=none->XR K O H' ea dd d->E (.ref ea) dd H'
section
variable {K:PySem.W.Frag}{tr:TA}{pr:PTA}{ts:XK->TS}{ps:(D->Prop)->PTS}
def tj (c:FX) (pr:PTA):PTE:=fun ρ Q=>pr ρ fun as ρ1=>match avD as with
 | some ds=>c ds (fun r=>Q r ρ1) (fun _=>False)
 | none=>False
theorem sh {c:FX} (h:LAs K tr pr):LE K (qu (spX K c) (fun _=>E0) tr) (tj c pr):=fun A ρ σ H Q Q' R q k=>h A ρ σ H _ _ R q fun vs H1 as ρ1 q1 f1 R1 o1=>by
 split at q1
 .rename_i ds e
  exact ⟨OO A ρ1 σ,ds,_,_,R1.dom2,o1.avD e,q1,fun r qr v H' g ov=>k v H' r ρ1 qr (f1.trans g.fr) ((ov.out R1 g).h0 f1.dm),fun d z=>z.elim⟩
 .exact q1.elim
end
section
variable {K:PySem.W.Frag}{cs:List Str}
theorem gy (X:qk K cs) {c d:Str} (hc:c∈cs) (hd:d∈cs\/d="GlueError"):(Value.ref (aq K c)::.ref (aq K "GlueError")::vmB).contains (.ref (aq K d))=iM c d:=by
 have yd:XCl K d:=hd.elim (X.n d) fun e=>by rw [e];exact X.g
 have rr:∀a b:Addr,(Value.ref a == Value.ref b)=decide (a=b):=fun a b=>by
  by_cases h:a=b
  .subst h;simp
  .rw [decide_eq_false h];exact beq_eq_false_iff_ne.mpr fun z=>h (Value.ref.inj z)
 rw [List.contains_cons,List.contains_cons,rr,rr]
 have t2:vmB.contains (Value.ref (aq K d))=false:=rfl
 rw [t2,Bool.or_false]
 unfold iM
 congr 1
 .by_cases h:c=d
  .subst h;rw [decide_eq_true rfl,decide_eq_true rfl]
  .rw [decide_eq_false h,decide_eq_false fun z=>(X.n c hc).ne yd h z.symm]
 .by_cases h:d="GlueError"
  .subst h;rw [decide_eq_true rfl,decide_eq_true rfl]
  .rw [decide_eq_false h,decide_eq_false (yd.ne X.g h)]
end
section
variable {K:PySem.W.Frag}{A R:Addr->Prop}{fx:List (Nat×V)}{fs:List Nat}{H0 H:Hp}{ρ:PSt}{σ:St}{i:Nat}
theorem fz {j:Nat}{q:PV} (e:(ρ.set i none)[j]?=some (some q)):j≠i/\ρ[j]?=some (some q):=by
 by_cases z:i=j
 .subst z
  by_cases hi:i < ρ.length
  .rw [List.getElem?_set_self hi] at e;cases e
  .rw [List.getElem?_eq_none (by rw [List.length_set];omega)] at e;cases e
 .rw [List.getElem?_set_ne z] at e;exact ⟨fun q=>z q.symm,e⟩
theorem j4 {b:Addr} (h:Wr (ρ.set i none) (σ.set i none) b):Wr ρ σ b:=by
 obtain ⟨j,r,e1,o1,s1⟩:=h
 obtain ⟨n,e⟩:=fz e1
 rw [List.getElem?_set_ne (fun z=>n z.symm)] at s1
 exact ⟨j,r,e,o1,s1⟩
theorem Rel.unset (R1:Rel K A ρ σ H):Rel K A (ρ.set i none) (σ.set i none) H:=by
 have k:aK (OO A ρ σ) H (OO A (ρ.set i none) (σ.set i none)) H:=aK.less fun b z=>z.imp id j4
 refine ⟨by rw [List.length_set,List.length_set];exact R1.len,fun j r e1=>?_,fun j l p1 q1 v' e1 e2 o1 o2 s1 s2=>?_,R1.dom,fun b z w=>R1.sep b z (j4 w)⟩
 .obtain ⟨n,e⟩:=fz e1
  obtain ⟨u,s,r'⟩:=R1.get j r e
  exact ⟨u,by rw [List.getElem?_set_ne (fun z=>n z.symm)];exact s,r'.keeps k fun _ _ _=>rfl⟩
 .obtain ⟨n1,e1⟩:=fz e1
  obtain ⟨n2,e2⟩:=fz e2
  rw [List.getElem?_set_ne (fun z=>n1 z.symm)] at s1
  rw [List.getElem?_set_ne (fun z=>n2 z.symm)] at s2
  exact R1.dj j l p1 q1 v' e1 e2 o1 o2 s1 s2
theorem b9.unset (hf:fx.map Prod.fst=fs) (hi:fs.contains i=false) (F:b9 fx R H0 ρ σ H):b9 fx R H0 (ρ.set i none) (σ.set i none) H :=
 ⟨F.kp,F.dm,fun b w=>F.ow b (j4 w),fun q hq=>by
  have:q.1≠i:=fun z=>by
   have h1:i∈fs:=by rw [<- hf,<- z];exact List.mem_map_of_mem hq
   rw [List.contains_iff_mem.mpr h1] at hi;cases hi
  rw [List.getElem?_set_ne (fun z=>this z.symm)];exact F.fx q hq⟩
end
abbrev PTH:=D->PTS
def LH (K:PySem.W.Frag) (fs:List Nat) (th:THd) (ph:PTH):Prop:=∀(fx:List (Nat×V)) (A R:Addr->Prop) (H0:Hp) (ρ:PSt) (σ:St) (H:Hp) (D:rK) (D':og) (ea:Addr) (dd:Option Addr) (c:Str) (ns:List Str) (ds:List L2.D),fx.map Prod.fst=fs->Rel K A ρ σ H->b9 fx R H0 ρ σ H ->
 H ea=some (.ext (XAt ea (aq K c) dd false))->FV K (OO A ρ σ) H (.ref ea) (.exc c ns ds)->ph (.exc c ns ds) D ρ ->
 (∀ρ' σ' H',D.nx ρ'->Rel K A ρ' σ' H'->b9 fx R H0 ρ' σ' H'->D'.nx σ' H') ->
 (∀v p ρ' σ' H',D.rt p ρ'->Out K A ρ' σ' H0 H' p v->b9 fx R H0 ρ' σ' H'->D'.rt v H') ->
 (∀ρ' σ' H',D.bk ρ'->Rel K A ρ' σ' H'->b9 fx R H0 ρ' σ' H'->D'.bk σ' H') ->
 (∀ρ' σ' H',D.ct ρ'->Rel K A ρ' σ' H'->b9 fx R H0 ρ' σ' H'->D'.ct σ' H')->th ea (aq K c) dd D' σ H
def vx:PTH:=fun _ _ _=>False
def Ad (cs:List Str) (c0:Str) (i:Nat) (pb:PTS) (rest:PTH):PTH:=fun d D ρ=>match d with
 | .exc c _ _=>cs.contains c=true/\gA (iM c c0) (pb { nx:=fun ρ'=>D.nx (ρ'.set i none),bk:=fun ρ'=>D.bk (ρ'.set i none),ct:=fun ρ'=>D.ct (ρ'.set i none),rt:=D.rt } (ρ.set i (some (.dat d)))) (rest d D ρ)
 | _=>False
def zq (cs:List Str) (c0:Str) (pb:PTS) (rest:PTH):PTH:=fun d D ρ=>match d with
 | .exc c _ _=>cs.contains c=true/\gA (iM c c0) (pb D ρ) (rest d D ρ)
 | _=>False
section
variable {K:PySem.W.Frag}{cs:List Str}{fs:List Nat}{ts:TS}{ps:PTS}{tr:THd}{pr:PTH}{c0:Str}{i:Nat}
theorem tm:LH K fs (fun _ _ _ _ _ _=>False) vx:=fun _ _ _ _ _ _ _ _ _ _ _ _ _ _ _ _ _ _ _ h _ _ _ _=>h
theorem zr (X:qk K cs) (h0:c0∈cs\/c0="GlueError") (hi:fs.contains i=false) (hs:LS K fs ts ps) (hr:LH K fs tr pr):LH K fs (hAs K (aq K c0) i ts tr) (Ad cs c0 i ps pr):=fun fx A R H0 ρ σ H D D' ea dd c ns ds hf r F hea fv q k1 k2 k3 k4=>by
 obtain ⟨hc,q⟩:=(show cs.contains c=true/\_ from q)
 have hc:c∈cs:=List.contains_iff_mem.mp hc
 have ek:=gy X hc h0
 refine ⟨aq K "GlueError",X.c c hc,fun e=>?_,fun e=>?_⟩
 .rw [ek] at e
  rw [e] at q
  have o:Out K A ρ σ H0 H (.dat (.exc c ns ds)) (.ref ea):=⟨r,fv⟩
  exact hs fx A R H0 _ _ H _ _ hf (o.put (i:=i)).1 (F.put hf hi o.put.2) q (fun ρ' σ' H' q' r' F'=>k1 _ _ _ q' r'.unset (F'.unset hf hi)) k2 (fun ρ' σ' H' q' r' F'=>k3 _ _ _ q' r'.unset (F'.unset hf hi)) (fun ρ' σ' H' q' r' F'=>k4 _ _ _ q' r'.unset (F'.unset hf hi))
 .rw [ek] at e
  rw [e] at q
  exact hr fx A R H0 ρ σ H D D' ea dd c ns ds hf r F hea fv q k1 k2 k3 k4
theorem xW (X:qk K cs) (h0:c0∈cs\/c0="GlueError") (hs:LS K fs ts ps) (hr:LH K fs tr pr):LH K fs (hNo K (aq K c0) ts tr) (zq cs c0 ps pr):=fun fx A R H0 ρ σ H D D' ea dd c ns ds hf r F hea fv q k1 k2 k3 k4=>by
 obtain ⟨hc,q⟩:=(show cs.contains c=true/\_ from q)
 have hc:c∈cs:=List.contains_iff_mem.mp hc
 have ek:=gy X hc h0
 refine ⟨aq K "GlueError",X.c c hc,fun e=>?_,fun e=>?_⟩
 .rw [ek] at e
  rw [e] at q
  exact hs fx A R H0 _ _ H _ _ hf r F q k1 k2 k3 k4
 .rw [ek] at e
  rw [e] at q
  exact hr fx A R H0 ρ σ H D D' ea dd c ns ds hf r F hea fv q k1 k2 k3 k4
end
def vy (c:FX) (pa:PTA) (ph:PTH):PTS:=fun D ρ=>pa ρ fun as ρ1=>match avD as with
 | some ds=>c ds (fun _=>D.nx ρ1) (fun d=>ph d D ρ1)
 | none=>False
section
variable {P:Program}{w:World}{K:PySem.W.Frag}{mg:Str->Option Value}{base:Heap}{x:Str}{st:Stmt}{N ps:List Str}{k:Nat}{sp:Sp}
theorem b4.okE (D:b4 K mg x st) (S:aI N ps (ah st))
  (hb:∀(kV doc pm:Value) (an:Option Addr) (cdv ct:Value) (us:List Value),us.length=ps.length->bindArgs (PySem.W.fnOf x x (a6 st) (aQ st) (ah st) .none kV doc pm an cdv ct) ⟨us,[]⟩=pure (ps.zip us))
  (len:∀vs H Q E,sp vs H Q E->vs.length=ps.length)
  (hbody:∀(f:Addr) (cdv:Value) (A:Around) (outer:List Env) (s:Shared) (H:Hp) (vs:List V) (Q:VK) (E:XK),c4 k (A.deeper (envOfC x (ah st) s.heap.objs.size f cdv))->sp vs H Q E ->
   ∃t,PSs (kf (CXe P w) P w K mg base N x (ah st) f cdv A outer s H E) (aQ st) t/\t { nx:=fun _ H'=>Q .non H',rt:=Q } (start N vs) H):xR P w K mg base (k + 1) x ps sp:=by
 obtain ⟨f,fd,F,hm⟩:=D.ex
 refine ⟨f,fd,?_,F.binds hb,F.kp,hm⟩
 obtain ⟨oc,od,kV,doc,pm,an,cdv,ct,osl,rfl,lk,hcd⟩:=F.ex
 exact q0 lk hcd S len fun A outer s H vs Q E hr hsp=>hbody f cdv A outer s H vs Q E hr hsp
end
theorem px0 {P:Program}{w:World}{X:Cx}:PX (CXe P w) X (fun _=>E0):=fun pins σ H s e s' I h=>by
 obtain ⟨_,_,_,_,_,_,_,_,_,_,_,_,_,_,z⟩:=h
 exact z.elim
abbrev zt (pp:(D->Prop)->PTS) (n:Nat) (ds:List D) (Q:PV->Prop) (E:D->Prop):Prop:=pp E { nx:=fun _=>Q (.dat .non),rt:=fun p _=>Q p } (bU n (ds.map .dat))
section
variable {K:PySem.W.Frag}{ts:TS}{ps:(D->Prop)->PTS}
theorem Az {c:FX}{n:Nat} (hn:∀ds Q E,c ds Q E->ds.length=n) {vs:List V}{H:Hp}{Q:VK}{E:XK} (h:spX K c vs H Q E):vs.length=n:=by
 obtain ⟨O,ds,Qc,Ec,_,fv,hq,_⟩:=h
 rw [fv.length]
 exact hn ds Qc Ec hq
theorem AA {c:FX}{N:List Str}{vs:List V}{H:Hp}{Q:VK}{E:XK} (hl:∀Ec,LSX K Ec E [] ts (ps Ec)) (hn:∀ds Q E,c ds Q E->ds.length<=N.length) (hc:∀ds Q E,c ds Q E->zt ps N.length ds Q E)
  (h:spX K c vs H Q E):ts { nx:=fun _ H'=>Q .non H',rt:=Q } (start N vs) H:=by
 obtain ⟨O,ds,Qc,Ec,dom,fv,hq,k,kx⟩:=h
 have nw:∀(ρ:PSt) (b:Addr),ρ=bU N.length (ds.map .dat)->¬ Wr ρ (start N vs) b:=fun ρ b e ⟨i,p,e1,o1,s1⟩=>by
  rw [e] at e1
  have:=bW e1
  rw [List.getElem?_map] at this
  cases e2:ds[i]? with
  | none=>rw [e2] at this;cases this
  | some d=>rw [e2] at this;cases this;cases o1
 have lenv:=fv.length
 have hle:=hn ds Qc Ec hq
 have R0:Rel K O (bU N.length (ds.map .dat)) (start N vs) H:=by
  refine ⟨?_,fun i p e=>?_,fun i j p q v e1 e2 o1 o2 s1 s2=>?_,dom,fun b _ w=>nw _ b rfl w⟩
  .unfold bU start
   rw [List.length_append,List.length_append,List.length_map,List.length_map,List.length_map,List.length_replicate,List.length_replicate,lenv]
  .have:=bW e
   rw [List.getElem?_map] at this
   cases e2:ds[i]? with
   | none=>rw [e2] at this;cases this
   | some d =>
    rw [e2] at this;cases this
    obtain ⟨v,hv,f⟩:=fv.getD e2
    exact ⟨v,fm hv,f.keeps (aK.less fun b z=>z.elim id fun w=>absurd w (nw _ b rfl))⟩
  .have:=bW e1
   rw [List.getElem?_map] at this
   cases e3:ds[i]? with
   | none=>rw [e3] at this;cases this
   | some d=>rw [e3] at this;cases this;cases o1
 refine hl Ec [] O (fun _=>False) H _ _ H _ _ rfl R0 ⟨fun _ _ _ h=>h,fun _ h=>h,fun b w=>absurd w (nw _ b rfl),fun p hp=>nomatch hp⟩ (hc ds Qc Ec hq) (fun ρ' σ' H' q r F=>?_) (fun v p ρ' σ' H' q o F=>?_) (fun _ _ _ z=>z.elim) (fun _ _ _ z=>z.elim) (fun ρ' σ' H' ea dd d q r F n x=>?_)
 .exact k _ q .non H' (fun b o e=>F.kp b o id e) .non
 .exact k _ q v H' (fun b o e=>F.kp b o id e) o.outV
 .exact kx d q ea dd H' (fun b o e=>F.kp b o id e) n (x.keeps (aK.less fun b z=>.inl z))
end
theorem xX {X:Cx}{c0 cn n:Str}{np pos:Pos}{b0:Stmt}{suite:List Stmt}{rest:List ExceptHandler}{ts:TS}{tr:THd} (i:Nat) (K:PySem.W.Frag) (ek:X.K=K) (hx:XD K (aq K c0)) (hm:X.mg cn=some (.ref (aq K c0))) (hN:X.N.Nodup) (hi:X.N[i]?=some n) (hk:X.env.scope.names.lookup n=some .local) (hs:∀e,PSs (X.mk' e).nox (b0::suite) ts) (hr:PH X rest tr)
  (hg:Gl X cn:=by rfl) (hdb:(cn == ("__debug__":Str))=false:=by decide):PH X (.ExceptHandler (some (.Name cn np)) (some n) (b0::suite) pos::rest) (hAs K (aq K c0) i ts tr):=zo K ek hx hm hN hi hk hs hr hg hdb
theorem k9:∀{ds:List Addr}{us:List Value},bp (ds.map V.ref) us->us=ds.map Value.ref
 | [],_,.nil=>rfl
 | d::ds,_,.cons (l₂:=us) r rs=>by
  rw [k9 rs]
  cases (show _=Value.ref d from r)
  rfl
def vz (K:PySem.W.Frag):List V->Hp->VK->Prop:=fun xs H Q=>∃a C G dd new p ds b,xs=[.ref a,.ref p]/\H a=some (.ext (XAt a C dd new))/\XC K C G/\H p=some (.tup (List.map V.ref ds))/\PySem.W.kitAny K (.ref C) (List.map Value.ref ds)=some b/\Q (.bl b) H
section
variable {X:Cx}
theorem qw:a9 X (.builtin "isinstance") (vz X.K):=by
 intro pins s σ H xs us Q I r h
 obtain ⟨a,C,G,dd,new,p,ds,b,rfl,ea,c,hp,e,q⟩:=h
 obtain ⟨u,w',rfl,rx,ry⟩:=nh r
 cases (show u=Value.ref a from rx)
 cases (show w'=Value.ref p from ry)
 have ok:=(show aZ X.prog X.w H s.heap a (.ext (XAt a C dd new)) from I.hok a _ ea)
 obtain ⟨its,rv,⟨⟨cls,d1,data,sl⟩,ho,hc,n,hd⟩,_⟩:=I.tuple (SqT.of hp)
 simp only at hc hd
 subst hc hd
 exact PySem.W.kia_tup (j0 c) I.kIn ok.1 ho (by rw [k9 rv];exact e) (fun z=>nomatch z) fun tk=>⟨.bl b,H,I.tok _,rfl,q⟩
theorem tq (K:PySem.W.Frag) (e:X.K=K):a9 X (.builtin "isinstance") (vz K):=by subst e;exact qw
end
def si:List Addr->TA
 | []=>gg
 | a::r=>bg (tC (.ref a)) (si r)
theorem la {σ:St}{H:Hp}:∀{ds:List Addr}{Q:List V->Hp->Prop},Q (ds.map V.ref) H->si ds σ H Q
 | [],Q,h=>h
 | d::ds,Q,h=>by
  show si ds σ H fun vs H2=>Q (V.ref d::vs) H2
  exact la h
theorem qx {K:PySem.W.Frag}{cs:List Str} (X:qk K cs) {c:Str} (hc:c∈cs):∀{ds:List Str},(∀d∈ds,d∈cs\/d="GlueError")->PySem.W.kitAny K (.ref (aq K c)) (List.map Value.ref (ds.map (aq K)))=some (ds.any (iM c))
 | [],_=>rfl
 | d::ds,h=>by
  have ih:=qx X hc (ds:=ds) fun x hx=>h x (List.mem_cons_of_mem _ hx)
  show (match PySem.W.kitOne K (.ref (aq K c)) (.ref (aq K d)) with | some true=>some true | some false=>PySem.W.kitAny K (.ref (aq K c)) (List.map Value.ref (ds.map (aq K))) | none=>none)=_
  rw [qm X hc (h d (List.mem_cons_self ..)),List.any_cons]
  cases iM c d with
  | true=>rfl
  | false=>rw [Bool.false_or];exact ih
def vA (cs ds:List Str) (pa:PA1):PTE:=fun ρ Q=>pa ρ fun x ρ1=>match cont ρ1 x with
 | some (.exc c _ _)=>cs.contains c=true/\Q (.dat (.bl (ds.any (iM c)))) ρ1
 | _=>False
section
variable {K:PySem.W.Frag}{te:TE}{pe:PA1}{cs:List Str}
theorem qy (ds:List Str) (X:qk K cs) (hd:ds.all (fun d=>cs.contains d || decide (d="GlueError"))=true) (hz:ds.length<=1000) (h:LA1 K te pe):LE K (tCB (vz K) (bg te (bg (yz (si (ds.map (aq K)))) gg))) (vA cs ds pe):=fun A ρ σ H Q Q' R q k=>h A ρ σ H _ _ R q fun v H1 a ρ1 q1 f1 R1 o1=>by
 split at q1
 .rename_i c ns es e
  obtain ⟨hc,q1⟩:=q1
  have hc:c∈cs:=List.contains_iff_mem.mp hc
  have ek:=qx X hc (ds:=ds) fun d hd'=>by
   have:=List.all_eq_true.mp hd d hd'
   rcases Bool.or_eq_true_iff.mp this with z | z
   .exact .inl (List.contains_iff_mem.mp z)
   .exact .inr (of_decide_eq_true z)
  refine la ⟨by rw [List.length_map,List.length_map];exact Nat.le_trans hz (by decide),fun p hp=>?_⟩
  have g:Gr H1 (upd H1 p (.tup ((ds.map (aq K)).map V.ref))):=Gr.new hp
  have fin:Q' (.bl (ds.any (iM c))) (upd H1 p (.tup ((ds.map (aq K)).map V.ref))):=k _ _ _ ρ1 q1 (f1.trans g.fr) ⟨R1.gr g,.bl _⟩
  cases (R1.cont o1 e).exc with
  | exc0 n1 e1=>exact ⟨_,_,_,_,_,p,_,_,rfl,g _ _ e1,X.c c hc,au,ek,fin⟩
  | exc1 n1 n2 e1 e2 m f=>exact ⟨_,_,_,_,_,p,_,_,rfl,g _ _ e1,X.c c hc,au,ek,fin⟩
 .exact q1.elim
end
theorem qz (d:D):(PV.dat d).d=d:=rfl
theorem qA (ds:List D):(PV.own ds).d=.lst ds:=rfl
theorem qB (c:Str) (ns:List Str) (ds:List D):(PV.ins c ns ds).d=.obj c ns ds:=rfl
theorem xY (ds:List D):mkL false ds=.own ds:=rfl
theorem xZ (ds:List D):mkL true ds=.dat (.tup ds):=rfl
def pkm (ρ:PSt) (j:Nat):Option PV:=match ρ[j]? with
 | some v=>v
 | none=>none
theorem mV (v:Option PV) (r:PSt):pkm (v::r) 0=v:=rfl
theorem mW (v:Option PV) (r:PSt) (n:Nat):pkm (v::r) (n + 1)=pkm r n:=rfl
theorem lb (ρ:PSt):fP [] ρ=[]:=rfl
theorem jn (ix:List (Option Nat)) (ρ:PSt):fP (none::ix) ρ=none::fP ix ρ:=rfl
theorem jo (j:Nat) (ix:List (Option Nat)) (ρ:PSt):fP (some j::ix) ρ=pkm ρ j::fP ix ρ:=rfl
theorem lc (j:Nat) (ix:List (Option Nat)) (ρ:PSt) (t:Option PV) (τ:PSt):e9 (some j::ix) ρ (t::τ)=e9 ix (ρ.set j t) τ:=rfl
theorem lf (ix:List (Option Nat)) (ρ:PSt) (t:Option PV) (τ:PSt):e9 (none::ix) ρ (t::τ)=e9 ix ρ τ:=rfl
theorem mX (ρ τ:PSt):e9 [] ρ τ=ρ:=rfl
theorem vB (a b:List Nat):(!(Builtin.Str.occurrences (S b) (S a) 0 (S b).length 1).isEmpty)=fq a b:=by
 have e:=pD b a 0
 unfold fq
 rw [<- e]
 cases Builtin.Str.occurrences (S b) (S a) 0 (S b).length 1 with
 | nil=>rfl
 | cons k r=>exact (decide_eq_true (by omega:(0:Int)<=(k:Int))).symm
section
variable {X:Cx}{K:PySem.W.Frag}
def Ae (neg:Bool):R2:=fun x y H Q=>∃a b,x=.str (S a)/\y=.str (S b)/\Q (.bl (if neg then !fq a b else fq a b)) H
theorem qC:OpR X (compareOp .NotIn) (Ae true):=by
 intro pins s σ H x y v u Q I rx ry h
 obtain ⟨a,b,rfl,rfl,q⟩:=h
 obtain ⟨t,rfl⟩:=rx
 obtain ⟨t',rfl⟩:=ry
 exact P.notIn_str ⟨.bl _,H,I,rfl,by rw [vB];exact q⟩
def zu (K:PySem.W.Frag) (neg:Bool):R2:=fun x y H Q=>rIn K neg x y H Q\/Ae neg x y H Q
theorem mY (K:PySem.W.Frag) (e:X.K=K):OpR X (compareOp .NotIn) (zu K true):=OpR.or (uB K e) qC
def yl (neg:Bool):F2
 | .str a,.str b,Q=>Q (.dat (.bl (if neg then !fq a b else fq a b)))
 | a,.lst ds,Q=>(a.fl=true/\ds.all D.fl=true)/\Q (.dat (.bl (if neg then !inD a ds else inD a ds)))
 | a,.tup ds,Q=>(a.fl=true/\ds.all D.fl=true)/\Q (.dat (.bl (if neg then !inD a ds else inD a ds)))
 | _,_,_=>False
theorem tu {neg:Bool}:LO K (zu K neg) (yl neg):=by
 intro O H x y a b Q Q' dom fx fy q k
 unfold yl at q
 split at q
 .obtain ⟨rfl,_⟩:=fx.str
  obtain ⟨rfl,_⟩:=fy.str
  exact .inr ⟨_,_,rfl,rfl,k _ H _ q (Gr.refl _) (.bl _)⟩
 .exact .inl (xm O H x y _ _ Q Q' dom fx fy q k)
 .exact .inl (xm O H x y _ _ Q Q' dom fx fy q k)
 .exact q.elim
end
section
variable {X:Cx}{K:PySem.W.Frag}{ta te:TE}{pa:PA1}{pe:PTE}
def LPs (K:PySem.W.Frag) (trs:List (TE×TE)) (ks:List Key) (pr:PTA):Prop:=∀(A:Addr->Prop) (ρ:PSt) (σ:St) (H:Hp) (Q:List AV->PSt->Prop) (Q':List (V×V)->Hp->Prop),Rel K A ρ σ H->pr ρ Q ->
 (∀vs H' as ρ',Q as ρ'->Fr ρ σ H ρ' H'->Rel K A ρ' σ H'->sI K (OO A ρ' σ) σ H' as vs->vs.length=ks.length->Q' ((ks.zip vs).map fun kv=>(kV kv.1,kv.2)) H')->mz trs σ H Q'
theorem vC:LPs K [] [] am:=fun A ρ σ H Q Q' R q k=>k [] H [] ρ q (Fr.refl _ _ _) R .nil rfl
theorem sj {tv:TE}{pv:PA1}{trs:List (TE×TE)}{ks:List Key}{pr:PTA} (kk:Key) (hv:LA1 K tv pv) (hr:LPs K trs ks pr):LPs K ((tC (kV kk),tv)::trs) (kk::ks) (af pv pr):=fun A ρ σ H Q Q' R q k =>
 hv A ρ σ H _ _ R q fun v H1 a ρ1 q1 f1 R1 o1=>hr A ρ1 σ H1 _ _ R1 q1 fun vs H2 as ρ2 q2 f2 R2 o2 l2=>k (v::vs) H2 _ ρ2 q2 (f1.trans f2) R2 (.cons (o1.keeps f2.keeps) o2) (by rw [List.length_cons,l2];rfl)
theorem vD {kvs:List (Key×V)}{k:Key}{v:V} (h:k∉kvs.map Prod.fst):pE kvs k v=kvs++[(k,v)]:=by
 unfold pE
 rw [if_neg]
 intro z
 obtain ⟨a,m,e⟩:=List.any_eq_true.mp z
 exact h (List.mem_map.mpr ⟨a,m,of_decide_eq_true e⟩)
theorem lg:∀(kvs acc:List (Key×V)),((acc++kvs).map Prod.fst).Nodup->gm acc kvs=acc++kvs
 | [],acc,_=>by show acc=_;rw [List.append_nil]
 | kv::r,acc,h=>by
  show gm (pE acc kv.1 kv.2) r=_
  have hn:kv.1∉acc.map Prod.fst:=fun m=>by
   rw [List.map_append,List.map_cons] at h
   exact (List.nodup_append.mp h).2.2 _ m _ (List.mem_cons_self ..) rfl
  rw [vD hn,lg r _ (by rw [List.append_assoc];exact h),List.append_assoc];rfl
def x0 (ks:List Key) (pr:PTA):PTE:=fun ρ Q=>pr ρ fun as ρ1=>match avD as with
 | some ds=>Q (.dat (.dic ks ds)) ρ1
 | none=>False
theorem vE {trs:List (TE×TE)}{ks:List Key}{pr:PTA} (hn:ks.Nodup) (h15:ks.length<=15) (h:LPs K trs ks pr):LE K (w9 trs) (x0 ks pr):=fun A ρ σ H Q Q' R q k=>fun p hp=>by
 have R1:Rel K (cH A p) ρ σ (upd H p (.dK [])):=R.grA (Gr.new hp) hp (by rw [au];exact nofun)
 refine h (cH A p) ρ σ _ _ _ R1 q fun vs H2 as ρ2 q2 f2 R2 o2 l2=>?_
 split at q2
 .rename_i ds ed
  have e2:H2 p=some (.dK []):=f2.kp p _ (R1.sep p (.inr rfl)) au
  have fv:=o2.avD ed
  have m1:(ks.zip vs).map Prod.fst=ks:=List.map_fst_zip (by omega)
  have m2:(ks.zip vs).map Prod.snd=vs:=List.map_snd_zip (by omega)
  have em:gm [] (ks.zip vs)=ks.zip vs:=by
   rw [lg _ _ (by rw [List.nil_append,m1];exact hn),List.nil_append]
  refine ⟨e2,ks.zip vs,rfl,by rw [List.length_zip];omega,?_⟩
  rw [em]
  have fr:Fr ρ σ H ρ2 (upd H2 p (.dK (ks.zip vs))):=⟨fun b o n e=>by
   have nb:b≠p:=aD e hp
   rw [ak nb]
   exact f2.kp b o n (by rw [ak nb];exact e),fun b e=>by
   by_cases z:b=p
   .rw [z,au];exact nofun
   .rw [ak z]
    exact f2.dm b (by rw [ak z];exact e),f2.ow⟩
  have np:¬ OO A ρ2 σ p:=fun z=>z.elim (fun z=>R.dom p z hp) fun z=>R2.sep p (.inr rfl) z
  refine k _ _ (.dat (.dic ks ds)) ρ2 q2 fr ⟨(R2.amb (o:=.dK (ks.zip vs)) (.inr rfl)).less fun b z=>.inl z,.dic np au m1 ?_⟩
  rw [m2]
  refine fv.keeps fun b o n e=>⟨fun z=>n (z.imp .inl id),?_⟩
  rw [ak fun z=>n (.inl (.inr z))];exact e
 .exact q2.elim
end
section
variable {X:Cx}{K:PySem.W.Frag}
def tw (K:PySem.W.Frag):R2:=fun x y H Q=>∃a b ys,x=.ref a/\y=.ref b/\SqT K H a []/\SqT K H b ys/\Q (.ref b) H
theorem sk:OpR X (binaryOp .Add) (tw X.K):=by
 intro pins s σ H x y v u Q I rx ry h
 obtain ⟨a,b,ys,rfl,rfl,ha,hb,q⟩:=h
 cases rx
 cases ry
 obtain ⟨its,r1,p1,_⟩:=I.tuple ha
 obtain ⟨its2,r2,p2,_⟩:=I.tuple hb
 have e0:its=[]:=r1.nil_iff.mpr rfl
 subst e0
 obtain ⟨⟨cls,dd,data,sl⟩,ho,hc,n,hd⟩:=id p1
 obtain ⟨⟨cls2,dd2,data2,sl2⟩,ho2,hc2,n2,hd2⟩:=id p2
 simp only at hc hd hc2 hd2
 subst hc hd hc2 hd2
 exact concat_meets ⟨_,ho,rfl⟩ ⟨_,ho2,rfl⟩ noFill_tuple_add seq_tuple_add PySem.F.slot_tuple_add PySem.F.entry_tuple_add (PySem.F.args_tuple_add_2 _ _) (tuple_addW0 a b _ _ n n2 dd dd2 sl sl2 rfl) ⟨ho,ho2,.ref b,H,I,rfl,q⟩
def sm (K:PySem.W.Frag):R2:=fun x y H Q=>uz K x y H Q\/tw K x y H Q
theorem cv (K:PySem.W.Frag) (e:X.K=K):OpR X (binaryOp .Add) (sm K):=OpR.or (yS K e) (by subst e;exact sk)
def dL:F2
 | .tup a,.tup b,Q=>a.length + b.length<=1000000/\Q (.dat (.tup (a++b)))
 | a,b,Q=>yT a b Q
theorem bI:LO K (sm K) dL:=by
 intro O H x y a b Q Q' dom fx fy q k
 unfold dL at q
 split at q
 .rename_i Q ds es
  cases ds with
  | cons d ds=>exact .inl (sJ O H x y _ _ _ Q' dom fx fy ⟨nofun,q⟩ k)
  | nil =>
   obtain ⟨p1,xs1,rfl,n1,e1,f1⟩:=fx.tup
   obtain ⟨p2,xs2,rfl,n2,e2,f2⟩:=fy.tup
   cases f1
   exact .inr ⟨p1,p2,xs2,rfl,rfl,SqT.of e1,SqT.of e2,k _ H _ q.2 (Gr.refl _) (.tup n2 e2 f2)⟩
 .exact .inl (sJ O H x y _ _ _ Q' dom fx fy q k)
end
section
variable {X:Cx}
def Af:Expr->Bool
 | .ListComp .. | .SetComp .. | .DictComp ..=>false
 | _=>true
theorem qD {o i e:Expr}{p:Pos}{l:Nat}{env:Env} (h:Af e=true):swapsWithSole [.Subscript o i p] e l env=pure false:=by
 show swapsWith e (some (.Subscript o i p)) l env=pure false
 cases e <;> first | rfl | cases h
theorem lY {o i e:Expr}{p:Pos}{env:Env}:swappedStores [.Subscript o i p] e env=pure none:=rfl
theorem j5 {o i e:Expr}{p:Pos}{te:TE}{g:TG}{pos:Pos} (he:PE X e te) (hg:PG X (.Subscript o i p) g) (hn:Af e=true:=by rfl):PS X (.Assign [.Subscript o i p] e pos) (vN te g) :=
 wp he hg (qD hn) lY rfl
end
def iN (K:PySem.W.Frag) (x:Str) (st:Stmt):Prop:=∃(f:Addr) (oc kV dc pm cd ct:Value) (od an:Option Addr) (sl:Array (Option Value)),PySem.W.nsIn K mainGlobals x=some (some (.ref f)) /\
 K.lookup f=some ⟨oc,od,.func (PySem.W.fnOf x x (a6 st) (aQ st) (ah st) .none kV dc pm an cd ct),sl⟩/\PySem.W.codeIn K cd x=true/\PySem.W.keepIn K (.ref f)=true
theorem x4 {K:PySem.W.Frag}{x:Str}{st:Stmt}{f:Addr}{oc kV dc pm cd ct:Value}{od an:Option Addr}{sl:Array (Option Value)} (a:PySem.W.nsIn K mainGlobals x=some (some (.ref f))) (l:K.lookup f=some ⟨oc,od,.func (PySem.W.fnOf x x (a6 st) (aQ st) (ah st) .none kV dc pm an cd ct),sl⟩)
  (c:PySem.W.codeIn K cd x=true) (k:PySem.W.keepIn K (.ref f)=true):iN K x st:=⟨f,oc,kV,dc,pm,cd,ct,od,an,sl,a,l,c,k⟩
theorem bV {K:PySem.W.Frag}{h:Heap}{mg:Str->Option Value}{x:Str}{st:Stmt} (q:iN K x st) (X:K.In h) (G:h.Ns mainGlobals mg):b4 K mg x st:=by
 obtain ⟨f,oc,kV,dc,pm,cd,ct,od,an,sl,a,l,c,k⟩:=q
 exact .mk' X G a l c k
def tz (C:Addr) (sp:Sp) (J:St->XK) (t:TA):TE:=fun σ H Q=>t σ H fun vs H1=>∀x dx,H1 x=none->H1 dx=none->dx≠x ->
 sp (.ref x::vs) (upd (upd H1 dx (.own x)) x (.ins C dx [])) (fun v H2=>v=.non/\Q (.ref x) H2) (J σ)
structure qE (P:Program) (w:World) (K:PySem.W.Frag) (mg:Str->Option Value) (base:Heap) (k:Nat) (C:Addr) (x:Str) (ps:List Str) (sp:Sp):Prop where
 ex:∃(f:Addr) (fd:FuncData),jb P w K mg base (CXe P w) k f fd ps sp/\fK K fd ps []/\Mk K C f/\mg x=some (.ref C)
section
variable {X:Cx}{k:Nat}{C:Addr}{x:Str}{ps:List Str}{sp:Sp}{p pos:Pos}{e:Expr}{es:List Expr}{t:TA}{J:St->XK}
theorem qF (M:qE X.prog X.w X.K X.mg X.base k C x ps sp) (hr:c4 (k + 1) X.A) (hx:PX (CXe X.prog X.w) X J) (ha:PA X (e::es) t) (hg:Gl X x:=by rfl) (hdb:(x == ("__debug__":Str))=false:=by decide) (hn:nSt e=true:=by rfl) (hp:es.all nSt=true:=by rfl) :
  PE X (.Call (.Name x p) (e::es) [] pos) (tz C sp J t):=by
 obtain ⟨f,fd,F,hb,M,hm⟩:=M.ex
 intro pins s σ H Q I h
 refine wpAny_Call_Name_kw (c5 I hg hm ?_ hdb)
 refine PySem.W.callWith_K (h₀:=X.base) I.ok.mod.kin M.kp (thn (ha pos pins s σ H _ I h) fun us s1 ⟨vs,H1,I1,r,q⟩=>⟨I1.kIn,?_⟩) (cQ hn) (cA hp)
 have hq:=q (s1.heap.objs.size + 1) s1.heap.objs.size (I1.hok.fresh (Nat.le_succ _)) (I1.hok.fresh (Nat.le_refl _)) (Nat.ne_of_lt (Nat.lt_succ_self _))
 have I2:=Inv.made (C:=C) I1
 have r2:bp (V.ref (s1.heap.objs.size + 1)::vs) (Value.ref (s1.heap.objs.size + 1)::us):=.cons rfl r
 have hl:(Value.ref (s1.heap.objs.size + 1)::us).length=ps.length:=by
  have e:=r2.length
  rw [F.len _ _ _ _ hq] at e
  exact e.symm
 have hb2:=hb _ (Value.ref (s1.heap.objs.size + 1)::us) I2.kIn (by rw [List.append_nil];exact hl)
 rw [List.append_nil] at hb2
 refine wpAny_call (mr (f:=f) I1.kIn M.makes M.init (beq_iff_eq.mp M.fn) (codeAny_mono (F.run _ X.stack _ _ ⟨Value.ref (s1.heap.objs.size + 1)::us,[]⟩ (Value.ref (s1.heap.objs.size + 1)::us) _ _ (J σ) (hr.make C us [])
  (I2.env0.make C us []) hb2 r2 hq) fun r s' hq'=>?_))
 cases r with
 | error e=>exact hx pins σ _ _ e s' I2 hq'
 | ok fl =>
  cases fl with
  | ret u =>
   obtain ⟨v,H',I3,rv,ev,q3⟩:=I2.after hq'
   subst ev
   exact ⟨rv,⟨V.ref (s1.heap.objs.size + 1),H',I3,rfl,q3⟩⟩
  | next=>exact False.elim hq'
  | brk=>exact False.elim hq'
  | cont=>exact False.elim hq'
end
def sr (c:FX):FX:=fun ds _ E=>c ds (fun _=>False) E
def spI (K:PySem.W.Frag) (c:FX):Sp:=fun vs H _ E=>∃x ws,vs=V.ref x::ws/\spX K c ws H (fun _ _=>False) E
section
variable {K:PySem.W.Frag}{c:FX}{C x dx:Addr}{H:Hp}{E:XK}{vs:List V}
theorem ss (hx:H x=none) (hd:H dx=none) (hn:dx≠x) (h:spX K (sr c) vs H (fun _ _=>False) E):spX K c vs (upd (upd H dx (.own x)) x (.ins C dx [])) (fun _ _=>False) E:=by
 obtain ⟨O,ds,Qc,Ec,dom,fv,hq,k,kx⟩:=h
 have g1:Gr H (upd H dx (.own x)):=Gr.new hd
 have hx1:upd H dx (.own x) x=none:=by rw [ak (Ne.symm hn)];exact hx
 have g:Gr H (upd (upd H dx (.own x)) x (.ins C dx [])):=fun b o e=>Gr.new hx1 b o (g1 b o e)
 refine ⟨O,ds,fun _=>False,Ec,fun b ob=>?_,fv.keeps fun b o no e=>⟨no,g b o e⟩,hq,fun _ z=>z.elim,fun d z ea dd H' g' n xr=>kx d z ea dd H' (fun b o e=>g' b o (g b o e)) ?_ xr⟩
 .cases e:H b with
  | none=>exact absurd e (dom b ob)
  | some o=>rw [g b o e];exact nofun
 .cases e:H ea with
  | none=>rfl
  | some o=>rw [g ea o e] at n;cases n
theorem qG {fs:List Nat}{ta:TA}{pa:PTA}{th:THd}{ph:PTH} (ha:LAs K ta pa) (hh:LH K fs th ph):LS K fs (Ac (fun J=>wl (qS (tz C (spI K c) J ta)) tR) th) (vy (sr c) pa ph):=fun fx A R H0 ρ σ H D D' hf r F q k1 k2 k3 k4=>by
 refine ⟨fun σ' v dd H'=>∃ρ1 ea d,v=.ref ea/\σ'=σ/\Rel K A ρ1 σ H'/\b9 fx R H0 ρ1 σ H'/\XR K (OO A ρ1 σ) H' ea dd d/\ph d D ρ1,?_,fun σ' ea dd H' ⟨ρ1,ea',d,ev,es,r1,F1,x1,q1⟩=>?_⟩
 .refine ha A ρ σ H _ _ r q fun vs H1 as ρ1 q1 f1 R1 o1=>?_
  split at q1
  .rename_i ds e
   intro x dx hx hd hn
   exact ⟨x,vs,rfl,ss hx hd hn ⟨OO A ρ1 σ,ds,fun _=>False,_,R1.dom2,o1.avD e,q1,fun _ z=>z.elim,fun d qd ea dd H' g n x=>⟨ρ1,ea,d,rfl,rfl,R1.gr g,(F.fr f1).fr g.fr,x,qd⟩⟩⟩
  .exact q1.elim
 .cases ev
  subst es
  obtain ⟨c,ns,ds,rfl,hea,fv⟩:=x1
  exact ⟨_,hea,hh fx A R H0 ρ1 σ' H' D D' ea dd c ns ds hf r1 F1 hea fv q1 k1 k2 k3 k4⟩
theorem vF {X:Cx}{st:List Stmt}:PSs X st sE:=fun _ _ _ _ _ _ h=>h.elim
theorem Ag {Q:VK} (ln:∀ds Q E,c ds Q E->ds.length=1) (h:spI K c vs H Q E):vs.length=2:=by
 obtain ⟨x,ws,rfl,O,ds,Qc,Ec,_,fv,hq,_⟩:=h
 rw [List.length_cons,fv.length,ln _ _ _ hq]
theorem AB {Q:VK}{N:List Str}{D:og} (ln:∀ds Q E,c ds Q E->ds.length=1) (h:spI K c vs H Q E):wl (qS (qu (spX K c) (fun _=>E) (bg (b5 1) gg))) sE D (start N vs) H:=by
 have hl:=Ag ln h
 obtain ⟨x,ws,rfl,h⟩:=h
 obtain ⟨a,rfl⟩:∃a,ws=[a]:=match ws,hl with | [a],_=>⟨a,rfl⟩
 obtain ⟨O,ds,Qc,Ec,dom,fv,hq,k,kx⟩:=h
 exact ⟨a,rfl,O,ds,Qc,Ec,dom,fv,hq,fun r z v H' g o=>(k r z v H' g o).elim,kx⟩
end
section
variable {P:Program}{w:World}{K:PySem.W.Frag}{mg:Str->Option Value}{base:Heap}{x qual:Str}{C:Addr}{st:Stmt}{N ps:List Str}{k:Nat}{sp:Sp}
theorem hG.okI (D:hG K mg C x qual st) (S:aI N ps (ah st))
  (hb:∀(kV doc pm:Value) (an:Option Addr) (cdv ct:Value) (us:List Value),us.length=ps.length->bindArgs (PySem.W.fnOf "__init__" qual (a6 st) (aQ st) (ah st) .none kV doc pm an cdv ct) ⟨us,[]⟩=pure (ps.zip us))
  (len:∀vs H Q E,sp vs H Q E->vs.length=ps.length)
  (hbody:∀(f:Addr) (cdv:Value) (A:Around) (outer:List Env) (s:Shared) (H:Hp) (vs:List V) (Q:VK) (E:XK),c4 k (A.deeper (envOfC qual (ah st) s.heap.objs.size f cdv))->sp vs H Q E ->
   ∃t,PSs (kf (CXe P w) P w K mg base N qual (ah st) f cdv A outer s H E) (aQ st) t/\t { nx:=fun _ H'=>Q .non H',rt:=Q } (start N vs) H):qE P w K mg base (k + 1) C x ps sp:=by
 obtain ⟨f,fd,F,M,hm⟩:=D.ex
 refine ⟨f,fd,?_,F.binds hb,M,hm⟩
 obtain ⟨oc,od,kV,doc,pm,an,cdv,ct,osl,rfl,lk,hcd⟩:=F.ex
 exact q0 lk hcd S len fun A outer s H vs Q E hr hsp=>hbody f cdv A outer s H vs Q E hr hsp
end
theorem c4.un2 {k:Nat}{A:Around} (r:c4 k A):A.units + 200 < cLine:=by have:=r.un;omega
def EqW (P:Program) (w:World) (A:Around) (z:Shared) (u v:Value):Prop:=∀(E:Value->Shared->Prop) (Q:Bool->Shared->Prop),Q true z->wpAny (model P w) A (eqBool u v) Q E z
section
open PySem.AutoSeq1 (wpAny_loadPart')
open PySem.MeetsSeq PySem.MeetsSeq2 PySem.MeetsSeq3
variable {P:Program}{w:World}{A:Around}
theorem su {R:Result->Shared->Prop}{l b:Addr}{xs ys:Array Value}{n m:Nat}{dd dd2:Option Addr}{sl sl2:Array (Option Value)}{z:Shared} (hsz:xs.size=ys.size)
  (hl:z.heap.get? l=some { cls:=.type "list",dict:=dd,data:=.seq xs n,slots:=sl }) (hb:z.heap.get? b=some { cls:=.type "list",dict:=dd2,data:=.seq ys m,slots:=sl2 })
  (he:∀j (h1:j < xs.size) (h2:j < ys.size),EqW P w A.in1 z xs[j] ys[j]) (h:R (.ok (.ret (.bool false))) z) (k:Nat) :
  ∀i:Nat,xs.size - i=k->codeAny (model P w) A (.builtin "list.__eq__.loop" ⟨[.ref l,.ref b,rawInt i,rawInt 3],[]⟩) R z:=by
 induction k with
 | zero =>
  intro i hk
  refine codeAny_builtin entry_eq_loop ?_
  rw [Around.under_plainId plain_eq_loop _]
  obtain ⟨hp,g,d,tk,os⟩:=z
  wp_walk using wpAny_loadPart' hl,wpAny_loadPart' hb
  have hi1:xs[((i:Nat):Int).toNat]?=none:=by simp;omega
  have hi2:ys[((i:Nat):Int).toNat]?=none:=by simp;omega
  rw [hi1,hi2]
  wp_walk using wpAny_loadPart' hl,wpAny_loadPart' hb
  show R (.ok (.ret (.bool (!(xs.size == ys.size))))) _
  rw [hsz]
  simpa using h
 | succ k ih =>
  intro i hk
  refine codeAny_builtin entry_eq_loop ?_
  rw [Around.under_plainId plain_eq_loop _]
  have hlt:i < xs.size:=by omega
  have hlt2:i < ys.size:=by omega
  have hi1:xs[((i:Nat):Int).toNat]?=some xs[i]:=by simp [hlt]
  have hi2:ys[((i:Nat):Int).toNat]?=some ys[i]:=by simp [hlt2]
  have hc:((i:Int) + 1)=((i + 1:Nat):Int):=by push_cast;rfl
  have ihn:=ih (i + 1) (by omega)
  have hei:=he i hlt hlt2
  obtain ⟨hp,g,d,tk,os⟩:=z
  wp_walk using wpAny_loadPart' hl,wpAny_loadPart' hb
  rw [hi1,hi2]
  refine wpAny_bind (hei _ _ ?_)
  wp_walk
  rw [hc]
  exact ⟨plainId_quiet plain_eq_loop _,ihn⟩
theorem sv {l b:Addr}{xs ys:Array Value}{z:Shared}{Q:Value->Shared->Prop}{E:Value->Shared->Prop} (hl:z.heap.IsList l xs) (hb:z.heap.IsList b ys) (hsz:xs.size=ys.size) (hu:A.units < cLine)
  (he:∀j (h1:j < xs.size) (h2:j < ys.size),EqW P w A.in1 z xs[j] ys[j]) (h:Q (.bool false) z):wpAny (model P w) A (compareOp .NotEq (.ref l) (.ref b)) Q E z:=by
 obtain ⟨⟨cls,dd,data,sl⟩,ho,hc,n,hd⟩:=id hl
 obtain ⟨⟨cls2,dd2,data2,sl2⟩,ho2,hc2,n2,hd2⟩:=id hb
 simp only at hc hd hc2 hd2
 subst hc hd hc2 hd2
 have key:=su (R:=fun r s'=>match r with | .ok (.ret v)=>(v≠.notImplemented/\Q v s') | .ok _=>False | .error e=>E e s') hsz ho ho2 he ⟨(fun x=>nomatch x),h⟩ _ 0 rfl
 refine wpAny_richCompare_same_room (op:=.NotEq) ⟨_,ho,rfl⟩ ⟨_,ho2,rfl⟩ F.slot_list_ne ?_ hu
 refine wpAny_call (codeAny_call_builtin F.slot_list_ne.plain F.entry_list_ne (F.slot_list_ne.check _ _ _ _ _ _ _ _ ⟨_,ho,rfl⟩ (F.args_list_ne_2 _ _) ?_))
 have f3:=AutoSeq1.sub_list_list
 have hne:¬ (xs.size != ys.size)=true:=by simp [hsz]
 obtain ⟨hp,g,d,tk,os⟩:=z
 wp_walk using wpAny_loadPart' ho,wpAny_loadPart' ho2
 exact ⟨plainId_quiet plain_eq_loop _,key⟩
end
def tD (K:PySem.W.Frag) (H:Hp) (x y:V):Prop:=(∃d,DV K H x d/\DV K H y d/\SeqAt.shaped d=true) \/
 (∃a b,x=.ref a/\y=.ref b/\H a=some (.dK [])/\H b=some (.dK []))\/∃(a b:Addr) (k:Key) (n:Int),x=.ref a/\y=.ref b/\H a=some (.dK [(k,V.int n)])/\H b=some (.dK [(k,V.int n)])
def Ah (K:PySem.W.Frag):R2:=fun x y H Q=>∃(a b:Addr) (xs ys:List V),x=.ref a/\y=.ref b/\SqL K H a xs/\SqL K H b ys/\xs.length=ys.length/\(∀(i:Nat) (x y:V),xs[i]?=some x->ys[i]?=some y->tD K H x y)/\Q (.bl false) H
section
variable {X:Cx}{K:PySem.W.Frag}
theorem tD.at {pins:List (Addr×Obj)}{σ:St}{H:Hp}{s:Shared}{x y:V}{u v:Value} (I:Inv X pins σ H s) (hu:X.A.units + 200 < cLine) (h:tD X.K H x y) (rx:bR x u) (ry:bR y v):EqW X.prog X.w X.A.in1 s u v:=by
 have hu1:X.A.in1.units + 64 < cLine:=by show X.A.units + 1 + 64 < _;omega
 have hu2:X.A.in1.units < cLine:=by show X.A.units + 1 < _;omega
 have dict:∀{a b:Addr}{ka kb:List (Key×Value)},(a == sysModules)=false->(b == sysModules)=false->s.heap.DictOf (cp X.prog X.w) a ka->s.heap.DictOf (cp X.prog X.w) b kb->ka.length=kb.length->PySem.W.KeqHits X.A.in1.in1 s kb ka true->EqW X.prog X.w X.A.in1 s (.ref a) (.ref b):=fun {a b ka kb} ha hb da db hl hit=>by
  by_cases e:a=b
  .rw [e];exact fun E Q h=>SeqAt.EqAt.same _ _ _ E Q h
  .intro E Q h
   unfold eqBool
   refine wpAny_holding (wpAny_ite_split (fun hab=>absurd (by have:=eq_of_beq hab;injection this) e) fun _=>?_)
   refine wpAny_bind (PySem.W.keq_eq (r:=true) ha hb da db hu2 (fun _=>hit) ?_)
   rw [hl]
   refine wpAny_truthy_bool ?_
   simpa using h
 rcases h with ⟨d,h1,h2,hs⟩ | ⟨a,b,rfl,rfl,h1,h2⟩ | ⟨a,b,k,n,rfl,rfl,h1,h2⟩
 .obtain ⟨as,ra⟩:=DV.reads I h1 rx
  obtain ⟨bs,rb⟩:=DV.reads I h2 ry
  have:=PySem.W.keq_at (A:=X.A) ra rb hs hs hu1
  rw [SeqAt.eqv_refl d (SeqAt.canLay_of_shaped hs)] at this
  exact fun E Q h=>this _ _ E Q h
 .cases rx
  cases ry
  obtain ⟨_,y1,vs,r1,p1⟩:=(show aZ X.prog X.w H s.heap a (.dK []) from I.hok a _ h1)
  obtain ⟨_,y2,ws,r2,p2⟩:=(show aZ X.prog X.w H s.heap b (.dK []) from I.hok b _ h2)
  cases r1
  cases r2
  exact dict y1 y2 p1 p2 rfl .nil
 .cases rx
  cases ry
  obtain ⟨_,y1,vs,r1,p1⟩:=(show aZ X.prog X.w H s.heap a (.dK [(k,V.int n)]) from I.hok a _ h1)
  obtain ⟨_,y2,ws,r2,p2⟩:=(show aZ X.prog X.w H s.heap b (.dK [(k,V.int n)]) from I.hok b _ h2)
  cases r1 with
  | cons q1 t1 =>
   cases t1
   cases r2 with
   | cons q2 t2 =>
    cases t2
    rename_i c1 c2
    obtain ⟨k1,v1⟩:=c1
    obtain ⟨k2,v2⟩:=c2
    obtain ⟨e1,t1,e2⟩:=q1
    obtain ⟨e3,t2,e4⟩:=q2
    simp only at e1 e2 e3 e4
    subst e1 e2 e3 e4
    refine dict y1 y2 p1 p2 rfl ?_
    have hv:valueAt [(k,Value.int n t2)] k=some (.int n t2):=by simp [valueAt]
    have:=PySem.W.KeqHits.hit (A:=X.A.in1.in1) (s:=s) (v:=.int n t1) hv (SeqAt.EqAt.int_int n t1 n t2) .nil
    simpa using this
theorem zv (K:PySem.W.Frag) (e:X.K=K) (hu:X.A.units + 200 < cLine):OpR X (compareOp .NotEq) (Ah K):=by
 subst e
 intro pins s σ H x y v u Q I rx ry ⟨a,b,xs,ys,e1,e2,h1,h2,hl,hs,q⟩
 subst e1 e2
 cases rx
 cases ry
 obtain ⟨i1,r1,p1,_⟩:=I.list h1
 obtain ⟨i2,r2,p2,_⟩:=I.list h2
 have l1:=r1.length
 have l2:=r2.length
 refine sv p1.isList p2.isList (by rw [List.size_toArray,List.size_toArray];omega) (by omega) (fun j j1 j2=>?_) ⟨.bl false,H,I,rfl,q⟩
 rw [List.size_toArray] at j1 j2
 have a1:j < xs.length:=by omega
 have a2:j < ys.length:=by omega
 obtain ⟨u1,g1,w1⟩:=r1.get (List.getElem?_eq_getElem a1)
 obtain ⟨u2,g2,w2⟩:=r2.get (List.getElem?_eq_getElem a2)
 have z1:i1.toArray[j]=u1:=by rw [List.getElem?_eq_getElem j1] at g1;exact Option.some.inj g1
 have z2:i2.toArray[j]=u2:=by rw [List.getElem?_eq_getElem j2] at g2;exact Option.some.inj g2
 rw [z1,z2]
 exact (hs j _ _ (List.getElem?_eq_getElem a1) (List.getElem?_eq_getElem a2)).at I hu w1 w2
def jp:D->Prop
 | .dic ks ds=>(ks=[]/\ds=[])\/∃k n,ks=[k]/\ds=[.int n]
 | d=>Sh d
def zw:F2
 | .lst as,.lst bs,Q=>(as=bs/\∀d∈as,jp d)/\Q (.dat (.bl false))
 | _,_,_=>False
theorem tD.of {O:Addr->Prop}{H:Hp}{x y:V}{d:D} (f:FV K O H x d) (g:FV K O H y d) (h:jp d):tD K H x y:=by
 have pl:Sh d->tD K H x y:=fun h=>.inl ⟨_,f.dv h.1,g.dv h.1,h.2⟩
 cases d with
 | dic ks ds =>
  cases f with
  | @dic a kv1 _ _ _ e1 m1 f1 =>
   cases g with
   | @dic b kv2 _ _ _ e2 m2 g1 =>
    rcases h with ⟨rfl,rfl⟩ | ⟨k,n,rfl,rfl⟩
    .have z1:kv1=[]:=by simpa using m1
     have z2:kv2=[]:=by simpa using m2
     subst z1 z2
     exact .inr (.inl ⟨_,_,rfl,rfl,e1,e2⟩)
    .have one:∀kv:List (Key×V),kv.map Prod.fst=[k]->FVs K O H (kv.map Prod.snd) [.int n]->kv=[(k,V.int n)]:=fun kv m f=>by
      match kv,m,f with
      | [(a,b)],m,f =>
       cases f with
       | cons p _=>cases p;simp at m;rw [m]
     have z1:=one kv1 m1 f1
     have z2:=one kv2 m2 g1
     subst z1 z2
     exact .inr (.inr ⟨_,_,k,n,rfl,rfl,e1,e2⟩)
 | non=>exact pl h
 | bl b=>exact pl h
 | int i=>exact pl h
 | str l=>exact pl h
 | ty n=>exact pl h
 | lst ds=>exact pl h
 | tup ds=>exact pl h
 | scr ns=>exact pl h
 | obj c ns ds=>exact pl h
 | exc c ns ds=>exact pl h
theorem x5 {O:Addr->Prop}{H:Hp}:∀{xs ys:List V}{ds:List D},FVs K O H xs ds->FVs K O H ys ds->(∀d∈ds,jp d)->∀(i:Nat) (x y:V),xs[i]?=some x->ys[i]?=some y->tD K H x y
 | _,_,_,.nil,.nil,_,i,_,_,e,_=>by simp at e
 | _,_,_,.cons a as,.cons b bs,h,0,_,_,e1,e2=>by
  simp at e1 e2
  subst e1 e2
  exact tD.of a b (h _ List.mem_cons_self)
 | _,_,_,.cons a as,.cons b bs,h,i + 1,x,y,e1,e2=>x5 as bs (fun d hd=>h d (List.mem_cons_of_mem _ hd)) i x y (by simpa using e1) (by simpa using e2)
theorem x6:LO K (Ah K) zw:=by
 intro O H x y a b Q Q' dom fx fy q k
 unfold zw at q
 split at q
 .obtain ⟨⟨rfl,hs⟩,q⟩:=q
  obtain ⟨p1,xs,rfl,e1,f1⟩:=fx.lst
  obtain ⟨p2,ys,rfl,e2,f2⟩:=fy.lst
  exact ⟨p1,p2,xs,ys,rfl,rfl,SqL.of e1,SqL.of e2,f1.length.trans f2.length.symm,x5 f1 f2 hs,k _ H _ q (Gr.refl _) (.bl _)⟩
 .exact q.elim
end
end L2
namespace K14
open PySem PySem.Spec PyProof.Rows L2
def top (i:Nat):Stmt:=PySem.Challenge.pw_shortglue_k14_family_refused.main.body.getD i (.Pass ⟨0,0,0,0⟩)
abbrev c3:Stmt:=top 17
abbrev dq:Stmt:=top 18
abbrev vG:Stmt:=top 11
abbrev fZ:Stmt:=top 12
abbrev cR:Stmt:=top 20
abbrev cJ:Stmt:=top 21
abbrev ic:Stmt:=top 22
abbrev f7:Stmt:=top 23
abbrev bf:Stmt:=e6 (top 24) 0
abbrev ef:Stmt:=top 26
abbrev f8:Stmt:=top 27
abbrev dr:Stmt:=top 28
abbrev f9:Stmt:=top 29
abbrev ie:Stmt:=top 30
abbrev eg:Stmt:=top 31
abbrev ig:Stmt:=top 32
abbrev eh:Stmt:=top 33
abbrev cS:Stmt:=top 34
abbrev cT:Stmt:=top 35
abbrev du:Stmt:=top 36
abbrev ii:Stmt:=top 37
abbrev sw:Stmt:=top 38
theorem nM:aI ["thing","least","most"] ["thing","least","most"] (ah c3):=⟨rfl,rfl,rfl,by decide +kernel,rfl,by decide +kernel,by decide +kernel⟩
theorem iQ:aI ["text","piece"] ["text","piece"] (ah dq):=⟨rfl,rfl,rfl,by decide +kernel,rfl,by decide +kernel,by decide +kernel⟩
theorem tE:aI ["one","other","k"] ["one","other"] (ah vG):=⟨rfl,rfl,rfl,by decide +kernel,rfl,by decide +kernel,by decide +kernel⟩
theorem lZ:aI ["words"] ["words"] (ah fZ):=⟨rfl,rfl,rfl,by decide +kernel,rfl,by decide +kernel,by decide +kernel⟩
theorem cK:aI ["things","at","thing"] ["things"] (ah cR):=⟨rfl,rfl,rfl,by decide +kernel,rfl,by decide +kernel,by decide +kernel⟩
theorem gC:aI ["piece","other"] ["piece","other"] (ah cJ):=⟨rfl,rfl,rfl,by decide +kernel,rfl,by decide +kernel,by decide +kernel⟩
theorem gb:aI ["pieces","at","piece","longer"] ["pieces","at"] (ah ic):=⟨rfl,rfl,rfl,by decide +kernel,rfl,by decide +kernel,by decide +kernel⟩
theorem ij:aI ["pieces","kept","at","holder"] ["pieces","kept","at"] (ah f7):=⟨rfl,rfl,rfl,by decide +kernel,rfl,by decide +kernel,by decide +kernel⟩
theorem cU:aI ["self","pieces","indexes"] ["self","pieces"] (ah bf):=⟨rfl,rfl,rfl,by decide +kernel,rfl,by decide +kernel,by decide +kernel⟩
theorem dw:aI ["_law_script","_law_k","_law_cell"] ["_law_script","_law_k"] (ah ef):=⟨rfl,rfl,rfl,by decide +kernel,rfl,by decide +kernel,by decide +kernel⟩
theorem ik:aI ["_law_stream_here","_law_most","_law_digit"] ["_law_stream_here","_law_most"] (ah f8):=⟨rfl,rfl,rfl,by decide +kernel,rfl,by decide +kernel,by decide +kernel⟩
theorem cV:aI ["_law_stream_here","_law_alphabet","_law_way"] ["_law_stream_here"] (ah dr):=⟨rfl,rfl,rfl,by decide +kernel,rfl,by decide +kernel,by decide +kernel⟩
theorem l0:aI ["_law_stream_here","_law_letters_here","_law_most"] ["_law_stream_here","_law_letters_here","_law_most"] (ah f9):=⟨rfl,rfl,rfl,by decide +kernel,rfl,by decide +kernel,by decide +kernel⟩
theorem jq:aI ["_law_stream_here","_law_text","_law_most","_law_at"] ["_law_stream_here","_law_text","_law_most"] (ah ie):=⟨rfl,rfl,rfl,by decide +kernel,rfl,by decide +kernel,by decide +kernel⟩
theorem aR:aI ["_law_stream_here","_law_many","_law_most","_law_letters_here","_law_base","_law_found","_law_k","_law_way","_law_piece"] ["_law_stream_here","_law_many","_law_most"] (ah eg):=⟨rfl,rfl,rfl,by decide +kernel,rfl,by decide +kernel,by decide +kernel⟩
theorem b6:aI ["_law_stream_here","_law_letters_here","_law_way","_law_signs","_law_word_here","_law_at","_law_some"] ["_law_stream_here"] (ah ig):=⟨rfl,rfl,rfl,by decide +kernel,rfl,by decide +kernel,by decide +kernel⟩
theorem cB:aI ["_law_things","_law_caught_here","error"] ["_law_things"] (ah eh):=⟨rfl,rfl,rfl,by decide +kernel,rfl,by decide +kernel,by decide +kernel⟩
theorem ei:aI ["_law_things","_law_at","_law_caught_here"] ["_law_things","_law_at"] (ah cS):=⟨rfl,rfl,rfl,by decide +kernel,rfl,by decide +kernel,by decide +kernel⟩
theorem ej:aI ["_law_things","_law_caught_here"] ["_law_things"] (ah cT):=⟨rfl,rfl,rfl,by decide +kernel,rfl,by decide +kernel,by decide +kernel⟩
theorem iR:aI ["_law_things"] ["_law_things"] (ah du):=⟨rfl,rfl,rfl,by decide +kernel,rfl,by decide +kernel,by decide +kernel⟩
theorem bt:aI ["_law_stream_here","_law_many","_law_pieces_here","_law_things","_law_first","_law_second","_law_handed","_law_k","_law_more"] ["_law_stream_here"] (ah ii):=⟨rfl,rfl,rfl,by decide +kernel,rfl,by decide +kernel,by decide +kernel⟩
theorem tF:aI ["_law_script","_law_k"] ["_law_script"] (ah sw):=⟨rfl,rfl,rfl,by decide +kernel,rfl,by decide +kernel,by decide +kernel⟩
structure Txt (mg:Str->Option Value):Prop where
 b_ValueError:mg "ValueError"=none
 b_abs:mg "abs"=none
 b_all:mg "all"=none
 b_any:mg "any"=none
 b_bool:mg "bool"=none
 b_enumerate:mg "enumerate"=none
 b_int:mg "int"=none
 b_isinstance:mg "isinstance"=none
 b_len:mg "len"=none
 b_list:mg "list"=none
 b_max:mg "max"=none
 b_min:mg "min"=none
 b_range:mg "range"=none
 b_str:mg "str"=none
 b_sum:mg "sum"=none
 b_tuple:mg "tuple"=none
 g_MOST_PIECES:∃t,mg "MOST_PIECES"=some (.int 40 t)
 g_MOST_SIGNS:∃t,mg "MOST_SIGNS"=some (.int 60 t)
abbrev bN:Stmt:=e6 (top 2) 0
theorem il:aI ["self","most"] ["self","most"] (ah bN):=⟨rfl,rfl,rfl,by decide +kernel,rfl,by decide +kernel,by decide +kernel⟩
abbrev bO:Stmt:=e6 (top 3) 0
theorem im:aI ["self","at"] ["self","at"] (ah bO):=⟨rfl,rfl,rfl,by decide +kernel,rfl,by decide +kernel,by decide +kernel⟩
abbrev cm:Stmt:=e6 (top 4) 0
theorem j6:aI ["self","k"] ["self","k"] (ah cm):=⟨rfl,rfl,rfl,by decide +kernel,rfl,by decide +kernel,by decide +kernel⟩
abbrev bP:Stmt:=e6 (top 6) 0
theorem io:aI ["self","at"] ["self","at"] (ah bP):=⟨rfl,rfl,rfl,by decide +kernel,rfl,by decide +kernel,by decide +kernel⟩
abbrev bB:Stmt:=e6 (top 7) 0
theorem gD:aI ["self","most"] ["self","most"] (ah bB):=⟨rfl,rfl,rfl,by decide +kernel,rfl,by decide +kernel,by decide +kernel⟩
abbrev bC:Stmt:=e6 (top 9) 0
theorem gE:aI ["self","at"] ["self","at"] (ah bC):=⟨rfl,rfl,rfl,by decide +kernel,rfl,by decide +kernel,by decide +kernel⟩
abbrev xcs:List Str:=["TooMany","NoPiece","NoLap","NoOrder","NotHeld","TooGreat","NoWords","NotApart"]
abbrev tG:List (Str×Str):=[("TooMany","most"),("NoPiece","at"),("NoLap","k"),("NotHeld","at"),("TooGreat","most"),("NotApart","at")]
structure TxX (K:PySem.W.Frag) (mg:Str->Option Value):Prop where
 all:qk K xcs
 at_:∀c g,(c,g)∈tG->PySem.W.findIn K (.ref (aq K c)) g=some none
 m_TooMany:mg "TooMany"=some (.ref (aq K "TooMany"))
 m_NoPiece:mg "NoPiece"=some (.ref (aq K "NoPiece"))
 m_NoLap:mg "NoLap"=some (.ref (aq K "NoLap"))
 m_NoOrder:mg "NoOrder"=some (.ref (aq K "NoOrder"))
 m_NotHeld:mg "NotHeld"=some (.ref (aq K "NotHeld"))
 m_TooGreat:mg "TooGreat"=some (.ref (aq K "TooGreat"))
 m_NoWords:mg "NoWords"=some (.ref (aq K "NoWords"))
 m_NotApart:mg "NotApart"=some (.ref (aq K "NotApart"))
 m_GlueError:mg "GlueError"=some (.ref (aq K "GlueError"))
 d_TooMany:XD K (aq K "TooMany")
 d_NoPiece:XD K (aq K "NoPiece")
 d_NoLap:XD K (aq K "NoLap")
 d_NoOrder:XD K (aq K "NoOrder")
 d_NotHeld:XD K (aq K "NotHeld")
 d_TooGreat:XD K (aq K "TooGreat")
 d_NoWords:XD K (aq K "NoWords")
 d_NotApart:XD K (aq K "NotApart")
 d_GlueError:XD K (aq K "GlueError")
 z_NoOrder:X0 K (aq K "NoOrder")
 kp_NoOrder:PySem.W.keepIn K (.ref (aq K "NoOrder"))=true
 z_NoWords:X0 K (aq K "NoWords")
 kp_NoWords:PySem.W.keepIn K (.ref (aq K "NoWords"))=true
structure TxC (K:PySem.W.Frag):Prop where
 cl_Family:Cls K (aq K "Family")
 n_Family_pieces:cM K (aq K "Family") "pieces"
 n_Family_kept:cM K (aq K "Family") "kept"
 n_Family_words:cM K (aq K "Family") "words"
 n_Family_left:cM K (aq K "Family") "left"
 n_Family_laps:cM K (aq K "Family") "laps"
 n_Family_total:cM K (aq K "Family") "total"
local macro_rules | `(tactic| walk_at "s")=>`(tactic| first | (with_reducible omega) | (with_reducible assumption) | (with_reducible rfl) | exact Nat.le_of_ble_eq_true rfl | (simp only [List.length_cons,List.length_nil,List.length_append,List.length_map];(with_reducible omega)) | assumption | rfl | (refine ⟨?_,?_⟩ <;> first | (with_reducible omega) | (with_reducible assumption) | (with_reducible rfl) | exact Nat.le_of_ble_eq_true rfl | assumption | rfl | (refine ⟨?_,?_⟩ <;> first | (with_reducible omega) | (with_reducible assumption) | (with_reducible rfl) | exact Nat.le_of_ble_eq_true rfl | assumption | rfl | (refine ⟨?_,?_⟩ <;> first | (with_reducible omega) | (with_reducible assumption) | (with_reducible rfl) | exact Nat.le_of_ble_eq_true rfl | assumption | rfl | fail) | fail) | fail) | omega | fail)
local macro_rules | `(tactic| walk_at "r")=>`(tactic| ((try dsimp only [List.set_cons_zero,List.set_cons_succ,qz,qA,qB,xY,xZ,lb,jn,jo,mV,mW,List.tail_cons,lc,lf,mX]);(conv=>whnf);(repeat (first | ((with_reducible refine And.intro ?_ ?_);(next=>walk_at "s");(conv=>whnf)) | ((with_reducible refine (show Exists _ from ?_));(first | (refine ⟨_,rfl,?_⟩) | (refine ⟨_,n5.lst _,?_⟩) | (refine ⟨_,n5.tup _,?_⟩));(conv=>whnf)) | ((refine (show gA _ _ _ from ?_));(first | (with_reducible refine Aq (by assumption) ?_) | (with_reducible refine Ar (by assumption) ?_) | (with_reducible refine yN (by assumption) ?_) | (with_reducible refine yO (by assumption) ?_) | ((with_reducible refine yL ?_ ?_);(next=>(first | (with_reducible rfl) | (with_reducible assumption) | (with_reducible omega)))) | ((with_reducible refine yM ?_ ?_);(next=>(first | (with_reducible rfl) | (with_reducible assumption) | (with_reducible omega)))) | ((with_reducible refine xc ?_ ?_);(next=>(first | (with_reducible rfl) | (with_reducible assumption) | (with_reducible omega)))) | ((with_reducible refine xf ?_ ?_);(next=>(first | (with_reducible rfl) | (with_reducible assumption) | (with_reducible omega)))));(conv=>whnf))));(try refine (show gA _ _ _ from ?_));(try dsimp only [List.set_cons_zero,List.set_cons_succ,qz,qA,qB,xY,xZ,lb,jn,jo,mV,mW,List.tail_cons,lc,lf,mX])))
def stv (s:Int×Int):PV:=.own [.int s.1,.int s.2]
def SOk:Int×Int->Prop
 | (a,b)=>0<=a/\0<=b/\b < 2 ^ 60
def jr:Nat:=3
def bE:FN
 | [d,.int a,.int b],Q=>d.sort=true/\rT d<=1000000/\Q (.dat (.bl (kg d a b)))
 | _,_=>False
def eR:Nat:=2
def aH:FN
 | [.str a,.str b],Q=>Q (.dat (.int (fnd a b 0)))
 | _,_=>False
def tH:Nat:=3
def dE:FN
 | [.str a,.str b],Q=>(0 < a.length/\a.length<=10000)/\(0 < b.length/\b.length<=10000)/\Q (.dat (.int (p8 a b:Int)))
 | _,_=>False
def ip:Nat:=1
def bh:FN
 | [.tup ds],Q=>∃ws:List (List Nat),ds=ws.map .str/\(ws.length<=1000/\∀w∈ws,0 < w.length/\w.length<=10000)/\Q (.dat (xL ws))
 | _,_=>False
def eo:Nat:=3
def iq (ds:List D) (k:Nat):Prop:=k < ds.length/\(∀j,j < k->kg (itD ds j) 1 60=true)/\kg (itD ds k) 1 60=false
def sx (ds:List D):Prop:=ds.length<=1000/\∀x∈ds,x.sort=true/\rT x<=1000000
def ap:FX
 | [d],Q,E=>∃ds:List D,n5 d ds/\sx ds/\(40 < ds.length->E (.exc "TooMany" ["most"] [.int 40]))/\(ds.length<=40->(∀k:Nat,iq ds k->E (.exc "NoPiece" ["at"] [.int k]))/\((∀k,k < ds.length->kg (itD ds k) 1 60=true)->Q (.dat .non)))
 | _,_,_=>False
def dF:Nat:=2
def ax:FN
 | [.str a,.str b],Q=>Q (.dat (.bl (fq a b)))
 | _,_=>False
def js:Nat:=4
def bn:FN
 | [.tup ds,.int i],Q=>∃ws:List (List Nat),ds=ws.map .str/\(ws.length<=1000/\∀w∈ws,w.length<=10000)/\(0<=i/\i < (ws.length:Int))/\Q (.dat (.bl (eM ws i.toNat)))
 | _,_=>False
def ir:Nat:=4
def a7:FN
 | [.tup ds,.tup ks,.int i],Q=>∃ws:List (List Nat),ds=ws.map .str/\ks=(aC ws).map nD/\(ws.length<=1000/\∀w∈ws,w.length<=60)/\(0<=i/\i < (ws.length:Int))/\Q (.dat (cI ws i.toNat))
 | _,_=>False
def eS:Nat:=3
def aL:FR
 | .ins "Family" [] [],[d],Q=>∃ws:List (List Nat),n5 d (ws.map .str)/\(ws.length<=40/\Pcs 60 ws)/\Q (.dat .non) (.ins "Family" zk (zl ws))
 | _,_,_=>False
def fA:Nat:=3
def aW:FN
 | [.scr ns,.int k],Q=>0<=k/\k<=1000/\∀s:Int×Int,SOk s->Q (stv s)
 | _,_=>False
def iu:Nat:=3
def aj:FR
 | .own [.int c0,.int c1],[.int m],Q=>SOk (c0,c1)/\0 < m/\m<=1000000/\∀(x:Int) (s:Int×Int),SOk s->0<=x->x < m->Q (.dat (.int x)) (stv s)
 | _,_,_=>False
def eT:Nat:=3
def aX:FR
 | .own [.int c0,.int c1],[],Q=>SOk (c0,c1)/\∀(ls:List Nat) (s:Int×Int),SOk s->2<=ls.length->ls.length<=26->Lts ls->Q (.dat (.str ls)) (stv s)
 | _,_,_=>False
def iw:Nat:=3
def aY:FR
 | .own [.int c0,.int c1],[.str ls,.int m],Q=>SOk (c0,c1)/\(0 < ls.length/\ls.length<=26/\Lts ls)/\(0 < m/\m<=10000)/\∀(w:List Nat) (s:Int×Int),SOk s->0 < w.length->w.length<=m.toNat->Lts w->Q (.dat (.str w)) (stv s)
 | _,_,_=>False
def jt:Nat:=4
def bu:FR
 | .own [.int c0,.int c1],[.str t,.int m],Q=>SOk (c0,c1)/\(0 < t.length/\t.length<=100000/\Lts t)/\(0 < m/\m<=10000)/\∀(w:List Nat) (s:Int×Int),SOk s->0 < w.length->w.length<=m.toNat->Lts w->Q (.dat (.str w)) (stv s)
 | _,_,_=>False
def fB:Nat:=9
def a4:FR
 | .own [.int c0,.int c1],[.int n,.int m],Q=>SOk (c0,c1)/\(0<=n/\n<=40)/\(0 < m/\m<=60)/\∀(ps:List (List Nat)) (s:Int×Int),SOk s->ps.length=n.toNat->Pcs m.toNat ps->Q (.dat (.lst (ps.map .str))) (stv s)
 | _,_,_=>False
def ju:Nat:=7
theorem vH {n:Int} (h:0<=n) (c:Nat):kG [c] n=List.replicate n.toNat c:=by
 obtain ⟨k,rfl⟩:∃k:Nat,n=(k:Int):=⟨n.toNat,by omega⟩
 rw [mL,Int.toNat_natCast]
theorem l4 {l:List Nat} (h:∀c∈l,c < 1114112):Sh (.str l):=by
 refine ⟨rfl,?_⟩
 show (PyData.canLay0 (.str (S l)) && decide (PyData.depth (.str (S l))<=64))=true
 rw [Bool.and_eq_true]
 refine ⟨?_,by simp [PyData.depth]⟩
 simp only [PyData.canLay0,PyData.strOk,S]
 rw [Array.all_eq_true]
 intro i hi
 have:=h l[i] (List.getElem_mem _)
 simp only [List.getElem_toArray,decide_eq_true_eq]
 omega
structure x8 (d:D):Prop where
 so:d.sort=true
 ln:rT d<=1000
 od:kg d 1 60=false
 sf:jp d
theorem vI {c n:Nat} (hc:97<=c/\c<=122) (h0:60 < n) (h1:n<=200):x8 (.str (List.replicate n c)):=by
 refine ⟨rfl,by show (List.replicate n c).length<=_;rw [List.length_replicate];omega,?_,l4 fun d hd=>by rw [List.eq_of_mem_replicate hd];omega⟩
 rw [gN,List.length_replicate,decide_eq_false (show ¬ ((n:Int)<=60) by omega),Bool.and_false,Bool.false_and]
theorem vJ {w:List Nat}{c k:Nat} (hw:Lts w) (hl:w.length<=20) (hc:(c < 97\/122 < c)/\c < 1114112):x8 (.str (w.take k++[c]++w.drop k)):=by
 have mem:∀d,d∈w.take k++[c]++w.drop k->(97<=d/\d<=122)\/d=c:=fun d z=>by
  rcases List.mem_append.mp z with z | z
  .rcases List.mem_append.mp z with z | z
   .exact .inl (hw d (List.mem_of_mem_take z))
   .exact .inr (List.mem_singleton.mp z)
  .exact .inl (hw d (List.mem_of_mem_drop z))
 have hc':c∈w.take k++[c]++w.drop k:=List.mem_append_left _ (List.mem_append_right _ (List.mem_singleton.mpr rfl))
 refine ⟨rfl,?_,?_,l4 fun d hd=>?_⟩
 .show (w.take k++[c]++w.drop k).length<=_
  rw [List.length_append,List.length_append,List.length_take,List.length_drop];show _ + 1 + _<=_;omega
 .cases e:kg (.str (w.take k++[c]++w.drop k)) 1 60 with
  | false=>rfl
  | true =>
   have z:=(lQ.mp e).2.2 c hc'
   omega
 .rcases mem d hd with z | z
  .omega
  .rw [z];exact hc.2
abbrev vY:List Nat:=[97,98,99,100,101,102,103,104,105,106,107,108,109,110,111,112,113,114,115,116,117,118,119,120,121,122]
theorem qH:Lts vY:=fS.mp (by decide)
abbrev sgL:List Nat:=[32,33,34,35,36,38,39,40,41,42,43,44,45,46,47,48,49,50,51,52,53,54,55,56,57,58,59,60,61,62,63,64,65,66,67,68,69,70,71,72,73,74,75,76,77,78,79,80,81,82,83,84,85,86,87,88,89,90,91,92,93,94,95,96,123,124,125,126,10]
theorem zx:∀c∈sgL,(c < 97\/122 < c)/\c < 1114112:=by decide
abbrev sy:List D:=[.str [],.non,.bl true,.bl false,.int 0,.int 7,.int 100000000000000000000,.lst [],.lst [.str [97,98]],.tup [.str [97],.str [98]],.dic [] [],.dic [.inr (S [97,98])] [.int 1],.lst [.non],.str [97,98,10],.str [9]]
theorem sA:∀d∈sy,x8 d:=by
 have hs:∀d:D,d.plain=true->SeqAt.shaped d.py=true->Sh d:=fun d a b=>⟨a,b⟩
 have two:∀w:List Nat,(∀c∈w,c < 200)->PyData.strOk (S w)=true:=fun w h=>by
  have z:=(l4 (l:=w) fun c hc=>Nat.lt_of_lt_of_le (h c hc) (by decide)).2
  have z:=(Bool.and_eq_true_iff.mp z).1
  exact z
 intro d hd
 simp only [List.mem_cons,List.not_mem_nil,or_false] at hd
 rcases hd with rfl | rfl | rfl | rfl | rfl | rfl | rfl | rfl | rfl | rfl | rfl | rfl | rfl | rfl | rfl
 .exact ⟨rfl,by decide,rfl,l4 (by decide)⟩
 .exact ⟨rfl,by decide,rfl,hs _ rfl (by decide)⟩
 .exact ⟨rfl,by decide,rfl,hs _ rfl (by decide)⟩
 .exact ⟨rfl,by decide,rfl,hs _ rfl (by decide)⟩
 .exact ⟨rfl,by decide,rfl,hs _ rfl (by decide)⟩
 .exact ⟨rfl,by decide,rfl,hs _ rfl (by decide)⟩
 .exact ⟨rfl,by decide,rfl,hs _ rfl (by decide)⟩
 .exact ⟨rfl,by decide,rfl,hs _ rfl (by decide)⟩
 .exact ⟨rfl,by decide,rfl,Sh.lstS (ws:=[[97,98]]) fun w hw=>by rw [List.mem_singleton.mp hw];exact fS.mp (by decide)⟩
 .exact ⟨rfl,by decide,rfl,Sh.tupS (ws:=[[97],[98]]) fun w hw=>fS.mp (by revert w;decide)⟩
 .exact ⟨rfl,by decide,rfl,.inl ⟨rfl,rfl⟩⟩
 .exact ⟨rfl,by decide,rfl,.inr ⟨_,_,rfl,rfl⟩⟩
 .exact ⟨rfl,by decide,rfl,hs _ rfl (by decide)⟩
 .exact ⟨rfl,by decide,rfl,l4 (by decide)⟩
 .exact ⟨rfl,by decide,rfl,l4 (by decide)⟩
def bv:FR
 | .own [.int c0,.int c1],[],Q=>SOk (c0,c1)/\∀(d:D) (s:Int×Int),SOk s->x8 d->Q (.dat d) (stv s)
 | _,_,_=>False
def fC:Nat:=3
def aN:FN
 | [d],Q=>∃ds:List D,n5 d ds/\sx ds/\(40 < ds.length->Q (.dat (.exc "TooMany" ["most"] [.int 40])))/\(ds.length<=40->∃k:Nat,iq ds k/\Q (.dat (.exc "NoPiece" ["at"] [.int k])))
 | _,_=>False
def et:Nat:=3
def aP:FN
 | [d,.int a],Q=>∃ds:List D,n5 d ds/\sx ds/\ds.length<=40/\∃k:Nat,a=k/\iq ds k/\Q (.dat (.bl true))
 | _,_=>False
def ey:Nat:=2
def aF:FN
 | [d],Q=>∃ds:List D,n5 d ds/\sx ds/\40 < ds.length/\Q (.dat (.bl true))
 | _,_=>False
def eU:Nat:=1
def aM:FN
 | [d],Q=>∃ds:List D,n5 d ds/\sx ds/\(ds.length<=40->∃k:Nat,iq ds k)/\Q (.dat (.bl true))
 | _,_=>False
def jv:Nat:=9
theorem sB {n:Int} (h:0<=n) (u:List Nat):kG [D.str u] n=(List.replicate n.toNat u).map D.str:=by
 obtain ⟨k,rfl⟩:∃k:Nat,n=(k:Int):=⟨n.toNat,by omega⟩
 rw [mL,Int.toNat_natCast,List.map_replicate]
theorem qI {n i:Nat} (h:i < n):ixN n (i:Int)=some i:=by
 unfold ixN
 rw [if_pos (by omega)]
 simp;omega
theorem gc {T:List D}{y j:Nat}{d:D} (hy:y < T.length):itD (T.set y d) j=if j=y then d else itD T j:=by
 unfold itD
 rw [List.getD_eq_getElem?_getD,List.getD_eq_getElem?_getD]
 by_cases h:j=y
 .subst h;rw [if_pos rfl,List.getElem?_set_self hy];rfl
 .rw [if_neg h,List.getElem?_set_ne (fun z=>h z.symm)]
theorem qJ {T:List D}{x:Nat}{d:D} (hx:x < T.length) (ht:∀j,j < T.length->kg (itD T j) 1 60=true) (hd:kg d 1 60=false):iq (T.set x d) x:=by
 refine ⟨by rw [List.length_set];exact hx,fun j hj=>?_,?_⟩
 .rw [gc hx,if_neg (by omega)];exact ht j (by omega)
 .rw [gc hx,if_pos rfl];exact hd
theorem sC {T:List D}{x y:Nat}{d:D} (h:iq T x) (hy:y < T.length) (hd:kg d 1 60=false):iq (T.set y d) (if (y:Int) < (x:Int) then y else x):=by
 obtain ⟨h1,h2,h3⟩:=h
 by_cases c:(y:Int) < (x:Int)
 .rw [if_pos c]
  refine ⟨by rw [List.length_set];exact hy,fun j hj=>?_,?_⟩
  .rw [gc hy,if_neg (by omega)];exact h2 j (by omega)
  .rw [gc hy,if_pos rfl];exact hd
 .rw [if_neg c]
  refine ⟨by rw [List.length_set];exact h1,fun j hj=>?_,?_⟩
  .rw [gc hy]
   by_cases e:j=y
   .omega
   .rw [if_neg e];exact h2 j hj
  .rw [gc hy]
   by_cases e:x=y
   .rw [if_pos e];exact hd
   .rw [if_neg e];exact h3
def okD (T:List D):Prop:=∀d∈T,(d.sort=true/\rT d<=1000)/\jp d
theorem okD.set {T:List D}{y:Nat}{d:D} (h:okD T) (o:x8 d):okD (T.set y d):=fun e he=>by
 rcases List.mem_or_eq_of_mem_set he with z | z
 .exact h e z
 .rw [z];exact ⟨⟨o.so,o.ln⟩,o.sf⟩
theorem okD.strs {ps:List (List Nat)} (h:Pcs 60 ps):okD (ps.map D.str):=fun e he=>by
 obtain ⟨w,hw,rfl⟩:=List.mem_map.mp he
 have hq:=h w hw
 exact ⟨⟨rfl,by show w.length<=_;have:=hq.2.1;omega⟩,l4 fun c hc=>by have:=hq.2.2 c hc;omega⟩
theorem okD.th {T:List D} (h:okD T) (hl:T.length<=1000):sx T:=⟨hl,fun x hx=>⟨(h x hx).1.1,Nat.le_trans (h x hx).1.2 (by decide)⟩⟩
theorem okD.app {T U:List D} (h:okD T) (k:okD U):okD (T++U):=fun d hd=>(List.mem_append.mp hd).elim (h d) (k d)
theorem tI {w:List Nat} (h:w=[97,98]\/w=[98,97]):Pc 60 w:=by
 rcases h with rfl | rfl <;> exact ⟨by decide,by decide,fS.mp (by decide)⟩
theorem qK {w:List Nat} (h:Pc 60 w) (m:Nat):Pcs 60 (List.replicate m w):=fun v hv=>by rw [List.eq_of_mem_replicate hv];exact h
theorem vK {u v:List (List Nat)} (h:Pcs 60 u) (k:Pcs 60 v):Pcs 60 (u++v):=fun w hw=>(List.mem_append.mp hw).elim (h w) (k w)
def bF:FR
 | .own [.int c0,.int c1],[],Q=>SOk (c0,c1)/\∀s:Int×Int,SOk s->Q (.dat (.bl true)) (stv s)
 | _,_,_=>False
def tJ:Nat:=2
abbrev mZ:FN:=zV
def eG:PTS:=(aO (gL (pOr (mC (pB (vT .str (pSl 0)))) (mC (pB (pS fLe fLe (pSl 1) (pFz (pCB jQ (af (pSl 0) am))) (pSl 2))))) (bA (pC (.bl false))) bM) (bA (pCB zb (af (pFz (fQ [none] (hZ (bD 0)) (aB 0) qN (pS fLe fLe (pFz (pC (.str [97]))) (pSl 0) (pFz (pC (.str [122])))))) am))))
theorem l5 (d:D) (a b:Int) (Q:PV->Prop) (h:bE ([d,.int a,.int b]) Q):gv eG jr ([d,.int a,.int b]) Q:=by
 show eG _ [some (.dat (d)),some (.dat (.int a)),some (.dat (.int b))]
 obtain ⟨hd,hl,q⟩:=h
 cases d with
 | str l =>
  have hl:l.length<=1000000:=hl
  walk_at "r"
  refine df (fun c1=>?_) (fun c1=>?_)
  .walk_at "r"
   refine rF (fun c2=>?_) (fun c2=>?_)
   .walk_at "r"
    rw [show kg (.str l) a b=false by rw [gN,decide_eq_false c2,Bool.and_false];rfl] at q
    exact q
   .walk_at "r"
    refine sR (fun τ=>∃v,τ=[v]) (fun k=>.bl (ltB (l.getD k 0))) ?_ ?_ ?_
    .exact ⟨_,rfl⟩
    .rintro k τ _ hk rfl ⟨v,rfl⟩ K1 k1
     walk_at "r"
     refine rF (fun c=>?_) (fun c=>?_)
     .have hc:97<=l.getD k 0:=of_decide_eq_true (by rw [<- lR];rw [decide_eq_false c];rfl)
      walk_at "r"
      show K1 (.bl (!decide (([122]:List Nat) < [l.getD k 0]))) _
      rw [lR]
      rw [show ltB (l.getD k 0)=decide (l.getD k 0<=122) by unfold ltB;rw [decide_eq_true hc];rfl] at k1
      exact k1 _ ⟨_,rfl⟩
     .have hc:¬ 97<=l.getD k 0:=of_decide_eq_false (by rw [<- lR,decide_eq_true c];rfl)
      walk_at "r"
      rw [show ltB (l.getD k 0)=false by unfold ltB;rw [decide_eq_false hc];rfl] at k1
      exact k1 _ ⟨_,rfl⟩
    .rintro τ ⟨v,rfl⟩
     walk_at "r"
     refine ⟨(List.range l.length).map fun k=>ltB (l.getD k 0),by rw [List.map_map];rfl,?_⟩
     have e:kg (.str l) a b=(((List.range l.length).map fun k=>ltB (l.getD k 0)).all id):=by
      rw [gN,decide_eq_true c1,decide_eq_true c2,Bool.and_self,Bool.true_and,dn]
      rw [List.all_map];rfl
     rw [e] at q
     exact q
  .walk_at "r"
   rw [show kg (.str l) a b=false by rw [gN,decide_eq_false c1,Bool.false_and];rfl] at q
   exact q
 | non=>walk_at "r";exact q
 | bl b=>walk_at "r";exact q
 | int i=>walk_at "r";exact q
 | ty n=>cases hd
 | lst ds=>walk_at "r";exact q
 | tup ds=>walk_at "r";exact q
 | scr ns=>cases hd
 | dic ks ds=>walk_at "r";exact q
 | obj c ns ds=>cases hd
 | exc c ns ds=>cases hd
theorem nN:∀ds Q,bE ds Q->gv eG jr ds Q:=fun ds Q h=>by
 unfold bE at h
 split at h
 .exact l5 _ _ _ _ h
 .exact h.elim
def cb:PTS:=(bA (pSM pY (bD 0) (af (pSl 1) am)))
theorem iy (a b:List Nat) (Q:PV->Prop) (h:aH ([.str a,.str b]) Q):gv cb eR ([.str a,.str b]) Q:=by
 show cb _ [some (.dat (.str a)),some (.dat (.str b))]
 walk_at "r"
 exact h
theorem iS:∀ds Q,aH ds Q->gv cb eR ds Q:=fun ds Q h=>by
 unfold aH at h
 split at h
 .exact iy _ _ _ h
 .exact h.elim
def m4:PTS:=(aO (lL (zU (af (pFz (pOp zh (pFz (pCB pW (af (pFz (pCB jQ (af (pSl 0) am))) (af (pFz (pCB jQ (af (pSl 1) am))) am)))) (pFz (pC (.int 1))))) (af (pFz (pC (.int 0))) (af (pFz (pUn zi (pFz (pC (.int 1))))) am)))) (aB 2) (gL (pB (pSM uW (bD 0) (af (pFz (fk (pSl 1) gq (eO (bD 2)))) am))) (bA (bD 2)) bM)) (bA (pC (.int 0))))
theorem vL (a b:List Nat) (Q:PV->Prop) (h:dE ([.str a,.str b]) Q):gv m4 tH ([.str a,.str b]) Q:=by
 show m4 _ [some (.dat (.str a)),some (.dat (.str b)),none]
 obtain ⟨⟨a0,a1⟩,⟨b0,b1⟩,q⟩:=h
 have hm:(if (b.length:Int) < (a.length:Int) then (b.length:Int) else (a.length:Int))=((min a.length b.length:Nat):Int):=by split <;> omega
 walk_at "r"
 refine ⟨fun i ρ=>(∃v2:Option PV,ρ=[some (.dat (.str a)),some (.dat (.str b)),v2])/\∀j,min a.length b.length - i<=j->j < min a.length b.length->¬ b.take j <:+ a,⟨⟨_,rfl⟩,fun j h1 h2=>by omega⟩,?_,?_⟩
 .rintro i ρ d hi ed ⟨⟨v2,rfl⟩,ih⟩
  have hi:i < (((if (b.length:Int) < (a.length:Int) then (b.length:Int) else (a.length:Int)) - 1) - 0).toNat:=hi
  have ed:d=.int (((if (b.length:Int) < (a.length:Int) then (b.length:Int) else (a.length:Int)) - 1) - (i:Int)):=ed
  rw [hm] at hi ed
  obtain ⟨k,hk,hk2⟩:∃k:Nat,(((min a.length b.length:Nat):Int) - 1) - (i:Int)=(k:Int)/\k=min a.length b.length - 1 - i:=⟨min a.length b.length - 1 - i,by omega,rfl⟩
  rw [hk] at ed
  subst ed
  walk_at "r"
  rw [gX]
  refine df (fun c=>?_) (fun c=>?_)
  .walk_at "r"
   rw [show p8 a b=k from p9 ⟨by omega,c,fun j h1 h2=>by
    rcases Nat.lt_or_ge k j with h | h
    .exact absurd h2 (ih j (by omega) h1)
    .exact h⟩] at q
   exact q
  .refine ⟨⟨_,rfl⟩,fun j h1 h2=>?_⟩
   by_cases hj:j=k
   .rw [hj];exact c
   .exact ih j (by omega) h2
 .rintro ρ ⟨⟨v2,rfl⟩,ih⟩
  rw [hm] at ih
  walk_at "r"
  rw [show p8 a b=0 from p9 ⟨by omega,by rw [List.take_zero];exact List.nil_suffix,fun j h1 h2=>by
   rcases Nat.eq_zero_or_pos j with h | h
   .omega
   .exact absurd h2 (ih j (by omega) h1)⟩] at q
  exact q
theorem x9:∀ds Q,dE ds Q->gv m4 tH ds Q:=fun ds Q h=>by
 unfold dE at h
 split at h
 .exact vL _ _ _ h
 .exact h.elim
def dy:PTS:=(bA (pCB dS (af (pFz (fQ [none,some 0] (hZ (bD 0)) (aB 0) qN (pCB dS (af (pFz (fQ [none,some 0] (hZ (bD 1)) (aB 0) qN (cj dE (af (pFz (bD 1)) (af (pFz (bD 0)) am))))) am)))) am)))
theorem lh (ds:List D) (Q:PV->Prop) (h:bh ([.tup ds]) Q):gv dy ip ([.tup ds]) Q:=by
 show dy _ [some (.dat (.tup ds))]
 obtain ⟨ws,rfl,⟨hn,hw⟩,q⟩:=h
 have hlm:(ws.map D.str).length=ws.length:=List.length_map _
 have rr:∀f:List Nat->D,(List.range (ws.map D.str).length).map (fun k=>f (pw ws k))=ws.map f:=fun f=>by
  rw [hlm]
  apply List.ext_getElem?
  intro k
  rw [List.getElem?_map,List.getElem?_map]
  by_cases hk:k < ws.length
  .rw [List.getElem?_range hk,fo hk];rfl
  .rw [List.getElem?_eq_none (by rw [List.length_range];omega),List.getElem?_eq_none (by omega)];rfl
 walk_at "r"
 refine sR (fun τ=>∃v,τ=[v,some (.dat (.tup (ws.map .str)))]) (fun k=>.tup (ws.map fun v=>.int (p8 (pw ws k) v:Int))) ?_ ?_ ?_
 .exact ⟨_,rfl⟩
 .rintro k τ d hk ed ⟨v,rfl⟩ K1 k1
  rw [dW hk] at ed
  subst ed
  have w1:=hw _ (gw (show k < ws.length by omega))
  walk_at "r"
  refine sR (fun τ=>∃v,τ=[v,some (.dat (.str (pw ws k)))]) (fun j=>.int (p8 (pw ws k) (pw ws j):Int)) ?_ ?_ ?_
  .exact ⟨_,rfl⟩
  .rintro j τ d hj ed ⟨v,rfl⟩ K2 k2
   rw [dW hj] at ed
   subst ed
   have w2:=hw _ (gw (show j < ws.length by omega))
   walk_at "r"
   exact k2 _ ⟨_,rfl⟩
  .rintro τ ⟨v,rfl⟩
   rw [rr (fun w=>D.int (p8 (pw ws k) w:Int))]
   walk_at "r"
   exact k1 _ ⟨_,rfl⟩
 .rintro τ ⟨v,rfl⟩
  rw [rr (fun w=>D.tup (ws.map fun v=>.int (p8 w v:Int)))]
  walk_at "r"
  exact q
theorem l6:∀ds Q,bh ds Q->gv dy ip ds Q:=fun ds Q h=>by
 unfold bh at h
 split at h
 .exact lh _ _ h
 .exact h.elim
def bX (E:D->Prop):PTS:=(aO (gL (pB (pOp fGt (pFz (pCB jQ (af (pSl 0) am))) (pFz (pC (.int 40))))) (lX E (vq "TooMany" "most" (af (pFz (pC (.int 40))) am))) bM) (lL (sL (af (pFz (bD 0)) am)) (u4 2 (mE (aB 1) (mE (aB 2) uG))) (gL (mC (pB (sP bE [] (af (pFz (bD 2)) (af (pFz (pC (.int 1))) (af (pFz (pC (.int 60))) am)))))) (lX E (vq "NoPiece" "at" (af (pFz (bD 1)) am))) bM)))
theorem gF (d:D) (Q:PV->Prop) (E:D->Prop) (h:ap ([d]) Q E):zt bX eo ([d]) Q E:=by
 show bX E _ [some (.dat (d)),none,none]
 obtain ⟨ds,hd,⟨hn,hs⟩,he1,he2⟩:=h
 rcases hd with rfl | rfl
 .walk_at "r"
  refine df (fun c=>?_) (fun c=>?_)
  .walk_at "r"
   exact he1 (by omega)
  .obtain ⟨he2,q⟩:=he2 (by omega)
   walk_at "r"
   refine ⟨fun k ρ=>(∃v1 v2:Option PV,ρ=[some (.dat (.lst ds)),v1,v2])/\∀j,j < k->kg (itD ds j) 1 60=true,⟨⟨_,_,rfl⟩,fun j hj=>absurd hj (Nat.not_lt_zero _)⟩,?_,?_⟩
   .rintro k ρ d hk ed ⟨⟨v1,v2,rfl⟩,ih⟩
    have ed:d=.tup [.int k,itD ds k]:=ed
    subst ed
    obtain ⟨gx,gl⟩:=hs _ (p3 hk)
    walk_at "r"
    refine hU (uw (fun c=>?_) (fun c=>?_))
    .refine ⟨⟨_,_,rfl⟩,fun j hj=>?_⟩
     by_cases e:j=k
     .rw [e];exact c
     .exact ih j (by omega)
    .walk_at "r"
     exact he2 k ⟨hk,ih,c⟩
   .rintro ρ ⟨⟨v1,v2,rfl⟩,ih⟩
    exact q ih
 .walk_at "r"
  refine df (fun c=>?_) (fun c=>?_)
  .walk_at "r"
   exact he1 (by omega)
  .obtain ⟨he2,q⟩:=he2 (by omega)
   walk_at "r"
   refine ⟨fun k ρ=>(∃v1 v2:Option PV,ρ=[some (.dat (.tup ds)),v1,v2])/\∀j,j < k->kg (itD ds j) 1 60=true,⟨⟨_,_,rfl⟩,fun j hj=>absurd hj (Nat.not_lt_zero _)⟩,?_,?_⟩
   .rintro k ρ d hk ed ⟨⟨v1,v2,rfl⟩,ih⟩
    have ed:d=.tup [.int k,itD ds k]:=ed
    subst ed
    obtain ⟨gx,gl⟩:=hs _ (p3 hk)
    walk_at "r"
    refine hU (uw (fun c=>?_) (fun c=>?_))
    .refine ⟨⟨_,_,rfl⟩,fun j hj=>?_⟩
     by_cases e:j=k
     .rw [e];exact c
     .exact ih j (by omega)
    .walk_at "r"
     exact he2 k ⟨hk,ih,c⟩
   .rintro ρ ⟨⟨v1,v2,rfl⟩,ih⟩
    exact q ih
theorem iz:∀ds Q E,ap ds Q E->zt bX eo ds Q E:=fun ds Q E h=>by
 unfold ap at h
 split at h
 .exact gF _ _ _ h
 .exact h.elim
def bQ:PTS:=(bA (pOp fGe (pFz (cj aH (af (pFz (bD 1)) (af (pFz (bD 0)) am)))) (pFz (pC (.int 0)))))
theorem gf (a b:List Nat) (Q:PV->Prop) (h:ax ([.str a,.str b]) Q):gv bQ dF ([.str a,.str b]) Q:=by
 show bQ _ [some (.dat (.str a)),some (.dat (.str b))]
 walk_at "r"
 exact h
theorem gG:∀ds Q,ax ds Q->gv bQ dF ds Q:=fun ds Q h=>by
 unfold ax at h
 split at h
 .exact gf _ _ _ h
 .exact h.elim
def eH:PTS:=(aO (br (pOp fIx (pSl 0) (pSl 1)) (aB 2)) (aO (br (fQ [none,some 2] (hZ (bD 0)) (aB 0) (pB (pOp fGt (pFz (pCB jQ (af (pSl 0) am))) (pFz (pCB jQ (af (pSl 1) am))))) (bD 0)) (aB 3)) (bA (lJ (pOp (yl true) (pSl 2) (pFz (fk (pSl 0) gq (eO (bD 1))))) (rH (pCB zc (af (pFz (fQ [none,some 2] (hZ (bD 3)) (aB 0) qN (cj ax (af (pFz (bD 1)) (af (pFz (bD 0)) am))))) am)))))))
theorem l7 (ds:List D) (i:Int) (Q:PV->Prop) (h:bn ([.tup ds,.int i]) Q):gv eH js ([.tup ds,.int i]) Q:=by
 show eH _ [some (.dat (.tup ds)),some (.dat (.int i)),none,none]
 obtain ⟨ws,rfl,⟨hn,hw⟩,hi,q⟩:=h
 obtain ⟨k,rfl⟩:∃k:Nat,i=(k:Int):=⟨i.toNat,by omega⟩
 have hk:k < ws.length:=by omega
 have hlm:(ws.map D.str).length=ws.length:=List.length_map _
 have w1:=hw _ (gw hk)
 walk_at "r"
 refine ⟨_,dX hk rfl,?_⟩
 walk_at "r"
 refine cfm (fun τ=>∃v,τ=[v,some (.dat (.str (pw ws k)))]) (fun j=>if (pw ws k).length < (pw ws j).length then some (.str (pw ws j)) else none) ?_ ?_ ?_
 .exact ⟨_,rfl⟩
 .rintro j τ d hj ed ⟨v,rfl⟩ K1 K2 k1 k2
  rw [dW hj] at ed
  subst ed
  have w2:=hw _ (gw (show j < ws.length by omega))
  walk_at "r"
  refine df (fun c=>?_) (fun c=>?_)
  .walk_at "r"
   exact k1 _ _ (by rw [if_pos (by omega)]) ⟨_,rfl⟩
  .exact k2 _ (by rw [if_neg (by omega)]) ⟨_,rfl⟩
 .rintro τ ⟨v,rfl⟩
  have e1:(List.range (ws.map D.str).length).filterMap (fun j=>if (pw ws k).length < (pw ws j).length then some (D.str (pw ws j)) else none)=(ws.filter fun o=>decide ((pw ws k).length < o.length)).map D.str:=by
   rw [hlm,r8 (fun w=>if (pw ws k).length < w.length then some (D.str w) else none) ws,<- ck]
   congr 1
   funext w
   by_cases h:(pw ws k).length < w.length
   .rw [if_pos h,if_pos (decide_eq_true h)]
   .rw [if_neg h,if_neg (by rw [decide_eq_false h];decide)]
  rw [e1]
  have hll:(ws.filter fun o=>decide ((pw ws k).length < o.length)).length<=ws.length:=List.length_filter_le ..
  generalize hL:(ws.filter fun o=>decide ((pw ws k).length < o.length))=ls at hll ⊢
  have hlm2:(ls.map D.str).length=ls.length:=List.length_map _
  have c1:cW (ws.map D.str) none (some (k:Int))=(ws.take k).map D.str:=by rw [gX,List.map_take]
  have hfl:(cW (ws.map D.str) none (some (k:Int))).all D.fl=true:=by rw [c1];exact vc _
  have hin:inD (.str (pw ws k)) (cW (ws.map D.str) none (some (k:Int)))=decide (pw ws k∈ws.take k):=by rw [c1];exact mR _ _
  have hkb:eM ws k=(!inD (.str (pw ws k)) (cW (ws.map D.str) none (some (k:Int))) && !ls.any fun o=>fq (pw ws k) o):=by
   unfold eM;rw [hin,hL]
  rw [Int.toNat_natCast,hkb] at q
  walk_at "r"
  refine hU (uw (fun c=>?_) (fun c=>?_))
  .walk_at "r"
   have c:inD (.str (pw ws k)) (cW (ws.map D.str) none (some (k:Int)))=true:=c
   rw [c] at q
   exact q
  .have c:inD (.str (pw ws k)) (cW (ws.map D.str) none (some (k:Int)))=false:=c
   rw [c,Bool.not_false,Bool.true_and] at q
   walk_at "r"
   refine sR (fun τ=>∃v,τ=[v,some (.dat (.str (pw ws k)))]) (fun j=>.bl (fq (pw ws k) (pw ls j))) ?_ ?_ ?_
   .exact ⟨_,rfl⟩
   .rintro j τ d hj ed ⟨v,rfl⟩ K1 k1
    rw [dW hj] at ed
    subst ed
    walk_at "r"
    exact k1 _ ⟨_,rfl⟩
   .rintro τ ⟨v,rfl⟩
    walk_at "r"
    refine ⟨ls.map fun o=>fq (pw ws k) o,?_,?_⟩
    .rw [hlm2,List.map_map]
     conv=>rhs;rw [<- mS ls,List.map_map]
     rfl
    .rw [show ((ls.map fun o=>fq (pw ws k) o).any id)=ls.any (fun o=>fq (pw ws k) o) by rw [List.any_map];rfl]
     walk_at "r"
     exact q
theorem nO:∀ds Q,bn ds Q->gv eH js ds Q:=fun ds Q h=>by
 unfold bn at h
 split at h
 .exact l7 _ _ _ h
 .exact h.elim
def dz:PTS:=(aO (br (pCB uQ (af (pFz (fQ [none,some 0,some 2] (hZ (bD 1)) (aB 0) (pB (cj ax (af (pFz (pOp fIx (pSl 1) (pSl 2))) (af (pFz (pOp fIx (pSl 1) (pSl 0))) am)))) (bD 0))) am)) (aB 3)) (bA (yh (af (pFz (bD 2)) (af (pFz (bD 3)) (af (pFz (cj aH (af (pFz (pOp fIx (pSl 0) (pSl 3))) (af (pFz (pOp fIx (pSl 0) (pSl 2))) am)))) am))))))
theorem li (ds ks:List D) (i:Int) (Q:PV->Prop) (h:a7 ([.tup ds,.tup ks,.int i]) Q):gv dz ir ([.tup ds,.tup ks,.int i]) Q:=by
 show dz _ [some (.dat (.tup ds)),some (.dat (.tup ks)),some (.dat (.int i)),none]
 obtain ⟨ws,rfl,rfl,⟨hn,hw⟩,hi,q⟩:=h
 obtain ⟨k,rfl⟩:∃k:Nat,i=(k:Int):=⟨i.toNat,by omega⟩
 have hk:k < ws.length:=by omega
 rw [Int.toNat_natCast] at q
 have hkl:=fV ws
 have hkm:((aC ws).map nD).length=(aC ws).length:=List.length_map _
 walk_at "r"
 refine cfm (fun τ=>∃v,τ=[v,some (.dat (.tup (ws.map .str))),some (.dat (.int (k:Int)))]) (fun j=>if fq (pw ws k) (pw ws ((aC ws).getD j 0))=true then some (nD ((aC ws).getD j 0)) else none) ?_ ?_ ?_
 .exact ⟨_,rfl⟩
 .rintro j τ d hj ed ⟨v,rfl⟩ K1 K2 k1 k2
  have hj2:(aC ws).getD j 0 < ws.length:=dZ (List.mem_of_getElem? (by rw [List.getD_eq_getElem?_getD,List.getElem?_eq_getElem (show j < (aC ws).length by omega)];rfl))
  rw [qc hj] at ed
  subst ed
  generalize (aC ws).getD j 0=z at hj2 k1 k2 ⊢
  walk_at "r"
  refine ⟨_,dX hk rfl,?_⟩
  walk_at "r"
  refine ⟨_,dX hj2 rfl,?_⟩
  walk_at "r"
  cases hc:fq (pw ws k) (pw ws z) with
  | true=>walk_at "r";exact k1 _ _ (by rw [if_pos hc];rfl) ⟨_,rfl⟩
  | false=>walk_at "r";exact k2 _ (by rw [if_neg (by rw [hc];decide)]) ⟨_,rfl⟩
 .rintro τ ⟨v,rfl⟩
  have e1:(List.range ((aC ws).map nD).length).filterMap (fun j=>if fq (pw ws k) (pw ws ((aC ws).getD j 0))=true then some (nD ((aC ws).getD j 0)) else none)=((ia ws k).map fun j=>((j:Nat):Int)).map D.int:=by
   rw [hkm,r9 (fun j=>if fq (pw ws k) (pw ws j)=true then some (nD j) else none) (aC ws),ck (fun j=>fq (pw ws k) (pw ws j)) nD,List.map_map]
   rfl
  rw [e1]
  obtain ⟨h0,hh0⟩:=nL hw hk
  walk_at "r"
  refine ⟨by rw [List.length_map];exact List.length_pos_of_mem hh0,fun m hm hle=>?_⟩
  obtain ⟨z,hz,rfl⟩:=List.mem_map.mp hm
  have hz2:z < ws.length:=dZ (List.mem_filter.mp hz).1
  have hho:mQ ws k=z:=qb hz fun a ha=>by have:=hle _ (List.mem_map_of_mem ha);omega
  walk_at "r"
  refine ⟨_,dX hz2 rfl,?_⟩
  walk_at "r"
  refine ⟨_,dX hk rfl,?_⟩
  walk_at "r"
  unfold cI at q
  rw [hho] at q
  exact q
theorem l8:∀ds Q,a7 ds Q->gv dz ir ds Q:=fun ds Q h=>by
 unfold a7 at h
 split at h
 .exact li _ _ _ _ h
 .exact h.elim
def ce:PTS:=(aO (mG (tj ap (af (pFz (bD 1)) am))) (aO (h8 "Family" [] "pieces" 0 (pCB dS (af (pSl 1) am))) (aO (br (xA false (af (pFz (pCB jQ (af (pFz (nI "Family" ["pieces"] 0 (pSl 0))) am))) am)) (aB 2)) (aO (h8 "Family" ["pieces"] "kept" 0 (pCB dS (af (pFz (fQ [none,some 0] (hZ (bD 2)) (aB 0) (pB (cj bn (af (pFz (nI "Family" ["pieces"] 0 (pSl 1))) (af (pFz (bD 0)) am)))) (bD 0))) am))) (aO (h8 "Family" ["pieces","kept"] "words" 0 (pCB dS (af (pFz (fQ [none,some 0] (hZ (nI "Family" ["pieces","kept"] 1 (pSl 0))) (aB 0) qN (pOp fIx (pFz (nI "Family" ["pieces","kept"] 0 (pSl 1))) (pSl 0)))) am))) (aO (h8 "Family" ["pieces","kept","words"] "left" 0 (pCB dS (af (pFz (fQ [none,some 0] (hZ (bD 2)) (aB 0) (pB (pOp (yl true) (pSl 0) (pFz (nI "Family" ["pieces","kept","words"] 1 (pSl 1))))) (cj a7 (af (pFz (nI "Family" ["pieces","kept","words"] 0 (pSl 1))) (af (pFz (nI "Family" ["pieces","kept","words"] 1 (pSl 1))) (af (pFz (bD 0)) am)))))) am))) (aO (h8 "Family" ["pieces","kept","words","left"] "laps" 0 (cj bh (af (pFz (nI "Family" ["pieces","kept","words","left"] 2 (pSl 0))) am))) (h8 "Family" ["pieces","kept","words","left","laps"] "total" 0 (pCB uR (af (pFz (fQ [none] (hZ (nI "Family" ["pieces","kept","words","left","laps"] 2 (pSl 0))) (aB 0) qN (pCB jQ (af (pSl 0) am)))) am))))))))))
theorem iA (d:D) (Q:PV->PV->Prop) (h:aL (.ins "Family" [] []) ([d]) Q):lu ce eS (.ins "Family" [] []) ([d]) Q:=by
 show ce _ [some (.ins "Family" [] []),some (.dat (d)),none]
 obtain ⟨ws,hd,⟨hn,hp⟩,q⟩:=h
 have hlm:(ws.map D.str).length=ws.length:=List.length_map _
 have hkl:=fV ws
 have hkm:((aC ws).map nD).length=(aC ws).length:=List.length_map _
 have hrl:(nZ 0 (((ws.map D.str).length:Nat):Int).toNat).length=ws.length:=by rw [fW];omega
 have hk1:ws.length<=1000/\∀w∈ws,w.length<=10000:=⟨by omega,fun w hw=>by have:=(hp w hw).2.1;omega⟩
 have hk2:ws.length<=1000/\∀w∈ws,w.length<=60:=⟨by omega,fun w hw=>(hp w hw).2.1⟩
 have hgd:∀k,k < (ws.map D.str).length->kg (itD (ws.map D.str) k) 1 60=true:=fun k hk=>by rw [dW hk];exact lQ.mpr (hp _ (gw (by rw [hlm] at hk;exact hk)))
 walk_at "r"
 refine ⟨ws.map D.str,hd,⟨by omega,fun x hx=>?_⟩,fun z=>by omega,fun _=>⟨fun k hb=>?_,fun _=>?_⟩⟩
 .obtain ⟨w,hw,rfl⟩:=List.mem_map.mp hx
  exact ⟨rfl,by have:=(hp w hw).2.1;show w.length<=_;omega⟩
 .have:=hgd k hb.1
  rw [hb.2.2] at this
  cases this
 rcases hd with rfl | rfl
 .walk_at "r"
  refine cfm (fun τ=>∃v,τ=[v,some (.ins "Family" ["pieces"] [.tup (ws.map .str)])]) (fun j=>if eM ws j=true then some (nD j) else none) ?_ ?_ ?_
  .exact ⟨_,rfl⟩
  .rintro j τ d hj ed ⟨v,rfl⟩ K1 K2 k1 k2
   have hj2:j < ws.length:=by rw [fW] at hj;omega
   rw [jY hj] at ed
   subst ed
   walk_at "r"
   rw [Int.toNat_natCast]
   cases hc:eM ws j with
   | true=>walk_at "r";exact k1 _ _ (by rw [if_pos hc];rfl) ⟨_,rfl⟩
   | false=>walk_at "r";exact k2 _ (by rw [if_neg (by rw [hc];decide)]) ⟨_,rfl⟩
  .rintro τ ⟨v,rfl⟩
   have e1:(List.range (nZ 0 (((ws.map D.str).length:Nat):Int).toNat).length).filterMap (fun j=>if eM ws j=true then some (nD j) else none)=(aC ws).map nD:=by
    rw [fW,hlm,Int.toNat_natCast,ck (eM ws) nD];rfl
   rw [e1]
   walk_at "r"
   refine sR (fun τ=>∃v,τ=[v,some (.ins "Family" ["pieces","kept"] [.tup (ws.map .str),.tup ((aC ws).map nD)])]) (fun k=>.str (pw ws ((aC ws).getD k 0))) ?_ ?_ ?_
   .exact ⟨_,rfl⟩
   .rintro j τ d hj ed ⟨v,rfl⟩ K1 k1
    have hj2:(aC ws).getD j 0 < ws.length:=dZ (List.mem_of_getElem? (by rw [List.getD_eq_getElem?_getD,List.getElem?_eq_getElem (show j < (aC ws).length by omega)];rfl))
    rw [qc hj] at ed
    subst ed
    walk_at "r"
    refine ⟨_,dX hj2 rfl,?_⟩
    walk_at "r"
    exact k1 _ ⟨_,rfl⟩
   .rintro τ ⟨v,rfl⟩
    have e2:(List.range ((aC ws).map nD).length).map (fun k=>D.str (pw ws ((aC ws).getD k 0)))=(bb ws).map D.str:=by
     rw [hkm,dn (fun j=>D.str (pw ws j)) (aC ws)]
     unfold bb
     rw [List.map_map];rfl
    rw [e2]
    have hwl:=jm ws
    have hwm:((bb ws).map D.str).length=(bb ws).length:=List.length_map _
    have hwp:=jl hp
    have hwq:(bb ws).length<=1000/\∀w∈bb ws,0 < w.length/\w.length<=10000:=⟨by omega,fun w hw=>⟨(hwp w hw).1,by have:=(hwp w hw).2.1;omega⟩⟩
    have hfl:((aC ws).map nD).all D.fl=true:=xM _
    walk_at "r"
    refine cfm (fun τ=>∃v,τ=[v,some (.ins "Family" ["pieces","kept","words"] [.tup (ws.map .str),.tup ((aC ws).map nD),.tup ((bb ws).map .str)])]) (fun j=>if (!decide (j∈aC ws))=true then some (cI ws j) else none) ?_ ?_ ?_
    .exact ⟨_,rfl⟩
    .rintro j τ d hj ed ⟨v,rfl⟩ K1 K2 k1 k2
     have hj2:j < ws.length:=by omega
     rw [jY hj] at ed
     subst ed
     have hin:=qe j (aC ws)
     walk_at "r"
     refine hU (uw (fun c=>?_) (fun c=>?_))
     .have c:inD (.int (j:Int)) ((aC ws).map nD)=true:=c
      rw [hin] at c
      exact k2 _ (by rw [c];rfl) ⟨_,rfl⟩
     .have c:inD (.int (j:Int)) ((aC ws).map nD)=false:=c
      rw [hin] at c
      walk_at "r"
      rw [Int.toNat_natCast]
      exact k1 _ _ (by rw [c];rfl) ⟨_,rfl⟩
    .rintro τ ⟨v,rfl⟩
     have e3:(List.range (nZ 0 (((ws.map D.str).length:Nat):Int).toNat).length).filterMap (fun j=>if (!decide (j∈aC ws))=true then some (cI ws j) else none)=(qa ws).map (cI ws):=by
      rw [hrl,ck (fun j=>!decide (j∈aC ws)) (cI ws)];rfl
     rw [e3]
     walk_at "r"
     refine sR (fun τ=>∃v,τ=[v]) (fun k=>.int ((pw (bb ws) k).length:Int)) ?_ ?_ ?_
     .exact ⟨_,rfl⟩
     .rintro j τ d hj ed ⟨v,rfl⟩ K1 k1
      rw [dW hj] at ed
      subst ed
      walk_at "r"
      exact k1 _ ⟨_,rfl⟩
     .rintro τ ⟨v,rfl⟩
      have e4:(List.range ((bb ws).map D.str).length).map (fun k=>D.int ((pw (bb ws) k).length:Int))=((bb ws).map fun w=>(w.length:Int)).map D.int:=by
       rw [hwm,List.map_map]
       conv=>rhs;rw [<- mS (bb ws),List.map_map]
       rfl
      rw [e4]
      walk_at "r"
      exact q
 .walk_at "r"
  refine cfm (fun τ=>∃v,τ=[v,some (.ins "Family" ["pieces"] [.tup (ws.map .str)])]) (fun j=>if eM ws j=true then some (nD j) else none) ?_ ?_ ?_
  .exact ⟨_,rfl⟩
  .rintro j τ d hj ed ⟨v,rfl⟩ K1 K2 k1 k2
   have hj2:j < ws.length:=by rw [fW] at hj;omega
   rw [jY hj] at ed
   subst ed
   walk_at "r"
   rw [Int.toNat_natCast]
   cases hc:eM ws j with
   | true=>walk_at "r";exact k1 _ _ (by rw [if_pos hc];rfl) ⟨_,rfl⟩
   | false=>walk_at "r";exact k2 _ (by rw [if_neg (by rw [hc];decide)]) ⟨_,rfl⟩
  .rintro τ ⟨v,rfl⟩
   have e1:(List.range (nZ 0 (((ws.map D.str).length:Nat):Int).toNat).length).filterMap (fun j=>if eM ws j=true then some (nD j) else none)=(aC ws).map nD:=by
    rw [fW,hlm,Int.toNat_natCast,ck (eM ws) nD];rfl
   rw [e1]
   walk_at "r"
   refine sR (fun τ=>∃v,τ=[v,some (.ins "Family" ["pieces","kept"] [.tup (ws.map .str),.tup ((aC ws).map nD)])]) (fun k=>.str (pw ws ((aC ws).getD k 0))) ?_ ?_ ?_
   .exact ⟨_,rfl⟩
   .rintro j τ d hj ed ⟨v,rfl⟩ K1 k1
    have hj2:(aC ws).getD j 0 < ws.length:=dZ (List.mem_of_getElem? (by rw [List.getD_eq_getElem?_getD,List.getElem?_eq_getElem (show j < (aC ws).length by omega)];rfl))
    rw [qc hj] at ed
    subst ed
    walk_at "r"
    refine ⟨_,dX hj2 rfl,?_⟩
    walk_at "r"
    exact k1 _ ⟨_,rfl⟩
   .rintro τ ⟨v,rfl⟩
    have e2:(List.range ((aC ws).map nD).length).map (fun k=>D.str (pw ws ((aC ws).getD k 0)))=(bb ws).map D.str:=by
     rw [hkm,dn (fun j=>D.str (pw ws j)) (aC ws)]
     unfold bb
     rw [List.map_map];rfl
    rw [e2]
    have hwl:=jm ws
    have hwm:((bb ws).map D.str).length=(bb ws).length:=List.length_map _
    have hwp:=jl hp
    have hwq:(bb ws).length<=1000/\∀w∈bb ws,0 < w.length/\w.length<=10000:=⟨by omega,fun w hw=>⟨(hwp w hw).1,by have:=(hwp w hw).2.1;omega⟩⟩
    have hfl:((aC ws).map nD).all D.fl=true:=xM _
    walk_at "r"
    refine cfm (fun τ=>∃v,τ=[v,some (.ins "Family" ["pieces","kept","words"] [.tup (ws.map .str),.tup ((aC ws).map nD),.tup ((bb ws).map .str)])]) (fun j=>if (!decide (j∈aC ws))=true then some (cI ws j) else none) ?_ ?_ ?_
    .exact ⟨_,rfl⟩
    .rintro j τ d hj ed ⟨v,rfl⟩ K1 K2 k1 k2
     have hj2:j < ws.length:=by omega
     rw [jY hj] at ed
     subst ed
     have hin:=qe j (aC ws)
     walk_at "r"
     refine hU (uw (fun c=>?_) (fun c=>?_))
     .have c:inD (.int (j:Int)) ((aC ws).map nD)=true:=c
      rw [hin] at c
      exact k2 _ (by rw [c];rfl) ⟨_,rfl⟩
     .have c:inD (.int (j:Int)) ((aC ws).map nD)=false:=c
      rw [hin] at c
      walk_at "r"
      rw [Int.toNat_natCast]
      exact k1 _ _ (by rw [c];rfl) ⟨_,rfl⟩
    .rintro τ ⟨v,rfl⟩
     have e3:(List.range (nZ 0 (((ws.map D.str).length:Nat):Int).toNat).length).filterMap (fun j=>if (!decide (j∈aC ws))=true then some (cI ws j) else none)=(qa ws).map (cI ws):=by
      rw [hrl,ck (fun j=>!decide (j∈aC ws)) (cI ws)];rfl
     rw [e3]
     walk_at "r"
     refine sR (fun τ=>∃v,τ=[v]) (fun k=>.int ((pw (bb ws) k).length:Int)) ?_ ?_ ?_
     .exact ⟨_,rfl⟩
     .rintro j τ d hj ed ⟨v,rfl⟩ K1 k1
      rw [dW hj] at ed
      subst ed
      walk_at "r"
      exact k1 _ ⟨_,rfl⟩
     .rintro τ ⟨v,rfl⟩
      have e4:(List.range ((bb ws).map D.str).length).map (fun k=>D.int ((pw (bb ws) k).length:Int))=((bb ws).map fun w=>(w.length:Int)).map D.int:=by
       rw [hwm,List.map_map]
       conv=>rhs;rw [<- mS (bb ws),List.map_map]
       rfl
      rw [e4]
      walk_at "r"
      exact q
theorem iT:∀p ds Q,p.isOwn=true->aL p ds Q->lu ce eS p ds Q:=fun p ds Q _ h=>by
 unfold aL at h
 split at h
 .exact iA _ _ h
 .exact h.elim
def cC:PTS:=(aO (br (pOp dL (pFz (pOp pR (pFz (pOp pR (pSl 1) (pSl 1))) (pFz (pC (.int 7919))))) (pFz (pC (.int 5)))) (aB 2)) (aO (kS (gL (pB (pOp fLt (pSl 1) (pFz (pCB jQ (af (pSl 0) am))))) (br (pCB y8 (af (pFz (pOp fIx (pSl 0) (pSl 1))) am)) (aB 2)) bM)) (bA (rG (af (pFz (bD 2)) (af (pFz (pOp dL (pFz (pOp dL (pFz (pOp uY (pSl 2) (pFz (pC (.int 2147483629))))) (pFz (pOp pR (pSl 1) (pFz (pC (.int 7919))))))) (pFz (pC (.int 1))))) am))))))
theorem iU (ns:List Int) (k:Int) (Q:PV->Prop) (h:aW ([.scr ns,.int k]) Q):gv cC fA ([.scr ns,.int k]) Q:=by
 show cC _ [some (.dat (.scr ns)),some (.dat (.int k)),none]
 obtain ⟨hk0,hk1,q⟩:=h
 have hkk:k * k<=1000 * 1000/\0<=k * k:=⟨Int.mul_le_mul hk1 hk1 hk0 (by decide),Int.mul_nonneg hk0 hk0⟩
 walk_at "r"
 refine ⟨fun ρ=>∃c:Int,ρ=[some (.dat (.scr ns)),some (.dat (.int k)),some (.dat (.int c))]/\0<=c,?_,?_⟩
 .walk_at "r"
  refine df (fun c=>?_) (fun c=>⟨_,rfl,by omega⟩)
  obtain ⟨n,rfl⟩:∃n:Nat,k=(n:Int):=⟨k.toNat,by omega⟩
  have hn:n < ns.length:=by omega
  walk_at "r"
  refine ⟨ns[n],g6 (List.getElem?_eq_getElem hn) rfl,?_⟩
  exact ⟨_,rfl,by split <;> omega⟩
 .rintro ρ ⟨c,rfl,hc⟩
  walk_at "r"
  exact q (c,c % 2147483629 + k * 7919 + 1) ⟨hc,by omega,by omega⟩
theorem j7:∀ds Q,aW ds Q->gv cC fA ds Q:=fun ds Q h=>by
 unfold aW at h
 split at h
 .exact iU _ _ _ h
 .exact h.elim
def dA:PTS:=(aO (gL (pB (pOp fGt (pFz (pOp fIx (pSl 0) (pFz (pC (.int 0))))) (pFz (pC (.int 0))))) (aO (br (pOp uY (pFz (pOp fIx (pSl 0) (pFz (pC (.int 0))))) (pSl 1)) (aB 2)) (aO (kU 0 (pOp Au (pFz (pOp fIx (pSl 0) (pFz (pC (.int 0))))) (pSl 1)) (pC (.int 0))) (bA (bD 2)))) bM) (aO (kU 0 (pOp uY (pFz (pOp dL (pFz (pOp pR (pFz (pOp fIx (pSl 0) (pFz (pC (.int 1))))) (pFz (pC (.int 48271))))) (pFz (pC (.int 12345))))) (pFz (pC (.int 2147483647)))) (pC (.int 1))) (bA (pOp uY (pFz (pOp uY (pFz (pOp pR (pFz (pOp fIx (pSl 0) (pFz (pC (.int 1))))) (pFz (pOp fIx (pSl 0) (pFz (pC (.int 1))))))) (pFz (pC (.int 2147483629))))) (pSl 1)))))
theorem lj (c0 c1 m:Int) (Q:PV->PV->Prop) (h:aj (.own [.int c0,.int c1]) ([.int m]) Q):lu dA iu (.own [.int c0,.int c1]) ([.int m]) Q:=by
 show dA _ [some (.own [.int c0,.int c1]),some (.dat (.int m)),none]
 obtain ⟨⟨g0,g1,g2⟩,hm,hm2,q⟩:=h
 have mod:∀z:Int,0<=z % m/\z % m < m:=fun z=>⟨Int.emod_nonneg z (by omega),Int.emod_lt_of_pos z hm⟩
 walk_at "r"
 refine df (fun c=>?_) (fun c=>?_)
 .walk_at "r"
  exact q _ (_,_) ⟨Int.ediv_nonneg g0 (by omega),g1,g2⟩ (mod c0).1 (mod c0).2
 .have n0:0<=(c1 * 48271 + 12345) % 2147483647:=Int.emod_nonneg _ (by decide)
  have n1:(c1 * 48271 + 12345) % 2147483647 < 2147483647:=Int.emod_lt_of_pos _ (by decide)
  walk_at "r"
  exact q _ (_,_) ⟨g0,n0,by omega⟩ (mod _).1 (mod _).2
theorem l9:∀p ds Q,p.isOwn=true->aj p ds Q->lu dA iu p ds Q:=fun p ds Q _ h=>by
 unfold aj at h
 split at h
 .exact lj _ _ _ _ h
 .exact h.elim
def cf:PTS:=(aO (br (pC (.str [97,98,99,100,101,102,103,104,105,106,107,108,109,110,111,112,113,114,115,116,117,118,119,120,121,122])) (aB 1)) (aO (br (a5 aj 0 (af (pFz (pC (.int 4))) am)) (aB 2)) (aO (gL (pB (pOp nK (pSl 2) (pFz (pC (.int 3))))) (bA (bD 1)) bM) (bA (pSM mO (pC (.str [])) (af (pFz (fQ [none,some 1,some 0] (vU (af (pFz (pOp dL (pFz (pC (.int 2))) (pFz (pOp uY (pSl 2) (pFz (pC (.int 2))))))) am)) (aB 0) qN (pOp fIx (pSl 1) (pFz (a5 aj 2 (af (pFz (pC (.int 26))) am)))))) am))))))
theorem iB (c0 c1:Int) (Q:PV->PV->Prop) (h:aX (.own [.int c0,.int c1]) ([]) Q):lu cf eT (.own [.int c0,.int c1]) ([]) Q:=by
 show cf _ [some (.own [.int c0,.int c1]),none,none]
 obtain ⟨g,q⟩:=h
 walk_at "r"
 intro x s hs hx0 hx1
 walk_at "r"
 refine df (fun c=>?_) (fun c=>?_)
 .walk_at "r"
  exact q _ s hs (by decide) (by decide) (fS.mp (by decide))
 .walk_at "r"
  refine ⟨fun k ys τ=>∃(v:Option PV) (s:Int×Int) (ls:List Nat),τ=[v,some (.dat (.str [97,98,99,100,101,102,103,104,105,106,107,108,109,110,111,112,113,114,115,116,117,118,119,120,121,122])),some (stv s)]/\SOk s/\ys=ls.map (fun c=>.str [c])/\ls.length=k/\Lts ls,⟨none,s,[],rfl,hs,rfl,rfl,Lts.nil⟩,?_,?_⟩
  .rintro k ys τ _ hk rfl ⟨v,⟨a,b⟩,ls,rfl,hs,rfl,hl,hL⟩
   walk_at "r"
   intro z s2 hs2 hz0 hz1
   obtain ⟨j,rfl⟩:∃j:Nat,z=(j:Int):=⟨z.toNat,by omega⟩
   have hj:j < 26:=by omega
   walk_at "r"
   obtain ⟨ch,hch⟩:∃ch,([97,98,99,100,101,102,103,104,105,106,107,108,109,110,111,112,113,114,115,116,117,118,119,120,121,122]:List Nat)[j]?=some ch:=⟨_,List.getElem?_eq_getElem hj⟩
   refine ⟨ch,g6 hch rfl,?_⟩
   have hm:=List.mem_of_getElem? hch
   exact ⟨_,s2,ls++[ch],rfl,hs2,by rw [List.map_append];rfl,by rw [List.length_append,hl];rfl,hL.app (Lts.one (by simp only [List.mem_cons,List.not_mem_nil,or_false] at hm;omega))⟩
  .rintro ys τ ⟨v,s2,ls,rfl,hs2,rfl,hl,hL⟩
   walk_at "r"
   refine ⟨ls.map fun c=>[c],mJ ls,?_,?_⟩
   .rw [cP];omega
   .rw [cP];walk_at "r";exact q ls s2 hs2 (by omega) (by omega) hL
theorem iV:∀p ds Q,p.isOwn=true->aX p ds Q->lu cf eT p ds Q:=fun p ds Q _ h=>by
 unfold aX at h
 split at h
 .exact iB _ _ _ h
 .exact h.elim
def dB:PTS:=(bA (pSM mO (pC (.str [])) (af (pFz (fQ [none,some 1,some 0] (vU (af (pFz (pOp dL (pFz (pC (.int 1))) (pFz (a5 aj 0 (af (pFz (bD 2)) am))))) am)) (aB 0) qN (pOp fIx (pSl 1) (pFz (a5 aj 2 (af (pFz (pCB jQ (af (pSl 1) am))) am)))))) am)))
theorem ll (c0 c1 m:Int) (ls:List Nat) (Q:PV->PV->Prop) (h:aY (.own [.int c0,.int c1]) ([.str ls,.int m]) Q):lu dB iw (.own [.int c0,.int c1]) ([.str ls,.int m]) Q:=by
 show dB _ [some (.own [.int c0,.int c1]),some (.dat (.str ls)),some (.dat (.int m))]
 obtain ⟨g,⟨h0,h26,hls⟩,⟨hm,hm2⟩,q⟩:=h
 walk_at "r"
 intro x s hs hx0 hx1
 walk_at "r"
 refine ⟨fun k ys τ=>∃(v:Option PV) (s:Int×Int) (ws:List Nat),τ=[v,some (.dat (.str ls)),some (stv s)]/\SOk s/\ys=ws.map (fun c=>.str [c])/\ws.length=k/\Lts ws,⟨none,s,[],rfl,hs,rfl,rfl,Lts.nil⟩,?_,?_⟩
 .rintro k ys τ _ hk rfl ⟨v,⟨a,b⟩,ws,rfl,hs,rfl,hl,hL⟩
  walk_at "r"
  intro z s2 hs2 hz0 hz1
  obtain ⟨j,rfl⟩:∃j:Nat,z=(j:Int):=⟨z.toNat,by omega⟩
  have hj:j < ls.length:=by omega
  walk_at "r"
  refine ⟨_,g6 (List.getElem?_eq_getElem hj) rfl,?_⟩
  exact ⟨_,s2,ws++[ls[j]],rfl,hs2,by rw [List.map_append];rfl,by rw [List.length_append,hl];rfl,hL.app (Lts.one (hls _ (List.getElem_mem hj)))⟩
 .rintro ys τ ⟨v,s2,ws,rfl,hs2,rfl,hl,hL⟩
  walk_at "r"
  refine ⟨ws.map fun c=>[c],mJ ws,?_,?_⟩
  .rw [cP];omega
  .rw [cP];walk_at "r";exact q ws s2 hs2 (by omega) (by omega) hL
theorem ma:∀p ds Q,p.isOwn=true->aY p ds Q->lu dB iw p ds Q:=fun p ds Q _ h=>by
 unfold aY at h
 split at h
 .exact ll _ _ _ _ _ h
 .exact h.elim
def eI:PTS:=(aO (br (a5 aj 0 (af (pFz (pCB jQ (af (pSl 1) am))) am)) (aB 3)) (bA (fk (pSl 1) (eO (bD 3)) (eO (pOp dL (pFz (pOp dL (pSl 3) (pFz (pC (.int 1))))) (pFz (a5 aj 0 (af (pFz (bD 2)) am))))))))
theorem md (c0 c1 m:Int) (t:List Nat) (Q:PV->PV->Prop) (h:bu (.own [.int c0,.int c1]) ([.str t,.int m]) Q):lu eI jt (.own [.int c0,.int c1]) ([.str t,.int m]) Q:=by
 show eI _ [some (.own [.int c0,.int c1]),some (.dat (.str t)),some (.dat (.int m)),none]
 obtain ⟨g,⟨h0,h1,ht⟩,⟨hm,hm2⟩,q⟩:=h
 walk_at "r"
 rintro x ⟨a,b⟩ hs hx0 hx1
 walk_at "r"
 intro y s2 hs2 hy0 hy1
 walk_at "r"
 obtain ⟨i,rfl⟩:∃i:Nat,x=(i:Int):=⟨x.toNat,by omega⟩
 obtain ⟨j,rfl⟩:∃j:Nat,y=(j:Int):=⟨y.toNat,by omega⟩
 show Q (.dat (.str (cW t (some (i:Int)) (some ((i:Int) + 1 + (j:Int)))))) _
 rw [show (i:Int) + 1 + (j:Int)=((i + 1 + j:Nat):Int) by omega,oS]
 exact q _ s2 hs2 (by rw [List.length_take,List.length_drop];omega) (by rw [List.length_take,List.length_drop];omega) ((ht.drop _).take _)
theorem nP:∀p ds Q,p.isOwn=true->bu p ds Q->lu eI jt p ds Q:=fun p ds Q _ h=>by
 unfold bu at h
 split at h
 .exact md _ _ _ _ _ h
 .exact h.elim
def cD:PTS:=(aO (br (a5 aX 0 am) (aB 3)) (aO (br (a5 aY 0 (af (pFz (bD 3)) (af (pFz (pOp pR (pFz (pC (.int 3))) (pSl 2))) am))) (aB 4)) (aO (kS (gL (pB (pOp nK (pFz (a5 aj 0 (af (pFz (pC (.int 3))) am))) (pFz (pC (.int 0))))) (br (pOp pR (pFz (fk (pSl 4) gq (eO (pOp dL (pFz (pC (.int 1))) (pFz (a5 aj 0 (af (pFz (pC (.int 4))) am))))))) (pSl 2)) (aB 4)) bM)) (aO (br (rG am) (aB 5)) (aO (lL (vU (af (pFz (bD 1)) am)) (aB 6) (aO (br (a5 aj 0 (af (pFz (pC (.int 5))) am)) (aB 7)) (aO (kS (gL (zQ (pB (pOp fGt (pSl 7) (pFz (pC (.int 2))))) (pB (pOp fGt (pFz (pCB jQ (af (pSl 5) am))) (pFz (pC (.int 0)))))) (aO (br (pOp fIx (pSl 5) (pFz (a5 aj 0 (af (pFz (pCB jQ (af (pSl 5) am))) am)))) (aB 8)) (gL (pB (pOp nK (pSl 7) (pFz (pC (.int 3))))) (br (a5 bu 0 (af (pFz (bD 8)) (af (pFz (bD 2)) am))) (aB 8)) bM)) (gL (pB (pOp nK (pFz (pOp uY (pSl 7) (pFz (pC (.int 2))))) (pFz (pC (.int 1))))) (br (a5 bu 0 (af (pFz (bD 4)) (af (pFz (bD 2)) am))) (aB 8)) (br (a5 aY 0 (af (pFz (bD 3)) (af (pFz (bD 2)) am))) (aB 8))))) (mG (yk 5 (bD 8)))))) (bA (bD 5)))))))
theorem iW (c0 c1 n m:Int) (Q:PV->PV->Prop) (h:a4 (.own [.int c0,.int c1]) ([.int n,.int m]) Q):lu cD fB (.own [.int c0,.int c1]) ([.int n,.int m]) Q:=by
 show cD _ [some (.own [.int c0,.int c1]),some (.dat (.int n)),some (.dat (.int m)),none,none,none,none,none,none]
 obtain ⟨g,⟨hn0,hn⟩,⟨hm,hm60⟩,q⟩:=h
 walk_at "r"
 rintro ls ⟨a,b⟩ hs hl2 hl26 hL
 walk_at "r"
 rintro ba ⟨a,b⟩ hs ba0 bam baL
 walk_at "r"
 refine ⟨fun ρ=>∃(bs:List Nat) (s:Int×Int),ρ=[some (stv s),some (.dat (.int n)),some (.dat (.int m)),some (.dat (.str ls)),some (.dat (.str bs)),none,none,none,none]/\SOk s/\0 < bs.length/\bs.length<=20000/\Lts bs,?_,?_⟩
 .walk_at "r"
  rintro z ⟨a,b⟩ hs hz0 hz1
  walk_at "r"
  refine df (fun c=>?_) (fun c=>⟨ba,(a,b),rfl,hs,ba0,by omega,baL⟩)
  walk_at "r"
  rintro y s2 hs2 hy0 hy1
  walk_at "r"
  have h1:=b7 ba none (some (1 + y))
  have h3:m.toNat * (cW ba none (some (1 + y))).length<=60 * 180:=Nat.mul_le_mul (by omega) (by omega)
  have h4:0 < (cW ba none (some (1 + y))).length:=by
   rw [rj _ (by omega),List.length_take];omega
  have h5:0 < m.toNat * (cW ba none (some (1 + y))).length:=Nat.mul_pos (by omega) h4
  refine ⟨⟨by omega,by omega,by omega⟩,?_⟩
  exact ⟨kG (cW ba none (some (1 + y))) m,s2,rfl,hs2,by rw [e7];exact h5,by rw [e7];omega,(baL.cut _ _).rep _⟩
 rintro ρ ⟨bs,s3,rfl,hs3,b0,bm,bL⟩
 walk_at "r"
 refine ⟨fun k ρ=>∃(ps:List (List Nat)) (s:Int×Int) (v6 v7 v8:Option PV),ρ=[some (stv s),some (.dat (.int n)),some (.dat (.int m)),some (.dat (.str ls)),some (.dat (.str bs)),some (.own (ps.map .str)),v6,v7,v8]/\SOk s/\ps.length=k/\Pcs m.toNat ps,⟨[],s3,none,none,none,rfl,hs3,rfl,nofun⟩,?_,?_⟩
 .rintro k ρ _ hk rfl ⟨ps,⟨a,b⟩,v6,v7,v8,rfl,hs,hpl,hps⟩
  have hlm:(ps.map D.str).length=ps.length:=List.length_map _
  walk_at "r"
  rintro way ⟨a,b⟩ hs hw0 hw1
  walk_at "r"
  refine ⟨fun ρ=>∃(w:List Nat) (s:Int×Int) (v6 v7:Option PV),ρ=[some (stv s),some (.dat (.int n)),some (.dat (.int m)),some (.dat (.str ls)),some (.dat (.str bs)),some (.own (ps.map .str)),v6,v7,some (.dat (.str w))]/\SOk s/\Pc m.toNat w,?_,?_⟩
  .walk_at "r"
   refine df (fun c=>?_) (fun c=>?_)
   .walk_at "r"
    refine df (fun c2=>?_) (fun c2=>?_)
    .walk_at "r"
     rintro z ⟨a,b⟩ hs hz0 hz1
     obtain ⟨j,rfl⟩:∃j:Nat,z=(j:Int):=⟨z.toNat,by omega⟩
     have hj:j < ps.length:=by omega
     have ho:=hps _ (gw hj)
     obtain ⟨ho1,ho2,ho3⟩:=id ho
     walk_at "r"
     refine ⟨_,dX hj rfl,?_⟩
     walk_at "r"
     refine df (fun _=>?_) (fun _=>⟨pw ps j,(a,b),_,_,rfl,hs,ho⟩)
     walk_at "r"
     rintro w s hs w0 wm wL
     exact ⟨w,s,_,_,rfl,hs,w0,wm,wL⟩
    .walk_at "r"
     refine df (fun _=>?_) (fun _=>?_)
     .walk_at "r"
      rintro w s hs w0 wm wL
      exact ⟨w,s,_,_,rfl,hs,w0,wm,wL⟩
     .walk_at "r"
      rintro w s hs w0 wm wL
      exact ⟨w,s,_,_,rfl,hs,w0,wm,wL⟩
   .walk_at "r"
    refine df (fun _=>?_) (fun _=>?_)
    .walk_at "r"
     rintro w s hs w0 wm wL
     exact ⟨w,s,_,_,rfl,hs,w0,wm,wL⟩
    .walk_at "r"
     rintro w s hs w0 wm wL
     exact ⟨w,s,_,_,rfl,hs,w0,wm,wL⟩
  .rintro ρ ⟨w,s,v6,v7,rfl,hs,hw⟩
   walk_at "r"
   exact ⟨ps++[w],s,_,_,_,by rw [List.map_append];rfl,hs,by rw [List.length_append,hpl];rfl,hps.app hw⟩
 .rintro ρ ⟨ps,s,v6,v7,v8,rfl,hs,hpl,hps⟩
  walk_at "r"
  exact q ps s hs hpl hps
theorem j8:∀p ds Q,p.isOwn=true->a4 p ds Q->lu cD fB p ds Q:=fun p ds Q _ h=>by
 unfold a4 at h
 split at h
 .exact iW _ _ _ _ _ h
 .exact h.elim
def eJ:PTS:=(aO (br (pC (.str [97,98,99,100,101,102,103,104,105,106,107,108,109,110,111,112,113,114,115,116,117,118,119,120,121,122])) (aB 1)) (aO (br (a5 aj 0 (af (pFz (pC (.int 5))) am)) (aB 2)) (aO (gL (pB (pOp nK (pSl 2) (pFz (pC (.int 0))))) (bA (pOp pR (pFz (pOp fIx (pSl 1) (pFz (a5 aj 0 (af (pFz (pC (.int 26))) am))))) (pFz (pOp dL (pFz (pC (.int 61))) (pFz (a5 aj 0 (af (pFz (pC (.int 60))) am))))))) bM) (aO (gL (pB (pOp fLt (pSl 2) (pFz (pC (.int 3))))) (aO (br (pC (.str [32,33,34,35,36,38,39,40,41,42,43,44,45,46,47,48,49,50,51,52,53,54,55,56,57,58,59,60,61,62,63,64,65,66,67,68,69,70,71,72,73,74,75,76,77,78,79,80,81,82,83,84,85,86,87,88,89,90,91,92,93,94,95,96,123,124,125,126,10])) (aB 3)) (aO (br (a5 aY 0 (af (pFz (bD 1)) (af (pFz (pC (.int 12))) am))) (aB 4)) (aO (br (a5 aj 0 (af (pFz (pOp dL (pFz (pCB jQ (af (pSl 4) am))) (pFz (pC (.int 1))))) am)) (aB 5)) (bA (pOp dL (pFz (pOp dL (pFz (fk (pSl 4) gq (eO (bD 5)))) (pFz (pOp fIx (pSl 3) (pFz (a5 aj 0 (af (pFz (pCB jQ (af (pSl 3) am))) am))))))) (pFz (fk (pSl 4) (eO (bD 5)) gq))))))) bM) (aO (br (rG (af (pFz (pC (.str []))) (af (pFz (pC .non)) (af (pFz (pC (.bl true))) (af (pFz (pC (.bl false))) (af (pFz (pC (.int 0))) (af (pFz (pC (.int 7))) (af (pFz (pOp Av (pFz (pC (.int 10))) (pFz (pC (.int 20))))) (af (pFz (rG am)) (af (pFz (rG (af (pFz (pC (.str [97,98]))) am))) (af (pFz (yh (af (pFz (pC (.str [97]))) (af (pFz (pC (.str [98]))) am)))) (af (pFz xI) (af (pFz (x0 [(Sum.inr (S [97,98]))] (af (pFz (pC (.int 1))) am))) (af (pFz (rG (af (pFz (pC .non)) am))) (af (pFz (pC (.str [97,98,10]))) (af (pFz (pC (.str [9]))) am)))))))))))))))) (aB 6)) (bA (pOp fIx (pSl 6) (pFz (a5 aj 0 (af (pFz (pC (.int 15))) am))))))))))
theorem me (c0 c1:Int) (Q:PV->PV->Prop) (h:bv (.own [.int c0,.int c1]) ([]) Q):lu eJ ju (.own [.int c0,.int c1]) ([]) Q:=by
 show eJ _ [some (.own [.int c0,.int c1]),none,none,none,none,none,none]
 obtain ⟨g,q⟩:=h
 have hab:0 < vY.length/\vY.length<=26/\Lts vY:=⟨by decide,by decide,qH⟩
 walk_at "r"
 rintro way ⟨a,b⟩ hs hw0 hw1
 walk_at "r"
 refine df (fun c=>?_) (fun c=>?_)
 .walk_at "r"
  rintro y ⟨a,b⟩ hs hy0 hy1
  obtain ⟨j,rfl⟩:∃j:Nat,y=(j:Int):=⟨y.toNat,by omega⟩
  have hj:j < vY.length:=by show j < 26;omega
  walk_at "r"
  refine ⟨_,g6 (List.getElem?_eq_getElem hj) rfl,?_⟩
  have hc:=qH _ (List.getElem_mem hj)
  generalize vY[j]=ch at hc ⊢
  walk_at "r"
  rintro z s hs hz0 hz1
  walk_at "r"
  rw [vH (by omega)]
  exact q _ s hs (vI hc (by omega) (by omega))
 .walk_at "r"
  refine df (fun c2=>?_) (fun c2=>?_)
  .walk_at "r"
   rintro w ⟨a,b⟩ hs w0 wm wL
   have wm:w.length<=12:=wm
   walk_at "r"
   rintro y ⟨a,b⟩ hs hy0 hy1
   walk_at "r"
   rintro z s hs hz0 hz1
   have hz1:z < 69:=hz1
   obtain ⟨j,rfl⟩:∃j:Nat,z=(j:Int):=⟨z.toNat,by omega⟩
   have hj:j < sgL.length:=by show j < 69;omega
   walk_at "r"
   refine ⟨_,g6 (j:=j) (List.getElem?_eq_getElem (l:=sgL) hj) rfl,?_⟩
   have hc:=zx _ (List.getElem_mem hj)
   generalize sgL[j]=ch at hc ⊢
   obtain ⟨i,rfl⟩:∃i:Nat,y=(i:Int):=⟨y.toNat,by omega⟩
   have l1:=b7 w none (some (i:Int))
   have l2:=b7 w (some (i:Int)) none
   walk_at "r"
   have e1:cW w none (some (i:Int))=w.take i:=gX _ _
   have e2:cW w (some (i:Int)) none=w.drop i:=oR _ _
   rw [e1,e2]
   exact q _ s hs (vJ (k:=i) wL (by omega) hc)
  .walk_at "r"
   rintro z s hs hz0 hz1
   obtain ⟨j,rfl⟩:∃j:Nat,z=(j:Int):=⟨z.toNat,by omega⟩
   have hj:j < sy.length:=by show j < 15;omega
   walk_at "r"
   refine ⟨_,g6 (j:=j) (List.getElem?_eq_getElem (l:=sy) hj) rfl,?_⟩
   have hc:=sA _ (List.getElem_mem hj)
   generalize sy[j]=dd at hc ⊢
   walk_at "r"
   exact q _ s hs hc
theorem nQ:∀p ds Q,p.isOwn=true->bv p ds Q->lu eJ ju p ds Q:=fun p ds Q _ h=>by
 unfold bv at h
 split at h
 .exact me _ _ _ h
 .exact h.elim
def cE:PTS:=(aO (br (pC .non) (aB 1)) (aO (vy (sr ap) (af (pFz (bD 0)) am) (Ad xcs "GlueError" 2 (br (bD 2) (aB 1)) vx)) (bA (bD 1))))
theorem iX (d:D) (Q:PV->Prop) (h:aN ([d]) Q):gv cE fC ([d]) Q:=by
 show cE _ [some (.dat (d)),none,none]
 obtain ⟨ds,hd,hs,h1,h2⟩:=h
 have i1:iM "NoPiece" "GlueError"=true:=by decide +kernel
 have i2:iM "TooMany" "GlueError"=true:=by decide +kernel
 walk_at "r"
 refine ⟨ds,hd,hs,fun z=>?_,fun z=>?_⟩
 .walk_at "r"
  exact h1 z
 .obtain ⟨k,hb,q⟩:=h2 z
  refine ⟨fun j hj=>?_,fun hf=>?_⟩
  .have e:j=k:=by
    rcases Nat.lt_trichotomy j k with z | z | z
    .have:=hb.2.1 j z
     rw [hj.2.2] at this;cases this
    .exact z
    .have:=hj.2.1 k z
     rw [hb.2.2] at this;cases this
   subst e
   walk_at "r"
   exact q
  .have:=hf k hb.1
   rw [hb.2.2] at this;cases this
theorem j9:∀ds Q,aN ds Q->gv cE fC ds Q:=fun ds Q h=>by
 unfold aN at h
 split at h
 .exact iX _ _ h
 .exact h.elim
def bY:PTS:=(aO (br (cj aN (af (pFz (bD 0)) am)) (aB 2)) (aO (gL (pOr (mC (pB (xO xcs "NoPiece" (pSl 2)))) (pOr (mC (pB (zn xcs (pSl 2)))) (pB (xO xcs "TooMany" (pSl 2))))) (bA (pC (.bl false))) bM) (aO (gL (pB (vA xcs ["NoLap","NoOrder","NotApart","NotHeld","NoWords","TooGreat"] (pSl 2))) (bA (pC (.bl false))) bM) (bA (lJ (vT .int (pFz (lW xcs tG "at" (pSl 2)))) (lJ (rH (vT .bool (pFz (lW xcs tG "at" (pSl 2))))) (pOp nK (pFz (lW xcs tG "at" (pSl 2))) (pSl 1))))))))
theorem gH (d:D) (a:Int) (Q:PV->Prop) (h:aP ([d,.int a]) Q):gv bY et ([d,.int a]) Q:=by
 show bY _ [some (.dat (d)),some (.dat (.int a)),none]
 obtain ⟨ds,hd,hs,hl,k,rfl,hb,q⟩:=h
 have i1:iM "NoPiece" "NoPiece"=true:=by decide +kernel
 have i3:iM "NoPiece" "TooMany"=false:=by decide +kernel
 have i2:(["NoLap","NoOrder","NotApart","NotHeld","NoWords","TooGreat"]:List Str).any (iM "NoPiece")=false:=by decide +kernel
 walk_at "r"
 refine ⟨ds,hd,hs,fun z=>by omega,fun _=>⟨k,hb,?_⟩⟩
 walk_at "r"
 rw [decide_eq_true rfl]
 exact q
theorem iC:∀ds Q,aP ds Q->gv bY et ds Q:=fun ds Q h=>by
 unfold aP at h
 split at h
 .exact gH _ _ _ h
 .exact h.elim
def bZ:PTS:=(aO (br (cj aN (af (pFz (bD 0)) am)) (aB 1)) (aO (gL (pOr (mC (pB (xO xcs "TooMany" (pSl 1)))) (pOr (mC (pB (zn xcs (pSl 1)))) (pB (xO xcs "NoPiece" (pSl 1))))) (bA (pC (.bl false))) bM) (aO (gL (pB (vA xcs ["NoLap","NoOrder","NotApart","NotHeld","NoWords","TooGreat"] (pSl 1))) (bA (pC (.bl false))) bM) (bA (lJ (vT .int (pFz (lW xcs tG "most" (pSl 1)))) (lJ (rH (vT .bool (pFz (lW xcs tG "most" (pSl 1))))) (pOp nK (pFz (lW xcs tG "most" (pSl 1))) (pFz (pC (.int 40))))))))))
theorem gI (d:D) (Q:PV->Prop) (h:aF ([d]) Q):gv bZ ey ([d]) Q:=by
 show bZ _ [some (.dat (d)),none]
 obtain ⟨ds,hd,hs,hl,q⟩:=h
 have i1:iM "TooMany" "TooMany"=true:=by decide +kernel
 have i3:iM "TooMany" "NoPiece"=false:=by decide +kernel
 have i2:(["NoLap","NoOrder","NotApart","NotHeld","NoWords","TooGreat"]:List Str).any (iM "TooMany")=false:=by decide +kernel
 walk_at "r"
 refine ⟨ds,hd,hs,fun z=>?_,fun z=>by omega⟩
 walk_at "r"
 exact q
theorem iD:∀ds Q,aF ds Q->gv bZ ey ds Q:=fun ds Q h=>by
 unfold aF at h
 split at h
 .exact gI _ _ h
 .exact h.elim
def cg:PTS:=(aO (vy (sr ap) (af (pFz (bD 0)) am) (zq xcs "NoPiece" (bA (pC (.bl true))) (zq xcs "TooMany" (bA (pOp fGt (pFz (pCB jQ (af (pSl 0) am))) (pFz (pC (.int 40))))) vx))) (bA (pC (.bl false))))
theorem iE (d:D) (Q:PV->Prop) (h:aM ([d]) Q):gv cg eU ([d]) Q:=by
 show cg _ [some (.dat (d))]
 obtain ⟨ds,hd,hs,h2,q⟩:=h
 have i1:iM "NoPiece" "NoPiece"=true:=by decide +kernel
 have i3:iM "TooMany" "NoPiece"=false:=by decide +kernel
 have i2:iM "TooMany" "TooMany"=true:=by decide +kernel
 walk_at "r"
 refine ⟨ds,hd,hs,fun z=>?_,fun z=>⟨fun j hj=>?_,fun hf=>?_⟩⟩
 .rcases hd with rfl | rfl
  .walk_at "r"
   rw [decide_eq_true (by omega)]
   exact q
  .walk_at "r"
   rw [decide_eq_true (by omega)]
   exact q
 .walk_at "r"
  exact q
 .obtain ⟨k,hb⟩:=h2 z
  have:=hf k hb.1
  rw [hb.2.2] at this;cases this
theorem iY:∀ds Q,aM ds Q->gv cg eU ds Q:=fun ds Q h=>by
 unfold aM at h
 split at h
 .exact iE _ _ h
 .exact h.elim
def eL:PTS:=(aO (br (pOp dL (pFz (pC (.int 1))) (pFz (a5 aj 0 (af (pFz (pC (.int 40))) am)))) (aB 1)) (aO (br (a5 a4 0 (af (pFz (bD 1)) (af (pFz (pC (.int 8))) am))) (aB 2)) (aO (br (pCB rL (af (pSl 2) am)) (aB 3)) (aO (br (a5 aj 0 (af (pFz (bD 1)) am)) (aB 4)) (aO (kU 3 (a5 bv 0 am) (bD 4)) (aO (kS (gL (pB (pOp nK (pFz (a5 aj 0 (af (pFz (pC (.int 2))) am))) (pFz (pC (.int 1))))) (aO (br (a5 aj 0 (af (pFz (bD 1)) am)) (aB 5)) (aO (kU 3 (a5 bv 0 am) (bD 5)) (br (pCB pW (af (pSl 4) (af (pSl 5) am))) (aB 4)))) bM)) (aO (br (pCB rL (af (pSl 3) am)) (aB 6)) (aO (gL (pOr (mC (pB (cj aP (af (pFz (bD 6)) (af (pFz (bD 4)) am))))) (pOr (mC (pB (cj aM (af (pFz (pCB dS (af (pSl 3) am))) am)))) (pB (pOp zw (pSl 6) (pSl 3))))) (bA (pC (.bl false))) bM) (aO (lL (vU (af (pFz (pOp dL (pFz (pOp zh (pFz (pC (.int 41))) (pSl 1))) (pFz (a5 aj 0 (af (pFz (pC (.int 5))) am))))) am)) (aB 7) (mG (yk 3 (pC (.str [97,98]))))) (aO (gL (pOr (mC (pB (cj aF (af (pFz (bD 3)) am)))) (mC (pB (cj aM (af (pFz (bD 3)) am))))) (bA (pC (.bl false))) bM) (aO (br (pOp dL (pSl 2) (pFz (pOp pR (pFz (rG (af (pFz (pC (.str [98,97]))) am))) (pFz (pOp zh (pFz (pC (.int 41))) (pSl 1)))))) (aB 8)) (aO (gL (mC (pB (cj aF (af (pFz (bD 8)) am)))) (bA (pC (.bl false))) bM) (bA (lJ (pOp nK (pFz (nI "Family" ["pieces","kept","words","left","laps","total"] 0 (pFz (rQ "Family" aL (af (pFz (bD 2)) am))))) (pFz (pCB dS (af (pSl 2) am)))) (pOp nK (pFz (nI "Family" ["pieces","kept","words","left","laps","total"] 0 (pFz (rQ "Family" aL (af (pFz (fk (pSl 8) gq (eO (pC (.int 40))))) am))))) (pFz (pCB dS (af (pFz (fk (pSl 8) gq (eO (pC (.int 40))))) am))))))))))))))))))
theorem mf (c0 c1:Int) (Q:PV->PV->Prop) (h:bF (.own [.int c0,.int c1]) ([]) Q):lu eL jv (.own [.int c0,.int c1]) ([]) Q:=by
 show eL _ [some (.own [.int c0,.int c1]),none,none,none,none,none,none,none,none]
 obtain ⟨g,q⟩:=h
 walk_at "r"
 rintro n ⟨a,b⟩ hs hn0 hn1
 have hn1:n < 40:=hn1
 obtain ⟨n,rfl⟩:∃m:Nat,n=(m:Int):=⟨n.toNat,by omega⟩
 have gp:0<=(1 + (n:Int))/\(1 + (n:Int))<=40:=⟨by omega,by omega⟩
 walk_at "r"
 rintro ps ⟨a,b⟩ hs hpl hps
 have hpl:ps.length=1 + n:=by rw [hpl];omega
 have hps:Pcs 60 ps:=fun w hw=>⟨(hps w hw).1,Nat.le_trans (hps w hw).2.1 (by decide),(hps w hw).2.2⟩
 have hlm:(ps.map D.str).length=ps.length:=List.length_map _
 walk_at "r"
 rintro x ⟨a,b⟩ hs hx0 hx1
 obtain ⟨x,rfl⟩:∃m:Nat,x=(m:Int):=⟨x.toNat,by omega⟩
 have hx:x < ps.length:=by omega
 walk_at "r"
 rintro d1 ⟨a,b⟩ hs od1
 walk_at "r"
 refine ⟨x,qI (by omega),?_⟩
 have ok0:okD (ps.map D.str):=okD.strs hps
 have b1:iq ((ps.map D.str).set x d1) x:=qJ (by omega) (fun j hj=>by rw [dW hj];exact lQ.mpr (hps _ (gw (by omega)))) od1.od
 have ok1:okD ((ps.map D.str).set x d1):=ok0.set od1
 have len1:((ps.map D.str).set x d1).length=1 + n:=by rw [List.length_set];omega
 generalize (ps.map D.str).set x d1=T1 at b1 ok1 len1 ⊢
 walk_at "r"
 refine ⟨fun ρ=>∃(T:List D) (f:Nat) (s:Int×Int) (v5:Option PV),iq T f/\okD T/\T.length=1 + n/\SOk s/\ρ=[some (stv s),some (.dat (.int (1 + (n:Int)))),some (.dat (.lst (ps.map .str))),some (.own T),some (.dat (.int (f:Int))),v5,none,none,none],?_,?_⟩
 .walk_at "r"
  rintro t ⟨a,b⟩ hs ht0 ht1
  walk_at "r"
  refine df (fun c=>?_) (fun c=>?_)
  .walk_at "r"
   rintro y ⟨a,b⟩ hs hy0 hy1
   obtain ⟨y,rfl⟩:∃m:Nat,y=(m:Int):=⟨y.toNat,by omega⟩
   walk_at "r"
   rintro d2 ⟨a,b⟩ hs od2
   walk_at "r"
   refine ⟨y,qI (by omega),?_⟩
   walk_at "r"
   refine ⟨T1.set y d2,(if (y:Int) < (x:Int) then y else x),(a,b),some (.dat (.int (y:Int))),sC b1 (by omega) od2.od,ok1.set od2,by rw [List.length_set];exact len1,hs,?_⟩
   split <;> rfl
  .exact ⟨T1,x,(a,b),_,b1,ok1,len1,hs,rfl⟩
 .rintro ρ ⟨T,f,⟨a,b⟩,v5,hb,hok,hT,hs,rfl⟩
  clear b1 ok1 len1 T1 od1 hx hx0 hx1
  have h40:T.length<=40:=by omega
  have th:sx T:=hok.th (by omega)
  have sf:∀d∈T,jp d:=fun d hd=>(hok d hd).2
  have hex:T.length<=40->∃k,iq T k:=fun _=>⟨f,hb⟩
  walk_at "r"
  rintro t ⟨a,b⟩ hs ht0 ht1
  obtain ⟨t,rfl⟩:∃m:Nat,t=(m:Int):=⟨t.toNat,by omega⟩
  walk_at "r"
  have hE:(41 - (1 + (n:Int)) + (t:Int)).toNat=40 - n + t:=by omega
  rw [hE]
  refine ⟨fun k ρ=>∃v7:Option PV,ρ=[some (stv (a,b)),some (.dat (.int (1 + (n:Int)))),some (.dat (.lst (ps.map .str))),some (.own (T++(List.replicate k [97,98]).map D.str)),some (.dat (.int (f:Int))),v5,some (.dat (.lst T)),v7,none],⟨none,by rw [List.replicate_zero,List.map_nil,List.append_nil]⟩,?_,?_⟩
  .rintro k ρ _ hk rfl ⟨v7,rfl⟩
   have hl2:(T++(List.replicate k [97,98]).map D.str).length=1 + n + k:=by rw [List.length_append,List.length_map,List.length_replicate,hT]
   walk_at "r"
   refine ⟨some (.dat (.int (k:Int))),?_⟩
   rw [List.replicate_succ',List.map_append,List.append_assoc]
   rfl
  .rintro ρ ⟨v7,rfl⟩
   have hl2:(T++(List.replicate (40 - n + t) [97,98]).map D.str).length=41 + t:=by rw [List.length_append,List.length_map,List.length_replicate,hT];omega
   have ok2:okD (T++(List.replicate (40 - n + t) [97,98]).map D.str):=hok.app (okD.strs (qK (tI (.inl rfl)) _))
   generalize T++(List.replicate (40 - n + t) [97,98]).map D.str=T2 at hl2 ok2 ⊢
   have th2:sx T2:=ok2.th (by omega)
   have g2:40 < T2.length:=by omega
   have hex2:T2.length<=40->∃k,iq T2 k:=fun z=>by omega
   obtain ⟨m,hm⟩:∃m:Nat,(41:Int) - (1 + (n:Int))=(m:Int):=⟨40 - n,by omega⟩
   have er:kG [D.str [98,97]] ((41:Int) - (1 + (n:Int)))=(List.replicate m [98,97]).map D.str:=by
    rw [hm,sB (by omega),Int.toNat_natCast]
   walk_at "r"
   rw [er,<- List.map_append]
   have pm:Pcs 60 (ps++List.replicate m [98,97]):=vK hps (qK (tI (.inr rfl)) m)
   have lm:(ps++List.replicate m [98,97]).length=41:=by rw [List.length_append,List.length_replicate];omega
   have lm2:((ps++List.replicate m [98,97]).map D.str).length=41:=by rw [List.length_map,lm]
   have th3:sx ((ps++List.replicate m [98,97]).map D.str):=(okD.strs pm).th (by omega)
   have g3:40 < ((ps++List.replicate m [98,97]).map D.str).length:=by omega
   have hp1:ps.length<=40/\Pcs 60 ps:=⟨by omega,hps⟩
   have hp2:((ps++List.replicate m [98,97]).take 40).length<=40/\Pcs 60 ((ps++List.replicate m [98,97]).take 40):=⟨by rw [List.length_take];omega,fun w hw=>pm w (List.mem_of_mem_take hw)⟩
   have s1:=Sh.tupS hps.lts
   have e1:=xk.of s1 s1
   have q1:=mK s1
   have s2:=Sh.tupS hp2.2.lts
   have e2:=xk.of s2 s2
   have q2:=mK s2
   refine ⟨by rw [List.length_map,List.length_map,List.length_replicate];omega,?_⟩
   generalize hW:ps++List.replicate m [98,97]=W at pm lm lm2 th3 g3 hp2 s2 e2 q2 ⊢
   have ec:cW (W.map D.str) none (some 40)=(W.take 40).map D.str:=by rw [show (40:Int)=((40:Nat):Int) from rfl,gX,List.map_take]
   walk_at "r"
   rw [q1]
   walk_at "r"
   rw [ec]
   refine ⟨W.take 40,.inl rfl,hp2,?_⟩
   walk_at "r"
   rw [ec]
   refine ⟨e2,?_⟩
   rw [q2]
   walk_at "r"
   exact q (a,b) hs
theorem nR:∀p ds Q,p.isOwn=true->bF p ds Q->lu eL jv p ds Q:=fun p ds Q _ h=>by
 unfold bF at h
 split at h
 .exact mf _ _ _ h
 .exact h.elim
def m5:PTS:=(aO (lL (vU (af (pFz (pCB uO (af (pFz (pC (.int 2))) (af (pFz (pCB pW (af (pFz (pC (.int 6))) (af (pFz (pCB jQ (af (pSl 0) am))) am)))) am)))) am)) (aB 1) (gL (mC (pB (p4 bF (cj aW (af (pFz (bD 0)) (af (pFz (bD 1)) am))) am))) (bA (pC (.bl false))) bM)) (bA (pOp nK (pFz (nI "Family" ["pieces","kept","words","left","laps","total"] 0 (pFz (rQ "Family" aL (af (pFz (rG am)) am))))) (pFz (yh am)))))
theorem vM (ns:List Int) (h63:ns.length<=63) (Q:PV->Prop) (q:Q (.dat (.bl true))):gv m5 tJ [.scr ns] Q:=by
 show m5 _ [some (.dat (.scr ns)),none]
 walk_at "r"
 have hmax:(if (if (ns.length:Int) < 6 then (ns.length:Int) else 6) > 2 then if (ns.length:Int) < 6 then (ns.length:Int) else 6 else 2).toNat<=6:=by
  split
  .split <;> omega
  .omega
 refine ⟨fun k ρ=>∃v1:Option PV,ρ=[some (.dat (.scr ns)),v1],⟨none,rfl⟩,?_,?_⟩
 .rintro k ρ _ hk rfl ⟨v1,rfl⟩
  have hk4:k < 6:=Nat.lt_of_lt_of_le hk hmax
  clear hk hmax
  walk_at "r"
  rintro ⟨a,b⟩ hs
  walk_at "r"
  rintro ⟨a,b⟩ hs
  walk_at "r"
  exact ⟨_,rfl⟩
 .rintro ρ ⟨v1,rfl⟩
  have hp:([]:List (List Nat)).length<=40/\Pcs 60 []:=⟨by decide,fun w hw=>nomatch hw⟩
  walk_at "r"
  refine ⟨[],.inl rfl,hp,?_⟩
  walk_at "r"
  rw [show deq (D.tup (List.map D.str [])) (D.tup [])=true by decide +kernel]
  exact q
theorem ya:∀ds Q,mZ ds Q->gv m5 tJ ds Q:=fun ds Q h=>by
 obtain ⟨ns,rfl,h63,q⟩:=h
 exact vM ns h63 Q q
section
variable {P:Program}{w:World}{K:PySem.W.Frag}{mg:Str->Option Value}{base:Heap}
theorem jw:∀ds Q,bE ds Q->ds.length=3:=fun ds Q h=>by unfold bE at h;split at h;(first | rfl | exact h.elim);(first | rfl | exact h.elim)
theorem nS (D:mB K mg "is_text" c3 [.int 0,.int 4000]) (T:Txt mg) (TC:TxC K) (TX:TxX K mg):xb P w K mg base 1 "is_text" ["thing","least","most"] [.int 0,.int 4000] (spP K bE):=by
 refine D.ok nM (fun dT kV doc pm an cdv ct items us n hi hn hl=>?_) (fun vs H Q E h=>?_) (fun f cdv A outer s H vs Q E hr h=>?_)
 .obtain ⟨i0,i1,rfl⟩:∃i0 i1,items=[i0,i1]:=match items,hi with | [i0,i1],_=>⟨i0,i1,rfl⟩
  have hn':n=0\/n=1\/n=2:=by (have:n<=2:=hn);omega
  rcases hn' with rfl | rfl | rfl
  .have hl2:us.length=1:=by (simp at hl;omega)
   match us,hl2 with
   | [_],_=>exact ⟨_,rfl,rfl⟩
  .have hl2:us.length=2:=by (simp at hl;omega)
   match us,hl2 with
   | [_,_],_=>exact ⟨_,rfl,rfl⟩
  .have hl2:us.length=3:=by (simp at hl;omega)
   match us,hl2 with
   | [_,_,_],_=>exact ⟨_,rfl,rfl⟩
 .exact nJ jw h
 .have hu:=hr.units
  exact ⟨_,(ai (cL (PW.pt (kj (cX (bq (ao (pT K rfl) rfl T.b_isinstance boot_isinstance (paC (pv 0) (paC (eZ (v:=.ty "str") rfl T.b_str boot_str rfl) ag))))) (ki (cX (qW yj yj (pv 1) (ao (dQ K rfl) rfl T.b_len PySem.boot_len (paC (pv 0) ag)) (pv 2)))))) (al (aT fH)) bc) (al (aT (ao (y9 K rfl rfl) rfl T.b_all boot_all (paC (cG (wi:=(mH K (b5 0))) (g:=(dH 0)) (tts:=pf) (te:=(mq yi yi (tC (V.str (S [97]))) (b5 0) (tC (V.str (S [122]))))) ["sign"] [none] rfl (eP K rfl (pv 0)) (fun _ _ _ _=>⟨(bw (i:=0) (by show List.Nodup (["sign"]:List Str);decide +kernel) rfl (by first | exact Or.inl rfl | exact Or.inr rfl)),dP,(qV yj yj (bG (l:=[97]) (by decide +kernel)) (pv 0) (bG (l:=[122]) (by decide +kernel)))⟩) (by kernel_rfl)) ag))))),fnP (K:=K) (c:=bE) (ps:=eG) (N:=["thing","least","most"]) (aA (cZ (kQ (cY (ji (kR .str (ar (i:=0))))) (cY (lr (mD rJ rJ (ar (i:=1)) (ac (bz ci (aa (ar (i:=0)) ae))) (ar (i:=2)))))) (aV fN) bj) (aV (bz xy (aa (ac (cr (ix:=[none]) rfl (eQ (ay (i:=0))) (fun fs hc=>(a8 (i:=0) (n4 hc (by decide)))) gu (mD rJ rJ (ac (le_str (l:=[97]))) (ar (i:=0)) (ac (le_str (l:=[122])))))) ae)))) (fun ds Q h=>Nat.le_trans (Nat.le_of_eq (jw ds Q h)) (by decide)) nN h⟩
theorem eV:∀ds Q,aH ds Q->ds.length=2:=fun ds Q h=>by unfold aH at h;split at h;(first | rfl | exact h.elim);(first | rfl | exact h.elim)
theorem iZ (D:b4 K mg "first_place" dq) (T:Txt mg) (TC:TxC K) (TX:TxX K mg):Cal P w K mg base 1 "first_place" ["text","piece"] (spP K aH):=by
 refine D.ok iQ (fun _ _ _ _ _ _ us hl=>match us,hl with | [_,_],_=>rfl) (fun vs H Q E h=>?_) (fun f cdv A outer s H vs Q E hr h=>?_)
 .exact nJ eV h
 .have hu:=hr.units
  exact ⟨_,(al (aT (jh K rfl PySem.F.plainAttrs_str PySem.F.slot_str_find PySem.F.type_str_find rO (pv 0) (paC (pv 1) ag)))),fnP (K:=K) (c:=aH) (ps:=cb) (N:=["text","piece"]) (aV (rN rP (ay (i:=0)) (aa (ar (i:=1)) ae))) (fun ds Q h=>Nat.le_trans (Nat.le_of_eq (eV ds Q h)) (by decide)) iS h⟩
theorem tK:∀ds Q,dE ds Q->ds.length=2:=fun ds Q h=>by unfold dE at h;split at h;(first | rfl | exact h.elim);(first | rfl | exact h.elim)
theorem yb (D:b4 K mg "lap" vG) (T:Txt mg) (TC:TxC K) (TX:TxX K mg):Cal P w K mg base 1 "lap" ["one","other"] (spP K dE):=by
 refine D.ok tE (fun _ _ _ _ _ _ us hl=>match us,hl with | [_,_],_=>rfl) (fun vs H Q E h=>?_) (fun f cdv A outer s H vs Q E hr h=>?_)
 .exact nJ tK h
 .have hu:=hr.units
  exact ⟨_,(ai (kn PassesOwn.never rfl (oY rfl T.b_range (paC (bx uZ (ao (pV rfl) rfl T.b_min boot_min (paC (ao (dQ K rfl) rfl T.b_len PySem.boot_len (paC (pv 0) ag)) (paC (ao (dQ K rfl) rfl T.b_len PySem.boot_len (paC (pv 1) ag)) ag))) aw) (paC aw (paC (yq wy aw) ag)))) (bw (i:=2) tE.nd rfl (by first | exact Or.inl rfl | exact Or.inr rfl)) (al (cL (bq (jh K rfl PySem.F.plainAttrs_str PySem.F.slot_str_endswith PySem.F.type_str_endswith uV (pv 0) (paC (cN (sK K rfl) (pv 1) e5 (c6 (pv 2))) ag))) (al (aT (pv 2))) bc))) (al (aT aw))),fnP (K:=K) (c:=dE) (ps:=m4) (N:=["one","other","k"]) (aA (mI (y3 (aa (ac (aE pQ (ac (bz lN (aa (ac (bz ci (aa (ar (i:=0)) ae))) (aa (ac (bz ci (aa (ar (i:=1)) ae))) ae)))) (ac le_int))) (aa (ac le_int) (aa (ac (yP xH (ac le_int))) ae)))) (a8 (i:=2) rfl) (cZ (ji (rN uX (ay (i:=0)) (aa (ac (cO (ar (i:=1)) di (cw (ay (i:=2))))) ae))) (aV (ay (i:=2))) bj)) (aV le_int)) (fun ds Q h=>Nat.le_trans (Nat.le_of_eq (tK ds Q h)) (by decide)) x9 h⟩
theorem iF:∀ds Q,bh ds Q->ds.length=1:=fun ds Q h=>by unfold bh at h;split at h;(first | rfl | exact h.elim);(first | rfl | exact h.elim)
theorem mh (D:b4 K mg "all_laps" fZ) (T:Txt mg) (TC:TxC K) (TX:TxX K mg) (C_lap:Cal P w K mg base 1 "lap" ["one","other"] (spP K dE)):Cal P w K mg base 2 "all_laps" ["words"] (spP K bh):=by
 refine D.ok lZ (fun _ _ _ _ _ _ us hl=>match us,hl with | [_],_=>rfl) (fun vs H Q E h=>?_) (fun f cdv A outer s H vs Q E hr h=>?_)
 .exact nJ iF h
 .have hu:=hr.units
  exact ⟨_,(al (aT (bd (dk K rfl) rfl T.b_tuple boot_tuple (paC (cG (wi:=(mH K (b5 0))) (g:=(dH 0)) (tts:=pf) (te:=(tCB (uU K) (bg (pj [none,some 0] (mH K (b5 1)) (dH 0) pf (dI (spP K dE) [] E0 (bg (b5 1) (bg (b5 0) gg)))) gg))) ["one","words"] [none,some 0] rfl (eP K rfl (pv 0)) (fun _ _ _ _=>⟨(bw (i:=0) (by show List.Nodup (["one","words"]:List Str);decide +kernel) rfl (by first | exact Or.inl rfl | exact Or.inr rfl)),dP,(bd (dk K rfl) rfl T.b_tuple boot_tuple (paC (cG (wi:=(mH K (b5 1))) (g:=(dH 0)) (tts:=pf) (te:=(dI (spP K dE) [] E0 (bg (b5 1) (bg (b5 0) gg)))) ["other","one"] [none,some 0] rfl (eP K rfl (pv 1)) (fun _ _ _ _=>⟨(bw (i:=0) (by show List.Nodup (["other","one"]:List Str);decide +kernel) rfl (by first | exact Or.inl rfl | exact Or.inr rfl)),dP,(az C_lap (hr.mono (by decide)) (paC (pv 1) (paC (pv 0) ag)))⟩) (by kernel_rfl)) ag))⟩) (by kernel_rfl)) ag)))),fnP (K:=K) (c:=bh) (ps:=dy) (N:=["words"]) (aV (bz cz (aa (ac (cr (ix:=[none,some 0]) rfl (eQ (ay (i:=0))) (fun fs hc=>(a8 (i:=0) (n4 hc (by decide)))) gu (bz cz (aa (ac (cr (ix:=[none,some 0]) rfl (eQ (ay (i:=1))) (fun fs hc=>(a8 (i:=0) (n4 hc (by decide)))) gu (bi (c:=dE) (aa (ac (ay (i:=1))) (aa (ac (ay (i:=0))) ae))))) ae)))) ae))) (fun ds Q h=>Nat.le_trans (Nat.le_of_eq (iF ds Q h)) (by decide)) l6 h⟩
theorem b3:∀ds Q E,ap ds Q E->ds.length=1:=fun ds Q E h=>by unfold ap at h;split at h;(first | rfl | exact h.elim);(first | rfl | exact h.elim)
theorem iG (D:b4 K mg "check_pieces" cR) (T:Txt mg) (TC:TxC K) (TX:TxX K mg) (C_NoPiece_init:qh P w K mg base 1 (aq K "NoPiece") "NoPiece" "at") (C_TooMany_init:qh P w K mg base 1 (aq K "TooMany") "TooMany" "most") (C_is_text:xb P w K mg base 1 "is_text" ["thing","least","most"] [.int 0,.int 4000] (spP K bE)):xR P w K mg base 3 "check_pieces" ["things"] (spX K ap):=by
 refine D.okE cK (fun _ _ _ _ _ _ us hl=>match us,hl with | [_],_=>rfl) (fun vs H Q E h=>?_) (fun f cdv A outer s H vs Q E hr h=>?_)
 .exact Az b3 h
 .have hu:=hr.units
  exact ⟨_,(ai (cL (PT.nox (bS vX (ao (dQ K rfl) rfl T.b_len PySem.boot_len (paC (pv 0) ag)) (jL rfl T.g_MOST_PIECES) (bJ _))) (al (mU K rfl rfl sY (qi C_TooMany_init (hr.mono (by decide)) (paC (jL rfl T.g_MOST_PIECES) ag)))) bc) (al (kn PassesOwn.leaving rfl (rR K rfl rfl T.b_enumerate (paC (pv 0) ag)) (xK K rfl (n:=2) rfl (mn (bw (i:=1) cK.nd rfl (by first | exact Or.inl rfl | exact Or.inr rfl)) (mn (bw (i:=2) cK.nd rfl (by first | exact Or.inl rfl | exact Or.inr rfl)) tS))) (al (cL (PT.nox (cX (bq (rW 2 C_is_text (hr.mono (by decide)) (by decide) (paC (pv 2) (paC aw (paC (jL rfl T.g_MOST_SIGNS) ag))))))) (al (mU K rfl rfl sY (qi C_NoPiece_init (hr.mono (by decide)) (paC (pv 1) ag)))) bc))))),AA (K:=K) (c:=ap) (ps:=bX) (N:=["things","at","thing"]) (fun _=>(xT (xU (lr (aE nF (ac (bz ci (aa (ar (i:=0)) ae))) (ac (le_int (i:=40))))) (k8 TX.all (List.contains_iff_mem.mp (by decide +kernel)) (aa (ac (le_int (i:=40))) ae)) (LS.x bj)) (xV (uK (aa (ac (ay (i:=0))) ae)) (u8 (mF (a8 (i:=1) rfl) (mF (a8 (i:=2) rfl) uH))) (xU (cY (ji (rS (ds:=[]) (by repeat (first | exact .nil | exact .cons (.int _) .nil | refine .cons (.int _) ?_)) (aa (ac (ay (i:=2))) (aa (ac le_int) (aa (ac (le_int (i:=60))) ae)))))) (k8 TX.all (List.contains_iff_mem.mp (by decide +kernel)) (aa (ac (ay (i:=1))) ae)) (LS.x bj))))) (fun ds Q E h=>Nat.le_trans (Nat.le_of_eq (b3 ds Q E h)) (by decide)) iz h⟩
theorem dG:∀ds Q,ax ds Q->ds.length=2:=fun ds Q h=>by unfold ax at h;split at h;(first | rfl | exact h.elim);(first | rfl | exact h.elim)
theorem gJ (D:b4 K mg "stands_within" cJ) (T:Txt mg) (TC:TxC K) (TX:TxX K mg) (C_first_place:Cal P w K mg base 1 "first_place" ["text","piece"] (spP K aH)):Cal P w K mg base 2 "stands_within" ["piece","other"] (spP K ax):=by
 refine D.ok gC (fun _ _ _ _ _ _ us hl=>match us,hl with | [_,_],_=>rfl) (fun vs H Q E h=>?_) (fun f cdv A outer s H vs Q E hr h=>?_)
 .exact nJ dG h
 .have hu:=hr.units
  exact ⟨_,(al (aT (dN Aw (az C_first_place (hr.mono (by decide)) (paC (pv 1) (paC (pv 0) ag))) aw (bJ _)))),fnP (K:=K) (c:=ax) (ps:=bQ) (N:=["piece","other"]) (aV (aE yV (ac (bi (c:=aH) (aa (ac (ay (i:=1))) (aa (ac (ay (i:=0))) ae)))) (ac le_int))) (fun ds Q h=>Nat.le_trans (Nat.le_of_eq (dG ds Q h)) (by decide)) gG h⟩
theorem jx:∀ds Q,bn ds Q->ds.length=2:=fun ds Q h=>by unfold bn at h;split at h;(first | rfl | exact h.elim);(first | rfl | exact h.elim)
theorem nU (D:b4 K mg "is_kept" ic) (T:Txt mg) (TC:TxC K) (TX:TxX K mg) (C_stands_within:Cal P w K mg base 2 "stands_within" ["piece","other"] (spP K ax)):Cal P w K mg base 3 "is_kept" ["pieces","at"] (spP K bn):=by
 refine D.ok gb (fun _ _ _ _ _ _ us hl=>match us,hl with | [_,_],_=>rfl) (fun vs H Q E h=>?_) (fun f cdv A outer s H vs Q E hr h=>?_)
 .exact nJ jx h
 .have hu:=hr.units
  exact ⟨_,(ai (aU (i:=2) gb.nd rfl (by first | exact Or.inl rfl | exact Or.inr rfl) (c7 (jP K rfl) (pv 0) (pv 1) (fun _ _=>rfl))) (ai (uk (wi:=(mH K (b5 0))) (g:=(dH 0)) (tts:=(ou (tOp zZ (tCB (nG K) (bg (b5 0) gg)) (tCB (nG K) (bg (b5 1) gg))))) (te:=(b5 0)) (i:=3) ["other","piece"] [none,some 2] gb.nd rfl (Or.inl rfl) rfl (eP K rfl (pv 0)) (fun _ _ _ _=>⟨(bw (i:=0) (by show List.Nodup (["other","piece"]:List Str);decide +kernel) rfl (by first | exact Or.inl rfl | exact Or.inr rfl)),(jK (bS vX (ao (dQ K rfl) rfl T.b_len PySem.boot_len (paC (pv 0) ag)) (ao (dQ K rfl) rfl T.b_len PySem.boot_len (paC (pv 1) ag)) (bJ _))),(pv 0)⟩) (by kernel_rfl)) (al (aT (i7 (dN (mY K rfl) (pv 2) (cN (sK K rfl) (pv 0) e5 (c6 (pv 1))) (by with_unfolding_all rfl)) (mm (oi (ao (za K rfl rfl) rfl T.b_any boot_any (paC (cG (wi:=(mH K (b5 3))) (g:=(dH 0)) (tts:=pf) (te:=(dI (spP K ax) [] E0 (bg (b5 1) (bg (b5 0) gg)))) ["other","piece"] [none,some 2] rfl (eP K rfl (pv 3)) (fun _ _ _ _=>⟨(bw (i:=0) (by show List.Nodup (["other","piece"]:List Str);decide +kernel) rfl (by first | exact Or.inl rfl | exact Or.inr rfl)),dP,(az C_stands_within (hr.mono (by decide)) (paC (pv 1) (paC (pv 0) ag)))⟩) (by kernel_rfl)) ag))))))))),fnP (K:=K) (c:=bn) (ps:=eH) (N:=["pieces","at","piece","longer"]) (aA (aS (aE dh (ar (i:=0)) (ar (i:=1))) (aJ (i:=2) rfl)) (aA (aS (cr (ix:=[none,some 2]) rfl (eQ (ay (i:=0))) (fun fs hc=>(a8 (i:=0) (n4 hc (by decide)))) (lr (aE nF (ac (bz ci (aa (ar (i:=0)) ae))) (ac (bz ci (aa (ar (i:=1)) ae))))) (ay (i:=0))) (aJ (i:=3) rfl)) (aV (jj (aE tu (ar (i:=2)) (ac (cO (ar (i:=0)) di (cw (ay (i:=1)))))) (pP (bz xz (aa (ac (cr (ix:=[none,some 2]) rfl (eQ (ay (i:=3))) (fun fs hc=>(a8 (i:=0) (n4 hc (by decide)))) gu (bi (c:=ax) (aa (ac (ay (i:=1))) (aa (ac (ay (i:=0))) ae))))) ae))))))) (fun ds Q h=>Nat.le_trans (Nat.le_of_eq (jx ds Q h)) (by decide)) nO h⟩
theorem iH:∀ds Q,a7 ds Q->ds.length=3:=fun ds Q h=>by unfold a7 at h;split at h;(first | rfl | exact h.elim);(first | rfl | exact h.elim)
theorem mi (D:b4 K mg "left_row" f7) (T:Txt mg) (TC:TxC K) (TX:TxX K mg) (C_first_place:Cal P w K mg base 1 "first_place" ["text","piece"] (spP K aH)) (C_stands_within:Cal P w K mg base 2 "stands_within" ["piece","other"] (spP K ax)):Cal P w K mg base 3 "left_row" ["pieces","kept","at"] (spP K a7):=by
 refine D.ok ij (fun _ _ _ _ _ _ us hl=>match us,hl with | [_,_,_],_=>rfl) (fun vs H Q E h=>?_) (fun f cdv A outer s H vs Q E hr h=>?_)
 .exact nJ iH h
 .have hu:=hr.units
  exact ⟨_,(ai (aU (i:=3) ij.nd rfl (by first | exact Or.inl rfl | exact Or.inr rfl) (ao (xw K rfl rfl) rfl T.b_min boot_min (paC (cG (wi:=(mH K (b5 1))) (g:=(dH 0)) (tts:=(tB (dI (spP K ax) [] E0 (bg (tOp (uC K) (b5 1) (b5 2)) (bg (tOp (uC K) (b5 1) (b5 0)) gg))))) (te:=(b5 0)) ["one","pieces","at"] [none,some 0,some 2] rfl (eP K rfl (pv 1)) (fun _ _ _ _=>⟨(bw (i:=0) (by show List.Nodup (["one","pieces","at"]:List Str);decide +kernel) rfl (by first | exact Or.inl rfl | exact Or.inr rfl)),(jK (bq (az C_stands_within (hr.mono (by decide)) (paC (c7 (jP K rfl) (pv 1) (pv 2) (fun _ _=>rfl)) (paC (c7 (jP K rfl) (pv 1) (pv 0) (fun _ _=>rfl)) ag))))),(pv 0)⟩) (by kernel_rfl)) ag))) (al (aT (ko (paC (pv 2) (paC (pv 3) (paC (az C_first_place (hr.mono (by decide)) (paC (c7 (jP K rfl) (pv 0) (pv 3) (fun _ _=>rfl)) (paC (c7 (jP K rfl) (pv 0) (pv 2) (fun _ _=>rfl)) ag))) ag))))))),fnP (K:=K) (c:=a7) (ps:=dz) (N:=["pieces","kept","at","holder"]) (aA (aS (bz uS (aa (ac (cr (ix:=[none,some 0,some 2]) rfl (eQ (ay (i:=1))) (fun fs hc=>(a8 (i:=0) (n4 hc (by decide)))) (ji (bi (c:=ax) (aa (ac (aE dh (ar (i:=1)) (ar (i:=2)))) (aa (ac (aE dh (ar (i:=1)) (ar (i:=0)))) ae)))) (ay (i:=0)))) ae)) (aJ (i:=3) rfl)) (aV (pO (aa (ac (ay (i:=2))) (aa (ac (ay (i:=3))) (aa (ac (bi (c:=aH) (aa (ac (aE dh (ar (i:=0)) (ar (i:=3)))) (aa (ac (aE dh (ar (i:=0)) (ar (i:=2)))) ae)))) ae)))))) (fun ds Q h=>Nat.le_trans (Nat.le_of_eq (iH ds Q h)) (by decide)) l8 h⟩
theorem eW:∀p ds Q,aL p ds Q->ds.length + 1=2:=fun p ds Q h=>by unfold aL at h;split at h;(first | rfl | exact h.elim);(first | rfl | exact h.elim)
theorem i4 (D:hG K mg (aq K "Family") "Family" "Family.__init__" bf) (T:Txt mg) (TC:TxC K) (TX:TxX K mg) (C_all_laps:Cal P w K mg base 2 "all_laps" ["words"] (spP K bh)) (C_check_pieces:xR P w K mg base 3 "check_pieces" ["things"] (spX K ap)) (C_is_kept:Cal P w K mg base 3 "is_kept" ["pieces","at"] (spP K bn)) (C_left_row:Cal P w K mg base 3 "left_row" ["pieces","kept","at"] (spP K a7)):vQ P w K mg base 4 (aq K "Family") "Family" ["self","pieces"] (spR K aL):=by
 refine D.ok cU (fun _ _ _ _ _ _ us hl=>match us,hl with | [_,_],_=>rfl) (fun vs H Q E h=>?_) (fun f cdv A outer s H vs Q E hr h=>?_)
 .exact sQ eW h
 .have hu:=hr.units
  exact ⟨_,(ai (fJ (qv C_check_pieces (hr.mono (by decide)) px0 (paC (pv 1) ag))) (ai (ja (pv 0) (bd (dk K rfl) rfl T.b_tuple boot_tuple (paC (pv 1) ag)) rfl) (ai (aU (i:=2) cU.nd rfl (by first | exact Or.inl rfl | exact Or.inr rfl) (bd (xD K rfl rfl) rfl T.b_list boot_list (paC (pz rfl T.b_range (paC (ao (dQ K rfl) rfl T.b_len PySem.boot_len (paC (cq K rfl (pv 0) rfl) ag)) ag)) ag))) (ai (ja (pv 0) (bd (dk K rfl) rfl T.b_tuple boot_tuple (paC (cG (wi:=(mH K (b5 2))) (g:=(dH 0)) (tts:=(tB (dI (spP K bn) [] E0 (bg (qM K (b5 1) "pieces") (bg (b5 0) gg))))) (te:=(b5 0)) ["at","self"] [none,some 0] rfl (eP K rfl (pv 2)) (fun _ _ _ _=>⟨(bw (i:=0) (by show List.Nodup (["at","self"]:List Str);decide +kernel) rfl (by first | exact Or.inl rfl | exact Or.inr rfl)),(jK (bq (az C_is_kept (hr.mono (by decide)) (paC (cq K rfl (pv 1) rfl) (paC (pv 0) ag))))),(pv 0)⟩) (by kernel_rfl)) ag)) rfl) (ai (ja (pv 0) (bd (dk K rfl) rfl T.b_tuple boot_tuple (paC (cG (wi:=(mH K (qM K (b5 0) "kept"))) (g:=(dH 0)) (tts:=pf) (te:=(tOp (uC K) (qM K (b5 1) "pieces") (b5 0))) ["at","self"] [none,some 0] rfl (eP K rfl (cq K rfl (pv 0) rfl)) (fun _ _ _ _=>⟨(bw (i:=0) (by show List.Nodup (["at","self"]:List Str);decide +kernel) rfl (by first | exact Or.inl rfl | exact Or.inr rfl)),dP,(c7 (jP K rfl) (cq K rfl (pv 1) rfl) (pv 0) (fun _ _=>rfl))⟩) (by kernel_rfl)) ag)) rfl) (ai (ja (pv 0) (bd (dk K rfl) rfl T.b_tuple boot_tuple (paC (cG (wi:=(mH K (b5 2))) (g:=(dH 0)) (tts:=(ou (tOp (zu K true) (b5 0) (qM K (b5 1) "kept")))) (te:=(dI (spP K a7) [] E0 (bg (qM K (b5 1) "pieces") (bg (qM K (b5 1) "kept") (bg (b5 0) gg))))) ["at","self"] [none,some 0] rfl (eP K rfl (pv 2)) (fun _ _ _ _=>⟨(bw (i:=0) (by show List.Nodup (["at","self"]:List Str);decide +kernel) rfl (by first | exact Or.inl rfl | exact Or.inr rfl)),(jK (bS (mY K rfl) (pv 0) (cq K rfl (pv 1) rfl) (by with_unfolding_all rfl))),(az C_left_row (hr.mono (by decide)) (paC (cq K rfl (pv 1) rfl) (paC (cq K rfl (pv 1) rfl) (paC (pv 0) ag))))⟩) (by kernel_rfl)) ag)) rfl) (ai (ja (pv 0) (az C_all_laps (hr.mono (by decide)) (paC (cq K rfl (pv 0) rfl) ag)) rfl) (al (ja (pv 0) (ao (xx K rfl rfl) rfl T.b_sum boot_sum (paC (cG (wi:=(mH K (qM K (b5 0) "words"))) (g:=(dH 0)) (tts:=pf) (te:=(tCB (nG K) (bg (b5 0) gg))) ["word"] [none] rfl (eP K rfl (cq K rfl (pv 0) rfl)) (fun _ _ _ _=>⟨(bw (i:=0) (by show List.Nodup (["word"]:List Str);decide +kernel) rfl (by first | exact Or.inl rfl | exact Or.inr rfl)),dP,(ao (dQ K rfl) rfl T.b_len PySem.boot_len (paC (pv 0) ag))⟩) (by kernel_rfl)) ag)) rfl))))))))),fnR (K:=K) (c:=aL) (ps:=ce) (N:=["self","pieces","indexes"]) (aA (lK (sh (c:=ap) (aa (ac (ay (i:=1))) ae))) (aA (fR (c0:="Family") (ns0:=[]) (i:=0) TC.cl_Family TC.n_Family_pieces (by decide +kernel) (bz cz (aa (ar (i:=1)) ae))) (aA (aS (rM false (aa (ac (bz ci (aa (ac (dD (ns0:=["pieces"]) TC.cl_Family TC.n_Family_pieces (i:=0) (by decide +kernel) (ar (i:=0)))) ae))) ae)) (aJ (i:=2) rfl)) (aA (fR (c0:="Family") (ns0:=["pieces"]) (i:=0) TC.cl_Family TC.n_Family_kept (by decide +kernel) (bz cz (aa (ac (cr (ix:=[none,some 0]) rfl (eQ (ay (i:=2))) (fun fs hc=>(a8 (i:=0) (n4 hc (by decide)))) (ji (bi (c:=bn) (aa (ac (dD (ns0:=["pieces"]) TC.cl_Family TC.n_Family_pieces (i:=0) (by decide +kernel) (ar (i:=1)))) (aa (ac (ay (i:=0))) ae)))) (ay (i:=0)))) ae))) (aA (fR (c0:="Family") (ns0:=["pieces","kept"]) (i:=0) TC.cl_Family TC.n_Family_words (by decide +kernel) (bz cz (aa (ac (cr (ix:=[none,some 0]) rfl (eQ (dD (ns0:=["pieces","kept"]) TC.cl_Family TC.n_Family_kept (i:=1) (by decide +kernel) (ar (i:=0)))) (fun fs hc=>(a8 (i:=0) (n4 hc (by decide)))) gu (aE dh (ac (dD (ns0:=["pieces","kept"]) TC.cl_Family TC.n_Family_pieces (i:=0) (by decide +kernel) (ar (i:=1)))) (ar (i:=0))))) ae))) (aA (fR (c0:="Family") (ns0:=["pieces","kept","words"]) (i:=0) TC.cl_Family TC.n_Family_left (by decide +kernel) (bz cz (aa (ac (cr (ix:=[none,some 0]) rfl (eQ (ay (i:=2))) (fun fs hc=>(a8 (i:=0) (n4 hc (by decide)))) (lr (aE tu (ar (i:=0)) (ac (dD (ns0:=["pieces","kept","words"]) TC.cl_Family TC.n_Family_kept (i:=1) (by decide +kernel) (ar (i:=1)))))) (bi (c:=a7) (aa (ac (dD (ns0:=["pieces","kept","words"]) TC.cl_Family TC.n_Family_pieces (i:=0) (by decide +kernel) (ar (i:=1)))) (aa (ac (dD (ns0:=["pieces","kept","words"]) TC.cl_Family TC.n_Family_kept (i:=1) (by decide +kernel) (ar (i:=1)))) (aa (ac (ay (i:=0))) ae)))))) ae))) (aA (fR (c0:="Family") (ns0:=["pieces","kept","words","left"]) (i:=0) TC.cl_Family TC.n_Family_laps (by decide +kernel) (bi (c:=bh) (aa (ac (dD (ns0:=["pieces","kept","words","left"]) TC.cl_Family TC.n_Family_words (i:=2) (by decide +kernel) (ar (i:=0)))) ae))) (fR (c0:="Family") (ns0:=["pieces","kept","words","left","laps"]) (i:=0) TC.cl_Family TC.n_Family_total (by decide +kernel) (bz uT (aa (ac (cr (ix:=[none]) rfl (eQ (dD (ns0:=["pieces","kept","words","left","laps"]) TC.cl_Family TC.n_Family_words (i:=2) (by decide +kernel) (ar (i:=0)))) (fun fs hc=>(a8 (i:=0) (n4 hc (by decide)))) gu (bz ci (aa (ar (i:=0)) ae)))) ae)))))))))) (fun p ds Q h=>Nat.le_trans (Nat.le_of_eq (eW p ds Q h)) (by decide)) iT h⟩
theorem fE:∀ds Q,aW ds Q->ds.length=2:=fun ds Q h=>by unfold aW at h;split at h;(first | rfl | exact h.elim);(first | rfl | exact h.elim)
theorem kc (D:b4 K mg "_law_stream" ef) (T:Txt mg) (TC:TxC K) (TX:TxX K mg):Cal P w K mg base 1 "_law_stream" ["_law_script","_law_k"] (spP K aW):=by
 refine D.ok dw (fun _ _ _ _ _ _ us hl=>match us,hl with | [_,_],_=>rfl) (fun vs H Q E h=>?_) (fun f cdv A outer s H vs Q E hr h=>?_)
 .exact nJ fE h
 .have hu:=hr.units
  exact ⟨_,(ai (aU (i:=2) dw.nd rfl (by first | exact Or.inl rfl | exact Or.inr rfl) (bx (cv K rfl) (bx jO (bx jO (pv 1) (pv 1)) aw) aw)) (ai (jH (cL (bS zS (pv 1) (ao (dQ K rfl) rfl T.b_len PySem.boot_len (paC (pv 0) ag)) (bJ _)) (al (aU (i:=2) dw.nd rfl (by first | exact Or.inl rfl | exact Or.inr rfl) (ao y6 rfl T.b_abs boot_abs (paC (c7 (jP K rfl) (pv 0) (pv 1) (fun _ _=>rfl)) ag)))) bc)) (al (aT (gi (paC (pv 2) (paC (bx (cv K rfl) (bx (cv K rfl) (bx lP (pv 2) aw) (bx jO (pv 1) aw)) aw) ag))))))),fnP (K:=K) (c:=aW) (ps:=cC) (N:=["_law_script","_law_k","_law_cell"]) (aA (aS (aE bI (ac (aE fj (ac (aE fj (ar (i:=1)) (ar (i:=1)))) (ac le_int))) (ac le_int)) (aJ (i:=2) rfl)) (aA (jR (cZ (lr (aE xj (ar (i:=1)) (ac (bz ci (aa (ar (i:=0)) ae))))) (aS (bz xt (aa (ac (aE dh (ar (i:=0)) (ar (i:=1)))) ae)) (aJ (i:=2) rfl)) bj)) (aV (gn (aa (ac (ay (i:=2))) (aa (ac (aE bI (ac (aE bI (ac (aE hX (ar (i:=2)) (ac le_int))) (ac (aE fj (ar (i:=1)) (ac le_int))))) (ac le_int))) ae)))))) (fun ds Q h=>Nat.le_trans (Nat.le_of_eq (fE ds Q h)) (by decide)) j7 h⟩
theorem iI:∀p ds Q,aj p ds Q->ds.length + 1=2:=fun p ds Q h=>by unfold aj at h;split at h;(first | rfl | exact h.elim);(first | rfl | exact h.elim)
theorem mj (D:b4 K mg "_law_take" f8) (T:Txt mg) (TC:TxC K) (TX:TxX K mg):Cal P w K mg base 1 "_law_take" ["_law_stream_here","_law_most"] (spR K aj):=by
 refine D.ok ik (fun _ _ _ _ _ _ us hl=>match us,hl with | [_,_],_=>rfl) (fun vs H Q E h=>?_) (fun f cdv A outer s H vs Q E hr h=>?_)
 .exact sQ iI h
 .have hu:=hr.units
  exact ⟨_,(ai (cL (bS vX (c7 (jP K rfl) (pv 0) aw (fun _ _=>rfl)) aw (bJ _)) (ai (aU (i:=2) ik.nd rfl (by first | exact Or.inl rfl | exact Or.inr rfl) (bx lP (c7 (jP K rfl) (pv 0) aw (fun _ _=>rfl)) (pv 1))) (ai (j5 (bx xG (c7 (jP K rfl) (pv 0) aw (fun _ _=>rfl)) (pv 1)) (mo (pv 0) aw gK)) (al (aT (pv 2))))) bc) (ai (j5 (bx lP (bx (cv K rfl) (bx jO (c7 (jP K rfl) (pv 0) aw (fun _ _=>rfl)) aw) aw) aw) (mo (pv 0) aw gK)) (al (aT (bx lP (bx lP (bx jO (c7 (jP K rfl) (pv 0) aw (fun _ _=>rfl)) (c7 (jP K rfl) (pv 0) aw (fun _ _=>rfl))) aw) (pv 1)))))),fnR (K:=K) (c:=aj) (ps:=dA) (N:=["_law_stream_here","_law_most","_law_digit"]) (aA (cZ (lr (aE nF (ac (aE dh (ar (i:=0)) (ac le_int))) (ac le_int))) (aA (aS (aE hX (ac (aE dh (ar (i:=0)) (ac le_int))) (ar (i:=1))) (aJ (i:=2) rfl)) (aA (jU (i:=0) (aE uA (ac (aE dh (ar (i:=0)) (ac le_int))) (ar (i:=1))) le_int) (aV (ay (i:=2))))) bj) (aA (jU (i:=0) (aE hX (ac (aE bI (ac (aE fj (ac (aE dh (ar (i:=0)) (ac le_int))) (ac le_int))) (ac le_int))) (ac le_int)) le_int) (aV (aE hX (ac (aE hX (ac (aE fj (ac (aE dh (ar (i:=0)) (ac le_int))) (ac (aE dh (ar (i:=0)) (ac le_int))))) (ac le_int))) (ar (i:=1)))))) (fun p ds Q h=>Nat.le_trans (Nat.le_of_eq (iI p ds Q h)) (by decide)) l9 h⟩
theorem eX:∀p ds Q,aX p ds Q->ds.length + 1=1:=fun p ds Q h=>by unfold aX at h;split at h;(first | rfl | exact h.elim);(first | rfl | exact h.elim)
theorem i5 (D:b4 K mg "_law_letters" dr) (T:Txt mg) (TC:TxC K) (TX:TxX K mg) (C_law_take:Cal P w K mg base 1 "_law_take" ["_law_stream_here","_law_most"] (spR K aj)):Cal P w K mg base 2 "_law_letters" ["_law_stream_here"] (spR K aX):=by
 refine D.ok cV (fun _ _ _ _ _ _ us hl=>match us,hl with | [_],_=>rfl) (fun vs H Q E h=>?_) (fun f cdv A outer s H vs Q E hr h=>?_)
 .exact sQ eX h
 .have hu:=hr.units
  exact ⟨_,(ai (aU (i:=1) cV.nd rfl (by first | exact Or.inl rfl | exact Or.inr rfl) (bG (l:=[97,98,99,100,101,102,103,104,105,106,107,108,109,110,111,112,113,114,115,116,117,118,119,120,121,122]) (by decide +kernel))) (ai (aU (i:=2) cV.nd rfl (by first | exact Or.inl rfl | exact Or.inr rfl) (az C_law_take (hr.mono (by decide)) (paC (pv 0) (paC aw ag)))) (ai (cL (bS (h9 K rfl hu) (pv 2) aw (bJ _)) (al (aT (pv 1))) bc) (al (aT (jh K rfl PySem.F.plainAttrs_str PySem.F.slot_str_join PySem.F.type_str_join (mM K rfl) (bG (l:=[]) (by decide +kernel)) (paC (cG (wi:=(qU (bg (tOp (sm K) (tC (V.int 2)) (tOp xF (b5 2) (tC (V.int 2)))) gg))) (g:=(dH 0)) (tts:=pf) (te:=(tOp (uC K) (b5 1) (dI (spR K aj) [] E0 (bg (b5 2) (bg (tC (V.int 26)) gg))))) ["_law_k","_law_alphabet","_law_stream_here"] [none,some 1,some 0] rfl (dM rfl T.b_range (paC (bx (cv K rfl) aw (bx lP (pv 2) aw)) ag)) (fun _ _ _ _=>⟨(bw (i:=0) (by show List.Nodup (["_law_k","_law_alphabet","_law_stream_here"]:List Str);decide +kernel) rfl (by first | exact Or.inl rfl | exact Or.inr rfl)),dP,(c7 (jP K rfl) (pv 1) (az C_law_take (hr.mono (by decide)) (paC (pv 2) (paC aw ag))) (fun _ _=>rfl))⟩) (by kernel_rfl)) ag))))))),fnR (K:=K) (c:=aX) (ps:=cf) (N:=["_law_stream_here","_law_alphabet","_law_way"]) (aA (aS (le_str (l:=[97,98,99,100,101,102,103,104,105,106,107,108,109,110,111,112,113,114,115,116,117,118,119,120,121,122])) (aJ (i:=1) rfl)) (aA (aS (aG (i:=0) (aa (ac le_int) ae)) (aJ (i:=2) rfl)) (aA (cZ (lr (aE dY (ar (i:=2)) (ac le_int))) (aV (ay (i:=1))) bj) (aV (rN mP (le_str (l:=[])) (aa (ac (cr (ix:=[none,some 1,some 0]) rfl (pU (aa (ac (aE bI (ac le_int) (ac (aE hX (ar (i:=2)) (ac le_int))))) ae)) (fun fs hc=>(a8 (i:=0) (n4 hc (by decide)))) gu (aE dh (ar (i:=1)) (ac (aG (i:=2) (aa (ac le_int) ae)))))) ae)))))) (fun p ds Q h=>Nat.le_trans (Nat.le_of_eq (eX p ds Q h)) (by decide)) iV h⟩
theorem iJ:∀p ds Q,aY p ds Q->ds.length + 1=3:=fun p ds Q h=>by unfold aY at h;split at h;(first | rfl | exact h.elim);(first | rfl | exact h.elim)
theorem ml (D:b4 K mg "_law_word" f9) (T:Txt mg) (TC:TxC K) (TX:TxX K mg) (C_law_take:Cal P w K mg base 1 "_law_take" ["_law_stream_here","_law_most"] (spR K aj)):Cal P w K mg base 2 "_law_word" ["_law_stream_here","_law_letters_here","_law_most"] (spR K aY):=by
 refine D.ok l0 (fun _ _ _ _ _ _ us hl=>match us,hl with | [_,_,_],_=>rfl) (fun vs H Q E h=>?_) (fun f cdv A outer s H vs Q E hr h=>?_)
 .exact sQ iJ h
 .have hu:=hr.units
  exact ⟨_,(al (aT (jh K rfl PySem.F.plainAttrs_str PySem.F.slot_str_join PySem.F.type_str_join (mM K rfl) (bG (l:=[]) (by decide +kernel)) (paC (cG (wi:=(qU (bg (tOp (sm K) (tC (V.int 1)) (dI (spR K aj) [] E0 (bg (b5 0) (bg (b5 2) gg)))) gg))) (g:=(dH 0)) (tts:=pf) (te:=(tOp (uC K) (b5 1) (dI (spR K aj) [] E0 (bg (b5 2) (bg (tCB (nG K) (bg (b5 1) gg)) gg))))) ["_law_k","_law_letters_here","_law_stream_here"] [none,some 1,some 0] rfl (dM rfl T.b_range (paC (bx (cv K rfl) aw (az C_law_take (hr.mono (by decide)) (paC (pv 0) (paC (pv 2) ag)))) ag)) (fun _ _ _ _=>⟨(bw (i:=0) (by show List.Nodup (["_law_k","_law_letters_here","_law_stream_here"]:List Str);decide +kernel) rfl (by first | exact Or.inl rfl | exact Or.inr rfl)),dP,(c7 (jP K rfl) (pv 1) (az C_law_take (hr.mono (by decide)) (paC (pv 2) (paC (ao (dQ K rfl) rfl T.b_len PySem.boot_len (paC (pv 1) ag)) ag))) (fun _ _=>rfl))⟩) (by kernel_rfl)) ag)))),fnR (K:=K) (c:=aY) (ps:=dB) (N:=["_law_stream_here","_law_letters_here","_law_most"]) (aV (rN mP (le_str (l:=[])) (aa (ac (cr (ix:=[none,some 1,some 0]) rfl (pU (aa (ac (aE bI (ac le_int) (ac (aG (i:=0) (aa (ac (ay (i:=2))) ae))))) ae)) (fun fs hc=>(a8 (i:=0) (n4 hc (by decide)))) gu (aE dh (ar (i:=1)) (ac (aG (i:=2) (aa (ac (bz ci (aa (ar (i:=1)) ae))) ae)))))) ae))) (fun p ds Q h=>Nat.le_trans (Nat.le_of_eq (iJ p ds Q h)) (by decide)) ma h⟩
theorem jy:∀p ds Q,bu p ds Q->ds.length + 1=3:=fun p ds Q h=>by unfold bu at h;split at h;(first | rfl | exact h.elim);(first | rfl | exact h.elim)
theorem nV (D:b4 K mg "_law_cut" ie) (T:Txt mg) (TC:TxC K) (TX:TxX K mg) (C_law_take:Cal P w K mg base 1 "_law_take" ["_law_stream_here","_law_most"] (spR K aj)):Cal P w K mg base 2 "_law_cut" ["_law_stream_here","_law_text","_law_most"] (spR K bu):=by
 refine D.ok jq (fun _ _ _ _ _ _ us hl=>match us,hl with | [_,_,_],_=>rfl) (fun vs H Q E h=>?_) (fun f cdv A outer s H vs Q E hr h=>?_)
 .exact sQ jy h
 .have hu:=hr.units
  exact ⟨_,(ai (aU (i:=3) jq.nd rfl (by first | exact Or.inl rfl | exact Or.inr rfl) (az C_law_take (hr.mono (by decide)) (paC (pv 0) (paC (ao (dQ K rfl) rfl T.b_len PySem.boot_len (paC (pv 1) ag)) ag)))) (al (aT (cN (sK K rfl) (pv 1) (c6 (pv 3)) (c6 (bx (cv K rfl) (bx (cv K rfl) (pv 3) aw) (az C_law_take (hr.mono (by decide)) (paC (pv 0) (paC (pv 2) ag))))))))),fnR (K:=K) (c:=bu) (ps:=eI) (N:=["_law_stream_here","_law_text","_law_most","_law_at"]) (aA (aS (aG (i:=0) (aa (ac (bz ci (aa (ar (i:=1)) ae))) ae)) (aJ (i:=3) rfl)) (aV (cO (ar (i:=1)) (cw (ay (i:=3))) (cw (aE bI (ac (aE bI (ar (i:=3)) (ac le_int))) (ac (aG (i:=0) (aa (ac (ay (i:=2))) ae)))))))) (fun p ds Q h=>Nat.le_trans (Nat.le_of_eq (jy p ds Q h)) (by decide)) nP h⟩
theorem fF:∀p ds Q,a4 p ds Q->ds.length + 1=3:=fun p ds Q h=>by unfold a4 at h;split at h;(first | rfl | exact h.elim);(first | rfl | exact h.elim)
theorem kd (D:b4 K mg "_law_pieces" eg) (T:Txt mg) (TC:TxC K) (TX:TxX K mg) (C_law_cut:Cal P w K mg base 2 "_law_cut" ["_law_stream_here","_law_text","_law_most"] (spR K bu)) (C_law_letters:Cal P w K mg base 2 "_law_letters" ["_law_stream_here"] (spR K aX)) (C_law_take:Cal P w K mg base 1 "_law_take" ["_law_stream_here","_law_most"] (spR K aj)) (C_law_word:Cal P w K mg base 2 "_law_word" ["_law_stream_here","_law_letters_here","_law_most"] (spR K aY)):Cal P w K mg base 3 "_law_pieces" ["_law_stream_here","_law_many","_law_most"] (spR K a4):=by
 refine D.ok aR (fun _ _ _ _ _ _ us hl=>match us,hl with | [_,_,_],_=>rfl) (fun vs H Q E h=>?_) (fun f cdv A outer s H vs Q E hr h=>?_)
 .exact sQ fF h
 .have hu:=hr.units
  exact ⟨_,(ai (aU (i:=3) aR.nd rfl (by first | exact Or.inl rfl | exact Or.inr rfl) (az C_law_letters (hr.mono (by decide)) (paC (pv 0) ag))) (ai (aU (i:=4) aR.nd rfl (by first | exact Or.inl rfl | exact Or.inr rfl) (az C_law_word (hr.mono (by decide)) (paC (pv 0) (paC (pv 3) (paC (bx jO aw (pv 2)) ag))))) (ai (jH (cL (bS (h9 K rfl hu) (az C_law_take (hr.mono (by decide)) (paC (pv 0) (paC aw ag))) aw (bJ _)) (al (aU (i:=4) aR.nd rfl (by first | exact Or.inl rfl | exact Or.inr rfl) (bx jO (cN (sK K rfl) (pv 4) e5 (c6 (bx (cv K rfl) aw (az C_law_take (hr.mono (by decide)) (paC (pv 0) (paC aw ag)))))) (pv 2)))) bc)) (ai (aU (i:=5) aR.nd rfl (by first | exact Or.inl rfl | exact Or.inr rfl) (gi ag)) (ai (kn PassesOwn.never rfl (dM rfl T.b_range (paC (pv 1) ag)) (bw (i:=6) aR.nd rfl (by first | exact Or.inl rfl | exact Or.inr rfl)) (ai (aU (i:=7) aR.nd rfl (by first | exact Or.inl rfl | exact Or.inr rfl) (az C_law_take (hr.mono (by decide)) (paC (pv 0) (paC aw ag)))) (ai (jH (cL (PW.pt (wg (bS vX (pv 7) aw (bJ _)) (tQ (bS vX (ao (dQ K rfl) rfl T.b_len PySem.boot_len (paC (pv 5) ag)) aw (bJ _))))) (ai (aU (i:=8) aR.nd rfl (by first | exact Or.inl rfl | exact Or.inr rfl) (c7 (jP K rfl) (pv 5) (az C_law_take (hr.mono (by decide)) (paC (pv 0) (paC (ao (dQ K rfl) rfl T.b_len PySem.boot_len (paC (pv 5) ag)) ag))) (fun _ _=>rfl))) (al (cL (bS (h9 K rfl hu) (pv 7) aw (bJ _)) (al (aU (i:=8) aR.nd rfl (by first | exact Or.inl rfl | exact Or.inr rfl) (az C_law_cut (hr.mono (by decide)) (paC (pv 0) (paC (pv 8) (paC (pv 2) ag)))))) bc))) (al (cL (bS (h9 K rfl hu) (bx lP (pv 7) aw) aw (bJ _)) (al (aU (i:=8) aR.nd rfl (by first | exact Or.inl rfl | exact Or.inr rfl) (az C_law_cut (hr.mono (by decide)) (paC (pv 0) (paC (pv 4) (paC (pv 2) ag)))))) (al (aU (i:=8) aR.nd rfl (by first | exact Or.inl rfl | exact Or.inr rfl) (az C_law_word (hr.mono (by decide)) (paC (pv 0) (paC (pv 3) (paC (pv 2) ag)))))))))) (al (fJ (jh K rfl PySem.F.plainAttrs_list PySem.F.slot_list_append PySem.F.type_list_append gU (pv 5) (paC (pv 8) ag))))))) (al (aT (pv 5)))))))),fnR (K:=K) (c:=a4) (ps:=cD) (N:=["_law_stream_here","_law_many","_law_most","_law_letters_here","_law_base","_law_found","_law_k","_law_way","_law_piece"]) (aA (aS (aG (i:=0) ae) (aJ (i:=3) rfl)) (aA (aS (aG (i:=0) (aa (ac (ay (i:=3))) (aa (ac (aE fj (ac le_int) (ar (i:=2)))) ae))) (aJ (i:=4) rfl)) (aA (jR (cZ (lr (aE dY (ac (aG (i:=0) (aa (ac le_int) ae))) (ac le_int))) (aS (aE fj (ac (cO (ar (i:=4)) di (cw (aE bI (ac le_int) (ac (aG (i:=0) (aa (ac le_int) ae))))))) (ar (i:=2))) (aJ (i:=4) rfl)) bj)) (aA (aS (gn ae) (aJ (i:=5) rfl)) (aA (mI (pU (aa (ac (ay (i:=1))) ae)) (a8 (i:=6) rfl) (aA (aS (aG (i:=0) (aa (ac le_int) ae)) (aJ (i:=7) rfl)) (aA (jR (cZ (xg (lr (aE nF (ar (i:=7)) (ac le_int))) (lr (aE nF (ac (bz ci (aa (ar (i:=5)) ae))) (ac le_int)))) (aA (aS (aE dh (ar (i:=5)) (ac (aG (i:=0) (aa (ac (bz ci (aa (ar (i:=5)) ae))) ae)))) (aJ (i:=8) rfl)) (cZ (lr (aE dY (ar (i:=7)) (ac le_int))) (aS (aG (i:=0) (aa (ac (ay (i:=8))) (aa (ac (ay (i:=2))) ae))) (aJ (i:=8) rfl)) bj)) (cZ (lr (aE dY (ac (aE hX (ar (i:=7)) (ac le_int))) (ac le_int))) (aS (aG (i:=0) (aa (ac (ay (i:=4))) (aa (ac (ay (i:=2))) ae))) (aJ (i:=8) rfl)) (aS (aG (i:=0) (aa (ac (ay (i:=3))) (aa (ac (ay (i:=2))) ae))) (aJ (i:=8) rfl))))) (lK (sM (i:=5) (ay (i:=8))))))) (aV (ay (i:=5)))))))) (fun p ds Q h=>Nat.le_trans (Nat.le_of_eq (fF p ds Q h)) (by decide)) j8 h⟩
theorem jz:∀p ds Q,bv p ds Q->ds.length + 1=1:=fun p ds Q h=>by unfold bv at h;split at h;(first | rfl | exact h.elim);(first | rfl | exact h.elim)
theorem nW (D:b4 K mg "_law_odd" ig) (T:Txt mg) (TC:TxC K) (TX:TxX K mg) (C_law_take:Cal P w K mg base 1 "_law_take" ["_law_stream_here","_law_most"] (spR K aj)) (C_law_word:Cal P w K mg base 2 "_law_word" ["_law_stream_here","_law_letters_here","_law_most"] (spR K aY)):Cal P w K mg base 3 "_law_odd" ["_law_stream_here"] (spR K bv):=by
 refine D.ok b6 (fun _ _ _ _ _ _ us hl=>match us,hl with | [_],_=>rfl) (fun vs H Q E h=>?_) (fun f cdv A outer s H vs Q E hr h=>?_)
 .exact sQ jz h
 .have hu:=hr.units
  exact ⟨_,(@ai _ _ _ _ _ (@aU _ _ 1 _ _ _ _ b6.nd rfl (by first | exact Or.inl rfl | exact Or.inr rfl) (@bG _ _ _ ([97,98,99,100,101,102,103,104,105,106,107,108,109,110,111,112,113,114,115,116,117,118,119,120,121,122]) _ (by decide +kernel)) rfl (by first | exact .inl rfl | exact .inr rfl | assumption)) (@ai _ _ _ _ _ (@aU _ _ 2 _ _ _ _ b6.nd rfl (by first | exact Or.inl rfl | exact Or.inr rfl) (@az _ _ _ _ _ _ _ _ _ _ C_law_take (hr.mono (by decide)) (@paC _ _ _ _ _ (@pv _ 0 _ _ rfl (by first | exact Or.inl rfl | exact Or.inr (Or.inl rfl) | exact Or.inr (Or.inr rfl)) (by decide) (by decide)) (@paC _ _ _ _ _ aw ag rfl) rfl) rfl (by decide) rfl rfl) rfl (by first | exact .inl rfl | exact .inr rfl | assumption)) (@ai _ _ _ _ _ (@cL _ _ _ _ _ _ _ _ (@bS _ _ _ _ _ _ _ _ (h9 K rfl hu) (@pv _ 2 _ _ rfl (by first | exact Or.inl rfl | exact Or.inr (Or.inl rfl) | exact Or.inr (Or.inr rfl)) (by decide) (by decide)) aw (bJ _)) (@al _ _ _ (@aT _ _ _ _ (@bx _ _ _ _ _ _ _ _ jO (@c7 _ _ _ _ _ _ _ (jP K rfl) (@pv _ 1 _ _ rfl (by first | exact Or.inl rfl | exact Or.inr (Or.inl rfl) | exact Or.inr (Or.inr rfl)) (by decide) (by decide)) (@az _ _ _ _ _ _ _ _ _ _ C_law_take (hr.mono (by decide)) (@paC _ _ _ _ _ (@pv _ 0 _ _ rfl (by first | exact Or.inl rfl | exact Or.inr (Or.inl rfl) | exact Or.inr (Or.inr rfl)) (by decide) (by decide)) (@paC _ _ _ _ _ aw ag rfl) rfl) rfl (by decide) rfl rfl) (fun _ _=>rfl)) (@bx _ _ _ _ _ _ _ _ (cv K rfl) aw (@az _ _ _ _ _ _ _ _ _ _ C_law_take (hr.mono (by decide)) (@paC _ _ _ _ _ (@pv _ 0 _ _ rfl (by first | exact Or.inl rfl | exact Or.inr (Or.inl rfl) | exact Or.inr (Or.inr rfl)) (by decide) (by decide)) (@paC _ _ _ _ _ aw ag rfl) rfl) rfl (by decide) rfl rfl))))) bc) (@ai _ _ _ _ _ (@cL _ _ _ _ _ _ _ _ (@bS _ _ _ _ _ _ _ _ zS (@pv _ 2 _ _ rfl (by first | exact Or.inl rfl | exact Or.inr (Or.inl rfl) | exact Or.inr (Or.inr rfl)) (by decide) (by decide)) aw (bJ _)) (@ai _ _ _ _ _ (@aU _ _ 3 _ _ _ _ b6.nd rfl (by first | exact Or.inl rfl | exact Or.inr rfl) (@bG _ _ _ ([32,33,34,35,36,38,39,40,41,42,43,44,45,46,47,48,49,50,51,52,53,54,55,56,57,58,59,60,61,62,63,64,65,66,67,68,69,70,71,72,73,74,75,76,77,78,79,80,81,82,83,84,85,86,87,88,89,90,91,92,93,94,95,96,123,124,125,126,10]) _ (by decide +kernel)) rfl (by first | exact .inl rfl | exact .inr rfl | assumption)) (@ai _ _ _ _ _ (@aU _ _ 4 _ _ _ _ b6.nd rfl (by first | exact Or.inl rfl | exact Or.inr rfl) (@az _ _ _ _ _ _ _ _ _ _ C_law_word (hr.mono (by decide)) (@paC _ _ _ _ _ (@pv _ 0 _ _ rfl (by first | exact Or.inl rfl | exact Or.inr (Or.inl rfl) | exact Or.inr (Or.inr rfl)) (by decide) (by decide)) (@paC _ _ _ _ _ (@pv _ 1 _ _ rfl (by first | exact Or.inl rfl | exact Or.inr (Or.inl rfl) | exact Or.inr (Or.inr rfl)) (by decide) (by decide)) (@paC _ _ _ _ _ aw ag rfl) rfl) rfl) rfl (by decide) rfl rfl) rfl (by first | exact .inl rfl | exact .inr rfl | assumption)) (@ai _ _ _ _ _ (@aU _ _ 5 _ _ _ _ b6.nd rfl (by first | exact Or.inl rfl | exact Or.inr rfl) (@az _ _ _ _ _ _ _ _ _ _ C_law_take (hr.mono (by decide)) (@paC _ _ _ _ _ (@pv _ 0 _ _ rfl (by first | exact Or.inl rfl | exact Or.inr (Or.inl rfl) | exact Or.inr (Or.inr rfl)) (by decide) (by decide)) (@paC _ _ _ _ _ (@bx _ _ _ _ _ _ _ _ (cv K rfl) (@ao _ _ _ _ _ _ _ _ _ (dQ K rfl) rfl T.b_len PySem.boot_len (@paC _ _ _ _ _ (@pv _ 4 _ _ rfl (by first | exact Or.inl rfl | exact Or.inr (Or.inl rfl) | exact Or.inr (Or.inr rfl)) (by decide) (by decide)) ag rfl) (by decide) (by decide) rfl rfl) aw) ag rfl) rfl) rfl (by decide) rfl rfl) rfl (by first | exact .inl rfl | exact .inr rfl | assumption)) (@al _ _ _ (@aT _ _ _ _ (@bx _ _ _ _ _ _ _ _ (cv K rfl) (@bx _ _ _ _ _ _ _ _ (cv K rfl) (@cN _ _ _ _ _ _ _ _ _ _ (sK K rfl) (@pv _ 4 _ _ rfl (by first | exact Or.inl rfl | exact Or.inr (Or.inl rfl) | exact Or.inr (Or.inr rfl)) (by decide) (by decide)) e5 (@c6 _ _ _ (@pv _ 5 _ _ rfl (by first | exact Or.inl rfl | exact Or.inr (Or.inl rfl) | exact Or.inr (Or.inr rfl)) (by decide) (by decide)))) (@c7 _ _ _ _ _ _ _ (jP K rfl) (@pv _ 3 _ _ rfl (by first | exact Or.inl rfl | exact Or.inr (Or.inl rfl) | exact Or.inr (Or.inr rfl)) (by decide) (by decide)) (@az _ _ _ _ _ _ _ _ _ _ C_law_take (hr.mono (by decide)) (@paC _ _ _ _ _ (@pv _ 0 _ _ rfl (by first | exact Or.inl rfl | exact Or.inr (Or.inl rfl) | exact Or.inr (Or.inr rfl)) (by decide) (by decide)) (@paC _ _ _ _ _ (@ao _ _ _ _ _ _ _ _ _ (dQ K rfl) rfl T.b_len PySem.boot_len (@paC _ _ _ _ _ (@pv _ 3 _ _ rfl (by first | exact Or.inl rfl | exact Or.inr (Or.inl rfl) | exact Or.inr (Or.inr rfl)) (by decide) (by decide)) ag rfl) (by decide) (by decide) rfl rfl) ag rfl) rfl) rfl (by decide) rfl rfl) (fun _ _=>rfl))) (@cN _ _ _ _ _ _ _ _ _ _ (sK K rfl) (@pv _ 4 _ _ rfl (by first | exact Or.inl rfl | exact Or.inr (Or.inl rfl) | exact Or.inr (Or.inr rfl)) (by decide) (by decide)) (@c6 _ _ _ (@pv _ 5 _ _ rfl (by first | exact Or.inl rfl | exact Or.inr (Or.inl rfl) | exact Or.inr (Or.inr rfl)) (by decide) (by decide))) e5))))))) bc) (@ai _ _ _ _ _ (@aU _ _ 6 _ _ _ _ b6.nd rfl (by first | exact Or.inl rfl | exact Or.inr rfl) (@gi _ _ _ _ (@paC _ _ _ _ _ (@bG _ _ _ [] _ (by decide +kernel)) (@paC _ _ _ _ _ oh (@paC _ _ _ _ _ fH (@paC _ _ _ _ _ fH (@paC _ _ _ _ _ aw (@paC _ _ _ _ _ aw (@paC _ _ _ _ _ (@bx _ _ _ _ _ _ _ _ zj aw aw) (@paC _ _ _ _ _ (@gi _ _ _ _ ag) (@paC _ _ _ _ _ (@gi _ _ _ _ (@paC _ _ _ _ _ (@bG _ _ _ ([97,98]) _ (by decide +kernel)) ag rfl)) (@paC _ _ _ _ _ (@ko _ _ _ _ _ (@paC _ _ _ _ _ (@bG _ _ _ [97] _ (by decide +kernel)) (@paC _ _ _ _ _ (@bG _ _ _ [98] _ (by decide +kernel)) ag rfl) rfl)) (@paC _ _ _ _ _ rz (@paC _ _ _ _ _ (@uq _ _ _ _ _ (@rA _ _ _ _ _ _ (tC (kV (Sum.inr (S [97,98])))) _ _ (@bG _ _ _ ([97,98]) _ (by decide +kernel)) aw up) rfl rfl (by intro z;cases z) (by decide)) (@paC _ _ _ _ _ (@gi _ _ _ _ (@paC _ _ _ _ _ oh ag rfl)) (@paC _ _ _ _ _ (@bG _ _ _ ([97,98,10]) _ (by decide +kernel)) (@paC _ _ _ _ _ (@bG _ _ _ [9] _ (by decide +kernel)) ag rfl) rfl) rfl) rfl) rfl) rfl) rfl) rfl) rfl) rfl) rfl) rfl) rfl) rfl) rfl)) rfl (by first | exact .inl rfl | exact .inr rfl | assumption)) (@al _ _ _ (@aT _ _ _ _ (@c7 _ _ _ _ _ _ _ (jP K rfl) (@pv _ 6 _ _ rfl (by first | exact Or.inl rfl | exact Or.inr (Or.inl rfl) | exact Or.inr (Or.inr rfl)) (by decide) (by decide)) (@az _ _ _ _ _ _ _ _ _ _ C_law_take (hr.mono (by decide)) (@paC _ _ _ _ _ (@pv _ 0 _ _ rfl (by first | exact Or.inl rfl | exact Or.inr (Or.inl rfl) | exact Or.inr (Or.inr rfl)) (by decide) (by decide)) (@paC _ _ _ _ _ aw ag rfl) rfl) rfl (by decide) rfl rfl) (fun _ _=>rfl))))))))),fnR (K:=K) (c:=bv) (ps:=eJ) (N:=["_law_stream_here","_law_letters_here","_law_way","_law_signs","_law_word_here","_law_at","_law_some"]) (aA (aS (le_str (l:=[97,98,99,100,101,102,103,104,105,106,107,108,109,110,111,112,113,114,115,116,117,118,119,120,121,122])) (aJ (i:=1) rfl)) (aA (aS (aG (i:=0) (aa (ac le_int) ae)) (aJ (i:=2) rfl)) (aA (cZ (lr (aE dY (ar (i:=2)) (ac le_int))) (aV (aE fj (ac (aE dh (ar (i:=1)) (ac (aG (i:=0) (aa (ac le_int) ae))))) (ac (aE bI (ac le_int) (ac (aG (i:=0) (aa (ac le_int) ae))))))) bj) (aA (cZ (lr (aE xj (ar (i:=2)) (ac le_int))) (aA (aS (le_str (l:=[32,33,34,35,36,38,39,40,41,42,43,44,45,46,47,48,49,50,51,52,53,54,55,56,57,58,59,60,61,62,63,64,65,66,67,68,69,70,71,72,73,74,75,76,77,78,79,80,81,82,83,84,85,86,87,88,89,90,91,92,93,94,95,96,123,124,125,126,10])) (aJ (i:=3) rfl)) (aA (aS (aG (i:=0) (aa (ac (ay (i:=1))) (aa (ac le_int) ae))) (aJ (i:=4) rfl)) (aA (aS (aG (i:=0) (aa (ac (aE bI (ac (bz ci (aa (ar (i:=4)) ae))) (ac le_int))) ae)) (aJ (i:=5) rfl)) (aV (aE bI (ac (aE bI (ac (cO (ar (i:=4)) di (cw (ay (i:=5))))) (ac (aE dh (ar (i:=3)) (ac (aG (i:=0) (aa (ac (bz ci (aa (ar (i:=3)) ae))) ae))))))) (ac (cO (ar (i:=4)) (cw (ay (i:=5))) di))))))) bj) (aA (aS (gn (aa (ac (le_str (l:=[]))) (aa (ac pN) (aa (ac fN) (aa (ac fN) (aa (ac le_int) (aa (ac le_int) (aa (ac (aE xh (ac le_int) (ac le_int))) (aa (ac (gn ae)) (aa (ac (gn (aa (ac (le_str (l:=[97,98]))) ae))) (aa (ac (pO (aa (ac (le_str (l:=[97]))) (aa (ac (le_str (l:=[98]))) ae)))) (aa (ac u0) (aa (ac (vE (by first | exact List.nodup_singleton _ | decide) (by decide) (sj (Sum.inr (S [97,98])) (ac le_int) vC))) (aa (ac (gn (aa (ac pN) ae))) (aa (ac (le_str (l:=[97,98,10]))) (aa (ac (le_str (l:=[9]))) ae)))))))))))))))) (aJ (i:=6) rfl)) (aV (aE dh (ar (i:=6)) (ac (aG (i:=0) (aa (ac le_int) ae)))))))))) (fun p ds Q h=>Nat.le_trans (Nat.le_of_eq (jz p ds Q h)) (by decide)) nQ h⟩
theorem fG:∀ds Q,aN ds Q->ds.length=1:=fun ds Q h=>by unfold aN at h;split at h;(first | rfl | exact h.elim);(first | rfl | exact h.elim)
theorem ke (D:b4 K mg "_law_caught" eh) (T:Txt mg) (TC:TxC K) (TX:TxX K mg) (C_Family_rz:qE P w K mg base 4 (aq K "Family") "Family" ["self","pieces"] (spI K ap)):Cal P w K mg base 6 "_law_caught" ["_law_things"] (spP K aN):=by
 refine D.ok cB (fun _ _ _ _ _ _ us hl=>match us,hl with | [_],_=>rfl) (fun vs H Q E h=>?_) (fun f cdv A outer s H vs Q E hr h=>?_)
 .exact nJ fG h
 .have hu:=hr.units
  exact ⟨_,(ai (aU (i:=1) cB.nd rfl (by first | exact Or.inl rfl | exact Or.inr rfl) oh) (ai (tf rfl rfl (fun J pn E px=>ai (fJ (qF C_Family_rz (hr.mono (by decide)) px (paC (pv 0) ag))) bc) (xX 2 K rfl TX.d_GlueError TX.m_GlueError cB.nd rfl rfl (fun _=>(al (aU (i:=1) cB.nd rfl (by first | exact Or.inl rfl | exact Or.inr rfl) (pv 2)))) sZ)) (al (aT (pv 1))))),fnP (K:=K) (c:=aN) (ps:=cE) (N:=["_law_things","_law_caught_here","error"]) (aA (aS pN (aJ (i:=1) rfl)) (aA (qG (c:=ap) (C:=aq K "Family") (aa (ac (ay (i:=0))) ae) (zr (c0:="GlueError") TX.all (by first | exact Or.inr rfl | exact Or.inl (List.contains_iff_mem.mp (by decide +kernel))) rfl (aS (ay (i:=2)) (aJ (i:=1) rfl)) tm)) (aV (ay (i:=1))))) (fun ds Q h=>Nat.le_trans (Nat.le_of_eq (fG ds Q h)) (by decide)) j9 h⟩
theorem ez:∀ds Q,aP ds Q->ds.length=2:=fun ds Q h=>by unfold aP at h;split at h;(first | rfl | exact h.elim);(first | rfl | exact h.elim)
theorem iK (D:b4 K mg "_law_no_piece" cS) (T:Txt mg) (TC:TxC K) (TX:TxX K mg) (C_law_caught:Cal P w K mg base 6 "_law_caught" ["_law_things"] (spP K aN)):Cal P w K mg base 7 "_law_no_piece" ["_law_things","_law_at"] (spP K aP):=by
 refine D.ok ei (fun _ _ _ _ _ _ us hl=>match us,hl with | [_,_],_=>rfl) (fun vs H Q E h=>?_) (fun f cdv A outer s H vs Q E hr h=>?_)
 .exact nJ ez h
 .have hu:=hr.units
  exact ⟨_,(ai (aU (i:=2) ei.nd rfl (by first | exact Or.inl rfl | exact Or.inr rfl) (az C_law_caught (hr.mono (by decide)) (paC (pv 0) ag))) (ai (cL (PW.pt (kj (cX (bq (ao (sg K rfl) rfl T.b_isinstance boot_isinstance (paC (pv 2) (paC (bH TX.m_NoPiece) ag))))) (kj (cX (bq (ao (xP K rfl) rfl T.b_isinstance boot_isinstance (paC (pv 2) (paC (eZ (v:=.ty "ValueError") rfl T.b_ValueError PyProof.Rows.Boot.«ValueError» rfl) ag))))) (ki (bq (ao (sg K rfl) rfl T.b_isinstance boot_isinstance (paC (pv 2) (paC (bH TX.m_TooMany) ag)))))))) (al (aT fH)) bc) (ai (cL (bq (ao (tq K rfl) rfl T.b_isinstance boot_isinstance (paC (pv 2) (paC (ko (paC (bH TX.m_NoLap) (paC (bH TX.m_NoOrder) (paC (bH TX.m_NotApart) (paC (bH TX.m_NotHeld) (paC (bH TX.m_NoWords) (paC (bH TX.m_TooGreat) ag))))))) ag)))) (al (aT fH)) bc) (al (aT (i7 (ao (pT K rfl) rfl T.b_isinstance boot_isinstance (paC (eE K rfl (pv 2) rfl) (paC (eZ (v:=.ty "int") rfl T.b_int boot_int rfl) ag))) (i7 (oi (ao (pT K rfl) rfl T.b_isinstance boot_isinstance (paC (eE K rfl (pv 2) rfl) (paC (eZ (v:=.ty "bool") rfl T.b_bool boot_bool rfl) ag)))) (mm (dN (h9 K rfl hu) (eE K rfl (pv 2) rfl) (pv 1) (bJ _)))))))))),fnP (K:=K) (c:=aP) (ps:=bY) (N:=["_law_things","_law_at","_law_caught_here"]) (aA (aS (bi (c:=aN) (aa (ac (ay (i:=0))) ae)) (aJ (i:=2) rfl)) (aA (cZ (kQ (cY (ji (mT (d:="NoPiece") TX.all (by first | exact Or.inr rfl | exact Or.inl (List.contains_iff_mem.mp (by decide +kernel))) (ar (i:=2))))) (kQ (cY (ji (sW TX.all (ar (i:=2))))) (ji (mT (d:="TooMany") TX.all (by first | exact Or.inr rfl | exact Or.inl (List.contains_iff_mem.mp (by decide +kernel))) (ar (i:=2)))))) (aV fN) bj) (aA (cZ (ji (qy ["NoLap","NoOrder","NotApart","NotHeld","NoWords","TooGreat"] TX.all (by decide +kernel) (by decide) (ar (i:=2)))) (aV fN) bj) (aV (jj (kR .int (ac (fX TX.all TX.at_ (ar (i:=2))))) (jj (pP (kR .bool (ac (fX TX.all TX.at_ (ar (i:=2)))))) (aE dY (ac (fX TX.all TX.at_ (ar (i:=2)))) (ar (i:=1))))))))) (fun ds Q h=>Nat.le_trans (Nat.le_of_eq (ez ds Q h)) (by decide)) iC h⟩
theorem eA:∀ds Q,aF ds Q->ds.length=1:=fun ds Q h=>by unfold aF at h;split at h;(first | rfl | exact h.elim);(first | rfl | exact h.elim)
theorem iL (D:b4 K mg "_law_too_many" cT) (T:Txt mg) (TC:TxC K) (TX:TxX K mg) (C_law_caught:Cal P w K mg base 6 "_law_caught" ["_law_things"] (spP K aN)):Cal P w K mg base 7 "_law_too_many" ["_law_things"] (spP K aF):=by
 refine D.ok ej (fun _ _ _ _ _ _ us hl=>match us,hl with | [_],_=>rfl) (fun vs H Q E h=>?_) (fun f cdv A outer s H vs Q E hr h=>?_)
 .exact nJ eA h
 .have hu:=hr.units
  exact ⟨_,(ai (aU (i:=1) ej.nd rfl (by first | exact Or.inl rfl | exact Or.inr rfl) (az C_law_caught (hr.mono (by decide)) (paC (pv 0) ag))) (ai (cL (PW.pt (kj (cX (bq (ao (sg K rfl) rfl T.b_isinstance boot_isinstance (paC (pv 1) (paC (bH TX.m_TooMany) ag))))) (kj (cX (bq (ao (xP K rfl) rfl T.b_isinstance boot_isinstance (paC (pv 1) (paC (eZ (v:=.ty "ValueError") rfl T.b_ValueError PyProof.Rows.Boot.«ValueError» rfl) ag))))) (ki (bq (ao (sg K rfl) rfl T.b_isinstance boot_isinstance (paC (pv 1) (paC (bH TX.m_NoPiece) ag)))))))) (al (aT fH)) bc) (ai (cL (bq (ao (tq K rfl) rfl T.b_isinstance boot_isinstance (paC (pv 1) (paC (ko (paC (bH TX.m_NoLap) (paC (bH TX.m_NoOrder) (paC (bH TX.m_NotApart) (paC (bH TX.m_NotHeld) (paC (bH TX.m_NoWords) (paC (bH TX.m_TooGreat) ag))))))) ag)))) (al (aT fH)) bc) (al (aT (i7 (ao (pT K rfl) rfl T.b_isinstance boot_isinstance (paC (eE K rfl (pv 1) rfl) (paC (eZ (v:=.ty "int") rfl T.b_int boot_int rfl) ag))) (i7 (oi (ao (pT K rfl) rfl T.b_isinstance boot_isinstance (paC (eE K rfl (pv 1) rfl) (paC (eZ (v:=.ty "bool") rfl T.b_bool boot_bool rfl) ag)))) (mm (dN (h9 K rfl hu) (eE K rfl (pv 1) rfl) aw (bJ _)))))))))),fnP (K:=K) (c:=aF) (ps:=bZ) (N:=["_law_things","_law_caught_here"]) (aA (aS (bi (c:=aN) (aa (ac (ay (i:=0))) ae)) (aJ (i:=1) rfl)) (aA (cZ (kQ (cY (ji (mT (d:="TooMany") TX.all (by first | exact Or.inr rfl | exact Or.inl (List.contains_iff_mem.mp (by decide +kernel))) (ar (i:=1))))) (kQ (cY (ji (sW TX.all (ar (i:=1))))) (ji (mT (d:="NoPiece") TX.all (by first | exact Or.inr rfl | exact Or.inl (List.contains_iff_mem.mp (by decide +kernel))) (ar (i:=1)))))) (aV fN) bj) (aA (cZ (ji (qy ["NoLap","NoOrder","NotApart","NotHeld","NoWords","TooGreat"] TX.all (by decide +kernel) (by decide) (ar (i:=1)))) (aV fN) bj) (aV (jj (kR .int (ac (fX TX.all TX.at_ (ar (i:=1))))) (jj (pP (kR .bool (ac (fX TX.all TX.at_ (ar (i:=1)))))) (aE dY (ac (fX TX.all TX.at_ (ar (i:=1)))) (ac le_int)))))))) (fun ds Q h=>Nat.le_trans (Nat.le_of_eq (eA ds Q h)) (by decide)) iD h⟩
theorem eY:∀ds Q,aM ds Q->ds.length=1:=fun ds Q h=>by unfold aM at h;split at h;(first | rfl | exact h.elim);(first | rfl | exact h.elim)
theorem i6 (D:b4 K mg "_law_by_name" du) (T:Txt mg) (TC:TxC K) (TX:TxX K mg) (C_Family_rz:qE P w K mg base 4 (aq K "Family") "Family" ["self","pieces"] (spI K ap)):Cal P w K mg base 6 "_law_by_name" ["_law_things"] (spP K aM):=by
 refine D.ok iR (fun _ _ _ _ _ _ us hl=>match us,hl with | [_],_=>rfl) (fun vs H Q E h=>?_) (fun f cdv A outer s H vs Q E hr h=>?_)
 .exact nJ eY h
 .have hu:=hr.units
  exact ⟨_,(ai (tf rfl rfl (fun J pn E px=>ai (fJ (qF C_Family_rz (hr.mono (by decide)) px (paC (pv 0) ag))) bc) (xS K rfl TX.d_NoPiece TX.m_NoPiece (fun _=>(al (aT fH))) (xS K rfl TX.d_TooMany TX.m_TooMany (fun _=>(al (aT (dN vX (ao (dQ K rfl) rfl T.b_len PySem.boot_len (paC (pv 0) ag)) aw (bJ _))))) sZ))) (al (aT fH))),fnP (K:=K) (c:=aM) (ps:=cg) (N:=["_law_things"]) (aA (qG (c:=ap) (C:=aq K "Family") (aa (ac (ay (i:=0))) ae) (xW (c0:="NoPiece") TX.all (by first | exact Or.inr rfl | exact Or.inl (List.contains_iff_mem.mp (by decide +kernel))) (aV fN) (xW (c0:="TooMany") TX.all (by first | exact Or.inr rfl | exact Or.inl (List.contains_iff_mem.mp (by decide +kernel))) (aV (aE nF (ac (bz ci (aa (ar (i:=0)) ae))) (ac le_int))) tm))) (aV fN)) (fun ds Q h=>Nat.le_trans (Nat.le_of_eq (eY ds Q h)) (by decide)) iY h⟩
theorem jA:∀p ds Q,bF p ds Q->ds.length + 1=1:=fun p ds Q h=>by unfold bF at h;split at h;(first | rfl | exact h.elim);(first | rfl | exact h.elim)
theorem nX (D:b4 K mg "_law_one" ii) (T:Txt mg) (TC:TxC K) (TX:TxX K mg) (C_Family_init:vQ P w K mg base 4 (aq K "Family") "Family" ["self","pieces"] (spR K aL)) (C_law_by_name:Cal P w K mg base 6 "_law_by_name" ["_law_things"] (spP K aM)) (C_law_no_piece:Cal P w K mg base 7 "_law_no_piece" ["_law_things","_law_at"] (spP K aP)) (C_law_odd:Cal P w K mg base 3 "_law_odd" ["_law_stream_here"] (spR K bv)) (C_law_pieces:Cal P w K mg base 3 "_law_pieces" ["_law_stream_here","_law_many","_law_most"] (spR K a4)) (C_law_take:Cal P w K mg base 1 "_law_take" ["_law_stream_here","_law_most"] (spR K aj)) (C_law_too_many:Cal P w K mg base 7 "_law_too_many" ["_law_things"] (spP K aF)):Cal P w K mg base 8 "_law_one" ["_law_stream_here"] (spR K bF):=by
 refine D.ok bt (fun _ _ _ _ _ _ us hl=>match us,hl with | [_],_=>rfl) (fun vs H Q E h=>?_) (fun f cdv A outer s H vs Q E hr h=>?_)
 .exact sQ jA h
 .have hu:=hr.units
  exact ⟨_,(@ai _ _ _ _ _ (@aU _ _ 1 _ _ _ _ bt.nd rfl (by first | exact Or.inl rfl | exact Or.inr rfl) (@bx _ _ _ _ _ _ _ _ (cv K rfl) aw (@az _ _ _ _ _ _ _ _ _ _ C_law_take (hr.mono (by decide)) (@paC _ _ _ _ _ (@pv _ 0 _ _ rfl (by first | exact Or.inl rfl | exact Or.inr (Or.inl rfl) | exact Or.inr (Or.inr rfl)) (by decide) (by decide)) (@paC _ _ _ _ _ aw ag rfl) rfl) rfl (by decide) rfl rfl)) rfl (by first | exact .inl rfl | exact .inr rfl | assumption)) (@ai _ _ _ _ _ (@aU _ _ 2 _ _ _ _ bt.nd rfl (by first | exact Or.inl rfl | exact Or.inr rfl) (@az _ _ _ _ _ _ _ _ _ _ C_law_pieces (hr.mono (by decide)) (@paC _ _ _ _ _ (@pv _ 0 _ _ rfl (by first | exact Or.inl rfl | exact Or.inr (Or.inl rfl) | exact Or.inr (Or.inr rfl)) (by decide) (by decide)) (@paC _ _ _ _ _ (@pv _ 1 _ _ rfl (by first | exact Or.inl rfl | exact Or.inr (Or.inl rfl) | exact Or.inr (Or.inr rfl)) (by decide) (by decide)) (@paC _ _ _ _ _ aw ag rfl) rfl) rfl) rfl (by decide) rfl rfl) rfl (by first | exact .inl rfl | exact .inr rfl | assumption)) (@ai _ _ _ _ _ (@aU _ _ 3 _ _ _ _ bt.nd rfl (by first | exact Or.inl rfl | exact Or.inr rfl) (@bd _ _ _ _ _ _ _ _ _ (sN K rfl) rfl T.b_list boot_list (@paC _ _ _ _ _ (@pv _ 2 _ _ rfl (by first | exact Or.inl rfl | exact Or.inr (Or.inl rfl) | exact Or.inr (Or.inr rfl)) (by decide) (by decide)) ag rfl) (by decide) (by decide) rfl rfl) rfl (by first | exact .inl rfl | exact .inr rfl | assumption)) (@ai _ _ _ _ _ (@aU _ _ 4 _ _ _ _ bt.nd rfl (by first | exact Or.inl rfl | exact Or.inr rfl) (@az _ _ _ _ _ _ _ _ _ _ C_law_take (hr.mono (by decide)) (@paC _ _ _ _ _ (@pv _ 0 _ _ rfl (by first | exact Or.inl rfl | exact Or.inr (Or.inl rfl) | exact Or.inr (Or.inr rfl)) (by decide) (by decide)) (@paC _ _ _ _ _ (@pv _ 1 _ _ rfl (by first | exact Or.inl rfl | exact Or.inr (Or.inl rfl) | exact Or.inr (Or.inr rfl)) (by decide) (by decide)) ag rfl) rfl) rfl (by decide) rfl rfl) rfl (by first | exact .inl rfl | exact .inr rfl | assumption)) (@ai _ _ _ _ _ (@j5 _ _ _ _ _ _ _ _ (@az _ _ _ _ _ _ _ _ _ _ C_law_odd (hr.mono (by decide)) (@paC _ _ _ _ _ (@pv _ 0 _ _ rfl (by first | exact Or.inl rfl | exact Or.inr (Or.inl rfl) | exact Or.inr (Or.inr rfl)) (by decide) (by decide)) ag rfl) rfl (by decide) rfl rfl) (@mo _ _ _ _ _ _ _ (@pv _ 3 _ _ rfl (by first | exact Or.inl rfl | exact Or.inr (Or.inl rfl) | exact Or.inr (Or.inr rfl)) (by decide) (by decide)) (@pv _ 4 _ _ rfl (by first | exact Or.inl rfl | exact Or.inr (Or.inl rfl) | exact Or.inr (Or.inr rfl)) (by decide) (by decide)) gK (fun _=>rfl)) rfl) (@ai _ _ _ _ _ (@jH _ _ _ (@cL _ _ _ _ _ _ _ _ (@bS _ _ _ _ _ _ _ _ (h9 K rfl hu) (@az _ _ _ _ _ _ _ _ _ _ C_law_take (hr.mono (by decide)) (@paC _ _ _ _ _ (@pv _ 0 _ _ rfl (by first | exact Or.inl rfl | exact Or.inr (Or.inl rfl) | exact Or.inr (Or.inr rfl)) (by decide) (by decide)) (@paC _ _ _ _ _ aw ag rfl) rfl) rfl (by decide) rfl rfl) aw (bJ _)) (@ai _ _ _ _ _ (@aU _ _ 5 _ _ _ _ bt.nd rfl (by first | exact Or.inl rfl | exact Or.inr rfl) (@az _ _ _ _ _ _ _ _ _ _ C_law_take (hr.mono (by decide)) (@paC _ _ _ _ _ (@pv _ 0 _ _ rfl (by first | exact Or.inl rfl | exact Or.inr (Or.inl rfl) | exact Or.inr (Or.inr rfl)) (by decide) (by decide)) (@paC _ _ _ _ _ (@pv _ 1 _ _ rfl (by first | exact Or.inl rfl | exact Or.inr (Or.inl rfl) | exact Or.inr (Or.inr rfl)) (by decide) (by decide)) ag rfl) rfl) rfl (by decide) rfl rfl) rfl (by first | exact .inl rfl | exact .inr rfl | assumption)) (@ai _ _ _ _ _ (@j5 _ _ _ _ _ _ _ _ (@az _ _ _ _ _ _ _ _ _ _ C_law_odd (hr.mono (by decide)) (@paC _ _ _ _ _ (@pv _ 0 _ _ rfl (by first | exact Or.inl rfl | exact Or.inr (Or.inl rfl) | exact Or.inr (Or.inr rfl)) (by decide) (by decide)) ag rfl) rfl (by decide) rfl rfl) (@mo _ _ _ _ _ _ _ (@pv _ 3 _ _ rfl (by first | exact Or.inl rfl | exact Or.inr (Or.inl rfl) | exact Or.inr (Or.inr rfl)) (by decide) (by decide)) (@pv _ 5 _ _ rfl (by first | exact Or.inl rfl | exact Or.inr (Or.inl rfl) | exact Or.inr (Or.inr rfl)) (by decide) (by decide)) gK (fun _=>rfl)) rfl) (@al _ _ _ (@aU _ _ 4 _ _ _ _ bt.nd rfl (by first | exact Or.inl rfl | exact Or.inr rfl) (@ao _ _ _ _ _ _ _ _ _ (pV rfl) rfl T.b_min boot_min (@paC _ _ _ _ _ (@pv _ 4 _ _ rfl (by first | exact Or.inl rfl | exact Or.inr (Or.inl rfl) | exact Or.inr (Or.inr rfl)) (by decide) (by decide)) (@paC _ _ _ _ _ (@pv _ 5 _ _ rfl (by first | exact Or.inl rfl | exact Or.inr (Or.inl rfl) | exact Or.inr (Or.inr rfl)) (by decide) (by decide)) ag rfl) rfl) (by decide) (by decide) rfl rfl) rfl (by first | exact .inl rfl | exact .inr rfl | assumption))))) bc)) (@ai _ _ _ _ _ (@aU _ _ 6 _ _ _ _ bt.nd rfl (by first | exact Or.inl rfl | exact Or.inr rfl) (@bd _ _ _ _ _ _ _ _ _ (sN K rfl) rfl T.b_list boot_list (@paC _ _ _ _ _ (@pv _ 3 _ _ rfl (by first | exact Or.inl rfl | exact Or.inr (Or.inl rfl) | exact Or.inr (Or.inr rfl)) (by decide) (by decide)) ag rfl) (by decide) (by decide) rfl rfl) rfl (by first | exact .inl rfl | exact .inr rfl | assumption)) (@ai _ _ _ _ _ (@cL _ _ _ _ _ _ _ _ (PW.pt (@kj _ _ _ _ _ _ _ (@cX _ _ _ _ (@bq _ _ _ (@az _ _ _ _ _ _ _ _ _ _ C_law_no_piece (hr.mono (by decide)) (@paC _ _ _ _ _ (@pv _ 6 _ _ rfl (by first | exact Or.inl rfl | exact Or.inr (Or.inl rfl) | exact Or.inr (Or.inr rfl)) (by decide) (by decide)) (@paC _ _ _ _ _ (@pv _ 4 _ _ rfl (by first | exact Or.inl rfl | exact Or.inr (Or.inl rfl) | exact Or.inr (Or.inr rfl)) (by decide) (by decide)) ag rfl) rfl) rfl (by decide) rfl rfl) rfl)) (@kj _ _ _ _ _ _ _ (@cX _ _ _ _ (@bq _ _ _ (@az _ _ _ _ _ _ _ _ _ _ C_law_by_name (hr.mono (by decide)) (@paC _ _ _ _ _ (@bd _ _ _ _ _ _ _ _ _ (dk K rfl) rfl T.b_tuple boot_tuple (@paC _ _ _ _ _ (@pv _ 3 _ _ rfl (by first | exact Or.inl rfl | exact Or.inr (Or.inl rfl) | exact Or.inr (Or.inr rfl)) (by decide) (by decide)) ag rfl) (by decide) (by decide) rfl rfl) ag rfl) rfl (by decide) rfl rfl) rfl)) (@ki _ _ _ _ (@bS _ _ _ _ _ _ _ _ (zv K rfl hr.un2) (@pv _ 6 _ _ rfl (by first | exact Or.inl rfl | exact Or.inr (Or.inl rfl) | exact Or.inr (Or.inr rfl)) (by decide) (by decide)) (@pv _ 3 _ _ rfl (by first | exact Or.inl rfl | exact Or.inr (Or.inl rfl) | exact Or.inr (Or.inr rfl)) (by decide) (by decide)) (bJ _)))))) (@al _ _ _ (@aT _ _ _ _ fH)) bc) (@ai _ _ _ _ _ (@kn _ _ _ _ _ _ _ _ PassesOwn.never rfl (@dM _ _ _ _ _ _ rfl T.b_range (@paC _ _ _ _ _ (@bx _ _ _ _ _ _ _ _ (cv K rfl) (@bx _ _ _ _ _ _ _ _ uZ aw (@pv _ 1 _ _ rfl (by first | exact Or.inl rfl | exact Or.inr (Or.inl rfl) | exact Or.inr (Or.inr rfl)) (by decide) (by decide))) (@az _ _ _ _ _ _ _ _ _ _ C_law_take (hr.mono (by decide)) (@paC _ _ _ _ _ (@pv _ 0 _ _ rfl (by first | exact Or.inl rfl | exact Or.inr (Or.inl rfl) | exact Or.inr (Or.inr rfl)) (by decide) (by decide)) (@paC _ _ _ _ _ aw ag rfl) rfl) rfl (by decide) rfl rfl)) ag rfl) rfl) (@bw _ _ 7 _ bt.nd rfl (by first | exact Or.inl rfl | exact Or.inr rfl) (by first | exact .inl rfl | exact .inr rfl | assumption)) (@al _ _ _ (@fJ _ _ _ _ (@jh _ _ _ _ _ _ _ _ _ _ _ _ K rfl PySem.F.plainAttrs_list PySem.F.slot_list_append PySem.F.type_list_append gU (@pv _ 3 _ _ rfl (by first | exact Or.inl rfl | exact Or.inr (Or.inl rfl) | exact Or.inr (Or.inr rfl)) (by decide) (by decide)) (@paC _ _ _ _ _ (@bG _ _ _ ([97,98]) _ (by decide +kernel)) ag rfl) rfl rfl rfl rfl rfl) rfl)) (fun _=>rfl)) (@ai _ _ _ _ _ (@cL _ _ _ _ _ _ _ _ (PW.pt (@kj _ _ _ _ _ _ _ (@cX _ _ _ _ (@bq _ _ _ (@az _ _ _ _ _ _ _ _ _ _ C_law_too_many (hr.mono (by decide)) (@paC _ _ _ _ _ (@pv _ 3 _ _ rfl (by first | exact Or.inl rfl | exact Or.inr (Or.inl rfl) | exact Or.inr (Or.inr rfl)) (by decide) (by decide)) ag rfl) rfl (by decide) rfl rfl) rfl)) (@ki _ _ _ _ (@cX _ _ _ _ (@bq _ _ _ (@az _ _ _ _ _ _ _ _ _ _ C_law_by_name (hr.mono (by decide)) (@paC _ _ _ _ _ (@pv _ 3 _ _ rfl (by first | exact Or.inl rfl | exact Or.inr (Or.inl rfl) | exact Or.inr (Or.inr rfl)) (by decide) (by decide)) ag rfl) rfl (by decide) rfl rfl) rfl))))) (@al _ _ _ (@aT _ _ _ _ fH)) bc) (@ai _ _ _ _ _ (@aU _ _ 8 _ _ _ _ bt.nd rfl (by first | exact Or.inl rfl | exact Or.inr rfl) (@bx _ _ _ _ _ _ _ _ (cv K rfl) (@pv _ 2 _ _ rfl (by first | exact Or.inl rfl | exact Or.inr (Or.inl rfl) | exact Or.inr (Or.inr rfl)) (by decide) (by decide)) (@bx _ _ _ _ _ _ _ _ jO (@gi _ _ _ _ (@paC _ _ _ _ _ (@bG _ _ _ ([98,97]) _ (by decide +kernel)) ag rfl)) (@bx _ _ _ _ _ _ _ _ uZ aw (@pv _ 1 _ _ rfl (by first | exact Or.inl rfl | exact Or.inr (Or.inl rfl) | exact Or.inr (Or.inr rfl)) (by decide) (by decide))))) rfl (by first | exact .inl rfl | exact .inr rfl | assumption)) (@ai _ _ _ _ _ (@cL _ _ _ _ _ _ _ _ (@cX _ _ _ _ (@bq _ _ _ (@az _ _ _ _ _ _ _ _ _ _ C_law_too_many (hr.mono (by decide)) (@paC _ _ _ _ _ (@pv _ 8 _ _ rfl (by first | exact Or.inl rfl | exact Or.inr (Or.inl rfl) | exact Or.inr (Or.inr rfl)) (by decide) (by decide)) ag rfl) rfl (by decide) rfl rfl) rfl)) (@al _ _ _ (@aT _ _ _ _ fH)) bc) (@al _ _ _ (@aT _ _ _ _ (@i7 _ _ _ _ _ _ _ (@dN _ _ _ _ _ _ _ _ (h9 K rfl hu) (@cq _ _ _ _ _ K rfl (@jW _ _ _ _ _ _ _ _ _ _ _ C_Family_init (hr.mono (by decide)) (@paC _ _ _ _ _ (@pv _ 2 _ _ rfl (by first | exact Or.inl rfl | exact Or.inr (Or.inl rfl) | exact Or.inr (Or.inr rfl)) (by decide) (by decide)) ag rfl) rfl (by decide) rfl rfl) rfl) (@bd _ _ _ _ _ _ _ _ _ (dk K rfl) rfl T.b_tuple boot_tuple (@paC _ _ _ _ _ (@pv _ 2 _ _ rfl (by first | exact Or.inl rfl | exact Or.inr (Or.inl rfl) | exact Or.inr (Or.inr rfl)) (by decide) (by decide)) ag rfl) (by decide) (by decide) rfl rfl) (bJ _)) (@mm _ _ _ _ _ (@dN _ _ _ _ _ _ _ _ (h9 K rfl hu) (@cq _ _ _ _ _ K rfl (@jW _ _ _ _ _ _ _ _ _ _ _ C_Family_init (hr.mono (by decide)) (@paC _ _ _ _ _ (@cN _ _ _ _ _ _ _ _ _ _ (sK K rfl) (@pv _ 8 _ _ rfl (by first | exact Or.inl rfl | exact Or.inr (Or.inl rfl) | exact Or.inr (Or.inr rfl)) (by decide) (by decide)) e5 (@c6 _ _ _ aw)) ag rfl) rfl (by decide) rfl rfl) rfl) (@bd _ _ _ _ _ _ _ _ _ (dk K rfl) rfl T.b_tuple boot_tuple (@paC _ _ _ _ _ (@cN _ _ _ _ _ _ _ _ _ _ (sK K rfl) (@pv _ 8 _ _ rfl (by first | exact Or.inl rfl | exact Or.inr (Or.inl rfl) | exact Or.inr (Or.inr rfl)) (by decide) (by decide)) e5 (@c6 _ _ _ aw)) ag rfl) (by decide) (by decide) rfl rfl) (bJ _)))))))))))))))))),fnR (K:=K) (c:=bF) (ps:=eL) (N:=["_law_stream_here","_law_many","_law_pieces_here","_law_things","_law_first","_law_second","_law_handed","_law_k","_law_more"]) (aA (aS (aE bI (ac le_int) (ac (aG (i:=0) (aa (ac le_int) ae)))) (aJ (i:=1) rfl)) (aA (aS (aG (i:=0) (aa (ac (ay (i:=1))) (aa (ac le_int) ae))) (aJ (i:=2) rfl)) (aA (aS (bz pX (aa (ar (i:=2)) ae)) (aJ (i:=3) rfl)) (aA (aS (aG (i:=0) (aa (ac (ay (i:=1))) ae)) (aJ (i:=4) rfl)) (aA (jU (i:=3) (aG (i:=0) ae) (ay (i:=4))) (aA (jR (cZ (lr (aE dY (ac (aG (i:=0) (aa (ac le_int) ae))) (ac le_int))) (aA (aS (aG (i:=0) (aa (ac (ay (i:=1))) ae)) (aJ (i:=5) rfl)) (aA (jU (i:=3) (aG (i:=0) ae) (ay (i:=5))) (aS (bz lN (aa (ar (i:=4)) (aa (ar (i:=5)) ae))) (aJ (i:=4) rfl)))) bj)) (aA (aS (bz pX (aa (ar (i:=3)) ae)) (aJ (i:=6) rfl)) (aA (cZ (kQ (cY (ji (bi (c:=aP) (aa (ac (ay (i:=6))) (aa (ac (ay (i:=4))) ae))))) (kQ (cY (ji (bi (c:=aM) (aa (ac (bz cz (aa (ar (i:=3)) ae))) ae)))) (lr (aE x6 (ar (i:=6)) (ar (i:=3)))))) (aV fN) bj) (aA (mI (pU (aa (ac (aE bI (ac (aE pQ (ac le_int) (ar (i:=1)))) (ac (aG (i:=0) (aa (ac le_int) ae))))) ae)) (a8 (i:=7) rfl) (lK (sM (i:=3) (le_str (l:=[97,98]))))) (aA (cZ (kQ (cY (ji (bi (c:=aF) (aa (ac (ay (i:=3))) ae)))) (cY (ji (bi (c:=aM) (aa (ac (ay (i:=3))) ae))))) (aV fN) bj) (aA (aS (aE bI (ar (i:=2)) (ac (aE fj (ac (gn (aa (ac (le_str (l:=[98,97]))) ae))) (ac (aE pQ (ac le_int) (ar (i:=1))))))) (aJ (i:=8) rfl)) (aA (cZ (cY (ji (bi (c:=aF) (aa (ac (ay (i:=8))) ae)))) (aV fN) bj) (aV (jj (aE dY (ac (dD (ns0:=["pieces","kept","words","left","laps","total"]) TC.cl_Family TC.n_Family_pieces (i:=0) (by decide +kernel) (ac (lO (aa (ac (ay (i:=2))) ae))))) (ac (bz cz (aa (ar (i:=2)) ae)))) (aE dY (ac (dD (ns0:=["pieces","kept","words","left","laps","total"]) TC.cl_Family TC.n_Family_pieces (i:=0) (by decide +kernel) (ac (lO (aa (ac (cO (ar (i:=8)) di (cw le_int))) ae))))) (ac (bz cz (aa (ac (cO (ar (i:=8)) di (cw le_int))) ae)))))))))))))))))) (fun p ds Q h=>Nat.le_trans (Nat.le_of_eq (jA p ds Q h)) (by decide)) nR h⟩
theorem tL:∀ds Q,mZ ds Q->ds.length=1:=fun ds Q h=>by obtain ⟨_,rfl,_⟩:=h;rfl
theorem yc (D:b4 K mg "law" sw) (T:Txt mg) (TC:TxC K) (TX:TxX K mg) (C_Family_init:vQ P w K mg base 4 (aq K "Family") "Family" ["self","pieces"] (spR K aL)) (C_law_one:Cal P w K mg base 8 "_law_one" ["_law_stream_here"] (spR K bF)) (C_law_stream:Cal P w K mg base 1 "_law_stream" ["_law_script","_law_k"] (spP K aW)):Cal P w K mg base 9 "law" ["_law_script"] (spP K mZ):=by
 refine D.ok tF (fun _ _ _ _ _ _ us hl=>match us,hl with | [_],_=>rfl) (fun vs H Q E h=>?_) (fun f cdv A outer s H vs Q E hr h=>?_)
 .exact nJ tL h
 .have hu:=hr.units
  exact ⟨_,(ai (kn PassesOwn.never rfl (dM rfl T.b_range (paC (ao (xq rfl) rfl T.b_max boot_max (paC aw (paC (ao (pV rfl) rfl T.b_min boot_min (paC aw (paC (ao (dQ K rfl) rfl T.b_len PySem.boot_len (paC (pv 0) ag)) ag))) ag))) ag)) (bw (i:=1) tF.nd rfl (by first | exact Or.inl rfl | exact Or.inr rfl)) (al (cL (cX (bq (az C_law_one (hr.mono (by decide)) (paC (az C_law_stream (hr.mono (by decide)) (paC (pv 0) (paC (pv 1) ag))) ag)))) (al (aT fH)) bc))) (al (aT (dN (h9 K rfl hu) (cq K rfl (jW C_Family_init (hr.mono (by decide)) (paC (gi ag) ag)) rfl) (ko ag) (bJ _))))),fnP (K:=K) (c:=mZ) (ps:=m5) (N:=["_law_script","_law_k"]) (aA (mI (pU (aa (ac (bz uP (aa (ac le_int) (aa (ac (bz lN (aa (ac le_int) (aa (ac (bz ci (aa (ar (i:=0)) ae))) ae)))) ae)))) ae)) (a8 (i:=1) rfl) (cZ (cY (ji (p5 (bi (c:=aW) (aa (ac (ay (i:=0))) (aa (ac (ay (i:=1))) ae))) ae))) (aV fN) bj)) (aV (aE dY (ac (dD (ns0:=["pieces","kept","words","left","laps","total"]) TC.cl_Family TC.n_Family_pieces (i:=0) (by decide +kernel) (ac (lO (aa (ac (gn ae)) ae))))) (ac (pO ae))))) (fun ds Q h=>Nat.le_trans (Nat.le_of_eq (tL ds Q h)) (by decide)) ya h⟩
theorem lp (D:hG K mg (aq K "Family") "Family" "Family.__init__" bf) (C_check_pieces:xR P w K mg base 3 "check_pieces" ["things"] (spX K ap)):qE P w K mg base 4 (aq K "Family") "Family" ["self","pieces"] (spI K ap) :=
 D.okI cU (fun _ _ _ _ _ _ us hl=>match us,hl with | [_,_],_=>rfl) (fun vs H Q E h=>Ag b3 h) fun f cdv A outer s H vs Q E hr h =>
  ⟨_,ai (fJ (qv C_check_pieces (hr.mono (by decide)) xQ (paC (pv 1) ag))) vF,AB b3 h⟩
end
theorem ye {l:PySem.W.OpenLaw}{w:World}{K:PySem.W.Frag}{h:Heap}{mg:Str->Option Value}{fa:Addr} (X:K.In h) (G:h.Ns mainGlobals mg) (hfa:mg "law"=some (.ref fa))
  {C_Family:Addr} (aC_Family:PySem.W.nsIn K mainGlobals "Family"=some (some (.ref C_Family))) (pg_Family:PySem.W.plainGet K C_Family Str.empty=true) (hd_Family:PySem.W.hasDictIn K C_Family=true) (po_Family:PySem.W.plainOver K C_Family=true) (sa_Family:PySem.W.findIn K (.ref C_Family) "__setattr__"=some (some (.builtin "object.__setattr__"))) (mk_Family:PySem.W.makesIn K C_Family=true) (kc_Family:PySem.W.keepIn K (.ref C_Family)=true)
  (n_Family_pieces:PySem.W.findIn K (.ref C_Family) "pieces"=some none)
  (n_Family_kept:PySem.W.findIn K (.ref C_Family) "kept"=some none)
  (n_Family_words:PySem.W.findIn K (.ref C_Family) "words"=some none)
  (n_Family_left:PySem.W.findIn K (.ref C_Family) "left"=some none)
  (n_Family_laps:PySem.W.findIn K (.ref C_Family) "laps"=some none)
  (n_Family_total:PySem.W.findIn K (.ref C_Family) "total"=some none)
  {C_GlueError:Addr} (aC_GlueError:PySem.W.nsIn K mainGlobals "GlueError"=some (some (.ref C_GlueError))) {q_GlueError:Str}{N_GlueError:Addr}{bs_GlueError sub_GlueError:List Value}{sn_GlueError:List Str}{ab_GlueError:Bool}{col_GlueError:Option Bool}{k0_GlueError k1_GlueError k2_GlueError k3_GlueError k5_GlueError:Option Value} (lC_GlueError:K.lookup C_GlueError=some (excClassObj "GlueError" q_GlueError C_GlueError N_GlueError bs_GlueError [.type "ValueError",.type "Exception",.type "BaseException",.type "object"] true sn_GlueError sub_GlueError ab_GlueError col_GlueError none k0_GlueError k1_GlueError k2_GlueError k3_GlueError k5_GlueError "ValueError.__new__")) (xq_GlueError:PySem.W.excIn K C_GlueError [.type "ValueError",.type "Exception",.type "BaseException",.type "object"] "ValueError.__new__"=true)
  {C_TooMany:Addr} (aC_TooMany:PySem.W.nsIn K mainGlobals "TooMany"=some (some (.ref C_TooMany))) {q_TooMany:Str}{N_TooMany:Addr}{bs_TooMany sub_TooMany:List Value}{sn_TooMany:List Str}{ab_TooMany:Bool}{col_TooMany:Option Bool}{k0_TooMany k1_TooMany k2_TooMany k3_TooMany k5_TooMany:Option Value} (lC_TooMany:K.lookup C_TooMany=some (excClassObj "TooMany" q_TooMany C_TooMany N_TooMany bs_TooMany (.ref C_GlueError::[.type "ValueError",.type "Exception",.type "BaseException",.type "object"]) true sn_TooMany sub_TooMany ab_TooMany col_TooMany none k0_TooMany k1_TooMany k2_TooMany k3_TooMany k5_TooMany "ValueError.__new__")) (ga_TooMany:PySem.W.findIn K (.ref C_TooMany) "__getattribute__"=some (some (.builtin "BaseException.__getattribute__"))) (gh_TooMany:PySem.W.findIn K (.ref C_TooMany) "__getattr__"=some none) (sa_TooMany:PySem.W.findIn K (.ref C_TooMany) "__setattr__"=some (some (.builtin "object.__setattr__"))) (cl_TooMany:PySem.W.findIn K (.ref C_TooMany) "__class__"=some (some (.builtin "object.__class__"))) (kc_TooMany:PySem.W.keepIn K (.ref C_TooMany)=true)
  {fx_TooMany:Addr}{xoc_TooMany xkV_TooMany xdc_TooMany xpm_TooMany xcd_TooMany xct_TooMany:Value}{xod_TooMany xan_TooMany:Option Addr}{xsl_TooMany:Array (Option Value)} (xi_TooMany:PySem.W.findIn K (.ref C_TooMany) "__init__"=some (some (.ref fx_TooMany))) (xt_TooMany:PySem.W.typeIn K (.ref fx_TooMany)=some (.type "function")) (xl_TooMany:K.lookup fx_TooMany=some ⟨xoc_TooMany,xod_TooMany,.func (PySem.W.fnOf "__init__" "TooMany.__init__" (a6 bN) (aQ bN) (ah bN) .none xkV_TooMany xdc_TooMany xpm_TooMany xan_TooMany xcd_TooMany xct_TooMany),xsl_TooMany⟩) (xc0_TooMany:PySem.W.codeIn K xcd_TooMany "TooMany.__init__"=true) (xk_TooMany:PySem.W.keepIn K (.ref fx_TooMany)=true) (xn_TooMany:PySem.W.findIn K (.ref C_TooMany) "most"=some none)
  {C_NoPiece:Addr} (aC_NoPiece:PySem.W.nsIn K mainGlobals "NoPiece"=some (some (.ref C_NoPiece))) {q_NoPiece:Str}{N_NoPiece:Addr}{bs_NoPiece sub_NoPiece:List Value}{sn_NoPiece:List Str}{ab_NoPiece:Bool}{col_NoPiece:Option Bool}{k0_NoPiece k1_NoPiece k2_NoPiece k3_NoPiece k5_NoPiece:Option Value} (lC_NoPiece:K.lookup C_NoPiece=some (excClassObj "NoPiece" q_NoPiece C_NoPiece N_NoPiece bs_NoPiece (.ref C_GlueError::[.type "ValueError",.type "Exception",.type "BaseException",.type "object"]) true sn_NoPiece sub_NoPiece ab_NoPiece col_NoPiece none k0_NoPiece k1_NoPiece k2_NoPiece k3_NoPiece k5_NoPiece "ValueError.__new__")) (ga_NoPiece:PySem.W.findIn K (.ref C_NoPiece) "__getattribute__"=some (some (.builtin "BaseException.__getattribute__"))) (gh_NoPiece:PySem.W.findIn K (.ref C_NoPiece) "__getattr__"=some none) (sa_NoPiece:PySem.W.findIn K (.ref C_NoPiece) "__setattr__"=some (some (.builtin "object.__setattr__"))) (cl_NoPiece:PySem.W.findIn K (.ref C_NoPiece) "__class__"=some (some (.builtin "object.__class__"))) (kc_NoPiece:PySem.W.keepIn K (.ref C_NoPiece)=true)
  {fx_NoPiece:Addr}{xoc_NoPiece xkV_NoPiece xdc_NoPiece xpm_NoPiece xcd_NoPiece xct_NoPiece:Value}{xod_NoPiece xan_NoPiece:Option Addr}{xsl_NoPiece:Array (Option Value)} (xi_NoPiece:PySem.W.findIn K (.ref C_NoPiece) "__init__"=some (some (.ref fx_NoPiece))) (xt_NoPiece:PySem.W.typeIn K (.ref fx_NoPiece)=some (.type "function")) (xl_NoPiece:K.lookup fx_NoPiece=some ⟨xoc_NoPiece,xod_NoPiece,.func (PySem.W.fnOf "__init__" "NoPiece.__init__" (a6 bO) (aQ bO) (ah bO) .none xkV_NoPiece xdc_NoPiece xpm_NoPiece xan_NoPiece xcd_NoPiece xct_NoPiece),xsl_NoPiece⟩) (xc0_NoPiece:PySem.W.codeIn K xcd_NoPiece "NoPiece.__init__"=true) (xk_NoPiece:PySem.W.keepIn K (.ref fx_NoPiece)=true) (xn_NoPiece:PySem.W.findIn K (.ref C_NoPiece) "at"=some none)
  {C_NoLap:Addr} (aC_NoLap:PySem.W.nsIn K mainGlobals "NoLap"=some (some (.ref C_NoLap))) {q_NoLap:Str}{N_NoLap:Addr}{bs_NoLap sub_NoLap:List Value}{sn_NoLap:List Str}{ab_NoLap:Bool}{col_NoLap:Option Bool}{k0_NoLap k1_NoLap k2_NoLap k3_NoLap k5_NoLap:Option Value} (lC_NoLap:K.lookup C_NoLap=some (excClassObj "NoLap" q_NoLap C_NoLap N_NoLap bs_NoLap (.ref C_GlueError::[.type "ValueError",.type "Exception",.type "BaseException",.type "object"]) true sn_NoLap sub_NoLap ab_NoLap col_NoLap none k0_NoLap k1_NoLap k2_NoLap k3_NoLap k5_NoLap "ValueError.__new__")) (ga_NoLap:PySem.W.findIn K (.ref C_NoLap) "__getattribute__"=some (some (.builtin "BaseException.__getattribute__"))) (gh_NoLap:PySem.W.findIn K (.ref C_NoLap) "__getattr__"=some none) (sa_NoLap:PySem.W.findIn K (.ref C_NoLap) "__setattr__"=some (some (.builtin "object.__setattr__"))) (cl_NoLap:PySem.W.findIn K (.ref C_NoLap) "__class__"=some (some (.builtin "object.__class__"))) (kc_NoLap:PySem.W.keepIn K (.ref C_NoLap)=true)
  {fx_NoLap:Addr}{xoc_NoLap xkV_NoLap xdc_NoLap xpm_NoLap xcd_NoLap xct_NoLap:Value}{xod_NoLap xan_NoLap:Option Addr}{xsl_NoLap:Array (Option Value)} (xi_NoLap:PySem.W.findIn K (.ref C_NoLap) "__init__"=some (some (.ref fx_NoLap))) (xt_NoLap:PySem.W.typeIn K (.ref fx_NoLap)=some (.type "function")) (xl_NoLap:K.lookup fx_NoLap=some ⟨xoc_NoLap,xod_NoLap,.func (PySem.W.fnOf "__init__" "NoLap.__init__" (a6 cm) (aQ cm) (ah cm) .none xkV_NoLap xdc_NoLap xpm_NoLap xan_NoLap xcd_NoLap xct_NoLap),xsl_NoLap⟩) (xc0_NoLap:PySem.W.codeIn K xcd_NoLap "NoLap.__init__"=true) (xk_NoLap:PySem.W.keepIn K (.ref fx_NoLap)=true) (xn_NoLap:PySem.W.findIn K (.ref C_NoLap) "k"=some none)
  {C_NoOrder:Addr} (aC_NoOrder:PySem.W.nsIn K mainGlobals "NoOrder"=some (some (.ref C_NoOrder))) {q_NoOrder:Str}{N_NoOrder:Addr}{bs_NoOrder sub_NoOrder:List Value}{sn_NoOrder:List Str}{ab_NoOrder:Bool}{col_NoOrder:Option Bool}{k0_NoOrder k1_NoOrder k2_NoOrder k3_NoOrder k5_NoOrder:Option Value} (lC_NoOrder:K.lookup C_NoOrder=some (excClassObj "NoOrder" q_NoOrder C_NoOrder N_NoOrder bs_NoOrder (.ref C_GlueError::[.type "ValueError",.type "Exception",.type "BaseException",.type "object"]) true sn_NoOrder sub_NoOrder ab_NoOrder col_NoOrder none k0_NoOrder k1_NoOrder k2_NoOrder k3_NoOrder k5_NoOrder "ValueError.__new__")) (ga_NoOrder:PySem.W.findIn K (.ref C_NoOrder) "__getattribute__"=some (some (.builtin "BaseException.__getattribute__"))) (gh_NoOrder:PySem.W.findIn K (.ref C_NoOrder) "__getattr__"=some none) (sa_NoOrder:PySem.W.findIn K (.ref C_NoOrder) "__setattr__"=some (some (.builtin "object.__setattr__"))) (cl_NoOrder:PySem.W.findIn K (.ref C_NoOrder) "__class__"=some (some (.builtin "object.__class__"))) (kc_NoOrder:PySem.W.keepIn K (.ref C_NoOrder)=true)
  (xq_NoOrder:PySem.W.excIn K C_NoOrder [.type "ValueError",.type "Exception",.type "BaseException",.type "object"] "ValueError.__new__"=true)
  {C_NotHeld:Addr} (aC_NotHeld:PySem.W.nsIn K mainGlobals "NotHeld"=some (some (.ref C_NotHeld))) {q_NotHeld:Str}{N_NotHeld:Addr}{bs_NotHeld sub_NotHeld:List Value}{sn_NotHeld:List Str}{ab_NotHeld:Bool}{col_NotHeld:Option Bool}{k0_NotHeld k1_NotHeld k2_NotHeld k3_NotHeld k5_NotHeld:Option Value} (lC_NotHeld:K.lookup C_NotHeld=some (excClassObj "NotHeld" q_NotHeld C_NotHeld N_NotHeld bs_NotHeld (.ref C_GlueError::[.type "ValueError",.type "Exception",.type "BaseException",.type "object"]) true sn_NotHeld sub_NotHeld ab_NotHeld col_NotHeld none k0_NotHeld k1_NotHeld k2_NotHeld k3_NotHeld k5_NotHeld "ValueError.__new__")) (ga_NotHeld:PySem.W.findIn K (.ref C_NotHeld) "__getattribute__"=some (some (.builtin "BaseException.__getattribute__"))) (gh_NotHeld:PySem.W.findIn K (.ref C_NotHeld) "__getattr__"=some none) (sa_NotHeld:PySem.W.findIn K (.ref C_NotHeld) "__setattr__"=some (some (.builtin "object.__setattr__"))) (cl_NotHeld:PySem.W.findIn K (.ref C_NotHeld) "__class__"=some (some (.builtin "object.__class__"))) (kc_NotHeld:PySem.W.keepIn K (.ref C_NotHeld)=true)
  {fx_NotHeld:Addr}{xoc_NotHeld xkV_NotHeld xdc_NotHeld xpm_NotHeld xcd_NotHeld xct_NotHeld:Value}{xod_NotHeld xan_NotHeld:Option Addr}{xsl_NotHeld:Array (Option Value)} (xi_NotHeld:PySem.W.findIn K (.ref C_NotHeld) "__init__"=some (some (.ref fx_NotHeld))) (xt_NotHeld:PySem.W.typeIn K (.ref fx_NotHeld)=some (.type "function")) (xl_NotHeld:K.lookup fx_NotHeld=some ⟨xoc_NotHeld,xod_NotHeld,.func (PySem.W.fnOf "__init__" "NotHeld.__init__" (a6 bP) (aQ bP) (ah bP) .none xkV_NotHeld xdc_NotHeld xpm_NotHeld xan_NotHeld xcd_NotHeld xct_NotHeld),xsl_NotHeld⟩) (xc0_NotHeld:PySem.W.codeIn K xcd_NotHeld "NotHeld.__init__"=true) (xk_NotHeld:PySem.W.keepIn K (.ref fx_NotHeld)=true) (xn_NotHeld:PySem.W.findIn K (.ref C_NotHeld) "at"=some none)
  {C_TooGreat:Addr} (aC_TooGreat:PySem.W.nsIn K mainGlobals "TooGreat"=some (some (.ref C_TooGreat))) {q_TooGreat:Str}{N_TooGreat:Addr}{bs_TooGreat sub_TooGreat:List Value}{sn_TooGreat:List Str}{ab_TooGreat:Bool}{col_TooGreat:Option Bool}{k0_TooGreat k1_TooGreat k2_TooGreat k3_TooGreat k5_TooGreat:Option Value} (lC_TooGreat:K.lookup C_TooGreat=some (excClassObj "TooGreat" q_TooGreat C_TooGreat N_TooGreat bs_TooGreat (.ref C_GlueError::[.type "ValueError",.type "Exception",.type "BaseException",.type "object"]) true sn_TooGreat sub_TooGreat ab_TooGreat col_TooGreat none k0_TooGreat k1_TooGreat k2_TooGreat k3_TooGreat k5_TooGreat "ValueError.__new__")) (ga_TooGreat:PySem.W.findIn K (.ref C_TooGreat) "__getattribute__"=some (some (.builtin "BaseException.__getattribute__"))) (gh_TooGreat:PySem.W.findIn K (.ref C_TooGreat) "__getattr__"=some none) (sa_TooGreat:PySem.W.findIn K (.ref C_TooGreat) "__setattr__"=some (some (.builtin "object.__setattr__"))) (cl_TooGreat:PySem.W.findIn K (.ref C_TooGreat) "__class__"=some (some (.builtin "object.__class__"))) (kc_TooGreat:PySem.W.keepIn K (.ref C_TooGreat)=true)
  {fx_TooGreat:Addr}{xoc_TooGreat xkV_TooGreat xdc_TooGreat xpm_TooGreat xcd_TooGreat xct_TooGreat:Value}{xod_TooGreat xan_TooGreat:Option Addr}{xsl_TooGreat:Array (Option Value)} (xi_TooGreat:PySem.W.findIn K (.ref C_TooGreat) "__init__"=some (some (.ref fx_TooGreat))) (xt_TooGreat:PySem.W.typeIn K (.ref fx_TooGreat)=some (.type "function")) (xl_TooGreat:K.lookup fx_TooGreat=some ⟨xoc_TooGreat,xod_TooGreat,.func (PySem.W.fnOf "__init__" "TooGreat.__init__" (a6 bB) (aQ bB) (ah bB) .none xkV_TooGreat xdc_TooGreat xpm_TooGreat xan_TooGreat xcd_TooGreat xct_TooGreat),xsl_TooGreat⟩) (xc0_TooGreat:PySem.W.codeIn K xcd_TooGreat "TooGreat.__init__"=true) (xk_TooGreat:PySem.W.keepIn K (.ref fx_TooGreat)=true) (xn_TooGreat:PySem.W.findIn K (.ref C_TooGreat) "most"=some none)
  {C_NoWords:Addr} (aC_NoWords:PySem.W.nsIn K mainGlobals "NoWords"=some (some (.ref C_NoWords))) {q_NoWords:Str}{N_NoWords:Addr}{bs_NoWords sub_NoWords:List Value}{sn_NoWords:List Str}{ab_NoWords:Bool}{col_NoWords:Option Bool}{k0_NoWords k1_NoWords k2_NoWords k3_NoWords k5_NoWords:Option Value} (lC_NoWords:K.lookup C_NoWords=some (excClassObj "NoWords" q_NoWords C_NoWords N_NoWords bs_NoWords (.ref C_GlueError::[.type "ValueError",.type "Exception",.type "BaseException",.type "object"]) true sn_NoWords sub_NoWords ab_NoWords col_NoWords none k0_NoWords k1_NoWords k2_NoWords k3_NoWords k5_NoWords "ValueError.__new__")) (ga_NoWords:PySem.W.findIn K (.ref C_NoWords) "__getattribute__"=some (some (.builtin "BaseException.__getattribute__"))) (gh_NoWords:PySem.W.findIn K (.ref C_NoWords) "__getattr__"=some none) (sa_NoWords:PySem.W.findIn K (.ref C_NoWords) "__setattr__"=some (some (.builtin "object.__setattr__"))) (cl_NoWords:PySem.W.findIn K (.ref C_NoWords) "__class__"=some (some (.builtin "object.__class__"))) (kc_NoWords:PySem.W.keepIn K (.ref C_NoWords)=true)
  (xq_NoWords:PySem.W.excIn K C_NoWords [.type "ValueError",.type "Exception",.type "BaseException",.type "object"] "ValueError.__new__"=true)
  {C_NotApart:Addr} (aC_NotApart:PySem.W.nsIn K mainGlobals "NotApart"=some (some (.ref C_NotApart))) {q_NotApart:Str}{N_NotApart:Addr}{bs_NotApart sub_NotApart:List Value}{sn_NotApart:List Str}{ab_NotApart:Bool}{col_NotApart:Option Bool}{k0_NotApart k1_NotApart k2_NotApart k3_NotApart k5_NotApart:Option Value} (lC_NotApart:K.lookup C_NotApart=some (excClassObj "NotApart" q_NotApart C_NotApart N_NotApart bs_NotApart (.ref C_GlueError::[.type "ValueError",.type "Exception",.type "BaseException",.type "object"]) true sn_NotApart sub_NotApart ab_NotApart col_NotApart none k0_NotApart k1_NotApart k2_NotApart k3_NotApart k5_NotApart "ValueError.__new__")) (ga_NotApart:PySem.W.findIn K (.ref C_NotApart) "__getattribute__"=some (some (.builtin "BaseException.__getattribute__"))) (gh_NotApart:PySem.W.findIn K (.ref C_NotApart) "__getattr__"=some none) (sa_NotApart:PySem.W.findIn K (.ref C_NotApart) "__setattr__"=some (some (.builtin "object.__setattr__"))) (cl_NotApart:PySem.W.findIn K (.ref C_NotApart) "__class__"=some (some (.builtin "object.__class__"))) (kc_NotApart:PySem.W.keepIn K (.ref C_NotApart)=true)
  {fx_NotApart:Addr}{xoc_NotApart xkV_NotApart xdc_NotApart xpm_NotApart xcd_NotApart xct_NotApart:Value}{xod_NotApart xan_NotApart:Option Addr}{xsl_NotApart:Array (Option Value)} (xi_NotApart:PySem.W.findIn K (.ref C_NotApart) "__init__"=some (some (.ref fx_NotApart))) (xt_NotApart:PySem.W.typeIn K (.ref fx_NotApart)=some (.type "function")) (xl_NotApart:K.lookup fx_NotApart=some ⟨xoc_NotApart,xod_NotApart,.func (PySem.W.fnOf "__init__" "NotApart.__init__" (a6 bC) (aQ bC) (ah bC) .none xkV_NotApart xdc_NotApart xpm_NotApart xan_NotApart xcd_NotApart xct_NotApart),xsl_NotApart⟩) (xc0_NotApart:PySem.W.codeIn K xcd_NotApart "NotApart.__init__"=true) (xk_NotApart:PySem.W.keepIn K (.ref fx_NotApart)=true) (xn_NotApart:PySem.W.findIn K (.ref C_NotApart) "at"=some none)
  {f1:Addr}{oc1 kV1 dc1 pm1 cd1 ct1:Value}{od1 an1 dd1:Option Addr}{sl1 st1:Array (Option Value)}{dT1:Addr}{n1:Nat}{u1_0 u1_1:Tok} (a1:PySem.W.nsIn K mainGlobals "is_text"=some (some (.ref f1))) (l1:K.lookup f1=some ⟨oc1,od1,.func (PySem.W.fnOf "is_text" "is_text" (a6 c3) (aQ c3) (ah c3) (.ref dT1) kV1 dc1 pm1 an1 cd1 ct1),sl1⟩) (c1:PySem.W.codeIn K cd1 "is_text"=true) (k1:PySem.W.keepIn K (.ref f1)=true) (t1:K.lookup dT1=some ⟨.type "tuple",dd1,.seq [.int 0 u1_0,.int 4000 u1_1].toArray n1,st1⟩)
  (d2:iN K "first_place" dq)
  (d3:iN K "lap" vG)
  (d4:iN K "_law_stream" ef)
  (d5:iN K "_law_take" f8)
  (d6:iN K "all_laps" fZ)
  (d7:iN K "stands_within" cJ)
  (d8:iN K "_law_letters" dr)
  (d9:iN K "_law_word" f9)
  (d10:iN K "_law_cut" ie)
  (d11:iN K "check_pieces" cR)
  (d12:iN K "is_kept" ic)
  (d13:iN K "left_row" f7)
  (d14:iN K "_law_pieces" eg)
  (d15:iN K "_law_odd" ig)
  {f16:Addr}{oc16 kV16 dc16 pm16 cd16 ct16:Value}{od16 an16:Option Addr}{sl16:Array (Option Value)} (a16:PySem.W.findIn K (.ref C_Family) "__init__"=some (some (.ref f16))) (i16:PySem.W.isFn K (.ref f16)=true) (l16:K.lookup f16=some ⟨oc16,od16,.func (PySem.W.fnOf "__init__" "Family.__init__" (a6 bf) (aQ bf) (ah bf) .none kV16 dc16 pm16 an16 cd16 ct16),sl16⟩) (c16:PySem.W.codeIn K cd16 "Family.__init__"=true) (k16:PySem.W.keepIn K (.ref f16)=true)
  (d17:iN K "_law_caught" eh)
  (d18:iN K "_law_by_name" du)
  (d19:iN K "_law_no_piece" cS)
  (d20:iN K "_law_too_many" cT)
  (d21:iN K "_law_one" ii)
  (d22:iN K "law" sw)
  (z1:PySem.W.nsIn K mainGlobals "ValueError"=some none)
  (z2:PySem.W.nsIn K mainGlobals "abs"=some none)
  (z3:PySem.W.nsIn K mainGlobals "all"=some none)
  (z4:PySem.W.nsIn K mainGlobals "any"=some none)
  (z5:PySem.W.nsIn K mainGlobals "bool"=some none)
  (z6:PySem.W.nsIn K mainGlobals "enumerate"=some none)
  (z7:PySem.W.nsIn K mainGlobals "int"=some none)
  (z8:PySem.W.nsIn K mainGlobals "isinstance"=some none)
  (z9:PySem.W.nsIn K mainGlobals "len"=some none)
  (z10:PySem.W.nsIn K mainGlobals "list"=some none)
  (z11:PySem.W.nsIn K mainGlobals "max"=some none)
  (z12:PySem.W.nsIn K mainGlobals "min"=some none)
  (z13:PySem.W.nsIn K mainGlobals "range"=some none)
  (z14:PySem.W.nsIn K mainGlobals "str"=some none)
  (z15:PySem.W.nsIn K mainGlobals "sum"=some none)
  (z16:PySem.W.nsIn K mainGlobals "tuple"=some none)
  {ty1:Tok} (y1:PySem.W.nsIn K mainGlobals "MOST_PIECES"=some (some (.int 40 ty1)))
  {ty2:Tok} (y2:PySem.W.nsIn K mainGlobals "MOST_SIGNS"=some (some (.int 60 ty2))) :
  ∃fd:FuncData,(∀(s:Shared) (v:Value),BindsTo s fd ⟨[v],[]⟩ [("_law_script",v)])/\∀base:Heap,K.In base->base.Ns mainGlobals mg->jb l.prog w K mg base CX0 9 fa fd ["_law_script"] (nB K):=by
 have eC_Family:=b8 aC_Family
 have TC:TxC K:=⟨by rw [eC_Family];exact ⟨pg_Family,hd_Family,po_Family,sa_Family⟩,by show PySem.W.findIn K (.ref (aq K "Family")) "pieces"=some none;rw [eC_Family];exact n_Family_pieces,by show PySem.W.findIn K (.ref (aq K "Family")) "kept"=some none;rw [eC_Family];exact n_Family_kept,by show PySem.W.findIn K (.ref (aq K "Family")) "words"=some none;rw [eC_Family];exact n_Family_words,by show PySem.W.findIn K (.ref (aq K "Family")) "left"=some none;rw [eC_Family];exact n_Family_left,by show PySem.W.findIn K (.ref (aq K "Family")) "laps"=some none;rw [eC_Family];exact n_Family_laps,by show PySem.W.findIn K (.ref (aq K "Family")) "total"=some none;rw [eC_Family];exact n_Family_total⟩
 have eC_GlueError:=b8 aC_GlueError
 have tl_:=vm xq_GlueError ⟨_,_,_,_,_,_,_,_,_,_,_,_,_,lC_GlueError⟩
 have eC_TooMany:=b8 aC_TooMany
 have xc_TooMany:XC K C_TooMany C_GlueError:=⟨⟨_,_,_,_,_,_,_,_,_,_,_,_,_,lC_TooMany⟩,ga_TooMany,gh_TooMany,sa_TooMany,cl_TooMany⟩
 have eC_NoPiece:=b8 aC_NoPiece
 have xc_NoPiece:XC K C_NoPiece C_GlueError:=⟨⟨_,_,_,_,_,_,_,_,_,_,_,_,_,lC_NoPiece⟩,ga_NoPiece,gh_NoPiece,sa_NoPiece,cl_NoPiece⟩
 have eC_NoLap:=b8 aC_NoLap
 have xc_NoLap:XC K C_NoLap C_GlueError:=⟨⟨_,_,_,_,_,_,_,_,_,_,_,_,_,lC_NoLap⟩,ga_NoLap,gh_NoLap,sa_NoLap,cl_NoLap⟩
 have eC_NoOrder:=b8 aC_NoOrder
 have xc_NoOrder:XC K C_NoOrder C_GlueError:=⟨⟨_,_,_,_,_,_,_,_,_,_,_,_,_,lC_NoOrder⟩,ga_NoOrder,gh_NoOrder,sa_NoOrder,cl_NoOrder⟩
 have eC_NotHeld:=b8 aC_NotHeld
 have xc_NotHeld:XC K C_NotHeld C_GlueError:=⟨⟨_,_,_,_,_,_,_,_,_,_,_,_,_,lC_NotHeld⟩,ga_NotHeld,gh_NotHeld,sa_NotHeld,cl_NotHeld⟩
 have eC_TooGreat:=b8 aC_TooGreat
 have xc_TooGreat:XC K C_TooGreat C_GlueError:=⟨⟨_,_,_,_,_,_,_,_,_,_,_,_,_,lC_TooGreat⟩,ga_TooGreat,gh_TooGreat,sa_TooGreat,cl_TooGreat⟩
 have eC_NoWords:=b8 aC_NoWords
 have xc_NoWords:XC K C_NoWords C_GlueError:=⟨⟨_,_,_,_,_,_,_,_,_,_,_,_,_,lC_NoWords⟩,ga_NoWords,gh_NoWords,sa_NoWords,cl_NoWords⟩
 have eC_NotApart:=b8 aC_NotApart
 have xc_NotApart:XC K C_NotApart C_GlueError:=⟨⟨_,_,_,_,_,_,_,_,_,_,_,_,_,lC_NotApart⟩,ga_NotApart,gh_NotApart,sa_NotApart,cl_NotApart⟩
 have TX:TxX K mg:=⟨⟨by rw [XCl,eC_GlueError];exact ⟨_,_,_,lC_GlueError,rfl⟩,fun c hc=>by
  simp only [xcs,List.mem_cons,List.not_mem_nil,or_false] at hc
  rcases hc with rfl | rfl | rfl | rfl | rfl | rfl | rfl | rfl
  .rw [XCl,eC_TooMany];exact ⟨_,_,_,lC_TooMany,rfl⟩
  .rw [XCl,eC_NoPiece];exact ⟨_,_,_,lC_NoPiece,rfl⟩
  .rw [XCl,eC_NoLap];exact ⟨_,_,_,lC_NoLap,rfl⟩
  .rw [XCl,eC_NoOrder];exact ⟨_,_,_,lC_NoOrder,rfl⟩
  .rw [XCl,eC_NotHeld];exact ⟨_,_,_,lC_NotHeld,rfl⟩
  .rw [XCl,eC_TooGreat];exact ⟨_,_,_,lC_TooGreat,rfl⟩
  .rw [XCl,eC_NoWords];exact ⟨_,_,_,lC_NoWords,rfl⟩
  .rw [XCl,eC_NotApart];exact ⟨_,_,_,lC_NotApart,rfl⟩,fun c hc=>by
  simp only [xcs,List.mem_cons,List.not_mem_nil,or_false] at hc
  rcases hc with rfl | rfl | rfl | rfl | rfl | rfl | rfl | rfl
  .rw [eC_TooMany,eC_GlueError];exact xc_TooMany
  .rw [eC_NoPiece,eC_GlueError];exact xc_NoPiece
  .rw [eC_NoLap,eC_GlueError];exact xc_NoLap
  .rw [eC_NoOrder,eC_GlueError];exact xc_NoOrder
  .rw [eC_NotHeld,eC_GlueError];exact xc_NotHeld
  .rw [eC_TooGreat,eC_GlueError];exact xc_TooGreat
  .rw [eC_NoWords,eC_GlueError];exact xc_NoWords
  .rw [eC_NotApart,eC_GlueError];exact xc_NotApart⟩,fun c g hc=>by
  simp only [tG,List.mem_cons,List.not_mem_nil,or_false,Prod.mk.injEq] at hc
  rcases hc with ⟨rfl,rfl⟩ | ⟨rfl,rfl⟩ | ⟨rfl,rfl⟩ | ⟨rfl,rfl⟩ | ⟨rfl,rfl⟩ | ⟨rfl,rfl⟩
  .rw [eC_TooMany];exact xn_TooMany
  .rw [eC_NoPiece];exact xn_NoPiece
  .rw [eC_NoLap];exact xn_NoLap
  .rw [eC_NotHeld];exact xn_NotHeld
  .rw [eC_TooGreat];exact xn_TooGreat
  .rw [eC_NotApart];exact xn_NotApart,by rw [eC_TooMany];exact PySem.W.mg_of X G aC_TooMany,by rw [eC_NoPiece];exact PySem.W.mg_of X G aC_NoPiece,by rw [eC_NoLap];exact PySem.W.mg_of X G aC_NoLap,by rw [eC_NoOrder];exact PySem.W.mg_of X G aC_NoOrder,by rw [eC_NotHeld];exact PySem.W.mg_of X G aC_NotHeld,by rw [eC_TooGreat];exact PySem.W.mg_of X G aC_TooGreat,by rw [eC_NoWords];exact PySem.W.mg_of X G aC_NoWords,by rw [eC_NotApart];exact PySem.W.mg_of X G aC_NotApart,by rw [eC_GlueError];exact PySem.W.mg_of X G aC_GlueError,by rw [eC_TooMany];exact ⟨_,_,_,_,_,_,_,_,_,_,_,_,_,_,_,_,_,lC_TooMany,rfl⟩,by rw [eC_NoPiece];exact ⟨_,_,_,_,_,_,_,_,_,_,_,_,_,_,_,_,_,lC_NoPiece,rfl⟩,by rw [eC_NoLap];exact ⟨_,_,_,_,_,_,_,_,_,_,_,_,_,_,_,_,_,lC_NoLap,rfl⟩,by rw [eC_NoOrder];exact ⟨_,_,_,_,_,_,_,_,_,_,_,_,_,_,_,_,_,lC_NoOrder,rfl⟩,by rw [eC_NotHeld];exact ⟨_,_,_,_,_,_,_,_,_,_,_,_,_,_,_,_,_,lC_NotHeld,rfl⟩,by rw [eC_TooGreat];exact ⟨_,_,_,_,_,_,_,_,_,_,_,_,_,_,_,_,_,lC_TooGreat,rfl⟩,by rw [eC_NoWords];exact ⟨_,_,_,_,_,_,_,_,_,_,_,_,_,_,_,_,_,lC_NoWords,rfl⟩,by rw [eC_NotApart];exact ⟨_,_,_,_,_,_,_,_,_,_,_,_,_,_,_,_,_,lC_NotApart,rfl⟩,by rw [eC_GlueError];exact ⟨_,_,_,_,_,_,_,_,_,_,_,_,_,_,_,_,_,lC_GlueError,rfl⟩,by rw [eC_NoOrder];exact vk xq_NoOrder,by rw [eC_NoOrder];exact kc_NoOrder,by rw [eC_NoWords];exact vk xq_NoWords,by rw [eC_NoWords];exact kc_NoWords⟩
 have D_is_text:mB K mg "is_text" c3 [.int 0,.int 4000]:=⟨⟨f1,dT1,oc1,od1,an1,dd1,kV1,dc1,pm1,cd1,ct1,sl1,st1,[.int 0 u1_0,.int 4000 u1_1],n1,l1,c1,k1,PySem.W.mg_of X G a1,t1,(.cons ⟨_,rfl⟩ (.cons ⟨_,rfl⟩ .nil))⟩⟩
 have D_first_place:=bV d2 X G
 have D_lap:=bV d3 X G
 have D_law_stream:=bV d4 X G
 have D_law_take:=bV d5 X G
 have D_all_laps:=bV d6 X G
 have D_stands_within:=bV d7 X G
 have D_law_letters:=bV d8 X G
 have D_law_word:=bV d9 X G
 have D_law_cut:=bV d10 X G
 have D_check_pieces:=bV d11 X G
 have D_is_kept:=bV d12 X G
 have D_left_row:=bV d13 X G
 have D_law_pieces:=bV d14 X G
 have D_law_odd:=bV d15 X G
 have D_Family_init:hG K mg (aq K "Family") "Family" "Family.__init__" bf:=by rw [eC_Family];exact ⟨⟨f16,_,gk (st:=bf) l16 c16 k16,⟨mk_Family,a16,i16,kc_Family⟩,PySem.W.mg_of X G aC_Family⟩⟩
 have D_law_caught:=bV d17 X G
 have D_law_by_name:=bV d18 X G
 have D_law_no_piece:=bV d19 X G
 have D_law_too_many:=bV d20 X G
 have D_law_one:=bV d21 X G
 have D_law:=bV d22 X G
 have T:Txt mg:=⟨PySem.W.mg_none_of X G z1,PySem.W.mg_none_of X G z2,PySem.W.mg_none_of X G z3,PySem.W.mg_none_of X G z4,PySem.W.mg_none_of X G z5,PySem.W.mg_none_of X G z6,PySem.W.mg_none_of X G z7,PySem.W.mg_none_of X G z8,PySem.W.mg_none_of X G z9,PySem.W.mg_none_of X G z10,PySem.W.mg_none_of X G z11,PySem.W.mg_none_of X G z12,PySem.W.mg_none_of X G z13,PySem.W.mg_none_of X G z14,PySem.W.mg_none_of X G z15,PySem.W.mg_none_of X G z16,⟨_,PySem.W.mg_of X G y1⟩,⟨_,PySem.W.mg_of X G y2⟩⟩
 refine wW (st:=sw) hfa D_law (fun _ _ _ _ _ _ s v=>.of_eq rfl) fun base=>?_
 have C_TooMany_init:qh l.prog w K mg base 1 (aq K "TooMany") "TooMany" "most":=by
  rw [eC_TooMany]
  exact fY (gk (st:=bN) xl_TooMany xc0_TooMany xk_TooMany) il rfl (fun _ _ _ _ _ _ us hl=>match us,hl with | [_,_],_=>rfl) (fun cdv A outer s H E=>al (eF K rfl (pv 0) (pv 1) rfl)) ⟨xc_TooMany,tl_,xi_TooMany,xt_TooMany,kc_TooMany⟩ xn_TooMany (PySem.W.mg_of X G aC_TooMany)
 have C_NoPiece_init:qh l.prog w K mg base 1 (aq K "NoPiece") "NoPiece" "at":=by
  rw [eC_NoPiece]
  exact fY (gk (st:=bO) xl_NoPiece xc0_NoPiece xk_NoPiece) im rfl (fun _ _ _ _ _ _ us hl=>match us,hl with | [_,_],_=>rfl) (fun cdv A outer s H E=>al (eF K rfl (pv 0) (pv 1) rfl)) ⟨xc_NoPiece,tl_,xi_NoPiece,xt_NoPiece,kc_NoPiece⟩ xn_NoPiece (PySem.W.mg_of X G aC_NoPiece)
 have C_NoLap_init:qh l.prog w K mg base 1 (aq K "NoLap") "NoLap" "k":=by
  rw [eC_NoLap]
  exact fY (gk (st:=cm) xl_NoLap xc0_NoLap xk_NoLap) j6 rfl (fun _ _ _ _ _ _ us hl=>match us,hl with | [_,_],_=>rfl) (fun cdv A outer s H E=>al (eF K rfl (pv 0) (pv 1) rfl)) ⟨xc_NoLap,tl_,xi_NoLap,xt_NoLap,kc_NoLap⟩ xn_NoLap (PySem.W.mg_of X G aC_NoLap)
 have C_NotHeld_init:qh l.prog w K mg base 1 (aq K "NotHeld") "NotHeld" "at":=by
  rw [eC_NotHeld]
  exact fY (gk (st:=bP) xl_NotHeld xc0_NotHeld xk_NotHeld) io rfl (fun _ _ _ _ _ _ us hl=>match us,hl with | [_,_],_=>rfl) (fun cdv A outer s H E=>al (eF K rfl (pv 0) (pv 1) rfl)) ⟨xc_NotHeld,tl_,xi_NotHeld,xt_NotHeld,kc_NotHeld⟩ xn_NotHeld (PySem.W.mg_of X G aC_NotHeld)
 have C_TooGreat_init:qh l.prog w K mg base 1 (aq K "TooGreat") "TooGreat" "most":=by
  rw [eC_TooGreat]
  exact fY (gk (st:=bB) xl_TooGreat xc0_TooGreat xk_TooGreat) gD rfl (fun _ _ _ _ _ _ us hl=>match us,hl with | [_,_],_=>rfl) (fun cdv A outer s H E=>al (eF K rfl (pv 0) (pv 1) rfl)) ⟨xc_TooGreat,tl_,xi_TooGreat,xt_TooGreat,kc_TooGreat⟩ xn_TooGreat (PySem.W.mg_of X G aC_TooGreat)
 have C_NotApart_init:qh l.prog w K mg base 1 (aq K "NotApart") "NotApart" "at":=by
  rw [eC_NotApart]
  exact fY (gk (st:=bC) xl_NotApart xc0_NotApart xk_NotApart) gE rfl (fun _ _ _ _ _ _ us hl=>match us,hl with | [_,_],_=>rfl) (fun cdv A outer s H E=>al (eF K rfl (pv 0) (pv 1) rfl)) ⟨xc_NotApart,tl_,xi_NotApart,xt_NotApart,kc_NotApart⟩ xn_NotApart (PySem.W.mg_of X G aC_NotApart)
 have C_is_text:=nS (P:=l.prog) (w:=w) (base:=base) D_is_text T TC TX
 have C_first_place:=iZ (P:=l.prog) (w:=w) (base:=base) D_first_place T TC TX
 have C_lap:=yb (P:=l.prog) (w:=w) (base:=base) D_lap T TC TX
 have C_law_stream:=kc (P:=l.prog) (w:=w) (base:=base) D_law_stream T TC TX
 have C_law_take:=mj (P:=l.prog) (w:=w) (base:=base) D_law_take T TC TX
 have C_all_laps:=mh (P:=l.prog) (w:=w) (base:=base) D_all_laps T TC TX C_lap
 have C_stands_within:=gJ (P:=l.prog) (w:=w) (base:=base) D_stands_within T TC TX C_first_place
 have C_law_letters:=i5 (P:=l.prog) (w:=w) (base:=base) D_law_letters T TC TX C_law_take
 have C_law_word:=ml (P:=l.prog) (w:=w) (base:=base) D_law_word T TC TX C_law_take
 have C_law_cut:=nV (P:=l.prog) (w:=w) (base:=base) D_law_cut T TC TX C_law_take
 have C_check_pieces:=iG (P:=l.prog) (w:=w) (base:=base) D_check_pieces T TC TX C_NoPiece_init C_TooMany_init C_is_text
 have C_Family_rz:=lp (P:=l.prog) (w:=w) (base:=base) D_Family_init C_check_pieces
 have C_is_kept:=nU (P:=l.prog) (w:=w) (base:=base) D_is_kept T TC TX C_stands_within
 have C_left_row:=mi (P:=l.prog) (w:=w) (base:=base) D_left_row T TC TX C_first_place C_stands_within
 have C_law_pieces:=kd (P:=l.prog) (w:=w) (base:=base) D_law_pieces T TC TX C_law_cut C_law_letters C_law_take C_law_word
 have C_law_odd:=nW (P:=l.prog) (w:=w) (base:=base) D_law_odd T TC TX C_law_take C_law_word
 have C_Family_init:=i4 (P:=l.prog) (w:=w) (base:=base) D_Family_init T TC TX C_all_laps C_check_pieces C_is_kept C_left_row
 have C_law_caught:=ke (P:=l.prog) (w:=w) (base:=base) D_law_caught T TC TX C_Family_rz
 have C_law_by_name:=i6 (P:=l.prog) (w:=w) (base:=base) D_law_by_name T TC TX C_Family_rz
 have C_law_no_piece:=iK (P:=l.prog) (w:=w) (base:=base) D_law_no_piece T TC TX C_law_caught
 have C_law_too_many:=iL (P:=l.prog) (w:=w) (base:=base) D_law_too_many T TC TX C_law_caught
 have C_law_one:=nX (P:=l.prog) (w:=w) (base:=base) D_law_one T TC TX C_Family_init C_law_by_name C_law_no_piece C_law_odd C_law_pieces C_law_take C_law_too_many
 exact (yc (P:=l.prog) (w:=w) (base:=base) D_law T TC TX C_Family_init C_law_one C_law_stream).imp fun _ _ _ _ h=>uN h
end K14

open PySem PySem.W PyProof.Rows
local macro_rules | `(tactic| walk_at "fn") => `(tactic| (refine' L2.x4 ?a ?l ?c ?k; (case a => k_is); (case l => k_is); (case c => k_is); (case k => k_is)))
set_option maxRecDepth 100000 in
set_option maxHeartbeats 0 in
theorem PySem.Challenge.cw_shortglue_k14_family_refused_holds : PySem.Challenge.rw_shortglue_k14_family_refused.Holds := by
  refine topHd ?_
  k_fill
  refine L2.wX (l := PySem.Challenge.rw_shortglue_k14_family_refused) (k := 9) (x := "_law_script") rfl rfl ⟨rfl, by decide, by decide⟩ (fun w h Y => PySem.W.kIn_of Y) ?F
  case F =>
    intro w mg fa h KX G hmg
    refine' K14.ye KX G hmg ?aC_Family ?pg_Family ?hd_Family ?po_Family ?sa_Family ?mk_Family ?kc_Family ?n_Family_pieces ?n_Family_kept ?n_Family_words ?n_Family_left ?n_Family_laps ?n_Family_total ?aC_GlueError ?lC_GlueError ?xq_GlueError ?aC_TooMany ?lC_TooMany ?ga_TooMany ?gh_TooMany ?sa_TooMany ?cl_TooMany ?kc_TooMany ?xi_TooMany ?xt_TooMany ?xl_TooMany ?xc0_TooMany ?xk_TooMany ?xn_TooMany ?aC_NoPiece ?lC_NoPiece ?ga_NoPiece ?gh_NoPiece ?sa_NoPiece ?cl_NoPiece ?kc_NoPiece ?xi_NoPiece ?xt_NoPiece ?xl_NoPiece ?xc0_NoPiece ?xk_NoPiece ?xn_NoPiece ?aC_NoLap ?lC_NoLap ?ga_NoLap ?gh_NoLap ?sa_NoLap ?cl_NoLap ?kc_NoLap ?xi_NoLap ?xt_NoLap ?xl_NoLap ?xc0_NoLap ?xk_NoLap ?xn_NoLap ?aC_NoOrder ?lC_NoOrder ?ga_NoOrder ?gh_NoOrder ?sa_NoOrder ?cl_NoOrder ?kc_NoOrder ?xq_NoOrder ?aC_NotHeld ?lC_NotHeld ?ga_NotHeld ?gh_NotHeld ?sa_NotHeld ?cl_NotHeld ?kc_NotHeld ?xi_NotHeld ?xt_NotHeld ?xl_NotHeld ?xc0_NotHeld ?xk_NotHeld ?xn_NotHeld ?aC_TooGreat ?lC_TooGreat ?ga_TooGreat ?gh_TooGreat ?sa_TooGreat ?cl_TooGreat ?kc_TooGreat ?xi_TooGreat ?xt_TooGreat ?xl_TooGreat ?xc0_TooGreat ?xk_TooGreat ?xn_TooGreat ?aC_NoWords ?lC_NoWords ?ga_NoWords ?gh_NoWords ?sa_NoWords ?cl_NoWords ?kc_NoWords ?xq_NoWords ?aC_NotApart ?lC_NotApart ?ga_NotApart ?gh_NotApart ?sa_NotApart ?cl_NotApart ?kc_NotApart ?xi_NotApart ?xt_NotApart ?xl_NotApart ?xc0_NotApart ?xk_NotApart ?xn_NotApart ?a1 ?l1 ?c1 ?k1 ?t1 ?d2 ?d3 ?d4 ?d5 ?d6 ?d7 ?d8 ?d9 ?d10 ?d11 ?d12 ?d13 ?d14 ?d15 ?a16 ?i16 ?l16 ?c16 ?k16 ?d17 ?d18 ?d19 ?d20 ?d21 ?d22 ?z1 ?z2 ?z3 ?z4 ?z5 ?z6 ?z7 ?z8 ?z9 ?z10 ?z11 ?z12 ?z13 ?z14 ?z15 ?z16 ?y1 ?y2
    (case aC_Family => k_is)
    (case pg_Family => k_is)
    (case hd_Family => k_is)
    (case po_Family => k_is)
    (case sa_Family => k_is)
    (case mk_Family => k_is)
    (case kc_Family => k_is)
    (case n_Family_pieces => k_is)
    (case n_Family_kept => k_is)
    (case n_Family_words => k_is)
    (case n_Family_left => k_is)
    (case n_Family_laps => k_is)
    (case n_Family_total => k_is)
    (case aC_GlueError => k_is)
    (case lC_GlueError => k_is)
    (case xq_GlueError => k_exc)
    (case aC_TooMany => k_is)
    (case lC_TooMany => k_is)
    (case ga_TooMany => k_is)
    (case gh_TooMany => k_is)
    (case sa_TooMany => k_is)
    (case cl_TooMany => k_is)
    (case kc_TooMany => k_is)
    (case xi_TooMany => k_is)
    (case xt_TooMany => k_is)
    (case xl_TooMany => k_is)
    (case xc0_TooMany => k_is)
    (case xk_TooMany => k_is)
    (case xn_TooMany => k_is)
    (case aC_NoPiece => k_is)
    (case lC_NoPiece => k_is)
    (case ga_NoPiece => k_is)
    (case gh_NoPiece => k_is)
    (case sa_NoPiece => k_is)
    (case cl_NoPiece => k_is)
    (case kc_NoPiece => k_is)
    (case xi_NoPiece => k_is)
    (case xt_NoPiece => k_is)
    (case xl_NoPiece => k_is)
    (case xc0_NoPiece => k_is)
    (case xk_NoPiece => k_is)
    (case xn_NoPiece => k_is)
    (case aC_NoLap => k_is)
    (case lC_NoLap => k_is)
    (case ga_NoLap => k_is)
    (case gh_NoLap => k_is)
    (case sa_NoLap => k_is)
    (case cl_NoLap => k_is)
    (case kc_NoLap => k_is)
    (case xi_NoLap => k_is)
    (case xt_NoLap => k_is)
    (case xl_NoLap => k_is)
    (case xc0_NoLap => k_is)
    (case xk_NoLap => k_is)
    (case xn_NoLap => k_is)
    (case aC_NoOrder => k_is)
    (case lC_NoOrder => k_is)
    (case ga_NoOrder => k_is)
    (case gh_NoOrder => k_is)
    (case sa_NoOrder => k_is)
    (case cl_NoOrder => k_is)
    (case kc_NoOrder => k_is)
    (case xq_NoOrder => k_exc)
    (case aC_NotHeld => k_is)
    (case lC_NotHeld => k_is)
    (case ga_NotHeld => k_is)
    (case gh_NotHeld => k_is)
    (case sa_NotHeld => k_is)
    (case cl_NotHeld => k_is)
    (case kc_NotHeld => k_is)
    (case xi_NotHeld => k_is)
    (case xt_NotHeld => k_is)
    (case xl_NotHeld => k_is)
    (case xc0_NotHeld => k_is)
    (case xk_NotHeld => k_is)
    (case xn_NotHeld => k_is)
    (case aC_TooGreat => k_is)
    (case lC_TooGreat => k_is)
    (case ga_TooGreat => k_is)
    (case gh_TooGreat => k_is)
    (case sa_TooGreat => k_is)
    (case cl_TooGreat => k_is)
    (case kc_TooGreat => k_is)
    (case xi_TooGreat => k_is)
    (case xt_TooGreat => k_is)
    (case xl_TooGreat => k_is)
    (case xc0_TooGreat => k_is)
    (case xk_TooGreat => k_is)
    (case xn_TooGreat => k_is)
    (case aC_NoWords => k_is)
    (case lC_NoWords => k_is)
    (case ga_NoWords => k_is)
    (case gh_NoWords => k_is)
    (case sa_NoWords => k_is)
    (case cl_NoWords => k_is)
    (case kc_NoWords => k_is)
    (case xq_NoWords => k_exc)
    (case aC_NotApart => k_is)
    (case lC_NotApart => k_is)
    (case ga_NotApart => k_is)
    (case gh_NotApart => k_is)
    (case sa_NotApart => k_is)
    (case cl_NotApart => k_is)
    (case kc_NotApart => k_is)
    (case xi_NotApart => k_is)
    (case xt_NotApart => k_is)
    (case xl_NotApart => k_is)
    (case xc0_NotApart => k_is)
    (case xk_NotApart => k_is)
    (case xn_NotApart => k_is)
    (case a1 => k_is)
    (case l1 => k_is)
    (case c1 => k_is)
    (case k1 => k_is)
    (case t1 => k_is)
    (case d2 => walk_at "fn")
    (case d3 => walk_at "fn")
    (case d4 => walk_at "fn")
    (case d5 => walk_at "fn")
    (case d6 => walk_at "fn")
    (case d7 => walk_at "fn")
    (case d8 => walk_at "fn")
    (case d9 => walk_at "fn")
    (case d10 => walk_at "fn")
    (case d11 => walk_at "fn")
    (case d12 => walk_at "fn")
    (case d13 => walk_at "fn")
    (case d14 => walk_at "fn")
    (case d15 => walk_at "fn")
    (case a16 => k_is)
    (case i16 => k_is)
    (case l16 => k_is)
    (case c16 => k_is)
    (case k16 => k_is)
    (case d17 => walk_at "fn")
    (case d18 => walk_at "fn")
    (case d19 => walk_at "fn")
    (case d20 => walk_at "fn")
    (case d21 => walk_at "fn")
    (case d22 => walk_at "fn")
    (case z1 => k_is)
    (case z2 => k_is)
    (case z3 => k_is)
    (case z4 => k_is)
    (case z5 => k_is)
    (case z6 => k_is)
    (case z7 => k_is)
    (case z8 => k_is)
    (case z9 => k_is)
    (case z10 => k_is)
    (case z11 => k_is)
    (case z12 => k_is)
    (case z13 => k_is)
    (case z14 => k_is)
    (case z15 => k_is)
    (case z16 => k_is)
    (case y1 => k_is)
    (case y2 => k_is)
