import PyProof.Rows.All
import Wide.All
import OpenK.AllK
import Wide.FinOn
import Lean
import PyProof.EqAt
import PyProof.EqKinds
import PyProof.TupleCall
import KE.KSortTup
import PyProof.FString
import PyProof.StrBlock
import KE.KRevSl
import PySem.Challenge.RW_shortglue_k16_text_of_order
set_option Elab.async false
set_option linter.all false
set_option maxRecDepth 100000
set_option maxHeartbeats 4000000
noncomputable section
namespace L2
open PySem PySem.W
def mS (tb:String->Option Builtin) (p:Program) (w:World) (n₀:Nat) (ann:Option Value):Nat->SharedT->Thread->Option SharedT
 | 0,_,_=>none
 | n + 1,s,t=>match through t with
  | true=>some s
  | false=>match stepOk n₀ ann t with
   | false=>none
   | true=>match stepT (denote tb) p w s t with
    | some (s',t')=>mS tb p w n₀ ann n s' t'
    | none=>none
theorem oF {tb:String->Option Builtin}{p:Program}{w:World}{n₀:Nat}{ann:Option Value}:∀{n:Nat}{s s':SharedT}{t:Thread},mS tb p w n₀ ann n s t=some s'->topRun tb p w n₀ ann n s.abs t=some s'.abs
 | 0,_,_,_,h=>by cases h
 | n + 1,s,s',t,h=>by
  unfold mS at h
  unfold topRun
  cases he:through t with
  | true=>rw [he] at h;cases h;rfl
  | false =>
   rw [he] at h
   cases hk:stepOk n₀ ann t with
   | false=>rw [hk] at h;cases h
   | true =>
    rw [hk] at h
    cases hs:stepT (denote tb) p w s t with
    | none=>rw [hs] at h;cases h
    | some r=>obtain ⟨s₂,t₂⟩:=r;rw [hs] at h;rw [stepT_spec hs];exact oF h
def yu:List Obj->Nat->BT->BT
 | [],_,t=>t
 | o::r,i,t=>yu r (i + 1) (t.ins i o)
def zl (P:Params):BT:=yu (boot_heap P).objs.toList 0 .nil
theorem wL:∀P,absHeap (zl P) (boot_heap P).objs.size (boot_heap P).life=boot_heap P:=fun P=>by kernel_rfl
theorem Bq {p q:Program}{loose:List Str}{Xt:Shared->Bool}{α:Type}{Yf:Shared->α}{Ya:World->α}{N:Nat}{g0:Bool}{m₀:Nat}{ann:Option Value}
  (e:opening p=plainProg p.main.scope.names) (hN:Nat.ble 600 N=true) (f:∀s,fenceModules? p s=some s)
  (size:∀w:World,((boot_heap w.params).isNs mainGlobals && (Array.mk []:Array GenState).size == 0,(boot_heap w.params).objs.size,(boot_heap w.params).nsMap mainGlobals "__annotations__")=(true,m₀,ann))
  (run:∀(w:World) (os:OsState),(mS treeTable p w m₀ ann N ⟨zl w.params,m₀,(boot_heap w.params).life,Array.mk [],boot_drawn,boot_toks,os⟩ (topStub p)).map (fun sT=>((staticsOk (importedModules p.main.body) (boot_heap w.params) sT.abs.heap && namesBound p sT.abs.heap && gensDone sT.abs && laidKept (boot_heap w.params) sT.abs.heap),openSeen q loose (importedModules p.main.body) Xt g0 sT.abs,Yf sT.abs))=some (true,openGood q loose,Ya w)):LeftO p q loose Xt Yf Ya N g0:=fun w=>by
 obtain ⟨⟨h,gs,d,k,os⟩,e,e'⟩:=Option.map_eq_some_iff.mp (boot_open e hN f w)
 obtain ⟨rfl,rfl,rfl,rfl⟩:h=boot_heap w.params/\gs=Array.mk []/\d=boot_drawn/\k=boot_toks:=by simpa using e'
 obtain ⟨z1,z2,z3⟩:_/\_/\_:=by simpa only [Prod.mk.injEq] using size w
 obtain ⟨sT,r,l⟩:=Option.map_eq_some_iff.mp (run w os)
 obtain ⟨l1,l2,l3⟩:_/\_/\_:=by simpa only [Prod.mk.injEq] using l
 have r:=oF r
 rw [show SharedT.abs ⟨zl w.params,m₀,(boot_heap w.params).life,Array.mk [],boot_drawn,boot_toks,os⟩=⟨boot_heap w.params,Array.mk [],boot_drawn,boot_toks,os⟩ by
  unfold SharedT.abs;dsimp only;rw [<- z2,wL]] at r
 have t:topFrom treeTable p w N ⟨boot_heap w.params,Array.mk [],boot_drawn,boot_toks,os⟩=some sT.abs:=by
  unfold topFrom
  dsimp only
  rw [z1,z2,z3,r]
  show (match staticsOk (importedModules p.main.body) (boot_heap w.params) sT.abs.heap && namesBound p sT.abs.heap && gensDone sT.abs && laidKept (boot_heap w.params) sT.abs.heap with | true=>_ | false=>_)=_
  rw [l1]
 unfold openEnds
 rw [e]
 show (topFrom treeTable p w N _).map _=_
 rw [t]
 exact congrArg some (Prod.ext l2 l3)
end L2
section
open PySem PySem.W PyProof.Rows
def zm:Program:=PySem.W.view PySem.Challenge.pw_shortglue_k16_text_of_order [1,2,3,4,5,7,8,9,11,12,13,14,15,16,18,19,21,22,23,25,27,28,29,30,31,33,34,35,36,37,38,39,40,41,42,43,44,45]
local macro_rules | `(tactic| o_head $H)=>`(tactic| (refine holds_open (q:=zm) (loose:=[PySem.Str.ofString "is_text"]) (Xt:=fun s=>xlAt zm [] s && recOk (RowW.records (OpenRow.toRowW (OpenLaw.row PySem.Challenge.rw_shortglue_k16_text_of_order))) s) (XP:=XL zm []) (Yf:=Hook.obs $H) (Ya:=Hook.val $H) (YP:=Hook.says $H) (N:=4848) ?hl (Hook.of $H) (Hook.keeps $H) (fun s e=>xl_of s (Bool.and_eq_true_iff.mp e).1) XL.keeps (by rfl) (by rfl) (by rfl) (fun s e=>recFacts_of (Bool.and_eq_true_iff.mp e).2) (by rfl) (by first | assumption | decide +kernel) (by decide +kernel) ⟨rfl,rfl,rfl,rfl,rfl,by decide +kernel⟩ ?hw ?hc;(case hl=>(refine L2.Bq (m₀:=11) (ann:=some (.ref 6)) (by kernel_rfl) (by rfl) (fun s=>by kernel_rfl) (fun w=>by kernel_rfl) ?_;intro w os;kernel_rfl))))
set_option maxRecDepth 100000 in
set_option maxHeartbeats 0 in
open_top topHd for PySem.Challenge.rw_shortglue_k16_text_of_order
end
-- CHANGE: your row's module here,as the last of these rows
namespace L2
open PySem PySem.Spec PyProof.Rows
abbrev Key:=Sum Int Str
def sL:Key->Value->Bool
 | .inl k,v=>Value.isInt k v
 | .inr x,v=>Value.isStrOf x v
def Ft (w:World):Key->Int
 | .inl k=>hashInt k
 | .inr x=>hashStr w x
theorem cf:∀{k:Key}{v:Value},sL k v=true->(∃i t,k=Sum.inl i/\v=Value.int i t)\/(∃x t,k=Sum.inr x/\v=Value.str x t)
 | .inl i,v,h=>by
  obtain ⟨t,e⟩:=Value.isInt_shape (k:=i) (v:=v) h
  exact .inl ⟨i,t,rfl,e⟩
 | .inr x,v,h=>by
  obtain ⟨t,e⟩:=Value.isStrOf_shape (x:=x) (v:=v) h
  exact .inr ⟨x,t,rfl,e⟩
theorem t5 (i:Int) (t:Tok):sL (.inl i) (.int i t)=true:=by simp [sL,Value.isInt]
theorem t6 (x:Str) (t:Tok):sL (.inr x) (.str x t)=true:=by simp [sL,Value.isStrOf]
theorem Br (a b:Int):decide ((Sum.inl a:Key)=Sum.inl b)=(a == b):=by
 by_cases e:a=b
 .subst e;simp
 .have h:¬ (Sum.inl a:Key)=Sum.inl b:=fun q=>e (Sum.inl.inj q)
  rw [decide_eq_false h]
  exact (beq_eq_false_iff_ne.mpr e).symm
theorem Bs (a b:Str):decide ((Sum.inr a:Key)=Sum.inr b)=decide (a=b):=by
 by_cases e:a=b
 .subst e;simp
 .have h:¬ (Sum.inr a:Key)=Sum.inr b:=fun q=>e (Sum.inr.inj q)
  rw [decide_eq_false h,decide_eq_false e]
theorem Bt (a:Int) (b:Str):decide ((Sum.inl a:Key)=Sum.inr b)=false:=decide_eq_false (fun q=>nomatch q)
theorem Bu (a:Str) (b:Int):decide ((Sum.inr a:Key)=Sum.inl b)=false:=decide_eq_false (fun q=>nomatch q)
def fc (prog:Program) (w:World):PySem.KeyKind prog w Key where
 is:=sL
 hash:=Ft w
 inj:=fun v a b ha hb=>by
  rcases cf ha with ⟨i,t,rfl,rfl⟩ | ⟨x,t,rfl,rfl⟩
  .rcases cf hb with ⟨j,u,rfl,e⟩ | ⟨y,u,rfl,e⟩
   .injection e with e1 _;rw [e1]
   .exact nomatch e
  .rcases cf hb with ⟨j,u,rfl,e⟩ | ⟨y,u,rfl,e⟩
   .exact nomatch e
   .injection e with e1 _;rw [e1]
 byValue:=fun k v h=>by
  rcases cf h with ⟨i,t,rfl,rfl⟩ | ⟨x,t,rfl,rfl⟩ <;> rfl
 pyHash:=fun hv h=>by
  rcases cf hv with ⟨i,t,rfl,rfl⟩ | ⟨x,t,rfl,rfl⟩
  .exact wpAny_pyHash_int h
  .exact wpAny_pyHash_str h
 eqBool:=fun hu hv h=>by
  rcases cf hu with ⟨i,t,rfl,rfl⟩ | ⟨x,t,rfl,rfl⟩
  .rcases cf hv with ⟨j,u,rfl,rfl⟩ | ⟨y,u,rfl,rfl⟩
   .rw [Br] at h;exact wpAny_eqBool_int h
   .rw [Bt] at h;exact SeqAt.EqAt.int_str i t y u _ _ _ _ h
  .rcases cf hv with ⟨j,u,rfl,rfl⟩ | ⟨y,u,rfl,rfl⟩
   .rw [Bu] at h;exact SeqAt.EqAt.str_int x t j u _ _ _ _ h
   .rw [Bs] at h;exact wpAny_eqBool_str h
 «strs»:=fun k x t v h=>by
  rcases cf h with ⟨i,u,rfl,e⟩ | ⟨y,u,rfl,e⟩
  .exact nomatch e
  .injection e with e1 _
   subst e1
   cases v <;> rfl
theorem qo (prog:Program) (w:World) (i:Int) (t:Tok):(fc prog w).is (.inl i) (.int i t)=true:=t5 i t
theorem qp (prog:Program) (w:World) (x:Str) (t:Tok):(fc prog w).is (.inr x) (.str x t)=true:=t6 x t
inductive V where
 | non | bl (b:Bool) | int (i:Int) | str (x:Str) | byt (b:Array UInt8) | flt (b:UInt64) | ref (a:Addr) | ty (n:String)
 deriving DecidableEq
def df:V->Value->Prop
 | .non,u=>u=Value.none
 | .bl b,u=>u=Value.bool b
 | .int i,u=>∃t,u=Value.int i t
 | .str x,u=>∃t,u=Value.str x t
 | .byt b,u=>∃t,u=Value.bytes b t
 | .flt b,u=>∃t,u=Value.float b t
 | .ref a,u=>u=Value.ref a
 | .ty n,u=>u=Value.type n
abbrev bO:List V->List Value->Prop:=Paired df
theorem bO.length {xs:List V}{us:List Value} (r:bO xs us):xs.length=us.length:=Paired.length r
theorem bO.get:∀{xs:List V}{us:List Value}{i:Nat}{x:V},bO xs us->xs[i]?=some x->∃u,us[i]?=some u/\df x u
 | _,_,_,_,.nil,e=>by simp at e
 | _,_,0,_,.cons r _,e=>by simp at e;subst e;exact ⟨_,rfl,r⟩
 | _,_,i + 1,x,.cons _ t,e=>by
  obtain ⟨u,h1,h2⟩:=bO.get (i:=i) (x:=x) t (by simpa using e)
  exact ⟨u,by simpa using h1,h2⟩
theorem bO.set {x:V}{u:Value} (r:df x u):∀{xs:List V}{us:List Value} (i:Nat),bO xs us->bO (xs.set i x) (us.set i u)
 | _,_,_,.nil=>.nil
 | _,_,0,.cons _ t=>.cons r t
 | _,_,i + 1,.cons q t=>.cons q (bO.set r i t)
theorem bO.append:∀{xs ys:List V}{us ws:List Value},bO xs us->bO ys ws->bO (xs++ys) (us++ws)
 | _,_,_,_,.nil,s=>s
 | _,_,_,_,.cons r t,s=>.cons r (bO.append t s)
theorem bO.take:∀{xs:List V}{us:List Value} (n:Nat),bO xs us->bO (xs.take n) (us.take n)
 | _,_,0,_=>.nil
 | _,_,_ + 1,.nil=>.nil
 | _,_,n + 1,.cons r t=>.cons r (bO.take n t)
theorem bO.drop:∀{xs:List V}{us:List Value} (n:Nat),bO xs us->bO (xs.drop n) (us.drop n)
 | _,_,0,r=>r
 | _,_,_ + 1,.nil=>.nil
 | _,_,n + 1,.cons _ t=>bO.drop n t
def tW:Option V->Option Value->Prop
 | some v,some u=>df v u
 | none,none=>True
 | _,_=>False
def KV {κ:Type}:List (κ×V)->List (κ×Value)->Prop:=Paired fun (p:κ×V) (q:κ×Value)=>p.1=q.1/\df p.2 q.2
def kV:Key->V
 | .inl i=>.int i
 | .inr x=>.str x
inductive HO where
 /-- a list -/
 | lst (xs:List V)
 /-- a tuple (never changes) -/
 | tup (xs:List V)
 /-- a dict whose keys are ints and texts;one whose keys are tuples of ints and texts (the empty one is both) -/
 | dK (kvs:List (Key×V)) | dT (kvs:List (List Key×V))
 /-- a set of ints: its members,its size -/
 | set (S:Int->Bool) (n:Nat)
 /-- an instance of the class at C,its dict at dx,its attributes -/
 | ins (C dx:Addr) (fs:List (Str×V))
 /-- the dict of the instance at x -/
 | own (x:Addr)
 /-- the dict of an exception -/
 | xd (fs:List (Str×V))
 /-- a bound method,f of x -/
 | met (f x:Addr)
 /-- a range object lo,lo + 1,.. below hi -/
 | rng (lo hi:Int)
 /-- a thing that is known to the object (the script;a dict while a loop walks it): read,never written while it is so -/
 | frz (o:Obj) (u:HO)
 /-- a code object's table -/
 | tbl (ps:Array Value)
 /-- any other thing,by what is true of its one object (a def of one's own: SetO a S n:=HO.ext fun h=>..) -/
 | ext (φ:Heap->Prop)
abbrev Hp:=Addr->Option HO
def upd (H:Hp) (a:Addr) (o:HO):Hp:=fun b=>if b=a then some o else H b
theorem aF {H:Hp}{a:Addr}{o:HO}:upd H a o a=some o:=by unfold upd;rw [if_pos rfl]
theorem ax {H:Hp}{a b:Addr}{o:HO} (h:b≠a):upd H a o b=H b:=by unfold upd;rw [if_neg h]
theorem aN {H:Hp}{a b:Addr}{o:HO} (h:H a=some o) (h':H b=none):a≠b:=by
 intro e;subst e;rw [h] at h';cases h'
section
variable (P:Program) (w:World)
def bD (H:Hp) (h:Heap) (a:Addr):HO->Prop
 | .lst xs=>xs.length<=sizeLine/\∃(its:List Value) (n:Nat),bO xs its/\h.get? a=some { cls:=.type "list",data:=.seq its.toArray n }
 | .tup xs=>xs.length<=sizeLine/\∃its:List Value,bO xs its/\IsTup h a its.toArray
 | .dK kvs=>kvs.length<=sizeLine/\(a == sysModules)=false/\∃vs,KV kvs vs/\h.DictOf (fc P w) a vs
 | .dT kvs=>kvs.length<=sizeLine/\(a == sysModules)=false/\∃xs:List (List Key×Addr×Value),
   Paired (fun (p:List Key×V) (q:List Key×Addr×Value)=>p.1=q.1/\H q.2.1=some (.tup (p.1.map kV))/\df p.2 q.2.2) kvs xs /\
   ∃o es ep,h.get? a=some o/\o.ExactDict/\o.data=.dict es ep/\es.toList=xs.map (entryOfKey (tupleKind (fc P w)))/\(xs.map (·.1)).Nodup
 | .set S n=>h.SetOf (intKind P w) a S n
 | .ins C dx fs=>H dx=some (.own a)/\fs.length<=1000/\dx≠a/\h.get? a=some (PySem.W.instObj C dx) /\
   ∃mA,h.Ns1 dx mA/\(∀f,tW (fs.lookup f) (mA f))/\PySem.Within mA (fs.map (·.1))
 | .own _=>∃o,h.get? a=some o
 | .xd fs=>∃mA,h.Ns1 a mA/\∀f,tW (fs.lookup f) (mA f)
 | .rng lo hi=>∃t u v,h.get? a=some { cls:=.type "range",data:=.fields #[.int lo t,.int hi u,.int 1 v] }
 | .frz o u=>h.get? a=some o/\bD H h a u
 | .tbl ps=>h.get? a=some { cls:=.none,data:=.fields ps }
 | .met f x=>h.get? a=some (PySem.W.methodObj (.ref f) (.ref x))
 | .ext φ=>φ h/\(∃o,h.get? a=some o)/\∀h1 h2:Heap,φ h1->(∀o,h1.get? a=some o->h2.get? a=some o)->φ h2
def HOk (H:Hp) (h:Heap):Prop:=∀a o,H a=some o->bD P w H h a o
end
section
variable {P:Program}{w:World}{H H':Hp}{h h':Heap}{a:Addr}{o:HO}
theorem bD.lt (x:bD P w H h a o):a < h.objs.size:=by
 cases o with
 | lst xs=>obtain ⟨_,_,_,_,e⟩:=x;exact Heap.lt_size e
 | tup xs=>obtain ⟨_,_,_,p⟩:=x;exact p.lt
 | dK kvs=>obtain ⟨_,_,_,_,o,_,_,e,_⟩:=x;exact Heap.lt_size e
 | dT kvs=>obtain ⟨_,_,_,_,o,_,_,e,_⟩:=x;exact Heap.lt_size e
 | set S n=>obtain ⟨o,_,_,_,e,_⟩:=x;exact Heap.lt_size e
 | ins C dx fs=>obtain ⟨_,_,_,e,_⟩:=x;exact Heap.lt_size e
 | own y=>obtain ⟨_,e⟩:=x;exact Heap.lt_size e
 | xd fs=>obtain ⟨_,⟨_,_,_,e,_⟩,_⟩:=x;exact Heap.lt_size e
 | rng lo hi=>obtain ⟨_,_,_,e⟩:=x;exact Heap.lt_size e
 | frz ob u=>obtain ⟨e,_⟩:=x;exact Heap.lt_size e
 | tbl ps=>exact Heap.lt_size (show h.get? a=some _ from x)
 | met f y=>exact Heap.lt_size (show h.get? a=some _ from x)
 | ext φ=>obtain ⟨_,⟨_,e⟩,_⟩:=x;exact Heap.lt_size e
theorem Paired.mapP {α β:Type}{F G:α->β->Prop}:∀{l₁:List α}{l₂:List β},Paired F l₁ l₂->(∀a b,F a b->G a b)->Paired G l₁ l₂
 | _,_,.nil,_=>.nil
 | _,_,.cons r t,f=>.cons (f _ _ r) (Paired.mapP t f)
theorem bD.stay (x:bD P w H h a o) (k:∀b u,(b=a\/H b=some (.own a))->h.get? b=some u->h'.get? b=some u)
  (ho:∀b,H b=some (.own a)->H' b=some (.own a)) (ht:∀b xs,H b=some (.tup xs)->H' b=some (.tup xs)):bD P w H' h' a o:=by
 induction o with
 | lst xs=>obtain ⟨z,its,n,r,e⟩:=x;exact ⟨z,its,n,r,k _ _ (.inl rfl) e⟩
 | tup xs=>obtain ⟨z,its,r,ob,e,c⟩:=x;exact ⟨z,its,r,ob,k _ _ (.inl rfl) e,c⟩
 | dK kvs=>obtain ⟨z,y,vs,r,ob,es,ep,e,c⟩:=x;exact ⟨z,y,vs,r,ob,es,ep,k _ _ (.inl rfl) e,c⟩
 | dT kvs =>
  obtain ⟨z,y,xs,r,ob,es,ep,e,c⟩:=x
  exact ⟨z,y,xs,Paired.mapP r fun p q z=>⟨z.1,ht _ _ z.2.1,z.2.2⟩,ob,es,ep,k _ _ (.inl rfl) e,c⟩
 | set S n=>obtain ⟨ob,es,ep,t,e,c⟩:=x;exact ⟨ob,es,ep,t,k _ _ (.inl rfl) e,c⟩
 | ins C dx fs =>
  obtain ⟨d,z,ne,e,mA,⟨od,es,ep,e2,c⟩,r⟩:=x
  exact ⟨ho _ d,z,ne,k _ _ (.inl rfl) e,mA,⟨od,es,ep,k _ _ (.inr d) e2,c⟩,r⟩
 | own y=>obtain ⟨ob,e⟩:=x;exact ⟨ob,k _ _ (.inl rfl) e⟩
 | xd fs=>obtain ⟨mA,⟨od,es,ep,e,c⟩,r⟩:=x;exact ⟨mA,⟨od,es,ep,k _ _ (.inl rfl) e,c⟩,r⟩
 | rng lo hi=>obtain ⟨t,u,v,e⟩:=x;exact ⟨t,u,v,k _ _ (.inl rfl) e⟩
 | frz ob u ih=>obtain ⟨e,q⟩:=x;exact ⟨k _ _ (.inl rfl) e,ih q⟩
 | tbl ps =>
  have e:h.get? a=some { cls:=.none,data:=.fields ps }:=x
  show h'.get? a=some { cls:=.none,data:=.fields ps }
  exact k a _ (.inl rfl) e
 | met f y =>
  have e:h.get? a=some (PySem.W.methodObj (.ref f) (.ref y)):=x
  show h'.get? a=some (PySem.W.methodObj (.ref f) (.ref y))
  exact k a _ (.inl rfl) e
 | ext φ=>obtain ⟨p,⟨o,e⟩,st⟩:=x;exact ⟨st _ _ p fun o q=>k _ _ (.inl rfl) q,⟨o,k _ _ (.inl rfl) e⟩,st⟩
theorem HOk.lt (x:HOk P w H h) (e:H a=some o):a < h.objs.size:=(x a o e).lt
theorem HOk.fresh (x:HOk P w H h) (e:h.objs.size<=a):H a=none:=by
 cases q:H a with
 | none=>rfl
 | some u=>exact absurd (Nat.lt_of_lt_of_le (x.lt q) e) (Nat.lt_irrefl _)
theorem HOk.kept (x:HOk P w H h) (k:∀b u,h.get? b=some u->h'.get? b=some u):HOk P w H h':=fun a o e =>
 (x a o e).stay (fun b u _ q=>k b u q) (fun _ q=>q) fun _ _ q=>q
theorem HOk.laid (x:HOk P w H h) (k:∀b u,h.get? b=some u->h'.get? b=some u) (hp:h.objs.size<=a) (new:bD P w (upd H a o) h' a o):HOk P w (upd H a o) h':=fun b u e=>by
 have hn:=x.fresh hp
 by_cases hb:b=a
 .subst hb;rw [aF] at e;cases e;exact new
 .rw [ax hb] at e
  exact (x b u e).stay (fun c v _ q=>k c v q) (fun c q=>by rw [ax (aN q hn)];exact q) fun c xs q=>by rw [ax (aN q hn)];exact q
end
def Rd (H:Hp) (a:Addr) (u:HO):Prop:=H a=some u\/∃o,H a=some (.frz o u)
theorem Rd.ok {P:Program}{w:World}{H:Hp}{h:Heap}{a:Addr}{u:HO} (r:Rd H a u) (x:HOk P w H h):bD P w H h a u:=by
 rcases r with r | ⟨o,r⟩
 .exact x a u r
 .obtain ⟨_,q⟩:=x a _ r
  exact q
def Mut:Option HO->Prop
 | some (.lst _)=>True
 | some (.dK _)=>True
 | some (.dT _)=>True
 | some (.set _ _)=>True
 | some (.ins _ _ _)=>True
 | some (.ext _)=>True
 | _=>False
section
variable {P:Program}{w:World}{H:Hp}{h h':Heap}{x e:Addr}{o':HO}
theorem HOk.write (ok:HOk P w H h) (mu:Mut (H x)) (he:e=x\/H e=some (.own x)) (k:∀b u,b≠e->h.get? b=some u->h'.get? b=some u) (heo:∃u,h'.get? e=some u)
  (new:bD P w (upd H x o') h' x o'):HOk P w (upd H x o') h':=fun b u q=>by
 have nown:∀c y,H c=some (.own y)->c≠x:=fun c y r z=>by subst z;rw [r] at mu;exact mu
 have ntup:∀c xs,H c=some (.tup xs)->c≠x:=fun c xs r z=>by subst z;rw [r] at mu;exact mu
 by_cases hb:b=x
 .subst hb;rw [aF] at q;cases q;exact new
 .rw [ax hb] at q
  by_cases hbe:b=e
  .have q':H b=some (.own x):=by
    rcases he with z | z
    .exact absurd (hbe.trans z) hb
    .rw [hbe];exact z
   rw [q] at q';cases q'
   obtain ⟨v,hv⟩:=heo
   exact ⟨v,by rw [hbe];exact hv⟩
  .refine (ok b u q).stay (fun c v hc r=>k c v ?_ r) (fun c r=>by rw [ax (nown c b r)];exact r) fun c xs r=>by rw [ax (ntup c xs r)];exact r
   rcases hc with rfl | hc
   .exact hbe
   .rintro rfl
    rcases he with z | z
    .exact nown c b hc z
    .rw [hc] at z;cases z;exact hb rfl
end
structure Un (fs ex:List Addr) (H H':Hp) (h h':Heap):Prop where
 keep:∀b o,h.get? b=some o->H b=none->b∉fs->b∉ex->h'.get? b=some o
 slot:∀b o,h.get? b=some o->H b=none->b∈fs->b∉ex->∃sl,h'.get? b=some { o with slots:=sl }
 free:∀b o,h.get? b=some o->H b=none->b∉ex->H' b=none
 there:∀b o,h.get? b=some o->b∉ex->∃o',h'.get? b=some o'
 tups:∀b xs,H b=some (.tup xs)->H' b=some (.tup xs)
 frzs:∀b o u,H b=some (.frz o u)->H' b=some (.frz o u)
 tbls:∀b ps,H b=some (.tbl ps)->∃more,H' b=some (.tbl (ps++more))
section
variable {fs fs' ex ex':List Addr}{H H1 H2:Hp}{h h1 h2 h':Heap}{a x e:Addr}{o:HO}
theorem Un.any (u:Un fs ex H H1 h h1) {b:Addr}{ob:Obj} (q:h.get? b=some ob) (n:H b=none) (hx:b∉ex):∃sl,h1.get? b=some { ob with slots:=sl }:=by
 by_cases hb:b∈fs
 .exact u.slot b ob q n hb hx
 .exact ⟨ob.slots,u.keep b ob q n hb hx⟩
theorem Un.kept (k:∀b u,h.get? b=some u->h'.get? b=some u):Un fs ex H H h h' :=
 ⟨fun b ob q _ _ _=>k b ob q,fun b ob q _ _ _=>⟨ob.slots,k b ob q⟩,fun _ _ _ n _=>n,fun b ob q _=>⟨ob,k b ob q⟩,fun _ _ q=>q,fun _ _ _ q=>q,fun _ ps q=>⟨#[],by rw [q];simp⟩⟩
theorem Un.refl:Un fs ex H H h h:=Un.kept fun _ _ q=>q
theorem Un.laid (k:∀b u,h.get? b=some u->h'.get? b=some u) (hp:h.objs.size<=a) (hn:H a=none):Un fs ex H (upd H a o) h h' where
 keep:=fun b u q _ _ _=>k b u q
 slot:=fun b u q _ _ _=>⟨u.slots,k b u q⟩
 free:=fun b u q n _=>by rw [ax (Nat.ne_of_lt (Nat.lt_of_lt_of_le (Heap.lt_size q) hp))];exact n
 there:=fun b u q _=>⟨u,k b u q⟩
 tups:=fun b xs q=>by rw [ax (aN q hn)];exact q
 frzs:=fun b u xs q=>by rw [ax (aN q hn)];exact q
 tbls:=fun b ps q=>⟨#[],by rw [ax (aN q hn),q];simp⟩
theorem Un.write (mu:Mut (H x)) (he:e=x\/H e=some (.own x)) (k:∀b u,b≠e->h.get? b=some u->h'.get? b=some u) (heo:∃u,h'.get? e=some u):Un fs ex H (upd H x o) h h':=by
 have hx:∀b,H b=none->b≠x:=fun b n z=>by subst z;rw [n] at mu;exact mu
 have hb:∀b,H b=none->b≠e:=fun b n z=>by
  subst z
  rcases he with r | r
  .exact hx b n r
  .rw [n] at r;cases r
 have hm:∀b u,H b=some u->¬ Mut (some u)->b≠x:=fun b u q nm z=>by subst z;rw [q] at mu;exact nm mu
 refine ⟨fun b u q n _ _=>k b u (hb b n) q,fun b u q n _ _=>⟨u.slots,k b u (hb b n) q⟩,fun b u q n _=>by rw [ax (hx b n)];exact n,fun b u q _=>?_,
  fun b xs q=>by rw [ax (hm b _ q fun z=>z)];exact q,fun b u xs q=>by rw [ax (hm b _ q fun z=>z)];exact q,fun b ps q=>⟨#[],by rw [ax (hm b _ q fun z=>z),q];simp⟩⟩
 by_cases hbe:b=e
 .subst hbe;exact heo
 .exact ⟨u,k b u hbe q⟩
end
def trk (h:Heap) (H:Hp):List Addr:=(List.range h.objs.size).filter fun a=>(H a).isSome
def wM (h:Heap) (H:Hp):Heap:=PySem.W.hideAll h (trk h H)
theorem t7 (h:Heap) (H:Hp):(wM h H).objs.size=h.objs.size:=PySem.W.hideAll_size _ _
theorem wN {h:Heap}{H:Hp}{b:Addr}{o:Obj} (e:h.get? b=some o) (n:H b=none):(wM h H).get? b=some o :=
 PySem.W.hideAll_get _ e fun hm=>by
  have q:(H b).isSome=true:=(List.mem_filter.mp hm).2
  rw [n] at q;simp at q
theorem zn {h:Heap}{H:Hp}{b:Addr}{o:Obj} (e:(wM h H).get? b=some o):h.get? b=some o/\H b=none:=by
 have e':h.get? b=some o:=PySem.W.of_hideAll (trk h H) e
 refine ⟨e',?_⟩
 cases q:H b with
 | none=>rfl
 | some x =>
  have hm:b∈trk h H:=List.mem_filter.mpr ⟨List.mem_range.mpr (Heap.lt_size e'),by simp [q]⟩
  have z:(wM h H).get? b=none:=PySem.W.hideAll_none (trk h H) hm
  rw [z] at e;cases e
structure Mod (K:PySem.W.Frag) (mg:Str->Option Value) (base:Heap):Prop where
 kin:K.In base
 glob:base.Ns mainGlobals mg
 blt:∃mb,base.Ns builtinsNs mb/\∀x:Str,x≠"__name__"->mb x=bootBuiltins x
 nolimit:base.NoLimit
structure Cx where
 prog:Program
 w:World
 K:PySem.W.Frag
 mg:Str->Option Value
 base:Heap
 A:Around
 N:List Str
 s₀:Shared
 H₀:Hp
 env:Env
 outer:List Env
 stack:List Env
 ex:List Addr
 fn:Str->Bool
 calm:Bool
 pn:List (Addr×Obj)
 xe:Value->Shared->Prop
def frs (l:List Env):List Addr:=l.filterMap (·.frame)
abbrev Cx.fs (X:Cx):List Addr:=frs X.outer
def Vis (sc:Scope) (x:Str):Prop:=sc.names.lookup x=some .local\/sc.names.lookup x=some .cell\/sc.names.lookup x=some .free
def Loc (sc:Scope) (x:Str):Prop:=sc.names.lookup x=some .local\/sc.names.lookup x=some .cell
def Fu (env:Env) (h:Heap) (m:Str->Option Value) (x:Str) (u:Value):Prop :=
 (env.kindOf x=some .local/\m x=some u)\/((env.kindOf x=some .cell\/env.kindOf x=some .free)/\∃c,env.cells.lookup x=some c/\h.IsCell c (some u))
structure Cx.Ok (X:Cx):Prop where
 mod:Mod X.K X.mg X.base
 kind:X.env.scope.kind=.function
 glob:X.env.globals=mainGlobals
 blt:X.env.builtins=builtinsNs
 above:X.s₀.heap.objs.size<=X.env.locals
 inj:∀x y c,X.env.cells.lookup x=some c->X.env.cells.lookup y=some c->x=y
 has:∀x,(X.env.kindOf x=some .cell\/X.env.kindOf x=some .free)->∃c,X.env.cells.lookup x=some c
 cab:∀x c,X.fn x=true->X.env.cells.lookup x=some c->X.s₀.heap.objs.size<=c
 hd:X.calm=true->X.A.handled=none
 frames:X.A.frames=some X.stack
 stk:X.stack=X.outer\/(X.stack=X.env::X.outer/\X.env.frame=some X.env.locals)
 exf:∀b∈X.ex,b≠X.env.locals/\∀x c,X.env.cells.lookup x=some c->c≠b
 bs:∀b o,X.base.get? b=some o->X.s₀.heap.get? b=some o/\X.H₀ b=none
 bsz:X.base.objs.size<=X.s₀.heap.objs.size
 noex:∀b o,X.base.get? b=some o->b∉X.ex
 exfs:∀b∈X.ex,b∉X.fs
 funs:X.s₀.heap.FunFrames X.base X.outer
 frf:∀b∈X.fs,X.H₀ b=none
structure Inv (X:Cx) (pins:List (Addr×Obj)) (σ:List (Option V)) (H:Hp) (s:Shared):Prop where
 ok:X.Ok
 os:s.os=X.s₀.os
 bare:AllBare s.gens
 base:Un X.fs X.ex X.H₀ H X.s₀.heap s.heap
 loc:∃m,s.heap.Ns X.env.locals m/\∀(i:Nat) (x:Str) (v:V),X.N[i]?=some x->σ[i]?=some (some v)->Vis X.env.scope x->∃u,df v u/\Fu X.env s.heap m x u
 cell:∀x c,X.env.cells.lookup x=some c->∃v,s.heap.IsCell c v
 free:H X.env.locals=none
 freeC:∀x c,X.env.cells.lookup x=some c->H c=none
 pin:∀p∈X.pn++pins,s.heap.get? p.1=some p.2/\H p.1=none/\p.1≠X.env.locals/\p.1∉X.fs/\∀v,p.2.data≠.cell v
 hok:HOk X.prog X.w H s.heap
 len:σ.length=X.N.length
section
variable {X:Cx}{pins:List (Addr×Obj)}{σ:List (Option V)}{H H':Hp}{s:Shared}{h':Heap}
theorem Cx.Ok.nofr (ok:X.Ok) {b:Addr}{o:Obj} (e:X.base.get? b=some o):b∉X.fs:=fun hb=>by
 have:=(ok.funs.mem hb).1
 rw [e] at this;cases this
theorem Inv.bs (I:Inv X pins σ H s):∀b o,X.base.get? b=some o->s.heap.get? b=some o/\H b=none:=fun b o e =>
 ⟨I.base.keep b o (I.ok.bs b o e).1 (I.ok.bs b o e).2 (I.ok.nofr e) (I.ok.noex b o e),I.base.free b o (I.ok.bs b o e).1 (I.ok.bs b o e).2 (I.ok.noex b o e)⟩
theorem Inv.bk (I:Inv X pins σ H s):∀b o,X.base.get? b=some o->s.heap.get? b=some o:=fun b o e=>(I.bs b o e).1
theorem Inv.mod (I:Inv X pins σ H s):Mod X.K X.mg X.base:=I.ok.mod
theorem Inv.kIn (I:Inv X pins σ H s):X.K.In s.heap:=I.ok.mod.kin.keeps I.bk
theorem Inv.lt (I:Inv X pins σ H s):X.env.locals < s.heap.objs.size:=let ⟨_,hn,_⟩:=I.loc;hn.lt
theorem Inv.sz (I:Inv X pins σ H s):X.s₀.heap.objs.size<=s.heap.objs.size:=Nat.le_trans I.ok.above (Nat.le_of_lt I.lt)
theorem Inv.nofs (I:Inv X pins σ H s) {a:Addr} (h:s.heap.objs.size<=a):a∉X.fs:=fun hb=>by
 obtain ⟨_,o,ho,_⟩:=I.ok.funs.mem hb
 exact absurd (Nat.lt_of_lt_of_le (Heap.lt_size ho) (Nat.le_trans I.sz h)) (Nat.lt_irrefl _)
theorem Inv.cne (I:Inv X pins σ H s):∀x c,X.env.cells.lookup x=some c->c≠X.env.locals:=fun x c e z=>by
 obtain ⟨v,o,ho,hd⟩:=I.cell x c e
 obtain ⟨m,⟨o',es,ep,ho',hd',_⟩,_⟩:=I.loc
 rw [z,ho'] at ho;cases ho;rw [hd'] at hd;cases hd
theorem Inv.funs (I:Inv X pins σ H s):s.heap.FunFrames X.base X.outer:=by
 have all:∀(l:List Env),(∀b∈frs l,b∈X.fs)->X.s₀.heap.FunFrames X.base l->s.heap.FunFrames X.base l:=by
  intro l
  induction l with
  | nil=>intro _ _;trivial
  | cons env r ih =>
   intro hs hl
   obtain ⟨hk,⟨L,o,hf,hn,ho,hd⟩,hr⟩:=hl
   have hL:L∈X.fs:=hs L (by unfold frs;rw [List.filterMap_cons,hf];exact List.mem_cons_self)
   obtain ⟨sl,e⟩:=I.base.slot L o ho (I.ok.frf L hL) hL fun z=>I.ok.exfs L z hL
   exact ⟨hk,⟨L,_,hf,hn,e,hd⟩,ih (fun b hb=>hs b (by unfold frs;rw [List.filterMap_cons,hf];exact List.mem_cons_of_mem _ hb)) hr⟩
 exact all X.outer (fun _ hb=>hb) I.ok.funs
theorem Inv.stack (I:Inv X pins σ H s):s.heap.FunFrames X.base X.stack:=by
 rcases I.ok.stk with e | ⟨e,hf⟩
 .rw [e];exact I.funs
 .rw [e]
  obtain ⟨m,hn,_⟩:=I.loc
  refine .cons (by rw [I.ok.kind];decide) hf hn ?_ I.funs
  exact Heap.get?_none_of_le (Nat.le_trans I.ok.bsz I.ok.above)
theorem Inv.stkSub (I:Inv X pins σ H s):∀b∈frs X.stack,b∈X.env.locals::X.fs:=fun b hb=>by
 rcases I.ok.stk with e | ⟨e,hf⟩
 .rw [e] at hb;exact List.mem_cons_of_mem _ hb
 .rw [e] at hb
  unfold frs at hb
  rw [List.filterMap_cons,hf] at hb
  exact hb
theorem Inv.stkFree (I:Inv X pins σ H s):∀b∈frs X.stack,H b=none:=fun b hb=>by
 rcases List.mem_cons.mp (I.stkSub b hb) with e | hb
 .rw [e];exact I.free
 .obtain ⟨_,o,ho,_⟩:=I.ok.funs.mem hb
  exact I.base.free b o ho (I.ok.frf b hb) fun z=>I.ok.exfs b z hb
theorem Inv.step {g':Array GenState}{t':Nat}{d':Drawn}{ch:List Addr} (I:Inv X pins σ H s)
  (hch:∀b∈ch,(b∈X.ex\/X.s₀.heap.objs.size<=b)/\b≠X.env.locals/\(∀x c,X.env.cells.lookup x=some c->c≠b)/\∀p∈X.pn++pins,p.1≠b)
  (keep:∀b o,b≠X.env.locals->b∉X.fs->b∉ch->s.heap.get? b=some o->H b=none->h'.get? b=some o)
  (slot:∀b o,b≠X.env.locals->b∈X.fs->b∉ch->s.heap.get? b=some o->H b=none->∃sl,h'.get? b=some { o with slots:=sl }) (free:∀b o,b∉ch->s.heap.get? b=some o->H b=none->H' b=none)
  (there:∀b o,b∉ch->s.heap.get? b=some o->∃o',h'.get? b=some o')
  (tups:∀b xs,H b=some (.tup xs)->H' b=some (.tup xs)) (frzs:∀b o u,H b=some (.frz o u)->H' b=some (.frz o u)) (tbls:∀b ps,H b=some (.tbl ps)->∃more,H' b=some (.tbl (ps++more)))
  (ns:∀m,s.heap.Ns X.env.locals m->h'.Ns X.env.locals m) (hok:HOk X.prog X.w H' h') (hg:AllBare g') :
  Inv X pins σ H' { s with heap:=h',gens:=g',drawn:=d',toks:=t' }:=by
 have neL:∀b o,X.s₀.heap.get? b=some o->b≠X.env.locals:=fun b o e=>Nat.ne_of_lt (Nat.lt_of_lt_of_le (Heap.lt_size e) I.ok.above)
 have neC:∀b o,X.s₀.heap.get? b=some o->b∉X.ex->b∉ch:=fun b o e hx hb=>by
  rcases (hch b hb).1 with z | z
  .exact hx z
  .exact absurd (Nat.lt_of_lt_of_le (Heap.lt_size e) z) (Nat.lt_irrefl _)
 have cellK:∀x c,X.env.cells.lookup x=some c->∀v,s.heap.IsCell c v->h'.IsCell c v:=fun x c e v ⟨o,ho,hd⟩=>by
  have nch:c∉ch:=fun z=>(hch c z).2.2.1 x c e rfl
  by_cases hc:c∈X.fs
  .obtain ⟨sl,q⟩:=slot c o (I.cne x c e) hc nch ho (I.freeC x c e)
   exact ⟨_,q,hd⟩
  .exact ⟨o,keep c o (I.cne x c e) hc nch ho (I.freeC x c e),hd⟩
 refine ⟨I.ok,I.os,hg,⟨fun b o e n hb hx=>?_,fun b o e n hb hx=>?_,fun b o e n hx=>?_,fun b o e hx=>?_,fun b xs e=>tups b xs (I.base.tups b xs e),fun b o xs e=>frzs b o xs (I.base.frzs b o xs e),fun b ps e=>?_⟩,?_,fun x c e=>?_,?_,fun x c e=>?_,fun p hp=>?_,hok,I.len⟩
 .exact keep b o (neL b o e) hb (neC b o e hx) (I.base.keep b o e n hb hx) (I.base.free b o e n hx)
 .obtain ⟨sl,e1⟩:=I.base.slot b o e n hb hx
  obtain ⟨sl',e2⟩:=slot b _ (neL b o e) hb (neC b o e hx) e1 (I.base.free b o e n hx)
  exact ⟨sl',e2⟩
 .obtain ⟨o',e1⟩:=I.base.there b o e hx
  exact free b o' (neC b o e hx) e1 (I.base.free b o e n hx)
 .obtain ⟨o',e1⟩:=I.base.there b o e hx
  exact there b o' (neC b o e hx) e1
 .obtain ⟨m1,e1⟩:=I.base.tbls b ps e
  obtain ⟨m2,e2⟩:=tbls b _ e1
  exact ⟨m1++m2,by rw [e2,Array.append_assoc]⟩
 .obtain ⟨m,hn,hl⟩:=I.loc
  refine ⟨m,ns m hn,fun i x v e1 e2 e3=>?_⟩
  obtain ⟨u,r,l⟩:=hl i x v e1 e2 e3
  refine ⟨u,r,?_⟩
  rcases l with l | ⟨k,c,e,z⟩
  .exact .inl l
  .exact .inr ⟨k,c,e,cellK x c e _ z⟩
 .obtain ⟨v,z⟩:=I.cell x c e
  exact ⟨v,cellK x c e v z⟩
 .obtain ⟨m,⟨o,_,_,ho,_⟩,_⟩:=I.loc
  exact free _ o (fun z=>(hch _ z).2.1 rfl) ho I.free
 .obtain ⟨v,o,ho,hd⟩:=I.cell x c e
  exact free c o (fun z=>(hch c z).2.2.1 x c e rfl) ho (I.freeC x c e)
 .obtain ⟨e,n,ne,nf,d⟩:=I.pin p hp
  have nch:p.1∉ch:=fun z=>(hch p.1 z).2.2.2 p hp rfl
  exact ⟨keep p.1 p.2 ne nf nch e n,free p.1 p.2 nch e n,ne,nf,d⟩
theorem Inv.un {t':Nat} (I:Inv X pins σ H s) (u:Un X.fs [] H H' s.heap h') (hok:HOk X.prog X.w H' h'):Inv X pins σ H' { s with heap:=h',toks:=t' }:=by
 obtain ⟨m,⟨o,es,ep,ho,r⟩,_⟩:=id I.loc
 obtain ⟨sl,hL⟩:=u.any ho I.free (by simp)
 exact I.step (g':=s.gens) (d':=s.drawn) (ch:=[]) (fun _ z=>nomatch z) (fun b o _ hb _ e n=>u.keep b o e n hb (by simp)) (fun b o _ hb _ e n=>u.slot b o e n hb (by simp)) (fun b o _ e n=>u.free b o e n (by simp)) (fun b o _ e=>u.there b o e (by simp)) u.tups u.frzs u.tbls (fun m' hm=>by
  obtain ⟨o',es',ep',ho',r'⟩:=hm
  rw [ho] at ho';cases ho'
  exact ⟨_,es',ep',hL,r'⟩) hok I.bare
theorem Inv.call {g':Array GenState}{t':Nat}{d':Drawn}{ch:List Addr} (I:Inv X pins σ H s) (u:Un (frs X.stack) ch H H' s.heap h') (hok:HOk X.prog X.w H' h') (hg:AllBare g')
  (hch:∀b∈ch,(b∈X.ex\/X.s₀.heap.objs.size<=b)/\b≠X.env.locals/\(∀x c,X.env.cells.lookup x=some c->c≠b)/\∀p∈X.pn++pins,p.1≠b) :
  Inv X pins σ H' { s with heap:=h',gens:=g',drawn:=d',toks:=t' }:=by
 obtain ⟨m,⟨o,es,ep,ho,r⟩,_⟩:=id I.loc
 obtain ⟨sl,hL⟩:=u.any ho I.free fun z=>(hch _ z).2.1 rfl
 exact I.step (ch:=ch) hch (fun b o hL hb hc e n=>u.keep b o e n (fun z=>(List.mem_cons.mp (I.stkSub b z)).elim hL hb) hc) (fun b o _ _ hc e n=>u.any e n hc) (fun b o hc e n=>u.free b o e n hc) (fun b o hc e=>u.there b o e hc) u.tups u.frzs u.tbls (fun m' hm=>by
  obtain ⟨o',es',ep',ho',r'⟩:=hm
  rw [ho] at ho';cases ho'
  exact ⟨_,es',ep',hL,r'⟩) hok hg
theorem Inv.turned {t':Nat}{it:Addr} (I:Inv X pins σ H s) (k:∀b o,b≠it->s.heap.get? b=some o->h'.get? b=some o) (hn:H it=none) (hL:it≠X.env.locals)
  (h1:it∈X.ex\/X.s₀.heap.objs.size<=it) (h2:∀x c,X.env.cells.lookup x=some c->c≠it) (h3:∀p∈X.pn++pins,p.1≠it):Inv X pins σ H { s with heap:=h',toks:=t' }:=by
 have nit:∀b u,H b=some u->b≠it:=fun b u e z=>by rw [z,hn] at e;cases e
 refine I.step (g':=s.gens) (d':=s.drawn) (ch:=[it]) (fun b hb=>?_) (fun b o _ _ hc e _=>k b o (fun z=>hc (by simp [z])) e) (fun b o _ _ hc e _=>⟨o.slots,k b o (fun z=>hc (by simp [z])) e⟩) (fun _ _ _ _ n=>n)
  (fun b o hc e=>⟨o,k b o (fun z=>hc (by simp [z])) e⟩) (fun _ _ e=>e) (fun _ _ _ e=>e) (fun b ps e=>⟨#[],by rw [e];simp⟩) (fun m hm=>?_) (fun b u e=>?_) I.bare
 .have e:b=it:=by simpa using hb
  subst e
  exact ⟨h1,hL,h2,h3⟩
 .obtain ⟨o,es,ep,ho,r⟩:=hm
  exact ⟨o,es,ep,k _ o (Ne.symm hL) ho,r⟩
 .refine (I.hok b u e).stay (fun c v hc q=>k c v ?_ q) (fun _ q=>q) fun _ _ q=>q
  rcases hc with z | z
  .rw [z];exact nit b u e
  .exact nit c _ z
theorem Inv.tok (I:Inv X pins σ H s) (t:Nat):Inv X pins σ H { s with toks:=t }:=I.un (h':=s.heap) (t':=t) Un.refl I.hok
theorem Inv.kept {t':Nat} (I:Inv X pins σ H s) (k:∀b u,s.heap.get? b=some u->h'.get? b=some u):Inv X pins σ H { s with heap:=h',toks:=t' }:=I.un (Un.kept k) (I.hok.kept k)
theorem Inv.laid {a:Addr}{o:HO}{t':Nat} (I:Inv X pins σ H s) (k:∀b u,s.heap.get? b=some u->h'.get? b=some u) (hp:s.heap.objs.size<=a) (new:bD X.prog X.w (upd H a o) h' a o) :
  Inv X pins σ (upd H a o) { s with heap:=h',toks:=t' }:=I.un (Un.laid k hp (I.hok.fresh hp)) (I.hok.laid k hp new)
theorem Inv.write {x e:Addr}{o:HO}{t':Nat} (I:Inv X pins σ H s) (mu:Mut (H x)) (he:e=x\/H e=some (.own x)) (k:∀b u,b≠e->s.heap.get? b=some u->h'.get? b=some u) (heo:∃u,h'.get? e=some u)
  (new:bD X.prog X.w (upd H x o) h' x o):Inv X pins σ (upd H x o) { s with heap:=h',toks:=t' }:=I.un (Un.write mu he k heo) (I.hok.write mu he k heo new)
theorem Inv.pins_of {pins':List (Addr×Obj)} (I:Inv X pins σ H s) (h:∀p∈pins',s.heap.get? p.1=some p.2/\H p.1=none/\p.1≠X.env.locals/\p.1∉X.fs/\∀v,p.2.data≠.cell v):Inv X pins' σ H s :=
 ⟨I.ok,I.os,I.bare,I.base,I.loc,I.cell,I.free,I.freeC,fun p hp=>(List.mem_append.mp hp).elim (fun z=>I.pin p (List.mem_append_left _ z)) (h p),I.hok,I.len⟩
theorem mT {N:List Str} (hN:N.Nodup) {i j:Nat}{x:Str} (a:N[i]?=some x) (b:N[j]?=some x):i=j:=by
 obtain ⟨h1,e1⟩:=List.getElem?_eq_some_iff.mp a
 obtain ⟨h2,e2⟩:=List.getElem?_eq_some_iff.mp b
 exact (List.getElem_inj hN).mp (e1.trans e2.symm)
theorem t9 {M:Model}{A:Around}{E:Value->Shared->Prop}{i:Nat}{x:Str}{v:V}{u:Value}{Q:Unit->Shared->Prop} (I:Inv X pins σ H s) (hN:X.N.Nodup) (hi:X.N[i]?=some x) (hx:Loc X.env.scope x) (r:df v u)
  (h:∀s',Inv X pins (σ.set i (some v)) H s'->(∃a,Heap.SameBut a s.heap s'.heap/\(a=X.env.locals\/X.env.cells.lookup x=some a))->Q () s') (hf:X.fn x=true\/X.env.scope.names.lookup x=some .local:=by first | exact .inl rfl | exact .inr rfl | assumption):wpAny M A (storeName X.env x u) Q E s:=by
 obtain ⟨m,hn,hl⟩:=id I.loc
 have hcls:(X.env.scope.kind == .class || (X.env.scope.kind == .module && X.env.locals != X.env.globals))=false:=by rw [I.ok.kind];rfl
 have hiσ:i < σ.length:=by rw [I.len];exact (List.getElem?_eq_some_iff.mp hi).1
 have cne:=I.cne
 have tracked:∀{a:Addr}{h':Heap},(∃o,s.heap.get? a=some o/\H a=none)->Heap.SameBut a s.heap h'->HOk X.prog X.w H h':=fun {a h'} ha hs b ob e=>by
  obtain ⟨_,_,hfree⟩:=ha
  refine (I.hok b ob e).stay (fun c w' hc q=>(hs.2 c ?_).trans q) (fun _ q=>q) fun _ _ q=>q
  rintro rfl
  rcases hc with rfl | hc
  .rw [hfree] at e;cases e
  .rw [hfree] at hc;cases hc
 rcases hx with hk | hk
 .refine wpAny_storeName_local hk hn (fun h' hn' hs=>?_) hcls
  obtain ⟨oL,_,_,hoL,_⟩:=id hn
  refine h _ ⟨I.ok,I.os,I.bare,⟨fun b o e n hb hx=>?_,fun b o e n hb hx=>?_,I.base.free,fun b o e hx=>?_,I.base.tups,I.base.frzs,I.base.tbls⟩,⟨_,hn',fun j y v' e1 e2 e3=>?_⟩,fun y c e=>?_,I.free,I.freeC,fun p hp=>?_,tracked ⟨oL,hoL,I.free⟩ hs,by simpa using I.len⟩ ⟨_,hs,.inl rfl⟩
  .exact (hs.2 b (Nat.ne_of_lt (Nat.lt_of_lt_of_le (Heap.lt_size e) I.ok.above))).trans (I.base.keep b o e n hb hx)
  .obtain ⟨sl,e1⟩:=I.base.slot b o e n hb hx
   exact ⟨sl,(hs.2 b (Nat.ne_of_lt (Nat.lt_of_lt_of_le (Heap.lt_size e) I.ok.above))).trans e1⟩
  .obtain ⟨o',e1⟩:=I.base.there b o e hx
   exact ⟨o',(hs.2 b (Nat.ne_of_lt (Nat.lt_of_lt_of_le (Heap.lt_size e) I.ok.above))).trans e1⟩
  .by_cases hj:j=i
   .subst hj
    rw [hi] at e1;cases e1
    rw [List.getElem?_set_self hiσ] at e2
    cases e2
    exact ⟨u,r,.inl ⟨hk,by simp⟩⟩
   .rw [List.getElem?_set_ne (Ne.symm hj)] at e2
    obtain ⟨u',r',q⟩:=hl j y v' e1 e2 e3
    refine ⟨u',r',?_⟩
    rcases q with ⟨k,e⟩ | ⟨k,c,e,z⟩
    .refine .inl ⟨k,?_⟩
     have:y≠x:=fun e=>hj (mT hN e1 (e ▸ hi))
     simp [this,e]
    .exact .inr ⟨k,c,e,z.sameBut hs (cne y c e)⟩
  .obtain ⟨w',z⟩:=I.cell y c e
   exact ⟨w',z.sameBut hs (cne y c e)⟩
  .obtain ⟨e,n,ne,nf,d⟩:=I.pin p hp
   exact ⟨(hs.2 p.1 ne).trans e,n,ne,nf,d⟩
 .have hfn:X.fn x=true:=by
   rcases hf with z | z
   .exact z
   .rw [z] at hk;cases hk
  obtain ⟨c,hc⟩:=I.ok.has x (.inl hk)
  obtain ⟨w',z⟩:=I.cell x c hc
  refine wpAny_storeName_cell I.ok.kind hk hc z (fun h' hc' hs=>?_)
  obtain ⟨oc,hoc,hocd⟩:=id z
  refine h { s with heap:=h' } ⟨I.ok,I.os,I.bare,⟨fun b o e n hb hx=>?_,fun b o e n hb hx=>?_,I.base.free,fun b o e hx=>?_,I.base.tups,I.base.frzs,I.base.tbls⟩,⟨m,hn.sameBut hs (Ne.symm (cne x c hc)),fun j y v' e1 e2 e3=>?_⟩,fun y c' e=>?_,I.free,I.freeC,fun p hp=>?_,tracked ⟨oc,hoc,I.freeC x c hc⟩ hs,by simpa using I.len⟩ ⟨c,hs,.inr hc⟩
  .exact (hs.2 b (Nat.ne_of_lt (Nat.lt_of_lt_of_le (Heap.lt_size e) (I.ok.cab x c hfn hc)))).trans (I.base.keep b o e n hb hx)
  .obtain ⟨sl,e1⟩:=I.base.slot b o e n hb hx
   exact ⟨sl,(hs.2 b (Nat.ne_of_lt (Nat.lt_of_lt_of_le (Heap.lt_size e) (I.ok.cab x c hfn hc)))).trans e1⟩
  .obtain ⟨o',e1⟩:=I.base.there b o e hx
   exact ⟨o',(hs.2 b (Nat.ne_of_lt (Nat.lt_of_lt_of_le (Heap.lt_size e) (I.ok.cab x c hfn hc)))).trans e1⟩
  .by_cases hj:j=i
   .subst hj
    rw [hi] at e1;cases e1
    rw [List.getElem?_set_self hiσ] at e2
    cases e2
    exact ⟨u,r,.inr ⟨.inl hk,c,hc,hc'⟩⟩
   .rw [List.getElem?_set_ne (Ne.symm hj)] at e2
    obtain ⟨u',r',q⟩:=hl j y v' e1 e2 e3
    refine ⟨u',r',?_⟩
    rcases q with q | ⟨k,c',e,z'⟩
    .exact .inl q
    .refine .inr ⟨k,c',e,z'.sameBut hs ?_⟩
     rintro rfl
     exact hj (mT hN e1 (I.ok.inj _ _ _ e hc ▸ hi))
  .by_cases hcc:c'=c
   .subst hcc;exact ⟨_,hc'⟩
   .obtain ⟨w2,z2⟩:=I.cell y c' e
    exact ⟨w2,z2.sameBut hs hcc⟩
  .obtain ⟨e,n,ne,nf,d⟩:=I.pin p hp
   refine ⟨(hs.2 p.1 ?_).trans e,n,ne,nf,d⟩
   intro q
   rw [q,hoc] at e
   have q':oc=p.2:=Option.some.inj e
   exact d w' (by rw [<- q'];exact hocd)
theorem gR {M:Model}{A:Around}{E:Value->Shared->Prop}{i:Nat}{x:Str}{v:V}{u:Value}{Q:Unit->Shared->Prop} (I:Inv X pins σ H s) (hN:X.N.Nodup) (hi:X.N[i]?=some x) (hx:Loc X.env.scope x) (r:df v u)
  (h:∀s',Inv X pins (σ.set i (some v)) H s'->Q () s') (hf:X.fn x=true\/X.env.scope.names.lookup x=some .local:=by first | exact .inl rfl | exact .inr rfl | assumption):wpAny M A (storeName X.env x u) Q E s :=
 t9 I hN hi hx r (fun s' I' _=>h s' I') hf
theorem Inv.call' {s':Shared}{ch:List Addr} (I:Inv X pins σ H s) (ho:s'.os=s.os) (u:Un (frs X.stack) ch H H' s.heap s'.heap) (hok:HOk X.prog X.w H' s'.heap) (hg:AllBare s'.gens)
  (hch:∀b∈ch,(b∈X.ex\/X.s₀.heap.objs.size<=b)/\b≠X.env.locals/\(∀x c,X.env.cells.lookup x=some c->c≠b)/\∀p∈X.pn++pins,p.1≠b):Inv X pins σ H' s':=by
 obtain ⟨h',g',d',t',o'⟩:=s'
 have e:o'=s.os:=ho
 subst e
 exact I.call (g':=g') (t':=t') (d':=d') u hok hg hch
end
abbrev XK:=Value->Option Addr->Hp->Prop
abbrev St:=List (Option V)
abbrev VK:=V->Hp->Prop
abbrev TE:=St->Hp->VK->Prop
abbrev TT:=St->Hp->(Bool->Hp->Prop)->Prop
abbrev TA:=St->Hp->(List V->Hp->Prop)->Prop
structure wF where
 nx:St->Hp->Prop
 rt:VK
 bk:St->Hp->Prop:=fun _ _=>False
 ct:St->Hp->Prop:=fun _ _=>False
abbrev TS:=wF->St->Hp->Prop
def EP (X:Cx) (pins:List (Addr×Obj)) (σ:St) (Q:VK) (u:Value) (s':Shared):Prop:=∃v H',Inv X pins σ H' s'/\df v u/\Q v H'
def TP (X:Cx) (pins:List (Addr×Obj)) (σ:St) (Q:Bool->Hp->Prop) (b:Bool) (s':Shared):Prop:=∃H',Inv X pins σ H' s'/\Q b H'
def AP (X:Cx) (pins:List (Addr×Obj)) (σ:St) (Q:List V->Hp->Prop) (us:List Value) (s':Shared):Prop:=∃vs H',Inv X pins σ H' s'/\bO vs us/\Q vs H'
def SP (X:Cx) (pins:List (Addr×Obj)) (D:wF) (f:Flow) (s':Shared):Prop :=
 match f with
 | .next=>∃σ' H',Inv X pins σ' H' s'/\D.nx σ' H'
 | .brk=>∃σ' H',Inv X pins σ' H' s'/\D.bk σ' H'
 | .cont=>∃σ' H',Inv X pins σ' H' s'/\D.ct σ' H'
 | .ret u=>∃v σ' H',Inv X pins σ' H' s'/\df v u/\D.rt v H'
def PE (X:Cx) (e:Expr) (t:TE):Prop :=
 ∀(pins:List (Addr×Obj)) (s:Shared) (σ:St) (H:Hp) (Q:VK),Inv X pins σ H s->t σ H Q->wpAny (model X.prog X.w) X.A (eval e X.env) (EP X pins σ Q) X.xe s
def PT (X:Cx) (e:Expr) (t:TT):Prop :=
 ∀(pins:List (Addr×Obj)) (s:Shared) (σ:St) (H:Hp) (Q:Bool->Hp->Prop),Inv X pins σ H s->t σ H Q->wpAny (model X.prog X.w) X.A (isTrue e X.env (eval e X.env)) (TP X pins σ Q) X.xe s
def PW (X:Cx) (e:Expr) (t:TT):Prop :=
 ∀(whole:Sem Value) (pins:List (Addr×Obj)) (s:Shared) (σ:St) (H:Hp) (Q:Bool->Hp->Prop),Inv X pins σ H s->t σ H Q->wpAny (model X.prog X.w) X.A (isTrue e X.env whole) (TP X pins σ Q) X.xe s
theorem PW.pt {X:Cx}{e:Expr}{t:TT} (h:PW X e t):PT X e t:=h _
def PA (X:Cx) (es:List Expr) (t:TA):Prop :=
 ∀(pos:Pos) (pins:List (Addr×Obj)) (s:Shared) (σ:St) (H:Hp) (Q:List V->Hp->Prop),Inv X pins σ H s->t σ H Q->wpAny (model X.prog X.w) X.A (spliced (backTo pos (starEach es X.env))) (AP X pins σ Q) X.xe s
def PS (X:Cx) (st:Stmt) (t:TS):Prop :=
 ∀(pins:List (Addr×Obj)) (s:Shared) (σ:St) (H:Hp) (D:wF),Inv X pins σ H s->t D σ H->wpAny (model X.prog X.w) X.A (exec st X.env) (SP X pins D) X.xe s
def PSs (X:Cx) (st:List Stmt) (t:TS):Prop :=
 ∀(pins:List (Addr×Obj)) (s:Shared) (σ:St) (H:Hp) (D:wF),Inv X pins σ H s->t D σ H->wpAny (model X.prog X.w) X.A (execs st X.env) (SP X pins D) X.xe s
theorem thn {α:Type}{t:Sem α}{Q Q':α->Shared->Prop}{M:Model}{A:Around}{E:Value->Shared->Prop}{s:Shared} (h:wpAny M A t Q E s) (hQ:∀a s,Q a s->Q' a s):wpAny M A t Q' E s:=wpAny_mono h hQ fun _ _ x=>x
section
variable {X:Cx}
def cJ (i:Nat):TE:=fun σ H Q=>∃v,σ[i]?=some (some v)/\Q v H
def tC (v:V):TE:=fun _ H Q=>Q v H
theorem Bv {i:Nat}{x:Str}{pos:Pos} (hN:X.N[i]?=some x) (hv:Vis X.env.scope x) (hd:(x == ("__debug__":Str))=false:=by decide) (hcd:(x == ("__classdict__":Str))=false:=by decide):PE X (.Name x pos) (cJ i):=by
 intro pins s σ H Q I h
 obtain ⟨v,e,h⟩:=h
 obtain ⟨m,hn,hl⟩:=I.loc
 obtain ⟨u,r,l⟩:=hl i x v hN e hv
 have fin:EP X pins σ Q u s:=⟨v,H,I,r,h⟩
 rcases l with ⟨hk,hm⟩ | ⟨hk,c,hc,hcell⟩
 .exact wpAny_Name (wpAny_loadName_local I.ok.kind hk hn hm fin) hd
 .rcases hk with hk | hk
  .exact wpAny_Name (wpAny_loadName_cell I.ok.kind hk hc hcell fin) hd
  .exact wpAny_Name (wpAny_loadName_free I.ok.kind hk hc hcell fin hcd) hd
theorem aA {i j pos}:PE X (.Constant (.int i) j pos) (tC (.int i)):=fun _ _ _ H _ I h=>wpAny_Constant_int ⟨.int i,H,I.tok _,⟨_,rfl⟩,h⟩
theorem gu {b j pos}:PE X (.Constant (.bool b) j pos) (tC (.bl b)):=fun _ _ _ H _ I h=>Constant_bool ⟨.bl b,H,I,rfl,h⟩
theorem yv {j pos}:PE X (.Constant .none j pos) (tC .non):=fun _ _ _ H _ I h=>Constant_none ⟨.non,H,I,rfl,h⟩
theorem Bw {x j pos}:PE X (.Constant (.str x) j pos) (tC (.str x)):=fun _ _ _ H _ I h=>Calls.Constant_str ⟨.str x,H,I.tok _,⟨_,rfl⟩,h⟩
def Gl (X:Cx) (x:Str):Prop:=X.env.kindOf x=some .globalImplicit
theorem gw {E:Value->Shared->Prop}{pins:List (Addr×Obj)}{s:Shared}{σ:St}{H:Hp}{x:Str}{u:Value}{pos:Pos}{Q:Value->Shared->Prop} (I:Inv X pins σ H s) (hg:Gl X x) (hm:X.mg x=some u) (h:Q u s)
  (hd:(x == ("__debug__":Str))=false:=by decide):wpAny (model X.prog X.w) X.A (eval (.Name x pos) X.env) Q E s :=
 Calls.Name_function_global I.ok.kind hg (Calls.loadGlobal_global (by rw [I.ok.glob];exact I.mod.glob.keeps I.bk) hm h) hd
theorem iX {E:Value->Shared->Prop}{pins:List (Addr×Obj)}{s:Shared}{σ:St}{H:Hp}{x:Str}{u:Value}{pos:Pos}{Q:Value->Shared->Prop} (I:Inv X pins σ H s) (hg:Gl X x) (hm:X.mg x=none) (hv:bootBuiltins x=some u) (h:Q u s)
  (hn:x≠"__name__":=by decide) (hd:(x == ("__debug__":Str))=false:=by decide):wpAny (model X.prog X.w) X.A (eval (.Name x pos) X.env) Q E s:=by
 obtain ⟨mb,h1,h2⟩:=I.mod.blt
 exact Calls.Name_function_global I.ok.kind hg (Calls.loadGlobal_builtin (by rw [I.ok.glob];exact I.mod.glob.keeps I.bk) hm (by rw [I.ok.blt];exact h1.keeps I.bk) ((h2 x hn).trans hv) h) hd
theorem zo {x:Str}{v:V}{u:Value}{pos:Pos} (hg:Gl X x) (hm:X.mg x=some u) (r:df v u) (hd:(x == ("__debug__":Str))=false:=by decide):PE X (.Name x pos) (tC v) :=
 fun _ _ _ H _ I h=>gw I hg hm ⟨v,H,I,r,h⟩ hd
theorem fe {x:Str}{v:V}{u:Value}{pos:Pos} (hg:Gl X x) (hm:X.mg x=none) (hv:bootBuiltins x=some u) (r:df v u) (hn:x≠"__name__":=by decide) (hd:(x == ("__debug__":Str))=false:=by decide):PE X (.Name x pos) (tC v) :=
 fun _ _ _ H _ I h=>iX I hg hm hv ⟨v,H,I,r,h⟩ hn hd
variable {a b:Expr}{ta tb:TE}{pos:Pos}
def tB (t:TE):TT:=fun σ H Q=>t σ H fun x H1=>∃c,x=.bl c/\Q c H1
theorem Bx {e:Expr}{t:TE} (h:PE X e t) (he:∀whole,isTrue e X.env whole=(do let v <- whole;standAt e.pos;holding [v] (truthy v)):=by intro _;rfl):PT X e (tB t):=by
 intro pins s σ H Q I hw
 refine isTrue_plain (thn (h pins s σ H _ I hw) fun v s1 ⟨x,H1,I1,r1,q1⟩=>?_) (he _)
 obtain ⟨d,rfl,q⟩:=q1
 cases r1
 exact wpAny_truthy_bool ⟨H1,I1,q⟩
variable {tA tB':TT}{rest:List Expr}
def Dv (t u:TT):TT:=fun σ H Q=>t σ H fun c H1=>if c=true then u σ H1 Q else Q false H1
def tOr (t u:TT):TT:=fun σ H Q=>t σ H fun c H1=>if c=true then Q true H1 else u σ H1 Q
def EM (t:TT):TT:=fun σ H Q=>t σ H fun c H1=>Q (!c) H1
theorem ke (ha:PT X a tA):PW X (.BoolOp .And [a] pos) tA:=by
 intro wh pins s σ H Q I h
 refine isTrue_and (thn (ha pins s σ H Q I h) fun c s1 e=>?_)
 cases c with
 | true=>exact isTrue_and_nil e
 | false=>exact e
theorem jN (ha:PT X a tA):PW X (.BoolOp .Or [a] pos) tA:=by
 intro wh pins s σ H Q I h
 refine isTrue_or (thn (ha pins s σ H Q I h) fun c s1 e=>?_)
 cases c with
 | false=>exact isTrue_or_nil e
 | true=>exact e
theorem oG (ha:PT X a tA) (hb:PW X (.BoolOp .And (b::rest) pos) tB'):PW X (.BoolOp .And (a::b::rest) pos) (Dv tA tB'):=by
 intro wh pins s σ H Q I h
 refine isTrue_and (thn (ha pins s σ H _ I h) fun c s1 ⟨H1,I1,q1⟩=>?_)
 cases c with
 | true=>exact hb wh pins s1 σ H1 Q I1 q1
 | false=>exact ⟨H1,I1,q1⟩
theorem mU (ha:PT X a tA) (hb:PW X (.BoolOp .Or (b::rest) pos) tB'):PW X (.BoolOp .Or (a::b::rest) pos) (tOr tA tB'):=by
 intro wh pins s σ H Q I h
 refine isTrue_or (thn (ha pins s σ H _ I h) fun c s1 ⟨H1,I1,q1⟩=>?_)
 cases c with
 | true=>exact ⟨H1,I1,q1⟩
 | false=>exact hb wh pins s1 σ H1 Q I1 q1
theorem iY (ha:PT X a tA):PT X (.UnaryOp .Not a pos) (EM tA):=by
 intro pins s σ H Q I h
 exact isTrue_not (ha pins s σ H (fun c H1=>Q (!c) H1) I h)
def By (ta tb:TE):TE:=fun σ H Q=>ta σ H fun x H1=>∃c,x=.bl c/\if c=true then tb σ H1 Q else Q (.bl false) H1
def Bz (ta:TE):TE:=fun σ H Q=>ta σ H fun x H1=>∃c,x=.bl c/\Q (.bl (!c)) H1
theorem kf {op}{t:TE} (h:PE X a t):PE X (.BoolOp op [a] pos) t:=fun pins s σ H Q I hw=>BoolOp_one (h pins s σ H Q I hw)
theorem gy (ha:PE X a ta) (hb:PE X (.BoolOp .And (b::rest) pos) tb):PE X (.BoolOp .And (a::b::rest) pos) (By ta tb):=by
 intro pins s σ H Q I h
 refine BoolOp_and (thn (ha pins s σ H _ I h) fun v s1 ⟨x,H1,I1,r1,q1⟩=>?_)
 obtain ⟨c,rfl,q1⟩:=q1
 cases r1
 refine wpAny_truthy_bool ?_
 cases c with
 | true=>exact hb pins s1 σ H1 Q I1 q1
 | false=>exact ⟨.bl false,H1,I1,rfl,q1⟩
theorem rK (ha:PE X a ta):PE X (.UnaryOp .Not a pos) (Bz ta):=by
 intro pins s σ H Q I h
 refine UnaryOp_ (thn (ha pins s σ H _ I h) fun v s1 ⟨x,H1,I1,r1,q1⟩=>?_)
 obtain ⟨c,rfl,q1⟩:=q1
 cases r1
 exact not_of (wpAny_truthy_bool ⟨.bl (!c),H1,I1,rfl,q1⟩)
end
def SqL (K:PySem.W.Frag) (H:Hp) (a:Addr) (xs:List V):Prop :=
 Rd H a (.lst xs) \/
  ∃(o:Obj) (its:Array Value) (n:Nat),K.lookup a=some o/\o.cls=.type "list"/\o.dict=none/\o.data=.seq its n/\its.size<=sizeLine/\bO xs its.toList
def SqT (K:PySem.W.Frag) (H:Hp) (a:Addr) (xs:List V):Prop :=
 Rd H a (.tup xs) \/
  ∃(o:Obj) (its:Array Value) (n:Nat),K.lookup a=some o/\o.cls=.type "tuple"/\o.data=.seq its n/\its.size<=sizeLine/\bO xs its.toList
def Fv:Value->Option V
 | .none=>some .non
 | .bool b=>some (.bl b)
 | .int i _=>some (.int i)
 | .str x _=>some (.str x)
 | .bytes b _=>some (.byt b)
 | .float b _=>some (.flt b)
 | .ref a=>some (.ref a)
 | .type n=>some (.ty n)
 | _=>none
theorem df.abs {x:V}{u:Value} (r:df x u):Fv u=some x:=by
 cases x with
 | non=>cases r;rfl
 | bl _=>cases r;rfl
 | int _=>obtain ⟨t,rfl⟩:=r;rfl
 | str _=>obtain ⟨t,rfl⟩:=r;rfl
 | byt _=>obtain ⟨t,rfl⟩:=r;rfl
 | flt _=>obtain ⟨t,rfl⟩:=r;rfl
 | ref _=>cases r;rfl
 | ty _=>cases r;rfl
theorem df.inj {x y:V}{u:Value} (r:df x u) (q:df y u):x=y:=Option.some.inj (r.abs.symm.trans q.abs)
theorem bO.inj:∀{xs ys:List V}{us:List Value},bO xs us->bO ys us->xs=ys
 | _,_,_,.nil,.nil=>rfl
 | _,_,_,.cons r t,.cons r' t'=>by rw [r.inj r',bO.inj t t']
section
variable {X:Cx}{pins:List (Addr×Obj)}{σ:St}{H:Hp}{s:Shared}{a:Addr}{xs ys:List V}
theorem SqL.of {K:PySem.W.Frag} (h:H a=some (.lst xs)):SqL K H a xs:=.inl (.inl h)
theorem SqT.of {K:PySem.W.Frag} (h:H a=some (.tup xs)):SqT K H a xs:=.inl (.inl h)
theorem Inv.list (I:Inv X pins σ H s) (h:SqL X.K H a xs):∃its:List Value,bO xs its/\PlainL s.heap a its.toArray/\xs.length<=sizeLine:=by
 rcases h with h | ⟨o,its,n,hk,hc,hd,hs,hz,r⟩
 .obtain ⟨z,its,n,r,e⟩:=h.ok I.hok
  exact ⟨its,r,⟨_,n,e,rfl,rfl,rfl⟩,z⟩
 .refine ⟨its.toList,r,⟨o,n,I.kIn a o hk,hc,hd,by simpa using hs⟩,?_⟩
  have e:=r.length
  simp only [Array.length_toList] at e
  omega
theorem Inv.tuple (I:Inv X pins σ H s) (h:SqT X.K H a xs):∃its:List Value,bO xs its/\IsTup s.heap a its.toArray/\xs.length<=sizeLine:=by
 rcases h with h | ⟨o,its,n,hk,hc,hs,hz,r⟩
 .obtain ⟨z,its,r,p⟩:=h.ok I.hok
  exact ⟨its,r,p,z⟩
 .refine ⟨its.toList,r,⟨o,I.kIn a o hk,hc,n,by simpa using hs⟩,?_⟩
  have e:=r.length
  simp only [Array.length_toList] at e
  omega
theorem Inv.list_inj (I:Inv X pins σ H s) (h:SqL X.K H a xs) (h':SqL X.K H a ys):xs=ys:=by
 obtain ⟨its,r,⟨o,n,e,_,_,d⟩,_⟩:=I.list h
 obtain ⟨its',r',⟨o',n',e',_,_,d'⟩,_⟩:=I.list h'
 rw [e] at e';cases e'
 rw [d] at d'
 injection d' with d1 _
 have:its=its':=by simpa using congrArg Array.toList d1
 subst this
 exact r.inj r'
theorem Inv.tuple_inj (I:Inv X pins σ H s) (h:SqT X.K H a xs) (h':SqT X.K H a ys):xs=ys:=by
 obtain ⟨its,r,⟨o,e,_,n,d⟩,_⟩:=I.tuple h
 obtain ⟨its',r',⟨o',e',_,n',d'⟩,_⟩:=I.tuple h'
 rw [e] at e';cases e'
 rw [d] at d'
 injection d' with d1 _
 have:its=its':=by simpa using congrArg Array.toList d1
 subst this
 exact r.inj r'
end
abbrev Cx.wish (X:Cx) (E:Value->Shared->Prop):Cx:={ X with xe:=E }
abbrev Cx.nox (X:Cx):Cx:=X.wish fun _ _=>False
theorem Cx.Ok.wish {X:Cx} (ok:X.Ok) (E:Value->Shared->Prop):(X.wish E).Ok :=
 ⟨ok.mod,ok.kind,ok.glob,ok.blt,ok.above,ok.inj,ok.has,ok.cab,ok.hd,ok.frames,ok.stk,ok.exf,ok.bs,ok.bsz,ok.noex,ok.exfs,ok.funs,ok.frf⟩
theorem Cx.Ok.unwish {X:Cx}{E:Value->Shared->Prop} (ok:(X.wish E).Ok):X.Ok :=
 ⟨ok.mod,ok.kind,ok.glob,ok.blt,ok.above,ok.inj,ok.has,ok.cab,ok.hd,ok.frames,ok.stk,ok.exf,ok.bs,ok.bsz,ok.noex,ok.exfs,ok.funs,ok.frf⟩
section
variable {X:Cx}{pins:List (Addr×Obj)}{σ:St}{H:Hp}{s:Shared}{E:Value->Shared->Prop}
theorem Inv.wish (I:Inv X pins σ H s) (E:Value->Shared->Prop):Inv (X.wish E) pins σ H s:=⟨I.ok.wish E,I.os,I.bare,I.base,I.loc,I.cell,I.free,I.freeC,I.pin,I.hok,I.len⟩
theorem Inv.unwish (I:Inv (X.wish E) pins σ H s):Inv X pins σ H s:=⟨I.ok.unwish,I.os,I.bare,I.base,I.loc,I.cell,I.free,I.freeC,I.pin,I.hok,I.len⟩
theorem SP.unwish {D:wF}{f:Flow}{s':Shared} (h:SP (X.wish E) pins D f s'):SP X pins D f s':=by
 cases f with
 | next=>obtain ⟨σ',H',I,q⟩:=h;exact ⟨σ',H',I.unwish,q⟩
 | brk=>obtain ⟨σ',H',I,q⟩:=h;exact ⟨σ',H',I.unwish,q⟩
 | cont=>obtain ⟨σ',H',I,q⟩:=h;exact ⟨σ',H',I.unwish,q⟩
 | ret u=>obtain ⟨v,σ',H',I,r,q⟩:=h;exact ⟨v,σ',H',I.unwish,r,q⟩
theorem PT.nox {e:Expr}{t:TT} (h:PT X.nox e t):PT X e t:=fun pins s σ H Q I hw =>
 wpAny_mono (h pins s σ H Q (I.wish _) hw) (fun _ _ ⟨H',I',q⟩=>⟨H',I'.unwish,q⟩) fun _ _ z=>False.elim z
theorem PSs.nox {st:List Stmt}{t:TS} (h:PSs X.nox st t):PSs X st t:=fun pins s σ H D I hw =>
 wpAny_mono (h pins s σ H D (I.wish _) hw) (fun _ _ q=>q.unwish) fun _ _ z=>False.elim z
end
section
variable {X:Cx}{st:Stmt}{rest:List Stmt}{t u:TS}{e:Expr}{te:TE}{pos:Pos}
def zp:TS:=fun D σ H=>D.nx σ H
def Dg (t u:TS):TS:=fun D σ H=>t { D with nx:=u D } σ H
theorem bE:PSs X [] zp:=fun _ _ σ H _ I h=>wpAny_execs_nil ⟨σ,H,I,h⟩
theorem ao (h1:PS X st t) (h2:PSs X rest u):PSs X (st::rest) (Dg t u):=by
 intro pins s σ H D I h
 refine wpAny_execs_cons (thn (h1 pins s σ H { D with nx:=u D } I h) fun f s1 q=>?_)
 cases f with
 | next =>
  obtain ⟨σ',H',I',q⟩:=q
  exact h2 pins s1 σ' H' D I' q
 | ret v=>exact q
 | brk=>exact q
 | cont=>exact q
theorem au (h1:PS X st t):PSs X [st] t:=by
 intro pins s σ H D I h
 refine wpAny_execs_cons (thn (h1 pins s σ H D I h) fun f s1 q=>?_)
 cases f with
 | next=>exact wpAny_execs_nil q
 | ret v=>exact q
 | brk=>exact q
 | cont=>exact q
theorem Inv.quiet {pins:List (Addr×Obj)}{σ:St}{H:Hp}{s:Shared} (I:Inv X pins σ H s):interactive X.env=false:=by simp [interactive,I.ok.kind]
def wO (te:TE):TS:=fun D σ H=>te σ H fun _ H1=>D.nx σ H1
theorem cQ (he:PE X e te) (hs:swapsWith e none pos.line X.env=pure false:=by rfl):PS X (.Expr e pos) (wO te):=by
 intro pins s σ H D I h
 exact wpAny_Expr_any (thn (he pins s σ H _ I h) fun v s1 ⟨x,H1,I1,r1,q1⟩=>⟨σ,H1,I1,q1⟩) I.quiet hs
def EN (te:TE):TS:=fun D σ H=>te σ H D.rt
theorem bd (he:PE X e te):PS X (.Return (some e) pos) (EN te):=by
 intro pins s σ H D I h
 exact wpAny_Return_some (thn (he pins s σ H _ I h) fun v s1 ⟨x,H1,I1,r1,q1⟩=>⟨x,σ,H1,I1,r1,q1⟩)
def Dw (c:TT) (t u:TS):TS:=fun D σ H=>c σ H fun b H1=>if b=true then t D σ H1 else u D σ H1
theorem dX {c:Expr}{a b:List Stmt}{tc:TT} (hc:PT X c tc) (ha:PSs X a t) (hb:PSs X b u):PS X (.If c a b pos) (Dw tc t u):=by
 intro pins s σ H D I h
 refine wpAny_If (thn (hc pins s σ H _ I h) fun d s1 ⟨H1,I1,q1⟩=>?_)
 cases d with
 | true=>exact ha pins s1 σ H1 D I1 q1
 | false=>exact hb pins s1 σ H1 D I1 q1
def yw:TS:=fun _ _ _=>False
theorem rL:PS X st yw:=fun _ _ _ _ _ _ h=>h.elim
end
abbrev TG:=V->St->Hp->(St->Hp->Prop)->Prop
abbrev TGs:=List V->St->Hp->(St->Hp->Prop)->Prop
def PG (X:Cx) (target:Expr) (t:TG):Prop :=
 ∀(pins:List (Addr×Obj)) (s:Shared) (σ:St) (H:Hp) (v:V) (u:Value) (Q:St->Hp->Prop),Inv X pins σ H s->df v u->t v σ H Q ->
  wpAny (model X.prog X.w) X.A (assign target X.env u) (fun _ s'=>∃σ' H',Inv X pins σ' H' s'/\Q σ' H') X.xe s
def PGs (X:Cx) (ts:List Expr) (t:TGs):Prop :=
 ∀(pins:List (Addr×Obj)) (s:Shared) (σ:St) (H:Hp) (vs:List V) (us:List Value) (Q:St->Hp->Prop),Inv X pins σ H s->bO vs us->t vs σ H Q ->
  wpAny (model X.prog X.w) X.A (assignInOrder ((assignEach ts X.env).map (·.2)) us) (fun _ s'=>∃σ' H',Inv X pins σ' H' s'/\Q σ' H') X.xe s
abbrev Dx:=V->V->V->Hp->(Hp->Prop)->Prop
def EO (X:Cx) (t:Dx):Prop :=
 ∀(pins:List (Addr×Obj)) (s:Shared) (σ:St) (H:Hp) (o i v:V) (ov iv u:Value) (Q:Hp->Prop),Inv X pins σ H s->df o ov->df i iv->df v u->t o i v H Q ->
  wpAny (model X.prog X.w) X.A (setItem ov iv u) (fun _ s'=>∃H',Inv X pins σ H' s'/\Q H') X.xe s
abbrev TIp:=V->V->Hp->VK->Prop
def PIp (X:Cx) (op:Operator) (t:TIp):Prop :=
 ∀(pins:List (Addr×Obj)) (s:Shared) (σ:St) (H:Hp) (x y:V) (v u:Value) (Q:VK),Inv X pins σ H s->df x v->df y u->t x y H Q ->
  wpAny (model X.prog X.w) X.A (inplaceOp op v u) (EP X pins σ Q) X.xe s
section
variable {X:Cx}{pos:Pos}
def dY (i:Nat):TG:=fun v σ H Q=>Q (σ.set i (some v)) H
theorem aT {i:Nat}{x:Str} (hN:X.N.Nodup) (hi:X.N[i]?=some x) (hx:Loc X.env.scope x) (hf:X.fn x=true\/X.env.scope.names.lookup x=some .local:=by first | exact .inl rfl | exact .inr rfl | assumption):PG X (.Name x pos) (dY i):=by
 intro pins s σ H v u Q I r h
 exact wpAny_assign_Name (gR I hN hi hx r (fun s' I'=>⟨_,H,I',h⟩) hf)
def Dy:TGs:=fun vs σ H Q=>vs=[]/\Q σ H
def wP (t:TG) (u:TGs):TGs:=fun vs σ H Q=>∃v r,vs=v::r/\t v σ H fun σ' H'=>u r σ' H' Q
theorem iH:PGs X [] Dy:=by
 intro pins s σ H vs us Q I r h
 obtain ⟨e,h⟩:=h
 subst e
 cases r
 exact assignInOrder_nil ⟨σ,H,I,h⟩
theorem cg {e:Expr}{es:List Expr}{t:TG}{u:TGs} (h1:PG X e t) (h2:PGs X es u)
  (hs:(assignEach (e::es) X.env).map (·.2)=assign e X.env::(assignEach es X.env).map (·.2):=by rfl):PGs X (e::es) (wP t u):=by
 intro pins s σ H vs us Q I r h
 obtain ⟨v,vr,e1,h⟩:=h
 subst e1
 cases r with
 | cons r rr =>
  rw [hs]
  refine assignInOrder_cons (thn (h1 pins s σ H _ _ _ I r h) fun _ s1 ⟨σ1,H1,I1,q1⟩=>?_)
  exact h2 pins s1 σ1 H1 _ _ Q I1 rr q1
def Fw (K:PySem.W.Frag) (n:Nat) (t:TGs):TG:=fun v σ H Q=>∃a xs,v=.ref a/\SqT K H a xs/\xs.length=n/\t xs σ H Q
theorem BA {es:List Expr}{k:Nat}{t:TGs}{n:Nat} (hc:X.calm=true) (h:PGs X es t)
  (hn:(assignEach es X.env).length=n:=by rfl) (hst:(assignEach es X.env).findIdx? (·.1)=none:=by rfl):PG X (.Tuple es k pos) (Fw X.K n t):=by
 intro pins s σ H v u Q I r hw
 obtain ⟨a,xs,e1,hq,hl,hw⟩:=hw
 subst e1
 cases r
 obtain ⟨its,rv,ht,hz⟩:=I.tuple hq
 refine assign_Tuple_tuple (I.ok.hd hc) ht (by simp [hn,<- hl,rv.length]) hst fun h' hx=>?_
 have I1:Inv X pins σ H { s with heap:=h' }:=I.kept (t':=s.toks) fun b o e=>hx b o (Nat.ne_of_lt (Heap.lt_size e)) e
 exact h pins _ σ H xs _ Q I1 (by simpa using rv) hw
def EQ (to ti:TE) (t:Dx):TG:=fun v σ H Q=>to σ H fun o H1=>ti σ H1 fun i H2=>t o i v H2 fun H3=>Q σ H3
theorem oH {o i:Expr}{to ti:TE}{t:Dx} (ho:PE X o to) (hi:PE X i ti) (hs:EO X t)
  (ha:∀v,assign (.Subscript o i pos) X.env v=(do
   let ov <- holding [v] (eval o X.env)
   let iv <- holding [v,ov] (eval i X.env)
   standAt pos
   holding [v,ov,iv] (setItem ov iv v)
   release [v,ov,iv] []):=by intro _;rfl):PG X (.Subscript o i pos) (EQ to ti t):=by
 intro pins s σ H v u Q I r h
 rw [ha]
 refine wpAny_bind (wpAny_holding (thn (ho pins s σ H _ I h) fun ov s1 ⟨x,H1,I1,r1,q1⟩=>?_))
 refine wpAny_bind (wpAny_holding (thn (hi pins s1 σ H1 _ I1 q1) fun iv s2 ⟨y,H2,I2,r2,q2⟩=>?_))
 refine wpAny_bind (wpAny_standAt (wpAny_bind (wpAny_holding (thn (hs pins s2 σ H2 x y v ov iv u _ I2 r1 r2 r q2) fun _ s3 ⟨H3,I3,q3⟩=>?_))))
 exact wpAny_release ⟨σ,H3,I3,q3⟩
def Be (te:TE) (g:TG):TS:=fun D σ H=>te σ H fun x H1=>g x σ H1 D.nx
theorem yx {tg e:Expr}{te:TE}{g:TG} (he:PE X e te) (hg:PG X tg g) (hs:swapsWithSole [tg] e pos.line X.env=pure false:=by rfl) (hw:swappedStores [tg] e X.env=pure none:=by rfl)
  (h1:(assignEach [tg] X.env).map (·.2)=[assign tg X.env]:=by rfl):PS X (.Assign [tg] e pos) (Be te g):=by
 intro pins s σ H D I h
 refine wpAny_Assign_stores (thn (he pins s σ H _ I h) fun v s1 ⟨x,H1,I1,r1,q1⟩=>?_) hs hw
 rw [h1]
 exact thn (hg pins s1 σ H1 x v _ I1 r1 q1) fun _ s2 q=>q
theorem bh {i:Nat}{x:Str}{e:Expr}{te:TE}{pos':Pos} (hN:X.N.Nodup) (hi:X.N[i]?=some x) (hx:Loc X.env.scope x) (he:PE X e te) (hs:swapsWith e (some (.Name x pos')) pos.line X.env=pure false:=by rfl) (hf:X.fn x=true\/X.env.scope.names.lookup x=some .local:=by first | exact .inl rfl | exact .inr rfl | assumption) :
  PS X (.Assign [.Name x pos'] e pos) (Be te (dY i)):=by
 intro pins s σ H D I h
 refine wpAny_Assign_Name (thn (he pins s σ H _ I h) fun v s1 ⟨y,H1,I1,r1,q1⟩=>?_) hs
 exact gR I1 hN hi hx r1 (fun s2 I2=>⟨_,H1,I2,q1⟩) hf
def ER (i:Nat) (te:TE) (ti:TIp):TS:=fun D σ H=>∃x,σ[i]?=some (some x)/\te σ H fun y H1=>ti x y H1 fun z H2=>D.nx (σ.set i (some z)) H2
theorem yy {i:Nat}{x:Str}{e:Expr}{te:TE}{op:Operator}{ti:TIp}{pos':Pos} (hN:X.N.Nodup) (hi:X.N[i]?=some x) (hx:Loc X.env.scope x) (he:PE X e te) (ho:PIp X op ti) (hf:X.fn x=true\/X.env.scope.names.lookup x=some .local:=by first | exact .inl rfl | exact .inr rfl | assumption) :
  PS X (.AugAssign (.Name x pos') op e pos) (ER i te ti):=by
 intro pins s σ H D I h
 obtain ⟨v,e1,h⟩:=h
 obtain ⟨m,hn,hl⟩:=I.loc
 have vis:Vis X.env.scope x:=by rcases hx with k | k;exact .inl k;exact .inr (.inl k)
 obtain ⟨u,r,l⟩:=hl i x v hi e1 vis
 refine wpAny_AugAssign_Name ?_
 have go:wpAny (model X.prog X.w) X.A (eval e X.env) (fun w s₂=>wpAny (model X.prog X.w) X.A (inplaceOp op u w) (fun r s₃=>wpAny (model X.prog X.w) X.A (storeName X.env x r) (fun _=>SP X pins D .next) X.xe s₃) X.xe s₂) X.xe s:=by
  refine thn (he pins s σ H _ I h) fun w s1 ⟨y,H1,I1,r1,q1⟩=>?_
  refine thn (ho pins s1 σ H1 v y u w _ I1 r r1 q1) fun z s2 ⟨zv,H2,I2,r2,q2⟩=>?_
  exact gR I2 hN hi hx r2 (fun s3 I3=>⟨_,H2,I3,q2⟩) hf
 rcases l with ⟨hk,hm⟩ | ⟨hk,c,hc,hcell⟩
 .exact wpAny_loadName_local I.ok.kind hk hn hm go
 .rcases hk with hk | hk
  .exact wpAny_loadName_cell I.ok.kind hk hc hcell go
  .rcases hx with k | k
   .have:X.env.scope.names.lookup x=some .free:=hk
    rw [k] at this;cases this
   .have:X.env.scope.names.lookup x=some .free:=hk
    rw [k] at this;cases this
end
section
variable {X:Cx}{pos:Pos}
def yz (c:TT) (tb:TS):TS:=fun D σ H=>∃W:Nat->St->Hp->Prop,(∃m,W m σ H)/\∀m σ H,W m σ H ->
 c σ H fun b H1=>if b=true then ∃N:St->Hp->Prop,(∀σ' H',N σ' H'->∃m',m' < m/\W m' σ' H')/\tb { D with nx:=N,ct:=N,bk:=D.nx } σ H1 else D.nx σ H1
theorem wQ {c:Expr}{body:List Stmt}{tc:TT}{tb:TS} (hp:PassesOwn (model X.prog X.w) X.A X.env X.xe) (hc:PT X c tc) (hb:PSs X body tb):PS X (.While c body [] pos) (yz tc tb):=by
 intro pins s σ H D I h
 obtain ⟨W,⟨m0,w0⟩,turn⟩:=h
 refine wpAny_While (codeAny_whileLoop (fun n s'=>∃σ' H',Inv X pins σ' H' s'/\W n σ' H') ?_ m0 ⟨σ,H,I,w0⟩)
 rintro n s1 ⟨σ1,H1,I1,w1⟩
 refine wpAny_passesOwn hp (thn (hc pins s1 σ1 H1 _ I1 (turn n σ1 H1 w1)) fun b s2 ⟨H2,I2,q2⟩=>?_)
 cases b with
 | true =>
  obtain ⟨N,hN,q2⟩:=q2
  rw [if_pos rfl]
  refine wpAny_passesOwn hp (thn (hb pins s2 σ1 H2 _ I2 q2) fun f s3 q3=>?_)
  cases f with
  | next =>
   obtain ⟨σ3,H3,I3,n3⟩:=q3
   obtain ⟨m',hm,w3⟩:=hN σ3 H3 n3
   exact ⟨m',hm,σ3,H3,I3,w3⟩
  | cont =>
   obtain ⟨σ3,H3,I3,n3⟩:=q3
   obtain ⟨m',hm,w3⟩:=hN σ3 H3 n3
   exact ⟨m',hm,σ3,H3,I3,w3⟩
  | brk=>exact q3
  | ret v=>exact q3
 | false =>
  rw [if_neg Bool.false_ne_true]
  exact wpAny_execs_nil ⟨σ1,H2,I2,q2⟩
end
structure It where
 go:Nat->Hp->Prop
 yld:Nat->Hp->V->Hp->Prop
 stop:Nat->Hp->Prop
def rM (X:Cx) (pins:List (Addr×Obj)) (H:Hp) (b:Addr):Prop :=
 H b=none/\b≠X.env.locals/\b∉X.fs/\(b∈X.ex\/X.s₀.heap.objs.size<=b)/\(∀x c,X.env.cells.lookup x=some c->c≠b)/\∀p∈X.pn++pins,p.1≠b
theorem Inv.fpOk {X:Cx}{pins:List (Addr×Obj)}{σ:St}{H H':Hp}{s:Shared}{b:Addr} (I:Inv X pins σ H s) (hb:s.heap.objs.size<=b) (hn:H' b=none):rM X pins H' b:=by
 refine ⟨hn,Nat.ne_of_gt (Nat.lt_of_lt_of_le I.lt hb),I.nofs hb,.inr (Nat.le_trans I.sz hb),fun x c e z=>?_,fun p hp z=>?_⟩
 .obtain ⟨v,q⟩:=I.cell x c e
  exact absurd (Nat.lt_of_lt_of_le q.lt (by rw [z];exact hb)) (Nat.lt_irrefl _)
 .exact absurd (Nat.lt_of_lt_of_le (Heap.lt_size (I.pin p hp).1) (by rw [z];exact hb)) (Nat.lt_irrefl _)
structure wR (P:Program) (w:World) (K:PySem.W.Frag) (tg:Expr) (J:It) (fp:List Addr) (it:Addr) (tn:Nat->Heap->Prop):Prop where
 mem:it∈fp
 obj:∀i h,tn i h->∀b∈fp,∃o,h.get? b=some o/\∀v,o.data≠.cell v
 keep:∀i h h',tn i h->(∀b∈fp,∀o,h.get? b=some o->h'.get? b=some o)->tn i h'
 item:∀(X:Cx),X.prog=P->X.w=w->X.K=K->X.calm=true->∀(i:Nat) (pins:List (Addr×Obj)) (s:Shared) (σ:St) (H:Hp) (E:Value->Shared->Prop),Inv X pins σ H s->(∀b∈fp,rM X pins H b)->tn i s.heap->J.go i H ->
  wpAny (model P w) X.A (pyNext (.ref it)) (fun r s1=>∃u,r=some u /\
   wpAny (model P w) X.A (letOwnedTupleGo tg (.ref it) u) (fun _ s2=>∃x H',Inv X pins σ H' s2/\df x u/\J.yld i H x H'/\tn (i + 1) s2.heap/\∀b∈fp,H' b=none) E s1) E s
 done:∀(X:Cx),X.prog=P->X.w=w->X.K=K->X.calm=true->∀(i:Nat) (pins:List (Addr×Obj)) (s:Shared) (σ:St) (H:Hp) (E:Value->Shared->Prop),Inv X pins σ H s->(∀b∈fp,rM X pins H b)->tn i s.heap->J.stop i H ->
  wpAny (model P w) X.A (pyNext (.ref it)) (fun r s1=>r=none/\Inv X pins σ H s1) E s
 self:∀(A:Around) (i:Nat) (s:Shared) (Q:Value->Shared->Prop) (E:Value->Shared->Prop),tn i s.heap->Q (.ref it) s->wpAny (model P w) A (pyIter (.ref it)) Q E s
abbrev TI:=St->Hp->(It->Hp->Prop)->Prop
def PIE (X:Cx) (pins:List (Addr×Obj)) (σ:St) (tg:Expr) (R:It->Hp->Prop) (itv:Value) (s2:Shared):Prop :=
 ∃(it:Addr) (fp:List Addr) (tn:Nat->Heap->Prop) (J:It) (H':Hp),itv=.ref it/\Inv X pins σ H' s2/\wR X.prog X.w X.K tg J fp it tn/\tn 0 s2.heap/\(∀b∈fp,rM X pins H' b)/\R J H'
def PI (X:Cx) (tg iter:Expr) (wi:TI):Prop :=
 ∀(pins:List (Addr×Obj)) (s:Shared) (σ:St) (H:Hp) (R:It->Hp->Prop),Inv X pins σ H s->wi σ H R ->
  wpAny (model X.prog X.w) X.A (eval iter X.env) (fun v s1=>wpAny (model X.prog X.w) X.A (pyIter v) (PIE X pins σ tg R) X.xe s1) X.xe s
theorem zq {M:Model}{A:Around}{E:Value->Shared->Prop}{s:Shared}{tg:Expr}{it:Addr}{u:Value}{o:Obj}{n:String}{vs:Array Value}{Q:Unit->Shared->Prop} (ho:s.heap.get? it=some o) (hc:o.cls=.type n) (hd:o.data=.fields vs)
    (hn:["enumerate","zip","dict_itemiterator","dict_reverseitemiterator","odict_iterator","itertools.zip_longest","itertools.pairwise"].contains n=false) (hQ:Q () s):wpAny M A (letOwnedTupleGo tg (.ref it) u) Q E s:=by
  unfold letOwnedTupleGo
  cases tg <;> first
    | exact wpAny_pure hQ
    | (cases u <;> first
        | exact wpAny_pure hQ
        | (refine wpAny_bind (wpAny_load ho ?_)
           rw [hc,hd]
           show wpAny M A (if (["enumerate","zip","dict_itemiterator","dict_reverseitemiterator","odict_iterator","itertools.zip_longest","itertools.pairwise"].contains n && vs[0]? == some (rawInt _))=true then _ else _) Q E s
           rw [if_neg (by intro h;rw [hn,Bool.false_and] at h;cases h)]
           exact wpAny_pure hQ))
def Itl (K:PySem.W.Frag) (a:Addr):It :=
 ⟨fun i H=>∃xs x,SqL K H a xs/\xs[i]?=some x,fun i H x H'=>H'=H/\∀xs,SqL K H a xs->xs[i]?=some x,fun i H=>∃xs,SqL K H a xs/\xs.length<=i⟩
def Itt (K:PySem.W.Frag) (a:Addr):It :=
 ⟨fun i H=>∃xs x,SqT K H a xs/\xs[i]?=some x,fun i H x H'=>H'=H/\∀xs,SqT K H a xs->xs[i]?=some x,fun i H=>∃xs,SqT K H a xs/\xs.length<=i⟩
def Itr (lo:Int) (n:Nat):It:=⟨fun i _=>i < n,fun i H x H'=>H'=H/\x=.int (lo + i),fun i _=>n<=i⟩
theorem ua {P:Program}{w:World}{K:PySem.W.Frag}{tg:Expr} (a it:Addr):wR P w K tg (Itl K a) [it] it (fun i h=>h.IsListIter it a i) where
 mem:=by simp
 obj:=fun i h st b hb=>by
  have e:b=it:=by simpa using hb
  subst e
  obtain ⟨o,e,c,d⟩:=st
  exact ⟨o,e,fun v z=>by rw [d] at z;cases z⟩
 keep:=fun i h h' st k=>st.at fun o e=>k it (by simp) o e
 item:=by
  intro X hP hw hK hc i pins s σ H E I hf st hg
  subst hP hw hK
  obtain ⟨xs,x,hq,hx⟩:=hg
  obtain ⟨its,rv,p,hz⟩:=I.list hq
  obtain ⟨u,hu,ru⟩:=rv.get hx
  obtain ⟨f0,f1,f2,f3,f4,f5⟩:=hf it (by simp)
  refine wpAny_pyNext_list_item st p.isList (x:=u) (by simpa using hu) fun h' st' sb=>?_
  have I1:Inv X pins σ H { s with heap:=h' }:=I.turned (t':=s.toks) (fun b o hb e=>(sb.2 b hb).trans e) f0 f1 f3 f4 f5
  obtain ⟨o,e,c,d⟩:=id st'
  exact ⟨u,rfl,zq (s:={ s with heap:=h' }) e c d (by decide) ⟨x,H,I1,ru,⟨rfl,fun ys hy=>by rw [I.list_inj hy hq];exact hx⟩,st',fun b hb=>(hf b hb).1⟩⟩
 done:=by
  intro X hP hw hK hc i pins s σ H E I hf st hg
  subst hP hw hK
  obtain ⟨xs,hq,hx⟩:=hg
  obtain ⟨its,rv,p,hz⟩:=I.list hq
  obtain ⟨f0,f1,f2,f3,f4,f5⟩:=hf it (by simp)
  have hl:=rv.length
  exact wpAny_pyNext_list_end (I.ok.hd hc) st p.isList (by simp;omega) fun h' eb=>⟨rfl,I.turned (t':=s.toks) (fun b o hb e=>eb b o hb e) f0 f1 f3 f4 f5⟩
 self:=fun _ _ _ _ _ st h=>wpAny_pyIter_listiter st h
theorem sM {P:Program}{w:World}{K:PySem.W.Frag}{tg:Expr} (a it:Addr):wR P w K tg (Itt K a) [it] it (fun i h=>h.IsTupleIter it a i) where
 mem:=by simp
 obj:=fun i h st b hb=>by
  have e:b=it:=by simpa using hb
  subst e
  obtain ⟨o,e,c,d⟩:=st
  exact ⟨o,e,fun v z=>by rw [d] at z;cases z⟩
 keep:=fun i h h' st k=>st.at fun o e=>k it (by simp) o e
 item:=by
  intro X hP hw hK hc i pins s σ H E I hf st hg
  subst hP hw hK
  obtain ⟨xs,x,hq,hx⟩:=hg
  obtain ⟨its,rv,p,hz⟩:=I.tuple hq
  obtain ⟨u,hu,ru⟩:=rv.get hx
  obtain ⟨f0,f1,f2,f3,f4,f5⟩:=hf it (by simp)
  refine wpAny_pyNext_tuple_item st (show s.heap.IsTuple a its.toArray from p) (x:=u) (by simpa using hu) fun h' st' sb=>?_
  have I1:Inv X pins σ H { s with heap:=h' }:=I.turned (t':=s.toks) (fun b o hb e=>(sb.2 b hb).trans e) f0 f1 f3 f4 f5
  obtain ⟨o,e,c,d⟩:=id st'
  exact ⟨u,rfl,zq (s:={ s with heap:=h' }) e c d (by decide) ⟨x,H,I1,ru,⟨rfl,fun ys hy=>by rw [I.tuple_inj hy hq];exact hx⟩,st',fun b hb=>(hf b hb).1⟩⟩
 done:=by
  intro X hP hw hK hc i pins s σ H E I hf st hg
  subst hP hw hK
  obtain ⟨xs,hq,hx⟩:=hg
  obtain ⟨its,rv,p,hz⟩:=I.tuple hq
  obtain ⟨f0,f1,f2,f3,f4,f5⟩:=hf it (by simp)
  have hl:=rv.length
  exact wpAny_pyNext_tuple_end (I.ok.hd hc) st (show s.heap.IsTuple a its.toArray from p) (by simp;omega) fun h' eb=>⟨rfl,I.turned (t':=s.toks) (fun b o hb e=>eb b o hb e) f0 f1 f3 f4 f5⟩
 self:=fun _ _ _ _ _ st h=>wpAny_pyIter_tupleiter st h
theorem sN {P:Program}{w:World}{K:PySem.W.Frag}{tg:Expr} (it:Addr) (lo:Int) (n:Nat):wR P w K tg (Itr lo n) [it] it (fun i h=>IsRangeIter h it (lo + (i:Nat) * 1) ((n:Int) - (i:Nat)) 1) where
 mem:=by simp
 obj:=fun i h st b hb=>by
  have e:b=it:=by simpa using hb
  subst e
  exact ⟨_,st,fun v z=>by
   have z':Data.fields _=Data.cell v:=z
   cases z'⟩
 keep:=fun i h h' st k=>k it (by simp) _ st
 item:=by
  intro X hP hw hK hc i pins s σ H E I hf st hg
  subst hP hw hK
  obtain ⟨f0,f1,f2,f3,f4,f5⟩:=hf it (by simp)
  have W:=Walks.range (prog:=X.prog) (w:=X.w) (I.ok.hd hc) it lo 1 n
  refine W.item i s _ _ hg st fun v h' tk hv st' kk=>?_
  obtain ⟨t,rfl⟩:=hv
  have I1:Inv X pins σ H { s with heap:=h',toks:=tk }:=I.turned (fun b o hb e=>kk b o (by simpa using hb) e) f0 f1 f3 f4 f5
  refine ⟨_,rfl,zq (s:={ s with heap:=h',toks:=tk }) (n:="range_iterator") st' rfl rfl (by decide) ⟨.int (lo + i),H,I1,⟨t,?_⟩,⟨rfl,rfl⟩,st',fun b hb=>(hf b hb).1⟩⟩
  rw [Int.mul_one]
 done:=by
  intro X hP hw hK hc i pins s σ H E I hf st hg
  subst hP hw hK
  obtain ⟨f0,f1,f2,f3,f4,f5⟩:=hf it (by simp)
  exact wpAny_pyNext_range_end (I.ok.hd hc) st (by have:n<=i:=hg;omega) fun h' eb=>⟨rfl,I.turned (t':=s.toks) (fun b o hb e=>eb b o hb e) f0 f1 f3 f4 f5⟩
 self:=fun _ _ _ _ _ st h=>wpAny_pyIter_rangeiter st h
section
variable {X:Cx}{tg:Expr}
theorem wS {pins:List (Addr×Obj)}{σ:St}{H:Hp}{s:Shared}{R:It->Hp->Prop}{E:Value->Shared->Prop}{lo hi:Int}{t u v:Tok}{tk:Nat} (I:Inv X pins σ H s) (h1:-(2 ^ 62)<=lo) (h2:lo < 2 ^ 62) (h3:-(2 ^ 62)<=hi) (h4:hi < 2 ^ 62)
  (q:R (Itr lo (hi - lo).toNat) H):wpAny (model X.prog X.w) X.A (pyIter (.ref s.heap.objs.size)) (PIE X pins σ tg R) E { s with heap:=s.heap.push { cls:=.type "range",data:=.fields #[.int lo t,.int hi u,.int 1 v] },toks:=tk }:=by
 refine wpAny_pyIter_range (IsRange.new ..) (small_one h1 h2 h3 h4) ?_
 have I1:Inv X pins σ H { s with heap:=s.heap.push { cls:=.type "range",data:=.fields #[.int lo t,.int hi u,.int 1 v] },toks:=tk }:=I.kept fun b o e=>Heap.get?_push_of_some _ e
 refine ⟨(s.heap.push { cls:=.type "range",data:=.fields #[.int lo t,.int hi u,.int 1 v] }).objs.size,[(s.heap.push { cls:=.type "range",data:=.fields #[.int lo t,.int hi u,.int 1 v] }).objs.size],_,_,H,rfl,
  I1.kept (t':=tk) fun b o e=>Heap.get?_push_of_some _ e,sN _ lo (hi - lo).toNat,?_,fun b hb=>?_,q⟩
 .have e1:lo + ((0:Nat):Int) * 1=lo:=by simp
  have e2:(((hi - lo).toNat:Nat):Int) - ((0:Nat):Int)=Builtin.Range.rangeSize lo hi 1:=by rw [rangeSize_one];split <;> omega
  show IsRangeIter _ _ (lo + ((0:Nat):Int) * 1) ((((hi - lo).toNat:Nat):Int) - ((0:Nat):Int)) 1
  rw [e1,e2]
  exact Heap.get?_push_size _ rfl
 .have e:b=(s.heap.push { cls:=.type "range",data:=.fields #[.int lo t,.int hi u,.int 1 v] }).objs.size:=by simpa using hb
  subst e
  exact I1.fpOk (Nat.le_refl _) (I1.hok.fresh (Nat.le_refl _))
def BB (ta:TA):TI:=fun σ H R=>ta σ H fun vs H1=>∃j:Int,vs=[.int j]/\-(2 ^ 62)<=j/\j < 2 ^ 62/\R (Itr 0 j.toNat) H1
theorem iZ {a:Expr}{ta:TA}{p pos:Pos} (hg:Gl X "range") (hm:X.mg "range"=none) (ha:PA X [a] ta) (hs:starEach [a] X.env=[(false,eval a X.env)]:=by rfl):PI X tg (.Call (.Name "range" p) [a] [] pos) (BB ta):=by
 intro pins s σ H R I h
 refine Call_ (iX I hg hm boot_range (PyProof.Rows.callWith_type1 (thn (ha pos pins s σ H _ I h) fun us s1 ⟨vs,H1,I1,r1,q1⟩=>?_) hs rfl))
 obtain ⟨j,e,q1,q2,q⟩:=q1
 subst e
 cases r1 with
 | cons r rr =>
  cases rr
  obtain ⟨t,rfl⟩:=r
  exact call_range_1 (wS I1 (by omega) (by omega) q1 q2 (by simpa using q))
def Dz (wi:TI) (g:TG) (tb:TS):TS:=fun D σ H=>wi σ H fun J H1=>∃W:Nat->Nat->St->Hp->Prop,(∃m,W 0 m σ H1)/\∀i m σ H,W i m σ H ->
 (J.stop i H/\D.nx σ H)\/(J.go i H/\∃N:St->Hp->Prop,(∀σ' H',N σ' H'->∃m',m' < m/\W (i + 1) m' σ' H')/\∀x H',J.yld i H x H'->g x σ H' fun σ2 H2=>tb { D with nx:=N,ct:=N,bk:=D.nx } σ2 H2)
def oI (fp:List Addr) (h:Heap):List (Addr×Obj):=fp.filterMap fun b=>(h.get? b).map fun o=>(b,o)
theorem gS {fp:List Addr}{h:Heap}{b:Addr}{o:Obj} (hb:b∈fp) (e:h.get? b=some o):(b,o)∈oI fp h:=List.mem_filterMap.mpr ⟨b,hb,by rw [e];rfl⟩
theorem ub {fp:List Addr}{h:Heap}{p:Addr×Obj} (hp:p∈oI fp h):p.1∈fp/\h.get? p.1=some p.2:=by
 obtain ⟨b,hb,e⟩:=List.mem_filterMap.mp hp
 cases q:h.get? b with
 | none=>rw [q] at e;cases e
 | some o =>
  rw [q] at e
  have e':(b,o)=p:=Option.some.inj e
  subst e'
  exact ⟨hb,q⟩
theorem Inv.pinned {pins:List (Addr×Obj)}{σ:St}{H:Hp}{s:Shared}{fp:List Addr} (I:Inv X pins σ H s) (hf:∀b∈fp,rM X pins H b) (ho:∀b∈fp,∃o,s.heap.get? b=some o/\∀v,o.data≠.cell v):Inv X (pins++oI fp s.heap) σ H s :=
 I.pins_of fun p hp=>(List.mem_append.mp hp).elim (fun z=>I.pin p (List.mem_append_right _ z)) fun z=>by
  obtain ⟨hb,e⟩:=ub z
  obtain ⟨f0,f1,f2,_⟩:=hf p.1 hb
  obtain ⟨o,e',d⟩:=ho p.1 hb
  rw [e] at e';cases e'
  exact ⟨e,f0,f1,f2,d⟩
theorem Inv.unpinned {pins pl:List (Addr×Obj)}{σ:St}{H:Hp}{s:Shared} (I:Inv X (pins++pl) σ H s):Inv X pins σ H s:=I.pins_of fun p hp=>I.pin p (List.mem_append_right _ (List.mem_append_left _ hp))
theorem fX {iter:Expr}{body:List Stmt}{wi:TI}{g:TG}{tb:TS}{pos:Pos} (hp:PassesOwn (model X.prog X.w) X.A X.env X.xe) (hc:X.calm=true) (hi:PI X tg iter wi) (hg:PG X tg g) (hb:PSs X body tb)
  (hs:∀x,foldedSetIterable iter X.env x=pure x:=by intro _;rfl):PS X (.For tg iter body [] pos) (Dz wi g tb):=by
 intro pins s σ H D I h
 refine wpAny_For (thn (hi pins s σ H _ I h) fun v s1 h1=>thn h1 fun itv s2 h2=>?_) hs
 obtain ⟨it,fp,tn,J,H2,e,I2,T,st2,f2,W,⟨m0,w0⟩,turn⟩:=h2
 subst e
 -- what stays true of the iterator's objects through the loop
 have stat:∀{H':Hp},(∀b∈fp,H' b=none)->∀b∈fp,rM X pins H' b:=fun hn b hb=>⟨hn b hb,(f2 b hb).2⟩
 refine codeAny_forLoop_any (fun n s'=>∃i σ' H',Inv X pins σ' H' s'/\tn i s'.heap/\(∀b∈fp,H' b=none)/\W i n σ' H') ?_ m0 ⟨0,σ,H2,I2,st2,fun b hb=>(f2 b hb).1,w0⟩
 rintro n s3 ⟨i,σ3,H3,I3,st3,fr3,w3⟩
 rcases turn i n σ3 H3 w3 with ⟨stop,qn⟩ | ⟨go,N,hN,step⟩
 .refine wpAny_passesOwn hp (thn (T.done X rfl rfl rfl hc i pins s3 σ3 H3 X.xe I3 (stat fr3) st3 stop) fun r s4 ⟨hr,I4⟩=>?_)
  subst hr
  exact wpAny_execs_nil ⟨σ3,H3,I4,qn⟩
 .refine wpAny_passesOwn hp (thn (T.item X rfl rfl rfl hc i pins s3 σ3 H3 X.xe I3 (stat fr3) st3 go) fun r s4 ⟨u,hr,h4⟩=>?_)
  subst hr
  refine wpAny_passesOwn hp (thn h4 fun _ s5 ⟨x,H5,I5,r5,y5,st5,fr5⟩=>?_)
  have I5':=I5.pinned (stat fr5) (T.obj _ _ st5)
  refine wpAny_passesOwn hp (thn (hg _ s5 σ3 H5 x u _ I5' r5 (step x H5 y5)) fun _ s6 ⟨σ6,H6,I6,q6⟩=>?_)
  refine wpAny_passesOwn hp (thn (hb _ s6 σ6 H6 _ I6 q6) fun f s7 q7=>?_)
  have again:∀{σ7:St}{H7:Hp},Inv X (pins++oI fp s5.heap) σ7 H7 s7->N σ7 H7->∃m,m < n/\∃i σ' H',Inv X pins σ' H' s7/\tn i s7.heap/\(∀b∈fp,H' b=none)/\W i m σ' H':=fun {σ7 H7} I7 n7=>by
   obtain ⟨m',hm,w7⟩:=hN σ7 H7 n7
   refine ⟨m',hm,i + 1,σ7,H7,I7.unpinned,T.keep _ _ _ st5 fun b hb o e=>(I7.pin (b,o) (List.mem_append_right _ (List.mem_append_right _ (gS hb e)))).1,fun b hb=>?_,w7⟩
   obtain ⟨o,e,d⟩:=T.obj _ _ st5 b hb
   exact (I7.pin (b,o) (List.mem_append_right _ (List.mem_append_right _ (gS hb e)))).2.1
  cases f with
  | next=>obtain ⟨σ7,H7,I7,n7⟩:=q7;exact again I7 n7
  | cont=>obtain ⟨σ7,H7,I7,n7⟩:=q7;exact again I7 n7
  | brk=>obtain ⟨σ7,H7,I7,q7⟩:=q7;exact ⟨σ7,H7,I7.unpinned,q7⟩
  | ret v=>obtain ⟨x7,σ7,H7,I7,r7,q7⟩:=q7;exact ⟨x7,σ7,H7,I7.unpinned,r7,q7⟩
end
abbrev R2:=V->V->Hp->VK->Prop
def OpR (X:Cx) (f:Value->Value->Sem Value) (r:R2):Prop :=
 ∀(pins:List (Addr×Obj)) (s:Shared) (σ:St) (H:Hp) (x y:V) (v u:Value) (Q:VK),Inv X pins σ H s->df x v->df y u->r x y H Q ->
  wpAny (model X.prog X.w) X.A (f v u) (EP X pins σ Q) X.xe s
def UnR (X:Cx) (f:Value->Sem Value) (r:V->Hp->VK->Prop):Prop :=
 ∀(pins:List (Addr×Obj)) (s:Shared) (σ:St) (H:Hp) (x:V) (v:Value) (Q:VK),Inv X pins σ H s->df x v->r x H Q ->
  wpAny (model X.prog X.w) X.A (f v) (EP X pins σ Q) X.xe s
def bK (X:Cx) (f:Value) (r:List V->Hp->VK->Prop):Prop :=
 ∀(pins:List (Addr×Obj)) (s:Shared) (σ:St) (H:Hp) (xs:List V) (us:List Value) (Q:VK),Inv X pins σ H s->bO xs us->r xs H Q ->
  wpAny (model X.prog X.w) X.A (call f us) (EP X pins σ Q) X.xe s
def tOp (r:R2) (ta tb:TE):TE:=fun σ H Q=>ta σ H fun x H1=>tb σ H1 fun y H2=>r x y H2 Q
def tUn (r:V->Hp->VK->Prop) (ta:TE):TE:=fun σ H Q=>ta σ H fun x H1=>r x H1 Q
def rI (C:Int->Int->Prop) (g:Int->Int->V):R2:=fun x y H Q=>∃i j,x=.int i/\y=.int j/\C i j/\Q (g i j) H
def rI0 (g:Int->Int->V):R2:=fun x y H Q=>∃i j,x=.int i/\y=.int j/\Q (g i j) H
def rU (g:Int->V):V->Hp->VK->Prop:=fun x H Q=>∃i,x=.int i/\Q (g i) H
section
variable {X:Cx}{a b c:Expr}{ta tb tc:TE}{pos:Pos}
theorem DA (ha:PE X a ta) (hb:PE X b tb) {pins:List (Addr×Obj)}{s:Shared}{σ:St}{H:Hp}{R:V->V->Hp->Prop} (I:Inv X pins σ H s)
  (h:ta σ H fun x H1=>tb σ H1 fun y H2=>R x y H2) {Q:Value->Shared->Prop}{f:Value->Value->Sem Value}
  (hf:∀v u s2 x y H2,Inv X pins σ H2 s2->df x v->df y u->R x y H2->wpAny (model X.prog X.w) X.A (f v u) Q X.xe s2) :
  wpAny (model X.prog X.w) X.A (eval a X.env) (fun v s₁=>wpAny (model X.prog X.w) X.A (eval b X.env) (fun u s₂=>wpAny (model X.prog X.w) X.A (f v u) Q X.xe s₂) X.xe s₁) X.xe s:=by
 refine thn (ha pins s σ H _ I h) fun v s1 ⟨x,H1,I1,r1,q1⟩=>?_
 refine thn (hb pins s1 σ H1 _ I1 q1) fun u s2 ⟨y,H2,I2,r2,q2⟩=>?_
 exact hf v u s2 x y H2 I2 r1 r2 q2
theorem bG {op:Operator}{r:R2} (ho:OpR X (binaryOp op) r) (ha:PE X a ta) (hb:PE X b tb):PE X (.BinOp a op b pos) (tOp r ta tb):=by
 intro pins s σ H Q I h
 exact wpAny_BinOp (DA ha hb I h fun v u s2 x y H2 I2 rx ry q=>ho pins s2 σ H2 x y v u Q I2 rx ry q)
theorem wT {op:UnaryOp}{r:V->Hp->VK->Prop} (ho:UnR X (unaryOp op) r) (ha:PE X a ta):PE X (.UnaryOp op a pos) (tUn r ta):=by
 intro pins s σ H Q I h
 exact UnaryOp_ (thn (ha pins s σ H _ I h) fun v s1 ⟨x,H1,I1,r1,q1⟩=>ho pins s1 σ H1 x v Q I1 r1 q1)
theorem opI {f:Value->Value->Sem Value}{C:Int->Int->Prop}{g:Int->Int->Int}
  (rule:∀(i j:Int) (t u:Tok) (s:Shared) (Q:Value->Shared->Prop) (E:Value->Shared->Prop),C i j->Q (.int (g i j) s.toks) { s with toks:=s.toks + 1 }->wpAny (model X.prog X.w) X.A (f (.int i t) (.int j u)) Q E s) :
  OpR X f (rI C fun i j=>.int (g i j)):=by
 intro pins s σ H x y v u Q I rx ry h
 obtain ⟨i,j,rfl,rfl,hc,q⟩:=h
 obtain ⟨t,rfl⟩:=rx
 obtain ⟨t',rfl⟩:=ry
 exact rule i j t t' s _ _ hc ⟨.int (g i j),H,I.tok _,⟨_,rfl⟩,q⟩
theorem DB {f:Value->Value->Sem Value}{g:Int->Int->Int}
  (rule:∀(i j:Int) (t u:Tok) (s:Shared) (Q:Value->Shared->Prop) (E:Value->Shared->Prop),Q (.int (g i j) s.toks) { s with toks:=s.toks + 1 }->wpAny (model X.prog X.w) X.A (f (.int i t) (.int j u)) Q E s) :
  OpR X f (rI0 fun i j=>.int (g i j)):=by
 intro pins s σ H x y v u Q I rx ry h
 obtain ⟨i,j,rfl,rfl,q⟩:=h
 obtain ⟨t,rfl⟩:=rx
 obtain ⟨t',rfl⟩:=ry
 exact rule i j t t' s _ _ ⟨.int (g i j),H,I.tok _,⟨_,rfl⟩,q⟩
theorem Bf {f:Value->Value->Sem Value}{g:Int->Int->Bool}
  (rule:∀(i j:Int) (t u:Tok) (s:Shared) (Q:Value->Shared->Prop) (E:Value->Shared->Prop),Q (.bool (g i j)) s->wpAny (model X.prog X.w) X.A (f (.int i t) (.int j u)) Q E s) :
  OpR X f (rI0 fun i j=>.bl (g i j)):=by
 intro pins s σ H x y v u Q I rx ry h
 obtain ⟨i,j,rfl,rfl,q⟩:=h
 obtain ⟨t,rfl⟩:=rx
 obtain ⟨t',rfl⟩:=ry
 exact rule i j t t' s _ _ ⟨.bl (g i j),H,I,rfl,q⟩
def DC (i j:Int):Prop:=0 < j/\j < 1073741824
def DD (i j:Int):Prop:=0<=j/\j<=1000000/\i.natAbs < 2 ^ 64
def Dh (i j:Int):Prop:=(-(2 ^ 64) < i/\i < 2 ^ 64)\/(-(2 ^ 64) < j/\j < 2 ^ 64)
theorem Dh.ok {i j:Int} (h:Dh i j):IntMulOk i j:=by
 rcases h with ⟨h1,h2⟩ | ⟨h1,h2⟩
 .exact .of_left (intBits_le_64 h1 h2)
 .exact .of_right (intBits_le_64 h1 h2)
theorem BC:OpR X (binaryOp .Add) (rI0 fun i j=>.int (i + j)):=DB fun _ _ _ _ _ _ _ q=>add_int q
theorem BD:OpR X (binaryOp .Sub) (rI0 fun i j=>.int (i - j)):=DB fun _ _ _ _ _ _ _ q=>sub_int q
theorem BE:OpR X (binaryOp .Mult) (rI Dh fun i j=>.int (i * j)):=opI fun _ _ _ _ _ _ _ hc q=>mul_int q hc.ok
theorem zr:OpR X (binaryOp .FloorDiv) (rI DC fun i j=>.int (i / j)):=opI fun i j _ _ _ _ _ hc q=>by
 have h1:(0:Int) < j:=hc.1
 have h2:j < 1073741824:=hc.2
 exact floordiv_int (by omega) (by rw [Int.fdiv_eq_ediv_of_nonneg i (by omega)];exact q) (.inl (PyProof.noPylong_small (by omega)))
theorem BF:OpR X (binaryOp .Mod) (rI (fun _ j=>0 < j) fun i j=>.int (i % j)):=opI fun i j _ _ _ _ _ hc q=>by
 have h1:(0:Int) < j:=hc
 exact mod_int' (by omega) (by rw [Int.fmod_eq_emod_of_nonneg i (by omega)];exact q)
theorem BG:OpR X (binaryOp .Pow) (rI DD fun i j=>.int (i ^ j.toNat)):=opI fun _ _ _ _ _ _ _ hc q=>pow_int_small hc.1 hc.2.1 hc.2.2 q
theorem zt:OpR X (inplaceOp .Add) (rI0 fun i j=>.int (i + j)):=DB fun _ _ _ _ _ _ _ q=>iadd_int q
theorem unI {f:Value->Sem Value}{g:Int->Int}
  (rule:∀(i:Int) (t:Tok) (s:Shared) (Q:Value->Shared->Prop) (E:Value->Shared->Prop),Q (.int (g i) s.toks) { s with toks:=s.toks + 1 }->wpAny (model X.prog X.w) X.A (f (.int i t)) Q E s) :
  UnR X f (rU fun i=>.int (g i)):=by
 intro pins s σ H x v Q I rx h
 obtain ⟨i,rfl,q⟩:=h
 obtain ⟨t,rfl⟩:=rx
 exact rule i t s _ _ ⟨.int (g i),H,I.tok _,⟨_,rfl⟩,q⟩
theorem rN:UnR X (unaryOp .USub) (rU fun i=>.int (-i)):=unI fun _ _ _ _ _ q=>neg_int q
end
def ES:V->V->Bool
 | .non,.non=>true | .non,.int _=>true | .int _,.non=>true | .non,.bl _=>true | .bl _,.non=>true | .non,.str _=>true | .str _,.non=>true
 | .int _,.int _=>true | .bl _,.bl _=>true | .str _,.str _=>true | .byt _,.byt _=>true
 | .int _,.str _=>true | .str _,.int _=>true | .bl _,.str _=>true | .str _,.bl _=>true
 | _,_=>false
def rEq:R2:=fun x y H Q=>ES x y=true/\Q (.bl (decide (x=y))) H
def rNe:R2:=fun x y H Q=>ES x y=true/\Q (.bl (!decide (x=y))) H
theorem uc {i j:Int}:decide (V.int i=V.int j)=(i == j):=by
 rw [Bool.eq_iff_iff]
 simp
theorem yA {i j:Bool}:decide (V.bl i=V.bl j)=(i == j):=by
 rw [Bool.eq_iff_iff]
 simp
theorem ud {i j:Str}:decide (V.str i=V.str j)=(i == j):=by
 rw [Bool.eq_iff_iff]
 simp
theorem ue {i j:Array UInt8}:decide (V.byt i=V.byt j)=(i.toList == j.toList):=by
 rw [Bool.eq_iff_iff]
 cases i
 cases j
 simp
section
variable {X:Cx}{a b c:Expr}{ta tb tc:TE}{pos:Pos}
theorem bC {pins:List (Addr×Obj)}{σ:St}{H:Hp}{s:Shared}{Q:VK}{k k':Bool} (I:Inv X pins σ H s) (q:Q (.bl k) H) (e:k=k'):EP X pins σ Q (.bool k') s:=by
 subst e
 exact ⟨.bl k,H,I,rfl,q⟩
theorem DE:OpR X (compareOp .Eq) rEq:=by
 intro pins s σ H x y v u Q I rx ry h
 obtain ⟨hs,q⟩:=h
 cases x with
 | non =>
  cases rx
  cases y with
  | non=>cases ry;exact PySem.EqNone.eq_none_none (bC I q (by simp))
  | bl j=>cases ry;exact PySem.EqNone.eq_none_bool (bC I q (by simp))
  | int j=>obtain ⟨t',rfl⟩:=ry;exact PySem.EqNone.eq_none_int (bC I q (by simp))
  | str j=>obtain ⟨t',rfl⟩:=ry;exact PySem.EqNone.eq_none_str (bC I q (by simp))
  | _=>exact absurd (show false=true from hs) Bool.false_ne_true
 | bl i =>
  cases rx
  cases y with
  | non=>cases ry;exact PySem.EqNone.eq_bool_none (bC I q (by simp))
  | bl j=>cases ry;exact eq_bool (bC I q yA)
  | str j=>obtain ⟨t',rfl⟩:=ry;exact PySem.EqMixed.eq_bool_str (bC I q (by simp))
  | _=>exact absurd (show false=true from hs) Bool.false_ne_true
 | int i =>
  obtain ⟨t,rfl⟩:=rx
  cases y with
  | non=>cases ry;exact PySem.EqNone.eq_int_none (bC I q (by simp))
  | int j=>obtain ⟨t',rfl⟩:=ry;exact eq_int (bC I q uc)
  | str j=>obtain ⟨t',rfl⟩:=ry;exact PySem.EqMixed.eq_int_str (bC I q (by simp))
  | _=>exact absurd (show false=true from hs) Bool.false_ne_true
 | str i =>
  obtain ⟨t,rfl⟩:=rx
  cases y with
  | non=>cases ry;exact PySem.EqNone.eq_str_none (bC I q (by simp))
  | bl j=>cases ry;exact PySem.EqMixed.eq_str_bool (bC I q (by simp))
  | int j=>obtain ⟨t',rfl⟩:=ry;exact PySem.EqMixed.eq_str_int (bC I q (by simp))
  | str j=>obtain ⟨t',rfl⟩:=ry;exact eq_str (bC I q ud)
  | _=>exact absurd (show false=true from hs) Bool.false_ne_true
 | byt i =>
  obtain ⟨t,rfl⟩:=rx
  cases y with
  | byt j=>obtain ⟨t',rfl⟩:=ry;exact PySem.W.eq_bytes (bC I q ue)
  | _=>exact absurd (show false=true from hs) Bool.false_ne_true
 | _=>cases y <;> exact absurd (show false=true from hs) Bool.false_ne_true
theorem DF:OpR X (compareOp .NotEq) rNe:=by
 intro pins s σ H x y v u Q I rx ry h
 obtain ⟨hs,q⟩:=h
 cases x with
 | non =>
  cases rx
  cases y with
  | non=>cases ry;exact PySem.EqNone.ne_none_none (bC I q (by simp))
  | bl j=>cases ry;exact PySem.EqNone.ne_none_bool (bC I q (by simp))
  | int j=>obtain ⟨t',rfl⟩:=ry;exact PySem.EqNone.ne_none_int (bC I q (by simp))
  | str j=>obtain ⟨t',rfl⟩:=ry;exact PySem.EqNone.ne_none_str (bC I q (by simp))
  | _=>exact absurd (show false=true from hs) Bool.false_ne_true
 | bl i =>
  cases rx
  cases y with
  | non=>cases ry;exact PySem.EqNone.ne_bool_none (bC I q (by simp))
  | bl j=>cases ry;exact ne_bool (bC I q (congrArg not yA))
  | str j=>obtain ⟨t',rfl⟩:=ry;exact PySem.EqMixed.ne_bool_str (bC I q (by simp))
  | _=>exact absurd (show false=true from hs) Bool.false_ne_true
 | int i =>
  obtain ⟨t,rfl⟩:=rx
  cases y with
  | non=>cases ry;exact PySem.EqNone.ne_int_none (bC I q (by simp))
  | int j=>obtain ⟨t',rfl⟩:=ry;exact ne_int (bC I q (congrArg not uc))
  | str j=>obtain ⟨t',rfl⟩:=ry;exact PySem.EqMixed.ne_int_str (bC I q (by simp))
  | _=>exact absurd (show false=true from hs) Bool.false_ne_true
 | str i =>
  obtain ⟨t,rfl⟩:=rx
  cases y with
  | non=>cases ry;exact PySem.EqNone.ne_str_none (bC I q (by simp))
  | bl j=>cases ry;exact PySem.EqMixed.ne_str_bool (bC I q (by simp))
  | int j=>obtain ⟨t',rfl⟩:=ry;exact PySem.EqMixed.ne_str_int (bC I q (by simp))
  | str j=>obtain ⟨t',rfl⟩:=ry;exact ne_str (bC I q (congrArg not ud))
  | _=>exact absurd (show false=true from hs) Bool.false_ne_true
 | byt i =>
  obtain ⟨t,rfl⟩:=rx
  cases y with
  | byt j=>obtain ⟨t',rfl⟩:=ry;exact PySem.W.ne_bytes (bC I q (congrArg not ue))
  | _=>exact absurd (show false=true from hs) Bool.false_ne_true
 | _=>cases y <;> exact absurd (show false=true from hs) Bool.false_ne_true
theorem DG:OpR X (compareOp .Lt) (rI0 fun i j=>.bl (decide (i < j))):=Bf fun _ _ _ _ _ _ _ q=>lt_int q
theorem DH:OpR X (compareOp .LtE) (rI0 fun i j=>.bl (decide (i<=j))):=Bf fun _ _ _ _ _ _ _ q=>le_int q
theorem DI:OpR X (compareOp .Gt) (rI0 fun i j=>.bl (decide (j < i))):=Bf fun _ _ _ _ _ _ _ q=>gt_int q
theorem DJ:OpR X (compareOp .GtE) (rI0 fun i j=>.bl (decide (j<=i))):=Bf fun _ _ _ _ _ _ _ q=>ge_int q
theorem uf:OpR X (compareOp .Lt) (fun x y H Q=>∃i j,x=.str i/\y=.str j/\Q (.bl (decide (i.cps.toList < j.cps.toList))) H):=by
 intro pins s σ H x y v u Q I rx ry h
 obtain ⟨i,j,rfl,rfl,q⟩:=h
 obtain ⟨t,rfl⟩:=rx
 obtain ⟨t',rfl⟩:=ry
 exact lt_str (bC I q rfl)
theorem zu:OpR X (compareOp .IsNot) (fun x y H Q=>y=.non/\Q (.bl (!decide (x=.non))) H):=by
 intro pins s σ H x y v u Q I rx ry h
 obtain ⟨rfl,q⟩:=h
 cases ry
 refine isnot_none_gen (bC I q ?_)
 cases x <;> first
  | (cases rx;rfl)
  | (obtain ⟨t,rfl⟩:=rx;rfl)
theorem OpR.or {f:Value->Value->Sem Value}{r r':R2} (h:OpR X f r) (h':OpR X f r'):OpR X f (fun x y H Q=>r x y H Q\/r' x y H Q):=by
 intro pins s σ H x y v u Q I rx ry q
 rcases q with q | q
 .exact h pins s σ H x y v u Q I rx ry q
 .exact h' pins s σ H x y v u Q I rx ry q
theorem bx (b:Expr) {op:CmpOp} (h:op≠.In:=by decide) (h2:op≠.NotIn:=by decide):behindInMarks op b=false:=by
 have e1:(op == CmpOp.In)=false:=by cases op <;> first | rfl | exact absurd rfl h
 have e2:(op == CmpOp.NotIn)=false:=by cases op <;> first | rfl | exact absurd rfl h2
 cases b <;> simp [behindInMarks,e1,e2]
theorem iI {op:CmpOp}{r:R2} (ho:OpR X (compareOp op) r) (ha:PE X a ta) (hb:PE X b tb) (hm:behindInMarks op b=false):PE X (.Compare a [op] [b] pos) (tOp r ta tb):=by
 intro pins s σ H Q I h
 exact wpAny_Compare1 (DA ha hb I h fun v u s2 x y H2 I2 rx ry q=>ho pins s2 σ H2 x y v u Q I2 rx ry q) hm
def qq (t:TE):TT:=fun σ H Q=>t σ H fun x H'=>∃k,x=.bl k/\Q k H'
theorem a9 {op:CmpOp}{r:R2} (ho:OpR X (compareOp op) r) (ha:PE X a ta) (hb:PE X b tb) (hm:behindInMarks op b=false):PT X (.Compare a [op] [b] pos) (qq (tOp r ta tb)):=by
 intro pins s σ H Q I h
 refine wpAny_isTrue_Compare1 (thn (ha pins s σ H _ I h) fun v s1 ⟨x,H1,I1,r1,q1⟩=>thn (hb pins s1 σ H1 _ I1 q1) fun u s2 ⟨y,H2,I2,r2,q2⟩ =>
  thn (ho pins s2 σ H2 x y v u _ I2 r1 r2 q2) fun c s3 ⟨z,H3,I3,r3,k,e,q3⟩=>?_) hm
 subst e
 cases r3
 exact wpAny_truthy_bool ⟨H3,I3,q3⟩
def rO (r r':R2) (ta tb tc:TE):TE:=fun σ H Q=>ta σ H fun x H1=>tb σ H1 fun y H2=>r x y H2 fun z H3=>∃k,z=.bl k /\
 (if k=true then tc σ H3 fun w' H4=>r' y w' H4 Q else Q (.bl false) H3)
theorem wU {op op':CmpOp}{r r':R2} (ho:OpR X (compareOp op) r) (ho':OpR X (compareOp op') r') (ha:PE X a ta) (hb:PE X b tb) (hc:PE X c tc)
  (hm:lastMarks [op,op'] [b,c]=false:=by with_unfolding_all rfl):PE X (.Compare a [op,op'] [b,c] pos) (rO r r' ta tb tc):=by
 intro pins s σ H Q I h
 refine Compare_chain (thn (ha pins s σ H _ I h) fun v s1 ⟨x,H1,I1,r1,q1⟩=>chain_link (thn (hb pins s1 σ H1 _ I1 q1) fun u s2 ⟨y,H2,I2,r2,q2⟩ =>
  thn (ho pins s2 σ H2 x y v u _ I2 r1 r2 q2) fun d s3 ⟨z,H3,I3,r3,k,e,q3⟩=>?_)) hm
 subst e
 cases r3
 refine wpAny_truthy_bool ?_
 cases k with
 | false=>exact ite_ff ⟨.bl false,H3,I3,rfl,q3⟩
 | true=>exact ite_tt (chain_last (thn (hc pins s3 σ H3 _ I3 q3) fun w' s4 ⟨z',H4,I4,r4,q4⟩=>ho' pins s4 σ H4 y z' u w' Q I4 r2 r4 q4))
theorem wV {op op':CmpOp}{r r':R2} (ho:OpR X (compareOp op) r) (ho':OpR X (compareOp op') r') (ha:PE X a ta) (hb:PE X b tb) (hc:PE X c tc)
  (hm:lastMarks [op,op'] [b,c]=false:=by with_unfolding_all rfl):PT X (.Compare a [op,op'] [b,c] pos) (qq (rO r r' ta tb tc)):=by
 intro pins s σ H Q I h
 refine isTrue_chain (thn (ha pins s σ H _ I h) fun v s1 ⟨x,H1,I1,r1,q1⟩=>test_link (thn (hb pins s1 σ H1 _ I1 q1) fun u s2 ⟨y,H2,I2,r2,q2⟩ =>
  thn (ho pins s2 σ H2 x y v u _ I2 r1 r2 q2) fun d s3 ⟨z,H3,I3,r3,k,e,q3⟩=>?_)) hm
 subst e
 cases r3
 refine wpAny_truthy_bool ?_
 cases k with
 | false =>
  obtain ⟨k',e',q'⟩:=q3
  cases e'
  exact ite_ff ⟨H3,I3,q'⟩
 | true =>
  refine ite_tt (test_last (thn (hc pins s3 σ H3 _ I3 q3) fun w' s4 ⟨z',H4,I4,r4,q4⟩=>thn (ho' pins s4 σ H4 y z' u w' _ I4 r2 r4 q4) fun d' s5 ⟨z2,H5,I5,r5,k2,e2,q5⟩=>?_))
  subst e2
  cases r5
  exact wpAny_truthy_bool ⟨H5,I5,q5⟩
theorem l9:(sizeLine:Nat) < 2 ^ 63:=by rw [sizeLine_eq];decide
theorem sO:OpR X (binaryOp .Add) (fun x y H Q=>∃i j,x=.str i/\y=.str j/\i.length + j.length<=sizeLine/\Q (.str (i++j)) H):=by
 intro pins s σ H x y v u Q I rx ry h
 obtain ⟨i,j,rfl,rfl,hz,q⟩:=h
 obtain ⟨t,rfl⟩:=rx
 obtain ⟨t',rfl⟩:=ry
 exact add_str (fun t' tk=>⟨.str (i++j),H,I.tok _,⟨_,rfl⟩,q⟩) hz
theorem ib {x:V}{us:List Value} (r:bO [x] us):∃u,us=[u]/\df x u:=by
 cases r with
 | cons r1 r2=>cases r2;exact ⟨_,rfl,r1⟩
theorem ug {x y:V}{us:List Value} (r:bO [x,y] us):∃u w',us=[u,w']/\df x u/\df y w':=by
 cases r with
 | cons r1 r2 =>
  cases r2 with
  | cons r3 r4=>cases r4;exact ⟨_,_,rfl,r1,r3⟩
theorem wW:bK X (.builtin "abs") (fun xs H Q=>∃i,xs=[.int i]/\Q (.int (if i < 0 then -i else i)) H):=by
 intro pins s σ H xs us Q I r h
 obtain ⟨i,rfl,q⟩:=h
 obtain ⟨u,rfl,t,rfl⟩:=ib r
 exact call_abs_int fun u tk=>⟨.int (if i < 0 then -i else i),H,I.tok _,⟨_,rfl⟩,q⟩
theorem uh (hc:X.calm=true):bK X (.builtin "min") (fun xs H Q=>∃i j,xs=[.int i,.int j]/\Q (.int (if j < i then j else i)) H):=by
 intro pins s σ H xs us Q I r h
 obtain ⟨i,j,rfl,q⟩:=h
 obtain ⟨u,w',rfl,⟨t,rfl⟩,⟨t',rfl⟩⟩:=ug r
 refine min_two_ints (I.ok.hd hc) fun h' tk k=>⟨_,H,I.kept k,?_,q⟩
 by_cases hj:j < i
 .rw [if_pos hj,if_pos hj];exact ⟨_,rfl⟩
 .rw [if_neg hj,if_neg hj];exact ⟨_,rfl⟩
end
structure zw (h:Heap) (x dx C:Addr) (mA:Str->Option Value):Prop where
 obj:h.get? x=some (PySem.W.instObj C dx)
 ns:h.Ns1 dx mA
 ne:dx≠x
theorem ui {h:Heap}{dx:Addr}{mA:Str->Option Value} (n:h.Ns1 dx mA):∃od,h.get? dx=some od/\∀name,PySem.W.lookIn name od=some (mA name):=by
 obtain ⟨o,es,ep,ho,hd,hk,_,hm⟩:=n
 refine ⟨o,ho,fun name=>?_⟩
 have e:=hm name
 unfold nsFind findBy at e
 rw [<- Array.find?_toList] at e
 unfold PySem.W.lookIn
 rw [hd]
 dsimp only
 split
 .rename_i y q
  rw [q] at e
  exact congrArg some e
 .rename_i q
  rw [q] at e
  have a:es.toList.any (·.refKey)=false:=by
   rw [List.any_eq_false]
   intro y hy
   obtain ⟨z,t,hkey⟩:=hk y (Array.mem_toList_iff.mp hy)
   simp [DictEntry.refKey,hkey]
  have a':¬ es.toList.any (·.refKey)=true:=by rw [a];exact Bool.false_ne_true
  rw [if_neg a']
  exact congrArg some e
theorem zw.look {h:Heap}{x dx C:Addr}{mA:Str->Option Value} (I:zw h x dx C mA):∃od,PySem.W.InstAt h x (PySem.W.instObj C dx) C (some od)/\∀name,PySem.W.lookIn name od=some (mA name) :=
 let ⟨od,ho,hl⟩:=ui I.ns
 ⟨od,⟨I.obj,rfl,rfl,ho⟩,hl⟩
section
variable {prog:Program}{w:World}{A:Around}{E:Value->Shared->Prop}{s:Shared}{K:PySem.W.Frag}{x dx C f:Addr}{mA:Str->Option Value}{name:Str}{v:Value}
theorem zx {expr:Bool}{Q:Value->Shared->Prop} (X:K.In s.heap) (I:zw s.heap x dx C mA) (hg:PySem.W.plainGet K C name=true) (hh:PySem.W.hasDictIn K C=true)
  (ha:PySem.W.findIn K (.ref C) name=some none) (hv:mA name=some v) (hv':PySem.W.handedIn v=true) (h:Q v { s with toks:=s.toks + 1 }) :
  wpAny (model prog w) A (getAttr (.ref x) name expr) Q E s:=by
 obtain ⟨od,J,hl⟩:=I.look
 exact PySem.W.get_value X J (PySem.W.plainGet_of hg).1 (PySem.W.findObj_own hh ha rfl (by rw [hl,hv])) hv' h
theorem wX {pl:Sem Bool}{Q:Value×List Value->Shared->Prop} (X:K.In s.heap) (I:zw s.heap x dx C mA) (hg:PySem.W.plainGet K C name=true)
  (hf:PySem.W.findIn K (.ref C) name=some (some (.ref f))) (ht:PySem.W.isFn K (.ref f)=true) (hv:mA name=none) (h:Q (.ref f,[.ref x]) s) :
  wpAny (model prog w) A (getMethod (.ref x) name pl) Q E s:=by
 obtain ⟨od,J,hl⟩:=I.look
 exact PySem.W.method_fn X J (PySem.W.plainGet_of hg).1 (PySem.W.plainGet_of hg).2 hf (beq_iff_eq.mp ht) (by show (PySem.W.lookIn name od).map (·.isSome)=some false;rw [hl,hv];rfl) h
theorem zy {ns:List Str}{Q:Unit->Shared->Prop} (X:K.In s.heap) (I:zw s.heap x dx C mA)
  (hs:PySem.W.findIn K (.ref C) "__setattr__"=some (some (.builtin "object.__setattr__"))) (hp:PySem.W.plainOver K C=true) (ht:PySem.W.takerIn K C name=some none) (hh:PySem.W.hasDictIn K C=true)
  (hw:PySem.Within mA ns) (hsz:ns.length<=sizeLine)
  (h:∀h',zw h' x dx C (fun y=>if y=name then some v else mA y)->Heap.SameBut dx s.heap h'->Q () { s with heap:=h',toks:=s.toks + 2 }) :
  wpAny (model prog w) A (setAttr (.ref x) name v) Q E s:=by
 obtain ⟨od,J,hl⟩:=I.look
 refine PySem.W.set_plain X J hs (PySem.W.osa_open (s:={ s with toks:=s.toks + 1 }) (r:=none) X J hp ht fun b=>?_)
 obtain ⟨cd,hc,hd'⟩:=PySem.W.any_some hh
 have hx:s.heap.get? x=some ⟨.ref C,some dx,.plain,#[]⟩:=I.obj
 refine wpAny_bind (wpAny_pure (wpAny_bind (wpAny_bind (wpAny_loadPart hx (wpAny_bind (PySem.W.Looks.here (s:={ s with toks:=s.toks + 1 }) (PySem.W.looks_clsIn X hc) ?_))))))
 rw [hd']
 refine wpAny_pure (a:=some dx) (wpAny_bind (wpAny_pure (wpAny_bind ?_)))
 refine wpAny_nsSet1 (s:={ s with toks:=s.toks + 1 }) I.ns fun h' hn2 hs2=>?_
 obtain ⟨oD,esD,epD,hoD,hdD,hcD⟩:=hn2.count (PySem.Within.cons name v hw)
 refine wpAny_bind (wpAny_lookBehind hoD (by rw [hdD];exact pastItsLine_dict (Nat.le_trans hcD (by rw [List.length_cons];omega))) ?_)
 exact wpAny_pure (h _ ⟨(hs2.2 _ (Ne.symm I.ne)).trans I.obj,hn2,I.ne⟩ hs2)
theorem wY {R:Result->Shared->Prop}{vs:List Value}{kw:List (Str×Value)} (X:K.In s.heap) (hm:PySem.W.makesIn K C=true)
  (hi:PySem.W.findIn K (.ref C) "__init__"=some (some (.ref f))) (hf:PySem.W.typeIn K (.ref f)=some (.type "function"))
  (h:codeAny (model prog w) (A.under (.builtin "type.__call__" ⟨.ref C::vs,kw⟩)) (.call (.ref f) ⟨.ref (s.heap.objs.size + 1)::vs,kw⟩) (PySem.W.InitBack (s.heap.objs.size + 1) R)
   { s with heap:=(s.heap.push PySem.W.emptyDict).push (PySem.W.instObj C s.heap.objs.size) }) :
  codeAny (model prog w) A (.call (.ref C) ⟨vs,kw⟩) R s:=by
 obtain ⟨hh,g,d,t,os⟩:=s
 exact PySem.W.make_core (PySem.W.makes_of X hm) (PySem.W.looks_findIn X hi) (fun self=>PySem.W.bind_fn X self hf) (.inl rfl) h
end
def ma (f:Str) (v:V):List (Str×V)->List (Str×V)
 | []=>[(f,v)]
 | (g,x)::r=>if g=f then (g,v)::r else (g,x)::ma f v r
theorem kg (f g:Str) (v:V):∀fs:List (Str×V),(ma f v fs).lookup g=if g=f then some v else fs.lookup g
 | []=>by
  show List.lookup g [(f,v)]=_
  by_cases h:g=f
  .have hb:(g == f)=true:=beq_iff_eq.mpr h
   simp only [List.lookup,hb,if_pos h]
  .have hb:(g == f)=false:=beq_eq_false_iff_ne.mpr h
   simp only [List.lookup,hb,if_neg h]
 | (k,x)::r=>by
  have ih:=kg f g v r
  rw [show ma f v ((k,x)::r)=(if k=f then (k,v)::r else (k,x)::ma f v r) from rfl]
  by_cases hk:k=f
  .rw [if_pos hk]
   by_cases h:g=k
   .have hb:(g == k)=true:=beq_iff_eq.mpr h
    simp only [List.lookup,hb,if_pos (h.trans hk)]
   .have hb:(g == k)=false:=beq_eq_false_iff_ne.mpr h
    simp only [List.lookup,hb,if_neg (fun e:g=f=>h (e.trans hk.symm))]
  .rw [if_neg hk]
   by_cases h:g=k
   .have hb:(g == k)=true:=beq_iff_eq.mpr h
    simp only [List.lookup,hb,if_neg (fun e:g=f=>hk (h.symm.trans e))]
   .have hb:(g == k)=false:=beq_eq_false_iff_ne.mpr h
    simp only [List.lookup,hb]
    exact ih
theorem kh (f:Str) (v:V):∀fs:List (Str×V),f∈(ma f v fs).map (·.1)/\∀g,g∈fs.map (·.1)->g∈(ma f v fs).map (·.1)
 | []=>⟨by simp [ma],fun g h=>by simp at h⟩
 | (k,x)::r=>by
  obtain ⟨i1,i2⟩:=kh f v r
  rw [show ma f v ((k,x)::r)=(if k=f then (k,v)::r else (k,x)::ma f v r) from rfl]
  by_cases hk:k=f
  .rw [if_pos hk]
   subst hk
   exact ⟨by simp,fun g h=>by simpa using h⟩
  .rw [if_neg hk]
   refine ⟨?_,fun g h=>?_⟩
   .rw [List.map_cons]
    exact List.mem_cons_of_mem _ i1
   .rw [List.map_cons] at h ⊢
    rcases List.mem_cons.mp h with e | e
    .exact List.mem_cons.mpr (.inl e)
    .exact List.mem_cons_of_mem _ (i2 g e)
theorem ki (f:Str) (v:V):∀fs:List (Str×V),(ma f v fs).length<=fs.length + 1
 | []=>by simp [ma]
 | (k,x)::r=>by
  have ih:=ki f v r
  rw [show ma f v ((k,x)::r)=(if k=f then (k,v)::r else (k,x)::ma f v r) from rfl]
  by_cases hk:k=f
  .rw [if_pos hk,List.length_cons,List.length_cons];omega
  .rw [if_neg hk,List.length_cons,List.length_cons];omega
theorem tW.some_of {v:V}{o:Option Value} (r:tW (some v) o):∃u,o=some u/\df v u:=by
 cases o with
 | none=>exact (show False from r).elim
 | some u=>exact ⟨u,rfl,r⟩
theorem tW.none_of {o:Option Value} (r:tW none o):o=none:=by
 cases o with
 | none=>rfl
 | some u=>exact (show False from r).elim
theorem uj {v:V}{u:Value} (r:df v u):PySem.W.handedIn u=true:=by
 cases v with
 | non=>cases (show u=Value.none from r);rfl
 | bl b=>cases (show u=Value.bool b from r);rfl
 | int i=>obtain ⟨t,e⟩:=(show ∃t,u=Value.int i t from r);cases e;rfl
 | str x=>obtain ⟨t,e⟩:=(show ∃t,u=Value.str x t from r);cases e;rfl
 | byt b=>obtain ⟨t,e⟩:=(show ∃t,u=Value.bytes b t from r);cases e;rfl
 | flt b=>obtain ⟨t,e⟩:=(show ∃t,u=Value.float b t from r);cases e;rfl
 | ref a=>cases (show u=Value.ref a from r);rfl
 | ty n=>cases (show u=Value.type n from r);rfl
section
variable {P:Program}{w:World}{H H':Hp}{h h':Heap}{a C dx:Addr}{fs fs':List (Str×V)}
theorem kj (hok:HOk P w H h) (e:H a=some (.ins C dx fs)):∃mA,zw h a dx C mA/\(∀f,tW (fs.lookup f) (mA f))/\PySem.Within mA (fs.map (·.1))/\fs.length<=1000/\H dx=some (.own a):=by
 obtain ⟨d,z,ne,ob,mA,n,r,q⟩:=(show bD P w H h a (.ins C dx fs) from hok a _ e)
 exact ⟨mA,⟨ob,n,ne⟩,r,q,z,d⟩
end
structure Cls (K:PySem.W.Frag) (C:Addr):Prop where
 pg:PySem.W.plainGet K C Str.empty=true
 hd:PySem.W.hasDictIn K C=true
 po:PySem.W.plainOver K C=true
 sa:PySem.W.findIn K (.ref C) "__setattr__"=some (some (.builtin "object.__setattr__"))
theorem Cls.get {K:PySem.W.Frag}{C:Addr} (c:Cls K C) (f:Str):PySem.W.plainGet K C f=true:=c.pg
def eV (K:PySem.W.Frag) (C:Addr) (f:Str):Prop:=PySem.W.findIn K (.ref C) f=some none
theorem eV.taker {K:PySem.W.Frag}{C:Addr}{f:Str} (n:eV K C f):PySem.W.takerIn K C f=some none:=by
 unfold PySem.W.takerIn
 rw [show PySem.W.findIn K (.ref C) f=some none from n]
 rfl
structure Di (K:PySem.W.Frag) (C:Addr) (m:Str) (f:Addr):Prop where
 at_:PySem.W.findIn K (.ref C) m=some (some (.ref f))
 fn:PySem.W.isFn K (.ref f)=true
 kp:PySem.W.keepIn K (.ref f)=true
section
variable {X:Cx}{pins:List (Addr×Obj)}{σ:St}{H:Hp}{s:Shared}{a C dx:Addr}{fs:List (Str×V)}{f:Str}{v:V}{A:Around}{E:Value->Shared->Prop}
theorem sP {b:Bool}{Q:Value->Shared->Prop} (I:Inv X pins σ H s) (e:H a=some (.ins C dx fs)) (c:Cls X.K C) (n:eV X.K C f) (l:fs.lookup f=some v)
  (h:∀u s',Inv X pins σ H s'->df v u->Q u s'):wpAny (model X.prog X.w) A (getAttr (.ref a) f b) Q E s:=by
 obtain ⟨mA,O,r,_,_,_⟩:=kj I.hok e
 obtain ⟨u,hu,ru⟩:=tW.some_of (v:=v) (o:=mA f) (by rw [<- l];exact r f)
 exact zx I.kIn O (c.get f) c.hd n hu (uj ru) (h u _ (I.tok _) ru)
theorem sQ {m:Str}{g:Addr}{pl:Sem Bool}{Q:Value×List Value->Shared->Prop} (I:Inv X pins σ H s) (e:H a=some (.ins C dx fs)) (c:Cls X.K C) (k:Di X.K C m g) (l:fs.lookup m=none)
  (h:Q (.ref g,[.ref a]) s):wpAny (model X.prog X.w) A (getMethod (.ref a) m pl) Q E s:=by
 obtain ⟨mA,O,r,_,_,_⟩:=kj I.hok e
 have hn:mA m=none:=tW.none_of (by rw [<- l];exact r m)
 exact wX I.kIn O (c.get m) k.at_ k.fn hn h
theorem sR {y:V}{u:Value}{Q:Unit->Shared->Prop} (I:Inv X pins σ H s) (e:H a=some (.ins C dx fs)) (c:Cls X.K C) (n:eV X.K C f) (hl:fs.length < 1000) (ry:df y u)
  (h:∀s',Inv X pins σ (upd H a (.ins C dx (ma f y fs))) s'->Q () s'):wpAny (model X.prog X.w) A (setAttr (.ref a) f u) Q E s:=by
 obtain ⟨mA,O,r,wi,_,ho⟩:=kj I.hok e
 have hz:(fs.map (·.1)).length<=sizeLine:=by rw [List.length_map,sizeLine_eq];omega
 refine zy I.kIn O c.sa c.po n.taker c.hd wi hz fun h' O' sb=>h _ ?_
 have hd:∃o,h'.get? dx=some o:=let ⟨o,_,_,e',_⟩:=O'.ns;⟨o,e'⟩
 refine I.write (x:=a) (e:=dx) (by rw [e];exact True.intro) (.inr ho) (fun b q hb z=>(sb.2 b hb).trans z) hd ?_
 refine ⟨by rw [ax O.ne];exact ho,?_,O.ne,O'.obj,_,O'.ns,fun g=>?_,fun g hg=>?_⟩
 .have:=ki f y fs;omega
 .show tW ((ma f y fs).lookup g) (if g=f then some u else mA g)
  rw [kg]
  by_cases q:g=f
  .rw [if_pos q,if_pos q];exact ry
  .rw [if_neg q,if_neg q];exact r g
 .by_cases q:g=f
  .rw [q];exact (kh f y fs).1
  .refine (kh f y fs).2 g (wi g fun z=>hg ?_)
   show (if g=f then some u else mA g)=none
   rw [if_neg q];exact z
theorem Inv.made (I:Inv X pins σ H s):Inv X pins σ (upd (upd H s.heap.objs.size (.own (s.heap.objs.size + 1))) (s.heap.objs.size + 1) (.ins C s.heap.objs.size []))
  { s with heap:=(s.heap.push PySem.W.emptyDict).push (PySem.W.instObj C s.heap.objs.size) }:=by
 have e1:(s.heap.push PySem.W.emptyDict).get? s.heap.objs.size=some PySem.W.emptyDict:=Heap.get?_push_size s.heap rfl
 have e2:((s.heap.push PySem.W.emptyDict).push (PySem.W.instObj C s.heap.objs.size)).get? (s.heap.objs.size + 1)=some (PySem.W.instObj C s.heap.objs.size):=by
  have:=Heap.get?_push_size (s.heap.push PySem.W.emptyDict) (o:=PySem.W.instObj C s.heap.objs.size) rfl
  rwa [Heap.size_push] at this
 have e3:(s.heap.push PySem.W.emptyDict).Ns s.heap.objs.size (fun _=>none):=⟨PySem.W.emptyDict,#[],_,e1,rfl,(fun e he=>absurd he (by simp)),fun _=>rfl⟩
 have I1:=I.laid (a:=s.heap.objs.size) (o:=.own (s.heap.objs.size + 1)) (h':=s.heap.push PySem.W.emptyDict) (t':=s.toks) (fun b u q=>Heap.get?_push_of_some _ q) (Nat.le_refl _) ⟨_,e1⟩
 refine I1.laid (a:=s.heap.objs.size + 1) (o:=.ins C s.heap.objs.size []) (t':=s.toks) (fun b u q=>Heap.get?_push_of_some _ q) (Nat.le_of_eq (Heap.size_push _ _)) ?_
 have ne:s.heap.objs.size≠s.heap.objs.size + 1:=Nat.ne_of_lt (Nat.lt_succ_self _)
 refine ⟨by rw [ax ne,aF],Nat.zero_le _,ne,e2,fun _=>none,(Heap.Ns1.of_empty e3).at fun o q=>Heap.get?_push_of_some _ q,fun _=>True.intro,fun y hy=>absurd rfl hy⟩
theorem zA {prog:Program}{w:World}{env:Env}{e:Expr}{f:Str}{pos:Pos}{s:Shared}{Q:Value->Shared->Prop} (hb:attributeBase e f env (eval e env)=eval e env)
  (h:wpAny (model prog w) A (eval e env) (fun o s₁=>wpAny (model prog w) A (getAttr o f true) Q E s₁) E s):wpAny (model prog w) A (eval (.Attribute e f pos) env) Q E s :=
 Attribute_any_ h (by rw [arm_eval_Attribute,hb])
end
def uk (K:PySem.W.Frag) (ta:TE) (f:Str):TE:=fun σ H Q=>ta σ H fun x H1=>∃a C dx fs v,x=.ref a/\H1 a=some (.ins C dx fs)/\Cls K C/\eV K C f/\fs.lookup f=some v/\Q v H1
def ET (K:PySem.W.Frag) (ta tv:TE) (f:Str):TS:=fun D σ H=>tv σ H fun y H1=>ta σ H1 fun x H2=>∃a C dx fs,x=.ref a/\H2 a=some (.ins C dx fs)/\Cls K C/\eV K C f/\fs.length < 1000 /\
 D.nx σ (upd H2 a (.ins C dx (ma f y fs)))
section
variable {X:Cx}{o e value:Expr}{f:Str}{pos pos' tpos:Pos}{ta tv:TE}
theorem BH (he:PE X e ta) (hb:attributeBase e f X.env (eval e X.env)=eval e X.env):PE X (.Attribute e f pos) (uk X.K ta f):=by
 intro pins s σ H Q I h
 refine zA hb (thn (he pins s σ H _ I h) fun u s1 ⟨x,H1,I1,rx,a,C,dx,fs,v,ex,ea,c,n,l,q⟩=>?_)
 subst ex
 obtain rfl:u=Value.ref a:=rx
 exact sP I1 ea c n l fun u' s2 I2 ru=>⟨v,H1,I2,ru,q⟩
theorem md (ha:PE X o ta) (hv:PE X value tv) (hs:swapsWith value (some (.Attribute o f pos')) pos.line X.env=pure false):PS X (.Assign [.Attribute o f pos'] value pos) (ET X.K ta tv f):=by
 intro pins s σ H D I h
 refine plainObj_wpAny_Assign_Attribute (thn (hv pins s σ H _ I h) fun u s1 ⟨y,H1,I1,ry,q⟩=>thn (ha pins s1 σ H1 _ I1 q) fun ov s2 ⟨x,H2,I2,rx,a,C,dx,fs,ex,ea,c,n,l,q2⟩=>?_) hs
 subst ex
 obtain rfl:ov=Value.ref a:=rx
 exact sR I2 ea c n l ry fun s3 I3=>⟨σ,_,I3,q2⟩
end
section
variable {X:Cx}{pins:List (Addr×Obj)}{σ:St}{H:Hp}{s:Shared}{A:Around}{E:Value->Shared->Prop}{Q:Value->Shared->Prop}{c:Value}{b:Bool}
inductive oy (K:PySem.W.Frag) (H:Hp):V->Value->Prop where
 | non:oy K H .non (.type "NoneType")
 | bl (x:Bool):oy K H (.bl x) (.type "bool")
 | int (i:Int):oy K H (.int i) (.type "int")
 | str (x:Str):oy K H (.str x) (.type "str")
 | flt (x:UInt64):oy K H (.flt x) (.type "float")
 | lst {a:Addr}{xs:List V} (e:H a=some (.lst xs)):oy K H (.ref a) (.type "list")
 | frz {a:Addr}{o:Obj}{xs:List V} (e:H a=some (.frz o (.lst xs))):oy K H (.ref a) (.type "list")
 | tup {a:Addr}{xs:List V} (e:H a=some (.tup xs)):oy K H (.ref a) (.type "tuple")
 | dK {a:Addr}{kvs:List (Key×V)} (e:H a=some (.dK kvs)):oy K H (.ref a) (.type "dict")
 | dT {a:Addr}{kvs:List (List Key×V)} (e:H a=some (.dT kvs)):oy K H (.ref a) (.type "dict")
 | ins {a C dx:Addr}{fs:List (Str×V)} (e:H a=some (.ins C dx fs)) (cl:Cls K C) (ha:PySem.W.findIn K (.ref C) "__class__"=some (some (.builtin "object.__class__")))
   (hn:PySem.W.specialIn K (.builtin "object.__class__") "__get__"=some (some (.builtin "getset_descriptor.__get__"))) (htk:PySem.W.takesIn K (.builtin "object.__class__")=some true)
   (hm:PySem.W.mroIn K C (.type "object")=some true):oy K H (.ref a) (.ref C)
theorem ul {x:V}{u t:Value} (I:Inv X pins σ H s) (rx:df x u) (ty:oy X.K H x t) (e:PySem.W.kitOne X.K t c=some b) (h:∀tk,Q (.bool b) { s with toks:=tk }) :
  wpAny (model X.prog X.w) A (call (.builtin "isinstance") [u,c]) Q E s:=by
 cases ty with
 | non=>cases (show u=Value.none from rx);exact PySem.W.kia_one PySem.W.kitx_none I.kIn True.intro e (fun z=>nomatch z) h
 | bl y=>cases (show u=Value.bool y from rx);exact PySem.W.kia_one PySem.W.kitx_bool I.kIn True.intro e (fun z=>nomatch z) h
 | int i=>obtain ⟨t,q⟩:=(show ∃t,u=Value.int i t from rx);cases q;exact PySem.W.kia_one PySem.W.kitx_int I.kIn True.intro e (fun z=>nomatch z) h
 | str y=>obtain ⟨t,q⟩:=(show ∃t,u=Value.str y t from rx);cases q;exact PySem.W.kia_one PySem.W.kitx_str I.kIn True.intro e (fun z=>nomatch z) h
 | flt y=>obtain ⟨t,q⟩:=(show ∃t,u=Value.float y t from rx);cases q;exact PySem.W.kia_one PySem.W.kitx_float I.kIn True.intro e (fun z=>nomatch z) h
 | @lst a xs ea =>
  cases (show u=Value.ref a from rx)
  obtain ⟨_,_,n,_,h1⟩:=(show bD X.prog X.w H s.heap a (.lst xs) from I.hok a _ ea)
  exact PySem.W.kia_one PySem.W.kitx_list I.kIn ⟨_,h1,rfl⟩ e (fun z=>nomatch z) h
 | @frz a ob xs ea =>
  cases (show u=Value.ref a from rx)
  obtain ⟨_,_,_,n,_,h1⟩:=(show bD X.prog X.w H s.heap a (.frz ob (.lst xs)) from I.hok a _ ea)
  exact PySem.W.kia_one PySem.W.kitx_list I.kIn ⟨_,h1,rfl⟩ e (fun z=>nomatch z) h
 | @tup a xs ea =>
  cases (show u=Value.ref a from rx)
  obtain ⟨_,_,_,p⟩:=(show bD X.prog X.w H s.heap a (.tup xs) from I.hok a _ ea)
  obtain ⟨o,h1,h2,_⟩:=p
  exact PySem.W.kia_one PySem.W.kitx_tuple I.kIn ⟨o,h1,h2⟩ e (fun z=>nomatch z) h
 | @dK a kvs ea =>
  cases (show u=Value.ref a from rx)
  obtain ⟨_,_,vs,_,p⟩:=(show bD X.prog X.w H s.heap a (.dK kvs) from I.hok a _ ea)
  obtain ⟨o,es,ep,h1,h2,_⟩:=p
  exact PySem.W.kia_one PySem.W.kitx_dict I.kIn ⟨o,h1,h2.1⟩ e (fun z=>nomatch z) h
 | @dT a kvs ea =>
  cases (show u=Value.ref a from rx)
  obtain ⟨_,_,xs,_,o,es,ep,h1,h2,_⟩:=(show bD X.prog X.w H s.heap a (.dT kvs) from I.hok a _ ea)
  exact PySem.W.kia_one PySem.W.kitx_dict I.kIn ⟨o,h1,h2.1⟩ e (fun z=>nomatch z) h
 | @ins a C dx fs ea cl ha hn htk hm =>
  cases (show u=Value.ref a from rx)
  obtain ⟨mA,O,_⟩:=kj I.hok ea
  obtain ⟨od,J,_⟩:=O.look
  exact PySem.W.kia_one (PySem.W.kitx_own (cl.get _) cl.hd ha hn htk hm) I.kIn J e (fun z=>nomatch z) h
end
structure gj (k:Nat) (A:Around):Prop where
 hd:A.handled=none
 dp:A.depth + 3 * k + 5 < recursionLimit
 un:A.units + 16 * k + 200 < cLine
theorem gj.mono {j k:Nat}{A:Around} (r:gj k A) (h:j<=k):gj j A:=⟨r.hd,by have:=r.dp;omega,by have:=r.un;omega⟩
theorem gj.deeper {k:Nat}{A:Around} (r:gj (k + 1) A) (env:Env):gj k (A.deeper env) :=
 ⟨r.hd,by have:=r.dp;show A.depth + 1 + 3 * k + 5 < _;omega,by have:=r.un;show A.units + 3 + 16 * k + 200 < _;omega⟩
theorem sS {A:Around}{C:Addr}{us:List Value}{kw:List (Str×Value)}:(A.under (.builtin "type.__call__" ⟨.ref C::us,kw⟩)).depth=A.depth + 1:=by
 first | rfl | simp [Around.under,Code.weight,Code.isCreation,Code.isGuard,Code.isCaller,Code.frames,Code.isFrame,guardIds]
theorem sU {A:Around}{C:Addr}{us:List Value}{kw:List (Str×Value)}:(A.under (.builtin "type.__call__" ⟨.ref C::us,kw⟩)).units=A.units + 1:=by
 first | rfl | simp [Around.under,Code.cUnits,Code.frames,Code.isFrame]
theorem gj.make {k:Nat}{A:Around} (r:gj (k + 1) A) (C:Addr) (us:List Value) (kw:List (Str×Value)):gj k (A.under (.builtin "type.__call__" ⟨.ref C::us,kw⟩)) :=
 ⟨r.hd,by have:=r.dp;rw [sS];omega,by have:=r.un;rw [sU];omega⟩
theorem gj.depth {k:Nat}{A:Around} (r:gj k A):A.depth < recursionLimit:=by have:=r.dp;omega
theorem gj.units {k:Nat}{A:Around} (r:gj k A):A.units + 64 < cLine:=by have:=r.un;omega
def i4:TA:=fun _ H Q=>Q [] H
def bV (ta:TE) (tr:TA):TA:=fun σ H Q=>ta σ H fun x H1=>tr σ H1 fun xs H2=>Q (x::xs) H2
section
variable {X:Cx}{e:Expr}{es:List Expr}{te:TE}{t:TA}{pos:Pos}
theorem ag:PA X [] i4:=fun _ _ _ _ H Q I h=>Calls.spliced_nil ⟨[],H,I,.nil,h⟩
theorem zB (ha:PE X e te) (hr:PA X es t) (hs:starEach (e::es) X.env=(false,eval e X.env)::starEach es X.env:=by rfl):PA X (e::es) (bV te t):=by
 intro pos pins s σ H Q I h
 rw [hs]
 show wpAny _ _ (spliced ((false,eval e X.env)::backTo pos (starEach es X.env))) _ _ s
 refine Calls.spliced_cons (thn (ha pins s σ H _ I h) fun u s1 ⟨x,H1,I1,r1,q1⟩=>?_)
 exact thn (hr pos pins s1 σ H1 _ I1 q1) fun us s2 ⟨xs,H2,I2,r2,q2⟩=>⟨x::xs,H2,I2,.cons r1 r2,q2⟩
def DK (t:TA):TE:=fun σ H Q=>t σ H fun xs H1=>xs.length<=sizeLine/\∀p,H1 p=none->Q (.ref p) (upd H1 p (.tup xs))
def EU (t:TA):TE:=fun σ H Q=>t σ H fun xs H1=>xs.length<=sizeLine/\∀p,H1 p=none->Q (.ref p) (upd H1 p (.lst xs))
theorem oJ {x1} (h:PA X es t):PE X (.Tuple es x1 pos) (DK t):=by
 intro pins s σ H Q I hq
 refine wpAny_Tuple_spliced (thn (h pos pins s σ H _ I hq) fun us s1 ⟨xs,H1,I1,r,z,q⟩=>⟨by rw [<- r.length];exact z,?_⟩)
 have hf:H1 s1.heap.objs.size=none:=I1.hok.fresh (Nat.le_refl _)
 refine ⟨.ref s1.heap.objs.size,upd H1 s1.heap.objs.size (.tup xs),I1.laid (t':=s1.toks) (fun b u e=>Heap.get?_push_of_some _ e) (Nat.le_refl _) ?_,rfl,q _ hf⟩
 exact ⟨z,us,r,⟨_,Heap.get?_push_size _ rfl,rfl,_,rfl⟩⟩
theorem eh (h:PA X es t):PE X (.List es pos) (EU t):=by
 intro pins s σ H Q I hq
 refine wpAny_List_spliced (thn (h pos pins s σ H _ I hq) fun us s1 ⟨xs,H1,I1,r,z,q⟩=>⟨by rw [<- r.length];exact z,?_⟩)
 have hf:H1 s1.heap.objs.size=none:=I1.hok.fresh (Nat.le_refl _)
 refine ⟨.ref s1.heap.objs.size,upd H1 s1.heap.objs.size (.lst xs),I1.laid (t':=s1.toks) (fun b u e=>Heap.get?_push_of_some _ e) (Nat.le_refl _) ?_,rfl,q _ hf⟩
 exact ⟨z,us,0,r,Heap.get?_push_size _ rfl⟩
end
abbrev Sp:=List V->Hp->VK->XK->Prop
abbrev CXT:=List Env->Hp->Shared->XK->Value->Shared->Prop
structure zC (P:Program) (w:World) (K:PySem.W.Frag) (mg:Str->Option Value) (base:Heap) (A:Around) (outer:List Env) (s:Shared) (H:Hp):Prop where
 frames:A.frames=some outer
 mod:Mod K mg base
 bs:∀b o,base.get? b=some o->s.heap.get? b=some o/\H b=none
 bsz:base.objs.size<=s.heap.objs.size
 funs:s.heap.FunFrames base outer
 frf:∀b∈frs outer,H b=none
 hok:HOk P w H s.heap
 bare:AllBare s.gens
def CE (outer:List Env) (P:Program) (w:World) (H:Hp) (s:Shared) (Q:VK) (u:Value) (s':Shared):Prop :=
 ∃v H',s'.os=s.os/\AllBare s'.gens/\Un (frs outer) [] H H' s.heap s'.heap/\HOk P w H' s'.heap/\df v u/\Q v H'
def CR (CX:CXT) (outer:List Env) (P:Program) (w:World) (H:Hp) (s:Shared) (Q:VK) (E:XK) (r:Result) (s':Shared):Prop :=
 match r with
 | .ok (.ret u)=>CE outer P w H s Q u s'
 | .ok _=>False
 | .error e=>CX outer H s E e s'
structure lH (P:Program) (w:World) (K:PySem.W.Frag) (mg:Str->Option Value) (base:Heap) (CX:CXT) (k:Nat) (f:Addr) (fd:FuncData) (ps:List Str) (sp:Sp):Prop where
 len:∀vs H Q E,sp vs H Q E->vs.length=ps.length
 run:∀(A:Around) (outer:List Env) (s:Shared) (H:Hp) (args:Args) (us:List Value) (vs:List V) (Q:VK) (E:XK),gj k A->zC P w K mg base A outer s H->BindsTo s fd args (ps.zip us)->bO vs us->sp vs H Q E ->
  codeAny (model P w) A (.call (.ref f) args) (CR CX outer P w H s Q E) s
theorem lH.imp {P:Program}{w:World}{K:PySem.W.Frag}{mg:Str->Option Value}{base:Heap}{CX:CXT}{k:Nat}{f:Addr}{fd:FuncData}{ps:List Str}{sp sp':Sp} (F:lH P w K mg base CX k f fd ps sp)
  (h:∀vs H Q E,sp' vs H Q E->sp vs H Q E):lH P w K mg base CX k f fd ps sp' :=
 ⟨fun vs H Q E q=>F.len vs H Q E (h _ _ _ _ q),fun A outer s H args us vs Q E hr he hb hv hs=>F.run A outer s H args us vs Q E hr he hb hv (h _ _ _ _ hs)⟩
theorem zC.make {P:Program}{w:World}{K:PySem.W.Frag}{mg:Str->Option Value}{base:Heap}{A:Around}{outer:List Env}{s:Shared}{H:Hp} (e:zC P w K mg base A outer s H) (C:Addr) (us:List Value) (kw:List (Str×Value)) :
  zC P w K mg base (A.under (.builtin "type.__call__" ⟨.ref C::us,kw⟩)) outer s H:=⟨by first | exact e.frames | (simpa [Around.under,Code.envs,Code.isFrame,pushEnvs] using e.frames),e.mod,e.bs,e.bsz,e.funs,e.frf,e.hok,e.bare⟩
section
variable {X:Cx}{pins:List (Addr×Obj)}{σ:St}{H:Hp}{s s':Shared}
theorem Inv.env0 (I:Inv X pins σ H s):zC X.prog X.w X.K X.mg X.base X.A X.stack s H :=
 ⟨I.ok.frames,I.ok.mod,I.bs,Nat.le_trans I.ok.bsz I.sz,I.stack,I.stkFree,I.hok,I.bare⟩
theorem Inv.after {Q:VK}{u:Value} (I:Inv X pins σ H s) (h:CE X.stack X.prog X.w H s Q u s'):EP X pins σ Q u s':=by
 obtain ⟨v,H',os,bare,un,hok,r,q⟩:=h
 obtain ⟨hh,g,d,t,os'⟩:=s'
 obtain rfl:os'=s.os:=os
 exact ⟨v,H',I.call (h':=hh) (g':=g) (d':=d) (t':=t) (ch:=[]) un hok bare (fun b z=>absurd z (by simp)),r,q⟩
end
def iJ (sp:Sp) (dvs:List V) (E:XK) (t:TA):TE:=fun σ H Q=>t σ H fun vs H1=>sp (vs++dvs) H1 Q E
def zD (C:Addr) (m:Str) (sp:Sp) (dvs:List V) (E:XK) (ta:TE) (t:TA):TE:=fun σ H Q=>ta σ H fun x H1=>∃a dx fs,x=.ref a/\H1 a=some (.ins C dx fs)/\fs.lookup m=none /\
 t σ H1 fun vs H2=>sp (x::(vs++dvs)) H2 Q E
def wZ (C:Addr) (sp:Sp) (dvs:List V) (E:XK) (t:TA):TE:=fun σ H Q=>t σ H fun vs H1=>∀x dx,H1 x=none->H1 dx=none->dx≠x ->
 sp (.ref x::(vs++dvs)) (upd (upd H1 dx (.own x)) x (.ins C dx [])) (fun v H2=>v=.non/\Q (.ref x) H2) E
def i5 (K:PySem.W.Frag) (fd:FuncData) (ps:List Str) (ds:List Value):Prop :=
 ∀(s:Shared) (us:List Value),K.In s.heap->(us++ds).length=ps.length->BindsTo s fd ⟨us,[]⟩ (ps.zip (us++ds))
theorem i5.all {K:PySem.W.Frag}{fd:FuncData}{ps:List Str} (h:∀us:List Value,us.length=ps.length->bindArgs fd ⟨us,[]⟩=pure (ps.zip us)):i5 K fd ps []:=fun s us _ hl=>by
 rw [List.append_nil] at hl ⊢
 exact .of_eq (h us hl)
def me (CX:CXT) (X:Cx) (E:XK):Prop:=∀(pins:List (Addr×Obj)) (σ:St) (H:Hp) (s:Shared) (e:Value) (s':Shared),Inv X pins σ H s->CX X.stack H s E e s'->X.xe e s'
section
variable {X:Cx}{CX:CXT}{k:Nat}{f C:Addr}{fd:FuncData}{ps:List Str}{sp:Sp}{dvs:List V}{ds:List Value}{E:XK}{x m:Str}{p pos apos:Pos}{e o:Expr}{es:List Expr}{ta:TE}{t:TA}
theorem yB {pins:List (Addr×Obj)}{σ:St}{H:Hp}{s:Shared}{Q:VK}{us:List Value}{vs:List V} (F:lH X.prog X.w X.K X.mg X.base CX k f fd ps sp) (hr:gj k X.A) (hb:i5 X.K fd ps ds) (hd:bO dvs ds) (hx:me CX X E)
  (I:Inv X pins σ H s) (r:bO vs us) (h:sp (vs++dvs) H Q E):wpAny (model X.prog X.w) X.A (call (.ref f) us) (EP X pins σ Q) X.xe s:=by
 have r2:bO (vs++dvs) (us++ds):=r.append hd
 have hl:(us++ds).length=ps.length:=by rw [<- r2.length];exact F.len _ _ _ _ h
 refine wpAny_call (codeAny_mono (F.run X.A X.stack s H ⟨us,[]⟩ (us++ds) (vs++dvs) Q E hr I.env0 (hb s us I.kIn hl) r2 h) fun r s' hq=>?_)
 cases r with
 | error e=>exact hx pins σ H s e s' I hq
 | ok fl =>
  cases fl with
  | ret u=>exact I.after hq
  | next=>exact False.elim hq
  | brk=>exact False.elim hq
  | cont=>exact False.elim hq
theorem um (F:lH X.prog X.w X.K X.mg X.base CX k f fd ps sp) (hr:gj k X.A) (hg:Gl X x) (hm:X.mg x=some (.ref f)) (hk:PySem.W.keepIn X.K (.ref f)=true) (hb:i5 X.K fd ps ds) (hd:bO dvs ds) (hx:me CX X E)
  (ha:PA X (e::es) t) (hdb:(x == ("__debug__":Str))=false:=by decide) (he:starEach (e::es) X.env=(false,eval e X.env)::starEach es X.env:=by rfl) (hpl:(backTo pos (starEach es X.env)).any (·.1)=false:=by rfl) :
  PE X (.Call (.Name x p) (e::es) [] pos) (iJ sp dvs E t):=by
 intro pins s σ H Q I h
 refine wpAny_Call_Name_kw (gw I hg hm ?_ hdb)
 refine PySem.W.callWith_K (h₀:=X.base) I.ok.mod.kin hk (thn (ha pos pins s σ H _ I h) fun us s1 ⟨vs,H1,I1,r,q⟩=>⟨I1.kIn,?_⟩) he hpl
 exact yB F hr hb hd hx I1 r q
theorem w4 {pl:Sem Bool} (he:PE X o ta) (c:Cls X.K C) (hm:Di X.K C m f) (F:lH X.prog X.w X.K X.mg X.base CX k f fd ps sp) (hr:gj k X.A) (hb:i5 X.K fd ps ds) (hd:bO dvs ds) (hx:me CX X E)
  (ht:eval (.Call (.Attribute o m apos) [] [] pos) X.env=(do
   let ov <- eval o X.env
   standAt apos.atName
   let (f,first) <- holding [ov] (getMethod ov m pl)
   callWith pos f first (backTo pos (starEach [] X.env)) (backToKw pos (keywordEach [] X.env))):=by rfl) :
  PE X (.Call (.Attribute o m apos) [] [] pos) (zD C m sp dvs E ta i4):=by
 intro pins s σ H Q I h
 refine PySem.W.methodCall_KW (pl:=pl) (thn (he pins s σ H _ I h) fun u s1 ⟨x,H1,I1,rx,a,dx,fs,ex,ea,l,q⟩=>?_) ht
 subst ex
 obtain rfl:u=Value.ref a:=rx
 refine sQ I1 ea c hm l ?_
 exact PySem.W.callWith_K0 (first:=[.ref a]) I1.kIn hm.kp (yB (us:=[.ref a]) (vs:=[.ref a]) F hr hb hd hx I1 (.cons rfl .nil) q)
structure Mk (K:PySem.W.Frag) (C f:Addr):Prop where
 makes:PySem.W.makesIn K C=true
 init:PySem.W.findIn K (.ref C) "__init__"=some (some (.ref f))
 fn:PySem.W.isFn K (.ref f)=true
 kp:PySem.W.keepIn K (.ref C)=true
theorem w6 {pins:List (Addr×Obj)}{σ:St}{H:Hp}{s:Shared}{Q:VK}{us:List Value}{vs:List V} (M:Mk X.K C f) (F:lH X.prog X.w X.K X.mg X.base CX k f fd ps sp) (hr:gj (k + 1) X.A) (hb:i5 X.K fd ps ds) (hd:bO dvs ds)
  (hx:me CX X E) (I:Inv X pins σ H s) (r:bO vs us)
  (h:∀x dx,H x=none->H dx=none->dx≠x->sp (.ref x::(vs++dvs)) (upd (upd H dx (.own x)) x (.ins C dx [])) (fun v H2=>v=.non/\Q (.ref x) H2) E) :
  wpAny (model X.prog X.w) X.A (call (.ref C) us) (EP X pins σ Q) X.xe s:=by
 have hq:=h (s.heap.objs.size + 1) s.heap.objs.size (I.hok.fresh (Nat.le_succ _)) (I.hok.fresh (Nat.le_refl _)) (Nat.ne_of_lt (Nat.lt_succ_self _))
 have I2:=Inv.made (C:=C) I
 have r2:bO (V.ref (s.heap.objs.size + 1)::(vs++dvs)) (Value.ref (s.heap.objs.size + 1)::(us++ds)):=.cons rfl (r.append hd)
 have hl:(Value.ref (s.heap.objs.size + 1)::us++ds).length=ps.length:=by
  have e:=r2.length
  rw [F.len _ _ _ _ hq] at e
  exact e.symm
 refine wpAny_call (wY (f:=f) I.kIn M.makes M.init (beq_iff_eq.mp M.fn) (codeAny_mono (F.run _ X.stack _ _ ⟨Value.ref (s.heap.objs.size + 1)::us,[]⟩ (Value.ref (s.heap.objs.size + 1)::(us++ds)) _ _ E (hr.make C us [])
  (I2.env0.make C us []) (hb _ (Value.ref (s.heap.objs.size + 1)::us) I2.kIn hl) r2 hq) fun r s' hq'=>?_))
 cases r with
 | error e=>exact hx pins σ _ _ e s' I2 hq'
 | ok fl =>
  cases fl with
  | ret u =>
   obtain ⟨v,H',I3,rv,ev,q3⟩:=I2.after hq'
   subst ev
   exact ⟨rv,⟨V.ref (s.heap.objs.size + 1),H',I3,rfl,q3⟩⟩
  | next=>exact False.elim hq'
  | brk=>exact False.elim hq'
  | cont=>exact False.elim hq'
theorem zE (M:Mk X.K C f) (F:lH X.prog X.w X.K X.mg X.base CX k f fd ps sp) (hr:gj (k + 1) X.A) (hg:Gl X x) (hm:X.mg x=some (.ref C)) (hb:i5 X.K fd ps ds) (hd:bO dvs ds) (hx:me CX X E)
  (ha:PA X (e::es) t) (hdb:(x == ("__debug__":Str))=false:=by decide) (he:starEach (e::es) X.env=(false,eval e X.env)::starEach es X.env:=by rfl) (hpl:(backTo pos (starEach es X.env)).any (·.1)=false:=by rfl) :
  PE X (.Call (.Name x p) (e::es) [] pos) (wZ C sp dvs E t):=by
 intro pins s σ H Q I h
 refine wpAny_Call_Name_kw (gw I hg hm ?_ hdb)
 refine PySem.W.callWith_K (h₀:=X.base) I.ok.mod.kin M.kp (thn (ha pos pins s σ H _ I h) fun us s1 ⟨vs,H1,I1,r,q⟩=>⟨I1.kIn,?_⟩) he hpl
 exact w6 M F hr hb hd hx I1 r q
end
structure aK (N P:List Str) (sc:Scope):Prop where
 kind:sc.kind=.function
 co:sc.isCoroutine=false
 gen:sc.isGenerator=false
 nd:N.Nodup
 pre:N.take P.length=P
 par:∀x∈P,sc.names.lookup x=some .local\/sc.names.lookup x=some .cell
 nofree:∀y∈sc.names,y.2≠.free
theorem oK {kindOf:Str->Option NameKind}{x:Str}:∀{binds:List (Str×Value)}{m:Str->Option Value},(∀v,(x,v)∉binds)->bindL kindOf binds m x=m x
 | [],_,_=>rfl
 | (n,v)::r,m,h=>by
  unfold bindL
  rw [oK fun w hw=>h w (List.mem_cons_of_mem _ hw)]
  split
  .have:x≠n:=by rintro rfl;exact h v List.mem_cons_self
   simp [this]
  .rfl
theorem oM {kindOf:Str->Option NameKind}{x:Str}:∀{binds:List (Str×Value)}{m:Str->Option Value},(∀v,(x,v)∉binds)->bindC kindOf binds m x=m x
 | [],_,_=>rfl
 | (n,v)::r,m,h=>by
  unfold bindC
  rw [oM fun w hw=>h w (List.mem_cons_of_mem _ hw)]
  split
  .rfl
  .have:x≠n:=by rintro rfl;exact h v List.mem_cons_self
   simp [this]
theorem oN {kindOf:Str->Option NameKind}{x:Str}{v:Value}:∀{P:List Str}{vs:List Value}{i:Nat}{m:Str->Option Value},P.Nodup->P[i]?=some x->vs[i]?=some v->kindOf x=some .local ->
  bindL kindOf (P.zip vs) m x=some v
 | [],_,_,_,_,h,_,_=>by simp at h
 | _::_,[],_,_,_,_,h,_=>by simp at h
 | p::P,w::vs,0,m,nd,h1,h2,hk=>by
  simp at h1 h2;subst h1;subst h2
  show bindL kindOf ((p,w)::P.zip vs) m p=_
  unfold bindL
  rw [oK fun v hv=>(List.nodup_cons.mp nd).1 (List.of_mem_zip hv).1,if_pos hk]
  simp
 | p::P,w::vs,i + 1,m,nd,h1,h2,hk=>by
  show bindL kindOf ((p,w)::P.zip vs) m x=_
  unfold bindL
  exact oN (i:=i) (List.nodup_cons.mp nd).2 (by simpa using h1) (by simpa using h2) hk
theorem oO {kindOf:Str->Option NameKind}{x:Str}{v:Value}:∀{P:List Str}{vs:List Value}{i:Nat}{m:Str->Option Value},P.Nodup->P[i]?=some x->vs[i]?=some v->kindOf x≠some .local ->
  bindC kindOf (P.zip vs) m x=some v
 | [],_,_,_,_,h,_,_=>by simp at h
 | _::_,[],_,_,_,_,h,_=>by simp at h
 | p::P,w::vs,0,m,nd,h1,h2,hk=>by
  simp at h1 h2;subst h1;subst h2
  show bindC kindOf ((p,w)::P.zip vs) m p=_
  unfold bindC
  rw [oM fun v hv=>(List.nodup_cons.mp nd).1 (List.of_mem_zip hv).1,if_neg hk]
  simp
 | p::P,w::vs,i + 1,m,nd,h1,h2,hk=>by
  show bindC kindOf ((p,w)::P.zip vs) m x=_
  unfold bindC
  exact oO (i:=i) (List.nodup_cons.mp nd).2 (by simpa using h1) (by simpa using h2) hk
def start (N:List Str) (vs:List V):St:=vs.map some++List.replicate (N.length - vs.length) none
def oz (CX:CXT) (P:Program) (w:World) (K:PySem.W.Frag) (mg:Str->Option Value) (base:Heap) (N:List Str) (qual:Str) (scope:Scope) (f:Addr) (cd:Value) (A:Around) (outer:List Env) (s:Shared) (H:Hp) (E:XK):Cx where
 prog:=P
 w:=w
 K:=K
 mg:=mg
 base:=base
 A:=A.deeper (envOfC qual scope s.heap.objs.size f cd)
 N:=N
 s₀:=s
 H₀:=H
 env:=envOfC qual scope s.heap.objs.size f cd
 outer:=outer
 stack:=envOfC qual scope s.heap.objs.size f cd::outer
 ex:=[]
 calm:=true
 fn:=fun _=>true
 pn:=[]
 xe:=fun e s'=>wpAny (model P w) (A.deeper (envOfC qual scope s.heap.objs.size f cd)) (leaving (envOfC qual scope s.heap.objs.size f cd) e) (fun _ s''=>CX outer H s E e s'') (fun e' s''=>CX outer H s E e' s'') s'
theorem rP {sc:Scope}{n:Nat}{x:Str} (h:sc.names.lookup x=some .cell):∃c,(cellsFrom n sc.names []).lookup x=some c:=by
 have q:=PySem.W.cellsFrom_some sc.names n [] (.inl h)
 exact Option.isSome_iff_exists.mp q
theorem uo {CX:CXT}{P:Program}{w:World}{K:PySem.W.Frag}{mg:Str->Option Value}{base:Heap}{N ps:List Str}{qual:Str}{scope:Scope}{f:Addr}{cd:Value}{A:Around}{outer:List Env}{s s1:Shared}{H:Hp}{E:XK}{us:List Value}{vs:List V}
  (S:aK N ps scope) (hd:A.handled=none) (e0:zC P w K mg base A outer s H) (hl:vs.length=ps.length) (r:bO vs us)
  (x:InCallC s s.heap.objs.size (bindL (envOfC qual scope s.heap.objs.size f cd).kindOf (ps.zip us) fun _=>none) (cellsFrom (s.heap.objs.size + 1) scope.names []) (bindC (envOfC qual scope s.heap.objs.size f cd).kindOf (ps.zip us) fun _=>none) s1) :
  Inv (oz CX P w K mg base N qual scope f cd A outer s H E) [] (start N vs) H s1:=by
 have hpl:ps.length<=N.length:=by have:=congrArg List.length S.pre;rw [List.length_take] at this;omega
 obtain ⟨h1,tk,rfl,hk⟩:=x.done
 have noA:∀b:Addr,b∉(oz CX P w K mg base N qual scope f cd A outer s H E).ex:=fun b z=>absurd (show b∈([]:List Addr) from z) (by simp)
 refine ⟨⟨e0.mod,S.kind,rfl,rfl,Nat.le_refl _,fun y z c h1 h2=>?_,fun y hy=>?_,fun y c _ h=>?_,fun _=>hd,Around.frames_deeper e0.frames,.inr ⟨rfl,rfl⟩,fun b z=>absurd z (noA b),e0.bs,e0.bsz,fun b _ _=>noA b,fun b z=>absurd z (noA b),e0.funs,e0.frf⟩,
  rfl,e0.bare,Un.kept hk,⟨_,x.toInCall.ns,fun i y v h1 h2 h3=>?_⟩,fun y c h=>⟨_,x.cell y c h⟩,e0.hok.fresh (Nat.le_refl _),fun y c h=>?_,fun p hp=>absurd (show p∈([]:List (Addr×Obj)) from hp) (by simp),e0.hok.kept hk,?_⟩
 .exact name_of_addr x.apart (PySem.mem_of_lookup h1) (PySem.mem_of_lookup h2)
 .have hy:scope.names.lookup y=some .cell\/scope.names.lookup y=some .free:=hy
  rcases hy with hy | hy
  .exact rP hy
  .exact absurd rfl (S.nofree _ (PySem.mem_of_lookup hy))
 .exact Nat.le_of_lt (x.above y c (PySem.mem_of_lookup h))
 .have hi:i < vs.length:=by
   unfold start at h2
   by_cases hi:i < vs.length
   .exact hi
   .rw [List.getElem?_append_right (by simpa using hi)] at h2
    rw [List.getElem?_replicate] at h2
    split at h2 <;> cases h2
  have ha:vs[i]?=some v:=by
   unfold start at h2
   rw [List.getElem?_append_left (by simpa using hi),List.getElem?_map] at h2
   cases e:vs[i]? with
   | none=>rw [e] at h2;cases h2
   | some a=>rw [e] at h2;cases h2;rfl
  obtain ⟨u,hu,rv⟩:=r.get ha
  have hp:ps[i]?=some y:=by
   rw [<- S.pre,List.getElem?_take_of_lt (by omega)];exact h1
  have ndP:ps.Nodup:=by rw [<- S.pre];exact S.nd.sublist (List.take_sublist _ _)
  refine ⟨u,rv,?_⟩
  rcases S.par y (List.mem_of_getElem? hp) with k | k
  .exact .inl ⟨k,oN ndP hp hu k⟩
  .obtain ⟨c,e⟩:=rP (n:=s.heap.objs.size + 1) k
   refine .inr ⟨.inl k,c,e,?_⟩
   have q:=x.cell y c e
   rw [oO ndP hp hu (by show scope.names.lookup y≠_;rw [k];decide)] at q
   exact q
 .exact e0.hok.fresh (Nat.le_of_lt (x.above y c (PySem.mem_of_lookup h)))
 .unfold start
  show _=N.length
  rw [List.length_append,List.length_map,List.length_replicate]
  omega
theorem zF {CX:CXT}{P:Program}{w:World}{K:PySem.W.Frag}{mg:Str->Option Value}{base:Heap}{k:Nat}{f:Addr}{name qual:Str}{params:Arguments}{body:List Stmt}{scope:Scope}{dV kV doc pm cdv ct oc:Value}{an od:Option Addr}
  {osl:Array (Option Value)}{N ps:List Str}{sp:Sp} (lk:K.lookup f=some ⟨oc,od,.func (PySem.W.fnOf name qual params body scope dV kV doc pm an cdv ct),osl⟩) (hcd:PySem.W.codeIn K cdv qual=true) (S:aK N ps scope)
  (len:∀vs H Q E,sp vs H Q E->vs.length=ps.length)
  (hbody:∀(A:Around) (outer:List Env) (s:Shared) (H:Hp) (vs:List V) (Q:VK) (E:XK),gj k (A.deeper (envOfC qual scope s.heap.objs.size f cdv))->sp vs H Q E ->
   ∃t,PSs (oz CX P w K mg base N qual scope f cdv A outer s H E) body t/\t { nx:=fun _ H'=>Q .non H',rt:=Q } (start N vs) H) :
  lH P w K mg base CX (k + 1) f (PySem.W.fnOf name qual params body scope dV kV doc pm an cdv ct) ps sp:=by
 refine ⟨len,fun A outer s H args us vs Q E hr e0 hb r hsp=>?_⟩
 have hl:=len _ _ _ _ hsp
 have KX:K.In s.heap:=e0.mod.kin.keeps fun b o e=>(e0.bs b o e).1
 have lim:s.heap.NoLimit:=e0.mod.nolimit.keeps fun b o e=>(e0.bs b o e).1
 have hkind:∀y∈ps.zip us,scope.names.lookup y.1=some .local\/(scope.names.lookup y.1=some .cell/\((cellsFrom (s.heap.objs.size + 1) scope.names []).lookup y.1).isSome=true):=fun ⟨n,v⟩ hy=>by
  rcases S.par n (List.of_mem_zip hy).1 with q | q
  .exact .inl q
  .exact .inr ⟨q,PySem.W.cellsFrom_some _ _ _ (.inl q)⟩
 refine codeAny_call_function hr.depth (KX _ _ lk) rfl S.co S.gen rfl (PySem.W.codeRec_of KX hcd) (hb _ _ _ _ ?_)
 refine wpAny_newFunctionEnv_cells S.kind hkind fun env he s1 x=>?_
 subst he
 refine ⟨lim.keeps x.toInCall.keep,codeAny_func ?_⟩
 obtain ⟨t,ht,hq⟩:=hbody A outer s H vs Q E (hr.deeper _) hsp
 have I:Inv (oz CX P w K mg base N qual scope f cdv A outer s H E) [] (start N vs) H s1:=uo S hr.hd e0 hl r x
 refine wpAny_mono (ht [] s1 (start N vs) H _ I hq) (fun fl s' hs=>?_) fun e s' hs=>hs
 have fin:∀{σ':St}{H':Hp}{v:V}{u:Value},Inv (oz CX P w K mg base N qual scope f cdv A outer s H E) [] σ' H' s'->df v u->Q v H'->CE outer P w H s Q u s' :=
  fun {σ' H' v u} J rv q=>⟨v,H',J.os,J.bare,J.base,J.hok,rv,q⟩
 cases fl with
 | ret u =>
  obtain ⟨v,σ',H',J,rv,q⟩:=hs
  exact fin J rv q
 | next =>
  obtain ⟨σ',H',J,q⟩:=hs
  exact fin (v:=V.non) (u:=Value.none) J rfl q
 | brk =>
  obtain ⟨_,_,_,q⟩:=hs
  exact False.elim q
 | cont =>
  obtain ⟨_,_,_,q⟩:=hs
  exact False.elim q
section
variable {X:Cx}{x:Str}{p pos:Pos}{e:Expr}{es:List Expr}{t:TA}{id T:String}{r:List V->Hp->VK->Prop}
def tCB (r:List V->Hp->VK->Prop) (t:TA):TE:=fun σ H Q=>t σ H fun vs H1=>r vs H1 Q
theorem w9 (hc:bK X (.builtin id) r) (hg:Gl X x) (hm:X.mg x=none) (hv:bootBuiltins x=some (.builtin id)) (ha:PA X (e::es) t) (hn:x≠"__name__":=by decide) (hdb:(x == ("__debug__":Str))=false:=by decide)
  (he:starEach (e::es) X.env=(false,eval e X.env)::starEach es X.env:=by rfl) (hpl:(backTo pos (starEach es X.env)).any (·.1)=false:=by rfl):PE X (.Call (.Name x p) (e::es) [] pos) (tCB r t):=by
 intro pins s σ H Q I h
 refine wpAny_Call_Name_kw (iX I hg hm hv ?_ hn hdb)
 exact PyProof.Rows.callWith_builtin1 (thn (ha pos pins s σ H _ I h) fun us s1 ⟨vs,H1,I1,r1,q1⟩=>hc pins s1 σ H1 vs us Q I1 r1 q1) he hpl
theorem uq (hc:bK X (.type T) r) (hg:Gl X x) (hm:X.mg x=none) (hv:bootBuiltins x=some (.type T)) (ha:PA X (e::es) t) (hn:x≠"__name__":=by decide) (hdb:(x == ("__debug__":Str))=false:=by decide)
  (he:starEach (e::es) X.env=(false,eval e X.env)::starEach es X.env:=by rfl) (hpl:(backTo pos (starEach es X.env)).any (·.1)=false:=by rfl):PE X (.Call (.Name x p) (e::es) [] pos) (tCB r t):=by
 intro pins s σ H Q I h
 refine wpAny_Call_Name_kw (iX I hg hm hv ?_ hn hdb)
 exact PyProof.Rows.callWith_type1 (thn (ha pos pins s σ H _ I h) fun us s1 ⟨vs,H1,I1,r1,q1⟩=>hc pins s1 σ H1 vs us Q I1 r1 q1) he hpl
end
end L2
namespace HT
open PySem PyProof.Rows
section
open PySem.SeqAt
open PySem.AutoSeq1 (wpAny_loadPart')
open PySem.MeetsSeq PySem.MeetsSeq2 PySem.MeetsSeq3
end
section
variable {prog:Program}{w:World}{A:Around}{E:Value->Shared->Prop}{s:Shared}
theorem cat_tup {t b:Addr}{vs ws:List Value}{Q:Value->Shared->Prop} (ht:IsTup s.heap t vs.toArray) (hb:IsTup s.heap b ws.toArray) (hv:vs≠[])
  (h1:ws=[]->Q (.ref t) s) (h2:ws≠[]->Q (.ref s.heap.objs.size) { s with heap:=s.heap.push { cls:=.type "tuple",data:=.seq (vs++ws).toArray } })
  (hsz:vs.length + ws.length<=sizeLine):wpAny (model prog w) A (binaryOp .Add (.ref t) (.ref b)) Q E s:=by
 obtain ⟨⟨cls,dd,data,sl⟩,ho,hc,n,hd⟩:=id ht
 obtain ⟨⟨cls2,dd2,data2,sl2⟩,ho2,hc2,n2,hd2⟩:=id hb
 simp only at hc hd hc2 hd2
 subst hc hd hc2 hd2
 have e:vs.toArray++ws.toArray=(vs++ws).toArray:=by simp
 by_cases hw:ws=[]
 .exact concat_meets ⟨_,ho,rfl⟩ ⟨_,ho2,rfl⟩ noFill_tuple_add seq_tuple_add PySem.F.slot_tuple_add PySem.F.entry_tuple_add (PySem.F.args_tuple_add_2 _ _)
   (tuple_addW1 t b vs.toArray ws.toArray n n2 dd dd2 sl sl2 (by simpa using hv) (by simp [hw])) ⟨ho,ho2,h1 hw⟩
 .refine concat_meets ⟨_,ho,rfl⟩ ⟨_,ho2,rfl⟩ noFill_tuple_add seq_tuple_add PySem.F.slot_tuple_add PySem.F.entry_tuple_add (PySem.F.args_tuple_add_2 _ _)
   (tuple_addW2 t b vs.toArray ws.toArray n n2 dd dd2 sl sl2 (by simpa using hv) (by simpa using hw) (by rw [List.size_toArray,List.size_toArray];exact hsz)) ⟨ho,ho2,?_⟩
  rw [e]
  exact h2 hw
def sIx (n d:Nat):Option Int->Nat
 | none=>d
 | some v=>if v < 0 then (v + (n:Int)).toNat else min v.toNat n
theorem sIx_nat (n d k:Nat):sIx n d (some (k:Int))=min k n:=by
 show (if (k:Int) < 0 then ((k:Int) + (n:Int)).toNat else min (k:Int).toNat n)=min k n
 rw [if_neg (by omega),Int.toNat_natCast]
theorem sIx_le (n d:Nat) (hd:d<=n) (o:Option Int):sIx n d o<=n:=by
 cases o with
 | none=>exact hd
 | some v =>
  show (if v < 0 then (v + (n:Int)).toNat else min v.toNat n)<=n
  by_cases hv:v < 0
  .rw [if_pos hv];omega
  .rw [if_neg hv];exact Nat.min_le_right _ _
theorem clip_eq (v:Int) (n d:Nat):(if v < 0 then max (v + (n:Int)) 0 else min v (n:Int))=((sIx n d (some v):Nat):Int):=by
 show (if v < 0 then max (v + (n:Int)) 0 else min v (n:Int))=(((if v < 0 then (v + (n:Int)).toNat else min v.toNat n):Nat):Int)
 by_cases hv:v < 0
 .simp only [if_pos hv];omega
 .simp only [if_neg hv];omega
theorem sV (lo hi:Option Int) (n:Nat):Builtin.Slice.sliceAdjust lo hi 1 (n:Int)=(((sIx n 0 lo:Nat):Int),((sIx n n hi:Nat):Int)):=by
 have h1:¬ ((1:Int) < 0):=by omega
 unfold Builtin.Slice.sliceAdjust
 simp only [h1,if_false]
 refine Prod.ext ?_ ?_
 .cases lo with
  | none=>rfl
  | some v=>exact clip_eq v n 0
 .cases hi with
  | none=>rfl
  | some v=>exact clip_eq v n n
theorem sW (i j:Nat):Builtin.Slice.slicePlaces (i:Int) (j:Int) 1=j - i:=by
 unfold Builtin.Slice.slicePlaces
 have h1:(1:Int) > 0:=by omega
 simp only [h1,if_true,Int.ediv_one]
 split <;> omega
theorem mf {v:Value}{o:Option Int}{Q:Option Int->Shared->Prop} (p:IsPart v o) (h:Q o s):wpAny (model prog w) A (Builtin.Slice.slicePartIndex v) Q E s:=by
 cases p with
 | none=>exact slicePart_none h
 | int i t=>exact slicePart_int h
theorem fY {sl:Addr}{vl vu:Value}{lo hi:Option Int}{n:Nat}{Q:Int×Int×Nat->Shared->Prop} (hs:s.heap.IsSliceOf sl vl vu .none) (pl:IsPart vl lo) (pu:IsPart vu hi)
  (h:Q (((sIx n 0 lo:Nat):Int),1,sIx n n hi - sIx n 0 lo) s):wpAny (model prog w) A (Builtin.Slice.sliceApplied (.ref sl) (pure (n:Int))) Q E s:=by
 obtain ⟨os,hos,hcs,hds⟩:=id hs
 unfold Builtin.Slice.sliceApplied Builtin.Slice.sliceFields
 refine wpAny_bind (wpAny_bind (wpAny_field hos hds (x:=vl) rfl (wpAny_bind (wpAny_field hos hds (x:=vu) rfl (wpAny_bind (wpAny_field hos hds (x:=.none) rfl (wpAny_pure ?_)))))))
 refine wpAny_bind (slicePart_none ?_)
 show wpAny _ _ (if ((1:Int) == 0)=true then _ else _) _ _ s
 rw [if_neg (by decide)]
 refine wpAny_bind (mf pl (wpAny_bind (mf pu (wpAny_bind (wpAny_pure ?_)))))
 show wpAny _ _ (match Builtin.Slice.sliceAdjust lo hi 1 (n:Int) with | (lo,hi)=>pure (lo,(1:Int),Builtin.Slice.slicePlaces lo hi 1)) _ _ s
 rw [sV lo hi n]
 show wpAny _ _ (pure (((sIx n 0 lo:Nat):Int),(1:Int),Builtin.Slice.slicePlaces ((sIx n 0 lo:Nat):Int) ((sIx n n hi:Nat):Int) 1)) _ _ s
 rw [sW]
 exact wpAny_pure h
theorem xb (xs:Array Value) (i k:Nat):((List.range k).filterMap fun (m:Nat)=>xs[((i:Int) + (m:Int) * 1).toNat]?).toArray=((xs.toList.drop i).take k).toArray:=by
 have e:(fun (m:Nat)=>xs[((i:Int) + (m:Int) * 1).toNat]?)=fun m=>xs[i + m]?:=by
  funext m
  have:((i:Int) + (m:Int) * 1).toNat=i + m:=by omega
  rw [this]
 rw [e]
 have:=pick_run xs i k
 rw [List.filterMap_map] at this
 have e2:((fun x=>xs[x]?) ∘ fun x=>i + x)=fun m=>xs[i + m]?:=rfl
 rw [e2] at this
 rw [this]
theorem getItem_tuple_cut {t sl:Addr}{items:Array Value}{vl vu:Value}{lo hi:Option Int}{Q:Value->Shared->Prop} (ht:IsTup s.heap t items) (hs:s.heap.IsSliceOf sl vl vu .none) (pl:IsPart vl lo) (pu:IsPart vu hi)
  (hw:¬ (sIx items.size 0 lo=0/\sIx items.size items.size hi=items.size))
  (h:Q (.ref s.heap.objs.size) { s with heap:=s.heap.push { cls:=.type "tuple",data:=.seq ((items.toList.drop (sIx items.size 0 lo)).take (sIx items.size items.size hi - sIx items.size 0 lo)).toArray } })
  (hsz:items.size<=sizeLine):wpAny (model prog w) A (getItem (.ref t) (.ref sl)) Q E s:=by
 have htake:sizeOk (.seq ((items.toList.drop (sIx items.size 0 lo)).take (sIx items.size items.size hi - sIx items.size 0 lo)).toArray):=by
  show ((items.toList.drop (sIx items.size 0 lo)).take (sIx items.size items.size hi - sIx items.size 0 lo)).toArray.size<=sizeLine
  rw [List.size_toArray,List.length_take,List.length_drop,Array.length_toList]
  omega
 have hj:sIx items.size items.size hi<=items.size:=sIx_le _ _ (Nat.le_refl _) hi
 obtain ⟨os,hos,hcs,hds⟩:=id hs
 have hTs:s.TypeIs (.ref sl) "slice":=⟨os,hos,hcs⟩
 unfold getItem
 try with_reducible refine wpAny_holding ?_
 first | refine wpAny_bind (wpAny_pure ?_) | skip
 refine wpAny_bind (wpAny_sequenceKey ht.typeIs (by decide) ?_)
 refine wpAny_bind (wpAny_callSpecial?_slot (name:=Str.ofString "__getitem__") ht.typeIs PyProof.Rows.slot_tuple_getitem
  (wpAny_call_entry PyProof.Rows.slot_tuple_getitem ht.typeIs entry_tuple_getitem ?_ (args_tuple_getitem _ _)))
 show wpAny _ _ (Builtin.Tuple.tupleItemsOf (.ref t) >>= _) _ _ s
 refine wpAny_bind (tupleItemsOf_ ht ?_)
 refine wpAny_bind (wpAny_typeOf hTs ?_)
 rw [if_pos (by decide)]
 refine wpAny_bind (fY hs pl pu ?_)
 have hno:¬ ((((sIx items.size 0 lo:Nat):Int) == 0 && (1:Int) == 1 && (sIx items.size items.size hi - sIx items.size 0 lo) == items.size)=true):=by
  intro q
  rw [Bool.and_eq_true,Bool.and_eq_true] at q
  have q1:((sIx items.size 0 lo:Nat):Int)=0:=eq_of_beq q.1.1
  have q2:sIx items.size items.size hi - sIx items.size 0 lo=items.size:=eq_of_beq q.2
  exact hw ⟨by omega,by omega⟩
 show wpAny _ _ (if (((sIx items.size 0 lo:Nat):Int) == 0 && (1:Int) == 1 && (sIx items.size items.size hi - sIx items.size 0 lo) == items.size)=true then _ else _) _ _ s
 rw [if_neg hno,xb]
 first
  | exact wpAny_bind (m:=Builtin.Tuple.tupleExact _) (wpAny_newObj_type (wpAny_pure ⟨_,rfl,wpAny_pure h⟩) htake)
  | exact wpAny_bind (m:=Builtin.Tuple.tupleExact _) (wpAny_newObj_type (wpAny_bind (wpAny_pure (wpAny_pure ⟨_,rfl,wpAny_pure h⟩))) htake)
  | exact wpAny_bind (wpAny_bind (m:=Builtin.Tuple.tupleExact _) (wpAny_newObj_type (wpAny_pure (wpAny_pure ⟨_,rfl,wpAny_pure h⟩)) htake))
  | exact wpAny_bind (wpAny_bind (m:=Builtin.Tuple.tupleExact _) (wpAny_newObj_type (wpAny_pure ⟨_,rfl,wpAny_pure h⟩) htake))
end
end HT
namespace L2
open PySem PySem.Spec PyProof.Rows
abbrev TO:=St->Hp->(Option Int->Hp->Prop)->Prop
def PO (X:Cx) (e:Option Expr) (t:TO):Prop :=
 ∀(pins:List (Addr×Obj)) (s:Shared) (σ:St) (H:Hp) (Q:Option Int->Hp->Prop),Inv X pins σ H s->t σ H Q ->
  wpAny (model X.prog X.w) X.A (evalPart e X.env) (fun u s'=>∃o H',Inv X pins σ H' s'/\IsPart u o/\Q o H') X.xe s
def mW:TO:=fun _ H Q=>Q none H
def xc (t:TE):TO:=fun σ H Q=>t σ H fun x H1=>∃i,x=.int i/\Q (some i) H1
theorem gU {ns:List Int}:∀{us:List Value},bO (ns.map V.int) us->IntsAre us ns:=by
 induction ns with
 | nil=>intro us r;rw [List.map_nil] at r;cases r;exact .nil
 | cons n ns ih =>
  intro us r
  rw [List.map_cons] at r
  cases r with
  | cons r1 r2 =>
   obtain ⟨t,e⟩:=r1
   subst e
   exact .cons n t (ih r2)
section
variable {X:Cx}{e:Expr}{te:TE}{lo hi:Option Expr}{tl th:TO}{pos p2:Pos}
theorem dh:PO X none mW:=by
 intro pins s σ H Q I h
 rw [evalPart_none]
 exact wpAny_pure ⟨none,H,I,.none,h⟩
theorem cw (h:PE X e te):PO X (some e) (xc te):=by
 intro pins s σ H Q I hw
 rw [evalPart_some]
 refine thn (h pins s σ H _ I hw) fun u s1 ⟨x,H1,I1,r1,q1⟩=>?_
 obtain ⟨i,rfl,q⟩:=q1
 obtain ⟨t,rfl⟩:=r1
 exact ⟨some i,H1,I1,.int i t,q⟩
def SlR (X:Cx) (r:V->Option Int->Option Int->Hp->VK->Prop):Prop :=
 ∀(pins:List (Addr×Obj)) (s:Shared) (σ:St) (H:Hp) (x:V) (v vl vu:Value) (lo hi:Option Int) (sl:Addr) (Q:VK),Inv X pins σ H s->df x v->s.heap.IsSliceOf sl vl vu .none->IsPart vl lo->IsPart vu hi->r x lo hi H Q ->
  ∃T id,typeLookup (.type T) "__getitem__"=pure (some (.builtin id))/\s.TypeIs v T/\wpAny (model X.prog X.w) X.A (getItem v (.ref sl)) (EP X pins σ Q) X.xe s
theorem SlR.or {r r':V->Option Int->Option Int->Hp->VK->Prop} (h:SlR X r) (h':SlR X r'):SlR X (fun x lo hi H Q=>r x lo hi H Q\/r' x lo hi H Q):=by
 intro pins s σ H x v vl vu lo hi sl Q I rx hs pl pu q
 rcases q with q | q
 .exact h pins s σ H x v vl vu lo hi sl Q I rx hs pl pu q
 .exact h' pins s σ H x v vl vu lo hi sl Q I rx hs pl pu q
def tSl (r:V->Option Int->Option Int->Hp->VK->Prop) (te:TE) (tl th:TO):TE:=fun σ H Q=>te σ H fun x H1=>tl σ H1 fun l H2=>th σ H2 fun u H3=>r x l u H3 Q
theorem bW {r:V->Option Int->Option Int->Hp->VK->Prop} (hr:SlR X r) (he:PE X e te) (hl:PO X lo tl) (hu:PO X hi th):PE X (.Subscript e (.Slice lo hi none p2) pos) (tSl r te tl th):=by
 intro pins s σ H Q I h
 refine Subscript_ (thn (he pins s σ H _ I h) fun v s1 ⟨x,H1,I1,r1,q1⟩=>?_)
 refine wpAny_Slice (thn (hl pins s1 σ H1 _ I1 q1) fun vl s2 ⟨l,H2,I2,pl,q2⟩=>thn (hu pins s2 σ H2 _ I2 q2) fun vu s3 ⟨u,H3,I3,pu,q3⟩=>?_)
 rw [evalPart_none]
 refine wpAny_pure ?_
 have I4:Inv X pins σ H3 { s3 with heap:=s3.heap.push { cls:=.type "slice",data:=.fields #[vl,vu,.none] } }:=I3.kept (t':=s3.toks) fun b ob q=>Heap.get?_push_of_some _ q
 obtain ⟨T,id,hT,ht,hg⟩:=hr pins { s3 with heap:=s3.heap.push { cls:=.type "slice",data:=.fields #[vl,vu,.none] } } σ H3 x v vl vu l u s3.heap.objs.size Q I4 r1 (Heap.IsSliceOf.new ..) pl pu q3
 show wpAny (model X.prog X.w) X.A (subscriptTail e (.Slice lo hi none p2) v (.ref s3.heap.objs.size)) (EP X pins σ Q) X.xe { s3 with heap:=s3.heap.push { cls:=.type "slice",data:=.fields #[vl,vu,.none] } }
 exact tail_any (ops:=[.ref s3.heap.objs.size,v]) ht hT hg (by with_unfolding_all rfl)
def zG (xs:List V) (lo hi:Option Int):List V:=(xs.drop (HT.sIx xs.length 0 lo)).take (HT.sIx xs.length xs.length hi - HT.sIx xs.length 0 lo)
theorem kl (xs:List V) (lo hi:Option Int):(zG xs lo hi).length<=xs.length:=by
 unfold zG
 rw [List.length_take,List.length_drop]
 omega
def EV (K:PySem.W.Frag):V->Option Int->Option Int->Hp->VK->Prop:=fun x lo hi H Q=>∃a xs,x=.ref a/\SqT K H a xs /\
 ¬ (HT.sIx xs.length 0 lo=0/\HT.sIx xs.length xs.length hi=xs.length)/\∀p,H p=none->Q (.ref p) (upd H p (.tup (zG xs lo hi)))
theorem BI:SlR X (EV X.K):=by
 intro pins s σ H x v vl vu lo hi sl Q I rx hs pl pu h
 obtain ⟨a,xs,rfl,hx,hw,q⟩:=h
 cases rx
 obtain ⟨its,r,ht,hz⟩:=I.tuple hx
 have hlen:its.toArray.size=xs.length:=by rw [List.size_toArray];exact r.length.symm
 refine ⟨"tuple",_,PyProof.Rows.slot_tuple_getitem.lookup,ht.typeIs,?_⟩
 refine HT.getItem_tuple_cut ht hs pl pu (by rw [hlen];exact hw) ?_ (by rw [hlen];exact hz)
 rw [hlen]
 refine ⟨.ref s.heap.objs.size,_,I.laid (t':=s.toks) (o:=.tup (zG xs lo hi)) (fun b ob q=>Heap.get?_push_of_some _ q) (Nat.le_refl _) ?_,rfl,q _ (I.hok.fresh (Nat.le_refl _))⟩
 exact ⟨Nat.le_trans (kl xs lo hi) hz,_,(r.drop (HT.sIx xs.length 0 lo)).take (HT.sIx xs.length xs.length hi - HT.sIx xs.length 0 lo),IsTup.new _ _⟩
def BJ (K:PySem.W.Frag):R2:=fun x y H Q=>∃a b xs ys,x=.ref a/\y=.ref b/\SqT K H a xs/\SqT K H b ys/\xs≠[]/\xs.length + ys.length<=sizeLine /\
 (ys=[]->Q (.ref a) H)/\(ys≠[]->∀p,H p=none->Q (.ref p) (upd H p (.tup (xs++ys))))
theorem bO.nil_iff {xs:List V}{us:List Value} (r:bO xs us):us=[] ↔ xs=[]:=by
 cases r with
 | nil=>simp
 | cons _ _=>simp
theorem zH:OpR X (binaryOp .Add) (BJ X.K):=by
 intro pins s σ H x y v u Q I rx ry h
 obtain ⟨a,b,xs,ys,rfl,rfl,ha,hb,hx,hz,q1,q2⟩:=h
 cases rx
 cases ry
 obtain ⟨its,r1,p1,_⟩:=I.tuple ha
 obtain ⟨its2,r2,p2,_⟩:=I.tuple hb
 refine HT.cat_tup p1 p2 (fun z=>hx (r1.nil_iff.mp z)) (fun z=>⟨.ref a,H,I,rfl,q1 (r2.nil_iff.mp z)⟩) (fun z=>?_) (by rw [<- r1.length,<- r2.length];exact hz)
 refine ⟨.ref s.heap.objs.size,_,I.laid (t':=s.toks) (o:=.tup (xs++ys)) (fun b ob q=>Heap.get?_push_of_some _ q) (Nat.le_refl _) ?_,rfl,q2 (fun w=>z (r2.nil_iff.mpr w)) _ (I.hok.fresh (Nat.le_refl _))⟩
 exact ⟨by rw [List.length_append];exact hz,_,r1.append r2,IsTup.new _ _⟩
end
def ixN (n:Nat) (i:Int):Option Nat:=if 0<=i then (if i < n then some i.toNat else none) else if -(n:Int)<=i then some (i + n).toNat else none
def atI {α:Type} (xs:List α) (i:Int):Option α:=(ixN xs.length i).bind fun j=>xs[j]?
theorem qt {n:Nat}{i:Int}{j:Nat} (h:ixN n i=some j):seqIndex? i n=some j/\j < n/\-(n:Int)<=i/\i < n:=by
 unfold ixN at h
 by_cases h0:0<=i
 .rw [if_pos h0] at h
  by_cases h1:i < n
  .rw [if_pos h1] at h
   have e:i.toNat=j:=Option.some.inj h
   exact ⟨by rw [seqIndex_of h0 h1,e],by omega,by omega,h1⟩
  .rw [if_neg h1] at h;cases h
 .rw [if_neg h0] at h
  by_cases h1:-(n:Int)<=i
  .rw [if_pos h1] at h
   have e:(i + n).toNat=j:=Option.some.inj h
   exact ⟨by rw [seqIndex_neg (by omega) h1,e],by omega,h1,by omega⟩
  .rw [if_neg h1] at h;cases h
theorem qu {α:Type}{xs:List α}{i:Int}{v:α} (h:atI xs i=some v):∃j,seqIndex? i xs.length=some j/\xs[j]?=some v/\j < xs.length/\-(xs.length:Int)<=i/\i < xs.length:=by
 unfold atI at h
 cases e:ixN xs.length i with
 | none=>rw [e] at h;cases h
 | some j =>
  rw [e] at h
  obtain ⟨h1,h2,h3,h4⟩:=qt e
  exact ⟨j,h1,h,h2,h3,h4⟩
theorem zI {α:Type}{xs:List α}{j:Nat}{v:α} (h:xs[j]?=some v):atI xs (j:Int)=some v:=by
 have hj:j < xs.length:=(List.getElem?_eq_some_iff.mp h).1
 have e:ixN xs.length (j:Int)=some j:=by
  unfold ixN
  rw [if_pos (by omega),if_pos (by omega)];simp
 unfold atI;rw [e];exact h
def zJ (b:Expr):Prop:=∀o i,subscripted b false o i=operate [o,i] (getItem o i)
def IxR (X:Cx) (r:R2):Prop :=
 ∀(value slice:Expr) (pins:List (Addr×Obj)) (s:Shared) (σ:St) (H:Hp) (x y:V) (v u:Value) (Q:VK),Inv X pins σ H s->df x v->df y u->r x y H Q ->
  subscripted slice false v u=operate [v,u] (getItem v u)->wpAny (model X.prog X.w) X.A (subscriptTail value slice v u) (EP X pins σ Q) X.xe s
def MtR (X:Cx) (id:String) (r:V->List V->Hp->VK->Prop):Prop :=
 ∀(pins:List (Addr×Obj)) (s:Shared) (σ:St) (H:Hp) (x:V) (xs:List V) (v:Value) (us:List Value) (Q:VK),Inv X pins σ H s->df x v->bO xs us->r x xs H Q ->
  wpAny (model X.prog X.w) X.A (call (.builtin id) (v::us)) (EP X pins σ Q) X.xe s
section
variable {X:Cx}{a b:Expr}{ta tb:TE}{pos:Pos}
theorem IxR.or {r r':R2} (h:IxR X r) (h':IxR X r'):IxR X (fun x y H Q=>r x y H Q\/r' x y H Q):=by
 intro value slice pins s σ H x y v u Q I rx ry q hs
 rcases q with q | q
 .exact h value slice pins s σ H x y v u Q I rx ry q hs
 .exact h' value slice pins s σ H x y v u Q I rx ry q hs
theorem cR {r:R2} (hr:IxR X r) (ha:PE X a ta) (hb:PE X b tb) (hs:zJ b):PE X (.Subscript a b pos) (tOp r ta tb):=by
 intro pins s σ H Q I h
 exact Subscript_ (DA ha hb I h fun v u s2 x y H2 I2 rx ry q=>hr a b pins s2 σ H2 x y v u Q I2 rx ry q (hs _ _))
def EW (K:PySem.W.Frag):R2:=fun x y H Q=>∃p xs i v,x=.ref p/\y=.int i/\SqL K H p xs/\atI xs i=some v/\Q v H
def EX (K:PySem.W.Frag):R2:=fun x y H Q=>∃p xs i v,x=.ref p/\y=.int i/\SqT K H p xs/\atI xs i=some v/\Q v H
def Fx:R2:=fun x y H Q=>∃z i c,x=.str z/\y=.int i/\z.length<=sizeLine/\atI z.cps.toList i=some c/\Q (.str ⟨#[c]⟩) H
theorem zK:IxR X (EW X.K):=by
 intro value slice pins s σ H x y v u Q I rx ry h hs
 obtain ⟨p,xs,i,z,rfl,rfl,hq,he,q⟩:=h
 cases rx
 obtain ⟨t,rfl⟩:=ry
 obtain ⟨its,r,pl,hz⟩:=I.list hq
 obtain ⟨j,h1,h2,h3,h4,h5⟩:=qu he
 obtain ⟨w,ew,rw'⟩:=r.get h2
 have hl:=r.length
 have hn:=l9
 have fin:EP X pins σ Q w s:=⟨z,H,I,rw',q⟩
 by_cases h0:0<=i
 .have hj:i.toNat=j:=by
   rw [seqIndex_of h0 h5] at h1
   exact Option.some.inj h1
  exact item_listR pl.isList h0 (by omega) (by rw [hj];simpa using ew) fin hs
 .have hj:(i + (its.toArray.size:Int)).toNat=j:=by
   rw [seqIndex_neg (by omega) h4] at h1
   rw [List.size_toArray,<- hl]
   exact Option.some.inj h1
  exact subscriptTail_builtinR (x:=w) pl.isList.typeIs slot_list_getitem.lookup
   (wpAny_getItem_list_neg (Q:=fun r s'=>r=w/\EP X pins σ Q r s') pl.isList (by omega) (by rw [List.size_toArray] <;> omega) (by omega) (by rw [hj];simpa using ew) ⟨rfl,fin⟩) hs
theorem BK:IxR X (EX X.K):=by
 intro value slice pins s σ H x y v u Q I rx ry h hs
 obtain ⟨p,xs,i,z,rfl,rfl,hq,he,q⟩:=h
 cases rx
 obtain ⟨t,rfl⟩:=ry
 obtain ⟨its,r,pl,hz⟩:=I.tuple hq
 obtain ⟨j,h1,h2,h3,h4,h5⟩:=qu he
 obtain ⟨w,ew,rw'⟩:=r.get h2
 have hl:=r.length
 have hn:=l9
 have fin:EP X pins σ Q w s:=⟨z,H,I,rw',q⟩
 exact subscriptTail_builtinR (x:=w) pl.typeIs slot_tuple_getitem.lookup
  (getItem_tuple (j:=j) (Q:=fun r s'=>r=w/\EP X pins σ Q r s') pl (by omega) (by omega) (by rw [List.size_toArray,<- hl];exact h1) (by simpa using ew) ⟨rfl,fin⟩) hs
theorem BL:IxR X Fx:=by
 intro value slice pins s σ H x y v u Q I rx ry h hs
 obtain ⟨z,i,c,rfl,rfl,hz,he,q⟩:=h
 obtain ⟨t,rfl⟩:=rx
 obtain ⟨t',rfl⟩:=ry
 obtain ⟨j,h1,h2,h3,h4,h5⟩:=qu he
 have hl:z.cps.toList.length=z.length:=by simp [Str.length]
 rw [hl] at h1 h4 h5
 have hn:=l9
 exact tail_any (typeIs_str s z t) slot_str_getitem.lookup (getItem_str (c:=c) (by
  have e1:decide (i < -(2 ^ 63:Int))=false:=decide_eq_false (by omega)
  have e2:decide (i >= 2 ^ 63)=false:=decide_eq_false (by omega)
  rw [e1,e2,Bool.or_false]) (by rw [h1];simpa using h2) ⟨.str ⟨#[c]⟩,H,I.tok _,⟨_,rfl⟩,q⟩) hs
theorem sX (its:List Value) (n j:Nat) (u:Value):Obj.mapSeq (·.setIfInBounds j u) { cls:=.type "list",data:=.seq its.toArray n }={ cls:=.type "list",data:=.seq (its.set j u).toArray n }:=by
 simp [Obj.mapSeq]
theorem Inv.lst {pins:List (Addr×Obj)}{σ:St}{H:Hp}{s:Shared}{p:Addr}{xs:List V} (I:Inv X pins σ H s) (h:H p=some (.lst xs)) :
  ∃(its:List Value) (n:Nat),bO xs its/\s.heap.get? p=some { cls:=.type "list",data:=.seq its.toArray n }/\xs.length<=sizeLine:=by
 obtain ⟨z,its,n,r,e⟩:=I.hok p _ h
 exact ⟨its,n,r,e,z⟩
theorem Inv.lstUpd {pins:List (Addr×Obj)}{σ:St}{H:Hp}{s:Shared}{p:Addr}{xs ys:List V}{its its':List Value}{n n':Nat}{f:Obj->Obj} (I:Inv X pins σ H s) (h:H p=some (.lst xs))
  (ho:s.heap.get? p=some { cls:=.type "list",data:=.seq its.toArray n }) (hf:f { cls:=.type "list",data:=.seq its.toArray n }={ cls:=.type "list",data:=.seq its'.toArray n' }) (r:bO ys its') (hz:ys.length<=sizeLine) (t:Nat) :
  Inv X pins σ (upd H p (.lst ys)) { s with heap:=s.heap.update p f,toks:=t }:=by
 have e:(s.heap.update p f).get? p=some { cls:=.type "list",data:=.seq its'.toArray n' }:=by
  rw [Heap.get?_update_self f ho (by rw [hf] <;> rfl),hf]
 refine I.write (x:=p) (e:=p) (by rw [h];trivial) (.inl rfl) (fun b u hb q=>(Heap.get?_update_other _ _ (Ne.symm hb)).trans q) ⟨_,e⟩ ?_
 exact ⟨hz,its',n',r,e⟩
def BM:V->V->V->Hp->(Hp->Prop)->Prop:=fun o i v H Q=>∃p xs k j,o=.ref p/\i=.int k/\H p=some (.lst xs)/\ixN xs.length k=some j/\Q (upd H p (.lst (xs.set j v)))
theorem i6:EO X BM:=by
 intro pins s σ H o i v ov iv u Q I ro ri rv h
 obtain ⟨p,xs,k,j,rfl,rfl,hp,hj,q⟩:=h
 cases ro
 obtain ⟨t,rfl⟩:=ri
 obtain ⟨its,n,r,ho,hz⟩:=I.lst hp
 obtain ⟨h1,h2,h3,h4⟩:=qt hj
 have hl:=r.length
 have hn:=l9
 have I':Inv X pins σ (upd H p (.lst (xs.set j v))) { s with heap:=s.heap.update p (Obj.mapSeq (·.setIfInBounds j u)) } :=
  I.lstUpd hp ho (sX its n j u) (r.set rv j) (by rw [List.length_set];exact hz) s.toks
 by_cases h0:0<=k
 .have hk:k.toNat=j:=by
   rw [seqIndex_of h0 h4] at h1
   exact Option.some.inj h1
  exact PySem.W.ki_setAt ho h0 (by omega) (by rw [List.size_toArray,<- hl];exact h4) (by rw [hk];exact ⟨_,I',q⟩)
 .have hk:(k + (its.toArray.size:Int)).toNat=j:=by
   rw [seqIndex_neg (by omega) h3] at h1
   rw [List.size_toArray,<- hl]
   exact Option.some.inj h1
  exact PySem.W.ki_setBack ho (by omega) (by rw [List.size_toArray,<- hl];exact h3) (by omega) (by rw [hk];exact ⟨_,I',q⟩)
theorem oP (lo hi:Option Int) (n:Nat):(sliceBounds lo hi none n).1=((HT.sIx n 0 lo:Nat):Int)/\(sliceBounds lo hi none n).2.1=((HT.sIx n n hi:Nat):Int)/\(sliceBounds lo hi none n).2.2=1:=by
 refine ⟨?_,?_,rfl⟩
 .cases lo with
  | none=>simp [sliceBounds,HT.sIx]
  | some i =>
   simp only [sliceBounds,HT.sIx,Option.getD_none,show (1:Int) > 0 by decide,if_true]
   by_cases h:i < 0
   .simp only [h,if_true] <;> omega
   .simp only [h,if_false] <;> omega
 .cases hi with
  | none=>simp [sliceBounds,HT.sIx]
  | some i =>
   simp only [sliceBounds,HT.sIx,Option.getD_none,show (1:Int) > 0 by decide,if_true]
   by_cases h:i < 0
   .simp only [h,if_true] <;> omega
   .simp only [h,if_false] <;> omega
theorem mX (its:List Value) (lo hi:Option Int):slicePick its.toArray lo hi none=((its.drop (HT.sIx its.length 0 lo)).take (HT.sIx its.length its.length hi - HT.sIx its.length 0 lo)).toArray:=by
 obtain ⟨h1,h2,h3⟩:=oP lo hi its.toArray.size
 unfold slicePick
 rw [h1,h2,h3]
 simp only [sliceRange_one,pick_run,List.size_toArray] <;> rfl
def EY (K:PySem.W.Frag):V->Option Int->Option Int->Hp->VK->Prop:=fun x lo hi H Q=>∃a xs,x=.ref a/\SqL K H a xs/\∀p,H p=none->Q (.ref p) (upd H p (.lst (zG xs lo hi)))
theorem zL:SlR X (EY X.K):=by
 intro pins s σ H x v vl vu lo hi sl Q I rx hs pl pu h
 obtain ⟨a,xs,rfl,hx,q⟩:=h
 cases rx
 obtain ⟨its,r,ht,hz⟩:=I.list hx
 have hlen:=r.length
 refine ⟨"list",_,slot_list_getitem.lookup,ht.isList.typeIs,?_⟩
 refine wpAny_getItem_list_slice ht.isList hs pl pu .none (by simp) ?_ (by rw [List.size_toArray] <;> omega)
 rw [mX,<- hlen]
 refine ⟨.ref s.heap.objs.size,_,I.laid (t':=s.toks) (o:=.lst (zG xs lo hi)) (fun b ob q=>Heap.get?_push_of_some _ q) (Nat.le_refl _) ?_,rfl,q _ (I.hok.fresh (Nat.le_refl _))⟩
 exact ⟨Nat.le_trans (kl xs lo hi) hz,_,0,(r.drop (HT.sIx xs.length 0 lo)).take (HT.sIx xs.length xs.length hi - HT.sIx xs.length 0 lo),Heap.get?_push_size _ rfl⟩
def lI:V->Bool
 | .non=>true
 | .bl _=>true
 | .int _=>true
 | .str _=>true
 | _=>false
def eqV:V->V->Bool
 | .non,.non=>true
 | .bl a,.bl b=>a == b
 | .bl a,.int b=>(if a then 1 else 0) == b
 | .int a,.bl b=>a == (if b then 1 else 0)
 | .int a,.int b=>a == b
 | .str a,.str b=>a == b
 | _,_=>false
theorem BN {A:Around}{s:Shared}{y x:V}{u v:Value} (ry:df y u) (rx:df x v) (fy:lI y=true) (fx:lI x=true):SeqAt.EqAt A s u v (eqV y x):=by
 cases y with
 | non =>
  cases ry
  cases x with
  | non=>cases rx;exact SeqAt.EqAt.same _
  | bl b=>cases rx;exact SeqAt.EqAt.none_bool b
  | int b=>obtain ⟨t,rfl⟩:=rx;exact SeqAt.EqAt.none_int b t
  | str b=>obtain ⟨t,rfl⟩:=rx;exact SeqAt.EqAt.none_str b t
  | _=>exact absurd (show false=true from fx) Bool.false_ne_true
 | bl a =>
  cases ry
  cases x with
  | non=>cases rx;exact SeqAt.EqAt.bool_none a
  | bl b=>cases rx;exact SeqAt.EqAt.bool_bool a b
  | int b=>obtain ⟨t,rfl⟩:=rx;exact SeqAt.EqAt.bool_int a b t
  | str b=>obtain ⟨t,rfl⟩:=rx;exact SeqAt.EqAt.bool_str a b t
  | _=>exact absurd (show false=true from fx) Bool.false_ne_true
 | int a =>
  obtain ⟨t',rfl⟩:=ry
  cases x with
  | non=>cases rx;exact SeqAt.EqAt.int_none a t'
  | bl b=>cases rx;exact SeqAt.EqAt.int_bool a t' b
  | int b=>obtain ⟨t,rfl⟩:=rx;exact SeqAt.EqAt.int_int a t' b t
  | str b=>obtain ⟨t,rfl⟩:=rx;exact SeqAt.EqAt.int_str a t' b t
  | _=>exact absurd (show false=true from fx) Bool.false_ne_true
 | str a =>
  obtain ⟨t',rfl⟩:=ry
  cases x with
  | non=>cases rx;exact SeqAt.EqAt.str_none a t'
  | bl b=>cases rx;exact SeqAt.EqAt.str_bool a t' b
  | int b=>obtain ⟨t,rfl⟩:=rx;exact SeqAt.EqAt.str_int a t' b t
  | str b=>obtain ⟨t,rfl⟩:=rx;exact SeqAt.EqAt.str_str a t' b t
  | _=>exact absurd (show false=true from fx) Bool.false_ne_true
 | _=>exact absurd (show false=true from fy) Bool.false_ne_true
def eqU (x:V) (u:Value):Bool:=match u with
 | .none=>eqV .non x
 | .bool b=>eqV (.bl b) x
 | .int i _=>eqV (.int i) x
 | .str z _=>eqV (.str z) x
 | _=>false
theorem yC {x y:V}{u:Value} (r:df y u) (f:lI y=true):eqU x u=eqV y x:=by
 cases y with
 | non=>cases r;rfl
 | bl b=>cases r;rfl
 | int i=>obtain ⟨t,rfl⟩:=r;rfl
 | str z=>obtain ⟨t,rfl⟩:=r;rfl
 | _=>exact absurd (show false=true from f) Bool.false_ne_true
theorem km {x:V}:∀{xs:List V}{us:List Value},bO xs us->xs.all lI=true->us.any (eqU x)=xs.any fun y=>eqV y x
 | _,_,.nil,_=>rfl
 | y::xs,u::us,.cons r t,f=>by
  rw [List.all_cons,Bool.and_eq_true] at f
  rw [List.any_cons,List.any_cons,yC r f.1,km t f.2]
theorem i8 {A:Around}{s:Shared}{x:V}{v:Value} (rx:df x v) (fx:lI x=true):∀{xs:List V}{us:List Value},bO xs us->xs.all lI=true->∀u∈us,SeqAt.EqAt A s u v (eqU x u)
 | _,_,.nil,_=>fun u hu=>by cases hu
 | y::xs,u::us,.cons r t,f=>fun u' hu=>by
  rw [List.all_cons,Bool.and_eq_true] at f
  rcases List.mem_cons.mp hu with rfl | hu
  .rw [yC r f.1];exact BN r rx f.1 fx
  .exact i8 rx fx t f.2 u' hu
def inV (x:V) (xs:List V):Bool:=xs.any fun y=>eqV y x
def rIn (K:PySem.W.Frag) (neg:Bool):R2:=fun x y H Q=>∃p xs,y=.ref p/\(SqL K H p xs\/SqT K H p xs)/\lI x=true/\xs.all lI=true/\Q (.bl (if neg then !inV x xs else inV x xs)) H
theorem ur:OpR X (compareOp .In) (rIn X.K false):=by
 intro pins s σ H x y v u Q I rx ry h
 obtain ⟨p,xs,rfl,hq,fx,fs,q⟩:=h
 cases ry
 rcases hq with hq | hq
 .obtain ⟨its,r,pl,hz⟩:=I.list hq
  refine SeqAt.in_listAt (eqU x) pl.isList (fun w hw=>i8 rx fx r fs w (by simpa using hw)) ⟨.bl _,H,I,rfl,?_⟩
  rw [show its.toArray.any (eqU x)=its.any (eqU x) by simp,km r fs]
  exact q
 .obtain ⟨its,r,pl,hz⟩:=I.tuple hq
  refine SeqAt.in_tupleAt (eqU x) pl (fun w hw=>i8 rx fx r fs w (by simpa using hw)) ⟨.bl _,H,I,rfl,?_⟩
  rw [show its.toArray.any (eqU x)=its.any (eqU x) by simp,km r fs]
  exact q
theorem oQ:OpR X (compareOp .NotIn) (rIn X.K true):=by
 intro pins s σ H x y v u Q I rx ry h
 obtain ⟨p,xs,rfl,hq,fx,fs,q⟩:=h
 cases ry
 rcases hq with hq | hq
 .obtain ⟨its,r,pl,hz⟩:=I.list hq
  refine SeqAt.notIn_listAt (eqU x) pl.isList (fun w hw=>i8 rx fx r fs w (by simpa using hw)) ⟨.bl _,H,I,rfl,?_⟩
  rw [show its.toArray.any (eqU x)=its.any (eqU x) by simp,km r fs]
  exact q
 .obtain ⟨its,r,pl,hz⟩:=I.tuple hq
  refine SeqAt.notIn_tupleAt (eqU x) pl (fun w hw=>i8 rx fx r fs w (by simpa using hw)) ⟨.bl _,H,I,rfl,?_⟩
  rw [show its.toArray.any (eqU x)=its.any (eqU x) by simp,km r fs]
  exact q
theorem jO:bK X (.builtin "len") (fun xs H Q=>∃p ys,xs=[.ref p]/\(SqL X.K H p ys\/SqT X.K H p ys)/\Q (.int ys.length) H):=by
 intro pins s σ H xs us Q I r h
 obtain ⟨p,ys,rfl,hq,q⟩:=h
 obtain ⟨u,rfl,rx⟩:=ib r
 cases rx
 have hn:=l9
 rcases hq with hq | hq
 .obtain ⟨its,r',pl,hz⟩:=I.list hq
  have hlen:=r'.length
  exact Calls.call_len_list pl.isList (by simp only [List.size_toArray] <;> omega) ⟨.int ys.length,H,I.tok _,⟨s.toks + 1,by rw [List.size_toArray,hlen]⟩,q⟩
 .obtain ⟨its,r',pl,hz⟩:=I.tuple hq
  have hlen:=r'.length
  exact len_tuple pl (by simp only [List.size_toArray] <;> omega) ⟨.int ys.length,H,I.tok _,⟨s.toks + 1,by rw [List.size_toArray,hlen]⟩,q⟩
theorem oR:bK X (.builtin "len") (fun xs H Q=>∃z,xs=[.str z]/\z.length<=sizeLine/\Q (.int z.length) H):=by
 intro pins s σ H xs us Q I r h
 obtain ⟨z,rfl,hz,q⟩:=h
 obtain ⟨u,rfl,t,rfl⟩:=ib r
 have hn:=l9
 exact len_str (by omega) ⟨.int z.length,H,I.tok _,⟨_,rfl⟩,q⟩
theorem bK.or {f:Value}{r r':List V->Hp->VK->Prop} (h:bK X f r) (h':bK X f r'):bK X f (fun xs H Q=>r xs H Q\/r' xs H Q):=by
 intro pins s σ H xs us Q I rs q
 rcases q with q | q
 .exact h pins s σ H xs us Q I rs q
 .exact h' pins s σ H xs us Q I rs q
theorem oS:bK X (.type "list") (fun xs H Q=>∃p ys,xs=[.ref p]/\(SqL X.K H p ys\/SqT X.K H p ys)/\∀l,H l=none->Q (.ref l) (upd H l (.lst ys))):=by
 intro pins s σ H xs us Q I r h
 obtain ⟨p,ys,rfl,hq,q⟩:=h
 obtain ⟨u,rfl,rx⟩:=ib r
 cases rx
 have fin:∀(its:List Value),bO ys its->ys.length<=sizeLine->∀(h':Heap) (c':Nat),(∀b o',s.heap.get? b=some o'->h'.get? b=some o') ->
   h'.get? s.heap.objs.size=some { cls:=.type "list",dict:=none,data:=.seq its.toArray c',slots:=#[] }->EP X pins σ Q (.ref s.heap.objs.size) { s with heap:=h' }:=fun its r' hz h' c' kp e =>
  ⟨.ref s.heap.objs.size,_,I.laid (t':=s.toks) kp (Nat.le_refl _) (show bD X.prog X.w _ h' _ (.lst ys) from ⟨hz,its,c',r',e⟩),rfl,q _ (I.hok.fresh (Nat.le_refl _))⟩
 rcases hq with hq | hq
 .obtain ⟨its,r',pl,hz⟩:=I.list hq
  have hlen:=r'.length
  obtain ⟨o,ho,hc,n,hd⟩:=pl.isList
  exact call_list_seq p (.inl rfl) ho hc hd (fun h' c' kp e=>fin its r' hz h' c' kp e) (by simp only [List.size_toArray] <;> omega)
 .obtain ⟨its,r',pl,hz⟩:=I.tuple hq
  have hlen:=r'.length
  obtain ⟨o,ho,hc,n,hd⟩:=pl
  exact call_list_seq p (.inr rfl) ho hc hd (fun h' c' kp e=>fin its r' hz h' c' kp e) (by simp only [List.size_toArray] <;> omega)
theorem mY:bK X (.type "tuple") (fun xs H Q=>∃p ys,xs=[.ref p]/\((SqL X.K H p ys/\∀l,H l=none->Q (.ref l) (upd H l (.tup ys)))\/(SqT X.K H p ys/\Q (.ref p) H))):=by
 intro pins s σ H xs us Q I r h
 obtain ⟨p,ys,rfl,h⟩:=h
 obtain ⟨u,rfl,rx⟩:=ib r
 cases rx
 rcases h with ⟨hq,q⟩ | ⟨hq,q⟩
 .obtain ⟨its,r',pl,hz⟩:=I.list hq
  have hlen:=r'.length
  refine call_tuple_list pl.isList (fun h' kp=>?_) (by simp only [List.size_toArray] <;> omega)
  have I1:Inv X pins σ H { s with heap:=h' }:=I.kept (t':=s.toks) kp
  have I2:Inv X pins σ (upd H h'.objs.size (.tup ys)) { s with heap:=h'.push { cls:=.type "tuple",data:=.seq its.toArray } } :=
   I1.laid (t':=s.toks) (fun b o e=>Heap.get?_push_of_some _ e) (Nat.le_refl _) (show bD X.prog X.w _ _ _ (.tup ys) from ⟨hz,its,r',IsTup.new _ _⟩)
  exact ⟨.ref h'.objs.size,_,I2,rfl,q _ (I1.hok.fresh (Nat.le_refl _))⟩
 .obtain ⟨its,r',pl,hz⟩:=I.tuple hq
  exact call_tuple_same pl ⟨.ref p,H,I,rfl,q⟩
def tyV (K:PySem.W.Frag) (T:String) (x:V) (H:Hp):Prop:=match x with
 | .str _=>T="str"
 | .int _=>T="int"
 | .ref p=>(T="list"/\∃xs,SqL K H p xs)\/(T="tuple"/\∃o,K.lookup p=some o/\o.cls=.type "tuple"/\o.dict=none) \/
   (T="dict"/\((∃kvs,H p=some (.dK kvs))\/∃kvs,H p=some (.dT kvs)))\/(T="set"/\∃S n,H p=some (.set S n))
 | _=>False
theorem BO {pins:List (Addr×Obj)}{σ:St}{H:Hp}{s:Shared}{T:String}{x:V}{v:Value} (I:Inv X pins σ H s) (r:df x v) (ty:tyV X.K T x H) :
  s.TypeIs v T/\∀a,v=.ref a->∃ob,s.heap.get? a=some ob/\ob.dict=none:=by
 cases x with
 | str z =>
  obtain ⟨t,rfl⟩:=r
  cases (show T="str" from ty)
  exact ⟨typeIs_str s z t,fun _ e=>nomatch e⟩
 | int i =>
  obtain ⟨t,rfl⟩:=r
  cases (show T="int" from ty)
  exact ⟨typeIs_int s i t,fun _ e=>nomatch e⟩
 | ref p =>
  cases r
  rcases ty with ⟨rfl,xs,hq⟩ | ⟨rfl,o,hk,hc,hd⟩ | ⟨rfl,hk⟩ | ⟨rfl,S,n,hk⟩
  .obtain ⟨its,_,pl,_⟩:=I.list hq
   refine ⟨pl.isList.typeIs,fun a e=>?_⟩
   cases e
   obtain ⟨o,n,e,c,hd,_⟩:=pl
   exact ⟨o,e,hd⟩
  .refine ⟨⟨o,I.kIn p o hk,hc⟩,fun a e=>?_⟩
   cases e
   exact ⟨o,I.kIn _ o hk,hd⟩
  .have z:∃o,s.heap.get? p=some o/\o.ExactDict:=by
    rcases hk with ⟨kvs,hk⟩ | ⟨kvs,hk⟩
    .obtain ⟨_,_,_,_,o,_,_,e,ex,_⟩:=I.hok p _ hk
     exact ⟨o,e,ex⟩
    .obtain ⟨_,_,_,_,o,_,_,e,ex,_⟩:=I.hok p _ hk
     exact ⟨o,e,ex⟩
   obtain ⟨o,e,ex⟩:=z
   refine ⟨⟨o,e,ex.1⟩,fun a e2=>?_⟩
   cases e2
   exact ⟨o,e,ex.2.1⟩
  .obtain ⟨o,_,_,_,e,ex,_⟩:=I.hok p _ hk
   refine ⟨⟨o,e,ex.1⟩,fun a e2=>?_⟩
   cases e2
   exact ⟨o,e,ex.2.1⟩
 | _=>exact False.elim ty
def tBM (K:PySem.W.Frag) (T:String) (r:V->List V->Hp->VK->Prop) (to:TE) (t:TA):TE:=fun σ H Q=>to σ H fun x H1=>tyV K T x H1/\t σ H1 fun xs H2=>r x xs H2 Q
variable {o e:Expr}{es:List Expr}{to:TE}{t:TA}{name:Str}{apos cpos:Pos}{T id:String}{r:V->List V->Hp->VK->Prop}
theorem DL (pa:PlainAttrs T) (slot:Slot T name id) (hty:typeOf (.builtin id)=pure (.type "method_descriptor")) (hm:MtR X id r) (ho:PE X o to) (ha:PA X (e::es) t)
  (hbase:attributeBase o name X.env (eval o X.env)=eval o X.env:=by rfl)
  (hfew:((backTo cpos (starEach (e::es) X.env)).all (fun x=>!x.1) && (backToKw cpos (keywordEach [] X.env)).all (fun x=>x.1.isSome)
   && decide ((e::es).length + ([]:List Keyword).length + (if ([]:List Keyword).isEmpty then 0 else 1) < 30))=true:=by rfl)
  (hline:(apos.endLine == cpos.line)=true:=by rfl) (hs:starEach (e::es) X.env=(false,eval e X.env)::starEach es X.env:=by rfl) (hplain:(backTo cpos (starEach es X.env)).any (·.1)=false:=by rfl) :
  PE X (.Call (.Attribute o name apos) (e::es) [] cpos) (tBM X.K T r to t):=by
 intro pins s σ H Q I h
 refine wpAny_Call_method_late hbase hfew hline rfl (thn (ho pins s σ H _ I h) fun v s1 ⟨x,H1,I1,r1,ty,q1⟩=>?_)
 obtain ⟨h1,h2⟩:=BO I1 r1 ty
 refine ⟨T,id,pa,slot,hty,h1,h2,?_⟩
 have hA:=ha cpos pins s1 σ H1 _ I1 q1
 rw [hs] at hA ⊢
 refine Calls.callWith_builtin (by show (false || (backTo cpos (starEach es X.env)).any (·.1))=false;rw [hplain] <;> rfl) (Calls.evalArgs_plain ?_)
 exact thn hA fun us s2 ⟨vs,H2,I2,r2,q2⟩=>hm pins s2 σ H2 x vs v us Q I2 r1 r2 q2
end
def MtM (X:Cx) (id:String) (r:V->List V->Hp->VK->Prop):Prop :=
 ∀(pins:List (Addr×Obj)) (s:Shared) (σ:St) (H:Hp) (x:V) (xs:List V) (v:Value) (us:List Value) (Q:VK),Inv X pins σ H s->df x v->bO xs us->r x xs H Q ->
  wpAny (model X.prog X.w) X.A (call (.builtin id) (v::us)) (EP X pins σ Q) X.xe s
theorem bO.one:∀{x:V}{us:List Value},bO [x] us->∃u,us=[u]/\df x u
 | _,_,.cons r .nil=>⟨_,rfl,r⟩
theorem bO.eraseIdx:∀{xs:List V}{us:List Value} (i:Nat),bO xs us->bO (xs.eraseIdx i) (us.eraseIdx i)
 | _,_,_,.nil=>.nil
 | _,_,0,.cons _ t=>t
 | _,_,i + 1,.cons r t=>.cons r (bO.eraseIdx i t)
theorem bO.reverse {xs:List V}{us:List Value} (h:bO xs us):bO xs.reverse us.reverse:=by
 induction h with
 | nil=>exact .nil
 | cons r t ih=>rw [List.reverse_cons,List.reverse_cons];exact bO.append ih (.cons r .nil)
theorem bO.rep {xs:List V}{us:List Value} (h:bO xs us):∀k:Nat,bO (List.replicate k xs).flatten (List.replicate k us).flatten
 | 0=>.nil
 | k + 1=>by
  rw [List.replicate_succ,List.replicate_succ,List.flatten_cons,List.flatten_cons]
  exact bO.append h (bO.rep h k)
theorem oU {α:Type}:∀(l:List α) (i:Nat),(l.eraseIdx i).length<=l.length
 | [],_=>Nat.le_refl _
 | _::_,0=>Nat.le_succ _
 | _::r,i + 1=>Nat.succ_le_succ (oU r i)
theorem oV (its:List Value):∀(k:Nat) (acc:List Value),
  List.foldl (fun x1 x2=>x1++x2) acc.toArray (List.replicate k its.toArray)=(acc++(List.replicate k its).flatten).toArray
 | 0,acc=>by simp
 | k + 1,acc=>by
  have e:acc.toArray++its.toArray=(acc++its).toArray:=by simp
  have e2:(acc++its)++(List.replicate k its).flatten=acc++(List.replicate (k + 1) its).flatten:=by
   rw [List.replicate_succ,List.flatten_cons,List.append_assoc]
  rw [<- e2,<- oV its k (acc++its),<- e,List.replicate_succ,List.foldl_cons]
section
variable {X:Cx}{pins:List (Addr×Obj)}{σ:St}{H:Hp}{s:Shared}{l b:Addr}{xs ys zs:List V}
theorem Inv.lset {its its':List Value}{n:Nat}{f:Array Value->Array Value}{t':Nat} (I:Inv X pins σ H s) (hH:H l=some (.lst xs))
  (e:s.heap.get? l=some { cls:=.type "list",data:=.seq its.toArray n }) (hf:f its.toArray=its'.toArray) (hv:bO ys its') (hz:ys.length<=sizeLine) :
  Inv X pins σ (upd H l (.lst ys)) { s with heap:=s.heap.update l (Obj.mapSeq f),toks:=t' }:=by
 have q:=PySem.IsL.update e f
 rw [hf] at q
 refine I.write (x:=l) (e:=l) (by rw [hH];exact trivial) (.inl rfl) (fun b' u hb hu=>(Heap.get?_update_other s.heap (Obj.mapSeq f) (Ne.symm hb)).trans hu) ⟨_,q⟩ ?_
 exact ⟨hz,its',_,hv,q⟩
theorem Inv.lnew {its:List Value}{t':Nat} (I:Inv X pins σ H s) (hv:bO ys its) (hz:ys.length<=sizeLine) :
  Inv X pins σ (upd H s.heap.objs.size (.lst ys)) { s with heap:=s.heap.push { cls:=.type "list",data:=.seq its.toArray },toks:=t' } :=
 I.laid (fun _ _ q=>Heap.get?_push_of_some _ q) (Nat.le_refl _) ⟨hz,its,0,hv,Heap.get?_push_size _ rfl⟩
theorem Inv.fresh (I:Inv X pins σ H s):H s.heap.objs.size=none:=I.hok.fresh (Nat.le_refl _)
theorem Inv.lstM (I:Inv X pins σ H s) (hH:H l=some (.lst xs)):xs.length<=sizeLine/\∃(its:List Value) (n:Nat),bO xs its/\xs.length=its.length/\s.heap.get? l=some { cls:=.type "list",data:=.seq its.toArray n }:=by
 obtain ⟨z,its,n,r,e⟩:=I.hok l _ hH
 exact ⟨z,its,n,r,r.length,e⟩
theorem xf {n:Nat} (h:n<=sizeLine):Builtin.List.listTooLong n=false:=by
 unfold Builtin.List.listTooLong
 exact decide_eq_false (by omega)
end
section
variable {X:Cx}
def ut:V->List V->Hp->VK->Prop:=fun x vs H Q=>∃l xs y,x=.ref l/\vs=[y]/\H l=some (.lst xs)/\xs.length < sizeLine/\Q .non (upd H l (.lst (xs++[y])))
theorem dk:MtM X "list.append" ut:=by
 intro pins s σ H x vs v us Q I rx rv h
 obtain ⟨l,xs,y,rfl,rfl,hH,hz,q⟩:=h
 cases rx
 obtain ⟨u,rfl,ru⟩:=rv.one
 obtain ⟨z,its,n,r,hl,e⟩:=I.lstM hH
 refine call_meets F.slot_list_append ⟨_,e,rfl⟩ F.entry_list_append (F.args_list_append_2 _ _) (PySem.list_append l its.toArray n u (by rw [List.size_toArray];omega)) ⟨e,?_⟩
 refine ⟨.non,_,I.lset (its':=its++[u]) hH e (by simp) (r.append (.cons ru .nil)) ?_,rfl,q⟩
 rw [List.length_append,List.length_singleton]
 omega
def yD:V->List V->Hp->VK->Prop:=fun x vs H Q=>∃l xs i k y,x=.ref l/\vs=[.int i]/\H l=some (.lst xs)/\-(2 ^ 63)<=i/\i < 2 ^ 63/\seqIndex? i xs.length=some k/\xs[k]?=some y/\Q y (upd H l (.lst (xs.eraseIdx k)))
theorem xg:MtM X "list.pop" yD:=by
 intro pins s σ H x vs v us Q I rx rv h
 obtain ⟨l,xs,i,k,y,rfl,rfl,hH,h1,h2,hk,hy,q⟩:=h
 cases rx
 obtain ⟨u,rfl,ru⟩:=rv.one
 obtain ⟨t,rfl⟩:=ru
 obtain ⟨z,its,n,r,hl,e⟩:=I.lstM hH
 obtain ⟨w,hw,rw'⟩:=r.get hy
 refine call_meets F.slot_list_pop ⟨_,e,rfl⟩ F.entry_list_pop (F.args_list_pop_2 _ _)
  (MeetsSeq.list_pop_at l its.toArray n i t k w (fitsIndex_both h1 h2) (by rw [List.size_toArray,<- hl];exact hk) (by rw [<- Array.getElem?_toList];exact hw) (by rw [List.size_toArray];omega)) ⟨e,?_⟩
 refine ⟨y,_,I.lset (its':=its.eraseIdx k) hH e ?_ (r.eraseIdx k) ?_,rw',q⟩
 .show its.toArray.eraseIdxIfInBounds k=(its.eraseIdx k).toArray
  rw [List.eraseIdxIfInBounds_toArray]
 .have:=oU xs k
  omega
def EZ:R2:=fun x y H Q=>∃l k xs,x=.ref l/\y=.int k/\H l=some (.lst xs)/\-(2 ^ 63)<=k/\k < 2 ^ 63/\xs.length * k.toNat<=sizeLine /\
 ∀p,H p=none->Q (.ref p) (upd H p (.lst (List.replicate k.toNat xs).flatten))
theorem zM {α:Type} (xs:List α) (k:Nat):(List.replicate k xs).flatten.length=k * xs.length:=by
 induction k with
 | zero=>simp
 | succ k ih=>rw [List.replicate_succ,List.flatten_cons,List.length_append,ih,Nat.succ_mul,Nat.add_comm]
theorem BP:OpR X (binaryOp .Mult) EZ:=by
 intro pins s σ H x y v u Q I rx ry h
 obtain ⟨l,k,xs,rfl,rfl,hH,h1,h2,hz,q⟩:=h
 cases rx
 obtain ⟨t,rfl⟩:=ry
 obtain ⟨z,its,n,r,hl,e⟩:=I.lstM hH
 have hlen:its.toArray.size * k.toNat<=sizeLine:=by rw [List.size_toArray,<- hl];exact hz
 have hcap:¬ its.toArray.size * k.toNat > (2 ^ 63 - 1) / 8:=by
  have:(sizeLine:Nat)<=(2 ^ 63 - 1) / 8:=by decide
  omega
 have hfit:¬ (!Builtin.List.listFitsIndex k)=true:=by
  rw [fitsIndex_both h1 h2]
  exact Bool.false_ne_true
 have hlong:¬ Builtin.List.listTooLong (its.toArray.size * k.toNat)=true:=by
  rw [xf hlen]
  exact Bool.false_ne_true
 have hnew:List.foldl (fun x1 x2=>x1++x2) #[] (List.replicate (if its.toArray.isEmpty=true then 0 else k.toNat) its.toArray)=(List.replicate k.toNat its).flatten.toArray:=by
  have f0:∀m:Nat,List.foldl (fun x1 x2=>x1++x2) #[] (List.replicate m its.toArray)=(List.replicate m its).flatten.toArray:=fun m=>by
   have:=oV its m []
   rw [List.nil_append] at this
   exact this
  rw [f0]
  cases its with
  | nil=>simp
  | cons a r'=>rw [if_neg (by simp)]
 refine wpAny_binaryOp_repeat_ref (T:="list") (U:="int") (by decide) ⟨_,e,rfl⟩ (fun s'=>typeIs_int s' k t) noFill_list_mul F.fills_int_mul F.slot_int_rmul repeat_list F.slot_int_index.lookup
  (call_meets F.slot_int_rmul (typeIs_int s k t) F.entry_int_rmul (F.args_int_rmul_2 _ _) (int___rmul___int_list k t l its.toArray n)
   ⟨e,rfl,⟨_,e,rfl⟩,call_meets F.slot_list_mul ⟨_,e,rfl⟩ F.entry_list_mul (F.args_list_mul_2 _ _) (AutoListH.list___mul___list_int_3 l its.toArray n k t hfit hcap hlong) ⟨e,?_⟩⟩)
 rw [hnew]
 exact ⟨.ref _,_,I.lnew (t':=s.toks) (r.rep k.toNat) (by rw [zM,Nat.mul_comm];exact hz),rfl,q _ I.fresh⟩
end
end L2
namespace Att
open PySem PySem.W PySem.Calls PyProof.Rows
theorem kn {P:Params}{h:Heap}:∀(ns:List Int) (vs:List Value),WellAll P h vs (ns.map WData.int)->IntsAre vs ns:=by
 intro ns
 induction ns with
 | nil =>
  intro vs w
  rw [List.map_nil] at w
  cases w
  exact .nil
 | cons n ns ih =>
  intro vs w
  rw [List.map_cons] at w
  cases w with
  | cons a b =>
   cases a
   exact .cons _ _ (ih _ b)
theorem uu {l:OpenLaw}{n:Nat} (hn:l.most=some n) {P:Params}{h:Heap}{args:List WData}{vals:List Value}
  (hpre:l.row.toRowW.claim.pre args=true) (hwl:WellAll P h vals args) :
  ∃a vs ns,vals=[Value.ref a]/\args=[WData.list (ns.map WData.int)]/\h.get? a=some { cls:=.type "list",data:=.seq vs.toArray }/\IntsAre vs ns/\ns.length<=n:=by
 have hsh:WShape.hasAll [] args [.list .int]=true:=(pre_splitW hpre).1
 have hc:l.pre.holds [] { args:=args }=true:=(pre_splitW hpre).2
 obtain ⟨d,r,rfl,h1,h2⟩:=hasAllW_cons hsh
 obtain rfl:=hasAllW_nil h2
 obtain ⟨xs,rfl,h3⟩:=hasW_list h1
 obtain ⟨ns,rfl⟩:=items_int h3
 have hlen:ns.length<=n:=by
  unfold OpenLaw.pre at hc
  have h4:(WTm.not (.lt (.lit (.int (n:Int))) (.len (.arg 0)))).holds [] { args:=[.list (ns.map .int)] }=true:=by
   have h4:=(holds_andW hc).1
   rw [hn] at h4
   exact h4
  have h5:=condW_of h4 (w_not (w_lt w_lit (w_len_list (w_arg rfl))))
  rw [List.length_map] at h5
  refine Nat.le_of_not_lt fun q=>?_
  have q':(n:Int) < ((ns.length:Nat):Int):=by omega
  first
   | (rw [decide_eq_true q'] at h5;exact absurd h5 (by decide))
   | (simp at h5;omega)
 cases hwl with
 | cons w1 w2 =>
  cases w2
  cases w1 with
  | list ho hall=>exact ⟨_,_,ns,rfl,rfl,ho,kn ns _ hall,hlen⟩
theorem uw (l:OpenLaw) (args:List WData):l.row.toRowW.claim.post args (.bool true) args=true :=
 postW_of (r:=l.row.toRowW) (X:=(true == true))
  (show WShape.has [] (.bool true) .bool=true by first | rfl | decide | simp [WShape.has,WShape.arms,WShape.armsAll])
  (show (WTm.eq .res (.lit (.bool true))).value [] { args:=args,res:=some (.bool true),after:=args }=some (.bool (true == true)) from w_eq_bool (w_res rfl) w_lit) rfl
theorem attach_call {l:OpenLaw}{n:Nat}{q:Program}{loose:List Str}{XP:(Str->Option Value)->Heap->Prop}{YP:World->Heap->Prop}{d:DefRec}
  (hn:l.most=some n) (hdf:d.params.defaults=[])
  (call:∀(w:World) (s₀ s₁:Shared) (mg mb:Str->Option Value) (fa:Addr) (o:Obj) (pm cd doc:Value) (a:Addr) (vs:List Value) (ns:List Int),
   Ground q loose [] XP w s₀ mg mb s₁.heap->YP w s₁.heap ->
   s₁.heap.get? fa=some o->o.data=.func (docDef d.name d.params d.body d.scope pm cd doc)->s₁.heap.CodeRec cd d.name->mg d.name=some (.ref fa) ->
   s₁.heap.get? a=some { cls:=.type "list",data:=.seq vs.toArray }->IntsAre vs ns->ns.length<=n->s₁.gens=#[] ->
   codeAny (model l.prog w) callerA (.call (.ref fa) ⟨[.ref a],[]⟩) (fun r s'=>r=.ok (.ret (.bool true))/\OldK s₁.heap s'.heap/\s'.os=s₁.os/\AllBare s'.gens) s₁) :
  WalkO q loose XP YP l.row.toRowW d [] (fun f vs=>PySem.call f vs):=by
 intro w s₀ s₁ mg mb G Y fa o pm cd doc dV kV ho hd hcd hD hmg hg args vals as hpre hlay hrd hwl hlo
 obtain rfl:dV=.none:=Dflts.none hD hdf
 obtain rfl:kV=.none:=Dflts.noKw hD
 obtain ⟨a,vs,ns,rfl,rfl,hobj,hints,hlen⟩:=uu hn hpre hwl
 refine enter_call (codeAny_mono (call w s₀ s₁ mg mb fa o pm cd doc a vs ns G Y ho (fd_plain hd) hcd hmg hobj hints hlen hg) fun r s' hq=>?_)
 obtain ⟨rfl,h2,h3,h4⟩:=hq
 exact ⟨.inl ⟨.bool true,.bool true,[],rfl,fun _=>rfl,.bool true,uw l _,fun _=>⟨List.Pairwise.nil,fun _ hm=>(nomatch hm)⟩⟩,h2,h3,h4⟩
end Att
namespace L2
open PySem PySem.Spec PyProof.Rows
theorem i9:∀{vs:List Value}{ns:List Int},IntsAre vs ns->bO (ns.map V.int) vs
 | _,_,.nil=>.nil
 | _,_,.cons n t h=>.cons ⟨t,rfl⟩ (i9 h)
def DM (H:Hp):Prop:=∀b,H b=none\/∃o xs,H b=some (.frz o (.lst xs))
theorem xh {P:Program}{w:World}{K:PySem.W.Frag}{mg mb:Str->Option Value}{CX:CXT}{k:Nat}{fa a:Addr}{fd:FuncData}{x:Str}{sp:Sp}{s₁:Shared}{vs:List Value}{ns:List Int}
  (KX:K.In s₁.heap) (hns:s₁.heap.Ns mainGlobals mg) (hb:s₁.heap.Ns builtinsNs mb) (hbb:∀x:Str,x≠"__name__"->mb x=bootBuiltins x) (hlim:s₁.heap.NoLimit) (hg:s₁.gens=#[])
  (ha:s₁.heap.get? a=some { cls:=.type "list",data:=.seq vs.toArray }) (hi:IntsAre vs ns) (hl:ns.length<=sizeLine) (hr:gj k callerA)
  (F:∀base:Heap,K.In base->base.Ns mainGlobals mg->lH P w K mg base CX k fa fd [x] sp) (hbind:∀(s:Shared) (u:Value),BindsTo s fd ⟨[u],[]⟩ [(x,u)])
  (hsp:∀H:Hp,DM H->SqL K H a (ns.map V.int)->sp [.ref a] H (fun v _=>v=.bl true) fun _ _ _=>False)
  (hCX:∀H e s',CX [] H s₁ (fun _ _ _=>False) e s'->False) :
  codeAny (model P w) callerA (.call (.ref fa) ⟨[.ref a],[]⟩) (fun r s'=>r=.ok (.ret (.bool true))/\OldK s₁.heap s'.heap/\s'.os=s₁.os/\AllBare s'.gens) s₁:=by
 have rv:=i9 hi
 have lenV:=hi.length
 -- from an abstract heap in which nothing but the script may be tracked
 have core:∀H:Hp,DM H->SqL K H a (ns.map V.int)->HOk P w H s₁.heap->(∀b,H b≠none->b=a)->(H a≠none->K.lookup a=none) ->
   codeAny (model P w) callerA (.call (.ref fa) ⟨[.ref a],[]⟩) (fun r s'=>r=.ok (.ret (.bool true))/\OldK s₁.heap s'.heap/\s'.os=s₁.os/\AllBare s'.gens) s₁:=by
  intro H hO hS hok hA hK
  have base_of:∀{b:Addr}{o:Obj},s₁.heap.get? b=some o->H b=none->(wM s₁.heap H).get? b=some o:=fun e n=>wN e n
  have noA:∀{b:Addr}{o:Obj}{es:Array DictEntry}{ep:Nat},s₁.heap.get? b=some o->o.data=.dict es ep->H b=none:=fun {b o es ep} e d=>by
   cases q:H b with
   | none=>rfl
   | some u =>
    have e':b=a:=hA b (by rw [q];simp)
    subst e'
    rw [ha] at e;cases e
    have d':Data.seq vs.toArray _=Data.dict es ep:=d
    cases d'
  have nsK:∀{b:Addr}{m:Str->Option Value},s₁.heap.Ns b m->(wM s₁.heap H).Ns b m:=fun {b m} ⟨o,es,ep,e,d,r⟩=>⟨o,es,ep,base_of e (noA e d),d,r⟩
  have hKb:K.In (wM s₁.heap H):=fun b o e=>base_of (KX b o e) (by
   cases q:H b with
   | none=>rfl
   | some u =>
    have e':b=a:=hA b (by rw [q];simp)
    subst e'
    rw [hK (by rw [q];simp)] at e;cases e)
  have hM:Mod K mg (wM s₁.heap H):=⟨hKb,nsK hns,⟨mb,nsK hb,hbb⟩,let ⟨mc,h1,h2⟩:=hlim;⟨mc,nsK h1,h2⟩⟩
  have e0:zC P w K mg (wM s₁.heap H) callerA [] s₁ H:=⟨rfl,hM,fun b o e=>zn e,Nat.le_of_eq (t7 _ _),trivial,fun b hb=>absurd (show b∈([]:List Addr) from hb) (by simp),hok,.of_eq hg⟩
  refine codeAny_mono ((F _ hKb (nsK hns)).run callerA [] s₁ H ⟨[.ref a],[]⟩ [.ref a] [.ref a] _ _ hr e0 (hbind s₁ (.ref a)) (.cons rfl .nil) (hsp H hO hS)) fun r s' h=>?_
  cases r with
  | error e=>exact (hCX H e s' h).elim
  | ok fl =>
   cases fl with
   | next=>exact False.elim h
   | brk=>exact False.elim h
   | cont=>exact False.elim h
   | ret u =>
    obtain ⟨v,H',os,bare,un,hok',r',q⟩:=h
    have q':v=.bl true:=q
    subst q'
    obtain rfl:u=Value.bool true:=r'
    refine ⟨rfl,OldK.of_keep fun b o e=>?_,os,bare⟩
    cases q:H b with
    | none=>exact un.keep b o e q (by intro z;exact absurd (show b∈([]:List Addr) from z) (by simp)) (by simp)
    | some u =>
     rcases hO b with z | ⟨ob,xs,z⟩
     .rw [q] at z;cases z
     .have z2:=un.frzs b ob _ z
      obtain ⟨e1,_⟩:=hok b _ z
      obtain ⟨e2,_⟩:=hok' b _ z2
      rw [e] at e1;cases e1
      exact e2
 cases hk:K.lookup a with
 | some o =>
  -- the script is one of the module's own objects
  have e:=KX a o hk
  rw [ha] at e
  cases e
  refine core (fun _=>none) (fun _=>.inl rfl) (.inr ⟨_,vs.toArray,_,hk,rfl,rfl,rfl,by rw [List.size_toArray,lenV];exact hl,by simpa using rv⟩) (fun b u z=>by have z':(none:Option HO)=some u:=z;cases z') (fun b z=>absurd rfl z) fun z=>absurd rfl z
 | none =>
  refine core (fun b=>if b=a then some (.frz { cls:=.type "list",data:=.seq vs.toArray } (.lst (ns.map V.int))) else none) (fun b=>?_) (.inl (.inr ⟨{ cls:=.type "list",data:=.seq vs.toArray },if_pos rfl⟩)) (fun b u z=>?_) (fun b z=>?_) fun _=>hk
  .by_cases hb:b=a
   .exact .inr ⟨_,_,if_pos hb⟩
   .exact .inl (if_neg hb)
  .by_cases hb:b=a
   .have z':=(if_pos hb).symm.trans z
    cases z'
    subst hb
    exact ⟨ha,by rw [List.length_map];exact hl,vs,_,rv,ha⟩
   .have z':=(if_neg hb).symm.trans z
    cases z'
  .by_cases hb:b=a
   .exact hb
   .exact absurd (if_neg hb) z
theorem zN {l:PySem.W.OpenLaw}{n k:Nat}{q:Program}{loose:List Str}{XP:(Str->Option Value)->Heap->Prop}{YP:World->Heap->Prop}{d:DefRec}{K:Params->PySem.W.Frag}{CX:World->CXT}{sp:World->Sp}{x:Str}
  (hn:l.most=some n) (hn2:n<=sizeLine) (hdf:d.params.defaults=[]) (hr:gj k callerA)
  (hY:∀(w:World) (h:Heap),YP w h->(K w.params).In h)
  (F:∀(w:World) (mg:Str->Option Value) (fa:Addr) (h:Heap),(K w.params).In h->h.Ns mainGlobals mg->mg d.name=some (.ref fa) ->
   ∃fd:FuncData,(∀(s:Shared) (u:Value),BindsTo s fd ⟨[u],[]⟩ [(x,u)]) /\
    ∀base:Heap,(K w.params).In base->base.Ns mainGlobals mg->lH l.prog w (K w.params) mg base (CX w) k fa fd [x] (sp w))
  (hsp:∀(w:World) (H:Hp) (a:Addr) (ns:List Int),ns.length<=n->DM H->SqL (K w.params) H a (ns.map V.int)->sp w [.ref a] H (fun v _=>v=.bl true) fun _ _ _=>False)
  (hCX:∀(w:World) (H:Hp) (s:Shared) (e:Value) (s':Shared),CX w [] H s (fun _ _ _=>False) e s'->False) :
  PySem.W.WalkO q loose XP YP l.row.toRowW d [] (fun f vs=>PySem.call f vs):=by
 refine Att.attach_call hn hdf fun w s₀ s₁ mg mb fa o pm cd doc a vs ns G Y ho hd hcd hmg hobj hints hlen hg=>?_
 have KX:=hY w _ Y
 obtain ⟨fd,hb,hF⟩:=F w mg fa _ KX G.T.g hmg
 exact xh KX G.T.g G.T.b G.T.builtins G.T.nolimit hg hobj hints (Nat.le_trans hlen hn2) hr hF hb (fun H hO hS=>hsp w H a ns hlen hO hS) fun H e s'=>hCX w H s₁ e s'
def ko (s:Stmt) (j:Nat):Stmt:=match s with
 | .ClassDef _ _ _ body _ _ _ _ _ _ _=>body.getD j (.Pass ⟨0,0,0,0⟩)
 | _=>.Pass ⟨0,0,0,0⟩
def bP (s:Stmt):Arguments:=match s with
 | .FunctionDef _ a _ _ _ _ _ _ _ _=>a
 | _=>{ posonlyargs:=[],args:=[],vararg:=none,kwonlyargs:=[],kw_defaults:=[],kwarg:=none,defaults:=[] }
def bv (s:Stmt):List Stmt:=match s with
 | .FunctionDef _ _ b _ _ _ _ _ _ _=>b
 | _=>[]
def ap (s:Stmt):Scope:=match s with
 | .FunctionDef _ _ _ _ _ _ sc _ _ _=>sc
 | _=>{ kind:=.function,names:=[],isGenerator:=false,isCoroutine:=false }
abbrev CX0:CXT:=fun _ _ _ _ _ _=>False
abbrev E0:XK:=fun _ _ _=>False
theorem xi {X:Cx}:me CX0 X E0:=fun _ _ _ _ _ _ _ h=>h.elim
structure Fun (K:PySem.W.Frag) (x qual:Str) (st:Stmt) (f:Addr) (fd:FuncData):Prop where
 ex:∃(oc:Value) (od:Option Addr) (kV doc pm:Value) (an:Option Addr) (cdv ct:Value) (osl:Array (Option Value)),
  fd=PySem.W.fnOf x qual (bP st) (bv st) (ap st) .none kV doc pm an cdv ct/\K.lookup f=some ⟨oc,od,.func fd,osl⟩/\PySem.W.codeIn K cdv qual=true
 kp:PySem.W.keepIn K (.ref f)=true
section
variable {P:Program}{w:World}{K:PySem.W.Frag}{mg:Str->Option Value}{base:Heap}
theorem Fun.ok {x qual:Str}{st:Stmt}{f:Addr}{fd:FuncData}{N ps:List Str}{k:Nat}{sp:Sp} (F:Fun K x qual st f fd) (S:aK N ps (ap st)) (len:∀vs H Q E,sp vs H Q E->vs.length=ps.length)
  (hbody:∀(cdv:Value) (A:Around) (outer:List Env) (s:Shared) (H:Hp) (vs:List V) (Q:VK) (E:XK),gj k (A.deeper (envOfC qual (ap st) s.heap.objs.size f cdv))->sp vs H Q E ->
   ∃t,PSs (oz CX0 P w K mg base N qual (ap st) f cdv A outer s H E).nox (bv st) t/\t { nx:=fun _ H'=>Q .non H',rt:=Q } (start N vs) H):lH P w K mg base CX0 (k + 1) f fd ps sp:=by
 obtain ⟨oc,od,kV,doc,pm,an,cdv,ct,osl,rfl,lk,hcd⟩:=F.ex
 refine zF lk hcd S len fun A outer s H vs Q E hr hsp=>?_
 obtain ⟨t,h,q⟩:=hbody cdv A outer s H vs Q E hr hsp
 exact ⟨t,h.nox,q⟩
theorem Fun.binds {x qual:Str}{st:Stmt}{f:Addr}{fd:FuncData}{ps:List Str} (F:Fun K x qual st f fd)
  (h:∀(kV doc pm:Value) (an:Option Addr) (cdv ct:Value) (us:List Value),us.length=ps.length->bindArgs (PySem.W.fnOf x qual (bP st) (bv st) (ap st) .none kV doc pm an cdv ct) ⟨us,[]⟩=pure (ps.zip us)):i5 K fd ps []:=by
 obtain ⟨oc,od,kV,doc,pm,an,cdv,ct,osl,rfl,lk,hcd⟩:=F.ex
 exact .all (h kV doc pm an cdv ct)
theorem mh {x qual:Str}{st:Stmt}{f:Addr}{oc:Value}{od an:Option Addr}{osl:Array (Option Value)}{kV doc pm cdv ct:Value} (l:K.lookup f=some ⟨oc,od,.func (PySem.W.fnOf x qual (bP st) (bv st) (ap st) .none kV doc pm an cdv ct),osl⟩)
  (c:PySem.W.codeIn K cdv qual=true) (k:PySem.W.keepIn K (.ref f)=true):Fun K x qual st f (PySem.W.fnOf x qual (bP st) (bv st) (ap st) .none kV doc pm an cdv ct):=⟨⟨oc,od,kV,doc,pm,an,cdv,ct,osl,rfl,l,c⟩,k⟩
end
section
variable {X:Cx}
theorem pv (i:Nat) {x:Str}{pos:Pos} (hN:X.N[i]?=some x:=by rfl) (hv:Vis X.env.scope x:=by first | exact Or.inl rfl | exact Or.inr (Or.inl rfl) | exact Or.inr (Or.inr rfl)) (hd:(x == ("__debug__":Str))=false:=by decide)
  (hcd:(x == ("__classdict__":Str))=false:=by decide):PE X (.Name x pos) (cJ i):=Bv hN hv hd hcd
end
def S (l:List Nat):Str:=⟨l.toArray⟩
theorem eT (l:List Nat):(S l).length=l.length:=by simp [S,Str.length]
theorem xj (a b:List Nat):S a++S b=S (a++b):=by
 show (⟨a.toArray++b.toArray⟩:Str)=⟨(a++b).toArray⟩
 rw [List.append_toArray]
theorem BQ {a b:List Nat} (h:S a=S b):a=b:=by
 have h':=congrArg (fun x:Str=>x.cps.toList) h
 simpa [S] using h'
theorem Fy {a b:List Nat} (h:a≠b):S a≠S b:=fun e=>h (BQ e)
theorem BR {a b:List Nat}:V.str (S a)=V.str (S b) ↔ a=b:=⟨fun h=>BQ (V.str.inj h),fun h=>by rw [h]⟩
theorem BS (a b:List Nat):decide (V.str (S a)=V.str (S b))=decide (a=b):=by
 by_cases h:a=b
 .rw [decide_eq_true h,decide_eq_true (BR.mpr h)]
 .rw [decide_eq_false h,decide_eq_false (fun z=>h (BR.mp z))]
def eW {α:Type} (xs:List α) (lo hi:Option Int):List α:=(xs.drop (HT.sIx xs.length 0 lo)).take (HT.sIx xs.length xs.length hi - HT.sIx xs.length 0 lo)
theorem dH {α:Type} (xs:List α) (lo hi:Option Int):(eW xs lo hi).length<=xs.length:=by
 unfold eW
 rw [List.length_take,List.length_drop]
 omega
theorem uz (xs:List V) (lo hi:Option Int):zG xs lo hi=eW xs lo hi:=rfl
theorem BU (lo hi:Option Int) (n:Nat):Builtin.Str.strSliceIndices lo hi 1 n=(List.range (HT.sIx n n hi - HT.sIx n 0 lo)).map (fun k=>HT.sIx n 0 lo + k):=by
 have key:∀(o:Option Int) (d:Nat),d<=n->(match o with | none=>(d:Int) | some i=>max 0 (min (if i < 0 then i + (n:Int) else i) (n:Int)))=((HT.sIx n d o:Nat):Int):=by
  intro o d hd
  cases o with
  | none=>rfl
  | some i =>
   show max 0 (min (if i < 0 then i + (n:Int) else i) (n:Int))=_
   rw [<- HT.clip_eq i n d]
   by_cases h:i < 0
   .rw [if_pos h,if_pos h];omega
   .rw [if_neg h,if_neg h];omega
 have k1:=key lo 0 (Nat.zero_le _)
 have k2:=key hi n (Nat.le_refl _)
 unfold Builtin.Str.strSliceIndices
 simp only [show (1:Int) > 0 by decide,if_true]
 refine Eq.trans (congrArg (fun a=>sliceRange a _ 1) k1) (Eq.trans (congrArg (fun b=>sliceRange _ b 1) k2) ?_)
 unfold sliceRange
 simp only [show (1:Int) > 0 by decide,if_true]
 generalize HT.sIx n 0 lo=a
 generalize HT.sIx n n hi=b
 have ec:(if (a:Int) < (b:Int) then ((b:Int) - (a:Int) + 1 - 1) / 1 else 0).toNat=b - a:=by
  split <;> omega
 rw [ec]
 apply List.map_congr_left
 intro k _
 omega
theorem uA {α:Type} (l:List α) (a m:Nat):((List.range m).map (fun k=>a + k)).filterMap (fun i=>l[i]?)=(l.drop a).take m:=by
 induction m generalizing a with
 | zero=>simp
 | succ m ih =>
  rw [List.range_succ_eq_map,List.map_cons,List.map_map,List.filterMap_cons]
  have e:((fun k=>a + k) ∘ Nat.succ)=fun k=>(a + 1) + k:=by funext k;simp;omega
  rw [e,ih (a + 1)]
  cases h:l[a + 0]? with
  | none =>
   have hl:l.length<=a:=by simpa using List.getElem?_eq_none_iff.mp h
   rw [List.drop_eq_nil_of_le hl,List.drop_eq_nil_of_le (by omega)];simp
  | some v =>
   have hl:a < l.length:=by simpa using (List.getElem?_eq_some_iff.mp h).1
   have hv:l[a]=v:=by simpa using (List.getElem?_eq_some_iff.mp h).2
   rw [List.drop_eq_getElem_cons hl,hv];rfl
theorem zO (l:List Nat) (lo hi:Option Int):Txt.slice (S l) lo hi=S (eW l lo hi):=by
 have e1:(Builtin.Str.strSliceIndices lo hi 1 (S l).length).filterMap ((S l).cps[·]?)=eW l lo hi:=by
  rw [BU,eT]
  have e:(fun i:Nat=>(S l).cps[i]?)=fun i:Nat=>l[i]?:=by funext i;simp [S]
  rw [e]
  exact uA l _ _
 unfold Txt.slice
 split
 .rename_i h
  have h2:(Builtin.Str.strSliceIndices lo hi 1 (S l).length).length=(S l).length:=by simpa using h
  rw [BU,eT,List.length_map,List.length_range] at h2
  have a0:=HT.sIx_le l.length 0 (Nat.zero_le _) lo
  have b0:=HT.sIx_le l.length l.length (Nat.le_refl _) hi
  unfold eW
  by_cases hz:l.length=0
  .have:l=[]:=List.length_eq_zero_iff.mp hz
   subst this;simp
  .have ha:HT.sIx l.length 0 lo=0:=by omega
   have hb:HT.sIx l.length l.length hi=l.length:=by omega
   rw [ha,hb]
   simp
 .rw [e1];rfl
theorem iK {α:Type} (l:List α) (k:Nat):eW l none (some (k:Int))=l.take k:=by
 unfold eW
 rw [HT.sIx_nat]
 show (l.drop 0).take (min k l.length - 0)=l.take k
 rw [List.drop_zero,Nat.sub_zero]
 by_cases h:k<=l.length
 .rw [Nat.min_eq_left h]
 .rw [Nat.min_eq_right (by omega),List.take_of_length_le (Nat.le_refl _),List.take_of_length_le (by omega)]
theorem fj {α:Type} (l:List α) (k:Nat):eW l (some (k:Int)) none=l.drop k:=by
 unfold eW
 rw [HT.sIx_nat]
 show (l.drop (min k l.length)).take (l.length - min k l.length)=l.drop k
 by_cases h:k<=l.length
 .rw [Nat.min_eq_left h,List.take_of_length_le (by rw [List.length_drop];exact Nat.le_refl _)]
 .rw [Nat.min_eq_right (by omega),Nat.sub_self,List.take_zero,List.drop_eq_nil_of_le (by omega)]
theorem oW {α:Type} (l:List α) (i j:Nat):eW l (some (i:Int)) (some (j:Int))=(l.drop i).take (j - i):=by
 unfold eW
 rw [HT.sIx_nat,HT.sIx_nat]
 by_cases h:i<=l.length
 .rw [Nat.min_eq_left h]
  by_cases h2:j<=l.length
  .rw [Nat.min_eq_left h2]
  .rw [Nat.min_eq_right (by omega),List.take_of_length_le (by rw [List.length_drop];omega),List.take_of_length_le (by rw [List.length_drop];omega)]
 .have e:min i l.length=l.length:=Nat.min_eq_right (by omega)
  rw [e,List.drop_eq_nil_of_le (Nat.le_refl _),List.drop_eq_nil_of_le (by omega),List.take_nil,List.take_nil]
section
variable {X:Cx}
def E2:V->Option Int->Option Int->Hp->VK->Prop:=fun x lo hi H Q=>∃l,x=.str (S l)/\l.length<=sizeLine/\Q (.str (S (eW l lo hi))) H
theorem BV:SlR X E2:=by
 intro pins s σ H x v vl vu lo hi sl Q I rx hs pl pu h
 obtain ⟨l,rfl,hz,q⟩:=h
 obtain ⟨t,rfl⟩:=rx
 refine ⟨"str",_,slot_str_getitem.lookup,typeIs_str s _ t,?_⟩
 obtain ⟨l',hl',el⟩:∃l':Option (Int×Tok),vl=partValue l'/\l'.map (·.1)=lo:=by
  cases pl with
  | none=>exact ⟨none,rfl,rfl⟩
  | int i t=>exact ⟨some (i,t),rfl,rfl⟩
 obtain ⟨u',hu',eu⟩:∃l':Option (Int×Tok),vu=partValue l'/\l'.map (·.1)=hi:=by
  cases pu with
  | none=>exact ⟨none,rfl,rfl⟩
  | int i t=>exact ⟨some (i,t),rfl,rfl⟩
 subst hl' hu'
 refine wpAny_getItem_str_slice (l:=l') (u:=u') (st:=none) hs rfl ?_
 have hm:∀t' k,EP X pins σ Q (.str (Txt.slice (S l) lo hi) t') { s with toks:=k }:=fun t' k=>⟨.str (S (eW l lo hi)),H,I.tok _,⟨t',by rw [zO]⟩,q⟩
 have hlen:(Txt.slice (S l) lo hi).length<=sizeLine:=Nat.le_trans (Txt.slice_le _ _ _) (by rw [eT];exact hz)
 subst el eu
 exact post_val_or_str ⟨hlen,hm⟩
def sY {α:Type} (l:List α) (n:Int):List α:=(List.replicate n.toNat l).flatten
theorem uB (k:Nat) (l acc:List Nat):(List.replicate k l.toArray).foldl (·++·) acc.toArray=(acc++(List.replicate k l).flatten).toArray:=by
 induction k generalizing acc with
 | zero=>simp
 | succ k ih =>
  rw [List.replicate_succ,List.foldl_cons,List.append_toArray,ih (acc++l),List.replicate_succ,List.flatten_cons,List.append_assoc]
theorem DN (l:List Nat) (n:Int):Txt.mul (S l) n=S (sY l n):=by
 unfold Txt.mul sY
 by_cases h:n < 1
 .rw [if_pos h]
  have:n.toNat=0:=by omega
  rw [this];rfl
 .rw [if_neg h]
  split
  .rename_i h2
   rw [eT] at h2
   simp only [Bool.or_eq_true,beq_iff_eq] at h2
   rcases h2 with h2 | h2
   .subst h2;simp [S]
   .have:l=[]:=List.length_eq_zero_iff.mp h2
    subst this;simp [S]
  .have e:=uB n.toNat l []
   show (⟨_⟩:Str)=_
   have e':(List.replicate n.toNat (S l).cps).foldl (·++·) #[]=((List.replicate n.toNat l).flatten).toArray:=by
    simpa [S] using e
   rw [e'];rfl
theorem qv {α:Type} (l:List α) (n:Int):(sY l n).length=n.toNat * l.length:=by
 unfold sY
 rw [List.length_flatten,List.map_replicate,List.sum_replicate_nat]
theorem sZ:OpR X (binaryOp .Mult) (fun x y H Q=>∃l n,x=.str (S l)/\y=.int n/\-1000000<=n/\n<=1000000/\n.toNat * l.length<=sizeLine/\Q (.str (S (sY l n))) H):=by
 intro pins s σ H x y v u Q I rx ry h
 obtain ⟨l,n,rfl,rfl,h1,h2,hz,q⟩:=h
 obtain ⟨t,rfl⟩:=rx
 obtain ⟨t',rfl⟩:=ry
 have hs:sizeLine=16777216:=sizeLine_eq
 have hz':n.toNat * l.length<=16777216:=by rw [<- hs];exact hz
 refine SB.mul ⟨?_,fun hn hc=>?_,fun hn hc=>?_⟩ fun t' k=>⟨.str (S (sY l n)),H,I.tok _,⟨t',by rw [DN]⟩,q⟩
 .rw [decide_eq_false (by omega),decide_eq_false (by omega)];rfl
 .rw [eT]
  intro hgt
  have hl:l.length<=16777216:=by
   have:1 * l.length<=n.toNat * l.length:=Nat.mul_le_mul_right _ (by omega)
   omega
  have hdiv:(2 ^ 63 - 1:Int) / 1000000<=(2 ^ 63 - 1) / n:=by
   apply Int.le_ediv_of_mul_le (by omega)
   have:=Int.mul_le_mul_of_nonneg_left h2 (show (0:Int)<=(2 ^ 63 - 1) / 1000000 by decide)
   have e2:((2 ^ 63 - 1:Int) / 1000000) * 1000000<=2 ^ 63 - 1:=by decide
   omega
  have e3:(2 ^ 63 - 1:Int) / 1000000=9223372036854:=by decide
  omega
 .rw [eT]
  have:l.length * n.toNat<=16777216:=by rw [Nat.mul_comm];exact hz'
  exact decide_eq_false (by omega)
theorem uC:OpR X (compareOp .LtE) (fun x y H Q=>∃i j,x=.str i/\y=.str j/\Q (.bl (!decide (j.cps.toList < i.cps.toList))) H):=by
 intro pins s σ H x y v u Q I rx ry h
 obtain ⟨i,j,rfl,rfl,q⟩:=h
 obtain ⟨t,rfl⟩:=rx
 obtain ⟨t',rfl⟩:=ry
 exact PySem.P.le_str ⟨.bl _,H,I,rfl,q⟩
end
def Its (xs:List V):It:=⟨fun i _=>i < xs.length,fun i H x H'=>H'=H/\xs[i]?=some x,fun i _=>xs.length=i⟩
theorem uD {M:Model}{A:Around}{E:Value->Shared->Prop}{s:Shared}{tg:Expr}{it:Addr}{u:Value}{Q:Unit->Shared->Prop} (hu:∀a,u≠.ref a) (hQ:Q () s):wpAny M A (letOwnedTupleGo tg (.ref it) u) Q E s:=by
 unfold letOwnedTupleGo
 cases tg <;> first
  | exact wpAny_pure hQ
  | (cases u <;> first
    | exact wpAny_pure hQ
    | exact absurd rfl (hu _))
theorem kq {P:Program}{w:World}{K:PySem.W.Frag}{tg:Expr}{it:Addr}{xs:List V}{n:Nat}{Pt:Nat->Value->Prop}{St:Nat->Heap->Prop}
  (W:∀A:Around,A.handled=none->Walks P w A it [it] [it] n Pt St) (hn:xs.length=n)
  (hv:∀i v,i < n->Pt i v->∃x,xs[i]?=some x/\df x v) (hsc:∀i v,Pt i v->∀a,v≠.ref a)
  (hobj:∀i h,St i h->∃o,h.get? it=some o/\∀v,o.data≠.cell v)
  (hfr:∀i h h',St i h->(∀b∈[it],∀o,h.get? b=some o->h'.get? b=some o)->St i h')
  (hself:∀(A:Around) (i:Nat) (s:Shared) (Q:Value->Shared->Prop) (E:Value->Shared->Prop),St i s.heap->Q (.ref it) s->wpAny (model P w) A (pyIter (.ref it)) Q E s) :
  wR P w K tg (Its xs) [it] it St where
 mem:=by simp
 obj:=fun i h st b hb=>by
  have e:b=it:=by simpa using hb
  subst e
  exact hobj i h st
 keep:=fun i h h' st k=>hfr i h h' st k
 item:=by
  intro X hP hw hK hc i pins s σ H E I hf st hg
  subst hP hw hK
  obtain ⟨f0,f1,f2,f3,f4,f5⟩:=hf it (by simp)
  refine (W X.A (I.ok.hd hc)).item i s _ _ (by rw [<- hn];exact hg) st fun v h' tk hp st' kk=>?_
  obtain ⟨x,hx,rx⟩:=hv i v (by rw [<- hn];exact hg) hp
  have I1:Inv X pins σ H { s with heap:=h',toks:=tk }:=I.turned (fun b o hb e=>kk b o (by simpa using hb) e) f0 f1 f3 f4 f5
  exact ⟨v,rfl,uD (s:={ s with heap:=h',toks:=tk }) (hsc i v hp) ⟨x,H,I1,rx,⟨rfl,hx⟩,st',fun b hb=>(hf b hb).1⟩⟩
 done:=by
  intro X hP hw hK hc i pins s σ H E I hf st hg
  subst hP hw hK
  obtain ⟨f0,f1,f2,f3,f4,f5⟩:=hf it (by simp)
  have e:n=i:=hn.symm.trans hg
  subst e
  exact (W X.A (I.ok.hd hc)).done s _ _ st fun h' tk kk=>⟨rfl,I.turned (fun b o hb e=>kk b o (by simpa using hb) e) f0 f1 f3 f4 f5⟩
 self:=hself
section
variable {X:Cx}{tg:Expr}
def cD (l:List Nat):List V:=l.map fun c=>V.str (S [c])
theorem fk {l:List Nat}{i:Nat}{x:V} (h:(cD l)[i]?=some x):∃c,l[i]?=some c/\x=.str (S [c]):=by
 unfold cD at h
 rw [List.getElem?_map] at h
 cases e:l[i]? with
 | none=>rw [e] at h;cases h
 | some c=>rw [e] at h;exact ⟨c,rfl,(Option.some.inj h).symm⟩
theorem cK (l:List Nat):(cD l).length=l.length:=List.length_map _
def mZ (i:Int) (n:Nat):List V:=(List.range n).map fun (k:Nat)=>V.int (i - k)
theorem kr (i:Int) (n:Nat):(mZ i n).length=n:=by simp [mZ]
theorem uE {i:Int}{n k:Nat}{x:V} (h:(mZ i n)[k]?=some x):k < n/\x=.int (i - k):=by
 unfold mZ at h
 rw [List.getElem?_map] at h
 by_cases hk:k < n
 .rw [List.getElem?_range hk] at h
  exact ⟨hk,(Option.some.inj h).symm⟩
 .rw [List.getElem?_eq_none (by simp;omega)] at h
  cases h
def BW (ta:TA):TI:=fun σ H R=>ta σ H fun vs H1=>∃i j:Int,vs=[.int i,.int j,.int (-1)]/\(-(2 ^ 60)<=i/\i < 2 ^ 60/\-(2 ^ 60)<=j/\j < 2 ^ 60)/\R (Its (mZ i (i - j).toNat)) H1
theorem ig (i j:Int):Builtin.Range.rangeSize i j (-1)=(((i - j).toNat:Nat):Int):=by
 unfold Builtin.Range.rangeSize
 rw [if_neg (by decide)]
 simp only [Int.neg_neg,Int.ediv_one]
 split <;> omega
theorem oX {a b c:Expr}{ta:TA}{p pos:Pos} (hg:Gl X "range") (hm:X.mg "range"=none) (ha:PA X [a,b,c] ta)
  (hs:starEach [a,b,c] X.env=[(false,eval a X.env),(false,eval b X.env),(false,eval c X.env)]:=by rfl) (hs2:starEach [b,c] X.env=[(false,eval b X.env),(false,eval c X.env)]:=by rfl) :
  PI X tg (.Call (.Name "range" p) [a,b,c] [] pos) (BW ta):=by
 intro pins s σ H R I h
 refine Call_ (iX I hg hm boot_range (PyProof.Rows.callWith_type1 (thn (ha pos pins s σ H _ I h) fun us s1 ⟨vs,H1,I1,r1,q1⟩=>?_) (by rw [hs,hs2]) (by rw [hs2];rfl)))
 obtain ⟨i,j,e,⟨q1,q2,q3,q4⟩,q⟩:=q1
 subst e
 cases r1 with
 | cons r rr =>
  cases rr with
  | cons r' rr =>
   cases rr with
   | cons r'' rr =>
    cases rr
    obtain ⟨t,rfl⟩:=r
    obtain ⟨t',rfl⟩:=r'
    obtain ⟨t'',rfl⟩:=r''
    refine call_range_3 (by decide) ?_ (.inl (PyProof.noPylong_small (by decide)))
    refine wpAny_pyIter_range (IsRange.new ..) ?_ ?_
    .unfold Builtin.Range.small
     rw [ig]
     simp only [Builtin.Range.rangeFitsLong,Bool.and_eq_true,Bool.or_eq_true,decide_eq_true_eq,beq_iff_eq,show ¬ (-1:Int) > 0 by decide,if_false]
     omega
    have I2:Inv X pins σ H1 { s1 with heap:=s1.heap.push { cls:=.type "range",data:=.fields #[.int i t,.int j t',.int (-1) t''] },toks:=s1.toks }:=I1.kept fun b o e=>Heap.get?_push_of_some _ e
    refine ⟨_,[(s1.heap.push { cls:=.type "range",data:=.fields #[.int i t,.int j t',.int (-1) t''] }).objs.size],_,Its (mZ i (i - j).toNat),H1,rfl,I2.kept (t':=s1.toks) fun b o e=>Heap.get?_push_of_some _ e,
     kq (fun A hA=>Walks.range hA _ i (-1) (i - j).toNat) (kr _ _) ?_ ?_ ?_ ?_ (fun A i s Q E st q=>wpAny_pyIter_rangeiter st q),?_,fun b hb=>?_,q⟩
    .rintro k v hk ⟨t,rfl⟩
     refine ⟨.int (i - k),?_,t,?_⟩
     .unfold mZ
      rw [List.getElem?_map,List.getElem?_range hk];rfl
     .have e:i + (k:Int) * (-1)=i - k:=by omega
      rw [e]
    .rintro k v ⟨t,rfl⟩ a z
     cases z
    .exact fun k h st=>⟨_,st,fun v z=>by
      have z':Data.fields _=Data.cell v:=z
      cases z'⟩
    .exact fun k h h' st kk=>kk _ (by simp) _ st
    .show IsRangeIter _ _ (i + ((0:Nat):Int) * (-1)) ((((i - j).toNat:Nat):Int) - ((0:Nat):Int)) (-1)
     rw [<- ig]
     simp only [Int.natCast_zero,Int.zero_mul,Int.add_zero,Int.sub_zero]
     exact Heap.get?_push_size _ rfl
    .have e:b=(s1.heap.push { cls:=.type "range",data:=.fields #[.int i t,.int j t',.int (-1) t''] }).objs.size:=by simpa using hb
     subst e
     exact I2.fpOk (Nat.le_refl _) (I2.hok.fresh (Nat.le_refl _))
end
section
variable {X:Cx}
theorem qw:bK X (.builtin "isinstance") (fun xs H Q=>∃x n t b,xs=[x,.ty n]/\oy X.K H x t/\PySem.W.kitOne X.K t (.type n)=some b/\Q (.bl b) H):=by
 intro pins s σ H xs us Q I r h
 obtain ⟨x,n,t,b,rfl,ty,e,q⟩:=h
 obtain ⟨u,w',rfl,rx,ry⟩:=ug r
 cases (show w'=Value.type n from ry)
 exact ul I rx ty e fun tk=>⟨.bl b,H,I.tok _,rfl,q⟩
mutual
inductive DV (K:PySem.W.Frag) (H:Hp):V->PyData->Prop
 | non:DV K H .non .none
 | bl (b:Bool):DV K H (.bl b) (.bool b)
 | int (i:Int):DV K H (.int i) (.int i)
 | str (x:Str):DV K H (.str x) (.str x)
 | lst {a:Addr}{xs:List V}{ds:List PyData}:SqL K H a xs->DVs K H xs ds->DV K H (.ref a) (.list ds)
 | tup {a:Addr}{xs:List V}{ds:List PyData}:SqT K H a xs->DVs K H xs ds->DV K H (.ref a) (.tuple ds)
inductive DVs (K:PySem.W.Frag) (H:Hp):List V->List PyData->Prop
 | nil:DVs K H [] []
 | cons {x:V}{d:PyData}{xs:List V}{ds:List PyData}:DV K H x d->DVs K H xs ds->DVs K H (x::xs) (d::ds)
end
mutual
theorem DV.reads {pins:List (Addr×Obj)}{σ:St}{H:Hp}{s:Shared} (I:Inv X pins σ H s):∀{x:V}{d:PyData}{u:Value},DV X.K H x d->df x u->∃as,Reads s.heap u d as
 | _,_,u,.non,r=>by cases (show u=Value.none from r);exact ⟨_,.none⟩
 | _,_,u,.bl b,r=>by cases (show u=Value.bool b from r);exact ⟨_,.bool b⟩
 | _,_,u,.int i,r=>by obtain ⟨t,e⟩:=(show ∃t,u=Value.int i t from r);subst e;exact ⟨_,.int i t⟩
 | _,_,u,.str x,r=>by obtain ⟨t,e⟩:=(show ∃t,u=Value.str x t from r);subst e;exact ⟨_,.str x t⟩
 | _,_,u,.lst (a:=a) hq hs,r=>by
  cases (show u=Value.ref a from r)
  obtain ⟨its,rv,pl,_⟩:=I.list hq
  obtain ⟨o,ho,hc,n,hd⟩:=pl.isList
  obtain ⟨as,ra⟩:=DVs.reads I hs rv
  exact ⟨_,.list ho hc hd ra⟩
 | _,_,u,.tup (a:=a) hq hs,r=>by
  cases (show u=Value.ref a from r)
  obtain ⟨its,rv,pl,_⟩:=I.tuple hq
  obtain ⟨o,ho,hc,n,hd⟩:=pl
  obtain ⟨as,ra⟩:=DVs.reads I hs rv
  exact ⟨_,.tuple ho hc hd ra⟩
theorem DVs.reads {pins:List (Addr×Obj)}{σ:St}{H:Hp}{s:Shared} (I:Inv X pins σ H s):∀{xs:List V}{ds:List PyData}{us:List Value},DVs X.K H xs ds->bO xs us->∃as,ReadsAll s.heap us ds as
 | _,_,_,.nil,.nil=>⟨_,.nil⟩
 | _,_,_,.cons h hs,.cons r rs=>by
  obtain ⟨as,ra⟩:=DV.reads I h r
  obtain ⟨bs,rb⟩:=DVs.reads I hs rs
  exact ⟨_,.cons ra rb⟩
end
def DO (K:PySem.W.Frag) (neg:Bool):R2:=fun x y H Q=>∃da db,DV K H x da/\DV K H y db/\SeqAt.shaped da=true/\SeqAt.shaped db=true/\Q (.bl (if neg then !PyData.eqv da db else PyData.eqv da db)) H
theorem BX (hu:X.A.units + 64 < cLine):OpR X (compareOp .Eq) (DO X.K false):=by
 intro pins s σ H x y v u Q I rx ry h
 obtain ⟨da,db,ha,hb,sa,sb,q⟩:=h
 obtain ⟨as,ra⟩:=DV.reads I ha rx
 obtain ⟨bs,rb⟩:=DV.reads I hb ry
 exact eq_dataH ra rb sa sb hu ⟨.bl _,H,I,rfl,q⟩
theorem BY (hu:X.A.units + 64 < cLine):OpR X (compareOp .NotEq) (DO X.K true):=by
 intro pins s σ H x y v u Q I rx ry h
 obtain ⟨da,db,ha,hb,sa,sb,q⟩:=h
 obtain ⟨as,ra⟩:=DV.reads I ha rx
 obtain ⟨bs,rb⟩:=DV.reads I hb ry
 exact ne_dataH ra rb sa sb hu ⟨.bl _,H,I,rfl,q⟩
theorem DVs.ints {K:PySem.W.Frag}{H:Hp}:∀ns:List Int,DVs K H (ns.map V.int) (ns.map PyData.int)
 | []=>.nil
 | n::ns=>.cons (.int n) (DVs.ints ns)
theorem kt:∀ns ms:List Int,PyData.eqvAll (ns.map PyData.int) (ms.map PyData.int)=decide (ns=ms)
 | [],[]=>by simp [PyData.eqvAll]
 | [],_::_=>by simp [PyData.eqvAll]
 | _::_,[]=>by simp [PyData.eqvAll]
 | a::r,b::t=>by
  simp only [List.map_cons,PyData.eqvAll,PyData.eqv,kt r t]
  by_cases h:a=b <;> by_cases h':r=t <;> simp [h,h']
theorem qx:MtR X "str.endswith" (fun x xs H Q=>∃a b,x=.str (S a)/\xs=[.str (S b)]/\Q (.bl (decide (b <:+ a))) H):=by
 intro pins s σ H x xs v us Q I rx rs h
 obtain ⟨a,b,rfl,rfl,q⟩:=h
 obtain ⟨t,rfl⟩:=rx
 obtain ⟨u,rfl,t',rfl⟩:=ib rs
 have e:Txt.endswith (S a) (S b)=decide (b <:+ a):=by
  unfold Txt.endswith Builtin.Str.subAt
  rw [eT,eT]
  have e1:((S a).cps.extract (a.length - b.length) (a.length - b.length + b.length))=((a.drop (a.length - b.length)).take b.length).toArray:=by
   show a.toArray.extract _ _=_
   rw [List.extract_toArray,List.extract_eq_take_drop]
   have e2:a.length - b.length + b.length - (a.length - b.length)=b.length:=by omega
   rw [e2]
  rw [e1]
  by_cases h:b <:+ a
  .rw [decide_eq_true h]
   have hl:=h.length_le
   have hd:a.drop (a.length - b.length)=b:=(List.suffix_iff_eq_drop.mp h).symm
   rw [hd]
   simp [S,hl]
  .rw [decide_eq_false h]
   by_cases hl:b.length<=a.length
   .have hne:¬ (a.drop (a.length - b.length)).take b.length=b:=fun z=>h (by
     rw [List.take_of_length_le (by rw [List.length_drop];omega)] at z
     exact List.suffix_iff_eq_drop.mpr z.symm)
    simp only [Bool.and_eq_false_imp]
    intro _
    show (((a.drop (a.length - b.length)).take b.length).toArray == b.toArray)=false
    rw [beq_eq_false_iff_ne]
    intro z
    exact hne (by simpa using congrArg Array.toList z)
   .rw [decide_eq_false (by omega)];rfl
 exact SC.endswith ⟨.bl _,H,I,rfl,by rw [e];exact q⟩
end
section
variable {X:Cx}{a b:Expr}{ta tb:TE}{pos:Pos}
theorem cE {x:Str}{l:List Nat}{j:Nat} (h:x=S l):PE X (.Constant (.str x) j pos) (tC (.str (S l))):=by
 subst h
 exact Bw
theorem uF:bK X (.builtin "len") (fun xs H Q=>∃l,xs=[.str (S l)]/\l.length<=sizeLine/\Q (.int l.length) H):=by
 intro pins s σ H xs us Q I r h
 obtain ⟨l,rfl,hz,q⟩:=h
 exact oR pins s σ H _ us Q I r ⟨S l,rfl,by rw [eT];exact hz,by rw [eT];exact q⟩
def BZ:R2:=fun x y H Q=>∃l i c,x=.str (S l)/\y=.int i/\l.length<=sizeLine/\atI l i=some c/\Q (.str (S [c])) H
theorem zP:IxR X BZ:=by
 intro value slice pins s σ H x y v u Q I rx ry q hs
 obtain ⟨l,i,c,rfl,rfl,hz,ha,q⟩:=q
 exact BL value slice pins s σ H _ _ v u Q I rx ry ⟨S l,i,c,rfl,rfl,by rw [eT];exact hz,ha,q⟩ hs
theorem zQ:OpR X (binaryOp .Add) (fun x y H Q=>∃i j,x=.str (S i)/\y=.str (S j)/\i.length + j.length<=sizeLine/\Q (.str (S (i++j))) H):=by
 intro pins s σ H x y v u Q I rx ry h
 obtain ⟨i,j,rfl,rfl,hz,q⟩:=h
 exact sO pins s σ H _ _ v u Q I rx ry ⟨S i,S j,rfl,rfl,by rw [eT,eT];exact hz,by rw [xj];exact q⟩
theorem B0:OpR X (compareOp .Eq) (fun x y H Q=>∃i j,x=.str (S i)/\y=.str (S j)/\Q (.bl (decide (i=j))) H):=by
 intro pins s σ H x y v u Q I rx ry h
 obtain ⟨i,j,rfl,rfl,q⟩:=h
 exact DE pins s σ H _ _ v u Q I rx ry ⟨rfl,by rw [BS];exact q⟩
theorem B1:OpR X (compareOp .NotEq) (fun x y H Q=>∃i j,x=.str (S i)/\y=.str (S j)/\Q (.bl (!decide (i=j))) H):=by
 intro pins s σ H x y v u Q I rx ry h
 obtain ⟨i,j,rfl,rfl,q⟩:=h
 exact DF pins s σ H _ _ v u Q I rx ry ⟨rfl,by rw [BS];exact q⟩
theorem B2:OpR X (compareOp .Eq) (rI0 fun i j=>.bl (decide (i=j))):=Bf fun _ _ _ _ _ _ _ q=>eq_int (by rw [Bool.beq_eq_decide_eq];exact q)
theorem B3:OpR X (compareOp .NotEq) (rI0 fun i j=>.bl (!decide (i=j))):=Bf fun _ _ _ _ _ _ _ q=>ne_int (by rw [bne,Bool.beq_eq_decide_eq];exact q)
theorem uG:bK X (.builtin "len") (fun xs H Q=>∃p ys,xs=[.ref p]/\SqL X.K H p ys/\Q (.int ys.length) H):=by
 intro pins s σ H xs us Q I r h
 obtain ⟨p,ys,e,hq,q⟩:=h
 exact jO pins s σ H xs us Q I r ⟨p,ys,e,.inl hq,q⟩
theorem uH:bK X (.builtin "len") (fun xs H Q=>∃p ys,xs=[.ref p]/\SqT X.K H p ys/\Q (.int ys.length) H):=by
 intro pins s σ H xs us Q I r h
 obtain ⟨p,ys,e,hq,q⟩:=h
 exact jO pins s σ H xs us Q I r ⟨p,ys,e,.inr hq,q⟩
end
structure Cal (P:Program) (w:World) (K:PySem.W.Frag) (mg:Str->Option Value) (base:Heap) (k:Nat) (x:Str) (ps:List Str) (sp:Sp):Prop where
 ex:∃(f:Addr) (fd:FuncData),lH P w K mg base CX0 k f fd ps sp/\i5 K fd ps []/\PySem.W.keepIn K (.ref f)=true/\mg x=some (.ref f)/\∃oc od osl,K.lookup f=some ⟨oc,od,.func fd,osl⟩
structure cA (K:PySem.W.Frag) (mg:Str->Option Value) (x:Str) (st:Stmt):Prop where
 ex:∃(f:Addr) (fd:FuncData),Fun K x x st f fd/\mg x=some (.ref f)
section
variable {P:Program}{w:World}{K:PySem.W.Frag}{mg:Str->Option Value}{base:Heap}{x:Str}{st:Stmt}{N ps:List Str}{k:Nat}{sp:Sp}
theorem cA.ok (D:cA K mg x st) (S:aK N ps (ap st))
  (hb:∀(kV doc pm:Value) (an:Option Addr) (cdv ct:Value) (us:List Value),us.length=ps.length->bindArgs (PySem.W.fnOf x x (bP st) (bv st) (ap st) .none kV doc pm an cdv ct) ⟨us,[]⟩=pure (ps.zip us))
  (len:∀vs H Q E,sp vs H Q E->vs.length=ps.length)
  (hbody:∀(f:Addr) (cdv:Value) (A:Around) (outer:List Env) (s:Shared) (H:Hp) (vs:List V) (Q:VK) (E:XK),gj k (A.deeper (envOfC x (ap st) s.heap.objs.size f cdv))->sp vs H Q E ->
   ∃t,PSs (oz CX0 P w K mg base N x (ap st) f cdv A outer s H E).nox (bv st) t/\t { nx:=fun _ H'=>Q .non H',rt:=Q } (start N vs) H):Cal P w K mg base (k + 1) x ps sp:=by
 obtain ⟨f,fd,F,hm⟩:=D.ex
 have lk:∃oc od osl,K.lookup f=some ⟨oc,od,.func fd,osl⟩:=by
  obtain ⟨oc,od,kV,doc,pm,an,cdv,ct,osl,rfl,lk,hcd⟩:=F.ex
  exact ⟨oc,od,osl,lk⟩
 exact ⟨f,fd,F.ok S len fun cdv A outer s H vs Q E hr h=>hbody f cdv A outer s H vs Q E hr h,F.binds hb,F.kp,hm,lk⟩
theorem cA.mk' {K:PySem.W.Frag}{h:Heap}{mg:Str->Option Value}{x:Str}{st:Stmt}{f:Addr}{oc:Value}{od an:Option Addr}{osl:Array (Option Value)}{kV doc pm cdv ct:Value} (X:K.In h) (G:h.Ns mainGlobals mg)
  (a:PySem.W.nsIn K mainGlobals x=some (some (.ref f))) (l:K.lookup f=some ⟨oc,od,.func (PySem.W.fnOf x x (bP st) (bv st) (ap st) .none kV doc pm an cdv ct),osl⟩)
  (c:PySem.W.codeIn K cdv x=true) (k:PySem.W.keepIn K (.ref f)=true):cA K mg x st:=⟨f,_,mh (st:=st) l c k,PySem.W.mg_of X G a⟩
end
section
variable {X:Cx}{k:Nat}{x:Str}{ps:List Str}{sp:Sp}{p pos:Pos}{e:Expr}{es:List Expr}{t:TA}
theorem B4 (C:Cal X.prog X.w X.K X.mg X.base k x ps sp) (hr:gj k X.A) (ha:PA X (e::es) t) (hg:Gl X x:=by rfl) (hdb:(x == ("__debug__":Str))=false:=by decide) (he:starEach (e::es) X.env=(false,eval e X.env)::starEach es X.env:=by rfl)
  (hpl:(backTo pos (starEach es X.env)).any (·.1)=false:=by rfl):PE X (.Call (.Name x p) (e::es) [] pos) (iJ sp [] E0 t):=by
 obtain ⟨f,fd,F,hb,hk,hm,_⟩:=C.ex
 exact um F hr hg hm hk hb .nil xi ha hdb he hpl
end
def tf (K:PySem.W.Frag):Sp:=fun vs H Q _=>∃(a:Addr) (ns:List Int),vs=[.ref a]/\SqL K H a (ns.map V.int)/\ns.length<=63/\∀H',Q (.bl true) H'
theorem B5 {P:Program}{w:World}{K:PySem.W.Frag}{mg:Str->Option Value}{fa:Addr}{st:Stmt}{k:Nat}{x:Str} (hfa:mg "law"=some (.ref fa)) (D:cA K mg "law" st)
  (hbind:∀(kV doc pm:Value) (an:Option Addr) (cdv ct:Value) (s:Shared) (v:Value),BindsTo s (PySem.W.fnOf "law" "law" (bP st) (bv st) (ap st) .none kV doc pm an cdv ct) ⟨[v],[]⟩ [(x,v)])
  (h:∀base:Heap,Cal P w K mg base k "law" [x] (tf K)) :
  ∃fd:FuncData,(∀(s:Shared) (v:Value),BindsTo s fd ⟨[v],[]⟩ [(x,v)])/\∀base:Heap,K.In base->base.Ns mainGlobals mg->lH P w K mg base CX0 k fa fd [x] (tf K):=by
 obtain ⟨f,fd,F,hm⟩:=D.ex
 have e:=hfa.symm.trans hm
 cases e
 obtain ⟨oc,od,kV,doc,pm,an,cdv,ct,osl,rfl,lk,hcd⟩:=F.ex
 refine ⟨_,fun s v=>hbind kV doc pm an cdv ct s v,fun base kb nb=>?_⟩
 obtain ⟨f',fd',F',_,_,hm',oc',od',osl',lk'⟩:=(h base).ex
 have e:=hfa.symm.trans hm'
 cases e
 rw [lk] at lk'
 cases lk'
 exact F'
theorem B6 {l:PySem.W.OpenLaw}{q:Program}{loose:List Str}{XP:(Str->Option Value)->Heap->Prop}{YP:World->Heap->Prop}{d:DefRec}{K:Params->PySem.W.Frag}{k:Nat}{x:Str} (hn:l.most=some 63) (hdf:d.params.defaults=[]) (hr:gj k callerA)
  (hY:∀(w:World) (h:Heap),YP w h->(K w.params).In h)
  (F:∀(w:World) (mg:Str->Option Value) (fa:Addr) (h:Heap),(K w.params).In h->h.Ns mainGlobals mg->mg d.name=some (.ref fa) ->
   ∃fd:FuncData,(∀(s:Shared) (u:Value),BindsTo s fd ⟨[u],[]⟩ [(x,u)])/\∀base:Heap,(K w.params).In base->base.Ns mainGlobals mg->lH l.prog w (K w.params) mg base CX0 k fa fd [x] (tf (K w.params))) :
  PySem.W.WalkO q loose XP YP l.row.toRowW d [] (fun f vs=>PySem.call f vs) :=
 zN (n:=63) (k:=k) (x:=x) (CX:=fun _=>CX0) (sp:=fun w=>tf (K w.params)) hn (by decide) hdf hr hY F (fun _ _ a ns hl _ hS=>⟨a,ns,rfl,hS,hl,fun _=>rfl⟩) fun _ _ _ _ _ z=>z
theorem zR {α β:Type}{f:α->β}{xs:List α}{i:Int}{v:α} (h:atI xs i=some v):atI (xs.map f) i=some (f v):=by
 unfold atI at h ⊢
 rw [List.length_map]
 cases e:ixN xs.length i with
 | none=>rw [e] at h;cases h
 | some j =>
  rw [e] at h
  show (xs.map f)[j]?=some (f v)
  have h':xs[j]?=some v:=h
  rw [List.getElem?_map,h'];rfl
theorem eC {α:Type}{xs:List α}{i:Int}{j:Nat}{v:α} (h:xs[j]?=some v) (e:i=(j:Int)):atI xs i=some v:=by subst e;exact zI h
def fn (l:List Nat) (t:Nat):Nat:=l.getD t 0
theorem yE {l:List Nat}{t:Nat} (h:t < l.length):l[t]?=some (fn l t):=by
 unfold fn
 rw [List.getD_eq_getElem?_getD,List.getElem?_eq_getElem h];rfl
theorem sz (n:Nat) (h:n<=1000000):n<=sizeLine:=by rw [sizeLine_eq];omega
theorem xk {ns:List Int}{i:Nat}{x:V} (h:(ns.map V.int)[i]?=some x):∃z,ns[i]?=some z/\x=.int z:=by
 rw [List.getElem?_map] at h
 cases e:ns[i]? with
 | none=>rw [e] at h;cases h
 | some z=>rw [e] at h;exact ⟨z,rfl,(Option.some.inj h).symm⟩
section
variable {X:Cx}{st:Stmt}{t:TS}
def B7 (t:TS):TS:=fun D σ H=>∃J:St->Hp->Prop,t { D with nx:=J } σ H/\∀σ' H',J σ' H'->D.nx σ' H'
theorem m7 (h:PS X st t):PS X st (B7 t):=by
 intro pins s σ H D I q
 obtain ⟨J,q1,q2⟩:=q
 refine thn (h pins s σ H _ I q1) fun f s' r=>?_
 cases f with
 | next=>obtain ⟨σ',H',I',r'⟩:=r;exact ⟨σ',H',I',q2 σ' H' r'⟩
 | brk=>exact r
 | cont=>exact r
 | ret u=>exact r
end
theorem zS {α:Type}{xs:List α}{n:Nat} (hn:xs.length=n) (h:0 < n) (i:Int):∃v,v∈xs/\atI xs (i % (n:Int))=some v:=by
 have h1:0<=i % (n:Int):=Int.emod_nonneg _ (by omega)
 have h2:i % (n:Int) < n:=Int.emod_lt_of_pos _ (by omega)
 have h3:(i % (n:Int)).toNat < xs.length:=by omega
 refine ⟨xs[(i % (n:Int)).toNat],List.getElem_mem h3,?_⟩
 exact eC (j:=(i % (n:Int)).toNat) (List.getElem?_eq_getElem h3) (by omega)
theorem xl {α β:Type} (f:α->β) (xs:List α) (lo hi:Option Int):eW (xs.map f) lo hi=(eW xs lo hi).map f:=by
 unfold eW
 rw [List.length_map,List.map_take,List.map_drop]
theorem eE {x:Str}{c:Addr}:∀(names:List (Str×NameKind)) (n:Nat) (acc:List (Str×Addr)),(cellsFrom n names acc).lookup x=some c->(n<=c/\(x,NameKind.cell)∈names)\/acc.lookup x=some c
 | [],n,acc,h=>.inr h
 | (y,k)::r,n,acc,h=>by
  unfold cellsFrom at h
  split at h
  .rename_i hk
   have hk':k=.cell:=by simpa using hk
   subst hk'
   rcases eE r (n + 1) ((y,n)::acc) h with ⟨h1,h2⟩ | h1
   .exact .inl ⟨by omega,List.mem_cons_of_mem _ h2⟩
   .rw [List.lookup_cons] at h1
    cases e:x == y with
    | true =>
     rw [e] at h1
     have:n=c:=Option.some.inj h1
     have ex:x=y:=by simpa using e
     subst ex
     exact .inl ⟨by omega,List.mem_cons_self⟩
    | false=>rw [e] at h1;exact .inr h1
  .rcases eE r n acc h with ⟨h1,h2⟩ | h1
   .exact .inl ⟨h1,List.mem_cons_of_mem _ h2⟩
   .exact .inr h1
theorem fz {x:Str}:∀(names:List (Str×NameKind)) (n:Nat) (acc:List (Str×Addr)),(x,NameKind.cell)∉names->(cellsFrom n names acc).lookup x=acc.lookup x
 | [],_,_,_=>rfl
 | (y,k)::r,n,acc,h=>by
  unfold cellsFrom
  split
  .rename_i hk
   have hk':k=.cell:=by simpa using hk
   subst hk'
   rw [fz r (n + 1) _ (fun z=>h (List.mem_cons_of_mem _ z)),List.lookup_cons]
   have:(x == y)=false:=by
    rw [beq_eq_false_iff_ne]
    intro e;subst e;exact h List.mem_cons_self
   rw [this]
  .exact fz r n acc (fun z=>h (List.mem_cons_of_mem _ z))
theorem fA {x y:Str}{c:Addr}:∀(names:List (Str×NameKind)) (n:Nat) (acc:List (Str×Addr)),(∀z d,acc.lookup z=some d->d < n) ->
  (cellsFrom n names acc).lookup x=some c->(cellsFrom n names acc).lookup y=some c->n<=c->x=y
 | [],n,acc,ha,h1,h2,hc=>absurd (ha x c h1) (Nat.not_lt.mpr hc)
 | (z,k)::r,n,acc,ha,h1,h2,hc=>by
  unfold cellsFrom at h1 h2
  split at h1
  .rename_i hk
   rw [if_pos hk] at h2
   have ha':∀w d,((z,n)::acc).lookup w=some d->d < n + 1:=fun w d e=>by
    rw [List.lookup_cons] at e
    cases q:w == z with
    | true=>rw [q] at e;cases e;exact Nat.lt_succ_self _
    | false=>rw [q] at e;exact Nat.lt_succ_of_lt (ha w d e)
   by_cases hcn:n + 1<=c
   .exact fA r (n + 1) _ ha' h1 h2 hcn
   .have e:c=n:=Nat.le_antisymm (Nat.not_lt.mp hcn) hc
    subst e
    have key:∀w:Str,(cellsFrom (c + 1) r ((z,c)::acc)).lookup w=some c->w=z:=fun w hw=>by
     rcases eE r (c + 1) _ hw with ⟨q,_⟩ | q
     .exact absurd q (Nat.not_succ_le_self _)
     .rw [List.lookup_cons] at q
      cases q2:w == z with
      | true=>simpa using q2
      | false=>rw [q2] at q;exact absurd (ha w c q) (Nat.lt_irrefl _)
    rw [key x h1,key y h2]
  .rename_i hk
   rw [if_neg hk] at h2
   exact fA r n acc ha h1 h2 hc
def ja (env:Env):List (Str×NameKind)->List (Str×Addr)->List (Str×Addr)
 | [],acc=>acc
 | (n,k)::r,acc=>if (k == .free)=true then ja env r ((n,(env.cells.lookup n).getD 0)::acc) else ja env r acc
theorem fB {env:Env}{x:Str}{c:Addr}:∀(names:List (Str×NameKind)) (acc:List (Str×Addr)),(ja env names acc).lookup x=some c->((x,NameKind.free)∈names/\c=(env.cells.lookup x).getD 0)\/acc.lookup x=some c
 | [],acc,h=>.inr h
 | (y,k)::r,acc,h=>by
  unfold ja at h
  split at h
  .rename_i hk
   have hk':k=.free:=by simpa using hk
   subst hk'
   rcases fB r _ h with ⟨h1,h2⟩ | h1
   .exact .inl ⟨List.mem_cons_of_mem _ h1,h2⟩
   .rw [List.lookup_cons] at h1
    cases e:x == y with
    | true =>
     rw [e] at h1
     have ex:x=y:=by simpa using e
     subst ex
     exact .inl ⟨List.mem_cons_self,(Option.some.inj h1).symm⟩
    | false=>rw [e] at h1;exact .inr h1
  .rcases fB r acc h with ⟨h1,h2⟩ | h1
   .exact .inl ⟨List.mem_cons_of_mem _ h1,h2⟩
   .exact .inr h1
theorem jb {env:Env}{x:Str}:∀(names:List (Str×NameKind)) (acc:List (Str×Addr)),((x,NameKind.free)∈names\/(acc.lookup x).isSome=true)->((ja env names acc).lookup x).isSome=true
 | [],acc,h=>h.elim (fun z=>nomatch z) id
 | (y,k)::r,acc,h=>by
  unfold ja
  split
  .rename_i hk
   refine jb r _ ?_
   by_cases e:(x == y)=true
   .exact .inr (by rw [List.lookup_cons,e];rfl)
   .rcases h with h | h
    .rcases List.mem_cons.mp h with z | z
     .cases z;exact absurd (by simp) e
     .exact .inl z
    .exact .inr (by rw [List.lookup_cons];rw [Bool.not_eq_true] at e;rw [e];exact h)
  .rename_i hk
   refine jb r acc ?_
   rcases h with h | h
   .rcases List.mem_cons.mp h with z | z
    .cases z;exact absurd rfl hk
    .exact .inl z
   .exact .inr h
theorem j0 {scope:Scope}{env:Env} (h:∀x∈scope.names,x.2=.free->∃c,env.cells.lookup x.1=some c):closureFor scope env=pure (ja env scope.names []):=by
 unfold closureFor
 have key:∀(names:List (Str×NameKind)) (acc:List (Str×Addr)),(∀x∈names,x.2=.free->∃c,env.cells.lookup x.1=some c) ->
   (forIn names acc fun (x:Str×NameKind) (r:List (Str×Addr))=>(if (x.2 == NameKind.free)=true then do let y <- cellOf env x.1;pure (ForInStep.yield ((x.1,y)::r)) else pure (ForInStep.yield r):Sem _))=pure (ja env names acc):=by
  intro names
  induction names with
  | nil=>intro acc _;rfl
  | cons p r ih =>
   intro acc hp
   obtain ⟨n,k⟩:=p
   rw [List.forIn_cons]
   have hr:∀x∈r,x.2=.free->∃c,env.cells.lookup x.1=some c:=fun x hx=>hp x (List.mem_cons_of_mem _ hx)
   unfold ja
   by_cases hk:(k == NameKind.free)=true
   .obtain ⟨c,hc⟩:=hp (n,k) List.mem_cons_self (by simpa using hk)
    have hc':env.cells.lookup n=some c:=hc
    have e1:cellOf env n=pure c:=by unfold cellOf;rw [hc']
    simp only [hk,if_true]
    rw [e1,hc']
    simp only [pure_bind]
    exact ih _ hr
   .rw [if_neg hk,if_neg hk]
    simp only [pure_bind]
    exact ih _ hr
 have e:=key scope.names [] h
 have e2:∀(m:Sem (List (Str×Addr))),(m >>= fun r=>pure r)=m:=fun m=>bind_pure m
 rw [<- e]
 first
  | rfl
  | exact (e2 _)
def uI (scope:Scope) (C:Addr) (env:Env):Env :=
 { scope:=relabel scope env,locals:=C,globals:=env.globals,cells:=cellsFrom (C + 1) scope.names (ja env scope.names []),qual:=env.qual,func:=none,code:=env.code,frame:=env.frame,builtins:=env.builtins }
def cT (X:Cx) (N':List Str) (scope:Scope) (s:Shared) (H:Hp) (fp:List Addr) (pins:List (Addr×Obj)):Cx :=
 { X with N:=N',s₀:=s,H₀:=H,env:=uI scope s.heap.objs.size X.env,outer:=X.stack,stack:=X.stack,ex:=fp,fn:=fun x=>decide ((x,NameKind.cell)∈scope.names),pn:=X.pn++pins,xe:=fun _ _=>False }
def m8 (sc0:Scope) (N:List Str) (scope:Scope) (N':List Str) (ix:List (Option Nat)):Bool :=
 decide (scope.kind=.function) && scope.names.all (fun y=>(!decide (y.2=.local) || decide (scope.names.lookup y.1=some .local)) &&
  (!decide (y.2=.free) || ((decide (sc0.names.lookup y.1=some .cell) || decide (sc0.names.lookup y.1=some .free)) && !decide ((y.1,NameKind.cell)∈scope.names)))) &&
 decide (N'.length=ix.length) && (N'.zip ix).all (fun p=>match p.2 with | none=>true | some j=>decide (N[j]?=some p.1) && decide (scope.names.lookup p.1=some .free))
structure uJ (env:Env) (N:List Str) (scope:Scope) (N':List Str) (ix:List (Option Nat)):Prop where
 kind:scope.kind=.function
 loc:∀y∈scope.names,y.2=.local->scope.names.lookup y.1=some .local
 free:∀y∈scope.names,y.2=.free->(env.kindOf y.1=some .cell\/env.kindOf y.1=some .free)/\(y.1,NameKind.cell)∉scope.names
 len:N'.length=ix.length
 slot:∀(i:Nat) (x:Str) (j:Nat),N'[i]?=some x->ix[i]?=some (some j)->N[j]?=some x/\scope.names.lookup x=some .free
theorem oY {env:Env}{N:List Str}{scope:Scope}{N':List Str}{ix:List (Option Nat)} (h:m8 env.scope N scope N' ix=true):uJ env N scope N' ix:=by
 unfold m8 at h
 simp only [Bool.and_eq_true,decide_eq_true_eq,List.all_eq_true] at h
 obtain ⟨⟨⟨h1,h2⟩,h3⟩,h4⟩:=h
 refine ⟨h1,fun y hy e=>?_,fun y hy e=>?_,h3,fun i x j e1 e2=>?_⟩
 .have:=(h2 y hy).1
  rw [e] at this
  simpa using this
 .have:=(h2 y hy).2
  rw [e] at this
  simpa [Env.kindOf] using this
 .have hm:(x,some j)∈N'.zip ix:=by
   refine List.mem_of_getElem? (i:=i) ?_
   rw [List.getElem?_zip_eq_some]
   exact ⟨e1,e2⟩
  have:=h4 _ hm
  simpa using this
def rlf (env:Env) (p:Str×NameKind):Str×NameKind:=match p with | (n,k)=>if (k == NameKind.free && env.scope.kind == .function && env.kindOf n == some .cell) then (n,.cell) else (n,k)
theorem uK (env:Env) (n:Str) (k:NameKind):∃k',rlf env (n,k)=(n,k')/\(k'=k\/(k=.free/\k'=.cell)):=by
 unfold rlf
 by_cases c:(k == NameKind.free && env.scope.kind == .function && env.kindOf n == some .cell)=true
 .refine ⟨.cell,if_pos c,.inr ⟨?_,rfl⟩⟩
  simp only [Bool.and_eq_true,beq_iff_eq] at c
  exact c.1.1
 .exact ⟨k,if_neg c,.inl rfl⟩
theorem rQ {env:Env}:∀{names:List (Str×NameKind)}{x:Str},names.lookup x=some .free->(names.map (rlf env)).lookup x=some .cell\/(names.map (rlf env)).lookup x=some .free
 | [],_,h=>by simp at h
 | (n,k)::r,x,h=>by
  have ih:=@rQ env r x
  obtain ⟨k',e,hk'⟩:=uK env n k
  rw [List.map_cons,e]
  cases hx:x == n with
  | true =>
   simp only [List.lookup_cons,hx] at h ⊢
   have hk:k=.free:=Option.some.inj h
   rcases hk' with z | z
   .right;rw [z,hk]
   .left;rw [z.2]
  | false =>
   simp only [List.lookup_cons,hx] at h ⊢
   exact ih h
theorem m9 {env:Env}:∀{names:List (Str×NameKind)}{x:Str}{k':NameKind},(names.map (rlf env)).lookup x=some k'->k'=.cell\/k'=.free->names.lookup x=some .cell\/names.lookup x=some .free
 | [],_,_,h,_=>by simp at h
 | (n,k)::r,x,k',h,hk'=>by
  have ih:=@m9 env r x k'
  obtain ⟨k2,e,hk2⟩:=uK env n k
  rw [List.map_cons,e] at h
  cases hx:x == n with
  | true =>
   simp only [List.lookup_cons,hx] at h ⊢
   have:k2=k':=Option.some.inj h
   subst this
   rcases hk2 with z | z
   .rw [<- z]
    rcases hk' with q | q
    .left;rw [q]
    .right;rw [q]
   .right;rw [z.1]
  | false =>
   simp only [List.lookup_cons,hx] at h ⊢
   exact ih h hk'
theorem oZ {x:Str}{c:Addr}:∀(names:List (Str×NameKind)) (n:Nat) (acc:List (Str×Addr)),(cellsFrom n names acc).lookup x=some c->(x,c)∈cellsFrom n names []\/acc.lookup x=some c:=by
 have app:∀(names:List (Str×NameKind)) (n:Nat) (acc:List (Str×Addr)),cellsFrom n names acc=cellsFrom n names []++acc:=by
  intro names
  induction names with
  | nil=>intro n acc;rfl
  | cons p r ih =>
   intro n acc
   obtain ⟨y,k⟩:=p
   unfold cellsFrom
   split
   .rw [ih (n + 1) ((y,n)::acc),ih (n + 1) [(y,n)],List.append_assoc];rfl
   .exact ih n acc
 intro names n acc h
 rw [app] at h
 rw [List.lookup_append] at h
 cases e:(cellsFrom n names []).lookup x with
 | some d =>
  rw [e] at h
  have:d=c:=by simpa using h
  subst this
  exact .inl (mem_of_lookup e)
 | none=>rw [e] at h;exact .inr (by simpa using h)
def uL (ix:List (Option Nat)) (σ:St):St:=ix.map fun o=>match o with
 | none=>none
 | some j=>match σ[j]? with
  | some v=>v
  | none=>none
section
variable {X:Cx}{pins:List (Addr×Obj)}{σ:St}{H:Hp}{s:Shared}
theorem xm {N':List Str}{ix:List (Option Nat)}{scope:Scope}{fp:List Addr} (ok:uJ X.env X.N scope N' ix) (I:Inv X pins σ H s) (hf:∀b∈fp,rM X pins H b) (hfl:∀b∈fp,b < s.heap.objs.size) :
  Inv (cT X N' scope s H fp pins) [] (uL ix σ) H { s with heap:=pushCells (s.heap.push { cls:=.type "dict",data:=.dict #[] }) scope.names }:=by
 have hk4:∀b o,s.heap.get? b=some o->(pushCells (s.heap.push { cls:=.type "dict",data:=.dict #[] }) scope.names).get? b=some o:=fun b o e=>pushCells_keeps _ _ b o (Heap.get?_push_of_some _ e)
 have hclo:∀x c,(ja X.env scope.names []).lookup x=some c->X.env.cells.lookup x=some c:=fun x c e=>by
  rcases fB scope.names [] e with ⟨h1,h2⟩ | h1
  .obtain ⟨d,hd⟩:=I.ok.has x (ok.free _ h1 rfl).1
   rw [hd] at h2 ⊢
   rw [h2];rfl
  .cases h1
 have hcl:∀x c,X.env.cells.lookup x=some c->c < s.heap.objs.size:=fun x c e=>by
  obtain ⟨v,q⟩:=I.cell x c e
  exact q.lt
 have own:=cellsFrom_ok scope.names (s.heap.push { cls:=.type "dict",data:=.dict #[] }) (s.heap.objs.size + 1) [] ⟨fun _ _ hm=>(nomatch hm),List.Pairwise.nil⟩ (by rw [Heap.size_push];exact Nat.le_refl _)
 rw [Heap.size_push] at own
 have cases:∀x c,(cellsFrom (s.heap.objs.size + 1) scope.names (ja X.env scope.names [])).lookup x=some c ->
   ((pushCells (s.heap.push { cls:=.type "dict",data:=.dict #[] }) scope.names).IsCell c none/\s.heap.objs.size + 1<=c)\/X.env.cells.lookup x=some c:=fun x c e=>by
  rcases oZ _ _ _ e with h | h
  .exact .inl (own.empty x c h)
  .exact .inr (hclo x c h)
 have fs':∀b,b∈frs X.stack->b < s.heap.objs.size:=fun b hb=>by
  rcases List.mem_cons.mp (I.stkSub b hb) with z | z
  .rw [z];exact I.lt
  .by_cases q:b < s.heap.objs.size
   .exact q
   .exact absurd z (I.nofs (Nat.not_lt.mp q))
 have cix:(cT X N' scope s H fp pins).Ok:=by
  refine ⟨I.ok.mod,ok.kind,I.ok.glob,I.ok.blt,Nat.le_refl _,fun x y c h1 h2=>?_,fun x hx=>?_,fun x c hx e=>?_,I.ok.hd,I.ok.frames,.inl rfl,fun b hb=>⟨Nat.ne_of_lt (hfl b hb),fun x c e=>?_⟩,fun b o e=>I.bs b o e,Nat.le_trans I.ok.bsz I.sz,fun b o e hb=>?_,fun b hb=>?_,I.stack,I.stkFree⟩
  .rcases cases x c h1 with ⟨_,z⟩ | z
   .exact fA scope.names _ _ (fun w d e=>Nat.lt_succ_of_lt (hcl w d (hclo w d e))) h1 h2 z
   .rcases cases y c h2 with ⟨_,z2⟩ | z2
    .exact absurd (hcl x c z) (Nat.not_lt.mpr (Nat.le_of_succ_le z2))
    .exact I.ok.inj x y c z z2
  .have hx':scope.names.lookup x=some .cell\/scope.names.lookup x=some .free:=by
    rcases hx with z | z
    .exact m9 (env:=X.env) z (.inl rfl)
    .exact m9 (env:=X.env) z (.inr rfl)
   rcases hx' with z | z
   .exact Option.isSome_iff_exists.mp (PySem.W.cellsFrom_some scope.names _ _ (.inl z))
   .exact Option.isSome_iff_exists.mp (PySem.W.cellsFrom_some scope.names _ _ (.inr (jb _ _ (.inl (mem_of_lookup z)))))
  .have hx':(x,NameKind.cell)∈scope.names:=of_decide_eq_true hx
   rcases cases x c e with ⟨_,z⟩ | z
   .exact Nat.le_of_succ_le z
   .rcases oZ _ _ _ e with h | h
    .exact Nat.le_of_succ_le (own.empty x c h).2
    .rcases fB scope.names [] h with ⟨h1,_⟩ | h1
     .exact absurd hx' (ok.free _ h1 rfl).2
     .cases h1
  .intro z
   rcases cases x c e with ⟨_,z2⟩ | z2
   .rw [z] at z2;exact absurd (hfl b hb) (Nat.not_lt.mpr (Nat.le_of_succ_le z2))
   .exact (hf b hb).2.2.2.2.1 x c z2 z
  .rcases (hf b hb).2.2.2.1 with z | z
   .exact I.ok.noex b o e z
   .exact absurd (Heap.lt_size (I.ok.bs b o e).1) (Nat.not_lt.mpr z)
  .intro z
   rcases List.mem_cons.mp (I.stkSub b z) with q | q
   .exact (hf b hb).2.1 q
   .exact (hf b hb).2.2.1 q
 refine ⟨cix,rfl,I.bare,Un.kept hk4,⟨fun _=>none,?_,fun i x v e1 e2 e3=>?_⟩,fun x c e=>?_,I.hok.fresh (Nat.le_refl _),fun x c e=>?_,fun p hp=>?_,I.hok.kept hk4,?_⟩
 .exact (Heap.Ns.new s.heap (.type "dict")).keeps (pushCells_keeps _ _)
 .have e2':∃j,ix[i]?=some (some j)/\σ[j]?=some (some v):=by
   unfold uL at e2
   rw [List.getElem?_map] at e2
   cases q:ix[i]? with
   | none=>rw [q] at e2;cases e2
   | some o =>
    rw [q] at e2
    cases o with
    | none=>cases (Option.some.inj e2)
    | some j =>
     refine ⟨j,rfl,?_⟩
     have e2'':(match σ[j]? with | some v=>v | none=>none)=some v:=Option.some.inj e2
     cases r:σ[j]? with
     | none=>rw [r] at e2'';cases e2''
     | some w=>rw [r] at e2'';exact congrArg some e2''
  obtain ⟨j,hj,hv⟩:=e2'
  obtain ⟨hN,hfr⟩:=ok.slot i x j e1 hj
  have hk:=(ok.free _ (mem_of_lookup hfr) rfl).1
  have hvis:Vis X.env.scope x:=by
   rcases hk with z | z
   .exact .inr (.inl z)
   .exact .inr (.inr z)
  obtain ⟨m,hn,hl⟩:=I.loc
  obtain ⟨u,ru,lk⟩:=hl j x v hN hv hvis
  refine ⟨u,ru,.inr ⟨?_,?_⟩⟩
  .exact rQ (env:=X.env) hfr
  .rcases lk with ⟨z,_⟩ | ⟨_,c,hc,hcell⟩
   .rcases hk with q | q
    .rw [z] at q;cases q
    .rw [z] at q;cases q
   .refine ⟨c,?_,hcell.keeps hk4⟩
    show (cellsFrom (s.heap.objs.size + 1) scope.names (ja X.env scope.names [])).lookup x=some c
    rw [fz scope.names _ _ (ok.free _ (mem_of_lookup hfr) rfl).2]
    obtain ⟨d,hd⟩:=Option.isSome_iff_exists.mp (jb (env:=X.env) scope.names [] (.inl (mem_of_lookup hfr)))
    rw [hd,<- hclo x d hd,hc]
 .rcases cases x c e with ⟨z,_⟩ | z
  .exact ⟨none,z⟩
  .obtain ⟨v,q⟩:=I.cell x c z
   exact ⟨v,q.keeps hk4⟩
 .rcases cases x c e with ⟨_,z⟩ | z
  .exact I.hok.fresh (Nat.le_of_succ_le z)
  .exact I.freeC x c z
 .have hp':p∈X.pn++pins:=by simpa [cT] using hp
  obtain ⟨q1,q2,q3,q4,q5⟩:=I.pin p hp'
  refine ⟨hk4 _ _ q1,q2,Nat.ne_of_lt (Heap.lt_size q1),fun z=>?_,q5⟩
  rcases List.mem_cons.mp (I.stkSub p.1 z) with q | q
  .exact q3 q
  .exact q4 q
 .unfold uL
  rw [List.length_map]
  exact ok.len.symm
end
section
variable {M:Model}{A:Around}{E:Value->Shared->Prop}{s:Shared}
theorem iL {scope:Scope}{globals:Addr}{cl:List (Str×Addr)}{qual:Str}{func:Option Addr}{code:Value}{env:Env}{Q:Env->Shared->Prop}
  (hQ:Q { scope:=scope,locals:=s.heap.objs.size,globals:=globals,cells:=cellsFrom (s.heap.objs.size + 1) scope.names cl,qual:=qual,func:=func,code:=env.code,frame:=env.frame,builtins:=env.builtins }
   { s with heap:=pushCells (s.heap.push { cls:=.type "dict",data:=.dict #[] }) scope.names }) :
  wpAny M A (newFunctionEnv scope globals cl [] qual func code (some env)) Q E s:=by
 simp only [newFunctionEnv,Option.isSome_some,if_true]
 refine wpAny_bind (wpAny_alloc ?_)
 refine wpAny_bind (wpAny_layCells _ (fun name kind cells=>by cases hkc:kind == NameKind.cell <;> simp [hkc]) _ _ _ _ ?_)
 rw [show ({ s with heap:=s.heap.push { cls:=.type "dict",data:=.dict #[] } }:Shared).heap.objs.size=s.heap.objs.size + 1 from Heap.size_push ..]
 simp only [List.forIn_nil]
 exact wpAny_bind (wpAny_pure (wpAny_pure hQ))
end
section
variable {prog:Program}{w:World}{A:Around}{R:Result->Shared->Prop}{s:Shared}
theorem o0 {elt target iter:Expr}{ifs:List Expr}{scope:Scope}{pos:Pos}{it acc:Value}{env:Env} (I:Nat->Shared->Prop)
  (turn:∀n s,I n s->wpAny (model prog w) A (pyNext it) (fun r s₁=>match r with
   | none=>R (.ok .next) s₁
   | some v=>wpAny (model prog w) A (letOwnedTupleGo target it v) (fun _ s₂=>wpAny (model prog w) A (assign target env v) (fun _ s₃ =>
     wpAny (model prog w) A (forIn ifs true fun c r=>if r=true then do let ok <- isTrue c env (eval c env);pure (ForInStep.yield ok) else pure (ForInStep.yield r)) (fun ok s₄ =>
      if ok=true then wpAny (model prog w) A (eval elt env) (fun x s₅ =>
       wpAny (model prog w) A (call (.builtin "list.append") [acc,x]) (fun _ s₆=>∃m,m < n/\I m s₆) (fun _ _=>False) s₅) (fun _ _=>False) s₄
      else ∃m,m < n/\I m s₄) (fun _ _=>False) s₃) (fun _ _=>False) s₂) (fun _ _=>False) s₁) (fun _ _=>False) s)
  (n:Nat) (h:I n s) :
  codeAny (model prog w) A (.compLoop (.ListComp elt [⟨target,iter,ifs,0⟩] scope pos) 0 it acc env) R s:=by
 refine codeAny_loop rfl I (fun n s hI=>?_) n h
 show wpAny _ A ((compTurn (.ListComp elt [⟨target,iter,ifs,0⟩] scope pos) 0 it acc env).onRaise (fun x=>do noteFrame x env;theTreesLotGoes x)) _ _ s
 refine wpAny_noted ?_
 rw [compTurn_list]
 refine wpAny_bind (wpAny_standAt (wpAny_bind (wpAny_mono (turn n s hI) (fun r s₁ h₁=>?_) fun _ _ h'=>h'.elim)))
 cases r with
 | none=>exact wpAny_pure h₁
 | some v =>
  refine wpAny_bind (wpAny_mono h₁ (fun _ s₂ h₂=>?_) fun _ _ h'=>h'.elim)
  refine wpAny_bind (wpAny_mono h₂ (fun _ s₃ h₃=>wpAny_bind (wpAny_mono h₃ (fun ok s₄ h₄=>?_) fun _ _ h'=>h'.elim)) fun _ _ h'=>h'.elim)
  cases ok with
  | false=>exact wpAny_pure ⟨rfl,h₄⟩
  | true =>
   exact wpAny_bind (wpAny_bind (wpAny_mono h₄ (fun x s₅ h₅=>wpAny_bind (wpAny_mono h₅ (fun _ s₆ h₆=>wpAny_pure (wpAny_pure ⟨rfl,h₆⟩)) fun _ _ h'=>h'.elim)) fun _ _ h'=>h'.elim))
end
def PIf (X:Cx) (ifs:List Expr) (t:TT):Prop :=
 ∀(pins:List (Addr×Obj)) (s:Shared) (σ:St) (H:Hp) (Q:Bool->Hp->Prop),Inv X pins σ H s->t σ H Q ->
  wpAny (model X.prog X.w) X.A (forIn ifs true fun c r=>if r=true then do let ok <- isTrue c X.env (eval c X.env);pure (ForInStep.yield ok) else pure (ForInStep.yield r)) (TP X pins σ Q) X.xe s
def qy:TT:=fun _ H Q=>Q true H
section
variable {X:Cx}
theorem dZ:PIf X [] qy:=fun _ _ _ H _ I h=>wpAny_tests_nil ⟨H,I,h⟩
theorem ku {c:Expr}{t:TT} (h:PT X c t):PIf X [c] t:=fun pins s σ H Q I q=>wpAny_tests_one (h pins s σ H Q I q)
end
def uM (ix:List (Option Nat)) (wi:TI) (g:TG) (tts:TT) (te:TE):TE:=fun σ H Q=>wi σ H fun J H1=>∀D,H1 D=none->∃W:Nat->Nat->St->Hp->Prop,(∃m,W 0 m (uL ix σ) (upd H1 D (.lst [])))/\∀i m τ H2,W i m τ H2 ->
 (J.stop i H2/\Q (.ref D) H2)\/(J.go i H2/\∀x H3,J.yld i H2 x H3->g x τ H3 fun τ2 H4=>tts τ2 H4 fun ok H5=>if ok=true then te τ2 H5 fun v H6=>∃ys,H6 D=some (.lst ys)/\ys.length < sizeLine/\∃m',m' < m/\W (i + 1) m' τ2 (upd H6 D (.lst (ys++[v])))
  else ∃m',m' < m/\W (i + 1) m' τ2 H5)
section
variable {X:Cx}{tg iter elt:Expr}{ifs:List Expr}{scope:Scope}{N':List Str}{ix:List (Option Nat)}{wi:TI}{g:TG}{tts:TT}{te:TE}
theorem o5 {use:Option (Value->Sem Unit)}{Qf:Value->Shared->Prop}{pos p':Pos}{pins:List (Addr×Obj)}{σ:St}{H:Hp}{s:Shared}{Q:VK} (hc:X.calm=true) (ok:uJ X.env X.N scope N' ix) (hi:PI X tg iter wi)
  (blk:∀s H fp pn,PG (cT X N' scope s H fp pn) tg g/\PIf (cT X N' scope s H fp pn) ifs tts/\PE (cT X N' scope s H fp pn) elt te)
  (hs:∀x,foldedSetIterable iter X.env x=pure x) (I:Inv X pins σ H s) (hw:uM ix wi g tts te σ H Q)
  (fin:∀D C H' s',Inv X pins σ H' s'->Q (.ref D) H'->(∃m,s'.heap.Ns C m)->H' C=none->X.s₀.heap.objs.size<=C->C≠X.env.locals->(∀x c,X.env.cells.lookup x=some c->c≠C)->C∉X.fs->(∀p∈X.pn++pins,p.1≠C) ->
   compPost (model X.prog X.w) X.A X.xe use Qf (.ref D) C (.ok .next) s') :
  wpAny (model X.prog X.w) X.A (comprehension (.ListComp elt [⟨tg,iter,ifs,0⟩] scope pos) scope X.env p' (newList []) false (eval iter X.env) use) Qf X.xe s:=by
 have hclos:closureFor scope X.env=pure (ja X.env scope.names []):=j0 fun y hy e=>I.ok.has y.1 (ok.free y hy e).1
 refine wpAny_comprehension_free (use:=use) rfl hs hclos ok.kind ok.loc (thn (hi pins s σ H _ I hw) fun v s1 h1=>thn h1 fun itv s2 h2=>?_)
 obtain ⟨it,fp,tn,J,H2,e,I2,T,st2,f2,hW⟩:=h2
 subst e
 obtain ⟨W,⟨m0,w0⟩,turn⟩:=hW s2.heap.objs.size (I2.hok.fresh (Nat.le_refl _))
 have hfl:∀b∈fp,b < s2.heap.objs.size:=fun b hb=>by
  obtain ⟨o,e,_⟩:=T.obj 0 _ st2 b hb
  exact Heap.lt_size e
 refine wpAny_newObj_type ?_
 have I3:Inv X pins σ (upd H2 s2.heap.objs.size (.lst [])) { s2 with heap:=s2.heap.push { cls:=.type "list",dict:=none,data:=.seq ([]:List Value).toArray } } :=
  I2.laid (t':=s2.toks) (fun b o e=>Heap.get?_push_of_some _ e) (Nat.le_refl _) (show bD X.prog X.w _ _ _ (.lst []) from ⟨Nat.zero_le _,[],0,.nil,Heap.get?_push_size _ rfl⟩)
 have st3:tn 0 (s2.heap.push { cls:=.type "list",dict:=none,data:=.seq ([]:List Value).toArray }):=T.keep 0 _ _ st2 fun b _ o e=>Heap.get?_push_of_some _ e
 have f3:∀b∈fp,rM X pins (upd H2 s2.heap.objs.size (.lst [])) b:=fun b hb=>⟨by rw [ax (Nat.ne_of_lt (hfl b hb))];exact (f2 b hb).1,(f2 b hb).2⟩
 have hfl3:∀b∈fp,b < (s2.heap.push { cls:=.type "list",dict:=none,data:=.seq ([]:List Value).toArray }).objs.size:=fun b hb=>by rw [Heap.size_push];exact Nat.lt_succ_of_lt (hfl b hb)
 generalize hs3:({ s2 with heap:=s2.heap.push { cls:=.type "list",dict:=none,data:=.seq ([]:List Value).toArray } }:Shared)=s3 at I3 ⊢
 have eh3:s3.heap=s2.heap.push { cls:=.type "list",dict:=none,data:=.seq ([]:List Value).toArray }:=by rw [<- hs3]
 rw [<- eh3] at st3 hfl3
 generalize hH3:upd H2 s2.heap.objs.size (.lst [])=H3 at I3 f3 w0
 generalize hD:s2.heap.objs.size=D at *
 refine iL ?_
 have I4:=xm ok I3 f3 hfl3
 obtain ⟨hg,ht,he⟩:=blk s3 H3 fp pins
 have st4:tn 0 (pushCells (s3.heap.push { cls:=.type "dict",data:=.dict #[] }) scope.names):=T.keep 0 _ _ st3 fun b _ o e=>pushCells_keeps _ _ b o (Heap.get?_push_of_some _ e)
 have stat:∀{H':Hp},(∀b∈fp,H' b=none)->∀b∈fp,rM (cT X N' scope s3 H3 fp pins) [] H' b:=fun hn b hb=>by
  refine ⟨hn b hb,Nat.ne_of_lt (hfl3 b hb),I4.ok.exfs b hb,.inl hb,(I4.ok.exf b hb).2,fun p hp=>?_⟩
  have hp':p∈X.pn++pins:=by simpa [cT] using hp
  exact (f2 b hb).2.2.2.2.2 p hp'
 have loop:∀(s4:Shared),Inv (cT X N' scope s3 H3 fp pins) [] (uL ix σ) H3 s4->tn 0 s4.heap ->
   codeAny (model X.prog X.w) X.A (.compLoop (.ListComp elt [⟨tg,iter,ifs,0⟩] scope pos) 0 (.ref it) (.ref D) (uI scope s3.heap.objs.size X.env)) (compPost (model X.prog X.w) X.A X.xe use Qf (.ref D) s3.heap.objs.size) s4:=by
  intro s4 I4 st4
  refine o0 (fun n s'=>∃i τ H',Inv (cT X N' scope s3 H3 fp pins) [] τ H' s'/\tn i s'.heap/\(∀b∈fp,H' b=none)/\W i n τ H') ?_ m0 ⟨0,_,H3,I4,st4,fun b hb=>(f3 b hb).1,w0⟩
  rintro n s5 ⟨i,τ,H5,I5,st5,fr5,w5⟩
  rcases turn i n τ H5 w5 with ⟨stop,qn⟩ | ⟨go,step⟩
  .refine thn (T.done (cT X N' scope s3 H3 fp pins) rfl rfl rfl hc i [] s5 τ H5 (fun _ _=>False) I5 (stat fr5) st5 stop) fun r s6 ⟨hr,I6⟩=>?_
   subst hr
   have I7:Inv X pins σ H5 s6:=I3.call' (ch:=fp) I6.os I6.base I6.hok I6.bare fun b hb=>⟨(f2 b hb).2.2.2.1,(f2 b hb).2.1,(f2 b hb).2.2.2.2.1,(f2 b hb).2.2.2.2.2⟩
   obtain ⟨m6,hn6,_⟩:=I6.loc
   refine fin D s3.heap.objs.size H5 s6 I7 qn ⟨m6,hn6⟩ I6.free ?_ ?_ ?_ ?_ ?_
   .exact I3.sz
   .exact Nat.ne_of_gt I3.lt
   .intro x c e z
    obtain ⟨v,q⟩:=I3.cell x c e
    have:=q.lt
    rw [z] at this
    exact Nat.lt_irrefl _ this
   .exact I3.nofs (Nat.le_refl _)
   .intro p hp z
    have:=Heap.lt_size (I3.pin p hp).1
    rw [z] at this
    exact Nat.lt_irrefl _ this
  .refine thn (T.item (cT X N' scope s3 H3 fp pins) rfl rfl rfl hc i [] s5 τ H5 (fun _ _=>False) I5 (stat fr5) st5 go) fun r s6 ⟨u,hr,h6⟩=>?_
   subst hr
   refine thn h6 fun _ s7 ⟨x,H7,I7,r7,y7,st7,fr7⟩=>?_
   have I7':=I7.pinned (stat fr7) (T.obj _ _ st7)
   have again:∀{s8:Shared}{τ8:St}{H8:Hp},Inv (cT X N' scope s3 H3 fp pins) ([]++oI fp s7.heap) τ8 H8 s8->(∃m',m' < n/\W (i + 1) m' τ8 H8) ->
     ∃m,m < n/\∃i τ H',Inv (cT X N' scope s3 H3 fp pins) [] τ H' s8/\tn i s8.heap/\(∀b∈fp,H' b=none)/\W i m τ H':=fun {s8 τ8 H8} I8 ⟨m',hm,w8⟩=>by
    refine ⟨m',hm,i + 1,τ8,H8,I8.unpinned,T.keep _ _ _ st7 fun b hb o e=>(I8.pin (b,o) (List.mem_append_right _ (List.mem_append_right _ (gS hb e)))).1,fun b hb=>?_,w8⟩
    obtain ⟨o,e,d⟩:=T.obj _ _ st7 b hb
    exact (I8.pin (b,o) (List.mem_append_right _ (List.mem_append_right _ (gS hb e)))).2.1
   refine thn (hg _ s7 τ H7 x u _ I7' r7 (step x H7 y7)) fun _ s8 ⟨τ8,H8,I8,q8⟩=>?_
   refine thn (ht _ s8 τ8 H8 _ I8 q8) fun okb s9 ⟨H9,I9,q9⟩=>?_
   cases okb with
   | false =>
    rw [if_neg Bool.false_ne_true] at q9
    rw [if_neg Bool.false_ne_true]
    exact again I9 q9
   | true =>
    rw [if_pos rfl] at q9
    rw [if_pos rfl]
    refine thn (he _ s9 τ8 H9 _ I9 q9) fun v10 s10 ⟨x10,H10,I10,r10,q10⟩=>?_
    obtain ⟨ys,hD10,hz,m',hm,w10⟩:=q10
    refine thn (dk (X:=cT X N' scope s3 H3 fp pins) _ s10 τ8 H10 (.ref D) [x10] (.ref D) [v10] (fun _ H'=>∃m',m' < n/\W (i + 1) m' τ8 H') I10 rfl (.cons r10 .nil) ⟨D,ys,x10,rfl,rfl,hD10,hz,m',hm,w10⟩) fun _ s11 ⟨_,H11,I11,_,q11⟩=>?_
    exact again I11 q11
 exact codeAny_compStart_list (loop _ I4 st4) (T.self X.A 0 _ _ _ st4 (loop _ I4 st4))
theorem dE {pos:Pos} (N':List Str) (ix:List (Option Nat)) (hc:X.calm=true) (hi:PI X tg iter wi)
  (blk:∀s H fp pn,PG (cT X N' scope s H fp pn) tg g/\PIf (cT X N' scope s H fp pn) ifs tts/\PE (cT X N' scope s H fp pn) elt te)
  (chk:m8 X.env.scope X.N scope N' ix=true) (hs:∀x,foldedSetIterable iter X.env x=pure x:=by intro _;rfl) :
  PE X (.ListComp elt [⟨tg,iter,ifs,0⟩] scope pos) (uM ix wi g tts te):=by
 intro pins s σ H Q I hw
 rw [eval_ListComp]
 refine o5 (use:=none) hc (oY chk) hi blk hs I hw fun D C H' s' I' q hm hn h1 h2 h3 h4 h5=>?_
 obtain ⟨m,hm⟩:=hm
 refine ⟨m,hm,fun h' sb=>⟨.ref D,H',?_,rfl,q⟩⟩
 exact I'.turned (t':=s'.toks) (fun b o hb e=>(sb.2 b hb).trans e) hn h2 (.inr h1) h3 h5
end
section
variable {X:Cx}{tg iter elt:Expr}{ifs:List Expr}{scope:Scope}{N':List Str}{ix:List (Option Nat)}{wi:TI}{g:TG}{tts:TT}{te:TE}
theorem ng {i:Nat}{x:Str}{pos pos' cpos:Pos} (N':List Str) (ix:List (Option Nat)) (hN:X.N.Nodup) (hi:X.N[i]?=some x) (hx:Loc X.env.scope x) (hc:X.calm=true) (hit:PI X tg iter wi)
  (blk:∀s H fp pn,PG (cT X N' scope s H fp pn) tg g/\PIf (cT X N' scope s H fp pn) ifs tts/\PE (cT X N' scope s H fp pn) elt te)
  (chk:m8 X.env.scope X.N scope N' ix=true) (hsw:swapsWith (.ListComp elt [⟨tg,iter,ifs,0⟩] scope cpos) (some (.Name x pos')) pos.line X.env=pure true:=by rfl)
  (hs:∀x,foldedSetIterable iter X.env x=pure x:=by intro _;rfl) (hf:X.fn x=true\/X.env.scope.names.lookup x=some .local:=by first | exact .inl rfl | exact .inr rfl | assumption) :
  PS X (.Assign [.Name x pos'] (.ListComp elt [⟨tg,iter,ifs,0⟩] scope cpos) pos) (Be (uM ix wi g tts te) (dY i)):=by
 intro pins s σ H D I hw
 rw [exec_Assign_Name_used _ _ _ _ hsw]
 refine wpAny_bind (wpAny_standAt (wpAny_bind ?_))
 show wpAny _ X.A (do let _ <- comprehension (.ListComp elt [⟨tg,iter,ifs,0⟩] scope cpos) scope X.env _ (newList []) false (eval iter X.env) (some (assign (.Name x pos') X.env))) _ _ s
 refine wpAny_bind (thn (o5 (use:=some (assign (.Name x pos') X.env)) (Qf:=fun _ s'=>SP X pins D .next s') hc (oY chk) hit blk hs I hw fun D' C H' s' I' q hm hn h1 h2 h3 h4 h5=>?_) fun _ s' q=>wpAny_pure (wpAny_pure q))
 obtain ⟨m,oC,es,ep,hoC,hdC,hrC⟩:=hm
 have Ip:Inv X (pins++[(C,oC)]) σ H' s':=I'.pins_of fun p hp=>(List.mem_append.mp hp).elim (fun z=>I'.pin p (List.mem_append_right _ z)) fun z=>by
  have e:p=(C,oC):=by simpa using z
  subst e
  exact ⟨hoC,hn,h2,h4,fun v z=>by rw [hdC] at z;cases z⟩
 refine wpAny_assign_Name (gR (v:=.ref D') Ip hN hi hx rfl (fun s2 I2=>?_) hf)
 have hC2:s2.heap.get? C=some oC:=(I2.pin (C,oC) (by simp)).1
 have I2':Inv X pins (σ.set i (some (.ref D'))) H' s2:=I2.pins_of fun p hp=>I2.pin p (List.mem_append_right _ (List.mem_append_left _ hp))
 refine ⟨m,⟨oC,es,ep,hC2,hdC,hrC⟩,fun h' sb=>⟨_,H',?_,q⟩⟩
 exact I2'.turned (t':=s2.toks) (fun b o hb e=>(sb.2 b hb).trans e) hn h2 (.inr h1) h3 h5
end
def yF (p:Addr) (a b c:Int):HO:=.ext fun h=>∃t u v,IsRange h p a b c t u v
def qz (a c:Int) (n:Nat):List V:=(List.range n).map fun (k:Nat)=>V.int (a + k * c)
theorem tj {a c:Int}{n:Nat}{acc:Array Value} (h:ItemsOf (fun i v=>∃t,v=.int (a + i * c) t) acc n):bO (qz a c n) acc.toList:=by
 obtain ⟨hn,hi⟩:=h
 have key:∀(m:Nat) (us:List Value) (f:Nat->Int),us.length=m->(∀i u,us[i]?=some u->∃t,u=Value.int (f i) t)->bO ((List.range m).map fun k=>V.int (f k)) us:=by
  intro m
  induction m with
  | zero=>intro us f hl _;rw [List.length_eq_zero_iff] at hl;subst hl;exact .nil
  | succ m ih =>
   intro us f hl hu
   cases us with
   | nil=>simp at hl
   | cons u r =>
    rw [List.range_succ_eq_map,List.map_cons,List.map_map]
    refine .cons (hu 0 u rfl) (ih r (fun k=>f (k + 1)) (by simpa using hl) fun i v e=>hu (i + 1) v (by simpa using e))
 refine key n acc.toList (fun k=>a + k * c) (by simpa using hn) fun i u e=>?_
 exact hi i u (by simpa using e)
theorem uN (a c:Int) (n:Nat):(qz a c n).length=n:=by simp [qz]
section
variable {X:Cx}
theorem xn {pins:List (Addr×Obj)}{σ:St}{H:Hp}{s:Shared}{a b c:Int}{t u v:Tok}{tk:Nat} (I:Inv X pins σ H s) :
  Inv X pins σ (upd H s.heap.objs.size (yF s.heap.objs.size a b c)) { s with heap:=s.heap.push { cls:=.type "range",data:=.fields #[.int a t,.int b u,.int c v] },toks:=tk }:=by
 refine I.laid (fun b o e=>Heap.get?_push_of_some _ e) (Nat.le_refl _) ⟨⟨t,u,v,IsRange.new ..⟩,⟨_,Heap.get?_push_size _ rfl⟩,fun h1 h2 ⟨t,u,v,z⟩ k=>⟨t,u,v,k _ z⟩⟩
theorem ky {a:Expr}{ta:TA}{p pos:Pos} (hg:Gl X "range") (hm:X.mg "range"=none) (ha:PA X [a] ta) (hs:starEach [a] X.env=[(false,eval a X.env)]:=by rfl) :
  PE X (.Call (.Name "range" p) [a] [] pos) (fun σ H Q=>ta σ H fun vs H1=>∃j:Int,vs=[.int j]/\∀p,H1 p=none->Q (.ref p) (upd H1 p (yF p 0 j 1))):=by
 intro pins s σ H Q I h
 refine Call_ (iX I hg hm boot_range (PyProof.Rows.callWith_type1 (thn (ha pos pins s σ H _ I h) fun us s1 ⟨vs,H1,I1,r1,q1⟩=>?_) hs rfl))
 obtain ⟨j,e,q⟩:=q1
 subst e
 cases r1 with
 | cons r rr =>
  cases rr
  obtain ⟨t,rfl⟩:=r
  exact call_range_1 ⟨.ref s1.heap.objs.size,_,xn I1,rfl,q _ (I1.hok.fresh (Nat.le_refl _))⟩
def DP (K:PySem.W.Frag) (mk:List V->HO):List V->Hp->VK->Prop:=fun xs H Q=>∃p a b c n,xs=[.ref p]/\H p=some (yF p a b c)/\Builtin.Range.small a b c=true/\Builtin.Range.rangeSize a b c=((n:Nat):Int)/\n<=1000000/\∀l,H l=none->Q (.ref l) (upd H l (mk (qz a c n)))
theorem tm (hc:X.calm=true):bK X (.type "list") (DP X.K .lst):=by
 intro pins s σ H xs us Q I r h
 obtain ⟨p,a,b,c,n,rfl,hp,hsm,hsz,hn,q⟩:=h
 obtain ⟨u,rfl,rx⟩:=ib r
 cases rx
 obtain ⟨⟨t,u,v,hr⟩,_,_⟩:=(show bD X.prog X.w H s.heap p (yF p a b c) from I.hok p _ hp)
 have hs:sizeLine=16777216:=sizeLine_eq
 refine call_list_range (I.ok.hd hc) hr hsm hsz (by omega) fun h' tk acc c' hk e hacc=>?_
 exact ⟨.ref s.heap.objs.size,_,I.laid (t':=tk) hk (Nat.le_refl _) (show bD X.prog X.w _ h' _ (.lst (qz a c n)) from ⟨by rw [uN];omega,acc.toList,c',tj hacc,by simpa using e⟩),rfl,q _ (I.hok.fresh (Nat.le_refl _))⟩
theorem jc {α β:Type}{g:α->Option β}{h:α->β}:∀{xs:List α},(∀x∈xs,g x=some (h x))->xs.filterMap g=xs.map h
 | [],_=>rfl
 | x::r,hx=>by rw [List.filterMap_cons,hx x List.mem_cons_self,List.map_cons,jc fun y hy=>hx y (List.mem_cons_of_mem _ hy)]
theorem DQ (l:List Nat) (u:Tok):Txt.sliceBy (S l) none none (-1,u)=S l.reverse:=by
 have e1:((slicePicked (S l) none none (some (-1,u))).filterMap ((S l).cps[·]?))=l.reverse:=by
  unfold slicePicked Builtin.Str.strSliceIndices sliceRange
  simp only [Option.map_some,Option.getD_some,Option.map_none,show ¬ ((-1:Int) > 0) by decide,if_false]
  rw [eT]
  have ec:(if ((l.length:Int) - 1 > -1) then ((l.length:Int) - 1 - -1 - -1 - 1) / (- -1) else 0).toNat=l.length:=by
   have:(- -1:Int)=1:=by decide
   rw [this,Int.ediv_one]
   split <;> omega
  rw [ec]
  have e:((List.range l.length).map fun (k:Nat)=>((l.length:Int) - 1 + -1 * (k:Int)).toNat)=(List.range l.length).map fun k=>l.length - 1 - k:=by
   apply List.map_congr_left
   intro k _
   omega
  rw [e]
  have e2:(fun i:Nat=>(S l).cps[i]?)=fun i:Nat=>l[i]?:=by funext i;simp [S]
  rw [e2]
  apply List.ext_getElem?
  intro i
  rw [List.filterMap_map]
  have hall:∀x∈List.range l.length,((fun i:Nat=>l[i]?) ∘ fun k=>l.length - 1 - k) x=some (fn l (l.length - 1 - x)):=fun x hx=>by
   have hx':x < l.length:=List.mem_range.mp hx
   have hx2:l.length - 1 - x < l.length:=by omega
   exact yE hx2
  rw [jc hall]
  by_cases hi:i < l.length
  .rw [List.getElem?_map,List.getElem?_range hi,List.getElem?_reverse hi,yE (by omega)];rfl
  .rw [List.getElem?_eq_none (by simp;omega),List.getElem?_eq_none (by simp;omega)]
 unfold Txt.sliceBy
 rw [if_neg (by simp),e1];rfl
end
def cL (k:Bool) (h:Heap) (a:Addr) (its:Array Value):Prop:=∃o,h.get? a=some o/\o.cls=.type (cond k "tuple" "list")/\∃n,o.data=.seq its n
def bw (k:Bool) (h:Heap) (it a:Addr) (i:Nat):Prop:=∃o,h.get? it=some o/\o.cls=.type (cond k "tuple_iterator" "list_iterator")/\o.data=.fields #[.ref a,.int i 0]
theorem cL.mv {k:Bool}{h h':Heap}{a:Addr}{its:Array Value} (r:cL k h a its) (f:∀o,h.get? a=some o->h'.get? a=some o):cL k h' a its:=let ⟨o,e,q⟩:=r;⟨o,f o e,q⟩
theorem bw.mv {k:Bool}{h h':Heap}{it a:Addr}{i:Nat} (r:bw k h it a i) (f:∀o,h.get? it=some o->h'.get? it=some o):bw k h' it a i:=let ⟨o,e,q⟩:=r;⟨o,f o e,q⟩
section
variable {P:Program}{w:World}{A:Around}{E:Value->Shared->Prop}{s:Shared}{k:Bool}{it a:Addr}{i:Nat}{its:Array Value}
theorem o7 {x:Value}{Q:Value->Shared->Prop} (W:s.heap.IsTupleIter it a i) (R:s.heap.IsTuple a its) (hx:its[i]?=some x)
  (hQ:∀h',h'.IsTupleIter it a (i + 1)->Heap.SameBut it s.heap h'->Q x { s with heap:=h' }):wpAny (model P w) A (Builtin.SmallTypes.nextOf (.ref it)) Q E s:=by
 have hT:=W.typeIs
 obtain ⟨o,ho,c,d⟩:=W
 obtain ⟨ol,hol,_,nl,dl⟩:=R
 unfold Builtin.SmallTypes.nextOf
 refine wpAny_bind (wpAny_callSpecial?_slot (name:=Str.ofString "__next__") hT F.slot_tuple_iterator_next (wpAny_call_entry F.slot_tuple_iterator_next hT F.entry_tuple_iterator_next ?_ (F.args_tuple_iterator_next_1 _)))
 refine wpAny_bind (m:=field (.ref it) 0) (wpAny_field ho d (x:=.ref a) rfl ?_)
 have nn:¬ ((Value.ref a == Value.none)=true):=Bool.false_ne_true
 show wpAny _ _ (if (Value.ref a == Value.none)=true then _ else _) _ _ s
 rw [if_neg nn]
 refine wpAny_bind (m:=field (.ref it) 1) (wpAny_field ho d (x:=.int i 0) rfl ?_)
 refine wpAny_bind (m:=seqItems? (.ref a)) (wpAny_seqItems hol dl ?_)
 simp only [Int.toNat_natCast,hx]
 exact wpAny_bind (wpAny_setField ho d (by simp) (wpAny_pure ⟨x,rfl,wpAny_pure (hQ _ ⟨_,Heap.get?_update_self _ ho (Obj.isFreed_of_fields (Obj.data_mapFields d _)),(Obj.cls_mapFields ..).trans c,by rw [Obj.data_mapFields d];simp [rawInt]⟩ (Heap.SameBut.update ..))⟩))
theorem qA {Q:Value->Shared->Prop} (hh:A.handled=none) (W:s.heap.IsTupleIter it a i) (R:s.heap.IsTuple a its) (hx:its[i]?=none)
  (hE:∀h' e,Heap.ExtBut it s.heap h'->(∃o,h'.get? e=some o/\o.cls=.type "StopIteration")->E (.ref e) { s with heap:=h' }):wpAny (model P w) A (Builtin.SmallTypes.nextOf (.ref it)) Q E s:=by
 have hT:=W.typeIs
 obtain ⟨o,ho,c,d⟩:=W
 obtain ⟨ol,hol,_,nl,dl⟩:=R
 unfold Builtin.SmallTypes.nextOf
 refine wpAny_bind (wpAny_callSpecial?_slot (name:=Str.ofString "__next__") hT F.slot_tuple_iterator_next (wpAny_call_entry F.slot_tuple_iterator_next hT F.entry_tuple_iterator_next ?_ (F.args_tuple_iterator_next_1 _)))
 refine wpAny_bind (m:=field (.ref it) 0) (wpAny_field ho d (x:=.ref a) rfl ?_)
 have nn:¬ ((Value.ref a == Value.none)=true):=Bool.false_ne_true
 show wpAny _ _ (if (Value.ref a == Value.none)=true then _ else _) _ _ s
 rw [if_neg nn]
 refine wpAny_bind (m:=field (.ref it) 1) (wpAny_field ho d (x:=.int i 0) rfl ?_)
 refine wpAny_bind (m:=seqItems? (.ref a)) (wpAny_seqItems hol dl ?_)
 simp only [Int.toNat_natCast,hx]
 refine wpAny_bind (wpAny_rule (wpAny_bind (wpAny_setField ho d (by simp) (wpAny_bind (m:=newExc (.type "StopIteration") []) ?_))))
 simp only [newExc,newTuple]
 refine wpAny_bind (wpAny_newObj_type (wpAny_bind (m:=firstArgMember _ _) (wpAny_of_eq (a:=Value.none) (by first | rfl | (simp only [firstArgMember];rfl)) (wpAny_newObj_type ?_ (by size_fits)))) (by size_fits))
 simp only [raiseNew]
 refine wpAny_bind (wpAny_handled ?_)
 first | rw [show A.in1.handled=none from hh] | rw [hh]
 exact wpAny_bind (wpAny_pure (wpAny_throw (hE _ _ (((Heap.SameBut.update ..).extBut.push _).push _) ⟨_,Heap.get?_push_size _ rfl,rfl⟩)))
theorem cF {x:Value}{Q:Value->Shared->Prop} (W:bw k s.heap it a i) (R:cL k s.heap a its) (hx:its[i]?=some x)
  (hQ:∀h',bw k h' it a (i + 1)->Heap.SameBut it s.heap h'->Q x { s with heap:=h' }):wpAny (model P w) A (Builtin.SmallTypes.nextOf (.ref it)) Q E s:=by
 cases k with
 | false=>exact wpAny_nextOf_list_item W R hx hQ
 | true=>exact o7 W R hx hQ
theorem eF {Q:Value->Shared->Prop} (hh:A.handled=none) (W:bw k s.heap it a i) (R:cL k s.heap a its) (hx:its[i]?=none)
  (hE:∀h' e,Heap.ExtBut it s.heap h'->(∃o,h'.get? e=some o/\o.cls=.type "StopIteration")->E (.ref e) { s with heap:=h' }):wpAny (model P w) A (Builtin.SmallTypes.nextOf (.ref it)) Q E s:=by
 cases k with
 | false=>exact wpAny_nextOf_list_end hh W R hx hE
 | true=>exact qA hh W R hx hE
end
structure ZA (z U V i j:Addr):Prop where
 Uz:U≠z
 Vz:V≠z
 iz:i≠z
 jz:j≠z
 UV:U≠V
 Ui:U≠i
 Uj:U≠j
 Vi:V≠i
 Vj:V≠j
 ij:i≠j
section
variable {P:Program}{w:World}{A:Around}{E:Value->Shared->Prop}{s:Shared}{k l:Bool}{z U V i j a c:Addr}{n:Nat}{xs ys:Array Value}{x y u v:Value}
theorem zT {Q:Value->Shared->Prop} (D:ZA z U V i j) (az:a≠z) (cz:c≠z) (ci:c≠i) (cV:c≠V) (hz:IsZip s.heap z U V .none) (hU:IsPair s.heap U (.ref i) (.ref j)) (hV:IsPair s.heap V u v)
  (W1:bw k s.heap i a n) (W2:bw l s.heap j c n) (R1:cL k s.heap a xs) (R2:cL l s.heap c ys) (hx:xs[n]?=some x) (hy:ys[n]?=some y)
  (hQ:∀h',IsZip h' z U V (rawInt s.heap.objs.size)->IsPair h' V x y->bw k h' i a (n + 1)->bw l h' j c (n + 1)->IsPair h' s.heap.objs.size x y->h'.objs.size=s.heap.objs.size + 1 ->
   (∀b o,b≠z->b≠V->b≠i->b≠j->s.heap.get? b=some o->h'.get? b=some o)->Q (.ref s.heap.objs.size) { s with heap:=h' }) :
  wpAny (model P w) A (Builtin.«zip.__next__» ⟨[.ref z],[]⟩) (fun f s'=>∃r,f=.done (.ret r)/\Q r s') E s:=by
 refine wpAny_bind (m:=field (.ref z) 2) (wpAny_field hz rfl (x:=.bool false) rfl (wpAny_bind (m:=field (.ref z) 3) (wpAny_field hz rfl (x:=.ref U) rfl (wpAny_bind (wpAny_seqItems hU rfl ?_)))))
 refine wpAny_bind (m:=Builtin.SmallTypes.ownedTupleIsFree (.ref z)) ?_
 unfold Builtin.SmallTypes.ownedTupleIsFree
 refine wpAny_bind (wpAny_field hz rfl (x:=.none) rfl (wpAny_pure ?_))
 simp only [if_true]
 refine wpAny_bind (wpAny_rule (wpAny_bind (wpAny_field hz rfl (x:=.ref V) rfl (wpAny_bind (wpAny_setField_rec hz (by simp) fun g1 z1 b1=>wpAny_bind ?_)))))
 replace z1:IsZip g1 z U V .ellipsis:=z1
 simp only [List.zipIdx_cons,List.zipIdx_nil,List.forIn_cons,List.forIn_nil]
 have e1:=b1.extBut
 refine wpAny_bind (wpAny_bind (wpAny_onRaise (wpAny_bind (m:=Builtin.SmallTypes.nextOf (.ref i)) (cF (W1.mv fun o e=>e1 _ o D.iz e) (R1.mv fun o e=>e1 _ o az e) hx fun g2 w1 b2=>wpAny_pure ?_))))
 have e2:=b2.extBut
 have v2:IsPair g2 V u v:=e2 _ _ D.Vi (e1 _ _ D.Vz hV)
 refine wpAny_bind (wpAny_seqItems v2 rfl (wpAny_bind (wpAny_updateSeq_pair v2 fun g3 v3 b3=>wpAny_bind (wpAny_letGo (wpAny_pure ?_)))))
 replace v3:IsPair g3 V x v:=v3
 have e3:=b3.extBut
 refine wpAny_bind (wpAny_bind (wpAny_onRaise (wpAny_bind (m:=Builtin.SmallTypes.nextOf (.ref j)) (cF (W2.mv fun o e=>e3 _ o D.Vj.symm (e2 _ o D.ij.symm (e1 _ o D.jz e))) (R2.mv fun o e=>e3 _ o cV (e2 _ o ci (e1 _ o cz e))) hy fun g4 w2 b4=>wpAny_pure ?_))))
 have e4:=b4.extBut
 have v4:IsPair g4 V x v:=e4 _ _ D.Vj v3
 refine wpAny_bind (wpAny_seqItems v4 rfl (wpAny_bind (wpAny_updateSeq_pair v4 fun g5 v5 b5=>wpAny_bind (wpAny_letGo (wpAny_pure (wpAny_pure ?_))))))
 replace v5:IsPair g5 V x y:=v5
 have e5:=b5.extBut
 refine wpAny_bind (wpAny_seqItems v5 rfl (wpAny_bind (wpAny_newTuple ?_)))
 have sz:g5.objs.size=s.heap.objs.size:=by rw [b5.1,b4.1,b3.1,b2.1,b1.1]
 have z5:IsZip g5 z U V .ellipsis:=e5 _ _ D.Vz.symm (e4 _ _ D.jz.symm (e3 _ _ D.Vz.symm (e2 _ _ D.iz.symm z1)))
 have k5:∀b o,b≠z->b≠V->b≠i->b≠j->s.heap.get? b=some o->g5.get? b=some o:=fun b o q1 q2 q3 q4 e=>e5 _ _ q2 (e4 _ _ q4 (e3 _ _ q2 (e2 _ _ q3 (e1 _ _ q1 e))))
 have w15:bw k g5 i a (n + 1):=w1.mv fun o e=>e5 _ o D.Vi.symm (e4 _ o D.ij (e3 _ o D.Vi.symm e))
 have w25:bw l g5 j c (n + 1):=w2.mv fun o e=>e5 _ o D.Vj.symm e
 have zlt:z < g5.objs.size:=Heap.lt_size z5
 refine wpAny_bind (m:=Builtin.SmallTypes.ownedTupleHandOut (.ref z) (.ref g5.objs.size)) ?_
 unfold Builtin.SmallTypes.ownedTupleHandOut
 have z6:IsZip (g5.push { cls:=.type "tuple",data:=.seq #[x,y] }) z U V .ellipsis:=Heap.get?_push_of_some _ z5
 refine wpAny_bind (wpAny_setField_rec z6 (by simp) fun g7 z7 b7=>?_)
 replace z7:IsZip g7 z U V (rawInt g5.objs.size):=z7
 refine wpAny_setField_rec z7 (by simp) fun g8 z8 b8=>?_
 replace z8:IsZip g8 z U V (rawInt g5.objs.size):=z8
 have up:∀b o,b≠z->g5.get? b=some o->g8.get? b=some o:=fun b o q e=>b8.extBut _ _ q (b7.extBut _ _ q (Heap.get?_push_of_some _ e))
 have t8:IsPair g8 g5.objs.size x y:=b8.extBut _ _ (Nat.ne_of_gt zlt) (b7.extBut _ _ (Nat.ne_of_gt zlt) (Heap.get?_push_size _ rfl))
 have s8:g8.objs.size=g5.objs.size + 1:=by rw [b8.1,b7.1,Heap.size_push]
 rw [sz] at z8 t8 s8
 refine wpAny_pure ⟨_,rfl,?_⟩
 show Q (.ref g5.objs.size) _
 rw [sz]
 exact hQ g8 z8 (up _ _ D.Vz v5) (w15.mv fun o e=>up _ o D.iz e) (w25.mv fun o e=>up _ o D.jz e) t8 s8 fun b o q1 q2 q3 q4 e=>up b o q1 (k5 b o q1 q2 q3 q4 e)
theorem B8 {Q:Fin->Shared->Prop} (hh:A.handled=none) (D:ZA z U V i j) (az:a≠z) (cz:c≠z) (ci:c≠i) (cV:c≠V) (hz:IsZip s.heap z U V .none) (hU:IsPair s.heap U (.ref i) (.ref j)) (hV:IsPair s.heap V u v)
  (W1:bw k s.heap i a n) (W2:bw l s.heap j c n) (R1:cL k s.heap a xs) (R2:cL l s.heap c ys) (hend:xs[n]?=none\/ys[n]?=none)
  (hE:∀h' e,(∀b o,b≠z->b≠V->b≠i->b≠j->s.heap.get? b=some o->h'.get? b=some o)->(∃o,h'.get? e=some o/\o.cls=.type "StopIteration")->E (.ref e) { s with heap:=h' }) :
  wpAny (model P w) A (Builtin.«zip.__next__» ⟨[.ref z],[]⟩) Q E s:=by
 refine wpAny_bind (m:=field (.ref z) 2) (wpAny_field hz rfl (x:=.bool false) rfl (wpAny_bind (m:=field (.ref z) 3) (wpAny_field hz rfl (x:=.ref U) rfl (wpAny_bind (wpAny_seqItems hU rfl ?_)))))
 refine wpAny_bind (m:=Builtin.SmallTypes.ownedTupleIsFree (.ref z)) ?_
 unfold Builtin.SmallTypes.ownedTupleIsFree
 refine wpAny_bind (wpAny_field hz rfl (x:=.none) rfl (wpAny_pure ?_))
 simp only [if_true]
 refine wpAny_bind (wpAny_rule (wpAny_bind (wpAny_field hz rfl (x:=.ref V) rfl (wpAny_bind (wpAny_setField_rec hz (by simp) fun g1 z1 b1=>wpAny_bind ?_)))))
 replace z1:IsZip g1 z U V .ellipsis:=z1
 simp only [List.zipIdx_cons,List.zipIdx_nil,List.forIn_cons,List.forIn_nil]
 have e1:=b1.extBut
 cases hx:xs[n]? with
 | none =>
  refine wpAny_bind (wpAny_bind (wpAny_onRaise (wpAny_bind (m:=Builtin.SmallTypes.nextOf (.ref i)) (eF hh (W1.mv fun o e=>e1 _ o D.iz e) (R1.mv fun o e=>e1 _ o az e) hx fun g2 e b2 he=>?_))))
  obtain ⟨oe,ge,ce⟩:=he
  have z2:IsZip g2 z U V .ellipsis:=b2 _ _ D.iz.symm z1
  have ez:e≠z:=fun q=>by subst q;rw [z2] at ge;cases ge;simp at ce
  exact wpAny_setField_rec z2 (by simp) fun g3 _ b3=>hE g3 e (fun b o q1 _ q3 _ q=>b3.extBut _ _ q1 (b2 _ _ q3 (e1 _ _ q1 q))) ⟨oe,b3.extBut _ _ ez ge,ce⟩
 | some x =>
  have hy:ys[n]?=none:=by
   rcases hend with q | q
   .rw [hx] at q;cases q
   .exact q
  refine wpAny_bind (wpAny_bind (wpAny_onRaise (wpAny_bind (m:=Builtin.SmallTypes.nextOf (.ref i)) (cF (W1.mv fun o e=>e1 _ o D.iz e) (R1.mv fun o e=>e1 _ o az e) hx fun g2 w1 b2=>wpAny_pure ?_))))
  have e2:=b2.extBut
  have v2:IsPair g2 V u v:=e2 _ _ D.Vi (e1 _ _ D.Vz hV)
  refine wpAny_bind (wpAny_seqItems v2 rfl (wpAny_bind (wpAny_updateSeq_pair v2 fun g3 v3 b3=>wpAny_bind (wpAny_letGo (wpAny_pure ?_)))))
  have e3:=b3.extBut
  refine wpAny_bind (wpAny_bind (wpAny_onRaise (wpAny_bind (m:=Builtin.SmallTypes.nextOf (.ref j)) (eF hh (W2.mv fun o e=>e3 _ o D.Vj.symm (e2 _ o D.ij.symm (e1 _ o D.jz e))) (R2.mv fun o e=>e3 _ o cV (e2 _ o ci (e1 _ o cz e))) hy fun g4 e b4 he=>?_))))
  obtain ⟨oe,ge,ce⟩:=he
  have z4:IsZip g4 z U V .ellipsis:=b4 _ _ D.jz.symm (e3 _ _ D.Vz.symm (e2 _ _ D.iz.symm z1))
  have ez:e≠z:=fun q=>by subst q;rw [z4] at ge;cases ge;simp at ce
  exact wpAny_setField_rec z4 (by simp) fun g5 _ b5=>hE g5 e (fun b o q1 q2 q3 q4 q=>b5.extBut _ _ q1 (b4 _ _ q4 (e3 _ _ q2 (e2 _ _ q3 (e1 _ _ q1 q))))) ⟨oe,b5.extBut _ _ ez ge,ce⟩
end
def Sq (k:Bool) (K:PySem.W.Frag) (H:Hp) (a:Addr) (xs:List V):Prop:=cond k (SqT K H a xs) (SqL K H a xs)
section
variable {X:Cx}{pins:List (Addr×Obj)}{σ:St}{H:Hp}{s:Shared}{k l:Bool}{a b c:Addr}{xs ys:List V}
theorem Inv.row (I:Inv X pins σ H s) (h:Sq k X.K H a xs):∃its:List Value,bO xs its/\cL k s.heap a its.toArray/\xs.length<=sizeLine:=by
 cases k with
 | false=>obtain ⟨its,r,p,z⟩:=I.list h;exact ⟨its,r,p.isList,z⟩
 | true=>obtain ⟨its,r,p,z⟩:=I.tuple h;exact ⟨its,r,p,z⟩
theorem Inv.row_inj (I:Inv X pins σ H s) (h:Sq k X.K H a xs) (h':Sq k X.K H a ys):xs=ys:=by
 cases k with
 | false=>exact I.list_inj h h'
 | true=>exact I.tuple_inj h h'
theorem uO {u:HO} (r:Rd H a u):∃v,H a=some v:=by
 rcases r with r | ⟨o,r⟩ <;> exact ⟨_,r⟩
theorem Inv.row_ne (I:Inv X pins σ H s) (h:Sq k X.K H a xs) (f:rM X pins H b):a≠b:=by
 have kk:∀o,X.K.lookup a=some o->a≠b:=fun o e z=>by
  have e1:=I.ok.mod.kin a o e
  rcases f.2.2.2.1 with q | q
  .exact I.ok.noex a o e1 (z ▸ q)
  .exact absurd (Nat.lt_of_lt_of_le (Heap.lt_size (I.ok.bs a o e1).1) (z ▸ q)) (Nat.lt_irrefl _)
 have hh:∀u,H a=some u->a≠b:=fun u e z=>by rw [z,f.1] at e;cases e
 cases k with
 | false =>
  rcases h with r | ⟨o,its,n,e,_⟩
  .obtain ⟨v,e⟩:=uO r;exact hh v e
  .exact kk o e
 | true =>
  rcases h with r | ⟨o,its,n,e,_⟩
  .obtain ⟨v,e⟩:=uO r;exact hh v e
  .exact kk o e
theorem Inv.yielded {h':Heap}{T:Addr}{zs:List V}{t':Nat}{ch:List Addr} (I:Inv X pins σ H s) (hf:∀b∈ch,rM X pins H b) (hT:s.heap.objs.size<=T)
  (kp:∀b o,b∉ch->s.heap.get? b=some o->h'.get? b=some o) (new:bD X.prog X.w (upd H T (.tup zs)) h' T (.tup zs)):Inv X pins σ (upd H T (.tup zs)) { s with heap:=h',toks:=t' }:=by
 have hn:H T=none:=I.hok.fresh hT
 have nT:∀b u,H b=some u->b≠T:=fun b u e z=>by rw [z,hn] at e;cases e
 have oT:∀b o,s.heap.get? b=some o->b≠T:=fun b o e z=>absurd (Nat.lt_of_lt_of_le (Heap.lt_size e) (z ▸ hT)) (Nat.lt_irrefl _)
 have nc:∀b u,H b=some u->b∉ch:=fun b u e z=>by rw [(hf b z).1] at e;cases e
 refine I.step (g':=s.gens) (d':=s.drawn) (ch:=ch) (fun b hb=>⟨(hf b hb).2.2.2.1,(hf b hb).2.1,(hf b hb).2.2.2.2.1,(hf b hb).2.2.2.2.2⟩) (fun b o _ _ hc e _=>kp b o hc e) (fun b o _ _ hc e _=>⟨o.slots,kp b o hc e⟩)
  (fun b o _ e n=>by rw [ax (oT b o e)];exact n) (fun b o hc e=>⟨o,kp b o hc e⟩) (fun b xs e=>by rw [ax (nT b _ e)];exact e) (fun b o u e=>by rw [ax (nT b _ e)];exact e)
  (fun b ps e=>⟨#[],by rw [ax (nT b _ e),e];simp⟩) (fun m hm=>?_) (fun b u e=>?_) I.bare
 .obtain ⟨o,es,ep,ho,r⟩:=hm
  exact ⟨o,es,ep,kp _ o (fun z=>(hf _ z).2.1 rfl) ho,r⟩
 .by_cases hb:b=T
  .subst hb;rw [aF] at e;cases e;exact new
  .rw [ax hb] at e
   refine (I.hok b u e).stay (fun c v hc q=>kp c v ?_ q) (fun c q=>by rw [ax (nT c _ q)];exact q) fun c xs q=>by rw [ax (nT c _ q)];exact q
   rcases hc with z | z
   .rw [z];exact nc b u e
   .exact nc c _ z
end
def Itz (k l:Bool) (K:PySem.W.Frag) (a c:Addr):It :=
  ⟨fun i H=>∃xs ys x y,Sq k K H a xs/\Sq l K H c ys/\xs[i]?=some x/\ys[i]?=some y,
   fun i H p H'=>∃T x y,H T=none/\p=.ref T/\(∀xs,Sq k K H a xs->xs[i]?=some x)/\(∀ys,Sq l K H c ys->ys[i]?=some y)/\H'=upd H T (.tup [x,y]),
   fun i H=>∃xs ys,Sq k K H a xs/\Sq l K H c ys/\(xs.length<=i\/ys.length<=i)⟩
theorem xo {P:Program}{w:World}{K:PySem.W.Frag}{es:List Expr}{ct:Nat}{tp:Pos}{k l:Bool}{a c z U V i j:Addr} (D:ZA z U V i j) :
  wR P w K (.Tuple es ct tp) (Itz k l K a c) [z,U,V,i,j] z (fun n h=>IsZip h z U V .none/\IsPair h U (.ref i) (.ref j)/\(∃u v,IsPair h V u v)/\bw k h i a n/\bw l h j c n) where
 mem:=by simp
 obj:=fun n h st b hb=>by
  obtain ⟨hz,hU,⟨u,v,hV⟩,⟨o1,g1,c1,d1⟩,⟨o2,g2,c2,d2⟩⟩:=st
  simp only [List.mem_cons,List.not_mem_nil,or_false] at hb
  rcases hb with rfl | rfl | rfl | rfl | rfl
  .exact ⟨_,hz,fun v q=>by cases q⟩
  .exact ⟨_,hU,fun v q=>by cases q⟩
  .exact ⟨_,hV,fun v q=>by cases q⟩
  .exact ⟨_,g1,fun v q=>by rw [d1] at q;cases q⟩
  .exact ⟨_,g2,fun v q=>by rw [d2] at q;cases q⟩
 keep:=fun n h h' st kk=>by
  obtain ⟨hz,hU,⟨u,v,hV⟩,w1,w2⟩:=st
  exact ⟨kk z (by simp) _ hz,kk U (by simp) _ hU,⟨u,v,kk V (by simp) _ hV⟩,w1.mv fun o e=>kk i (by simp) o e,w2.mv fun o e=>kk j (by simp) o e⟩
 item:=by
  intro X hP hw hK hc n pins s σ H E I hf st hg
  subst hP hw hK
  obtain ⟨xs,ys,x,y,q1,q2,hx,hy⟩:=hg
  obtain ⟨hz,hU,⟨u,v,hV⟩,w1,w2⟩:=st
  obtain ⟨its,rv,p,_⟩:=I.row q1
  obtain ⟨jts,rv',p',_⟩:=I.row q2
  obtain ⟨ux,hux,rx⟩:=rv.get hx
  obtain ⟨uy,huy,ry⟩:=rv'.get hy
  have hT:s.TypeIs (.ref z) "zip":=⟨_,hz,rfl⟩
  have nz:=I.row_ne q1 (hf z (by simp))
  have mz:=I.row_ne q2 (hf z (by simp))
  have mi:=I.row_ne q2 (hf i (by simp))
  have mV:=I.row_ne q2 (hf V (by simp))
  unfold pyNext
  refine wpAny_bind (wpAny_attempt (wpAny_callSpecial?_slot (name:=Str.ofString "__next__") hT F.slot_zip_next (wpAny_call_entry F.slot_zip_next hT F.entry_zip_next
   (zT (x:=ux) (y:=uy) D nz mz mi mV hz hU hV w1 w2 p p' (by simpa using hux) (by simpa using huy) fun h' a1 a2 a3 a4 a5 a6 a7=>wpAny_pure ?_) (F.args_zip_next_1 _))))
  refine ⟨_,rfl,wpAny_letOwnedTupleGo_zip a1 fun g gz gs=>?_⟩
  have lt:∀{b o},s.heap.get? b=some o->s.heap.objs.size≠b:=fun e=>Nat.ne_of_gt (Heap.lt_size e)
  have kp:∀b o,b∉[z,V,i,j]->s.heap.get? b=some o->g.get? b=some o:=fun b o hb e=>by
   simp only [List.mem_cons,List.not_mem_nil,or_false,not_or] at hb
   exact gs.extBut _ _ hb.1 (a7 b o hb.1 hb.2.1 hb.2.2.1 hb.2.2.2 e)
  have I2:Inv X pins σ (upd H s.heap.objs.size (.tup [x,y])) { s with heap:=g,toks:=s.toks }:=I.yielded (ch:=[z,V,i,j]) (fun b hb=>hf b (by
   simp only [List.mem_cons,List.not_mem_nil,or_false] at hb ⊢
   rcases hb with q | q | q | q <;> simp [q])) (Nat.le_refl _) kp ⟨by show 2<=sizeLine;decide,[ux,uy],.cons rx (.cons ry .nil),_,gs.extBut _ _ (lt hz) a5,rfl,_,rfl⟩
  refine ⟨.ref s.heap.objs.size,_,I2,rfl,⟨_,x,y,I.hok.fresh (Nat.le_refl _),rfl,fun xs' q=>by rw [I.row_inj q q1];exact hx,fun ys' q=>by rw [I.row_inj q q2];exact hy,rfl⟩,
   ⟨gz,gs.extBut _ _ D.Uz (a7 _ _ D.Uz D.UV D.Ui D.Uj hU),⟨_,_,gs.extBut _ _ D.Vz a2⟩,a3.mv fun o e=>gs.extBut _ o D.iz e,a4.mv fun o e=>gs.extBut _ o D.jz e⟩,fun b hb=>?_⟩
  rw [ax ?_]
  .exact (hf b hb).1
  .intro q
   subst q
   simp only [List.mem_cons,List.not_mem_nil,or_false] at hb
   obtain ⟨o1,g1,_⟩:=w1
   obtain ⟨o2,g2,_⟩:=w2
   rcases hb with q | q | q | q | q
   .exact lt hz q
   .exact lt hU q
   .exact lt hV q
   .exact lt g1 q
   .exact lt g2 q
 done:=by
  intro X hP hw hK hc n pins s σ H E I hf st hg
  subst hP hw hK
  obtain ⟨xs,ys,q1,q2,hend⟩:=hg
  obtain ⟨hz,hU,⟨u,v,hV⟩,w1,w2⟩:=st
  obtain ⟨its,rv,p,_⟩:=I.row q1
  obtain ⟨jts,rv',p',_⟩:=I.row q2
  have e1:=rv.length
  have e2:=rv'.length
  have hT:s.TypeIs (.ref z) "zip":=⟨_,hz,rfl⟩
  unfold pyNext
  refine wpAny_bind (wpAny_attempt (wpAny_callSpecial?_slot (name:=Str.ofString "__next__") hT F.slot_zip_next (wpAny_call_entry F.slot_zip_next hT F.entry_zip_next
   (B8 (I.ok.hd hc) D (I.row_ne q1 (hf z (by simp))) (I.row_ne q2 (hf z (by simp))) (I.row_ne q2 (hf i (by simp))) (I.row_ne q2 (hf V (by simp))) hz hU hV w1 w2 p p' ?_ fun h' e hk he=>?_) (F.args_zip_next_1 _))))
  .rcases hend with q | q
   .exact .inl (by simp;omega)
   .exact .inr (by simp;omega)
  .obtain ⟨o,ho,hcl⟩:=he
   refine wpAny_bind (wpAny_isInstance (T:="StopIteration") (b:=true) ⟨o,ho,hcl⟩ isSubtype_stop (wpAny_pure ⟨rfl,?_⟩))
   exact I.step (g':=s.gens) (d':=s.drawn) (t':=s.toks) (ch:=[z,V,i,j]) (fun b hb=>by
     have q:=hf b (by
      simp only [List.mem_cons,List.not_mem_nil,or_false] at hb ⊢
      rcases hb with q | q | q | q <;> simp [q])
     exact ⟨q.2.2.2.1,q.2.1,q.2.2.2.2.1,q.2.2.2.2.2⟩) (fun b o _ _ hc e _=>by
     simp only [List.mem_cons,List.not_mem_nil,or_false,not_or] at hc
     exact hk b o hc.1 hc.2.1 hc.2.2.1 hc.2.2.2 e) (fun b o _ _ hc e _=>⟨o.slots,by
     simp only [List.mem_cons,List.not_mem_nil,or_false,not_or] at hc
     exact hk b o hc.1 hc.2.1 hc.2.2.1 hc.2.2.2 e⟩) (fun _ _ _ _ q=>q) (fun b o hc e=>⟨o,by
     simp only [List.mem_cons,List.not_mem_nil,or_false,not_or] at hc
     exact hk b o hc.1 hc.2.1 hc.2.2.1 hc.2.2.2 e⟩) (fun _ _ e=>e) (fun _ _ _ e=>e) (fun b ps e=>⟨#[],by rw [e];simp⟩) (fun m hm=>by
     obtain ⟨o,es,ep,ho,r⟩:=hm
     exact ⟨o,es,ep,hk _ o (hf z (by simp)).2.1.symm (hf V (by simp)).2.1.symm (hf i (by simp)).2.1.symm (hf j (by simp)).2.1.symm ho,r⟩) (fun b u e=>by
     have nn:∀b u,H b=some u->b≠z/\b≠V/\b≠i/\b≠j:=fun b u e=>⟨fun q=>(by rw [q,(hf z (by simp)).1] at e;cases e),fun q=>(by rw [q,(hf V (by simp)).1] at e;cases e),fun q=>(by rw [q,(hf i (by simp)).1] at e;cases e),fun q=>(by rw [q,(hf j (by simp)).1] at e;cases e)⟩
     refine (I.hok b u e).stay (fun c v hc q=>?_) (fun _ q=>q) fun _ _ q=>q
     have n4:c≠z/\c≠V/\c≠i/\c≠j:=by
      rcases hc with q | q
      .rw [q];exact nn b u e
      .exact nn c _ q
     exact hk c v n4.1 n4.2.1 n4.2.2.1 n4.2.2.2 q) I.bare
 self:=fun _ _ _ _ _ st h=>wpAny_pyIter_zip st.1 h
theorem B9 (n:Nat):ZA (n + 4) (n + 2) (n + 3) n (n + 1):=by
 refine ⟨?_,?_,?_,?_,?_,?_,?_,?_,?_,?_⟩ <;> (intro h;have h2:@Eq Nat _ _:=h;omega)
section
variable {P:Program}{w:World}{A:Around}{E:Value->Shared->Prop}{s:Shared}{k l:Bool}
abbrev fC (k:Bool) (a:Addr):Obj:={ cls:=.type (cond k "tuple_iterator" "list_iterator"),data:=.fields #[.ref a,.int 0 0] }
theorem c8 {a:Addr}{its:Array Value}{Q:Value->Shared->Prop} (R:cL k s.heap a its) (hQ:Q (.ref s.heap.objs.size) { s with heap:=s.heap.push (fC k a) }):wpAny (model P w) A (pyIter (.ref a)) Q E s:=by
 cases k with
 | false=>exact wpAny_pyIter_list R hQ
 | true=>exact wpAny_pyIter_tuple R hQ
abbrev zg1 (h:Heap) (k:Bool) (a:Addr):Heap:=h.push (fC k a)
abbrev zg2 (h:Heap) (k l:Bool) (a c:Addr):Heap:=(zg1 h k a).push (fC l c)
abbrev zg3 (h:Heap) (k l:Bool) (a c:Addr):Heap:=(zg2 h k l a c).push { cls:=.type "tuple",data:=.seq #[.ref h.objs.size,.ref (zg1 h k a).objs.size] }
abbrev zg4 (h:Heap) (k l:Bool) (a c:Addr):Heap:=(zg3 h k l a c).push { cls:=.type "tuple",data:=.seq #[.none,.none] }
abbrev zg5 (h:Heap) (k l:Bool) (a c:Addr):Heap:=(zg4 h k l a c).push { cls:=.type "zip",data:=.fields #[.none,.bool false,.bool false,.ref (zg2 h k l a c).objs.size,.ref (zg3 h k l a c).objs.size] }
theorem zU (k l:Bool) (a c:Addr) (xs ys:Array Value):Meets (Builtin.«zip.__new__» ⟨[.type "zip",.ref a,.ref c],[]⟩) (fun _ R s=>cL k s.heap a xs/\cL l s.heap c ys /\
   R (.ok (.ret (.ref (zg4 s.heap k l a c).objs.size))) { s with heap:=zg5 s.heap k l a c }) :=
 .of_wp fun prog w A R s h=>by
  obtain ⟨hp,g,d,tk,os⟩:=s
  obtain ⟨r1,r2,h⟩:=h
  have hsub:=sub_zip
  have R1:cL k (Shared.heap ⟨hp,g,d,tk,os⟩) a xs:=r1
  have R2:cL l (Shared.heap ⟨hp.push (fC k a),g,d,tk,os⟩) c ys:=r2.mv fun o e=>Heap.get?_push_of_some _ e
  wp_walk using c8 R1,c8 R2
  exact ⟨_,rfl,h⟩
theorem zV {a c:Addr}{xs ys:Array Value}{Q:Value->Shared->Prop} (r1:cL k s.heap a xs) (r2:cL l s.heap c ys)
  (h:∀h',IsZip h' (s.heap.objs.size + 4) (s.heap.objs.size + 2) (s.heap.objs.size + 3) .none->IsPair h' (s.heap.objs.size + 2) (.ref s.heap.objs.size) (.ref (s.heap.objs.size + 1)) ->
   IsPair h' (s.heap.objs.size + 3) .none .none->bw k h' s.heap.objs.size a 0->bw l h' (s.heap.objs.size + 1) c 0->(∀b o,s.heap.get? b=some o->h'.get? b=some o)->Q (.ref (s.heap.objs.size + 4)) { s with heap:=h' }) :
  wpAny (model P w) A (call (.type "zip") [.ref a,.ref c]) Q E s:=by
 refine callType_new F.called_zip (by decide) (F.typeCall_zip_2 _ _) (F.newCall_zip_2 _ _) (fun obj=>F.args_object_init_3 obj _ _) F.entry_zip_new (zU k l a c xs ys) ⟨r1,r2,?_⟩
 have z1:(zg1 s.heap k a).objs.size=s.heap.objs.size + 1:=Heap.size_push ..
 have z2:(zg2 s.heap k l a c).objs.size=s.heap.objs.size + 2:=by rw [Heap.size_push,z1]
 have z3:(zg3 s.heap k l a c).objs.size=s.heap.objs.size + 3:=by rw [Heap.size_push,z2]
 have z4:(zg4 s.heap k l a c).objs.size=s.heap.objs.size + 4:=by rw [Heap.size_push,z3]
 have m4:∀b o,(zg4 s.heap k l a c).get? b=some o->(zg5 s.heap k l a c).get? b=some o:=fun b o e=>Heap.get?_push_of_some _ e
 have m3:∀b o,(zg3 s.heap k l a c).get? b=some o->(zg5 s.heap k l a c).get? b=some o:=fun b o e=>m4 b o (Heap.get?_push_of_some _ e)
 have m2:∀b o,(zg2 s.heap k l a c).get? b=some o->(zg5 s.heap k l a c).get? b=some o:=fun b o e=>m3 b o (Heap.get?_push_of_some _ e)
 have m1:∀b o,(zg1 s.heap k a).get? b=some o->(zg5 s.heap k l a c).get? b=some o:=fun b o e=>m2 b o (Heap.get?_push_of_some _ e)
 have g5:(zg5 s.heap k l a c).get? (zg4 s.heap k l a c).objs.size=some _:=Heap.get?_push_size _ rfl
 have g4:=m4 _ _ (Heap.get?_push_size (zg3 s.heap k l a c) (o:={ cls:=.type "tuple",data:=.seq #[.none,.none] }) rfl)
 have g3:=m3 _ _ (Heap.get?_push_size (zg2 s.heap k l a c) (o:={ cls:=.type "tuple",data:=.seq #[.ref s.heap.objs.size,.ref (zg1 s.heap k a).objs.size] }) rfl)
 have g2:=m2 _ _ (Heap.get?_push_size (zg1 s.heap k a) (o:=fC l c) rfl)
 have g1:=m1 _ _ (Heap.get?_push_size s.heap (o:=fC k a) rfl)
 show _/\_
 rw [z2,z3,z4] at g5
 rw [z1,z2] at g3
 rw [z3] at g4
 rw [z1] at g2
 rw [z4]
 exact ⟨⟨_,g5,rfl⟩,h _ g5 g3 g4 ⟨_,g1,rfl,rfl⟩ ⟨_,g2,rfl,rfl⟩ fun b o e=>m1 b o (Heap.get?_push_of_some _ e)⟩
end
def stA (a b:List Nat) (i:Nat):Bool:=decide (i + b.length<=a.length/\(a.drop i).take b.length=b)
def fnd (a b:List Nat) (lo:Nat):Int:=match (List.range' lo (a.length + 1 - lo)).find? (stA a b) with | some k=>(k:Int) | none=>-1
theorem o8 (s sub:Str) (hi:Nat):∀(l:List Nat) (st:Array Nat×Nat),st.fst.size=1->(forIn l st (StrLaws.occBody s sub hi 1)).run.fst=st.fst
 | [],_,_=>rfl
 | x::l,st,h=>by
  rw [List.forIn_cons]
  unfold StrLaws.occBody
  rw [if_neg (fun z=>by have:=z.1.1.1;omega)]
  exact o8 s sub hi l (st.fst,st.snd) h
theorem o9 (s sub:Str) (hi:Nat) (p:Nat->Bool) (hp:∀i,p i=true ↔ (i + sub.length<=hi/\Builtin.Str.subAt s sub i=true)):∀(l:List Nat) (free:Nat),(∀i∈l,free<=i) ->
  (forIn l ((#[]:Array Nat),free) (StrLaws.occBody s sub hi 1)).run.fst=(match l.find? p with | some k=>#[k] | none=>#[])
 | [],_,_=>rfl
 | x::l,free,hf=>by
  rw [List.forIn_cons,List.find?_cons]
  unfold StrLaws.occBody
  have hx:free<=x:=hf x (List.mem_cons_self ..)
  cases c:p x with
  | true =>
   have hc:=(hp x).mp c
   rw [if_pos ⟨⟨⟨by simp,hx⟩,hc.1⟩,hc.2⟩]
   exact o8 s sub hi l (#[x],x + sub.length) rfl
  | false =>
   rw [if_neg (fun z=>by
    have:=(hp x).mpr ⟨z.1.2,z.2⟩
    rw [c] at this;cases this)]
   exact o9 s sub hi p hp l free fun i h=>hf i (List.mem_cons_of_mem _ h)
theorem zW (a b:List Nat) (i:Nat):Builtin.Str.subAt (S a) (S b) i=decide ((a.drop i).take b.length=b):=by
 unfold Builtin.Str.subAt
 rw [eT]
 have e1:((S a).cps.extract i (i + b.length))=((a.drop i).take b.length).toArray:=by
  show a.toArray.extract _ _=_
  rw [List.extract_toArray,List.extract_eq_take_drop]
  congr 2
  omega
 rw [e1]
 show (((a.drop i).take b.length).toArray == b.toArray)=_
 by_cases h:(a.drop i).take b.length=b
 .rw [decide_eq_true h,h];simp
 .rw [decide_eq_false h,beq_eq_false_iff_ne]
  intro z
  exact h (by simpa using congrArg Array.toList z)
theorem uP (a b:List Nat) (lo:Nat):(match Builtin.Str.occurrences (S a) (S b) lo (S a).length 1 with | k::_=>(k:Int) | []=>-1)=fnd a b lo:=by
 rw [StrLaws.occ_eq,eT,o9 (S a) (S b) a.length (stA a b) (fun i=>?_) _ lo (fun i hi=>(List.mem_range'_1.mp hi).1)]
 .unfold fnd
  cases (List.range' lo (a.length + 1 - lo)).find? (stA a b) <;> rfl
 .unfold stA
  rw [zW,eT]
  simp
section
variable {X:Cx}
theorem xp:MtR X "str.find" (fun x xs H Q=>∃a b,x=.str (S a)/\xs=[.str (S b)]/\Q (.int (fnd a b 0)) H):=by
 intro pins s σ H x xs v us Q I rx rs h
 obtain ⟨a,b,rfl,rfl,q⟩:=h
 obtain ⟨t,rfl⟩:=rx
 obtain ⟨u,rfl,t',rfl⟩:=ib rs
 have e:Txt.find (S a) (S b)=fnd a b 0:=uP a b 0
 exact SC.find ⟨.int _,H,I.tok _,⟨_,rfl⟩,by rw [e];exact q⟩
end
theorem rR {a b:List Nat}{lo:Nat} (h:fnd a b lo≠-1):∃k:Nat,fnd a b lo=(k:Int)/\lo<=k/\stA a b k=true/\∀j,lo<=j->j < k->stA a b j=false:=by
 unfold fnd at h ⊢
 cases e:(List.range' lo (a.length + 1 - lo)).find? (stA a b) with
 | none=>rw [e] at h;exact absurd rfl h
 | some k =>
  obtain ⟨h1,h2⟩:=List.find?_eq_some_iff_append.mp e
  obtain ⟨as,bs,hl,hn⟩:=h2
  have hk:k∈List.range' lo (a.length + 1 - lo):=by rw [hl];simp
  refine ⟨k,rfl,(List.mem_range'_1.mp hk).1,h1,fun j hj1 hj2=>?_⟩
  have hj:j∈List.range' lo (a.length + 1 - lo):=List.mem_range'_1.mpr ⟨hj1,by have:=(List.mem_range'_1.mp hk).2;omega⟩
  have hs:(List.range' lo (a.length + 1 - lo)).Pairwise (· < ·):=List.pairwise_lt_range'
  rw [hl] at hj hs
  rcases List.mem_append.mp hj with z | z
  .have:=hn j z
   simpa using this
  .rcases List.mem_cons.mp z with z | z
   .omega
   .have:=(List.pairwise_cons.mp (List.pairwise_append.mp hs).2.1).1 j z
    omega
theorem xq {a b:List Nat}{lo:Nat} (h:fnd a b lo=-1):∀j,lo<=j->stA a b j=false:=by
 unfold fnd at h
 cases e:(List.range' lo (a.length + 1 - lo)).find? (stA a b) with
 | some k=>rw [e] at h;simp only at h;omega
 | none =>
  intro j hj
  by_cases hlt:j < a.length + 1
  .have:=List.find?_eq_none.mp e j (List.mem_range'_1.mpr ⟨hj,by omega⟩)
   simpa using this
  .unfold stA
   rw [decide_eq_false (fun z=>by have:=z.1;omega)]
section
variable {X:Cx}{tg:Expr}
def Itk (k:Bool) (K:PySem.W.Frag) (a:Addr):It:=cond k (Itt K a) (Itl K a)
def Ca (K:PySem.W.Frag):R2:=fun x y H Q=>∃l b xs zs,x=.ref l/\y=.ref b/\SqL K H l xs/\SqL K H b zs/\xs.length + zs.length<=sizeLine/\∀p,H p=none->Q (.ref p) (upd H p (.lst (xs++zs)))
theorem zX:OpR X (binaryOp .Add) (Ca X.K):=by
 intro pins s σ H x y v u Q I rx ry h
 obtain ⟨l,b,xs,zs,rfl,rfl,hH,hB,hz,q⟩:=h
 cases rx
 cases ry
 obtain ⟨its,r,pl,hl⟩:=I.list hH
 obtain ⟨its2,r2,pl2,hl2⟩:=I.list hB
 obtain ⟨⟨cls,dd,data,sl⟩,ho,hc,n,hd⟩:=pl.isList
 obtain ⟨⟨cls2,dd2,data2,sl2⟩,ho2,hc2,n2,hd2⟩:=pl2.isList
 simp only at hc hd hc2 hd2
 subst hc hd hc2 hd2
 have n1:=r.length
 have n2':=r2.length
 have ea:its.toArray++its2.toArray=(its++its2).toArray:=by simp
 have fin:EP X pins σ Q (.ref s.heap.objs.size) { s with heap:=s.heap.push { cls:=.type "list",data:=.seq (its.toArray++its2.toArray) } }:=by
  rw [ea]
  exact ⟨.ref _,_,I.lnew (t':=s.toks) (r.append r2) (by rw [List.length_append];omega),rfl,q _ I.fresh⟩
 exact concat_meets ⟨_,ho,rfl⟩ ⟨_,ho2,rfl⟩ noFill_list_add seq_list_add PySem.F.slot_list_add PySem.F.entry_list_add (PySem.F.args_list_add_2 _ _) (list_addW l b its.toArray its2.toArray n n2 dd dd2 sl sl2 (by simp;omega)) ⟨ho,ho2,fin⟩
end
def tx (l:List Nat):V:=.str (S l)
def qB (n:Nat) (d:PyData):Prop:=d.canLay0=true/\d.depth<=n
theorem qB.shaped {n:Nat}{d:PyData} (h:qB n d) (hn:n<=64):SeqAt.shaped d=true:=by
 unfold SeqAt.shaped
 rw [h.1,decide_eq_true (Nat.le_trans h.2 hn)];rfl
theorem uQ {n:Nat}:∀{ds:List PyData},(∀d∈ds,qB n d)->PyData.canLayAll0 ds=true/\PyData.depthAll ds<=n
 | [],_=>⟨rfl,Nat.zero_le _⟩
 | d::ds,h=>by
  obtain ⟨a,b⟩:=uQ (ds:=ds) fun x hx=>h x (List.mem_cons_of_mem _ hx)
  obtain ⟨c,e⟩:=h d List.mem_cons_self
  simp only [PyData.canLayAll0,PyData.depthAll,a,c]
  exact ⟨rfl,Nat.max_le.mpr ⟨e,b⟩⟩
theorem qB.list {n:Nat}{ds:List PyData} (h:∀d∈ds,qB n d):qB (n + 1) (.list ds):=by
 obtain ⟨a,b⟩:=uQ h
 exact ⟨by simp only [PyData.canLay0];exact a,by simp only [PyData.depth];omega⟩
theorem qB.int (i:Int):qB 0 (.int i):=⟨by simp [PyData.canLay0],by simp [PyData.depth]⟩
def Lts (l:List Nat):Prop:=∀c∈l,97<=c/\c<=122
theorem Lts.nil:Lts []:=fun c h=>nomatch h
theorem Lts.app {a b:List Nat} (x:Lts a) (y:Lts b):Lts (a++b):=fun c h=>(List.mem_append.mp h).elim (x c) (y c)
theorem Lts.one {c:Nat} (h:97<=c/\c<=122):Lts [c]:=fun d hd=>by
 have:d=c:=by simpa using hd
 subst this;exact h
theorem Lts.take {a:List Nat} (x:Lts a) (n:Nat):Lts (a.take n):=fun c h=>x c (List.mem_of_mem_take h)
theorem Lts.drop {a:List Nat} (x:Lts a) (n:Nat):Lts (a.drop n):=fun c h=>x c (List.mem_of_mem_drop h)
theorem uR (ns:List Int):∀d∈ns.map PyData.int,qB 0 d:=fun d hd=>by
 obtain ⟨i,_,rfl⟩:=List.mem_map.mp hd
 exact qB.int i
theorem xr {d:PyData} (h:SeqAt.shaped d=true):PyData.eqv d d=true:=SeqAt.eqv_refl d (SeqAt.canLay_of_shaped h)
theorem kz (p:Nat->Prop) (h0:p 0):∀n,0 < n->∃k,k < n/\p k/\∀j,j < n->p j->j<=k
 | 0,h=>absurd h (by decide)
 | 1,_=>⟨0,by decide,h0,fun j hj _=>by omega⟩
 | n + 2,_=>by
  obtain ⟨k,h1,h2,h3⟩:=kz p h0 (n + 1) (by omega)
  by_cases c:p (n + 1)
  .exact ⟨n + 1,by omega,c,fun j hj _=>by omega⟩
  .refine ⟨k,by omega,h2,fun j hj hp=>?_⟩
   by_cases e:j=n + 1
   .subst e;exact absurd hp c
   .exact h3 j (by omega) hp
section
variable {κ:Type} [DecidableEq κ]
def uS (kvs:List (κ×V)) (k:κ) (v:V):List (κ×V) :=
 if (kvs.any fun kv=>decide (kv.1=k))=true then kvs.map (fun kv=>if kv.1=k then (kv.1,v) else kv) else kvs++[(k,v)]
theorem qC (kvs:List (κ×V)) (k:κ) (v:V):(uS kvs k v).length<=kvs.length + 1:=by
 unfold uS
 split
 .rw [List.length_map];omega
 .rw [List.length_append,List.length_cons,List.length_nil];omega
theorem KV.any {kvs:List (κ×V)}{vs:List (κ×Value)} (r:KV kvs vs) (k:κ):(kvs.any fun kv=>decide (kv.1=k))=vs.any fun kv=>decide (kv.1=k):=by
 unfold KV at r
 induction r with
 | nil=>rfl
 | cons h t ih=>rw [List.any_cons,List.any_cons,ih,h.1]
theorem KV.repl {kvs:List (κ×V)}{vs:List (κ×Value)} (r:KV kvs vs) (k:κ) {y:V}{u:Value} (ry:df y u) :
  KV (kvs.map fun kv=>if kv.1=k then (kv.1,y) else kv) (vs.map fun kv=>if kv.1=k then (kv.1,u) else kv):=by
 unfold KV at r ⊢
 induction r with
 | nil=>exact .nil
 | @cons p q ps qs h t ih =>
  rw [List.map_cons,List.map_cons]
  refine .cons ?_ ih
  obtain ⟨h1,h2⟩:=h
  by_cases e:p.1=k
  .rw [if_pos e,if_pos (h1.symm.trans e)];exact ⟨h1,ry⟩
  .rw [if_neg e,if_neg (fun z=>e (h1.trans z))];exact ⟨h1,h2⟩
theorem KV.put {kvs:List (κ×V)}{vs:List (κ×Value)} (r:KV kvs vs) (k:κ) {y:V}{u:Value} (ry:df y u):KV (uS kvs k y) (stored vs k u):=by
 unfold uS stored
 rw [r.any k]
 by_cases e:(vs.any fun kv=>decide (kv.1=k))=true
 .rw [if_pos e,if_pos e];exact r.repl k ry
 .rw [if_neg e,if_neg e];exact Paired.snoc r ⟨rfl,ry⟩
theorem KV.length {kvs:List (κ×V)}{vs:List (κ×Value)} (r:KV kvs vs):kvs.length=vs.length:=Paired.length r
end
theorem DR {P:Program}{w:World}{k:Key}{u:Value} (r:df (kV k) u):(fc P w).is k u=true:=by
 cases k with
 | inl i=>obtain ⟨t,e⟩:=(show ∃t,u=Value.int i t from r);subst e;exact qo P w i t
 | inr x=>obtain ⟨t,e⟩:=(show ∃t,u=Value.str x t from r);subst e;exact qp P w x t
section
variable {P:Program}{w:World}{H:Hp}{h:Heap}{a:Addr}
theorem DS {u:HO} (ok:HOk P w H h) (e:Rd H a u):bD P w H h a u:=e.ok ok
theorem Cb {kvs:List (Key×V)} (ok:HOk P w H h) (e:Rd H a (.dK kvs)):kvs.length<=sizeLine/\(a == sysModules)=false/\∃vs,KV kvs vs/\h.DictOf (fc P w) a vs :=
 show bD P w H h a (.dK kvs) from DS ok e
theorem DT {kvs:List (Key×V)} (ok:HOk P w H h) (e:H a=some (.dK kvs)):kvs.length<=sizeLine/\(a == sysModules)=false/\∃vs,KV kvs vs/\h.DictOf (fc P w) a vs:=Cb ok (.inl e)
end
section
variable {X:Cx}{pins:List (Addr×Obj)}{σ:St}{H:Hp}{s:Shared}{a:Addr}{y v:V}{u r:Value}{o:Option V}{A:Around}{E:Value->Shared->Prop}
theorem Inv.big (I:Inv X pins σ H s):sysModules < s.heap.objs.size:=by
 have h:mainGlobals < s.heap.objs.size:=(I.mod.glob.keeps I.bk).lt
 exact Nat.lt_trans (by decide) h
theorem zY {h':Heap}{t':Nat}{ob:HO} (I:Inv X pins σ H s) (mu:Mut (H a)) (hs:Heap.SameBut a s.heap h') (he:∃q,h'.get? a=some q) (new:bD X.prog X.w (upd H a ob) h' a ob) :
  Inv X pins σ (upd H a ob) { s with heap:=h',toks:=t' } :=
 I.write (x:=a) (e:=a) mu (.inl rfl) (fun b q hb z=>(hs.2 b hb).trans z) he new
theorem Cc {P:Program}{w:World}{H':Hp}{h':Heap}{kvs:List (Key×V)}{vs:List (Key×Value)} (z:kvs.length<=sizeLine) (hd:(a == sysModules)=false) (rel:KV kvs vs) (dd:h'.DictOf (fc P w) a vs) :
  bD P w H' h' a (.dK kvs):=⟨z,hd,vs,rel,dd⟩
end
section
variable {X:Cx}{pins:List (Addr×Obj)}{σ:St}{H:Hp}{s:Shared}{a:Addr}{kvs:List (Key×V)}{k:Key}{u:Value}{A:Around}{E:Value->Shared->Prop}
theorem DU {Q:Value->Shared->Prop} (I:Inv X pins σ H s) (e:Rd H a (.dK kvs)) (h:∀t s',Inv X pins σ H s'->Q (.int kvs.length t) s'):wpAny (model X.prog X.w) A (call (.builtin "len") [.ref a]) Q E s:=by
 obtain ⟨z,hd,vs,rel,dd⟩:=Cb I.hok e
 refine call_len_dict hd dd (by rw [<- rel.length];rw [sizeLine_eq] at z;omega) ?_
 rw [<- rel.length]
 exact h _ _ (I.tok _)
end
theorem rS {P:Program}{w:World}{H:Hp} (h:Heap) (hb:sysModules < h.objs.size):bD P w H (h.push { cls:=.type "dict",data:=.dict #[] }) h.objs.size (.dK []) :=
 ⟨Nat.zero_le _,beq_eq_false_iff_ne.mpr (Ne.symm (Nat.ne_of_lt hb)),[],.nil,Heap.DictOf.new h⟩
def yG:TE:=fun _ H Q=>∀p,H p=none->Q (.ref p) (upd H p (.dK []))
section
variable {X:Cx}{pos:Pos}
theorem xt:PE X (.Dict [] [] pos) yG:=fun pins s σ H Q I h =>
 wpAny_Dict_empty ⟨.ref s.heap.objs.size,_,I.laid (a:=s.heap.objs.size) (o:=.dK []) (t':=s.toks) (fun _ _ q=>Heap.get?_push_of_some _ q) (Nat.le_refl _) (rS s.heap I.big),rfl,h _ (I.hok.fresh (Nat.le_refl _))⟩
end
def rT:List (TE×TE)->St->Hp->(List (V×V)->Hp->Prop)->Prop
 | [],_,H,Q=>Q [] H
 | (tk,tv)::r,σ,H,Q=>tk σ H fun x H1=>tv σ H1 fun y H2=>rT r σ H2 fun ps H3=>Q ((x,y)::ps) H3
abbrev VV:List (V×V)->List (Value×Value)->Prop:=Paired fun p q=>df p.1 q.1/\df p.2 q.2
def PPs (X:Cx) (pos:Pos) (keys:List (Option Expr)) (values:List Expr) (trs:List (TE×TE)):Prop :=
 ∀(pins:List (Addr×Obj)) (s:Shared) (σ:St) (H:Hp) (Q:List (V×V)->Hp->Prop),Inv X pins σ H s->rT trs σ H Q ->
  wpAny (model X.prog X.w) X.A (evalPairs (pairTrees keys values X.env pos)) (fun vs s'=>∃ps H',Inv X pins σ H' s'/\VV ps vs/\Q ps H') X.xe s
theorem uT {X:Cx}{pos:Pos}:PPs X pos [] [] []:=fun pins s σ H Q I h=>pairTrees_nil_walk ⟨[],H,I,.nil,h⟩
theorem nh {X:Cx}{pos:Pos}{k v:Expr}{ks:List (Option Expr)}{vs:List Expr}{tk tv:TE}{trs:List (TE×TE)} (hk:PE X k tk) (hv:PE X v tv) (hr:PPs X pos ks vs trs) :
  PPs X pos (some k::ks) (v::vs) ((tk,tv)::trs):=fun pins s σ H Q I h =>
 pairTrees_cons_walk (thn (hk pins s σ H _ I h) fun u s1 ⟨x,H1,I1,rx,q1⟩=>thn (hv pins s1 σ H1 _ I1 q1) fun w2 s2 ⟨y,H2,I2,ry,q2⟩ =>
  thn (hr pins s2 σ H2 _ I2 q2) fun ws s3 ⟨ps,H3,I3,rel,q3⟩=>⟨(x,y)::ps,H3,I3,.cons ⟨rx,ry⟩ rel,q3⟩)
def jP (kvs more:List (Key×V)):List (Key×V):=more.foldl (fun acc kv=>uS acc kv.1 kv.2) kvs
theorem KV.merge:∀{more:List (Key×V)}{rs:List (Key×Value)}{kvs:List (Key×V)}{vs:List (Key×Value)},KV more rs->KV kvs vs->KV (jP kvs more) (merged vs rs):=by
 intro more rs kvs vs r
 unfold KV at r
 induction r generalizing kvs vs with
 | nil=>intro q;exact q
 | @cons p q ps qs h t ih =>
  intro r0
  have e:KV (uS kvs p.1 p.2) (stored vs q.1 q.2):=by
   have:=r0.put p.1 h.2
   rw [<- h.1];exact this
  exact ih e
theorem jd:∀(more kvs:List (Key×V)),(jP kvs more).length<=kvs.length + more.length
 | [],kvs=>by show kvs.length<=kvs.length + 0;omega
 | p::r,kvs=>by
  have h1:=jd r (uS kvs p.1 p.2)
  have h2:=qC kvs p.1 p.2
  show (jP (uS kvs p.1 p.2) r).length<=_
  rw [List.length_cons];omega
theorem mj {P:Program}{w:World}:∀{kvs:List (Key×V)}{ws:List (Value×Value)},VV (kvs.map fun kv=>(kV kv.1,kv.2)) ws->∃rs,Carries (fc P w) ws rs/\KV kvs rs
 | [],_,r=>by rw [List.map_nil] at r;cases r;exact ⟨[],True.intro,.nil⟩
 | p::kvs,_,r=>by
  rw [List.map_cons] at r
  cases r with
  | @cons a b as bs h t =>
   obtain ⟨rs,c,q⟩:=mj (P:=P) (w:=w) t
   obtain ⟨b1,b2⟩:=b
   exact ⟨(p.1,b2)::rs,⟨DR h.1,rfl,c⟩,.cons ⟨rfl,h.2⟩ q⟩
def Cd (trs:List (TE×TE)):TE:=fun σ H Q=>∀p,H p=none->rT trs σ (upd H p (.dK [])) fun ps H2=>H2 p=some (.dK [])/\∃kvs:List (Key×V),ps=kvs.map (fun kv=>(kV kv.1,kv.2))/\kvs.length<=15/\Q (.ref p) (upd H2 p (.dK (jP [] kvs)))
theorem uU {X:Cx}{pos:Pos}{keys:List (Option Expr)}{values:List Expr}{trs:List (TE×TE)} (h:PPs X pos keys values trs) (hall:keys.all (·.isSome)=true) (hl:keys.length=values.length) (h0:keys≠[])
  (h15:keys.length<=15):PE X (.Dict keys values pos) (Cd trs):=by
 intro pins s σ H Q I q
 have hn:=I.hok.fresh (Nat.le_refl s.heap.objs.size)
 have I1:=I.laid (a:=s.heap.objs.size) (o:=.dK []) (h':=s.heap.push { cls:=.type "dict",data:=.dict #[] }) (t':=s.toks) (fun _ _ q=>Heap.get?_push_of_some _ q) (Nat.le_refl _) (rS s.heap I.big)
 refine wpAny_Dict_walk (knd:=fc X.prog X.w) hall hl h0 h15 (thn (h pins _ σ _ _ I1 (q _ hn)) fun ws s2 ⟨ps,H2,I2,rel,e,kvs,ep,lk,q2⟩=>?_)
 subst ep
 obtain ⟨rs,c,rk⟩:=mj (P:=X.prog) (w:=X.w) rel
 obtain ⟨z,hd,vs0,r0,dd⟩:=DT I2.hok e
 cases r0
 refine ⟨rs,c,dd,fun h' dd' hs=>⟨.ref s.heap.objs.size,_,?_,rfl,q2⟩⟩
 have hz:(jP [] kvs).length<=sizeLine:=by
  have h1:=jd kvs []
  rw [List.length_nil] at h1
  rw [sizeLine_eq];omega
 have he:∃q,h'.get? s.heap.objs.size=some q:=let ⟨q,_,_,hq,_⟩:=dd';⟨q,hq⟩
 exact zY I2 (by rw [e];exact True.intro) hs he (Cc hz hd (rk.merge .nil) dd')
section
variable {X:Cx}
theorem rV {x:Str}{i:Int}{pos:Pos} (hg:Gl X x) (h:∃t,X.mg x=some (.int i t)) (hd:(x == ("__debug__":Str))=false:=by decide):PE X (.Name x pos) (tC (.int i)):=by
 obtain ⟨t,e⟩:=h
 exact zo (u:=.int i t) hg e ⟨t,rfl⟩ hd
end
structure Ce (P:Program) (w:World) (K:PySem.W.Frag) (mg:Str->Option Value) (base:Heap) (k:Nat) (x:Str) (ps:List Str) (dvs:List V) (sp:Sp):Prop where
 ex:∃(f:Addr) (fd:FuncData),lH P w K mg base CX0 k f fd ps sp/\(∀n,n<=dvs.length->∃ds,bO (dvs.drop n) ds/\i5 K fd ps ds)/\PySem.W.keepIn K (.ref f)=true/\mg x=some (.ref f)
structure rW (K:PySem.W.Frag) (mg:Str->Option Value) (x:Str) (st:Stmt) (dvs:List V):Prop where
 ex:∃(f dT:Addr) (oc:Value) (od an dd:Option Addr) (kV doc pm cdv ct:Value) (osl sl:Array (Option Value)) (items:List Value) (n:Nat),
  K.lookup f=some ⟨oc,od,.func (PySem.W.fnOf x x (bP st) (bv st) (ap st) (.ref dT) kV doc pm an cdv ct),osl⟩/\PySem.W.codeIn K cdv x=true/\PySem.W.keepIn K (.ref f)=true/\mg x=some (.ref f) /\
  K.lookup dT=some ⟨.type "tuple",dd,.seq items.toArray n,sl⟩/\bO dvs items
section
variable {P:Program}{w:World}{K:PySem.W.Frag}{mg:Str->Option Value}{base:Heap}{x:Str}{st:Stmt}{N ps:List Str}{k:Nat}{sp:Sp}{dvs:List V}
theorem rW.ok (D:rW K mg x st dvs) (S:aK N ps (ap st))
  (hb:∀(dT:Addr) (kV doc pm:Value) (an:Option Addr) (cdv ct:Value) (items:List Value) (us:List Value) (n:Nat),items.length=dvs.length->n<=dvs.length->(us++items.drop n).length=ps.length ->
   ∃k,bindArgs (PySem.W.fnOf x x (bP st) (bv st) (ap st) (.ref dT) kV doc pm an cdv ct) ⟨us,[]⟩=seqItems? (.ref dT) >>= k/\k (some items.toArray)=pure (ps.zip (us++items.drop n)))
  (len:∀vs H Q E,sp vs H Q E->vs.length=ps.length)
  (hbody:∀(f:Addr) (cdv:Value) (A:Around) (outer:List Env) (s:Shared) (H:Hp) (vs:List V) (Q:VK) (E:XK),gj k (A.deeper (envOfC x (ap st) s.heap.objs.size f cdv))->sp vs H Q E ->
   ∃t,PSs (oz CX0 P w K mg base N x (ap st) f cdv A outer s H E).nox (bv st) t/\t { nx:=fun _ H'=>Q .non H',rt:=Q } (start N vs) H):Ce P w K mg base (k + 1) x ps dvs sp:=by
 obtain ⟨f,dT,oc,od,an,dd,kV,doc,pm,cdv,ct,osl,sl,items,n,lk,hcd,kp,hm,lt,rv⟩:=D.ex
 have hl:=rv.length
 refine ⟨f,_,zF lk hcd S len fun A outer s H vs Q E hr hsp=>?_,fun j hj=>⟨items.drop j,rv.drop j,fun s us X hlen=>?_⟩,kp,hm⟩
 .obtain ⟨t,h,q⟩:=hbody f cdv A outer s H vs Q E hr hsp
  exact ⟨t,h.nox,q⟩
 .obtain ⟨k,h1,h2⟩:=hb dT kV doc pm an cdv ct items us j hl.symm hj hlen
  exact BindsTo.of_defaults rfl (X dT _ lt) rfl h1 h2
end
section
variable {X:Cx}{k:Nat}{x:Str}{ps:List Str}{sp:Sp}{p pos:Pos}{e:Expr}{es:List Expr}{t:TA}{dvs:List V}
theorem zZ (j:Nat) (C:Ce X.prog X.w X.K X.mg X.base k x ps dvs sp) (hr:gj k X.A) (hj:j<=dvs.length) (ha:PA X (e::es) t) (hg:Gl X x:=by rfl) (hdb:(x == ("__debug__":Str))=false:=by decide) (he:starEach (e::es) X.env=(false,eval e X.env)::starEach es X.env:=by rfl)
  (hpl:(backTo pos (starEach es X.env)).any (·.1)=false:=by rfl):PE X (.Call (.Name x p) (e::es) [] pos) (iJ sp (dvs.drop j) E0 t):=by
 obtain ⟨f,fd,F,hb,hk,hm⟩:=C.ex
 obtain ⟨ds,rv,hb⟩:=hb j hj
 exact um F hr hg hm hk hb rv xi ha hdb he hpl
theorem Cf {pins:List (Addr×Obj)}{σ:St}{H:Hp}{s:Shared}{x:V}{u t:Value} (I:Inv X pins σ H s) (rx:df x u) (ty:oy X.K H x t) :
  ∃Hq:Heap->Prop,PySem.W.KitX X.K u t Hq/\Hq s.heap/\u≠.builtin "__main__.__loader__#opaque":=by
 cases ty with
 | non=>cases (show u=Value.none from rx);exact ⟨_,PySem.W.kitx_none,True.intro,fun z=>nomatch z⟩
 | bl y=>cases (show u=Value.bool y from rx);exact ⟨_,PySem.W.kitx_bool,True.intro,fun z=>nomatch z⟩
 | int i=>obtain ⟨t,q⟩:=(show ∃t,u=Value.int i t from rx);cases q;exact ⟨_,PySem.W.kitx_int,True.intro,fun z=>nomatch z⟩
 | str y=>obtain ⟨t,q⟩:=(show ∃t,u=Value.str y t from rx);cases q;exact ⟨_,PySem.W.kitx_str,True.intro,fun z=>nomatch z⟩
 | flt y=>obtain ⟨t,q⟩:=(show ∃t,u=Value.float y t from rx);cases q;exact ⟨_,PySem.W.kitx_float,True.intro,fun z=>nomatch z⟩
 | @lst a xs ea =>
  cases (show u=Value.ref a from rx)
  obtain ⟨_,_,n,_,h1⟩:=(show bD X.prog X.w H s.heap a (.lst xs) from I.hok a _ ea)
  exact ⟨_,PySem.W.kitx_list,⟨_,h1,rfl⟩,fun z=>nomatch z⟩
 | @frz a ob xs ea =>
  cases (show u=Value.ref a from rx)
  obtain ⟨_,_,_,n,_,h1⟩:=(show bD X.prog X.w H s.heap a (.frz ob (.lst xs)) from I.hok a _ ea)
  exact ⟨_,PySem.W.kitx_list,⟨_,h1,rfl⟩,fun z=>nomatch z⟩
 | @tup a xs ea =>
  cases (show u=Value.ref a from rx)
  obtain ⟨_,_,_,p⟩:=(show bD X.prog X.w H s.heap a (.tup xs) from I.hok a _ ea)
  obtain ⟨o,h1,h2,_⟩:=p
  exact ⟨_,PySem.W.kitx_tuple,⟨o,h1,h2⟩,fun z=>nomatch z⟩
 | @dK a kvs ea =>
  cases (show u=Value.ref a from rx)
  obtain ⟨_,_,vs,_,p⟩:=(show bD X.prog X.w H s.heap a (.dK kvs) from I.hok a _ ea)
  obtain ⟨o,es,ep,h1,h2,_⟩:=p
  exact ⟨_,PySem.W.kitx_dict,⟨o,h1,h2.1⟩,fun z=>nomatch z⟩
 | @dT a kvs ea =>
  cases (show u=Value.ref a from rx)
  obtain ⟨_,_,xs,_,o,es,ep,h1,h2,_⟩:=(show bD X.prog X.w H s.heap a (.dT kvs) from I.hok a _ ea)
  exact ⟨_,PySem.W.kitx_dict,⟨o,h1,h2.1⟩,fun z=>nomatch z⟩
 | @ins a C dx fs ea cl ha hn htk hm =>
  cases (show u=Value.ref a from rx)
  obtain ⟨mA,O,_⟩:=kj I.hok ea
  obtain ⟨od,J,_⟩:=O.look
  exact ⟨_,PySem.W.kitx_own (cl.get _) cl.hd ha hn htk hm,J,fun z=>nomatch z⟩
theorem rX:∀{ts:List String}{us:List Value},bO (ts.map V.ty) us->us=ts.map Value.type
 | [],_,.nil=>rfl
 | t::ts,_,.cons r rr=>by rw [rX rr,show _=Value.type t from r];rfl
theorem pd:bK X (.builtin "isinstance") (fun xs H Q=>∃(x:V) (p:Addr) (ts:List String) (t:Value) (b:Bool),xs=[x,.ref p]/\oy X.K H x t/\H p=some (.tup (ts.map V.ty))/\PySem.W.kitAny X.K t (ts.map Value.type)=some b/\Q (.bl b) H):=by
 intro pins s σ H xs us Q I r h
 obtain ⟨x,p,ts,t,b,rfl,ty,hp,e,q⟩:=h
 obtain ⟨u,w',rfl,rx,ry⟩:=ug r
 cases (show w'=Value.ref p from ry)
 obtain ⟨Hq,Z,hq,hx⟩:=Cf I rx ty
 obtain ⟨its,rv,⟨⟨cls,dd,data,sl⟩,ho,hc,n,hd⟩,_⟩:=I.tuple (SqT.of hp)
 simp only at hc hd
 subst hc hd
 exact PySem.W.kia_tup Z I.kIn hq ho (by rw [rX rv];exact e) hx fun tk=>⟨.bl b,H,I.tok _,rfl,q⟩
theorem uV:OpR X (compareOp .IsNot) (fun x y H Q=>∃b c,x=.bl b/\y=.bl c/\Q (.bl (!decide (b=c))) H):=by
 intro pins s σ H x y v u Q I rx ry h
 obtain ⟨b,c,rfl,rfl,q⟩:=h
 cases (show v=Value.bool b from rx)
 cases (show u=Value.bool c from ry)
 cases b <;> cases c <;> exact wpAny_pure (bC I q (by first | rfl | decide))
theorem nj (bs:List Bool):(List.range bs.length).all (fun i=>bs.getD i false)=bs.all id:=by
 induction bs with
 | nil=>rfl
 | cons b bs ih=>rw [List.length_cons,List.range_succ_eq_map,List.all_cons,List.all_map,List.all_cons,<- ih];rfl
theorem nk (bs:List Bool):(List.range bs.length).any (fun i=>bs.getD i false)=bs.any id:=by
 induction bs with
 | nil=>rfl
 | cons b bs ih=>rw [List.length_cons,List.range_succ_eq_map,List.any_cons,List.any_map,List.any_cons,<- ih];rfl
theorem uW {bs:List Bool}{its:List Value} (r:bO (bs.map V.bl) its) {i:Nat}{v:Value} (h:its.toArray[i]?=some v):v=.bool (bs.getD i false):=by
 have h':its[i]?=some v:=by simpa using h
 have hl:=r.length
 rw [List.length_map] at hl
 have hi:i < bs.length:=by have:=(List.getElem?_eq_some_iff.mp h').1;omega
 obtain ⟨u,e1,e2⟩:=r.get (i:=i) (x:=V.bl bs[i]) (by rw [List.getElem?_map,List.getElem?_eq_getElem hi];rfl)
 rw [h'] at e1
 cases e1
 rw [show v=Value.bool bs[i] from e2,List.getD_eq_getElem?_getD,List.getElem?_eq_getElem hi];rfl
theorem xu (hc:X.calm=true):bK X (.builtin "all") (fun xs H Q=>∃(p:Addr) (bs:List Bool),xs=[.ref p]/\SqL X.K H p (bs.map V.bl)/\Q (.bl (bs.all id)) H):=by
 intro pins s σ H xs us Q I r h
 obtain ⟨p,bs,rfl,hS,q⟩:=h
 obtain ⟨u,rfl,ru⟩:=ib r
 cases (show u=Value.ref p from ru)
 obtain ⟨its,rv,pl,hz⟩:=I.list hS
 have hl:=rv.length
 rw [List.length_map] at hl
 have hps:p < s.heap.objs.size:=let ⟨o,ho,_⟩:=pl.isList;Heap.lt_size ho
 obtain ⟨f0,f1,f2,f3,f4,f5⟩:=I.fpOk (H':=H) (Nat.le_refl s.heap.objs.size) (I.hok.fresh (Nat.le_refl _))
 refine call_all_walk (wpAny_pyIter_list pl.isList ⟨s.heap.objs.size,_,_,its.toArray.size,_,_,fun i=>bs.getD i false,rfl,Walks.list (by exact I.ok.hd hc) s.heap.objs.size p (Nat.ne_of_lt hps) its.toArray,⟨⟨_,Heap.get?_push_size _ rfl,rfl,rfl⟩,pl.isList.push _⟩,fun i v s Q E hP hQ=>?_,fun h' tk hk=>?_⟩)
 .rw [uW rv hP];exact wpAny_truthy_bool hQ
 .have I1:Inv X pins σ H { s with heap:=s.heap.push { cls:=.type "list_iterator",data:=.fields #[.ref p,.int 0 0] } }:=I.kept (t':=s.toks) fun b o e=>Heap.get?_push_of_some _ e
  have I2:=I1.turned (h':=h') (t':=tk) (it:=s.heap.objs.size) (fun b o hb e=>hk b o (by simpa using hb) e) f0 f1 f3 f4 f5
  refine ⟨.bl (bs.all id),H,I2,?_,q⟩
  show Value.bool _=Value.bool _
  rw [List.size_toArray,<- hl,nj]
theorem xv (hc:X.calm=true):bK X (.builtin "any") (fun xs H Q=>∃(p:Addr) (bs:List Bool),xs=[.ref p]/\SqL X.K H p (bs.map V.bl)/\Q (.bl (bs.any id)) H):=by
 intro pins s σ H xs us Q I r h
 obtain ⟨p,bs,rfl,hS,q⟩:=h
 obtain ⟨u,rfl,ru⟩:=ib r
 cases (show u=Value.ref p from ru)
 obtain ⟨its,rv,pl,hz⟩:=I.list hS
 have hl:=rv.length
 rw [List.length_map] at hl
 have hps:p < s.heap.objs.size:=let ⟨o,ho,_⟩:=pl.isList;Heap.lt_size ho
 obtain ⟨f0,f1,f2,f3,f4,f5⟩:=I.fpOk (H':=H) (Nat.le_refl s.heap.objs.size) (I.hok.fresh (Nat.le_refl _))
 refine call_any_walk (wpAny_pyIter_list pl.isList ⟨s.heap.objs.size,_,_,its.toArray.size,_,_,fun i=>bs.getD i false,rfl,Walks.list (by exact I.ok.hd hc) s.heap.objs.size p (Nat.ne_of_lt hps) its.toArray,⟨⟨_,Heap.get?_push_size _ rfl,rfl,rfl⟩,pl.isList.push _⟩,fun i v s Q E hP hQ=>?_,fun h' tk hk=>?_⟩)
 .rw [uW rv hP];exact wpAny_truthy_bool hQ
 .have I1:Inv X pins σ H { s with heap:=s.heap.push { cls:=.type "list_iterator",data:=.fields #[.ref p,.int 0 0] } }:=I.kept (t':=s.toks) fun b o e=>Heap.get?_push_of_some _ e
  have I2:=I1.turned (h':=h') (t':=tk) (it:=s.heap.objs.size) (fun b o hb e=>hk b o (by simpa using hb) e) f0 f1 f3 f4 f5
  refine ⟨.bl (bs.any id),H,I2,?_,q⟩
  show Value.bool _=Value.bool _
  rw [List.size_toArray,<- hl,nk]
end
section
variable {X:Cx}{o e f:Expr}{apos cpos:Pos}{td ty tx:TE}
theorem uX:bK X (.builtin "len") (fun xs H Q=>∃p kvs,xs=[.ref p]/\Rd H p (.dK kvs)/\Q (.int kvs.length) H):=by
 intro pins s σ H xs us Q I r h
 obtain ⟨p,kvs,rfl,hd,q⟩:=h
 obtain ⟨u,rfl,ru⟩:=ib r
 cases (show u=Value.ref p from ru)
 exact DU I hd fun t s' I'=>⟨.int kvs.length,H,I',⟨t,rfl⟩,q⟩
end
def aP (K:PySem.W.Frag) (x:Str):Addr:=match PySem.W.nsIn K mainGlobals x with
 | some (some (.ref C))=>C
 | _=>0
theorem gW {K:PySem.W.Frag}{x:Str}{C:Addr} (h:PySem.W.nsIn K mainGlobals x=some (some (.ref C))):aP K x=C:=by unfold aP;rw [h]
structure Dj (P:Program) (w:World) (K:PySem.W.Frag) (mg:Str->Option Value) (base:Heap) (k:Nat) (C:Addr) (m:Str) (ps:List Str) (sp:Sp):Prop where
 ex:∃(f:Addr) (fd:FuncData),lH P w K mg base CX0 k f fd ps sp/\i5 K fd ps []/\Di K C m f
structure Cg (P:Program) (w:World) (K:PySem.W.Frag) (mg:Str->Option Value) (base:Heap) (k:Nat) (C:Addr) (x:Str) (ps:List Str) (sp:Sp):Prop where
 ex:∃(f:Addr) (fd:FuncData),lH P w K mg base CX0 k f fd ps sp/\i5 K fd ps []/\Mk K C f/\mg x=some (.ref C)
structure rY (K:PySem.W.Frag) (C:Addr) (m qual:Str) (st:Stmt):Prop where
 ex:∃(f:Addr) (fd:FuncData),Fun K m qual st f fd/\Di K C m f
structure rZ (K:PySem.W.Frag) (mg:Str->Option Value) (C:Addr) (x qual:Str) (st:Stmt):Prop where
 ex:∃(f:Addr) (fd:FuncData),Fun K "__init__" qual st f fd/\Mk K C f/\mg x=some (.ref C)
section
variable {P:Program}{w:World}{K:PySem.W.Frag}{mg:Str->Option Value}{base:Heap}{x m qual:Str}{C:Addr}{st:Stmt}{N ps:List Str}{k:Nat}{sp:Sp}
theorem rY.ok (D:rY K C m qual st) (S:aK N ps (ap st))
  (hb:∀(kV doc pm:Value) (an:Option Addr) (cdv ct:Value) (us:List Value),us.length=ps.length->bindArgs (PySem.W.fnOf m qual (bP st) (bv st) (ap st) .none kV doc pm an cdv ct) ⟨us,[]⟩=pure (ps.zip us))
  (len:∀vs H Q E,sp vs H Q E->vs.length=ps.length)
  (hbody:∀(f:Addr) (cdv:Value) (A:Around) (outer:List Env) (s:Shared) (H:Hp) (vs:List V) (Q:VK) (E:XK),gj k (A.deeper (envOfC qual (ap st) s.heap.objs.size f cdv))->sp vs H Q E ->
   ∃t,PSs (oz CX0 P w K mg base N qual (ap st) f cdv A outer s H E).nox (bv st) t/\t { nx:=fun _ H'=>Q .non H',rt:=Q } (start N vs) H):Dj P w K mg base (k + 1) C m ps sp:=by
 obtain ⟨f,fd,F,hm⟩:=D.ex
 exact ⟨f,fd,F.ok S len fun cdv A outer s H vs Q E hr h=>hbody f cdv A outer s H vs Q E hr h,F.binds hb,hm⟩
theorem rZ.ok (D:rZ K mg C x qual st) (S:aK N ps (ap st))
  (hb:∀(kV doc pm:Value) (an:Option Addr) (cdv ct:Value) (us:List Value),us.length=ps.length->bindArgs (PySem.W.fnOf "__init__" qual (bP st) (bv st) (ap st) .none kV doc pm an cdv ct) ⟨us,[]⟩=pure (ps.zip us))
  (len:∀vs H Q E,sp vs H Q E->vs.length=ps.length)
  (hbody:∀(f:Addr) (cdv:Value) (A:Around) (outer:List Env) (s:Shared) (H:Hp) (vs:List V) (Q:VK) (E:XK),gj k (A.deeper (envOfC qual (ap st) s.heap.objs.size f cdv))->sp vs H Q E ->
   ∃t,PSs (oz CX0 P w K mg base N qual (ap st) f cdv A outer s H E).nox (bv st) t/\t { nx:=fun _ H'=>Q .non H',rt:=Q } (start N vs) H):Cg P w K mg base (k + 1) C x ps sp:=by
 obtain ⟨f,fd,F,hm,e⟩:=D.ex
 exact ⟨f,fd,F.ok S len fun cdv A outer s H vs Q E hr h=>hbody f cdv A outer s H vs Q E hr h,F.binds hb,hm,e⟩
end
section
variable {X:Cx}{k:Nat}{x m:Str}{C:Addr}{ps:List Str}{sp:Sp}{p pos apos:Pos}{o e:Expr}{es:List Expr}{ta:TE}{t:TA}
theorem z0 (M:Cg X.prog X.w X.K X.mg X.base k C x ps sp) (hr:gj (k + 1) X.A) (ha:PA X (e::es) t) (hg:Gl X x:=by rfl) (hdb:(x == ("__debug__":Str))=false:=by decide) (he:starEach (e::es) X.env=(false,eval e X.env)::starEach es X.env:=by rfl)
  (hpl:(backTo pos (starEach es X.env)).any (·.1)=false:=by rfl):PE X (.Call (.Name x p) (e::es) [] pos) (wZ C sp [] E0 t):=by
 obtain ⟨f,fd,F,hb,hk,hm⟩:=M.ex
 exact zE hk F hr hg hm hb .nil xi ha hdb he hpl
theorem xw {pl:Sem Bool} (he:PE X o ta) (c:Cls X.K C) (M:Dj X.prog X.w X.K X.mg X.base k C m ps sp) (hr:gj k X.A)
  (ht:eval (.Call (.Attribute o m apos) [] [] pos) X.env=(do
   let ov <- eval o X.env
   standAt apos.atName
   let (f,first) <- holding [ov] (getMethod ov m pl)
   callWith pos f first (backTo pos (starEach [] X.env)) (backToKw pos (keywordEach [] X.env))):=by rfl) :
  PE X (.Call (.Attribute o m apos) [] [] pos) (zD C m sp [] E0 ta i4):=by
 obtain ⟨f,fd,F,hb,hm⟩:=M.ex
 exact w4 (pl:=pl) he c hm F hr hb .nil xi ht
end
theorem uY {prog:Program}{w:World}{A:Around} (k:Bool) (hh:A.handled=none) (it a:Addr) (hne:a≠it) (its:Array Value) :
  Draws prog w A it [it,a] its.size (fun i v=>its[i]?=some v) (fun i h=>bw k h it a i/\cL k h a its) where
 live:=fun _ _ st=>let ⟨o,ho,_⟩:=st.1;⟨o,ho⟩
 frame:=fun _ _ _ st hk=>⟨st.1.mv fun o e=>hk it (by simp) o e,st.2.mv fun o e=>hk a (by simp) o e⟩
 item:=fun i s Q E hi st hQ=>by
  refine cF st.1 st.2 (x:=its[i]) (by simp [hi]) fun h' hit' hs'=>?_
  exact hQ _ h' s.toks (by simp [hi]) ⟨hit',st.2.mv fun o e=>hs'.extBut _ o hne e⟩ hs'
 done:=fun s Q E st hE=>eF hh st.1 st.2 (by simp) hE
def Ite (k:Bool) (K:PySem.W.Frag) (a:Addr):It :=
  ⟨fun i H=>∃xs x,Sq k K H a xs/\xs[i]?=some x,
   fun i H p H'=>∃T x,H T=none/\p=.ref T/\(∀xs,Sq k K H a xs->xs[i]?=some x)/\H'=upd H T (.tup [.int (i:Int),x]),
   fun i H=>∃xs,Sq k K H a xs/\xs.length<=i⟩
theorem uZ {P:Program}{w:World}{K:PySem.W.Frag}{es:List Expr}{ct:Nat}{tp:Pos}{k:Bool}{a e it:Addr} (hei:e≠it) :
  wR P w K (.Tuple es ct tp) (Ite k K a) [e,it] e (fun n h=>(∃old,IsEnum h e it ((n:Nat):Int) old)/\bw k h it a n) where
 mem:=by simp
 obj:=fun n h st b hb=>by
  obtain ⟨⟨old,he⟩,o1,g1,c1,d1⟩:=st
  simp only [List.mem_cons,List.not_mem_nil,or_false] at hb
  rcases hb with rfl | rfl
  .exact ⟨_,he,fun v q=>by cases q⟩
  .exact ⟨_,g1,fun v q=>by rw [d1] at q;cases q⟩
 keep:=fun n h h' st kk=>by
  obtain ⟨⟨old,he⟩,w1⟩:=st
  exact ⟨⟨old,kk e (by simp) _ he⟩,w1.mv fun o q=>kk it (by simp) o q⟩
 item:=by
  intro X hP hw hK hc n pins s σ H E I hf st hg
  subst hP hw hK
  obtain ⟨xs,x,q1,hx⟩:=hg
  obtain ⟨⟨old,he⟩,w1⟩:=st
  obtain ⟨its,rv,p,_⟩:=I.row q1
  obtain ⟨ux,hux,rx⟩:=rv.get hx
  have ne:=I.row_ne q1 (hf e (by simp))
  have ni:=I.row_ne q1 (hf it (by simp))
  have hlt:n < its.toArray.size:=by
   have:=(List.getElem?_eq_some_iff.mp hux).1
   simpa using this
  have hhd:X.A.in1.handled=none:=by exact I.ok.hd hc
  refine wpAny_pyNext_enum_itemD (uY k hhd it a ni its.toArray) he ⟨w1,p⟩ hlt hei (by simp [hei,Ne.symm ne]) fun y h' tk hP ho hst ht hsz hk=>?_
  have hy:y=ux:=by
   have h1:its[n]?=some y:=by simpa using hP
   rw [hux] at h1;exact (Option.some.inj h1).symm
  subst hy
  refine ⟨_,rfl,wpAny_letOwnedTupleGo_enum ho fun g ge gs=>?_⟩
  have lt:∀{b o},s.heap.get? b=some o->s.heap.objs.size≠b:=fun q=>Nat.ne_of_gt (Heap.lt_size q)
  have kp:∀b o,b∉[e,it]->s.heap.get? b=some o->g.get? b=some o:=fun b o hb q=>by
   simp only [List.mem_cons,List.not_mem_nil,or_false,not_or] at hb
   exact gs.extBut _ _ hb.1 (hk b o hb.1 hb.2 q)
  have I2:Inv X pins σ (upd H s.heap.objs.size (.tup [.int (n:Int),x])) { s with heap:=g,toks:=tk + 1 }:=I.yielded (ch:=[e,it]) (fun b hb=>hf b hb) (Nat.le_refl _) kp
   ⟨by show 2<=sizeLine;decide,[.int (n:Int) tk,y],.cons ⟨tk,rfl⟩ (.cons rx .nil),_,gs.extBut _ _ (lt he) ht,rfl,_,rfl⟩
  refine ⟨.ref s.heap.objs.size,_,I2,rfl,⟨_,x,I.hok.fresh (Nat.le_refl _),rfl,fun xs' q=>by rw [I.row_inj q q1];exact hx,rfl⟩,⟨⟨y,by simpa using ge⟩,hst.1.mv fun o q=>gs.extBut _ o (Ne.symm hei) q⟩,fun b hb=>?_⟩
  rw [ax ?_]
  .exact (hf b hb).1
  .intro q
   subst q
   simp only [List.mem_cons,List.not_mem_nil,or_false] at hb
   obtain ⟨o1,g1,_⟩:=w1
   rcases hb with q | q
   .exact lt he q
   .exact lt g1 q
 done:=by
  intro X hP hw hK hc n pins s σ H E I hf st hg
  subst hP hw hK
  obtain ⟨xs,q1,hend⟩:=hg
  obtain ⟨⟨old,he⟩,w1⟩:=st
  obtain ⟨its,rv,p,_⟩:=I.row q1
  have e1:=rv.length
  have ni:=I.row_ne q1 (hf it (by simp))
  have hhd:X.A.in1.handled=none:=by exact I.ok.hd hc
  obtain ⟨f0,f1,f2,f3,f4,f5⟩:=hf it (by simp)
  -- the walk's end is wherever the row has no item
  have hT:s.TypeIs (.ref e) "enumerate":=⟨_,he,rfl⟩
  unfold pyNext
  refine wpAny_bind (wpAny_attempt (wpAny_callSpecial?_slot (name:=Str.ofString "__next__") hT F.slot_enumerate_next
   (wpAny_call_entry F.slot_enumerate_next hT F.entry_enumerate_next ?_ (F.args_enumerate_next_1 _))))
  show wpAny _ _ (field (.ref e) 2 >>= _) _ _ _
  refine wpAny_bind (wpAny_field he rfl (x:=.ref it) rfl ?_)
  refine wpAny_bind (eF hhd w1 p (by simp;omega) fun h' x he' hx'=>?_)
  obtain ⟨o,ho,hcl⟩:=hx'
  refine wpAny_bind (wpAny_isInstance (T:="StopIteration") (b:=true) ⟨o,ho,hcl⟩ isSubtype_stop ?_)
  exact wpAny_pure ⟨rfl,I.turned (t':=s.toks) (fun b o hb q=>he' b o hb q) f0 f1 f3 f4 f5⟩
 self:=fun _ _ _ _ _ st h=>let ⟨⟨_,he⟩,_⟩:=st;wpAny_pyIter_enum he h
section
variable {P:Program}{w:World}{A:Around}{E:Value->Shared->Prop}{s:Shared}{k:Bool}
theorem xx (k:Bool) (a:Addr) (xs:Array Value):Meets (Builtin.«enumerate.__new__» ⟨[.type "enumerate",.ref a],[]⟩) (fun _ R s=>cL k s.heap a xs /\
   R (.ok (.ret (.ref (s.heap.push (fC k a)).objs.size))) { s with heap:=(s.heap.push (fC k a)).push { cls:=.type "enumerate",data:=.fields #[.none,.bool false,.ref s.heap.objs.size,rawInt 0,.none,.none] } }) :=
 .of_wp fun prog w A R s h=>by
  obtain ⟨hp,g,d,tk,os⟩:=s
  obtain ⟨r1,h⟩:=h
  have hsub:=sub_enumerate
  have R1:cL k (Shared.heap ⟨hp,g,d,tk,os⟩) a xs:=r1
  obtain ⟨⟨cls,dd,data,sl⟩,ho,hc,n,hd⟩:=id r1
  simp only at hc hd
  subst hc hd
  wp_walk using AutoSeq1.wpAny_loadPart' ho
  refine wpAny_stack_any fun st=>wpAny_pure ?_
  split
  .rename_i c _ _ _ _ _
   cases (c == Value.type "enumerate")
   .wp_walk using AutoSeq1.wpAny_loadPart' ho,c8 R1
    exact ⟨_,rfl,h⟩
   .wp_walk using AutoSeq1.wpAny_loadPart' ho,c8 R1
    exact ⟨_,rfl,h⟩
  .wp_walk using AutoSeq1.wpAny_loadPart' ho,c8 R1
   exact ⟨_,rfl,h⟩
theorem xy {a:Addr}{xs:Array Value}{Q:Value->Shared->Prop} (r1:cL k s.heap a xs)
  (h:∀h',IsEnum h' (s.heap.objs.size + 1) s.heap.objs.size 0 .none->bw k h' s.heap.objs.size a 0->(∀b o,s.heap.get? b=some o->h'.get? b=some o)->Q (.ref (s.heap.objs.size + 1)) { s with heap:=h' }) :
  wpAny (model P w) A (call (.type "enumerate") [.ref a]) Q E s:=by
 refine callType_new F.called_enumerate (by decide) (F.typeCall_enumerate_1 _) (F.newCall_enumerate_1 _) (fun obj=>F.args_object_init_2 obj _) F.entry_enumerate_new (xx k a xs) ⟨r1,?_⟩
 have z1:(s.heap.push (fC k a)).objs.size=s.heap.objs.size + 1:=Heap.size_push ..
 have g2:((s.heap.push (fC k a)).push { cls:=.type "enumerate",data:=.fields #[.none,.bool false,.ref s.heap.objs.size,rawInt 0,.none,.none] }).get? (s.heap.push (fC k a)).objs.size=some _:=Heap.get?_push_size _ rfl
 have g1:=Heap.get?_push_of_some { cls:=.type "enumerate",data:=.fields #[.none,.bool false,.ref s.heap.objs.size,rawInt 0,.none,.none] } (Heap.get?_push_size s.heap (o:=fC k a) rfl)
 show _/\_
 rw [z1] at g2 ⊢
 exact ⟨⟨_,g2,rfl⟩,h _ g2 ⟨_,g1,rfl,rfl⟩ fun b o q=>Heap.get?_push_of_some _ (Heap.get?_push_of_some _ q)⟩
end
section
variable {X:Cx}{es:List Expr}{ct:Nat}{tp:Pos}
def Aa (K:PySem.W.Frag) (ta:TA):TI:=fun σ H R=>ta σ H fun vs H1=>∃k a,vs=[.ref a]/\(∃xs,Sq k K H1 a xs)/\R (Ite k K a) H1
theorem Ab {a:Expr}{ta:TA}{p pos:Pos} (hg:Gl X "enumerate") (hm:X.mg "enumerate"=none) (ha:PA X [a] ta) (hs:starEach [a] X.env=[(false,eval a X.env)]:=by rfl) :
  PI X (.Tuple es ct tp) (.Call (.Name "enumerate" p) [a] [] pos) (Aa X.K ta):=by
 intro pins s σ H R I h
 refine Call_ (iX I hg hm boot_enumerate (PyProof.Rows.callWith_type1 (thn (ha pos pins s σ H _ I h) fun us s1 ⟨vs,H1,I1,r1,q1⟩=>?_) hs rfl))
 obtain ⟨k,a,e,⟨xs,q1⟩,q⟩:=q1
 subst e
 cases r1 with
 | cons r rr =>
  cases rr
  cases r
  obtain ⟨its,rv,p,_⟩:=I1.row q1
  refine xy p fun h' g1 g2 kk=>wpAny_pyIter_enum g1 ?_
  have I2:Inv X pins σ H1 { s1 with heap:=h',toks:=s1.toks }:=I1.kept kk
  refine ⟨s1.heap.objs.size + 1,[s1.heap.objs.size + 1,s1.heap.objs.size],_,_,H1,rfl,I2,uZ (k:=k) (a:=a) (it:=s1.heap.objs.size) (Nat.ne_of_gt (Nat.lt_succ_self _)),⟨⟨_,g1⟩,g2⟩,fun b hb=>?_,q⟩
  have hle:s1.heap.objs.size<=b:=by
   simp only [List.mem_cons,List.not_mem_nil,or_false] at hb
   rcases hb with e | e
   .rw [e];exact Nat.le_add_right _ _
   .rw [e];exact Nat.le_refl _
  exact I1.fpOk hle (I1.hok.fresh hle)
end
section
variable {X:Cx}
theorem u0 (hc:X.calm=true):bK X (.builtin "min") (fun xs H Q=>∃(p:Addr) (ns:List Int),xs=[.ref p]/\SqL X.K H p (ns.map V.int)/\0 < ns.length/\∀m:Int,m∈ns->(∀a∈ns,m<=a)->Q (.int m) H):=by
 intro pins s σ H xs us Q I r h
 obtain ⟨p,ns,rfl,hS,hne,q⟩:=h
 obtain ⟨u,rfl,ru⟩:=ib r
 cases (show u=Value.ref p from ru)
 obtain ⟨its,rv,pl,hz⟩:=I.list hS
 have hi:=gU rv
 have hl:=pl.isList
 obtain ⟨ys,e⟩:=hi.allInts.items
 have hns:ns=ys.toList.map (·.1):=by rw [<- hi.numsOf,<- nums_intItems,<- e]
 have hsz:0 < ys.size:=by
  have h3:=hne;rw [hns,List.length_map,Array.length_toList] at h3;exact h3
 rw [e] at hl
 refine min_intList (by exact I.ok.hd hc) hl hsz fun v h' tk hv hk=>?_
 obtain ⟨t,rfl⟩:=intItems_at hv
 obtain ⟨h1,h2⟩:=argBest_lt (numAt ys) (ys.size - 1)
 refine ⟨.int _,H,I.kept (t':=tk) hk,⟨t,rfl⟩,q _ ?_ fun a ha=>?_⟩
 .rw [hns,numAt_eq];exact getD_mem (by rw [List.length_map,Array.length_toList];omega)
 .rw [hns] at ha
  obtain ⟨j,hj,rfl⟩:=mem_getD ha
  rw [List.length_map,Array.length_toList] at hj
  rw [<- numAt_eq];exact h2 j (by omega)
theorem ml (ns:List Int):∀k,k<=ns.length->preSum (fun i=>ns.getD i 0) k=(ns.take k).sum
 | 0,_=>rfl
 | k + 1,h=>by
  rw [preSum,ml ns k (by omega),List.take_add_one,List.getElem?_eq_getElem (by omega),List.sum_append,List.getD_eq_getElem?_getD,List.getElem?_eq_getElem (by omega)]
  simp
theorem u4 (hc:X.calm=true):bK X (.builtin "sum") (fun xs H Q=>∃(p:Addr) (ns:List Int),xs=[.ref p]/\SqL X.K H p (ns.map V.int)/\Q (.int ns.sum) H):=by
 intro pins s σ H xs us Q I r h
 obtain ⟨p,ns,rfl,hS,q⟩:=h
 obtain ⟨u,rfl,ru⟩:=ib r
 cases (show u=Value.ref p from ru)
 obtain ⟨its,rv,pl,hz⟩:=I.list hS
 have hi:=gU rv
 have hl:=pl.isList
 obtain ⟨ys,e⟩:=hi.allInts.items
 have hns:ns=ys.toList.map (·.1):=by rw [<- hi.numsOf,<- nums_intItems,<- e]
 rw [e] at hl
 refine sum_intListG (by exact I.ok.hd hc) hl fun h' tk t' hk=>⟨.int ns.sum,H,I.kept (t':=tk) hk,⟨t',?_⟩,q⟩
 have hlen:ys.size=ns.length:=by rw [hns,List.length_map,Array.length_toList]
 have hnum:numAt ys=fun i=>ns.getD i 0:=by
  funext i
  rw [numAt_eq,hns]
 rw [hnum,hlen,ml ns ns.length (Nat.le_refl _),List.take_length]
theorem u8:∀{ws:List (List Nat)}{us:List Value},bO (ws.map tx) us->StrsAre us (ws.map S)
 | [],_,.nil=>.nil
 | w::ws,_,.cons r rr=>by
  obtain ⟨t,e⟩:=r
  subst e
  exact .cons _ _ (u8 rr)
end
section
variable {X:Cx}{es:List Expr}{ct:Nat}{tp:Pos}
def DW (K:PySem.W.Frag) (ta:TA):TI:=fun σ H R=>ta σ H fun vs H1=>∃k l a c,vs=[.ref a,.ref c]/\(∃xs ys,Sq k K H1 a xs/\Sq l K H1 c ys)/\R (Itz k l K a c) H1
end
section
variable {X:Cx}{e:Expr}{ta:TE}{f:Str}{pos:Pos}
theorem c6 (K:PySem.W.Frag) (eK:X.K=K) (he:PE X e ta) (hb:attributeBase e f X.env (eval e X.env)=eval e X.env):PE X (.Attribute e f pos) (uk K ta f):=eK ▸ BH he hb
def DX (K:PySem.W.Frag):List V->Hp->VK->Prop:=fun xs H Q=>∃p ys,xs=[.ref p]/\SqL K H p ys/\Q (.int ys.length) H
def DY (K:PySem.W.Frag):List V->Hp->VK->Prop:=fun xs H Q=>∃p ys,xs=[.ref p]/\SqT K H p ys/\Q (.int ys.length) H
def E3 (K:PySem.W.Frag):List V->Hp->VK->Prop:=fun xs H Q=>∃x n t b,xs=[x,.ty n]/\oy K H x t/\PySem.W.kitOne K t (.type n)=some b/\Q (.bl b) H
def u9 (K:PySem.W.Frag):List V->Hp->VK->Prop:=fun xs H Q=>∃p ys,xs=[.ref p]/\(SqL K H p ys\/SqT K H p ys)/\∀l,H l=none->Q (.ref l) (upd H l (.lst ys))
end
section
variable {X:Cx}{o e:Expr}{es:List Expr}{to:TE}{t:TA}{name:Str}{apos cpos:Pos}{T id:String}{r:V->List V->Hp->VK->Prop}
theorem fm (K:PySem.W.Frag) (eK:X.K=K) (pa:PlainAttrs T) (slot:Slot T name id) (hty:typeOf (.builtin id)=pure (.type "method_descriptor")) (hm:MtR X id r) (ho:PE X o to) (ha:PA X (e::es) t)
  (hbase:attributeBase o name X.env (eval o X.env)=eval o X.env:=by rfl)
  (hfew:((backTo cpos (starEach (e::es) X.env)).all (fun x=>!x.1) && (backToKw cpos (keywordEach [] X.env)).all (fun x=>x.1.isSome)
   && decide ((e::es).length + ([]:List Keyword).length + (if ([]:List Keyword).isEmpty then 0 else 1) < 30))=true:=by rfl)
  (hline:(apos.endLine == cpos.line)=true:=by rfl) (hs:starEach (e::es) X.env=(false,eval e X.env)::starEach es X.env:=by rfl) (hplain:(backTo cpos (starEach es X.env)).any (·.1)=false:=by rfl) :
  PE X (.Call (.Attribute o name apos) (e::es) [] cpos) (tBM K T r to t):=eK ▸ DL pa slot hty hm ho ha hbase hfew hline hs hplain
end
def iW (c:Bool) (A B:Prop):Prop:=match c with | true=>A | false=>B
theorem yH {c:Bool}{A B:Prop} (h1:c=true->A) (h2:c=false->B):iW c A B:=by
 cases c with
 | true=>exact h1 rfl
 | false=>exact h2 rfl
theorem d4 {p:Prop} [Decidable p] {A B:Prop} (h1:p->A) (h2:¬ p->B):iW (decide p) A B:=yH (fun h=>h1 (of_decide_eq_true h)) (fun h=>h2 (of_decide_eq_false h))
theorem qD {p:Prop} [Decidable p] {A B:Prop} (h1:¬ p->A) (h2:p->B):iW (!decide p) A B:=yH (fun h=>h1 fun z=>by rw [decide_eq_true z] at h;cases h) (fun h=>h2 (by
 by_cases z:p
 .exact z
 .rw [decide_eq_false z] at h;cases h))
theorem DZ {p:Prop} [Decidable p] {A B:Prop} (h:p) (hA:A):iW (decide p) A B:=d4 (fun _=>hA) (fun z=>absurd h z)
theorem D0 {p:Prop} [Decidable p] {A B:Prop} (h:¬ p) (hB:B):iW (decide p) A B:=d4 (fun z=>absurd z h) (fun _=>hB)
theorem Ch {p:Prop} [Decidable p] {A B:Prop} (h:¬ p) (hA:A):iW (!decide p) A B:=qD (fun _=>hA) (fun z=>absurd z h)
theorem yI {p:Prop} [Decidable p] {A B:Prop} (h:p) (hB:B):iW (!decide p) A B:=qD (fun z=>absurd h z) (fun _=>hB)
theorem kA {c:Bool}{A B:Prop} (h:iW c B A):iW (!c) A B:=by
 cases c <;> exact h
theorem Fz {c:Bool}{A B:Prop} (h:c=true) (hA:A):iW c A B:=by subst h;exact hA
theorem Dk {c:Bool}{A B:Prop} (h:c=false) (hB:B):iW c A B:=by subst h;exact hB
theorem D1 {c:Bool}{A B:Prop} (h:c=false) (hA:A):iW (!c) A B:=by subst h;exact hA
theorem Ac {c:Bool}{A B:Prop} (h:c=true) (hB:B):iW (!c) A B:=by subst h;exact hB
inductive D where
 | non | bl (b:Bool) | int (i:Int) | str (l:List Nat) | ty (n:String)
 | lst (ds:List D) | tup (ds:List D) | scr (ns:List Int) | dic (ks:List Key) (ds:List D) | obj (c:Str) (ns:List Str) (ds:List D) | exc (c:Str) (ns:List Str) (ds:List D)
def XAt (x C:Addr) (dd:Option Addr) (new:Bool) (h:Heap):Prop:=∃o vs,h.get? x=some o/\o.cls=.ref C/\o.dict=dd/\o.data=.fields vs/\1 < vs.size/\(new=true->vs[1]?=some .none)
def iM (A:Addr->Prop) (a:Addr):Addr->Prop:=fun b=>A b\/b=a
def Bg (K:PySem.W.Frag) (O:Addr->Prop) (H:Hp) (a:Addr) (xs:List V):Prop :=
 (¬ O a/\Rd H a (.lst xs))\/∃(o:Obj) (its:Array Value) (n:Nat),K.lookup a=some o/\o.cls=.type "list"/\o.dict=none/\o.data=.seq its n/\its.size<=sizeLine/\bO xs its.toList
theorem Bg.sq {K:PySem.W.Frag}{O:Addr->Prop}{H:Hp}{a:Addr}{xs:List V} (h:Bg K O H a xs):SqL K H a xs:=h.elim (fun z=>.inl z.2) .inr
def aZ (O:Addr->Prop) (H:Hp) (O':Addr->Prop) (H':Hp):Prop:=∀b o,¬ O b->H b=some o->¬ O' b/\H' b=some o
theorem Rd.keeps {O O':Addr->Prop}{H H':Hp}{a:Addr}{u:HO} (k:aZ O H O' H') (n:¬ O a) (r:Rd H a u):¬ O' a/\Rd H' a u:=by
 rcases r with e | ⟨o,e⟩
 .exact ⟨(k _ _ n e).1,.inl (k _ _ n e).2⟩
 .exact ⟨(k _ _ n e).1,.inr ⟨o,(k _ _ n e).2⟩⟩
theorem Bg.keeps {K:PySem.W.Frag}{O O':Addr->Prop}{H H':Hp}{a:Addr}{xs:List V} (k:aZ O H O' H') (h:Bg K O H a xs):Bg K O' H' a xs:=by
 rcases h with ⟨n,r⟩ | r
 .exact .inl (r.keeps k n)
 .exact .inr r
mutual
inductive FV (K:PySem.W.Frag) (O:Addr->Prop) (H:Hp):V->D->Prop
 | non:FV K O H .non .non
 | bl (b:Bool):FV K O H (.bl b) (.bl b)
 | int (i:Int):FV K O H (.int i) (.int i)
 | str (l:List Nat):l.length<=1000000->FV K O H (.str (S l)) (.str l)
 | ty (n:String):FV K O H (.ty n) (.ty n)
 | scr {a:Addr}{ns:List Int}:Bg K O H a (ns.map V.int)->FV K O H (.ref a) (.scr ns)
 | lst {a:Addr}{xs:List V}{ds:List D}:¬ O a->H a=some (.lst xs)->FVs K O H xs ds->FV K O H (.ref a) (.lst ds)
 | tup {a:Addr}{xs:List V}{ds:List D}:¬ O a->H a=some (.tup xs)->FVs K O H xs ds->FV K O H (.ref a) (.tup ds)
 | dic {a:Addr}{kvs:List (Key×V)}{ks:List Key}{ds:List D}:¬ O a->H a=some (.dK kvs)->kvs.map Prod.fst=ks->FVs K O H (kvs.map Prod.snd) ds->FV K O H (.ref a) (.dic ks ds)
 | obj {a dx:Addr}{c:Str}{fs:List (Str×V)}{ns:List Str}{ds:List D}:¬ O a->H a=some (.ins (aP K c) dx fs)->fs.map Prod.fst=ns->FVs K O H (fs.map Prod.snd) ds->FV K O H (.ref a) (.obj c ns ds)
 | exc0 {a:Addr}{c:Str}{new:Bool}:¬ O a->H a=some (.ext (XAt a (aP K c) none new))->FV K O H (.ref a) (.exc c [] [])
 | exc1 {a dx:Addr}{c:Str}{new:Bool}{fs:List (Str×V)}{ns:List Str}{ds:List D}:¬ O a->¬ O dx->H a=some (.ext (XAt a (aP K c) (some dx) new))->H dx=some (.xd fs)->fs.map Prod.fst=ns->FVs K O H (fs.map Prod.snd) ds->FV K O H (.ref a) (.exc c ns ds)
inductive FVs (K:PySem.W.Frag) (O:Addr->Prop) (H:Hp):List V->List D->Prop
 | nil:FVs K O H [] []
 | cons {x:V}{d:D}{xs:List V}{ds:List D}:FV K O H x d->FVs K O H xs ds->FVs K O H (x::xs) (d::ds)
end
section
variable {K:PySem.W.Frag}{O O':Addr->Prop}{H H':Hp}
mutual
theorem FV.keeps (k:aZ O H O' H'):∀{v:V}{d:D},FV K O H v d->FV K O' H' v d
 | _,_,.non=>.non
 | _,_,.bl b=>.bl b
 | _,_,.int i=>.int i
 | _,_,.str l h=>.str l h
 | _,_,.ty n=>.ty n
 | _,_,.scr s=>.scr (s.keeps k)
 | _,_,.lst n e f=>.lst (k _ _ n e).1 (k _ _ n e).2 (FVs.keeps k f)
 | _,_,.tup n e f=>.tup (k _ _ n e).1 (k _ _ n e).2 (FVs.keeps k f)
 | _,_,.dic n e m f=>.dic (k _ _ n e).1 (k _ _ n e).2 m (FVs.keeps k f)
 | _,_,.obj n e m f=>.obj (k _ _ n e).1 (k _ _ n e).2 m (FVs.keeps k f)
 | _,_,.exc0 n e=>.exc0 (k _ _ n e).1 (k _ _ n e).2
 | _,_,.exc1 n n2 e e2 m f=>.exc1 (k _ _ n e).1 (k _ _ n2 e2).1 (k _ _ n e).2 (k _ _ n2 e2).2 m (FVs.keeps k f)
theorem FVs.keeps (k:aZ O H O' H'):∀{vs:List V}{ds:List D},FVs K O H vs ds->FVs K O' H' vs ds
 | _,_,.nil=>.nil
 | _,_,.cons a b=>.cons (FV.keeps k a) (FVs.keeps k b)
end
theorem FVs.length:∀{vs:List V}{ds:List D},FVs K O H vs ds->vs.length=ds.length
 | _,_,.nil=>rfl
 | _,_,.cons _ b=>by rw [List.length_cons,List.length_cons,b.length]
theorem FVs.get:∀{vs:List V}{ds:List D}{i:Nat}{v:V},FVs K O H vs ds->vs[i]?=some v->∃d,ds[i]?=some d/\FV K O H v d
 | _,_,0,_,.cons a _,e=>by simp at e;subst e;exact ⟨_,rfl,a⟩
 | _,_,i + 1,v,.cons _ b,e=>by
  obtain ⟨d,h1,h2⟩:=b.get (i:=i) (v:=v) (by simpa using e)
  exact ⟨d,by simpa using h1,h2⟩
theorem FVs.getD:∀{vs:List V}{ds:List D}{i:Nat}{d:D},FVs K O H vs ds->ds[i]?=some d->∃v,vs[i]?=some v/\FV K O H v d
 | _,_,0,_,.cons a _,e=>by simp at e;subst e;exact ⟨_,rfl,a⟩
 | _,_,i + 1,v,.cons _ b,e=>by
  obtain ⟨d,h1,h2⟩:=b.getD (i:=i) (d:=v) (by simpa using e)
  exact ⟨d,by simpa using h1,h2⟩
theorem FVs.append:∀{vs ws:List V}{ds es:List D},FVs K O H vs ds->FVs K O H ws es->FVs K O H (vs++ws) (ds++es)
 | _,_,_,_,.nil,s=>s
 | _,_,_,_,.cons a b,s=>.cons a (b.append s)
theorem FVs.set {v:V}{d:D} (f:FV K O H v d):∀{vs:List V}{ds:List D} (i:Nat),FVs K O H vs ds->FVs K O H (vs.set i v) (ds.set i d)
 | _,_,_,.nil=>.nil
 | _,_,0,.cons _ t=>.cons f t
 | _,_,i + 1,.cons q t=>.cons q (FVs.set f i t)
theorem FVs.take:∀{vs:List V}{ds:List D} (n:Nat),FVs K O H vs ds->FVs K O H (vs.take n) (ds.take n)
 | _,_,0,_=>.nil
 | _,_,_ + 1,.nil=>.nil
 | _,_,n + 1,.cons r t=>.cons r (t.take n)
theorem FVs.drop:∀{vs:List V}{ds:List D} (n:Nat),FVs K O H vs ds->FVs K O H (vs.drop n) (ds.drop n)
 | _,_,0,r=>r
 | _,_,_ + 1,.nil=>.nil
 | _,_,n + 1,.cons _ t=>t.drop n
theorem FVs.reverse:∀{vs:List V}{ds:List D},FVs K O H vs ds->FVs K O H vs.reverse ds.reverse
 | _,_,.nil=>.nil
 | _,_,.cons r t=>by rw [List.reverse_cons,List.reverse_cons];exact t.reverse.append (.cons r .nil)
theorem FVs.ints:∀{vs:List V}{ns:List Int},FVs K O H vs (ns.map D.int)->vs=ns.map V.int
 | _,[],.nil=>rfl
 | _,n::r,h=>by
  cases h with
  | cons a b=>cases a;rw [FVs.ints b];rfl
theorem FVs.of_ints:∀ns:List Int,FVs K O H (ns.map V.int) (ns.map D.int)
 | []=>.nil
 | n::r=>.cons (.int n) (FVs.of_ints r)
theorem FVs.strs:∀{vs:List V}{ws:List (List Nat)},FVs K O H vs (ws.map D.str)->vs=ws.map tx
 | _,[],.nil=>rfl
 | _,n::r,h=>by
  cases h with
  | cons a b=>cases a;rw [FVs.strs b];rfl
theorem FVs.bls:∀{vs:List V}{bs:List Bool},FVs K O H vs (bs.map D.bl)->vs=bs.map V.bl
 | _,[],.nil=>rfl
 | _,n::r,h=>by
  cases h with
  | cons a b=>cases a;rw [FVs.bls b];rfl
end
inductive PV where
 | dat (d:D) | own (ds:List D) | ins (c:Str) (ns:List Str) (ds:List D)
def PV.isOwn:PV->Bool
 | .dat _=>false
 | _=>true
def PV.d:PV->D
 | .dat d=>d
 | .own ds=>.lst ds
 | .ins c ns ds=>.obj c ns ds
abbrev PSt:=List (Option PV)
def Wr (ρ:PSt) (σ:St) (b:Addr):Prop:=∃(i:Nat) (p:PV),ρ[i]?=some (some p)/\p.isOwn=true/\σ[i]?=some (some (.ref b))
def OO (A:Addr->Prop) (ρ:PSt) (σ:St) (b:Addr):Prop:=A b\/Wr ρ σ b
def RS (K:PySem.W.Frag) (O:Addr->Prop) (H:Hp):PV->V->Prop
 | .dat d,v=>FV K O H v d
 | .own ds,v=>∃a xs,v=.ref a/\H a=some (.lst xs)/\FVs K O H xs ds
 | .ins c ns ds,v=>∃a dx fs,v=.ref a/\H a=some (.ins (aP K c) dx fs)/\fs.map Prod.fst=ns/\FVs K O H (fs.map Prod.snd) ds
structure Rel (K:PySem.W.Frag) (A:Addr->Prop) (ρ:PSt) (σ:St) (H:Hp):Prop where
 len:ρ.length=σ.length
 get:∀(i:Nat) (p:PV),ρ[i]?=some (some p)->∃v,σ[i]?=some (some v)/\RS K (OO A ρ σ) H p v
 dj:∀(i j:Nat) (p q:PV) (v:V),ρ[i]?=some (some p)->ρ[j]?=some (some q)->p.isOwn=true->q.isOwn=true->σ[i]?=some (some v)->σ[j]?=some (some v)->i=j
 dom:∀b,A b->H b≠none
 sep:∀b,A b->¬ Wr ρ σ b
structure Fr (ρ:PSt) (σ:St) (H:Hp) (ρ':PSt) (H':Hp):Prop where
 kp:∀b o,¬ Wr ρ σ b->H b=some o->H' b=some o
 dm:∀b,H b≠none->H' b≠none
 ow:∀b,Wr ρ' σ b->Wr ρ σ b
theorem Fr.refl (ρ:PSt) (σ:St) (H:Hp):Fr ρ σ H ρ H:=⟨fun _ _ _ h=>h,fun _ h=>h,fun _ h=>h⟩
theorem Fr.trans {ρ ρ1 ρ2:PSt}{σ:St}{H H1 H2:Hp} (a:Fr ρ σ H ρ1 H1) (b:Fr ρ1 σ H1 ρ2 H2):Fr ρ σ H ρ2 H2 :=
 ⟨fun c o n h=>b.kp c o (fun z=>n (a.ow c z)) (a.kp c o n h),fun c h=>b.dm c (a.dm c h),fun c h=>a.ow c (b.ow c h)⟩
theorem Fr.keeps {ρ ρ':PSt}{σ:St}{H H':Hp}{A:Addr->Prop} (f:Fr ρ σ H ρ' H'):aZ (OO A ρ σ) H (OO A ρ' σ) H':=fun b o n h =>
 ⟨fun z=>z.elim (fun z=>n (.inl z)) (fun z=>n (.inr (f.ow b z))),f.kp b o (fun z=>n (.inr z)) h⟩
theorem Fr.new {ρ:PSt}{σ:St}{H:Hp}{p:Addr}{o:HO} (h:H p=none):Fr ρ σ H ρ (upd H p o) :=
 ⟨fun b u _ e=>by rw [ax (aN e h)];exact e,fun b e=>by
  by_cases z:b=p
  .rw [z,aF];exact nofun
  .rw [ax z];exact e,fun _ h=>h⟩
theorem aZ.fresh {O:Addr->Prop}{H:Hp}{p:Addr}{o:HO} (h:H p=none):aZ O H (iM O p) (upd H p o):=fun b u n e =>
 ⟨fun z=>z.elim n (fun z=>by rw [z,h] at e;cases e),by rw [ax (aN e h)];exact e⟩
theorem aZ.less {O O':Addr->Prop}{H:Hp} (h:∀b,O' b->O b):aZ O H O' H:=fun b o n e=>⟨fun z=>n (h b z),e⟩
theorem RS.keeps {K:PySem.W.Frag}{O O':Addr->Prop}{H H':Hp}{p:PV}{v:V} (k:aZ O H O' H') (w:p.isOwn=true->∀a,v=.ref a->H' a=H a) (h:RS K O H p v):RS K O' H' p v:=by
 cases p with
 | dat d=>exact FV.keeps k h
 | own ds =>
  obtain ⟨a,xs,e,g,f⟩:=h
  exact ⟨a,xs,e,by rw [w rfl a e];exact g,f.keeps k⟩
 | ins c ns ds =>
  obtain ⟨a,dx,fs,e,g,m,f⟩:=h
  exact ⟨a,dx,fs,e,by rw [w rfl a e];exact g,m,f.keeps k⟩
theorem RS.ref {K:PySem.W.Frag}{O:Addr->Prop}{H:Hp}{p:PV}{v:V} (h:RS K O H p v) (o:p.isOwn=true):∃a u,v=.ref a/\H a=some u:=by
 cases p with
 | dat d=>cases o
 | own ds=>obtain ⟨a,xs,e,g,f⟩:=h;exact ⟨a,_,e,g⟩
 | ins c ns ds=>obtain ⟨a,dx,fs,e,g,m,f⟩:=h;exact ⟨a,_,e,g⟩
theorem Rel.wr {K:PySem.W.Frag}{A:Addr->Prop}{ρ:PSt}{σ:St}{H:Hp} (R:Rel K A ρ σ H) {b:Addr} (h:Wr ρ σ b):H b≠none:=by
 obtain ⟨i,p,e,o,s⟩:=h
 obtain ⟨v,s',r⟩:=R.get i p e
 rw [s] at s';cases s'
 obtain ⟨a,u,e1,e2⟩:=r.ref o
 cases e1
 rw [e2];exact nofun
theorem Rel.oo {K:PySem.W.Frag}{A:Addr->Prop}{ρ:PSt}{σ:St}{H:Hp} (R:Rel K A ρ σ H) {b:Addr} (h:H b=none):¬ OO A ρ σ b:=fun z=>z.elim (fun z=>R.dom b z h) (fun z=>R.wr z h)
theorem Rel.grow {K:PySem.W.Frag}{A:Addr->Prop}{ρ:PSt}{σ:St}{H:Hp} (R:Rel K A ρ σ H) {p:Addr}{o:HO} (h:H p=none):Rel K A ρ σ (upd H p o):=by
 have k:aZ (OO A ρ σ) H (OO A ρ σ) (upd H p o):=Fr.keeps (Fr.new h)
 refine ⟨R.len,fun i q e=>?_,R.dj,fun b z=>(Fr.new (ρ:=ρ) (σ:=σ) h).dm b (R.dom b z),R.sep⟩
 obtain ⟨v,s,r⟩:=R.get i q e
 refine ⟨v,s,r.keeps k fun ow a ea=>?_⟩
 obtain ⟨a',u,e1,e2⟩:=r.ref ow
 rw [ea] at e1;cases e1
 rw [ax (aN e2 h)]
theorem Rel.less {K:PySem.W.Frag}{A A':Addr->Prop}{ρ:PSt}{σ:St}{H:Hp} (R:Rel K A ρ σ H) (h:∀b,A' b->A b):Rel K A' ρ σ H:=by
 refine ⟨R.len,fun i q e=>?_,R.dj,fun b z=>R.dom b (h b z),fun b z=>R.sep b (h b z)⟩
 obtain ⟨v,s,r⟩:=R.get i q e
 exact ⟨v,s,r.keeps (aZ.less fun b z=>z.imp (h b) id) fun _ _ _=>rfl⟩
theorem Rel.write {K:PySem.W.Frag}{A:Addr->Prop}{ρ:PSt}{σ:St}{H:Hp} (R:Rel K A ρ σ H) {i:Nat}{p q:PV}{a:Addr}{o:HO} (e:ρ[i]?=some (some p)) (ow:p.isOwn=true) (ow':q.isOwn=true) (es:σ[i]?=some (some (.ref a)))
  (new:RS K (OO A ρ σ) (upd H a o) q (.ref a)):Rel K A (ρ.set i (some q)) σ (upd H a o)/\Fr ρ σ H (ρ.set i (some q)) (upd H a o):=by
 have hi:i < ρ.length:=(List.getElem?_eq_some_iff.mp e).1
 have wa:Wr ρ σ a:=⟨i,p,e,ow,es⟩
 have weq:∀b,Wr (ρ.set i (some q)) σ b ↔ Wr ρ σ b:=fun b=>by
  constructor
  .rintro ⟨j,r,e1,o1,s1⟩
   by_cases z:i=j
   .subst z;exact ⟨i,p,e,ow,s1⟩
   .rw [List.getElem?_set_ne z] at e1;exact ⟨j,r,e1,o1,s1⟩
  .rintro ⟨j,r,e1,o1,s1⟩
   by_cases z:i=j
   .subst z;exact ⟨i,q,List.getElem?_set_self hi,ow',s1⟩
   .exact ⟨j,r,by rw [List.getElem?_set_ne z];exact e1,o1,s1⟩
 have oeq:OO A (ρ.set i (some q)) σ=OO A ρ σ:=funext fun b=>propext (or_congr Iff.rfl (weq b))
 have kp:∀b u,¬ Wr ρ σ b->H b=some u->upd H a o b=some u:=fun b u n h=>by rw [ax (fun z=>n (by rw [z];exact wa))];exact h
 have k:aZ (OO A ρ σ) H (OO A ρ σ) (upd H a o):=fun b u n h=>⟨n,kp b u (fun z=>n (.inr z)) h⟩
 have dm:∀b,H b≠none->upd H a o b≠none:=fun b n=>by
  by_cases z:b=a
  .rw [z,aF];exact nofun
  .rw [ax z];exact n
 refine ⟨⟨by rw [List.length_set];exact R.len,fun j r e1=>?_,fun j l p1 q1 v e1 e2 o1 o2 s1 s2=>?_,fun b z=>dm b (R.dom b z),fun b z w=>R.sep b z ((weq b).mp w)⟩,⟨kp,dm,fun b w=>(weq b).mp w⟩⟩
 .rw [oeq]
  by_cases z:i=j
  .subst z
   rw [List.getElem?_set_self hi] at e1
   cases e1
   exact ⟨_,es,new⟩
  .rw [List.getElem?_set_ne z] at e1
   obtain ⟨v,s,rr⟩:=R.get j r e1
   refine ⟨v,s,rr.keeps k fun ow2 b eb=>?_⟩
   rw [ax]
   intro zz
   subst zz
   rw [eb] at s
   exact z (R.dj i j p r _ e e1 ow ow2 es s)
 .have ex:∀(m:Nat) (x:PV),(ρ.set i (some q))[m]?=some (some x)->x.isOwn=true->∃y:PV,ρ[m]?=some (some y)/\y.isOwn=true:=fun m x em ox=>by
   by_cases z:i=m
   .subst z;exact ⟨p,e,ow⟩
   .rw [List.getElem?_set_ne z] at em;exact ⟨x,em,ox⟩
  obtain ⟨y1,h1,h2⟩:=ex j p1 e1 o1
  obtain ⟨y2,h3,h4⟩:=ex l q1 e2 o2
  exact R.dj j l y1 y2 v h1 h3 h2 h4 s1 s2
theorem Rel.frz {K:PySem.W.Frag}{A:Addr->Prop}{ρ:PSt}{σ:St}{H:Hp} (R:Rel K A ρ σ H) {i:Nat}{p:PV} (e:ρ[i]?=some (some p)) :
  Rel K A (ρ.set i (some (.dat p.d))) σ H/\Fr ρ σ H (ρ.set i (some (.dat p.d))) H:=by
 have hi:i < ρ.length:=(List.getElem?_eq_some_iff.mp e).1
 have ex:∀(m:Nat) (x:PV),(ρ.set i (some (.dat p.d)))[m]?=some (some x)->x.isOwn=true->m≠i/\ρ[m]?=some (some x):=fun m x em ox=>by
  by_cases z:i=m
  .subst z;rw [List.getElem?_set_self hi] at em;cases em;cases ox
  .rw [List.getElem?_set_ne z] at em;exact ⟨fun q=>z q.symm,em⟩
 have ow:∀b,Wr (ρ.set i (some (.dat p.d))) σ b->Wr ρ σ b:=fun b ⟨j,r,e1,o1,s1⟩=>⟨j,r,(ex j r e1 o1).2,o1,s1⟩
 have k:aZ (OO A ρ σ) H (OO A (ρ.set i (some (.dat p.d))) σ) H:=aZ.less fun b z=>z.imp id (ow b)
 refine ⟨⟨by rw [List.length_set];exact R.len,fun j r e1=>?_,fun j l p1 q1 v e1 e2 o1 o2 s1 s2=>R.dj j l p1 q1 v (ex j p1 e1 o1).2 (ex l q1 e2 o2).2 o1 o2 s1 s2,R.dom,fun b z w=>R.sep b z (ow b w)⟩,⟨fun _ _ _ h=>h,fun _ h=>h,ow⟩⟩
 by_cases z:i=j
 .subst z
  rw [List.getElem?_set_self hi] at e1
  cases e1
  obtain ⟨v,s,r⟩:=R.get i p e
  refine ⟨v,s,?_⟩
  have na:∀a,v=.ref a->p.isOwn=true->¬ OO A (ρ.set i (some (.dat p.d))) σ a:=fun a ea oo z=>by
   subst ea
   rcases z with z | ⟨j,r,e1,o1,s1⟩
   .exact R.sep a z ⟨i,p,e,oo,s⟩
   .obtain ⟨n1,n2⟩:=ex j r e1 o1
    exact n1 (R.dj j i r p _ n2 e o1 oo s1 s)
  cases p with
  | dat d=>exact FV.keeps k r
  | own ds =>
   obtain ⟨a,xs,rfl,g,f⟩:=r
   exact .lst (na a rfl rfl) g (f.keeps k)
  | ins c ns ds =>
   obtain ⟨a,dx,fs,rfl,g,m,f⟩:=r
   exact .obj (na a rfl rfl) g m (f.keeps k)
 .rw [List.getElem?_set_ne z] at e1
  obtain ⟨v,s,r⟩:=R.get j _ e1
  exact ⟨v,s,r.keeps k fun _ _ _=>rfl⟩
abbrev PKt:=PV->PSt->Prop
abbrev PTE:=PSt->PKt->Prop
abbrev PTT:=PSt->(Bool->PSt->Prop)->Prop
inductive AV where
 | v (d:D) | sl (i:Nat)
abbrev PA1:=PSt->(AV->PSt->Prop)->Prop
abbrev PTA:=PSt->(List AV->PSt->Prop)->Prop
def Out (K:PySem.W.Frag) (A:Addr->Prop) (ρ:PSt) (σ:St) (H0 H:Hp):PV->V->Prop
 | .dat d,v=>Rel K A ρ σ H/\FV K (OO A ρ σ) H v d
 | .own ds,v=>∃a xs,v=.ref a/\¬ A a/\H0 a=none/\H a=some (.lst xs)/\Rel K (iM A a) ρ σ H/\FVs K (OO (iM A a) ρ σ) H xs ds
 | .ins c ns ds,v=>∃a dx fs,v=.ref a/\¬ A a/\H0 a=none/\H a=some (.ins (aP K c) dx fs)/\fs.map Prod.fst=ns/\Rel K (iM A a) ρ σ H/\FVs K (OO (iM A a) ρ σ) H (fs.map Prod.snd) ds
def LE (K:PySem.W.Frag) (te:TE) (pe:PTE):Prop:=∀(A:Addr->Prop) (ρ:PSt) (σ:St) (H:Hp) (Q:PKt) (Q':VK),Rel K A ρ σ H->pe ρ Q ->
 (∀v H' p ρ',Q p ρ'->Fr ρ σ H ρ' H'->Out K A ρ' σ H H' p v->Q' v H')->te σ H Q'
def LT (K:PySem.W.Frag) (tt:TT) (pt:PTT):Prop:=∀(A:Addr->Prop) (ρ:PSt) (σ:St) (H:Hp) (Q:Bool->PSt->Prop) (Q':Bool->Hp->Prop),Rel K A ρ σ H->pt ρ Q ->
 (∀b H' ρ',Q b ρ'->Fr ρ σ H ρ' H'->Rel K A ρ' σ H'->Q' b H')->tt σ H Q'
def AOk (K:PySem.W.Frag) (O:Addr->Prop) (σ:St) (H:Hp):AV->V->Prop
 | .v d,v=>FV K O H v d
 | .sl i,v=>σ[i]?=some (some v)
def LA1 (K:PySem.W.Frag) (te:TE) (pa:PA1):Prop:=∀(A:Addr->Prop) (ρ:PSt) (σ:St) (H:Hp) (Q:AV->PSt->Prop) (Q':VK),Rel K A ρ σ H->pa ρ Q ->
 (∀v H' av ρ',Q av ρ'->Fr ρ σ H ρ' H'->Rel K A ρ' σ H'->AOk K (OO A ρ' σ) σ H' av v->Q' v H')->te σ H Q'
inductive yJ (K:PySem.W.Frag) (O:Addr->Prop) (σ:St) (H:Hp):List AV->List V->Prop
 | nil:yJ K O σ H [] []
 | cons {a:AV}{v:V}{as:List AV}{vs:List V}:AOk K O σ H a v->yJ K O σ H as vs->yJ K O σ H (a::as) (v::vs)
def LAs (K:PySem.W.Frag) (ta:TA) (pa:PTA):Prop:=∀(A:Addr->Prop) (ρ:PSt) (σ:St) (H:Hp) (Q:List AV->PSt->Prop) (Q':List V->Hp->Prop),Rel K A ρ σ H->pa ρ Q ->
 (∀vs H' as ρ',Q as ρ'->Fr ρ σ H ρ' H'->Rel K A ρ' σ H'->yJ K (OO A ρ' σ) σ H' as vs->Q' vs H')->ta σ H Q'
section
variable {K:PySem.W.Frag}{A O O':Addr->Prop}{ρ ρ':PSt}{σ:St}{H H' H0:Hp}
theorem AOk.keeps {a:AV}{v:V} (k:aZ O H O' H') (h:AOk K O σ H a v):AOk K O' σ H' a v:=by
 cases a with
 | v d=>exact FV.keeps k h
 | sl i=>exact h
theorem Out.frz {p:PV}{v:V} (h:Out K A ρ σ H0 H p v):Rel K A ρ σ H/\FV K (OO A ρ σ) H v p.d:=by
 cases p with
 | dat d=>exact h
 | own ds =>
  obtain ⟨a,xs,rfl,na,_,e,R,f⟩:=h
  refine ⟨R.less fun b z=>.inl z,.lst (fun z=>?_) e (f.keeps (aZ.less fun b z=>z.imp .inl id))⟩
  exact z.elim na (fun z=>R.sep a (.inr rfl) z)
 | ins c ns ds =>
  obtain ⟨a,dx,fs,rfl,na,_,e,m,R,f⟩:=h
  refine ⟨R.less fun b z=>.inl z,.obj (fun z=>?_) e m (f.keeps (aZ.less fun b z=>z.imp .inl id))⟩
  exact z.elim na (fun z=>R.sep a (.inr rfl) z)
theorem Out.h0 {p:PV}{v:V}{H1:Hp} (h:Out K A ρ σ H0 H p v) (dm:∀b,H1 b≠none->H0 b≠none):Out K A ρ σ H1 H p v:=by
 have k:∀a,H0 a=none->H1 a=none:=fun a e=>by
  cases z:H1 a with
  | none=>rfl
  | some o=>exact absurd e (dm a (by rw [z];exact nofun))
 cases p with
 | dat d=>exact h
 | own ds=>obtain ⟨a,xs,e1,na,e2,r⟩:=h;exact ⟨a,xs,e1,na,k a e2,r⟩
 | ins c ns ds=>obtain ⟨a,dx,fs,e1,na,e2,r⟩:=h;exact ⟨a,dx,fs,e1,na,k a e2,r⟩
def Gr (H H':Hp):Prop:=∀b o,H b=some o->H' b=some o
theorem Gr.fr (g:Gr H H'):Fr ρ σ H ρ H':=⟨fun b o _ h=>g b o h,fun b h=>by
 cases e:H b with
 | none=>exact absurd e h
 | some o=>rw [g b o e];exact nofun,fun _ h=>h⟩
theorem Gr.new {p:Addr}{o:HO} (h:H p=none):Gr H (upd H p o):=fun b u e=>by rw [ax (aN e h)];exact e
theorem Gr.refl (H:Hp):Gr H H:=fun _ _ h=>h
theorem Rel.gr (R:Rel K A ρ σ H) (g:Gr H H'):Rel K A ρ σ H':=by
 refine ⟨R.len,fun i q e=>?_,R.dj,fun b z=>(g.fr (ρ:=ρ) (σ:=σ)).dm b (R.dom b z),R.sep⟩
 obtain ⟨v,s,r⟩:=R.get i q e
 refine ⟨v,s,r.keeps (g.fr (ρ:=ρ) (σ:=σ)).keeps fun ow a ea=>?_⟩
 obtain ⟨a',u,e1,e2⟩:=r.ref ow
 rw [ea] at e1;cases e1
 rw [e2];exact g _ _ e2
theorem Rel.grA (R:Rel K A ρ σ H) (g:Gr H H') {p:Addr} (h:H p=none) (h':H' p≠none):Rel K (iM A p) ρ σ H':=by
 have k:aZ (OO A ρ σ) H (OO (iM A p) ρ σ) H':=fun b u n e=>by
  refine ⟨fun z=>?_,g _ _ e⟩
  rcases z with (z | z) | z
  .exact n (.inl z)
  .rw [z,h] at e;cases e
  .exact n (.inr z)
 refine ⟨R.len,fun i q e=>?_,R.dj,fun b z=>?_,fun b z w=>?_⟩
 .obtain ⟨v,s,r⟩:=R.get i q e
  refine ⟨v,s,r.keeps k fun ow a ea=>?_⟩
  obtain ⟨a',u,e1,e2⟩:=r.ref ow
  rw [ea] at e1;cases e1
  rw [e2];exact g _ _ e2
 .rcases z with z | z
  .exact (g.fr (ρ:=ρ) (σ:=σ)).dm b (R.dom b z)
  .rw [z];exact h'
 .rcases z with z | z
  .exact R.sep b z w
  .exact R.wr w (by rw [z];exact h)
def qj (K:PySem.W.Frag) (O:Addr->Prop) (H0 H:Hp):PV->V->Prop
 | .dat d,v=>FV K O H v d
 | .own ds,v=>∃a xs,v=.ref a/\H0 a=none/\H a=some (.lst xs)/\FVs K (iM O a) H xs ds
 | .ins c ns ds,v=>∃a dx fs,v=.ref a/\H0 a=none/\H a=some (.ins (aP K c) dx fs)/\fs.map Prod.fst=ns/\FVs K (iM O a) H (fs.map Prod.snd) ds
theorem qj.out {p:PV}{v:V} (R:Rel K A ρ σ H) (g:Gr H H') (h:qj K (OO A ρ σ) H H' p v):Out K A ρ σ H H' p v:=by
 cases p with
 | dat d=>exact ⟨R.gr g,h⟩
 | own ds =>
  obtain ⟨a,xs,rfl,e0,e,f⟩:=h
  refine ⟨a,xs,rfl,fun z=>R.dom a z e0,e0,e,R.grA g e0 (by rw [e];exact nofun),f.keeps (aZ.less fun b z=>?_)⟩
  rcases z with (z | z) | z
  .exact .inl (.inl z)
  .exact .inr z
  .exact .inl (.inr z)
 | ins c ns ds =>
  obtain ⟨a,dx,fs,rfl,e0,e,m,f⟩:=h
  refine ⟨a,dx,fs,rfl,fun z=>R.dom a z e0,e0,e,m,R.grA g e0 (by rw [e];exact nofun),f.keeps (aZ.less fun b z=>?_)⟩
  rcases z with (z | z) | z
  .exact .inl (.inl z)
  .exact .inr z
  .exact .inl (.inr z)
def FVc (K:PySem.W.Frag) (O:Addr->Prop) (H:Hp) (v:V) (d:D):Prop:=FV K O H v d\/(∃a xs ds,v=.ref a/\d=.lst ds/\H a=some (.lst xs)/\FVs K O H xs ds) \/
 ∃a dx c fs ns ds,v=.ref a/\d=.obj c ns ds/\H a=some (.ins (aP K c) dx fs)/\fs.map Prod.fst=ns/\FVs K O H (fs.map Prod.snd) ds
def cont (ρ:PSt):AV->Option D
 | .v d=>some d
 | .sl i=>match ρ[i]? with | some (some p)=>some p.d | _=>none
theorem Rel.cont {av:AV}{v:V}{d:D} (R:Rel K A ρ σ H) (h:AOk K (OO A ρ σ) σ H av v) (e:L2.cont ρ av=some d):FVc K (OO A ρ σ) H v d:=by
 cases av with
 | v d'=>cases e;exact .inl h
 | sl i =>
  have h:σ[i]?=some (some v):=h
  simp only [L2.cont] at e
  split at e
  .rename_i p ep
   cases e
   obtain ⟨v',s,r⟩:=R.get i p ep
   rw [h] at s;cases s
   cases p with
   | dat d=>exact .inl r
   | own ds=>obtain ⟨a,xs,e1,e2,f⟩:=r;exact .inr (.inl ⟨a,xs,ds,e1,rfl,e2,f⟩)
   | ins c ns ds=>obtain ⟨a,dx,fs,e1,e2,m,f⟩:=r;exact .inr (.inr ⟨a,dx,c,fs,ns,ds,e1,rfl,e2,m,f⟩)
  .cases e
theorem FVc.lst {v:V}{ds:List D} (h:FVc K O H v (.lst ds)):∃a xs,v=.ref a/\H a=some (.lst xs)/\FVs K O H xs ds:=by
 rcases h with h | ⟨a,xs,ds',e1,e2,e3,f⟩ | ⟨a,dx,c,fs,ns,ds',e1,e2,_⟩
 .cases h with
  | lst n s f=>exact ⟨_,_,rfl,s,f⟩
 .cases e2;exact ⟨a,xs,e1,e3,f⟩
 .cases e2
theorem FVc.fv {v:V}{d:D} (h:FVc K O H v d) (n:∀ds,d≠.lst ds) (n':∀c ns ds,d≠.obj c ns ds):FV K O H v d:=by
 rcases h with h | ⟨a,xs,ds',e1,e2,e3,f⟩ | ⟨a,dx,c,fs,ns,ds',e1,e2,_⟩
 .exact h
 .exact absurd e2 (n _)
 .exact absurd e2 (n' _ _ _)
theorem FVc.tup {v:V}{ds:List D} (h:FVc K O H v (.tup ds)):∃a xs,v=.ref a/\¬ O a/\H a=some (.tup xs)/\FVs K O H xs ds:=by
 cases h.fv nofun nofun with
 | tup n s f=>exact ⟨_,_,rfl,n,s,f⟩
theorem FVc.scr {v:V}{ns:List Int} (h:FVc K O H v (.scr ns)):∃a,v=.ref a/\SqL K H a (ns.map V.int):=by
 cases h.fv nofun nofun with
 | scr s=>exact ⟨_,rfl,s.sq⟩
theorem FVc.int {v:V}{i:Int} (h:FVc K O H v (.int i)):v=.int i:=by cases h.fv nofun nofun;rfl
theorem FVc.bl {v:V}{i:Bool} (h:FVc K O H v (.bl i)):v=.bl i:=by cases h.fv nofun nofun;rfl
theorem FVc.str {v:V}{i:List Nat} (h:FVc K O H v (.str i)):v=.str (S i)/\i.length<=1000000:=by
 cases h.fv nofun nofun with
 | str _ z=>exact ⟨rfl,z⟩
theorem FVc.non {v:V} (h:FVc K O H v .non):v=.non:=by cases h.fv nofun nofun;rfl
end
def pC (d:D):PTE:=fun ρ Q=>Q (.dat d) ρ
def aX (i:Nat):PTE:=fun ρ Q=>match ρ[i]? with
 | some (some (.dat d))=>Q (.dat d) ρ
 | some (some (.own ds))=>Q (.dat (.lst ds)) (ρ.set i (some (.dat (.lst ds))))
 | some (some (.ins c ns ds))=>Q (.dat (.obj c ns ds)) (ρ.set i (some (.dat (.obj c ns ds))))
 | _=>False
def pSl (i:Nat):PA1:=fun ρ Q=>match ρ[i]? with
 | some (some (.dat d))=>Q (.v d) ρ
 | some (some (.own _))=>Q (.sl i) ρ
 | some (some (.ins _ _ _))=>Q (.sl i) ρ
 | _=>False
def pFz (pe:PTE):PA1:=fun ρ Q=>pe ρ fun p ρ1=>Q (.v p.d) ρ1
def aw:PTA:=fun ρ Q=>Q [] ρ
def ac (pa:PA1) (pr:PTA):PTA:=fun ρ Q=>pa ρ fun a ρ1=>pr ρ1 fun as ρ2=>Q (a::as) ρ2
section
variable {K:PySem.W.Frag}{ta tb tc:TE}{pa pb pc:PA1}{pe pe':PTE}{tr:TA}{pr:PTA}
theorem Dl {v:V}{d:D} (h:∀O H,FV K O H v d):LE K (tC v) (pC d):=fun A ρ σ H Q Q' R q k=>k v H (.dat d) ρ q (Fr.refl _ _ _) ⟨R,h _ _⟩
theorem le_int {i:Int}:LE K (tC (.int i)) (pC (.int i)):=Dl fun _ _=>.int i
theorem gA {i:Bool}:LE K (tC (.bl i)) (pC (.bl i)):=Dl fun _ _=>.bl i
theorem yK:LE K (tC .non) (pC .non):=Dl fun _ _=>.non
theorem le_str {l:List Nat} (h:l.length<=1000000:=by decide):LE K (tC (.str (S l))) (pC (.str l)):=Dl fun _ _=>.str l h
theorem al {i:Nat}:LE K (cJ i) (aX i):=by
 intro A ρ σ H Q Q' R q k
 unfold aX at q
 split at q
 .rename_i d e
  obtain ⟨v,s,r⟩:=R.get i _ e
  exact ⟨v,s,k v H (.dat d) ρ q (Fr.refl _ _ _) ⟨R,r⟩⟩
 .rename_i ds e
  obtain ⟨R',f⟩:=R.frz e
  obtain ⟨v,s,r⟩:=R'.get i _ (List.getElem?_set_self (List.getElem?_eq_some_iff.mp e).1)
  exact ⟨v,s,k v H (.dat (.lst ds)) _ q f ⟨R',r⟩⟩
 .rename_i c ns ds e
  obtain ⟨R',f⟩:=R.frz e
  obtain ⟨v,s,r⟩:=R'.get i _ (List.getElem?_set_self (List.getElem?_eq_some_iff.mp e).1)
  exact ⟨v,s,k v H (.dat (.obj c ns ds)) _ q f ⟨R',r⟩⟩
 .exact q.elim
theorem aq {i:Nat}:LA1 K (cJ i) (pSl i):=by
 intro A ρ σ H Q Q' R q k
 unfold pSl at q
 split at q
 .rename_i d e
  obtain ⟨v,s,r⟩:=R.get i _ e
  exact ⟨v,s,k v H _ ρ q (Fr.refl _ _ _) R r⟩
 .rename_i e
  obtain ⟨v,s,r⟩:=R.get i _ e
  exact ⟨v,s,k v H _ ρ q (Fr.refl _ _ _) R s⟩
 .rename_i e
  obtain ⟨v,s,r⟩:=R.get i _ e
  exact ⟨v,s,k v H _ ρ q (Fr.refl _ _ _) R s⟩
 .exact q.elim
theorem ae (h:LE K ta pe):LA1 K ta (pFz pe):=fun A ρ σ H Q Q' R q k=>h A ρ σ H _ Q' R q fun v H' p ρ' q f o=>k v H' _ ρ' q f o.frz.1 o.frz.2
theorem af:LAs K i4 aw:=fun A ρ σ H Q Q' R q k=>k [] H [] ρ q (Fr.refl _ _ _) R .nil
theorem aa (h:LA1 K ta pa) (hr:LAs K tr pr):LAs K (bV ta tr) (ac pa pr):=fun A ρ σ H Q Q' R q k =>
 h A ρ σ H _ _ R q fun v H1 a ρ1 q1 f1 R1 o1=>hr A ρ1 σ H1 _ _ R1 q1 fun vs H2 as ρ2 q2 f2 R2 o2=>k _ H2 _ ρ2 q2 (f1.trans f2) R2 (.cons (o1.keeps f2.keeps) o2)
def LO (K:PySem.W.Frag) (r:R2) (f:D->D->(PV->Prop)->Prop):Prop:=∀(O:Addr->Prop) (H:Hp) (x y:V) (a b:D) (Q:PV->Prop) (Q':VK),(∀b,O b->H b≠none)->FVc K O H x a->FVc K O H y b->f a b Q ->
 (∀v H' p,Q p->Gr H H'->qj K O H H' p v->Q' v H')->r x y H Q'
def op2 (f:D->D->(PV->Prop)->Prop) (ρ:PSt) (x y:AV) (Q:PKt):Prop:=match cont ρ x,cont ρ y with
 | some a,some b=>f a b fun p=>Q p ρ
 | _,_=>False
def pOp (f:D->D->(PV->Prop)->Prop) (pa pb:PA1):PTE:=fun ρ Q=>pa ρ fun x ρ1=>pb ρ1 fun y ρ2=>op2 f ρ2 x y Q
theorem Rel.dom2 {A:Addr->Prop}{ρ:PSt}{σ:St}{H:Hp} (R:Rel K A ρ σ H):∀b,OO A ρ σ b->H b≠none:=fun b z=>z.elim (R.dom b) R.wr
theorem aB {r:R2}{f:D->D->(PV->Prop)->Prop} (o:LO K r f) (ha:LA1 K ta pa) (hb:LA1 K tb pb):LE K (tOp r ta tb) (pOp f pa pb):=fun A ρ σ H Q Q' R q k =>
 ha A ρ σ H _ _ R q fun v H1 a ρ1 q1 f1 R1 o1=>hb A ρ1 σ H1 _ _ R1 q1 fun w H2 b ρ2 q2 f2 R2 o2=>by
  unfold op2 at q2
  split at q2
  .rename_i da db e1 e2
   exact o _ H2 v w da db _ _ R2.dom2 (R2.cont (o1.keeps f2.keeps) e1) (R2.cont o2 e2) q2 fun z H3 p q3 g ov=>k z H3 p ρ2 q3 ((f1.trans f2).trans g.fr) ((ov.out R2 g).h0 fun b z=>f2.dm b (f1.dm b z))
  .exact q2.elim
def LU (K:PySem.W.Frag) (r:V->Hp->VK->Prop) (f:D->(PV->Prop)->Prop):Prop:=∀(O:Addr->Prop) (H:Hp) (x:V) (a:D) (Q:PV->Prop) (Q':VK),(∀b,O b->H b≠none)->FVc K O H x a->f a Q ->
 (∀v H' p,Q p->Gr H H'->qj K O H H' p v->Q' v H')->r x H Q'
def op1 (f:D->(PV->Prop)->Prop) (ρ:PSt) (x:AV) (Q:PKt):Prop:=match cont ρ x with
 | some a=>f a fun p=>Q p ρ
 | _=>False
def pUn (f:D->(PV->Prop)->Prop) (pa:PA1):PTE:=fun ρ Q=>pa ρ fun x ρ1=>op1 f ρ1 x Q
theorem xz {r:V->Hp->VK->Prop}{f:D->(PV->Prop)->Prop} (o:LU K r f) (ha:LA1 K ta pa):LE K (tUn r ta) (pUn f pa):=fun A ρ σ H Q Q' R q k =>
 ha A ρ σ H _ _ R q fun v H1 a ρ1 q1 f1 R1 o1=>by
  unfold op1 at q1
  split at q1
  .rename_i da e1
   exact o _ H1 v da _ _ R1.dom2 (R1.cont o1 e1) q1 fun z H3 p q3 g ov=>k z H3 p ρ1 q3 (f1.trans g.fr) ((ov.out R1 g).h0 fun b z=>f1.dm b z)
  .exact q1.elim
inductive Bh (K:PySem.W.Frag) (O:Addr->Prop) (H:Hp):List V->List D->Prop
 | nil:Bh K O H [] []
 | cons {x:V}{d:D}{xs:List V}{ds:List D}:FVc K O H x d->Bh K O H xs ds->Bh K O H (x::xs) (d::ds)
def conts (ρ:PSt):List AV->Option (List D)
 | []=>some []
 | a::r=>match cont ρ a,conts ρ r with
  | some d,some ds=>some (d::ds)
  | _,_=>none
theorem Rel.conts {A:Addr->Prop}{ρ:PSt}{σ:St}{H:Hp} (R:Rel K A ρ σ H):∀{as:List AV}{vs:List V}{ds:List D},yJ K (OO A ρ σ) σ H as vs->L2.conts ρ as=some ds->Bh K (OO A ρ σ) H vs ds
 | _,_,_,.nil,e=>by cases e;exact .nil
 | _,_,_,.cons a b,e=>by
  unfold L2.conts at e
  split at e
  .rename_i e1 e2
   cases e
   exact .cons (R.cont a e1) (R.conts b e2)
  .cases e
def LC (K:PySem.W.Frag) (r:List V->Hp->VK->Prop) (f:List D->(PV->Prop)->Prop):Prop:=∀(O:Addr->Prop) (H:Hp) (xs:List V) (as:List D) (Q:PV->Prop) (Q':VK),(∀b,O b->H b≠none)->Bh K O H xs as->f as Q ->
 (∀v H' p,Q p->Gr H H'->qj K O H H' p v->Q' v H')->r xs H Q'
def opN (f:List D->(PV->Prop)->Prop) (ρ:PSt) (as:List AV) (Q:PKt):Prop:=match conts ρ as with
 | some ds=>f ds fun p=>Q p ρ
 | _=>False
def pCB (f:List D->(PV->Prop)->Prop) (pr:PTA):PTE:=fun ρ Q=>pr ρ fun as ρ1=>opN f ρ1 as Q
theorem bt {r:List V->Hp->VK->Prop}{f:List D->(PV->Prop)->Prop} (o:LC K r f) (ha:LAs K tr pr):LE K (tCB r tr) (pCB f pr):=fun A ρ σ H Q Q' R q k =>
 ha A ρ σ H _ _ R q fun vs H1 as ρ1 q1 f1 R1 o1=>by
  unfold opN at q1
  split at q1
  .rename_i ds e1
   exact o _ H1 vs ds _ _ R1.dom2 (R1.conts o1 e1) q1 fun z H3 p q3 g ov=>k z H3 p ρ1 q3 (f1.trans g.fr) ((ov.out R1 g).h0 fun b z=>f1.dm b z)
  .exact q1.elim
def avD:List AV->Option (List D)
 | []=>some []
 | .v d::r=>match avD r with | some ds=>some (d::ds) | none=>none
 | .sl _::_=>none
theorem yJ.avD {O:Addr->Prop}{σ:St}{H:Hp}:∀{as:List AV}{vs:List V}{ds:List D},yJ K O σ H as vs->L2.avD as=some ds->FVs K O H vs ds
 | _,_,_,.nil,e=>by cases e;exact .nil
 | .v d::r,_,_,.cons a b,e=>by
  simp only [L2.avD] at e
  split at e
  .rename_i e1;cases e;exact .cons a (b.avD e1)
  .cases e
 | .sl i::r,_,_,.cons a b,e=>by cases e
def pf (pr:PTA):PTE:=fun ρ Q=>pr ρ fun as ρ1=>match avD as with
 | some ds=>ds.length<=1000000/\Q (.own ds) ρ1
 | _=>False
def Ci (pr:PTA):PTE:=fun ρ Q=>pr ρ fun as ρ1=>match avD as with
 | some ds=>ds.length<=1000000/\Q (.dat (.tup ds)) ρ1
 | _=>False
theorem ei (ha:LAs K tr pr):LE K (EU tr) (pf pr):=fun A ρ σ H Q Q' R q k =>
 ha A ρ σ H _ _ R q fun vs H1 as ρ1 q1 f1 R1 o1=>by
  split at q1
  .rename_i ds e1
   have fs:=o1.avD e1
   refine ⟨sz _ (by rw [fs.length];exact q1.1),fun p hp=>k _ _ (.own ds) ρ1 q1.2 (f1.trans (Fr.new hp)) ?_⟩
   have g:Gr H1 (upd H1 p (.lst vs)):=Gr.new hp
   exact (qj.out (p:=.own ds) R1 g ⟨p,vs,rfl,hp,aF,fs.keeps (aZ.fresh hp)⟩).h0 fun b z=>f1.dm b z
  .exact q1.elim
theorem r8 (ha:LAs K tr pr):LE K (DK tr) (Ci pr):=fun A ρ σ H Q Q' R q k =>
 ha A ρ σ H _ _ R q fun vs H1 as ρ1 q1 f1 R1 o1=>by
  split at q1
  .rename_i ds e1
   have fs:=o1.avD e1
   refine ⟨sz _ (by rw [fs.length];exact q1.1),fun p hp=>k _ _ (.dat (.tup ds)) ρ1 q1.2 (f1.trans (Fr.new hp)) ⟨R1.grow hp,?_⟩⟩
   exact .tup (R1.oo hp) aF (fs.keeps (Fr.new hp).keeps)
  .exact q1.elim
def pB (pe:PTE):PTT:=fun ρ Q=>pe ρ fun p ρ1=>match p with
 | .dat (.bl b)=>Q b ρ1
 | _=>False
theorem tX (h:LE K ta pe):LT K (tB ta) (pB pe):=fun A ρ σ H Q Q' R q k=>h A ρ σ H _ _ R q fun v H1 p ρ1 q1 f1 o1=>by
 split at q1
 .rename_i b
  obtain ⟨R1,f⟩:=o1
  cases f
  exact ⟨b,rfl,k b H1 ρ1 q1 f1 R1⟩
 .exact q1.elim
theorem gX (h:LE K ta pe):LT K (qq ta) (pB pe):=tX h
def Bi (a b:PTT):PTT:=fun ρ Q=>a ρ fun c ρ1=>iW c (b ρ1 Q) (Q false ρ1)
def pOr (a b:PTT):PTT:=fun ρ Q=>a ρ fun c ρ1=>iW c (Q true ρ1) (b ρ1 Q)
def wG (a:PTT):PTT:=fun ρ Q=>a ρ fun c ρ1=>Q (!c) ρ1
variable {tta ttb:TT}{pta ptb:PTT}
theorem pj (ha:LT K tta pta) (hb:LT K ttb ptb):LT K (Dv tta ttb) (Bi pta ptb):=fun A ρ σ H Q Q' R q k=>ha A ρ σ H _ _ R q fun c H1 ρ1 q1 f1 R1=>by
 cases c with
 | true=>exact hb A ρ1 σ H1 _ _ R1 q1 fun b H2 ρ2 q2 f2 R2=>k b H2 ρ2 q2 (f1.trans f2) R2
 | false=>exact k false H1 ρ1 q1 f1 R1
theorem nq (ha:LT K tta pta) (hb:LT K ttb ptb):LT K (tOr tta ttb) (pOr pta ptb):=fun A ρ σ H Q Q' R q k=>ha A ρ σ H _ _ R q fun c H1 ρ1 q1 f1 R1=>by
 cases c with
 | false=>exact hb A ρ1 σ H1 _ _ R1 q1 fun b H2 ρ2 q2 f2 R2=>k b H2 ρ2 q2 (f1.trans f2) R2
 | true=>exact k true H1 ρ1 q1 f1 R1
theorem je (ha:LT K tta pta):LT K (EM tta) (wG pta):=fun A ρ σ H Q Q' R q k=>ha A ρ σ H _ _ R q fun c H1 ρ1 q1 f1 R1=>k _ H1 ρ1 q1 f1 R1
def j1 (a b:PTE):PTE:=fun ρ Q=>a ρ fun p ρ1=>match p with
 | .dat (.bl c)=>iW c (b ρ1 Q) (Q (.dat (.bl false)) ρ1)
 | _=>False
def va (a:PTE):PTE:=fun ρ Q=>a ρ fun p ρ1=>match p with
 | .dat (.bl c)=>Q (.dat (.bl (!c))) ρ1
 | _=>False
theorem gB (ha:LE K ta pe) (hb:LE K tb pe'):LE K (By ta tb) (j1 pe pe'):=fun A ρ σ H Q Q' R q k=>ha A ρ σ H _ _ R q fun v H1 p ρ1 q1 f1 o1=>by
 split at q1
 .rename_i c
  obtain ⟨R1,f⟩:=o1
  cases f
  refine ⟨c,rfl,?_⟩
  cases c with
  | true=>exact hb A ρ1 σ H1 _ _ R1 q1 fun b H2 p2 ρ2 q2 f2 o2=>k b H2 p2 ρ2 q2 (f1.trans f2) (o2.h0 fun b z=>f1.dm b z)
  | false=>exact k _ H1 _ ρ1 q1 f1 ⟨R1,.bl false⟩
 .exact q1.elim
theorem r9 (ha:LE K ta pe):LE K (Bz ta) (va pe):=fun A ρ σ H Q Q' R q k=>ha A ρ σ H _ _ R q fun v H1 p ρ1 q1 f1 o1=>by
 split at q1
 .rename_i c
  obtain ⟨R1,f⟩:=o1
  cases f
  exact ⟨c,rfl,k _ H1 _ ρ1 q1 f1 ⟨R1,.bl (!c)⟩⟩
 .exact q1.elim
end
abbrev F2:=D->D->(PV->Prop)->Prop
def fI0 (g:Int->Int->D):F2
 | .int i,.int j,Q=>Q (.dat (g i j))
 | _,_,_=>False
def fI (C:Int->Int->Prop) (g:Int->Int->D):F2
 | .int i,.int j,Q=>C i j/\Q (.dat (g i j))
 | _,_,_=>False
section
variable {K:PySem.W.Frag}{X:Cx}
theorem Ad {g:Int->Int->V}{g':Int->Int->D} (h:∀i j O H,FV K O H (g i j) (g' i j)):LO K (rI0 g) (fI0 g'):=by
 intro O H x y a b Q Q' dom fx fy q k
 unfold fI0 at q
 split at q
 .rename_i i j;exact ⟨i,j,fx.int,fy.int,k _ H _ q (Gr.refl _) (h i j _ _)⟩
 .exact q.elim
theorem D2 {C:Int->Int->Prop}{g:Int->Int->V}{g':Int->Int->D} (h:∀i j O H,FV K O H (g i j) (g' i j)):LO K (rI C g) (fI C g'):=by
 intro O H x y a b Q Q' dom fx fy q k
 unfold fI at q
 split at q
 .rename_i i j;exact ⟨i,j,fx.int,fy.int,q.1,k _ H _ q.2 (Gr.refl _) (h i j _ _)⟩
 .exact q.elim
theorem d7 {O:Addr->Prop}{H:Hp}{xs:List V}{ds:List D}{p:Addr} (hp:H p=none) (f:FVs K O H xs ds):qj K O H (upd H p (.lst xs)) (.own ds) (.ref p) :=
 ⟨p,xs,rfl,hp,aF,f.keeps (aZ.fresh hp)⟩
theorem kB {O:Addr->Prop}{H:Hp}{xs:List V}{ds:List D}{p:Addr} (dom:∀b,O b->H b≠none) (hp:H p=none) (f:FVs K O H xs ds):qj K O H (upd H p (.tup xs)) (.dat (.tup ds)) (.ref p) :=
 .tup (fun z=>dom p z hp) aF (f.keeps fun b o n e=>⟨n,by rw [ax (aN e hp)];exact e⟩)
def D3:R2:=fun x y H Q=>∃i j,x=.str (S i)/\y=.str (S j)/\i.length + j.length<=sizeLine/\Q (.str (S (i++j))) H
def Ae (K:PySem.W.Frag):R2:=fun x y H Q=>rI0 (fun i j=>.int (i + j)) x y H Q\/D3 x y H Q\/Ca K x y H Q\/BJ K x y H Q
theorem D4 (K:PySem.W.Frag) (e:X.K=K):OpR X (binaryOp .Add) (Ae K):=by
 subst e
 exact OpR.or BC (OpR.or zQ (OpR.or zX zH))
def D5:F2
 | .int i,.int j,Q=>Q (.dat (.int (i + j)))
 | .str a,.str b,Q=>a.length + b.length<=1000000/\Q (.dat (.str (a++b)))
 | .lst a,.lst b,Q=>a.length + b.length<=1000000/\Q (.own (a++b))
 | .scr a,.lst b,Q=>a.length + b.length<=1000000/\Q (.own (a.map .int++b))
 | .tup a,.tup b,Q=>a≠[]/\a.length + b.length<=1000000/\Q (.dat (.tup (a++b)))
 | _,_,_=>False
theorem yL:LO K (Ae K) D5:=by
 intro O H x y a b Q Q' dom fx fy q k
 unfold D5 at q
 split at q
 .rename_i i j;exact .inl ⟨i,j,fx.int,fy.int,k _ H _ q (Gr.refl _) (.int _)⟩
 .rename_i i j;exact .inr (.inl ⟨i,j,fx.str.1,fy.str.1,sz _ q.1,k _ H _ q.2 (Gr.refl _) (.str _ (by rw [List.length_append];exact q.1))⟩)
 .rename_i i j
  obtain ⟨a,xs,rfl,e1,f1⟩:=fx.lst
  obtain ⟨b,ys,rfl,e2,f2⟩:=fy.lst
  exact .inr (.inr (.inl ⟨a,b,xs,ys,rfl,rfl,SqL.of e1,SqL.of e2,sz _ (by rw [f1.length,f2.length];exact q.1),fun p hp=>k _ _ _ q.2 (Gr.new hp) (d7 hp (f1.append f2))⟩))
 .rename_i i j
  obtain ⟨a,rfl,e1⟩:=fx.scr
  obtain ⟨b,ys,rfl,e2,f2⟩:=fy.lst
  exact .inr (.inr (.inl ⟨a,b,_,ys,rfl,rfl,e1,SqL.of e2,sz _ (by rw [List.length_map,f2.length];exact q.1),fun p hp=>k _ _ _ q.2 (Gr.new hp) (d7 hp ((FVs.of_ints i).append f2))⟩))
 .rename_i i j
  obtain ⟨a,xs,rfl,n1,e1,f1⟩:=fx.tup
  obtain ⟨b,ys,rfl,n2,e2,f2⟩:=fy.tup
  have l1:=f1.length
  have l2:=f2.length
  refine .inr (.inr (.inr ⟨a,b,xs,ys,rfl,rfl,SqT.of e1,SqT.of e2,fun z=>q.1 ?_,sz _ (by rw [l1,l2];exact q.2.1),fun z=>?_,fun _ p hp=>k _ _ _ q.2.2 (Gr.new hp) (kB dom hp (f1.append f2))⟩))
  .exact List.length_eq_zero_iff.mp (by rw [<- l1,z];rfl)
  .have:j=[]:=List.length_eq_zero_iff.mp (by rw [<- l2,z];rfl)
   subst this
   exact k _ H _ q.2.2 (Gr.refl _) (by rw [List.append_nil];exact .tup n1 e1 f1)
 .exact q.elim
theorem jQ:LO K (rI0 fun i j=>.int (i - j)) (fI0 fun i j=>.int (i - j)):=Ad fun _ _ _ _=>.int _
theorem mn:LO K (rI (fun _ j=>0 < j) fun i j=>.int (i % j)) (fI (fun _ j=>0 < j) fun i j=>.int (i % j)):=D2 fun _ _ _ _=>.int _
theorem vb:LO K (rI DC fun i j=>.int (i / j)) (fI (fun _ j=>0 < j/\j < 1073741824) fun i j=>.int (i / j)):=D2 fun _ _ _ _=>.int _
theorem Cj:LO K (rI DD fun i j=>.int (i ^ j.toNat)) (fI (fun i j=>0<=j/\j<=1000000/\i.natAbs < 2 ^ 64) fun i j=>.int (i ^ j.toNat)):=D2 fun _ _ _ _=>.int _
def D6:R2:=fun x y H Q=>∃l n,x=.str (S l)/\y=.int n/\-1000000<=n/\n<=1000000/\n.toNat * l.length<=sizeLine/\Q (.str (S (sY l n))) H
def Ck:R2:=fun x y H Q=>rI Dh (fun i j=>.int (i * j)) x y H Q\/D6 x y H Q\/EZ x y H Q
theorem lJ:OpR X (binaryOp .Mult) Ck:=OpR.or BE (OpR.or sZ BP)
def tY:F2
 | .int i,.int j,Q=>((-(2 ^ 64) < i/\i < 2 ^ 64)\/(-(2 ^ 64) < j/\j < 2 ^ 64))/\Q (.dat (.int (i * j)))
 | .str a,.int n,Q=>(-1000000<=n/\n<=1000000/\n.toNat * a.length<=1000000)/\Q (.dat (.str (sY a n)))
 | .lst a,.int n,Q=>(-1000000<=n/\n<=1000000/\a.length * n.toNat<=1000000)/\Q (.own (sY a n))
 | _,_,_=>False
theorem FVs.rep {O:Addr->Prop}{H:Hp}{xs:List V}{ds:List D} (f:FVs K O H xs ds):∀n,FVs K O H (List.replicate n xs).flatten (List.replicate n ds).flatten
 | 0=>.nil
 | n + 1=>by rw [List.replicate_succ,List.replicate_succ,List.flatten_cons,List.flatten_cons];exact f.append (f.rep n)
theorem ii:LO K Ck tY:=by
 intro O H x y a b Q Q' dom fx fy q k
 unfold tY at q
 split at q
 .rename_i i j;exact .inl ⟨i,j,fx.int,fy.int,q.1,k _ H _ q.2 (Gr.refl _) (.int _)⟩
 .rename_i i j;exact .inr (.inl ⟨i,j,fx.str.1,fy.int,q.1.1,q.1.2.1,sz _ q.1.2.2,k _ H _ q.2 (Gr.refl _) (.str _ (by rw [qv];exact q.1.2.2))⟩)
 .rename_i i j
  obtain ⟨a,xs,rfl,e1,f1⟩:=fx.lst
  exact .inr (.inr ⟨a,j,xs,rfl,fy.int,e1,by omega,by omega,sz _ (by rw [f1.length];exact q.1.2.2),fun p hp=>k _ _ _ q.2 (Gr.new hp) (d7 hp (f1.rep _))⟩)
 .exact q.elim
def E4:R2:=fun x y H Q=>rI0 (fun i j=>.bl (decide (i < j))) x y H Q\/∃i j,x=.str i/\y=.str j/\Q (.bl (decide (i.cps.toList < j.cps.toList))) H
def Dm:R2:=fun x y H Q=>rI0 (fun i j=>.bl (decide (i<=j))) x y H Q\/∃i j,x=.str i/\y=.str j/\Q (.bl (!decide (j.cps.toList < i.cps.toList))) H
theorem D7:OpR X (compareOp .Lt) E4:=OpR.or DG uf
theorem Dn:OpR X (compareOp .LtE) Dm:=OpR.or DH uC
def fLt:F2
 | .int i,.int j,Q=>Q (.dat (.bl (decide (i < j))))
 | .str i,.str j,Q=>Q (.dat (.bl (decide (i < j))))
 | _,_,_=>False
def fLe:F2
 | .int i,.int j,Q=>Q (.dat (.bl (decide (i<=j))))
 | .str i,.str j,Q=>Q (.dat (.bl (!decide (j < i))))
 | _,_,_=>False
theorem Af:LO K E4 fLt:=by
 intro O H x y a b Q Q' dom fx fy q k
 unfold fLt at q
 split at q
 .rename_i i j;exact .inl ⟨i,j,fx.int,fy.int,k _ H _ q (Gr.refl _) (.bl _)⟩
 .rename_i i j;exact .inr ⟨_,_,fx.str.1,fy.str.1,k _ H _ q (Gr.refl _) (.bl _)⟩
 .exact q.elim
theorem xA:LO K Dm fLe:=by
 intro O H x y a b Q Q' dom fx fy q k
 unfold fLe at q
 split at q
 .rename_i i j;exact .inl ⟨i,j,fx.int,fy.int,k _ H _ q (Gr.refl _) (.bl _)⟩
 .rename_i i j;exact .inr ⟨_,_,fx.str.1,fy.str.1,k _ H _ q (Gr.refl _) (.bl _)⟩
 .exact q.elim
theorem tq:LO K (rI0 fun i j=>.bl (decide (j < i))) (fI0 fun i j=>.bl (decide (j < i))):=Ad fun _ _ _ _=>.bl _
theorem Cm:LO K (rI0 fun i j=>.bl (decide (j<=i))) (fI0 fun i j=>.bl (decide (j<=i))):=Ad fun _ _ _ _=>.bl _
mutual
def D.py:D->PyData
 | .non=>.none | .bl b=>.bool b | .int i=>.int i | .str l=>.str (S l) | .ty _=>.none
 | .lst ds=>.list (D.pys ds) | .tup ds=>.tuple (D.pys ds) | .scr ns=>.list (ns.map .int) | .dic _ _=>.none | .obj _ _ _=>.none | .exc _ _ _=>.none
def D.pys:List D->List PyData
 | []=>[]
 | d::r=>d.py::D.pys r
end
mutual
def D.plain:D->Bool
 | .non=>true | .bl _=>true | .int _=>true | .str _=>true | .ty _=>false
 | .lst ds=>D.plains ds | .tup ds=>D.plains ds | .scr _=>true | .dic _ _=>false | .obj _ _ _=>false | .exc _ _ _=>false
def D.plains:List D->Bool
 | []=>true
 | d::r=>d.plain && D.plains r
end
mutual
theorem FV.dv {O:Addr->Prop}{H:Hp}:∀{v:V}{d:D},FV K O H v d->d.plain=true->DV K H v d.py
 | _,_,.non,_=>.non
 | _,_,.bl b,_=>.bl b
 | _,_,.int i,_=>.int i
 | _,_,.str l h,_=>.str (S l)
 | _,_,.ty n,p=>nomatch p
 | _,_,.scr s,_=>.lst s.sq (DVs.ints _)
 | _,_,.lst n e f,p=>.lst (SqL.of e) (FVs.dvs f p)
 | _,_,.tup n e f,p=>.tup (SqT.of e) (FVs.dvs f p)
 | _,_,.dic _ _ _ _,p=>nomatch p
 | _,_,.obj _ _ _ _,p=>nomatch p
 | _,_,.exc0 _ _,p=>nomatch p
 | _,_,.exc1 _ _ _ _ _ _,p=>nomatch p
theorem FVs.dvs {O:Addr->Prop}{H:Hp}:∀{vs:List V}{ds:List D},FVs K O H vs ds->D.plains ds=true->DVs K H vs (D.pys ds)
 | _,_,.nil,_=>.nil
 | _,_,.cons a b,p=>by
  have p:(_ && _)=true:=p
  rw [Bool.and_eq_true] at p
  exact .cons (FV.dv a p.1) (FVs.dvs b p.2)
end
theorem FVc.dv {O:Addr->Prop}{H:Hp}{v:V}{d:D} (h:FVc K O H v d) (p:d.plain=true):DV K H v d.py:=by
 rcases h with h | ⟨a,xs,ds',rfl,rfl,e3,f⟩ | ⟨a,dx,c,fs,ns,ds',e1,rfl,_⟩
 .exact h.dv p
 .exact .lst (SqL.of e3) (f.dvs p)
 .cases p
def Cn (K:PySem.W.Frag) (neg:Bool):R2:=fun x y H Q=>rI0 (fun i j=>.bl (if neg then !decide (i=j) else decide (i=j))) x y H Q\/(∃i j,x=.str (S i)/\y=.str (S j)/\Q (.bl (if neg then !decide (i=j) else decide (i=j))) H)\/DO K neg x y H Q
theorem FA (K:PySem.W.Frag) (e:X.K=K) (hu:X.A.units + 64 < cLine):OpR X (compareOp .Eq) (Cn K false):=by
 subst e
 exact OpR.or B2 (OpR.or B0 (BX hu))
theorem FC (K:PySem.W.Frag) (e:X.K=K) (hu:X.A.units + 64 < cLine):OpR X (compareOp .NotEq) (Cn K true):=by
 subst e
 exact OpR.or B3 (OpR.or B1 (BY hu))
def Ag (a b:D):Prop:=a.plain=true/\b.plain=true/\SeqAt.shaped a.py=true/\SeqAt.shaped b.py=true
def deq (a b:D):Bool:=PyData.eqv a.py b.py
def fEq:F2
 | .int i,.int j,Q=>Q (.dat (.bl (decide (i=j))))
 | .str i,.str j,Q=>Q (.dat (.bl (decide (i=j))))
 | a,b,Q=>Ag a b/\Q (.dat (.bl (deq a b)))
def fNe:F2
 | .int i,.int j,Q=>Q (.dat (.bl (!decide (i=j))))
 | .str i,.str j,Q=>Q (.dat (.bl (!decide (i=j))))
 | a,b,Q=>Ag a b/\Q (.dat (.bl (!deq a b)))
theorem D8:LO K (Cn K false) fEq:=by
 intro O H x y a b Q Q' dom fx fy q k
 unfold fEq at q
 split at q
 .rename_i i j;exact .inl ⟨i,j,fx.int,fy.int,k _ H _ q (Gr.refl _) (.bl _)⟩
 .rename_i i j;exact .inr (.inl ⟨i,j,fx.str.1,fy.str.1,k _ H _ q (Gr.refl _) (.bl _)⟩)
 .exact .inr (.inr ⟨_,_,fx.dv q.1.1,fy.dv q.1.2.1,q.1.2.2.1,q.1.2.2.2,k _ H _ q.2 (Gr.refl _) (.bl _)⟩)
theorem D9:LO K (Cn K true) fNe:=by
 intro O H x y a b Q Q' dom fx fy q k
 unfold fNe at q
 split at q
 .rename_i i j;exact .inl ⟨i,j,fx.int,fy.int,k _ H _ q (Gr.refl _) (.bl _)⟩
 .rename_i i j;exact .inr (.inl ⟨i,j,fx.str.1,fy.str.1,k _ H _ q (Gr.refl _) (.bl _)⟩)
 .exact .inr (.inr ⟨_,_,fx.dv q.1.1,fy.dv q.1.2.1,q.1.2.2.1,q.1.2.2.2,k _ H _ q.2 (Gr.refl _) (.bl _)⟩)
def E5 (neg:Bool):R2:=fun x y H Q=>(∃b c,x=.bl b/\y=.bl c/\Q (.bl (if neg then !decide (b=c) else decide (b=c))) H)\/(y=.non/\Q (.bl (if neg then !decide (x=.non) else decide (x=.non))) H)
theorem qE:OpR X (compareOp .IsNot) (E5 true):=OpR.or uV zu
def D.isNon:D->Bool
 | .non=>true
 | _=>false
theorem FVc.isNon {O:Addr->Prop}{H:Hp}{v:V}{d:D} (h:FVc K O H v d):decide (v=.non)=d.isNon:=by
 rcases h with h | ⟨a,xs,ds',rfl,rfl,e3,f⟩ | ⟨a,dx,c,fs,ns,ds',rfl,rfl,_⟩
 .cases h <;> rfl
 .rfl
 .rfl
def fIs (neg:Bool):F2
 | .bl b,.bl c,Q=>Q (.dat (.bl (if neg then !decide (b=c) else decide (b=c))))
 | a,.non,Q=>Q (.dat (.bl (if neg then !a.isNon else a.isNon)))
 | _,_,_=>False
theorem Ah {neg:Bool}:LO K (E5 neg) (fIs neg):=by
 intro O H x y a b Q Q' dom fx fy q k
 unfold fIs at q
 split at q
 .rename_i b c;exact .inl ⟨b,c,fx.bl,fy.bl,k _ H _ q (Gr.refl _) (.bl _)⟩
 .exact .inr ⟨fy.non,by rw [fx.isNon];exact k _ H _ q (Gr.refl _) (.bl _)⟩
 .exact q.elim
def D.fl:D->Bool
 | .non=>true | .bl _=>true | .int _=>true | .str _=>true
 | _=>false
def eqF:D->D->Bool
 | .non,.non=>true
 | .bl a,.bl b=>a == b
 | .bl a,.int b=>(if a then 1 else 0) == b
 | .int a,.bl b=>a == (if b then 1 else 0)
 | .int a,.int b=>a == b
 | .str a,.str b=>a == b
 | _,_=>false
def inD (x:D) (xs:List D):Bool:=xs.any fun y=>eqF y x
theorem FV.fl {O:Addr->Prop}{H:Hp}{v:V}{d:D} (h:FV K O H v d) (f:d.fl=true):lI v=true:=by cases h <;> first | rfl | cases f
theorem Co (a b:List Nat):(S a == S b)=(a == b):=by
 by_cases h:a=b
 .subst h;rw [beq_self_eq_true,beq_self_eq_true]
 .rw [beq_eq_false_iff_ne.mpr h,beq_eq_false_iff_ne.mpr (Fy h)]
theorem FV.eqF {O:Addr->Prop}{H:Hp}{v w:V}{d e:D} (h:FV K O H v d) (f:d.fl=true) (h':FV K O H w e) (f':e.fl=true):eqV v w=L2.eqF d e:=by
 cases h <;> first | (cases f;done) | (cases h' <;> first | (cases f';done) | rfl | exact Co _ _)
theorem FVs.inD {O:Addr->Prop}{H:Hp}{v:V}{d:D} (h:FV K O H v d) (f:d.fl=true):∀{xs:List V}{ds:List D},FVs K O H xs ds->ds.all D.fl=true->xs.all lI=true/\inV v xs=L2.inD d ds
 | _,_,.nil,_=>⟨rfl,rfl⟩
 | _,_,.cons a b,g=>by
  rw [List.all_cons,Bool.and_eq_true] at g
  obtain ⟨i1,i2⟩:=b.inD h f g.2
  refine ⟨by rw [List.all_cons,a.fl g.1,i1];rfl,?_⟩
  unfold inV L2.inD at i2 ⊢
  rw [List.any_cons,List.any_cons,i2,a.eqF g.1 h f]
def fIn (neg:Bool):F2
 | a,.lst ds,Q=>(a.fl=true/\ds.all D.fl=true)/\Q (.dat (.bl (if neg then !inD a ds else inD a ds)))
 | a,.tup ds,Q=>(a.fl=true/\ds.all D.fl=true)/\Q (.dat (.bl (if neg then !inD a ds else inD a ds)))
 | _,_,_=>False
theorem FVc.fl {O:Addr->Prop}{H:Hp}{v:V}{d:D} (h:FVc K O H v d) (f:d.fl=true):FV K O H v d:=h.fv (fun _ z=>by rw [z] at f;cases f) (fun _ _ _ z=>by rw [z] at f;cases f)
theorem FD (K:PySem.W.Frag) (e:X.K=K):OpR X (compareOp .In) (rIn K false):=by subst e;exact ur
theorem Aj (K:PySem.W.Frag) (e:X.K=K):OpR X (compareOp .NotIn) (rIn K true):=by subst e;exact oQ
theorem Cp {neg:Bool}:LO K (rIn K neg) (fIn neg):=by
 intro O H x y a b Q Q' dom fx fy q k
 unfold fIn at q
 split at q
 .obtain ⟨p,xs,rfl,e1,f1⟩:=fy.lst
  obtain ⟨g1,g2⟩:=f1.inD (fx.fl q.1.1) q.1.1 q.1.2
  exact ⟨p,xs,rfl,.inl (SqL.of e1),(fx.fl q.1.1).fl q.1.1,g1,by rw [g2];exact k _ H _ q.2 (Gr.refl _) (.bl _)⟩
 .obtain ⟨p,xs,rfl,n1,e1,f1⟩:=fy.tup
  obtain ⟨g1,g2⟩:=f1.inD (fx.fl q.1.1) q.1.1 q.1.2
  exact ⟨p,xs,rfl,.inr (SqT.of e1),(fx.fl q.1.1).fl q.1.1,g1,by rw [g2];exact k _ H _ q.2 (Gr.refl _) (.bl _)⟩
 .exact q.elim
def xB (K:PySem.W.Frag):R2:=fun x y H Q=>EW K x y H Q\/EX K x y H Q\/BZ x y H Q
theorem ic (K:PySem.W.Frag) (e:X.K=K):IxR X (xB K):=by
 subst e
 exact IxR.or zK (IxR.or BK zP)
def fIx:F2
 | .lst ds,.int i,Q=>∃d,atI ds i=some d/\Q (.dat d)
 | .tup ds,.int i,Q=>∃d,atI ds i=some d/\Q (.dat d)
 | .scr ns,.int i,Q=>∃d,atI ns i=some d/\Q (.dat (.int d))
 | .str l,.int i,Q=>∃c,atI l i=some c/\Q (.dat (.str [c]))
 | _,_,_=>False
theorem FVs.atI {O:Addr->Prop}{H:Hp}{vs:List V}{ds:List D}{i:Int}{d:D} (f:FVs K O H vs ds) (h:L2.atI ds i=some d):∃v,L2.atI vs i=some v/\FV K O H v d:=by
 unfold L2.atI at h ⊢
 rw [f.length]
 cases e:ixN ds.length i with
 | none=>rw [e] at h;cases h
 | some j=>rw [e] at h;exact f.getD h
theorem cS:LO K (xB K) fIx:=by
 intro O H x y a b Q Q' dom fx fy q k
 unfold fIx at q
 split at q
 .obtain ⟨d,hd,q⟩:=q
  obtain ⟨p,xs,rfl,e1,f1⟩:=fx.lst
  obtain ⟨v,hv,fv⟩:=f1.atI hd
  exact .inl ⟨p,xs,_,v,rfl,fy.int,SqL.of e1,hv,k _ H _ q (Gr.refl _) fv⟩
 .obtain ⟨d,hd,q⟩:=q
  obtain ⟨p,xs,rfl,n1,e1,f1⟩:=fx.tup
  obtain ⟨v,hv,fv⟩:=f1.atI hd
  exact .inr (.inl ⟨p,xs,_,v,rfl,fy.int,SqT.of e1,hv,k _ H _ q (Gr.refl _) fv⟩)
 .obtain ⟨d,hd,q⟩:=q
  obtain ⟨p,rfl,e1⟩:=fx.scr
  exact .inl ⟨p,_,_,_,rfl,fy.int,e1,zR hd,k _ H _ q (Gr.refl _) (.int d)⟩
 .obtain ⟨c,hc,q⟩:=q
  exact .inr (.inr ⟨_,_,c,fx.str.1,fy.int,sz _ fx.str.2,hc,k _ H _ q (Gr.refl _) (.str _ (by show 1<=1000000;decide))⟩)
 .exact q.elim
end
end L2
namespace L2
open PySem PySem.Spec PyProof.Rows _root_.HT
section
variable {prog:Program}{w:World}{A:Around}{E:Value->Shared->Prop}{s:Shared}
theorem jq {t sl:Addr}{items:Array Value}{vl vu:Value}{lo hi:Option Int}{Q:Value->Shared->Prop} (ht:IsTup s.heap t items) (hs:s.heap.IsSliceOf sl vl vu .none) (pl:IsPart vl lo) (pu:IsPart vu hi)
  (hw:sIx items.size 0 lo=0/\sIx items.size items.size hi=items.size)
  (h:Q (.ref t) s):wpAny (model prog w) A (getItem (.ref t) (.ref sl)) Q E s:=by
 obtain ⟨os,hos,hcs,hds⟩:=id hs
 have hTs:s.TypeIs (.ref sl) "slice":=⟨os,hos,hcs⟩
 unfold getItem
 try with_reducible refine wpAny_holding ?_
 first | refine wpAny_bind (wpAny_pure ?_) | skip
 refine wpAny_bind (wpAny_sequenceKey ht.typeIs (by decide) ?_)
 refine wpAny_bind (wpAny_callSpecial?_slot (name:=Str.ofString "__getitem__") ht.typeIs PyProof.Rows.slot_tuple_getitem
  (wpAny_call_entry PyProof.Rows.slot_tuple_getitem ht.typeIs entry_tuple_getitem ?_ (args_tuple_getitem _ _)))
 show wpAny _ _ (Builtin.Tuple.tupleItemsOf (.ref t) >>= _) _ _ s
 refine wpAny_bind (tupleItemsOf_ ht ?_)
 refine wpAny_bind (wpAny_typeOf hTs ?_)
 rw [if_pos (by decide)]
 refine wpAny_bind (fY hs pl pu ?_)
 have hyes:(((sIx items.size 0 lo:Nat):Int) == 0 && (1:Int) == 1 && (sIx items.size items.size hi - sIx items.size 0 lo) == items.size)=true:=by
  rw [hw.1,hw.2,Nat.sub_zero];simp
 show wpAny _ _ (if (((sIx items.size 0 lo:Nat):Int) == 0 && (1:Int) == 1 && (sIx items.size items.size hi - sIx items.size 0 lo) == items.size)=true then _ else _) _ _ s
 rw [if_pos hyes]
 refine wpAny_bind (m:=Builtin.Tuple.tupleIsExact _) (wpAny_bind (wpAny_typeOf ht.typeIs (wpAny_pure ?_)))
 rw [if_pos (by decide)]
 first
  | exact wpAny_bind (m:=rule _) (wpAny_pure (wpAny_pure ⟨_,rfl,wpAny_pure h⟩))
  | exact wpAny_pure ⟨_,rfl,wpAny_pure h⟩
  | exact wpAny_bind (wpAny_rule (wpAny_pure ⟨_,rfl,wpAny_pure h⟩))
def Cq (K:PySem.W.Frag):V->Option Int->Option Int->Hp->VK->Prop:=fun x lo hi H Q=>∃a xs,x=.ref a/\SqT K H a xs/\(sIx xs.length 0 lo=0/\sIx xs.length xs.length hi=xs.length)/\Q (.ref a) H
theorem Ak {X:Cx}:SlR X (Cq X.K):=by
 intro pins s σ H x v vl vu lo hi sl Q I rx hs pl pu h
 obtain ⟨a,xs,rfl,hx,hw,q⟩:=h
 cases rx
 obtain ⟨its,r,ht,hz⟩:=I.tuple hx
 have hlen:its.toArray.size=xs.length:=by rw [List.size_toArray];exact r.length.symm
 refine ⟨"tuple",_,PyProof.Rows.slot_tuple_getitem.lookup,ht.typeIs,?_⟩
 exact jq ht hs pl pu (by rw [hlen];exact hw) ⟨.ref a,H,I,rfl,q⟩
end
end L2
namespace L2
open PySem PySem.Spec PyProof.Rows
section
variable {K:PySem.W.Frag}{X:Cx}{ta tb tc to:TE}{pa pb pc:PA1}{pe:PTE}{tr:TA}{pr:PTA}
def vc (f f':F2) (pa pb pc:PA1):PTE:=fun ρ Q=>pa ρ fun x ρ1=>pb ρ1 fun y ρ2=>op2 f ρ2 x y fun p ρ3=>match p with
 | .dat (.bl k)=>iW k (pc ρ3 fun z ρ4=>op2 f' ρ4 y z Q) (Q (.dat (.bl false)) ρ3)
 | _=>False
theorem sd {r r':R2}{f f':F2} (o:LO K r f) (o':LO K r' f') (ha:LA1 K ta pa) (hb:LA1 K tb pb) (hc:LA1 K tc pc):LE K (rO r r' ta tb tc) (vc f f' pa pb pc):=fun A ρ σ H Q Q' R q k =>
 ha A ρ σ H _ _ R q fun v H1 a ρ1 q1 f1 R1 o1=>hb A ρ1 σ H1 _ _ R1 q1 fun w H2 b ρ2 q2 f2 R2 o2=>by
  unfold op2 at q2
  split at q2
  .rename_i da db e1 e2
   refine o _ H2 v w da db _ _ R2.dom2 (R2.cont (o1.keeps f2.keeps) e1) (R2.cont o2 e2) q2 fun z H3 p q3 g ov=>?_
   dsimp only at q3
   split at q3
   .rename_i c
    cases ov
    refine ⟨c,rfl,?_⟩
    have R3:=R2.gr g
    cases c with
    | true =>
     refine hc A ρ2 σ H3 _ _ R3 q3 fun u H4 cc ρ4 q4 f4 R4 o4=>?_
     try unfold op2 at q4
     split at q4
     .rename_i dc dd e3 e4
      have o2':AOk K (OO A ρ4 σ) σ H4 b w:=(o2.keeps (g.fr (ρ:=ρ2) (σ:=σ)).keeps).keeps f4.keeps
      exact o' _ H4 w u _ _ _ _ R4.dom2 (R4.cont o2' e3) (R4.cont o4 e4) q4 fun z H5 p q5 g5 ov=>k z H5 p ρ4 q5 ((((f1.trans f2).trans g.fr).trans f4).trans g5.fr) ((ov.out R4 g5).h0 fun b z=>f4.dm b ((g.fr (ρ:=ρ2) (σ:=σ)).dm b (f2.dm b (f1.dm b z))))
     .exact q4.elim
    | false=>exact k _ H3 _ ρ2 q3 ((f1.trans f2).trans g.fr) ⟨R3,.bl false⟩
   .exact q3.elim
  .exact q2.elim
abbrev PTO:=PSt->(Option Int->PSt->Prop)->Prop
def LPo (K:PySem.W.Frag) (t:TO) (p:PTO):Prop:=∀(A:Addr->Prop) (ρ:PSt) (σ:St) (H:Hp) (Q:Option Int->PSt->Prop) (Q':Option Int->Hp->Prop),Rel K A ρ σ H->p ρ Q ->
 (∀b H' ρ',Q b ρ'->Fr ρ σ H ρ' H'->Rel K A ρ' σ H'->Q' b H')->t σ H Q'
def eG:PTO:=fun ρ Q=>Q none ρ
def dn (pe:PTE):PTO:=fun ρ Q=>pe ρ fun p ρ1=>match p with
 | .dat (.int i)=>Q (some i) ρ1
 | _=>False
theorem cB:LPo K mW eG:=fun A ρ σ H Q Q' R q k=>k none H ρ q (Fr.refl _ _ _) R
theorem bJ (h:LE K ta pe):LPo K (xc ta) (dn pe):=fun A ρ σ H Q Q' R q k=>h A ρ σ H _ _ R q fun v H1 p ρ1 q1 f1 o1=>by
 split at q1
 .rename_i i
  obtain ⟨R1,f⟩:=o1
  cases f
  exact ⟨i,rfl,k _ H1 ρ1 q1 f1 R1⟩
 .exact q1.elim
def Cr (K:PySem.W.Frag):V->Option Int->Option Int->Hp->VK->Prop:=fun x lo hi H Q=>EY K x lo hi H Q\/E2 x lo hi H Q\/EV K x lo hi H Q\/Cq K x lo hi H Q
theorem qk (K:PySem.W.Frag) (e:X.K=K):SlR X (Cr K):=by
 subst e
 exact SlR.or zL (SlR.or BV (SlR.or BI Ak))
def fSl:D->Option Int->Option Int->(PV->Prop)->Prop
 | .lst ds,lo,hi,Q=>Q (.own (eW ds lo hi))
 | .scr ns,lo,hi,Q=>Q (.own ((eW ns lo hi).map .int))
 | .str l,lo,hi,Q=>Q (.dat (.str (eW l lo hi)))
 | .tup ds,lo,hi,Q=>Q (.dat (.tup (eW ds lo hi)))
 | _,_,_,_=>False
theorem FVs.cut {O:Addr->Prop}{H:Hp}{xs:List V}{ds:List D} (f:FVs K O H xs ds) (lo hi:Option Int):FVs K O H (eW xs lo hi) (eW ds lo hi):=by
 unfold eW
 rw [f.length]
 exact (f.drop _).take _
def dQ (pa:PA1) (pl ph:PTO):PTE:=fun ρ Q=>pa ρ fun x ρ1=>pl ρ1 fun lo ρ2=>ph ρ2 fun hi ρ3=>match cont ρ3 x with
 | some d=>fSl d lo hi fun p=>Q p ρ3
 | _=>False
theorem Al {α:Type}{ds:List α}{lo hi:Option Int}{n:Nat} (h:n=ds.length) (hw:HT.sIx n 0 lo=0/\HT.sIx n n hi=n):eW ds lo hi=ds:=by
 subst h
 unfold eW
 rw [hw.1,hw.2,List.drop_zero,Nat.sub_zero,List.take_length]
theorem lsl {O:Addr->Prop}{H:Hp}{x:V}{d:D}{lo hi:Option Int}{Q:PV->Prop}{Q':VK} (dom:∀b,O b->H b≠none) (fx:FVc K O H x d) (q:fSl d lo hi Q) (k:∀v H' p,Q p->Gr H H'->qj K O H H' p v->Q' v H'):Cr K x lo hi H Q':=by
 unfold fSl at q
 split at q
 .obtain ⟨a,xs,rfl,e1,f1⟩:=fx.lst
  exact .inl ⟨a,xs,rfl,SqL.of e1,fun p hp=>k _ _ _ q (Gr.new hp) (d7 hp (f1.cut _ _))⟩
 .obtain ⟨a,rfl,e1⟩:=fx.scr
  exact .inl ⟨a,_,rfl,e1,fun p hp=>k _ _ _ q (Gr.new hp) (d7 hp (by rw [uz,xl];exact FVs.of_ints _))⟩
 .exact .inr (.inl ⟨_,fx.str.1,sz _ fx.str.2,k _ H _ q (Gr.refl _) (.str _ (Nat.le_trans (dH _ _ _) fx.str.2))⟩)
 .obtain ⟨a,xs,rfl,n1,e1,f1⟩:=fx.tup
  by_cases hw:HT.sIx xs.length 0 lo=0/\HT.sIx xs.length xs.length hi=xs.length
  .refine .inr (.inr (.inr ⟨a,xs,rfl,SqT.of e1,hw,k _ H _ q (Gr.refl _) ?_⟩))
   rw [Al f1.length hw]
   exact .tup n1 e1 f1
  .exact .inr (.inr (.inl ⟨a,xs,rfl,SqT.of e1,hw,fun p hp=>k _ _ _ q (Gr.new hp) (kB dom hp (f1.cut _ _))⟩))
 .exact q.elim
theorem bX {tl th:TO}{pl ph:PTO} (ha:LA1 K ta pa) (hl:LPo K tl pl) (hh:LPo K th ph):LE K (tSl (Cr K) ta tl th) (dQ pa pl ph):=fun A ρ σ H Q Q' R q k =>
 ha A ρ σ H _ _ R q fun v H1 a ρ1 q1 f1 R1 o1=>hl A ρ1 σ H1 _ _ R1 q1 fun lo H2 ρ2 q2 f2 R2=>hh A ρ2 σ H2 _ _ R2 q2 fun hi H3 ρ3 q3 f3 R3=>by
  split at q3
  .rename_i d e1
   exact lsl R3.dom2 (R3.cont (o1.keeps (f2.trans f3).keeps) e1) q3 fun z H4 p q4 g ov=>k z H4 p ρ3 q4 (((f1.trans f2).trans f3).trans g.fr) ((ov.out R3 g).h0 fun b z=>f3.dm b (f2.dm b (f1.dm b z)))
  .exact q3.elim
abbrev FN:=List D->(PV->Prop)->Prop
def pq (K:PySem.W.Frag):List V->Hp->VK->Prop:=fun xs H Q=>(∃l,xs=[.str (S l)]/\l.length<=sizeLine/\Q (.int l.length) H)\/DX K xs H Q\/DY K xs H Q\/∃p kvs,xs=[.ref p]/\Rd H p (.dK kvs)/\Q (.int kvs.length) H
theorem cM (K:PySem.W.Frag) (e:X.K=K):bK X (.builtin "len") (pq K):=by
 subst e
 exact bK.or uF (bK.or uG (bK.or uH uX))
def gn:FN
 | [.str l],Q=>Q (.dat (.int l.length))
 | [.lst l],Q=>Q (.dat (.int l.length))
 | [.tup l],Q=>Q (.dat (.int l.length))
 | [.scr l],Q=>Q (.dat (.int l.length))
 | [.dic ks _],Q=>Q (.dat (.int ks.length))
 | _,_=>False
theorem bB:LC K (pq K) gn:=by
 intro O H xs as Q Q' dom fs q k
 unfold gn at q
 split at q
 .cases fs with | cons a b=>cases b;rw [a.str.1];exact .inl ⟨_,rfl,sz _ a.str.2,k _ H _ q (Gr.refl _) (.int _)⟩
 .cases fs with
  | cons a b =>
   cases b
   obtain ⟨p,ys,rfl,e1,f1⟩:=a.lst
   exact .inr (.inl ⟨p,ys,rfl,SqL.of e1,by rw [f1.length];exact k _ H _ q (Gr.refl _) (.int _)⟩)
 .cases fs with
  | cons a b =>
   cases b
   obtain ⟨p,ys,rfl,n1,e1,f1⟩:=a.tup
   exact .inr (.inr (.inl ⟨p,ys,rfl,SqT.of e1,by rw [f1.length];exact k _ H _ q (Gr.refl _) (.int _)⟩))
 .cases fs with
  | cons a b =>
   cases b
   obtain ⟨p,rfl,e1⟩:=a.scr
   exact .inr (.inl ⟨p,_,rfl,e1,by rw [List.length_map];exact k _ H _ q (Gr.refl _) (.int _)⟩)
 .cases fs with
  | cons a b =>
   cases b
   cases a.fv nofun nofun with
   | dic n e m f=>subst m;exact .inr (.inr (.inr ⟨_,_,rfl,.inl e,k _ H _ q (Gr.refl _) (by rw [List.length_map];exact .int _)⟩))
 .exact q.elim
inductive Kd where
 | int | bool | str | list | tuple | dict
def Kd.nm:Kd->String
 | .int=>"int" | .bool=>"bool" | .str=>"str" | .list=>"list" | .tuple=>"tuple" | .dict=>"dict"
def isK:Kd->D->Bool
 | .int,.int _=>true
 | .int,.bl _=>true
 | .bool,.bl _=>true
 | .str,.str _=>true
 | .list,.lst _=>true
 | .tuple,.tup _=>true
 | .dict,.dic _ _=>true
 | _,_=>false
def D.sort:D->Bool
 | .obj _ _ _=>false
 | .exc _ _ _=>false
 | .scr _=>false
 | .ty _=>false
 | _=>true
theorem FVc.ty {O:Addr->Prop}{H:Hp}{v:V}{d:D} (h:FVc K O H v d) (s:d.sort=true):∃t,oy K H v t/\∀k:Kd,PySem.W.kitOne K t (.type k.nm)=some (isK k d):=by
 rcases h with h | ⟨a,xs,ds',rfl,rfl,e3,f⟩ | ⟨a,dx,c,fs,ns,ds',rfl,rfl,_⟩
 .cases h with
  | non=>exact ⟨_,.non,fun k=>by cases k <;> rfl⟩
  | bl b=>exact ⟨_,.bl b,fun k=>by cases k <;> rfl⟩
  | int i=>exact ⟨_,.int i,fun k=>by cases k <;> rfl⟩
  | str l h=>exact ⟨_,.str _,fun k=>by cases k <;> rfl⟩
  | ty n=>cases s
  | scr _=>cases s
  | lst n e f=>exact ⟨_,.lst e,fun k=>by cases k <;> rfl⟩
  | tup n e f=>exact ⟨_,.tup e,fun k=>by cases k <;> rfl⟩
  | dic n e m f=>exact ⟨_,.dK e,fun k=>by cases k <;> rfl⟩
  | obj _ _ _ _=>cases s
  | exc0 _ _=>cases s
  | exc1 _ _ _ _ _ _=>cases s
 .exact ⟨_,.lst e3,fun k=>by cases k <;> rfl⟩
 .cases s
theorem qF (K:PySem.W.Frag) (e:X.K=K):bK X (.builtin "isinstance") (E3 K):=by subst e;exact qw
def yM (k:Kd) (pa:PA1):PTE:=fun ρ Q=>pa ρ fun x ρ1=>match cont ρ1 x with
 | some d=>iW d.sort (Q (.dat (.bl (isK k d))) ρ1) False
 | _=>False
theorem kC (k:Kd) (ha:LA1 K ta pa):LE K (tCB (E3 K) (bV ta (bV (tC (.ty k.nm)) i4))) (yM k pa):=fun A ρ σ H Q Q' R q kk =>
 ha A ρ σ H _ _ R q fun v H1 a ρ1 q1 f1 R1 o1=>by
  split at q1
  .rename_i d e1
   cases hs:d.sort with
   | false=>rw [hs] at q1;exact q1.elim
   | true =>
    rw [hs] at q1
    obtain ⟨t,ty,hk⟩:=(R1.cont o1 e1).ty hs
    exact ⟨v,k.nm,t,isK k d,rfl,ty,hk k,kk _ H1 _ ρ1 q1 f1 ⟨R1,.bl _⟩⟩
  .exact q1.elim
def E6 (K:PySem.W.Frag):List V->Hp->VK->Prop:=fun xs H Q=>∃(x:V) (p:Addr) (ts:List String) (t:Value) (b:Bool),xs=[x,.ref p]/\oy K H x t/\H p=some (.tup (ts.map V.ty))/\PySem.W.kitAny K t (ts.map Value.type)=some b/\Q (.bl b) H
theorem Ea (K:PySem.W.Frag) (e:X.K=K):bK X (.builtin "isinstance") (E6 K):=by subst e;exact pd
def E7 (k l:Kd) (pa:PA1):PTE:=fun ρ Q=>pa ρ fun x ρ1=>match cont ρ1 x with
 | some d=>iW d.sort (Q (.dat (.bl (isK k d || isK l d))) ρ1) False
 | _=>False
theorem FVc.keeps {O O':Addr->Prop}{H H':Hp}{v:V}{d:D} (k:aZ O H O' H') (g:Gr H H') (h:FVc K O H v d):FVc K O' H' v d:=by
 rcases h with h | ⟨a,xs,ds',e1,e2,e3,f⟩ | ⟨a,dx,c,fs,ns,ds',e1,e2,e3,m,f⟩
 .exact .inl (h.keeps k)
 .exact .inr (.inl ⟨a,xs,ds',e1,e2,g _ _ e3,f.keeps k⟩)
 .exact .inr (.inr ⟨a,dx,c,fs,ns,ds',e1,e2,g _ _ e3,m,f.keeps k⟩)
theorem Cs (k l:Kd) (hkl:∀t b c,PySem.W.kitOne K t (.type k.nm)=some b->PySem.W.kitOne K t (.type l.nm)=some c->PySem.W.kitAny K t [.type k.nm,.type l.nm]=some (b || c)) (ha:LA1 K ta pa):LE K (tCB (E6 K) (bV ta (bV (DK (bV (tC (.ty k.nm)) (bV (tC (.ty l.nm)) i4))) i4))) (E7 k l pa):=fun A ρ σ H Q Q' R q kk =>
 ha A ρ σ H _ _ R q fun v H1 a ρ1 q1 f1 R1 o1=>by
  split at q1
  .rename_i d e1
   cases hs:d.sort with
   | false=>rw [hs] at q1;exact q1.elim
   | true =>
    rw [hs] at q1
    refine ⟨by show 2<=sizeLine;decide,fun p hp=>?_⟩
    have g:Gr H1 (upd H1 p (.tup [V.ty k.nm,V.ty l.nm])):=Gr.new hp
    obtain ⟨t,ty,hk⟩:=((R1.cont o1 e1).keeps (g.fr (ρ:=ρ1) (σ:=σ)).keeps g).ty hs
    exact ⟨v,p,[k.nm,l.nm],t,_,rfl,ty,aF,hkl _ _ _ (hk k) (hk l),kk _ _ _ ρ1 q1 (f1.trans g.fr) ⟨R1.gr g,.bl _⟩⟩
  .exact q1.elim
end
structure xC where
 nx:PSt->Prop
 rt:PV->PSt->Prop
 bk:PSt->Prop:=fun _=>False
 ct:PSt->Prop:=fun _=>False
abbrev PTS:=xC->PSt->Prop
structure dD (fx:List (Nat×V)) (R:Addr->Prop) (H0:Hp) (ρ:PSt) (σ:St) (H:Hp):Prop where
 kp:∀b o,¬ R b->H0 b=some o->H b=some o
 dm:∀b,H0 b≠none->H b≠none
 ow:∀b,Wr ρ σ b->R b\/H0 b=none
 fx:∀p∈fx,σ[p.1]?=some (some p.2)
section
variable {K:PySem.W.Frag}{fx:List (Nat×V)}{A R:Addr->Prop}{H0 H H':Hp}{ρ ρ':PSt}{σ:St}
theorem dD.fr (F:dD fx R H0 ρ σ H) (f:Fr ρ σ H ρ' H'):dD fx R H0 ρ' σ H' :=
 ⟨fun b o n e=>f.kp b o (fun w=>(F.ow b w).elim n (fun z=>by rw [z] at e;cases e)) (F.kp b o n e),fun b z=>f.dm b (F.dm b z),fun b w=>F.ow b (f.ow b w),F.fx⟩
theorem dD.start (hfx:∀p∈fx,σ[p.1]?=some (some p.2)):dD fx (Wr ρ σ) H ρ σ H:=⟨fun _ _ _ h=>h,fun _ h=>h,fun _ h=>.inl h,hfx⟩
theorem dD.keepsR {ρ1:PSt}{σ1:St}{H1:Hp} (F:dD fx R H1 ρ σ H) (hR:∀b,R b->OO A ρ1 σ1 b):aZ (OO A ρ1 σ1) H1 (OO A ρ σ) H:=fun b o n e=>by
 refine ⟨fun z=>?_,F.kp b o (fun z=>n (hR b z)) e⟩
 rcases z with z | z
 .exact n (.inl z)
 .rcases F.ow b z with z | z
  .exact n (hR b z)
  .rw [z] at e;cases e
theorem dD.keeps {ρ1:PSt}{σ1:St}{H1:Hp} (F:dD fx (Wr ρ1 σ1) H1 ρ σ H):aZ (OO A ρ1 σ1) H1 (OO A ρ σ) H:=F.keepsR fun b z=>.inr z
theorem dD.trans {fx':List (Nat×V)}{ρ1:PSt}{σ1:St}{H1:Hp} (F:dD fx R H0 ρ1 σ1 H1) (G:dD fx' (Wr ρ1 σ1) H1 ρ σ H) (hfx:∀p∈fx,σ[p.1]?=some (some p.2)):dD fx R H0 ρ σ H:=by
 refine ⟨fun b o n e=>G.kp b o (fun w=>(F.ow b w).elim n (fun z=>by rw [z] at e;cases e)) (F.kp b o n e),fun b z=>G.dm b (F.dm b z),fun b w=>?_,hfx⟩
 rcases G.ow b w with z | z
 .exact F.ow b z
 .refine .inr ?_
  cases e:H0 b with
  | none=>rfl
  | some o=>exact absurd z (F.dm b (by rw [e];exact nofun))
theorem Out.put {p:PV}{v:V}{i:Nat} (h:Out K A ρ σ H0 H p v):Rel K A (ρ.set i (some p)) (σ.set i (some v)) H/\∀b,Wr (ρ.set i (some p)) (σ.set i (some v)) b->Wr ρ σ b\/H0 b=none:=by
 have get:∀(j:Nat) (q:PV),(ρ.set i (some p))[j]?=some (some q)->(j=i/\q=p/\i < ρ.length)\/(j≠i/\ρ[j]?=some (some q)):=fun j q e=>by
  by_cases z:i=j
  .subst z
   by_cases hi:i < ρ.length
   .rw [List.getElem?_set_self hi] at e;cases e;exact .inl ⟨rfl,rfl,hi⟩
   .rw [List.getElem?_eq_none (by rw [List.length_set];omega)] at e;cases e
  .rw [List.getElem?_set_ne z] at e;exact .inr ⟨fun q=>z q.symm,e⟩
 cases p with
 | dat d =>
  obtain ⟨R1,f⟩:=h
  have ow:∀b,Wr (ρ.set i (some (.dat d))) (σ.set i (some v)) b->Wr ρ σ b:=fun b ⟨j,r,e1,o1,s1⟩=>by
   rcases get j r e1 with ⟨_,rfl,_⟩ | ⟨n,e⟩
   .cases o1
   .rw [List.getElem?_set_ne (fun z=>n z.symm)] at s1;exact ⟨j,r,e,o1,s1⟩
  have k:aZ (OO A ρ σ) H (OO A (ρ.set i (some (.dat d))) (σ.set i (some v))) H:=aZ.less fun b z=>z.imp id (ow b)
  refine ⟨⟨by rw [List.length_set,List.length_set];exact R1.len,fun j r e1=>?_,fun j l p1 q1 v' e1 e2 o1 o2 s1 s2=>?_,R1.dom,fun b z w=>R1.sep b z (ow b w)⟩,fun b w=>.inl (ow b w)⟩
  .rcases get j r e1 with ⟨rfl,rfl,hi⟩ | ⟨n,e⟩
   .exact ⟨v,List.getElem?_set_self (by rw [<- R1.len];exact hi),f.keeps k⟩
   .obtain ⟨u,s,r'⟩:=R1.get j r e
    exact ⟨u,by rw [List.getElem?_set_ne (fun z=>n z.symm)];exact s,r'.keeps k fun _ _ _=>rfl⟩
  .rcases get j p1 e1 with ⟨_,rfl,_⟩ | ⟨n1,e1⟩
   .cases o1
   .rcases get l q1 e2 with ⟨_,rfl,_⟩ | ⟨n2,e2⟩
    .cases o2
    .rw [List.getElem?_set_ne (fun z=>n1 z.symm)] at s1
     rw [List.getElem?_set_ne (fun z=>n2 z.symm)] at s2
     exact R1.dj j l p1 q1 v' e1 e2 o1 o2 s1 s2
 | own ds =>
  obtain ⟨a,xs,rfl,na,hn,e0,R1,f⟩:=h
  have ow:∀b,Wr (ρ.set i (some (.own ds))) (σ.set i (some (.ref a))) b->Wr ρ σ b\/b=a:=fun b ⟨j,r,e1,o1,s1⟩=>by
   rcases get j r e1 with ⟨rfl,rfl,hi⟩ | ⟨n,e⟩
   .rw [List.getElem?_set_self (by rw [<- R1.len];exact hi)] at s1;cases s1;exact .inr rfl
   .rw [List.getElem?_set_ne (fun z=>n z.symm)] at s1;exact .inl ⟨j,r,e,o1,s1⟩
  have k:aZ (OO (iM A a) ρ σ) H (OO A (ρ.set i (some (.own ds))) (σ.set i (some (.ref a)))) H:=aZ.less fun b z=>by
   rcases z with z | z
   .exact .inl (.inl z)
   .rcases ow b z with z | z
    .exact .inr z
    .exact .inl (.inr z)
  refine ⟨⟨by rw [List.length_set,List.length_set];exact R1.len,fun j r e1=>?_,fun j l p1 q1 v' e1 e2 o1 o2 s1 s2=>?_,fun b z=>R1.dom b (.inl z),fun b z w=>?_⟩,fun b w=>(ow b w).imp id fun z=>by rw [z];exact hn⟩
  .rcases get j r e1 with ⟨rfl,rfl,hi⟩ | ⟨n,e⟩
   .exact ⟨_,List.getElem?_set_self (by rw [<- R1.len];exact hi),a,xs,rfl,e0,f.keeps k⟩
   .obtain ⟨u,s,r'⟩:=R1.get j r e
    exact ⟨u,by rw [List.getElem?_set_ne (fun z=>n z.symm)];exact s,r'.keeps k fun _ _ _=>rfl⟩
  .rcases get j p1 e1 with ⟨rfl,rfl,hi⟩ | ⟨n1,e1'⟩
   .rw [List.getElem?_set_self (by rw [<- R1.len];exact hi)] at s1;cases s1
    rcases get l q1 e2 with ⟨rfl,rfl,_⟩ | ⟨n2,e2⟩
    .rfl
    .rw [List.getElem?_set_ne (fun z=>n2 z.symm)] at s2
     exact absurd ⟨l,q1,e2,o2,s2⟩ (R1.sep a (.inr rfl))
   .rw [List.getElem?_set_ne (fun z=>n1 z.symm)] at s1
    rcases get l q1 e2 with ⟨rfl,rfl,hi⟩ | ⟨n2,e2⟩
    .rw [List.getElem?_set_self (by rw [<- R1.len];exact hi)] at s2;cases s2
     exact absurd ⟨j,p1,e1',o1,s1⟩ (R1.sep a (.inr rfl))
    .rw [List.getElem?_set_ne (fun z=>n2 z.symm)] at s2
     exact R1.dj j l p1 q1 v' e1' e2 o1 o2 s1 s2
  .rcases ow b w with w | w
   .exact R1.sep b (.inl z) w
   .rw [w] at z;exact na z
 | ins c ns ds =>
  obtain ⟨a,dx,fs,rfl,na,hn,e0,m,R1,f⟩:=h
  have ow:∀b,Wr (ρ.set i (some (.ins c ns ds))) (σ.set i (some (.ref a))) b->Wr ρ σ b\/b=a:=fun b ⟨j,r,e1,o1,s1⟩=>by
   rcases get j r e1 with ⟨rfl,rfl,hi⟩ | ⟨n,e⟩
   .rw [List.getElem?_set_self (by rw [<- R1.len];exact hi)] at s1;cases s1;exact .inr rfl
   .rw [List.getElem?_set_ne (fun z=>n z.symm)] at s1;exact .inl ⟨j,r,e,o1,s1⟩
  have k:aZ (OO (iM A a) ρ σ) H (OO A (ρ.set i (some (.ins c ns ds))) (σ.set i (some (.ref a)))) H:=aZ.less fun b z=>by
   rcases z with z | z
   .exact .inl (.inl z)
   .rcases ow b z with z | z
    .exact .inr z
    .exact .inl (.inr z)
  refine ⟨⟨by rw [List.length_set,List.length_set];exact R1.len,fun j r e1=>?_,fun j l p1 q1 v' e1 e2 o1 o2 s1 s2=>?_,fun b z=>R1.dom b (.inl z),fun b z w=>?_⟩,fun b w=>(ow b w).imp id fun z=>by rw [z];exact hn⟩
  .rcases get j r e1 with ⟨rfl,rfl,hi⟩ | ⟨n,e⟩
   .exact ⟨_,List.getElem?_set_self (by rw [<- R1.len];exact hi),a,dx,fs,rfl,e0,m,f.keeps k⟩
   .obtain ⟨u,s,r'⟩:=R1.get j r e
    exact ⟨u,by rw [List.getElem?_set_ne (fun z=>n z.symm)];exact s,r'.keeps k fun _ _ _=>rfl⟩
  .rcases get j p1 e1 with ⟨rfl,rfl,hi⟩ | ⟨n1,e1'⟩
   .rw [List.getElem?_set_self (by rw [<- R1.len];exact hi)] at s1;cases s1
    rcases get l q1 e2 with ⟨rfl,rfl,_⟩ | ⟨n2,e2⟩
    .rfl
    .rw [List.getElem?_set_ne (fun z=>n2 z.symm)] at s2
     exact absurd ⟨l,q1,e2,o2,s2⟩ (R1.sep a (.inr rfl))
   .rw [List.getElem?_set_ne (fun z=>n1 z.symm)] at s1
    rcases get l q1 e2 with ⟨rfl,rfl,hi⟩ | ⟨n2,e2⟩
    .rw [List.getElem?_set_self (by rw [<- R1.len];exact hi)] at s2;cases s2
     exact absurd ⟨j,p1,e1',o1,s1⟩ (R1.sep a (.inr rfl))
    .rw [List.getElem?_set_ne (fun z=>n2 z.symm)] at s2
     exact R1.dj j l p1 q1 v' e1' e2 o1 o2 s1 s2
  .rcases ow b w with w | w
   .exact R1.sep b (.inl z) w
   .rw [w] at z;exact na z
end
abbrev PTG:=PV->PSt->(PSt->Prop)->Prop
abbrev yN:=List D->PSt->(PSt->Prop)->Prop
def LG (K:PySem.W.Frag) (fs:List Nat) (g:TG) (pg:PTG):Prop:=∀(fx:List (Nat×V)) (A R:Addr->Prop) (H0:Hp) (ρ:PSt) (σ:St) (H:Hp) (p:PV) (v:V) (Q:PSt->Prop) (Q':St->Hp->Prop),fx.map Prod.fst=fs->dD fx R H0 ρ σ H->Out K A ρ σ H0 H p v->pg p ρ Q ->
 (∀ρ' σ' H',Q ρ'->Rel K A ρ' σ' H'->dD fx R H0 ρ' σ' H'->Q' σ' H')->g v σ H Q'
def LGs (K:PySem.W.Frag) (fs:List Nat) (g:TGs) (pg:yN):Prop:=∀(fx:List (Nat×V)) (A R:Addr->Prop) (H0:Hp) (ρ:PSt) (σ:St) (H:Hp) (ds:List D) (vs:List V) (Q:PSt->Prop) (Q':St->Hp->Prop),fx.map Prod.fst=fs->dD fx R H0 ρ σ H->Rel K A ρ σ H->FVs K (OO A ρ σ) H vs ds->pg ds ρ Q ->
 (∀ρ' σ',Q ρ'->Rel K A ρ' σ' H->dD fx R H0 ρ' σ' H->(∀b,Wr ρ' σ' b->Wr ρ σ b)->Q' σ' H)->g vs σ H Q'
def LGd (K:PySem.W.Frag) (fs:List Nat) (g:TG) (pg:PTG):Prop:=∀(fx:List (Nat×V)) (A R:Addr->Prop) (H0:Hp) (ρ:PSt) (σ:St) (H:Hp) (d:D) (v:V) (Q:PSt->Prop) (Q':St->Hp->Prop),fx.map Prod.fst=fs->dD fx R H0 ρ σ H->Rel K A ρ σ H->FV K (OO A ρ σ) H v d->pg (.dat d) ρ Q ->
 (∀ρ' σ',Q ρ'->Rel K A ρ' σ' H->dD fx R H0 ρ' σ' H->(∀b,Wr ρ' σ' b->Wr ρ σ b)->Q' σ' H)->g v σ H Q'
def ay (i:Nat):PTG:=fun p ρ Q=>Q (ρ.set i (some p))
def nr:yN:=fun ds ρ Q=>match ds with | []=>Q ρ | _=>False
def dR (g:PTG) (gs:yN):yN:=fun ds ρ Q=>match ds with | d::r=>g (.dat d) ρ fun ρ1=>gs r ρ1 Q | []=>False
section
variable {K:PySem.W.Frag}{fs:List Nat}
theorem dD.put {fx:List (Nat×V)}{R:Addr->Prop}{H0 H:Hp}{ρ:PSt}{σ:St}{i:Nat}{p:PV}{v:V} (hf:fx.map Prod.fst=fs) (hi:fs.contains i=false) (F:dD fx R H0 ρ σ H) (ow:∀b,Wr (ρ.set i (some p)) (σ.set i (some v)) b->Wr ρ σ b\/H0 b=none):dD fx R H0 (ρ.set i (some p)) (σ.set i (some v)) H :=
 ⟨F.kp,F.dm,fun b w=>(ow b w).elim (F.ow b) .inr,fun q hq=>by
  have:q.1≠i:=fun z=>by
   have h1:i∈fs:=by rw [<- hf,<- z];exact List.mem_map_of_mem hq
   rw [List.contains_iff_mem.mpr h1] at hi;cases hi
  rw [List.getElem?_set_ne (fun z=>this z.symm)];exact F.fx q hq⟩
theorem aI {i:Nat} (hi:fs.contains i=false):LG K fs (dY i) (ay i):=fun fx A R H0 ρ σ H p v Q Q' hf F o q k=>k _ _ _ q o.put.1 (F.put hf hi o.put.2)
theorem iN:LGs K fs Dy nr:=fun fx A R H0 ρ σ H ds vs Q Q' hf F r fv q k=>by
 unfold nr at q
 split at q
 .cases fv;exact ⟨rfl,k _ _ q r F fun _ h=>h⟩
 .exact q.elim
theorem aH {i:Nat} (hi:fs.contains i=false):LGd K fs (dY i) (ay i):=fun fx A R H0 ρ σ H d v Q Q' hf F r fv q k=>by
 have o:Out K A ρ σ H0 H (.dat d) v:=⟨r,fv⟩
 have ow:∀b,Wr (ρ.set i (some (.dat d))) (σ.set i (some v)) b->Wr ρ σ b:=fun b ⟨j,p,e1,o1,s1⟩=>by
  by_cases z:i=j
  .subst z
   by_cases hl:i < ρ.length
   .rw [List.getElem?_set_self hl] at e1;cases e1;cases o1
   .rw [List.getElem?_eq_none (by rw [List.length_set];omega)] at e1;cases e1
  .rw [List.getElem?_set_ne z] at e1 s1;exact ⟨j,p,e1,o1,s1⟩
 exact k _ _ q o.put.1 (F.put hf hi o.put.2) ow
theorem ck {g:TG}{pg:PTG}{gs:TGs}{pgs:yN} (hg:LGd K fs g pg) (h:LGs K fs gs pgs):LGs K fs (wP g gs) (dR pg pgs):=fun fx A R H0 ρ σ H ds vs Q Q' hf F r fv q k=>by
 unfold dR at q
 split at q
 .cases fv with
  | cons a b =>
   exact ⟨_,_,rfl,hg fx A R H0 ρ σ H _ _ _ _ hf F r a q fun ρ1 σ1 q1 r1 F1 w1=>h fx A R H0 ρ1 σ1 H _ _ _ _ hf F1 r1 (b.keeps (aZ.less fun b z=>z.imp id (w1 b))) q1 fun ρ2 σ2 q2 r2 F2 w2=>k ρ2 σ2 q2 r2 F2 fun b z=>w1 b (w2 b z)⟩
 .exact q.elim
end
def LS (K:PySem.W.Frag) (fs:List Nat) (ts:TS) (ps:PTS):Prop:=∀(fx:List (Nat×V)) (A R:Addr->Prop) (H0:Hp) (ρ:PSt) (σ:St) (H:Hp) (D:xC) (D':wF),fx.map Prod.fst=fs->Rel K A ρ σ H->dD fx R H0 ρ σ H->ps D ρ ->
 (∀ρ' σ' H',D.nx ρ'->Rel K A ρ' σ' H'->dD fx R H0 ρ' σ' H'->D'.nx σ' H') ->
 (∀v p ρ' σ' H',D.rt p ρ'->Out K A ρ' σ' H0 H' p v->dD fx R H0 ρ' σ' H'->D'.rt v H') ->
 (∀ρ' σ' H',D.bk ρ'->Rel K A ρ' σ' H'->dD fx R H0 ρ' σ' H'->D'.bk σ' H') ->
 (∀ρ' σ' H',D.ct ρ'->Rel K A ρ' σ' H'->dD fx R H0 ρ' σ' H'->D'.ct σ' H')->ts D' σ H
def cP:PTS:=fun D ρ=>D.nx ρ
def aQ (a b:PTS):PTS:=fun D ρ=>a { D with nx:=b D } ρ
def eH (pe:PTE):PTS:=fun D ρ=>pe ρ fun _ ρ1=>D.nx ρ1
def bQ (pe:PTE):PTS:=fun D ρ=>pe ρ D.rt
def jr (t:PTT) (a b:PTS):PTS:=fun D ρ=>t ρ fun c ρ1=>iW c (a D ρ1) (b D ρ1)
def qG:PTS:=fun _ _=>False
def bL (pe:PTE) (g:PTG):PTS:=fun D ρ=>pe ρ fun p ρ1=>g p ρ1 D.nx
def pz (a:PTS):PTS:=fun D ρ=>∃J:PSt->Prop,a { D with nx:=J } ρ/\∀ρ',J ρ'->D.nx ρ'
section
variable {K:PySem.W.Frag}{fs:List Nat}{ta tb:TS}{pa pb:PTS}{te:TE}{pe:PTE}{tt:TT}{pt:PTT}
theorem bR:LS K fs zp cP:=fun fx A R H0 ρ σ H D D' hf r F q k1 k2 k3 k4=>k1 _ _ _ q r F
theorem se:LS K fs yw qG:=fun fx A R H0 ρ σ H D D' hf r F q k1 k2 k3 k4=>q
theorem aD (ha:LS K fs ta pa) (hb:LS K fs tb pb):LS K fs (Dg ta tb) (aQ pa pb):=fun fx A R H0 ρ σ H D D' hf r F q k1 k2 k3 k4 =>
 ha fx A R H0 ρ σ H _ _ hf r F q (fun ρ1 σ1 H1 q1 r1 F1=>hb fx A R H0 ρ1 σ1 H1 _ _ hf r1 F1 q1 k1 k2 k3 k4) k2 k3 k4
theorem fg (h:LE K te pe):LS K fs (wO te) (eH pe):=fun fx A R H0 ρ σ H D D' hf r F q k1 k2 k3 k4=>h A ρ σ H _ _ r q fun v H1 p ρ1 q1 f1 o1=>k1 _ _ _ q1 o1.frz.1 (F.fr f1)
theorem bf (h:LE K te pe):LS K fs (EN te) (bQ pe):=fun fx A R H0 ρ σ H D D' hf r F q k1 k2 k3 k4=>h A ρ σ H _ _ r q fun v H1 p ρ1 q1 f1 o1=>k2 v p ρ1 σ H1 q1 (o1.h0 F.dm) (F.fr f1)
theorem et (ht:LT K tt pt) (ha:LS K fs ta pa) (hb:LS K fs tb pb):LS K fs (Dw tt ta tb) (jr pt pa pb):=fun fx A R H0 ρ σ H D D' hf r F q k1 k2 k3 k4=>ht A ρ σ H _ _ r q fun c H1 ρ1 q1 f1 r1=>by
 cases c with
 | true=>exact ha fx A R H0 ρ1 σ H1 D D' hf r1 (F.fr f1) q1 k1 k2 k3 k4
 | false=>exact hb fx A R H0 ρ1 σ H1 D D' hf r1 (F.fr f1) q1 k1 k2 k3 k4
theorem a8 {g:TG}{pg:PTG} (h:LE K te pe) (hg:LG K fs g pg):LS K fs (Be te g) (bL pe pg):=fun fx A R H0 ρ σ H D D' hf r F q k1 k2 k3 k4=>h A ρ σ H _ _ r q fun v H1 p ρ1 q1 f1 o1 =>
 hg fx A R H0 ρ1 σ H1 p v _ _ hf (F.fr f1) (o1.h0 F.dm) q1 k1
theorem nu (h:LS K fs ta pa):LS K fs (B7 ta) (pz pa):=fun fx A R H0 ρ σ H D D' hf r F q k1 k2 k3 k4=>by
 obtain ⟨J,q1,q2⟩:=q
 refine ⟨fun σ' H'=>∃ρ',J ρ'/\Rel K A ρ' σ' H'/\dD fx R H0 ρ' σ' H',?_,fun σ' H' ⟨ρ',j,r',F'⟩=>k1 ρ' σ' H' (q2 ρ' j) r' F'⟩
 exact h fx A R H0 ρ σ H _ _ hf r F q1 (fun ρ' σ' H' j r' F'=>⟨ρ',j,r',F'⟩) k2 k3 k4
end
def mq (K:PySem.W.Frag) (tl:TE):TI:=fun σ H R=>tl σ H fun x H1=>(∃k a xs,x=.ref a/\Sq k K H1 a xs/\R (Itk k K a) H1)\/∃l,x=.str (S l)/\R (Its (cD l)) H1
section
variable {X:Cx}{tg:Expr}
theorem Am {l:Expr}{tl:TE} (hl:PE X l tl):PI X tg l (mq X.K tl):=by
 intro pins s σ H R I h
 refine thn (hl pins s σ H _ I h) fun v s1 ⟨x,H1,I1,r1,q1⟩=>?_
 have fin:∀b∈[s1.heap.objs.size],rM X pins H1 b:=fun b hb=>by
  have e:b=s1.heap.objs.size:=by simpa using hb
  subst e
  exact I1.fpOk (Nat.le_refl _) (I1.hok.fresh (Nat.le_refl _))
 rcases q1 with ⟨k,a,xs,e,hq,q⟩ | ⟨l,e,q⟩
 .subst e
  cases r1
  cases k with
  | false =>
   obtain ⟨its,rv,p,hz⟩:=I1.list hq
   refine wpAny_pyIter_list p.isList ?_
   exact ⟨s1.heap.objs.size,[s1.heap.objs.size],_,_,H1,rfl,I1.kept (t':=s1.toks) fun b o e=>Heap.get?_push_of_some _ e,ua a _,⟨_,Heap.get?_push_size _ rfl,rfl,rfl⟩,fin,q⟩
  | true =>
   obtain ⟨its,rv,p,hz⟩:=I1.tuple hq
   refine wpAny_pyIter_tuple (show s1.heap.IsTuple a its.toArray from p) ?_
   exact ⟨s1.heap.objs.size,[s1.heap.objs.size],_,_,H1,rfl,I1.kept (t':=s1.toks) fun b o e=>Heap.get?_push_of_some _ e,sM a _,⟨_,Heap.get?_push_size _ rfl,rfl,rfl⟩,fin,q⟩
 .subst e
  obtain ⟨t,rfl⟩:=r1
  have hv:∀i v,i < (S l).cps.size->SignAt (S l) i v->∃x,(cD l)[i]?=some x/\df x v:=fun i v _ ⟨c,u,hc,e⟩=>by
   subst e
   have hc':l[i]?=some c:=by simpa [S] using hc
   exact ⟨.str (S [c]),by unfold cD;rw [List.getElem?_map,hc'];rfl,u,rfl⟩
  have hsc:∀i v,SignAt (S l) i v->∀a,v≠.ref a:=fun i v ⟨c,u,hc,e⟩ a z=>by subst e;cases z
  have hn:(cD l).length=(S l).cps.size:=by rw [cK];simp [S]
  have hobj:∀ty i (h:Heap),h.IsStrIter s1.heap.objs.size ty (S l) t i->∃o,h.get? s1.heap.objs.size=some o/\∀v,o.data≠.cell v:=fun ty i h ⟨o,ho,_,hd⟩=>⟨o,ho,fun v z=>by rw [hd] at z;cases z⟩
  have hfr:∀ty i (h h':Heap),h.IsStrIter s1.heap.objs.size ty (S l) t i->(∀b∈[s1.heap.objs.size],∀o,h.get? b=some o->h'.get? b=some o)->h'.IsStrIter s1.heap.objs.size ty (S l) t i:=fun ty i h h' ⟨o,ho,r⟩ k=>⟨o,k _ (by simp) o ho,r⟩
  cases ha:(S l).cps.all (· < 128)
  .refine wpAny_pyIter_wide ha ⟨s1.heap.objs.size,[s1.heap.objs.size],_,Its (cD l),H1,rfl,I1.kept (t':=s1.toks) fun b o e=>Heap.get?_push_of_some _ e,
    kq (fun A hA=>Walks.strWide hA _ (S l) t) hn hv hsc (hobj _) (hfr _) (fun A i s Q E st q=>wpAny_pyIter_striter_wide st q),⟨_,Heap.get?_push_size _ rfl,rfl,rfl⟩,fin,q⟩
  .refine wpAny_pyIter_ascii ha ⟨s1.heap.objs.size,[s1.heap.objs.size],_,Its (cD l),H1,rfl,I1.kept (t':=s1.toks) fun b o e=>Heap.get?_push_of_some _ e,
    kq (fun A hA=>Walks.strAscii hA _ (S l) t) hn hv hsc (hobj _) (hfr _) (fun A i s Q E st q=>wpAny_pyIter_striter_ascii st q),⟨_,Heap.get?_push_size _ rfl,rfl,rfl⟩,fin,q⟩
theorem dS (K:PySem.W.Frag) (e:X.K=K) {l:Expr}{tl:TE} (hl:PE X l tl):PI X tg l (mq K tl):=by subst e;exact Am hl
end
abbrev PTI:=PSt->(Nat->(Nat->D)->PSt->Prop)->Prop
def Wlk (K:PySem.W.Frag) (O:Addr->Prop) (H:Hp) (J:It) (n:Nat) (it:Nat->D):Prop:=∀(O':Addr->Prop) (H':Hp),aZ O H O' H'->(∀b,O' b->H' b≠none) ->
 (∀k,k < n->J.go k H'/\∀x H'',J.yld k H' x H''->Gr H' H''/\FV K O' H'' x (it k))/\J.stop n H'
def LI (K:PySem.W.Frag) (wi:TI) (pi:PTI):Prop:=∀(A:Addr->Prop) (ρ:PSt) (σ:St) (H:Hp) (Q:Nat->(Nat->D)->PSt->Prop) (Q':It->Hp->Prop),Rel K A ρ σ H->pi ρ Q ->
 (∀J H' n it ρ',Q n it ρ'->Fr ρ σ H ρ' H'->Rel K A ρ' σ H'->Wlk K (OO A ρ' σ) H' J n it->Q' J H')->wi σ H Q'
def itD (ds:List D) (k:Nat):D:=ds.getD k .non
theorem An {ds:List D}{k:Nat} (h:k < ds.length):ds[k]?=some (itD ds k):=by unfold itD;rw [List.getD_eq_getElem?_getD,List.getElem?_eq_getElem h];rfl
theorem ik {ds:List D}{k:Nat}{d:D} (h:ds[k]?=some d):itD ds k=d:=by unfold itD;rw [List.getD_eq_getElem?_getD,h];rfl
def E8:D->Option (Nat×(Nat->D))
 | .lst ds=>some (ds.length,itD ds)
 | .tup ds=>some (ds.length,itD ds)
 | .scr ns=>some (ns.length,fun k=>.int (ns.getD k 0))
 | .str l=>some (l.length,fun k=>.str [l.getD k 0])
 | _=>none
def gl (pe:PTE):PTI:=fun ρ Q=>pe ρ fun p ρ1=>match E8 p.d with
 | some (n,it)=>Q n it ρ1
 | none=>False
section
variable {K:PySem.W.Frag}{te:TE}{pe:PTE}{ta:TA}{pa:PTA}
theorem FV.row {O:Addr->Prop}{H:Hp}{v:V}{d:D}{n:Nat}{it:Nat->D} (h:FV K O H v d) (e:E8 d=some (n,it)) :
  (∃k a xs,v=.ref a/\xs.length=n/\(∀O' H',aZ O H O' H'->Sq k K H' a xs/\∀j x,xs[j]?=some x->FV K O' H' x (it j)))\/∃l,v=.str (S l)/\l.length=n/\(∀k,it k=.str [l.getD k 0]):=by
 cases h with
 | lst nn e0 f =>
  cases e
  refine .inl ⟨false,_,_,rfl,f.length,fun O' H' k=>⟨SqL.of (k _ _ nn e0).2,fun j x hx=>?_⟩⟩
  obtain ⟨d,hd,fd⟩:=f.get hx
  rw [ik hd];exact fd.keeps k
 | tup nn e0 f =>
  cases e
  refine .inl ⟨true,_,_,rfl,f.length,fun O' H' k=>⟨SqT.of (k _ _ nn e0).2,fun j x hx=>?_⟩⟩
  obtain ⟨d,hd,fd⟩:=f.get hx
  rw [ik hd];exact fd.keeps k
 | scr s =>
  cases e
  refine .inl ⟨false,_,_,rfl,List.length_map _,fun O' H' k=>⟨(s.keeps k).sq,fun j x hx=>?_⟩⟩
  obtain ⟨z,hz,rfl⟩:=xk hx
  show FV K O' H' (V.int z) (D.int (List.getD _ j 0))
  rw [List.getD_eq_getElem?_getD,hz];exact .int z
 | str l hl=>cases e;exact .inr ⟨l,rfl,rfl,fun _=>rfl⟩
 | non=>cases e
 | bl b=>cases e
 | int i=>cases e
 | ty n=>cases e
 | dic _ _ _ _=>cases e
 | obj _ _ _ _=>cases e
 | exc0 _ _=>cases e
 | exc1 _ _ _ _ _ _=>cases e
theorem dU (h:LE K te pe):LI K (mq K te) (gl pe):=fun A ρ σ H Q Q' R q k=>h A ρ σ H _ _ R q fun v H1 p ρ1 q1 f1 o1=>by
 obtain ⟨R1,fv⟩:=o1.frz
 split at q1
 .rename_i n it e
  rcases fv.row e with ⟨b,a,xs,rfl,hl,hr⟩ | ⟨l,rfl,hl,hi⟩
  .refine .inl ⟨b,a,xs,rfl,(hr _ H1 (fun b o n h=>⟨n,h⟩)).1,k _ H1 n it ρ1 q1 f1 R1 fun O' H' kk dom=>?_⟩
   obtain ⟨sq,hx⟩:=hr O' H' kk
   cases b with
   | false =>
    refine ⟨fun j hj=>⟨⟨xs,_,sq,List.getElem?_eq_getElem (by rw [hl];exact hj)⟩,fun x H'' ⟨e,y⟩=>?_⟩,⟨xs,sq,by rw [hl];exact Nat.le_refl _⟩⟩
    subst e;exact ⟨Gr.refl _,hx j x (y xs sq)⟩
   | true =>
    refine ⟨fun j hj=>⟨⟨xs,_,sq,List.getElem?_eq_getElem (by rw [hl];exact hj)⟩,fun x H'' ⟨e,y⟩=>?_⟩,⟨xs,sq,by rw [hl];exact Nat.le_refl _⟩⟩
    subst e;exact ⟨Gr.refl _,hx j x (y xs sq)⟩
  .refine .inr ⟨l,rfl,k _ H1 n it ρ1 q1 f1 R1 fun O' H' kk dom=>?_⟩
   refine ⟨fun j hj=>⟨by show j < (cD l).length;rw [cK,hl];exact hj,fun x H'' ⟨e,y⟩=>?_⟩,by show (cD l).length=n;rw [cK,hl]⟩
   subst e
   obtain ⟨c,hc,rfl⟩:=fk y
   rw [hi,List.getD_eq_getElem?_getD,hc]
   exact ⟨Gr.refl _,.str _ (by show 1<=1000000;decide)⟩
 .exact q1.elim
def Ct (pa:PTA):PTI:=fun ρ Q=>pa ρ fun as ρ1=>match as with
 | [.v (.int j)]=>(-(2 ^ 60)<=j/\j < 2 ^ 60)/\Q j.toNat (fun k=>.int (k:Int)) ρ1
 | _=>False
def Eb (pa:PTA):PTI:=fun ρ Q=>pa ρ fun as ρ1=>match as with
 | [.v (.int i),.v (.int j),.v (.int (-1))]=>(-(2 ^ 60)<=i/\i < 2 ^ 60/\-(2 ^ 60)<=j/\j < 2 ^ 60)/\Q (i - j).toNat (fun k=>.int (i - (k:Int))) ρ1
 | _=>False
theorem Ed {O:Addr->Prop}{H:Hp}{lo:Int}{n:Nat}{it:Nat->D} (h:∀k:Nat,it k=.int (lo + k)):Wlk K O H (Itr lo n) n it:=fun O' H' _ _ =>
 ⟨fun j hj=>⟨hj,fun x H'' ⟨e,y⟩=>by subst e y;rw [h];exact ⟨Gr.refl _,.int _⟩⟩,Nat.le_refl _⟩
theorem Ee {O:Addr->Prop}{H:Hp}{lo:Int}{n:Nat}:Wlk K O H (Its (mZ lo n)) n (fun k=>.int (lo - (k:Int))):=fun O' H' _ _ =>
 ⟨fun j hj=>⟨by show j < (mZ lo n).length;rw [kr];exact hj,fun x H'' ⟨e,y⟩=>by subst e;rw [(uE y).2];exact ⟨Gr.refl _,.int _⟩⟩,kr _ _⟩
theorem xD (h:LAs K ta pa):LI K (BB ta) (Ct pa):=fun A ρ σ H Q Q' R q k=>h A ρ σ H _ _ R q fun vs H1 as ρ1 q1 f1 R1 o1=>by
 split at q1
 .rename_i j
  cases o1 with
  | cons a b =>
   cases b
   cases a
   exact ⟨j,rfl,by omega,by omega,k _ H1 _ _ ρ1 q1.2 f1 R1 (Ed fun k=>by rw [Int.zero_add])⟩
 .exact q1.elim
theorem Cu (h:LAs K ta pa):LI K (BW ta) (Eb pa):=fun A ρ σ H Q Q' R q k=>h A ρ σ H _ _ R q fun vs H1 as ρ1 q1 f1 R1 o1=>by
 split at q1
 .rename_i i j
  cases o1 with
  | cons a b =>
   cases b with
   | cons c d =>
    cases d with
    | cons e f =>
     cases f
     cases a
     cases c
     cases e
     exact ⟨i,j,rfl,q1.1,k _ H1 _ _ ρ1 q1.2 f1 R1 Ee⟩
 .exact q1.elim
def rowD:D->Option (List D)
 | .lst ds=>some ds
 | .tup ds=>some ds
 | .scr ns=>some (ns.map .int)
 | _=>none
theorem FV.rowD {O:Addr->Prop}{H:Hp}{v:V}{d:D}{ds:List D} (h:FV K O H v d) (e:L2.rowD d=some ds) :
  ∃k a xs,v=.ref a/\xs.length=ds.length/\(∀O' H',aZ O H O' H'->Sq k K H' a xs/\FVs K O' H' xs ds):=by
 cases h with
 | lst nn e0 f=>cases e;exact ⟨false,_,_,rfl,f.length,fun O' H' k=>⟨SqL.of (k _ _ nn e0).2,f.keeps k⟩⟩
 | tup nn e0 f=>cases e;exact ⟨true,_,_,rfl,f.length,fun O' H' k=>⟨SqT.of (k _ _ nn e0).2,f.keeps k⟩⟩
 | scr s=>cases e;exact ⟨false,_,_,rfl,by rw [List.length_map,List.length_map],fun O' H' k=>⟨(s.keeps k).sq,FVs.of_ints _⟩⟩
 | str l hl=>cases e
 | non=>cases e
 | bl b=>cases e
 | int i=>cases e
 | ty n=>cases e
 | dic _ _ _ _=>cases e
 | obj _ _ _ _=>cases e
 | exc0 _ _=>cases e
 | exc1 _ _ _ _ _ _=>cases e
def Ef (pa:PTA):PTI:=fun ρ Q=>pa ρ fun as ρ1=>match as with
 | [.v a,.v b]=>(match rowD a,rowD b with
  | some xs,some ys=>Q (min xs.length ys.length) (fun k=>.tup [itD xs k,itD ys k]) ρ1
  | _,_=>False)
 | _=>False
def vd (pa:PTA):PTI:=fun ρ Q=>pa ρ fun as ρ1=>match as with
 | [.v a]=>(match rowD a with
  | some xs=>Q xs.length (fun k=>.tup [.int (k:Int),itD xs k]) ρ1
  | _=>False)
 | _=>False
theorem Cv (h:LAs K ta pa):LI K (DW K ta) (Ef pa):=fun A ρ σ H Q Q' R q k=>h A ρ σ H _ _ R q fun vs H1 as ρ1 q1 f1 R1 o1=>by
 split at q1
 .rename_i da db
  cases o1 with
  | cons o1 o2 =>
   cases o2 with
   | cons o2 o3 =>
    cases o3
    split at q1
    .rename_i xs ys ex ey
     obtain ⟨b1,a1,us,rfl,l1,w1⟩:=FV.rowD (show FV K _ H1 _ da from o1) ex
     obtain ⟨b2,a2,ws,rfl,l2,w2⟩:=FV.rowD (show FV K _ H1 _ db from o2) ey
     have t1:=w1 _ H1 (fun b o n h=>⟨n,h⟩)
     have t2:=w2 _ H1 (fun b o n h=>⟨n,h⟩)
     refine ⟨b1,b2,a1,a2,rfl,⟨us,ws,t1.1,t2.1⟩,k _ H1 _ _ ρ1 q1 f1 R1 fun O' H' kk dom=>?_⟩
     obtain ⟨s1,g1⟩:=w1 O' H' kk
     obtain ⟨s2,g2⟩:=w2 O' H' kk
     refine ⟨fun j hj=>?_,⟨us,ws,s1,s2,by omega⟩⟩
     have h1:j < us.length:=by omega
     have h2:j < ws.length:=by omega
     refine ⟨⟨us,ws,_,_,s1,s2,List.getElem?_eq_getElem h1,List.getElem?_eq_getElem h2⟩,fun x H'' ⟨T,u,w,hT,e,y1,y2,e2⟩=>?_⟩
     subst e e2
     obtain ⟨d1,hd1,fd1⟩:=g1.get (y1 us s1)
     obtain ⟨d2,hd2,fd2⟩:=g2.get (y2 ws s2)
     have e1:itD xs j=d1:=by unfold itD;rw [List.getD_eq_getElem?_getD,hd1];rfl
     have e2:itD ys j=d2:=by unfold itD;rw [List.getD_eq_getElem?_getD,hd2];rfl
     rw [e1,e2]
     have kk2:aZ O' H' O' (upd H' T (.tup [u,w])):=fun b o n e=>⟨n,by rw [ax (aN e hT)];exact e⟩
     exact ⟨Gr.new hT,.tup (fun z=>dom T z hT) aF (.cons (fd1.keeps kk2) (.cons (fd2.keeps kk2) .nil))⟩
    .exact q1.elim
 .exact q1.elim
theorem ve (h:LAs K ta pa):LI K (Aa K ta) (vd pa):=fun A ρ σ H Q Q' R q k=>h A ρ σ H _ _ R q fun vs H1 as ρ1 q1 f1 R1 o1=>by
 split at q1
 .rename_i da
  cases o1 with
  | cons o1 o3 =>
   cases o3
   split at q1
   .rename_i xs ex
    obtain ⟨b1,a1,us,rfl,l1,w1⟩:=FV.rowD (show FV K _ H1 _ da from o1) ex
    have t1:=w1 _ H1 (fun b o n h=>⟨n,h⟩)
    refine ⟨b1,a1,rfl,⟨us,t1.1⟩,k _ H1 _ _ ρ1 q1 f1 R1 fun O' H' kk dom=>?_⟩
    obtain ⟨s1,g1⟩:=w1 O' H' kk
    refine ⟨fun j hj=>?_,⟨us,s1,by omega⟩⟩
    have h1:j < us.length:=by omega
    refine ⟨⟨us,_,s1,List.getElem?_eq_getElem h1⟩,fun x H'' ⟨T,u,hT,e,y1,e2⟩=>?_⟩
    subst e e2
    obtain ⟨d1,hd1,fd1⟩:=g1.get (y1 us s1)
    have e1:itD xs j=d1:=by unfold itD;rw [List.getD_eq_getElem?_getD,hd1];rfl
    rw [e1]
    have kk2:aZ O' H' O' (upd H' T (.tup [.int (j:Int),u])):=fun b o n e=>⟨n,by rw [ax (aN e hT)];exact e⟩
    exact ⟨Gr.new hT,.tup (fun z=>dom T z hT) aF (.cons (.int _) (.cons (fd1.keeps kk2) .nil))⟩
   .exact q1.elim
 .exact q1.elim
end
def jf (pi:PTI) (g:PTG) (pb:PTS):PTS:=fun D ρ=>pi ρ fun n it ρ1=>∃I:Nat->PSt->Prop,I 0 ρ1/\(∀k ρ d,k < n->d=it k->I k ρ->g (.dat d) ρ fun ρ2=>pb { D with nx:=I (k + 1),ct:=I (k + 1),bk:=D.nx } ρ2)/\∀ρ,I n ρ->D.nx ρ
def vf (pt:PTT) (pb:PTS):PTS:=fun D ρ=>∃I:Nat->PSt->Prop,(∃m,I m ρ)/\∀m ρ,I m ρ->pt ρ fun b ρ1=>iW b (pb { D with nx:=fun ρ'=>∃m',m' < m/\I m' ρ',ct:=fun ρ'=>∃m',m' < m/\I m' ρ',bk:=D.nx } ρ1) (D.nx ρ1)
section
variable {K:PySem.W.Frag}{fs:List Nat}{wi:TI}{pi:PTI}{g:TG}{pg:PTG}{tb:TS}{pb:PTS}{tt:TT}{pt:PTT}
theorem gC (hi:LI K wi pi) (hg:LGd K fs g pg) (hb:LS K fs tb pb):LS K fs (Dz wi g tb) (jf pi pg pb):=fun fx A R H0 ρ σ H D D' hf r F q k1 k2 k3 k4=>hi A ρ σ H _ _ r q fun J H1 n it ρ1 q1 f1 r1 W=>by
 obtain ⟨I,i0,turn,after⟩:=q1
 have F1:=F.fr f1
 refine ⟨fun i m σ' H'=>i + m=n/\∃ρ',I i ρ'/\Rel K A ρ' σ' H'/\dD fx (Wr ρ1 σ) H1 ρ' σ' H',⟨n,Nat.zero_add n,ρ1,i0,r1,dD.start F1.fx⟩,fun i m σ' H' ⟨him,ρ',iv,r',F'⟩=>?_⟩
 obtain ⟨go,stop⟩:=W _ H' F'.keeps r'.dom2
 by_cases hk:i < n
 .obtain ⟨g1,g2⟩:=go i hk
  refine .inr ⟨g1,fun σ'' H''=>∃ρ'',I (i + 1) ρ''/\Rel K A ρ'' σ'' H''/\dD fx (Wr ρ1 σ) H1 ρ'' σ'' H'',fun σ'' H'' z=>⟨m - 1,by omega,by omega,z⟩,fun x H'' y=>?_⟩
  obtain ⟨gr,fv⟩:=g2 x H'' y
  refine hg fx A (Wr ρ1 σ) H1 ρ' σ' H'' _ x _ _ hf (F'.fr gr.fr) (r'.gr gr) fv (turn i ρ' _ hk rfl iv) fun ρ2 σ2 q2 r2 F2 _=>?_
  refine hb fx A (Wr ρ1 σ) H1 ρ2 σ2 H'' _ _ hf r2 F2 q2 (fun ρ3 σ3 H3 q3 r3 F3=>⟨ρ3,q3,r3,F3⟩) (fun v p ρ3 σ3 H3 q3 o3 F3=>k2 v p ρ3 σ3 H3 q3 (o3.h0 F1.dm) (F1.trans F3 F3.fx)) (fun ρ3 σ3 H3 q3 r3 F3=>k1 ρ3 σ3 H3 q3 r3 (F1.trans F3 F3.fx)) (fun ρ3 σ3 H3 q3 r3 F3=>⟨ρ3,q3,r3,F3⟩)
 .have e:i=n:=by omega
  subst e
  exact .inl ⟨stop,k1 ρ' σ' H' (after ρ' iv) r' (F1.trans F' F'.fx)⟩
theorem xE (ht:LT K tt pt) (hb:LS K fs tb pb):LS K fs (yz tt tb) (vf pt pb):=fun fx A R H0 ρ σ H D D' hf r F q k1 k2 k3 k4=>by
 obtain ⟨I,⟨m0,i0⟩,turn⟩:=q
 refine ⟨fun m σ' H'=>∃ρ',I m ρ'/\Rel K A ρ' σ' H'/\dD fx R H0 ρ' σ' H',⟨m0,ρ,i0,r,F⟩,fun m σ' H' ⟨ρ',iv,r',F'⟩=>?_⟩
 refine ht A ρ' σ' H' _ _ r' (turn m ρ' iv) fun b H1 ρ1 q1 f1 r1=>?_
 cases b with
 | true =>
  refine ⟨fun σ'' H''=>∃ρ'' m',m' < m/\I m' ρ''/\Rel K A ρ'' σ'' H''/\dD fx R H0 ρ'' σ'' H'',fun σ'' H'' ⟨ρ'',m',h1,h2⟩=>⟨m',h1,ρ'',h2⟩,?_⟩
  exact hb fx A R H0 ρ1 σ' H1 _ _ hf r1 (F'.fr f1) q1 (fun ρ3 σ3 H3 ⟨m',h1,h2⟩ r3 F3=>⟨ρ3,m',h1,h2,r3,F3⟩) k2 k1 (fun ρ3 σ3 H3 ⟨m',h1,h2⟩ r3 F3=>⟨ρ3,m',h1,h2,r3,F3⟩)
 | false=>exact k1 ρ1 σ' H1 q1 r1 (F'.fr f1)
end
def cC (ix:List (Option Nat)) (ρ:PSt):PSt:=ix.map fun o=>match o with
 | none=>none
 | some j=>match ρ[j]? with
  | some v=>v
  | none=>none
def fE:List (Option Nat)->PSt->PSt->PSt
 | some j::ix,ρ,t::τ=>fE ix (ρ.set j t) τ
 | none::ix,ρ,_::τ=>fE ix ρ τ
 | _,ρ,_=>ρ
def Ao:List (Option Nat)->Bool
 | []=>true
 | none::r=>Ao r
 | some j::r=>!r.contains (some j) && Ao r
theorem nv:∀(ix:List (Option Nat)) (ρ τ:PSt),(fE ix ρ τ).length=ρ.length
 | [],ρ,τ=>by unfold fE;rfl
 | some j::ix,ρ,t::τ=>by show (fE ix (ρ.set j t) τ).length=_;rw [nv ix,List.length_set]
 | none::ix,ρ,t::τ=>by show (fE ix ρ τ).length=_;exact nv ix ρ τ
 | some j::ix,ρ,[]=>by unfold fE;rfl
 | none::ix,ρ,[]=>by unfold fE;rfl
theorem j9:∀(ix:List (Option Nat)) (ρ τ:PSt) (j:Nat),some j∉ix->(fE ix ρ τ)[j]?=ρ[j]?
 | [],ρ,τ,j,_=>by unfold fE;rfl
 | some i::ix,ρ,t::τ,j,h=>by
  show (fE ix (ρ.set i t) τ)[j]?=_
  rw [j9 ix _ τ j (fun z=>h (List.mem_cons_of_mem _ z)),List.getElem?_set_ne (fun z=>h (by rw [z];exact List.mem_cons_self ..))]
 | none::ix,ρ,t::τ,j,h=>by show (fE ix ρ τ)[j]?=_;exact j9 ix ρ τ j fun z=>h (List.mem_cons_of_mem _ z)
 | some i::ix,ρ,[],j,_=>by unfold fE;rfl
 | none::ix,ρ,[],j,_=>by unfold fE;rfl
theorem qH:∀(ix:List (Option Nat)) (ρ τ:PSt) (j k:Nat),Ao ix=true->ix[k]?=some (some j)->k < τ.length->j < ρ.length->(fE ix ρ τ)[j]?=τ[k]?
 | some i::ix,ρ,t::τ,j,k,h,e,hk,hj=>by
  have h:(!ix.contains (some i) && Ao ix)=true:=h
  rw [Bool.and_eq_true] at h
  show (fE ix (ρ.set i t) τ)[j]?=_
  cases k with
  | zero =>
   have e:some (some i)=some (some j):=e
   cases e
   have hn:some i∉ix:=fun z=>by
    have:=h.1
    rw [List.contains_iff_mem.mpr z] at this;cases this
   rw [j9 ix _ τ i hn,List.getElem?_set_self hj];rfl
  | succ k =>
   have e:ix[k]?=some (some j):=by simpa using e
   rw [qH ix _ τ j k h.2 e (by simpa using hk) (by rw [List.length_set];exact hj)];simp
 | none::ix,ρ,t::τ,j,k,h,e,hk,hj=>by
  show (fE ix ρ τ)[j]?=_
  cases k with
  | zero=>cases e
  | succ k =>
   have e:ix[k]?=some (some j):=by simpa using e
   rw [qH ix _ τ j k h e (by simpa using hk) hj];simp
 | [],ρ,τ,j,k,h,e,hk,hj=>by simp at e
 | some i::ix,ρ,[],j,k,h,e,hk,hj=>absurd hk (Nat.not_lt_zero _)
 | none::ix,ρ,[],j,k,h,e,hk,hj=>absurd hk (Nat.not_lt_zero _)
theorem ny:∀{ix:List (Option Nat)}{k l j:Nat},Ao ix=true->ix[k]?=some (some j)->ix[l]?=some (some j)->k=l
 | some i::ix,k,l,j,h,e1,e2=>by
  have h:(!ix.contains (some i) && Ao ix)=true:=h
  rw [Bool.and_eq_true] at h
  have no:∀m,ix[m]?≠some (some i):=fun m z=>by
   have:=h.1
   rw [List.contains_iff_mem.mpr (List.mem_of_getElem? z)] at this;cases this
  cases k with
  | zero =>
   have e1:some (some i)=some (some j):=e1
   cases e1
   cases l with
   | zero=>rfl
   | succ l=>exact absurd (by simpa using e2) (no l)
  | succ k =>
   cases l with
   | zero =>
    have e2:some (some i)=some (some j):=e2
    cases e2
    exact absurd (by simpa using e1) (no k)
   | succ l=>rw [ny (k:=k) (l:=l) h.2 (by simpa using e1) (by simpa using e2)]
 | none::ix,k,l,j,h,e1,e2=>by
  cases k with
  | zero=>cases e1
  | succ k =>
   cases l with
   | zero=>cases e2
   | succ l=>rw [ny (ix:=ix) (k:=k) (l:=l) (j:=j) h (by simpa using e1) (by simpa using e2)]
 | [],k,l,j,h,e1,e2=>by simp at e1
theorem gD {ix:List (Option Nat)}{ρ:PSt}{k:Nat}{p:PV} (h:(cC ix ρ)[k]?=some (some p)):∃j,ix[k]?=some (some j)/\ρ[j]?=some (some p):=by
 unfold cC at h
 rw [List.getElem?_map] at h
 cases e:ix[k]? with
 | none=>rw [e] at h;cases h
 | some o =>
  rw [e] at h
  cases o with
  | none=>cases h
  | some j =>
   refine ⟨j,rfl,?_⟩
   have h:some (match ρ[j]? with | some v=>v | none=>none)=some (some p):=h
   cases e2:ρ[j]? with
   | none=>rw [e2] at h;cases h
   | some v=>rw [e2] at h;exact h
theorem gY {ix:List (Option Nat)}{σ:St}{k j:Nat}{v:V} (h:ix[k]?=some (some j)) (e:σ[j]?=some (some v)):(uL ix σ)[k]?=some (some v):=by
 unfold uL
 rw [List.getElem?_map,h]
 show some (match σ[j]? with | some v=>v | none=>none)=some (some v)
 rw [e]
theorem Rel.amb {K:PySem.W.Frag}{A:Addr->Prop}{ρ:PSt}{σ:St}{H:Hp}{a:Addr}{o:HO} (R:Rel K A ρ σ H) (ha:A a):Rel K A ρ σ (upd H a o):=by
 have k:aZ (OO A ρ σ) H (OO A ρ σ) (upd H a o):=fun b u n e=>⟨n,by rw [ax (fun z=>n (by rw [z];exact .inl ha))];exact e⟩
 refine ⟨R.len,fun i q e=>?_,R.dj,fun b z=>?_,R.sep⟩
 .obtain ⟨v,s,r⟩:=R.get i q e
  refine ⟨v,s,r.keeps k fun ow b eb=>?_⟩
  rw [ax]
  intro z
  subst z eb
  exact R.sep b ha ⟨i,q,e,ow,s⟩
 .by_cases z':b=a
  .rw [z',aF];exact nofun
  .rw [ax z'];exact R.dom b z
def Eg (ix:List (Option Nat)) (ρ:PSt):Bool:=ix.all fun o=>match o with | none=>true | some j=>(match ρ[j]? with | some (some _)=>true | _=>false)
structure nA (ix:List (Option Nat)) (ρ1:PSt) (n:Nat) (it:Nat->D) (g:PTG) (pt:PTT) (pe:PTE) (Q:PKt):Prop where
 ex:∃I:Nat->List D->PSt->Prop,I 0 [] (cC ix ρ1) /\
  (∀k ys τ d,k < n->d=it k->I k ys τ->g (.dat d) τ fun τ2=>pt τ2 fun ok τ3=>iW ok (pe τ3 fun p τ4=>I (k + 1) (ys++[p.d]) τ4) (I (k + 1) ys τ3))/\∀ys τ,I n ys τ->Q (.own ys) (fE ix ρ1 τ)
def gm (ix:List (Option Nat)) (pi:PTI) (g:PTG) (pt:PTT) (pe:PTE):PTE:=fun ρ Q=>pi ρ fun n it ρ1=>Eg ix ρ1=true/\n<=1000000/\nA ix ρ1 n it g pt pe Q
def pA:PTT:=fun ρ Q=>Q true ρ
theorem fZ {K:PySem.W.Frag}:LT K qy pA:=fun A ρ σ H Q Q' R q k=>k true H ρ q (Fr.refl _ _ _) R
def Bj (ix:List (Option Nat)):List Nat:=(List.range ix.length).filter fun k=>(ix.getD k none).isSome
theorem cG {K:PySem.W.Frag}{ix:List (Option Nat)}{wi:TI}{pi:PTI}{g:TG}{pg:PTG}{tts:TT}{pt:PTT}{te:TE}{pe:PTE} (hix:Ao ix=true) (hi:LI K wi pi) (hg:∀fs:List Nat,(∀k∈fs,k∈Bj ix)->LGd K fs g pg) (ht:LT K tts pt) (he:LE K te pe) :
  LE K (uM ix wi g tts te) (gm ix pi pg pt pe):=fun A ρ σ H Q Q' R q k=>hi A ρ σ H _ _ R q fun J H1 n it ρ1 q1 f1 R1 W D hD=>by
 obtain ⟨hcap,hn,⟨I,i0,turn,after⟩⟩:=q1
 let τρ0:=cC ix ρ1
 let τσ0:=uL ix σ
 let Ai:Addr->Prop:=fun b=>A b\/b=D\/(Wr ρ1 σ b/\¬ Wr τρ0 τσ0 b)
 let H0':=upd H1 D (.lst [])
 have wsub:∀b,Wr τρ0 τσ0 b->Wr ρ1 σ b:=fun b ⟨m,p,e,o,s⟩=>by
  obtain ⟨j,h1,h2⟩:=gD e
  obtain ⟨v,hv,_⟩:=R1.get j p h2
  have:=gY h1 hv
  rw [s] at this
  cases this
  exact ⟨j,p,h2,o,hv⟩
 have nD:¬ Wr ρ1 σ D:=fun z=>R1.wr z hD
 have oosub:∀b,OO Ai τρ0 τσ0 b->OO A ρ1 σ b\/b=D:=fun b z=>by
  rcases z with (z | z | z) | z
  .exact .inl (.inl z)
  .exact .inr z
  .exact .inl (.inr z.1)
  .exact .inl (.inr (wsub b z))
 have kD:aZ (OO A ρ1 σ) H1 (OO Ai τρ0 τσ0) H0':=fun b o nn e=>by
  refine ⟨fun z=>?_,?_⟩
  .rcases oosub b z with z | z
   .exact nn z
   .rw [z,hD] at e;cases e
  .rw [show H0' b=H1 b from ax (aN e hD)];exact e
 have Ri:Rel K Ai τρ0 τσ0 H0':=by
  refine ⟨by show (cC ix ρ1).length=(uL ix σ).length;unfold cC uL;rw [List.length_map,List.length_map],fun m p e=>?_,fun m l p q v e1 e2 o1 o2 s1 s2=>?_,fun b z=>?_,fun b z w=>?_⟩
  .obtain ⟨j,h1,h2⟩:=gD e
   obtain ⟨v,hv,r⟩:=R1.get j p h2
   refine ⟨v,gY h1 hv,r.keeps kD fun ow a ea=>?_⟩
   subst ea
   exact ax (fun z=>nD (by rw [<- z];exact ⟨j,p,h2,ow,hv⟩))
  .obtain ⟨j,h1,h2⟩:=gD e1
   obtain ⟨j',h3,h4⟩:=gD e2
   obtain ⟨v1,hv1,_⟩:=R1.get j p h2
   obtain ⟨v2,hv2,_⟩:=R1.get j' q h4
   have t1:=gY h1 hv1
   have t2:=gY h3 hv2
   rw [s1] at t1
   rw [s2] at t2
   cases t1
   cases t2
   have:=R1.dj j j' p q _ h2 h4 o1 o2 hv1 hv2
   subst this
   exact ny hix h1 h3
  .rcases z with z | z | z
   .intro e
    by_cases zz:b=D
    .exact R1.dom b z (by rw [zz];exact hD)
    .rw [show H0' b=H1 b from ax zz] at e;exact R1.dom b z e
   .rw [z];show upd H1 D _ D≠none;rw [aF];exact nofun
   .intro e
    rw [show H0' b=H1 b from ax (fun zz=>nD (by rw [<- zz];exact z.1))] at e;exact R1.wr z.1 e
  .rcases z with z | z | z
   .exact R1.sep b z (wsub b w)
   .rw [z] at w;exact nD (wsub D w)
   .exact z.2 w
 let fxi:List (Nat×V):=(Bj ix).filterMap fun m=>match (τσ0[m]?) with | some (some v)=>some (m,v) | _=>none
 have hfx:∀p∈fxi,τσ0[p.1]?=some (some p.2):=fun p hp=>by
  obtain ⟨m,hm,e⟩:=List.mem_filterMap.mp hp
  split at e
  .rename_i v ev;cases e;exact ev
  .cases e
 have hfs:∀m∈fxi.map Prod.fst,m∈Bj ix:=fun m hm=>by
  obtain ⟨p,hp,rfl⟩:=List.mem_map.mp hm
  obtain ⟨m',hm',e⟩:=List.mem_filterMap.mp hp
  split at e
  .cases e;exact hm'
  .cases e
 have hgi:=hg (fxi.map Prod.fst) hfs
 have fxget:∀(m j:Nat) (v:V),ix[m]?=some (some j)->σ[j]?=some (some v)->(m,v)∈fxi:=fun m j v h1 h2=>by
  refine List.mem_filterMap.mpr ⟨m,?_,?_⟩
  .unfold Bj
   refine List.mem_filter.mpr ⟨List.mem_range.mpr (List.getElem?_eq_some_iff.mp h1).1,?_⟩
   rw [List.getD_eq_getElem?_getD,h1];rfl
  .show (match (uL ix σ)[m]? with | some (some v)=>some (m,v) | _=>none)=_
   rw [gY h1 h2]
 let Rr:Addr->Prop:=fun b=>Wr τρ0 τσ0 b\/b=D
 have hRr:∀b,Rr b->OO Ai τρ0 τσ0 b:=fun b z=>z.elim (fun z=>.inr z) (fun z=>.inl (.inr (.inl z)))
 have F0:dD fxi Rr H0' τρ0 τσ0 H0':=⟨fun _ _ _ h=>h,fun _ h=>h,fun b w=>.inl (.inl w),hfx⟩
 refine ⟨fun i m τ H2=>i + m=n/\∃ys τρ xs,I i ys τρ/\ys.length<=i/\Rel K Ai τρ τ H2/\dD fxi Rr H0' τρ τ H2/\H2 D=some (.lst xs)/\FVs K (OO Ai τρ τ) H2 xs ys/\∀b,Wr τρ τ b->Wr τρ0 τσ0 b,
  ⟨n,Nat.zero_add n,[],τρ0,[],i0,Nat.le_refl _,Ri,F0,aF,.nil,fun _ h=>h⟩,fun i m τ H2 ⟨him,ys,τρ,xs,iv,hy,r2,F2,eD,fD,hw⟩=>?_⟩
 have kk:aZ (OO A ρ1 σ) H1 (OO Ai τρ τ) H2:=fun b o nn e=>(F2.keepsR hRr) b o (kD b o nn e).1 (kD b o nn e).2
 obtain ⟨go,stop⟩:=W _ H2 kk r2.dom2
 by_cases hk:i < n
 .obtain ⟨g1,g2⟩:=go i hk
  refine .inr ⟨g1,fun x H3 y=>?_⟩
  obtain ⟨gr,fv⟩:=g2 x H3 y
  have AiD:Ai D:=.inr (.inl rfl)
  refine hgi fxi Ai Rr H0' τρ τ H3 _ x _ _ rfl (F2.fr gr.fr) (r2.gr gr) fv (turn i ys τρ _ hk rfl iv) fun τρ2 τ2 q2 r3 F3 w3=>?_
  refine ht Ai τρ2 τ2 H3 _ _ r3 q2 fun ok H5 τρ3 q3 f5 r5=>?_
  have F5:=F3.fr f5
  have fD5:FVs K (OO Ai τρ3 τ2) H5 xs ys:=((fD.keeps (gr.fr (ρ:=τρ) (σ:=τ)).keeps).keeps (aZ.less fun b z=>z.imp id (w3 b))).keeps f5.keeps
  have eD5:H5 D=some (.lst xs):=f5.kp D _ (r3.sep D AiD) (gr D _ eD)
  cases ok with
  | true =>
   refine he Ai τρ3 τ2 H5 _ _ r5 q3 fun v H6 p τρ4 q4 f6 o6=>?_
   obtain ⟨r6,fv6⟩:=o6.frz
   have F6:=F5.fr f6
   have eD6:H6 D=some (.lst xs):=f6.kp D _ (r5.sep D AiD) eD5
   have kw:aZ (OO Ai τρ4 τ2) H6 (OO Ai τρ4 τ2) (upd H6 D (.lst (xs++[v]))):=fun b o nn e=>⟨nn,by rw [ax (fun z=>nn (by rw [z];exact .inl AiD))];exact e⟩
   refine ⟨xs,eD6,?_,m - 1,by omega,by omega,ys++[p.d],τρ4,xs++[v],q4,by rw [List.length_append];show _ + 1<=_;omega,r6.amb AiD,⟨fun b o nn e=>?_,fun b z=>?_,F6.ow,F6.fx⟩,aF,((fD5.keeps f6.keeps).append (.cons fv6 .nil)).keeps kw,fun b z=>hw b (w3 b (f5.ow b (f6.ow b z)))⟩
   .have:xs.length=ys.length:=fD.length
    exact Nat.lt_of_lt_of_le (by omega:xs.length < 1000000) (sz _ (Nat.le_refl _))
   .rw [ax (fun z=>nn (.inr z))];exact F6.kp b o nn e
   .by_cases zz:b=D
    .rw [zz,aF];exact nofun
    .rw [ax zz];exact F6.dm b z
  | false=>exact ⟨m - 1,by omega,by omega,ys,τρ3,xs,q3,by omega,r5,F5,eD5,fD5,fun b z=>hw b (w3 b (f5.ow b z))⟩
 .have e:i=n:=by omega
  subst e
  refine .inl ⟨stop,?_⟩
  have q':=after ys τρ iv
  have cap:∀(m j:Nat),ix[m]?=some (some j)->∃p v,ρ1[j]?=some (some p)/\σ[j]?=some (some v)/\τ[m]?=some (some v):=fun m j e=>by
   have h1:=List.all_eq_true.mp hcap _ (List.mem_of_getElem? e)
   have h1:(match ρ1[j]? with | some (some _)=>true | _=>false)=true:=h1
   split at h1
   .rename_i p ep
    obtain ⟨v,hv,_⟩:=R1.get j p ep
    exact ⟨p,v,ep,hv,F2.fx _ (fxget m j v e hv)⟩
   .cases h1
  have get':∀(j:Nat) (p:PV),(fE ix ρ1 τρ)[j]?=some (some p)->(∃m v,ix[m]?=some (some j)/\σ[j]?=some (some v)/\τ[m]?=some (some v)/\τρ[m]?=some (some p))\/(some j∉ix/\ρ1[j]?=some (some p)):=fun j p e=>by
   by_cases hj:some j∈ix
   .obtain ⟨m,hm,em⟩:=List.getElem_of_mem hj
    have em':ix[m]?=some (some j):=by rw [List.getElem?_eq_getElem hm,em]
    obtain ⟨p0,v,h1,h2,h3⟩:=cap m j em'
    rw [qH ix ρ1 τρ j m hix em' (by rw [r2.len];exact (List.getElem?_eq_some_iff.mp h3).1) (List.getElem?_eq_some_iff.mp h1).1] at e
    exact .inl ⟨m,v,em',h2,h3,e⟩
   .rw [j9 ix ρ1 τρ j hj] at e
    exact .inr ⟨hj,e⟩
  have nocap:∀(j:Nat) (p:PV) (b:Addr),some j∉ix->ρ1[j]?=some (some p)->p.isOwn=true->σ[j]?=some (some (.ref b))->¬ Wr τρ0 τσ0 b:=fun j p b hj e o s ⟨m,q,e1,o1,s1⟩=>by
   obtain ⟨j',h1,h2⟩:=gD e1
   obtain ⟨v,hv,_⟩:=R1.get j' q h2
   have:=gY h1 hv
   rw [s1] at this
   cases this
   have:=R1.dj j j' p q _ e h2 o o1 s hv
   subst this
   exact hj (List.mem_of_getElem? h1)
  have w':∀b,Wr (fE ix ρ1 τρ) σ b->Wr τρ τ b\/(Wr ρ1 σ b/\¬ Wr τρ0 τσ0 b):=fun b ⟨j,p,e,o,s⟩=>by
   rcases get' j p e with ⟨m,v,h1,h2,h3,h4⟩ | ⟨hj,h1⟩
   .rw [s] at h2;cases h2;exact .inl ⟨m,p,h4,o,h3⟩
   .exact .inr ⟨⟨j,p,h1,o,s⟩,nocap j p b hj h1 o s⟩
  have oo':∀b,OO (iM A D) (fE ix ρ1 τρ) σ b->OO Ai τρ τ b:=fun b z=>by
   rcases z with (z | z) | z
   .exact .inl (.inl z)
   .exact .inl (.inr (.inl z))
   .rcases w' b z with z | z
    .exact .inr z
    .exact .inl (.inr (.inr z))
  have kp1:∀b o,¬ Wr τρ0 τσ0 b->b≠D->H1 b=some o->H2 b=some o:=fun b o n1 n2 e=>F2.kp b o (fun z=>z.elim n1 n2) (by rw [show H0' b=H1 b from ax n2];exact e)
  have k1:aZ (OO A ρ1 σ) H1 (OO (iM A D) (fE ix ρ1 τρ) σ) H2:=fun b o nn e=>⟨fun z=>(kk b o nn e).1 (oo' b z),(kk b o nn e).2⟩
  have AiD:Ai D:=.inr (.inl rfl)
  have R':Rel K (iM A D) (fE ix ρ1 τρ) σ H2:=by
   refine ⟨by rw [nv];exact R1.len,fun j p e=>?_,fun j l p q v e1 e2 o1 o2 s1 s2=>?_,fun b z=>?_,fun b z w=>?_⟩
   .rcases get' j p e with ⟨m,v,h1,h2,h3,h4⟩ | ⟨hj,h1⟩
    .obtain ⟨v',hv',r⟩:=r2.get m p h4
     rw [h3] at hv';cases hv'
     exact ⟨v,h2,r.keeps (aZ.less oo') fun _ _ _=>rfl⟩
    .obtain ⟨v,hv,r⟩:=R1.get j p h1
     refine ⟨v,hv,r.keeps k1 fun ow a ea=>?_⟩
     subst ea
     obtain ⟨a',u,e1,e2⟩:=r.ref ow
     cases e1
     rw [e2]
     exact kp1 a u (nocap j p a hj h1 ow hv) (fun z=>by rw [z,hD] at e2;cases e2) e2
   .rcases get' j p e1 with ⟨m,v1,h1,h2,h3,h4⟩ | ⟨hj,h1⟩
    .rw [s1] at h2;cases h2
     rcases get' l q e2 with ⟨m',v2,g1,g2,g3,g4⟩ | ⟨hl,g1⟩
     .rw [s2] at g2;cases g2
      have:=r2.dj m m' p q _ h4 g4 o1 o2 h3 g3
      subst this
      rw [h1] at g1;cases g1;rfl
     .exfalso
      obtain ⟨v',hv',r⟩:=r2.get m p h4
      rw [h3] at hv';cases hv'
      obtain ⟨a,u,ea,_⟩:=r.ref o1
      subst ea
      exact nocap l q a hl g1 o2 s2 (hw a ⟨m,p,h4,o1,h3⟩)
    .rcases get' l q e2 with ⟨m',v2,g1,g2,g3,g4⟩ | ⟨hl,g1⟩
     .rw [s2] at g2;cases g2
      exfalso
      obtain ⟨v',hv',r⟩:=r2.get m' q g4
      rw [g3] at hv';cases hv'
      obtain ⟨a,u,ea,_⟩:=r.ref o2
      subst ea
      exact nocap j p a hj h1 o1 s1 (hw a ⟨m',q,g4,o2,g3⟩)
     .exact R1.dj j l p q v h1 g1 o1 o2 s1 s2
   .rcases z with z | z
    .exact r2.dom b (.inl z)
    .rw [z,eD];exact nofun
   .rcases w' b w with w | w
    .rcases z with z | z
     .exact r2.sep b (.inl z) w
     .rw [z] at w;exact r2.sep D AiD w
    .rcases z with z | z
     .exact R1.sep b z w.1
     .rw [z] at w;exact nD w.1
  have f2:Fr ρ1 σ H1 (fE ix ρ1 τρ) H2:=by
   refine ⟨fun b o nn e=>kp1 b o (fun z=>nn (wsub b z)) (fun z=>by rw [z,hD] at e;cases e) e,fun b z=>F2.dm b ?_,fun b z=>?_⟩
   .intro e
    by_cases zz:b=D
    .exact z (by rw [zz];exact hD)
    .rw [show H0' b=H1 b from ax zz] at e;exact z e
   .rcases w' b z with z | z
    .exact wsub b (hw b z)
    .exact z.1
  have hD0:H D=none:=by
   cases e:H D with
   | none=>rfl
   | some o=>exact absurd hD (f1.dm D (by rw [e];exact nofun))
  exact k _ H2 (.own ys) _ q' (f1.trans f2) ⟨D,xs,rfl,fun z=>R1.dom D z hD,hD0,eD,R',fD.keeps (aZ.less oo')⟩
section
variable {K:PySem.W.Frag}{A A':Addr->Prop}{ρ:PSt}{σ:St}{H H':Hp}
theorem Rel.lstw (R:Rel K A ρ σ H) {i:Nat}{ds es:List D}{a:Addr}{ys:List V} (e:ρ[i]?=some (some (.own ds))) (es':σ[i]?=some (some (.ref a))) (f:FVs K (OO A ρ σ) H ys es) :
  Rel K A (ρ.set i (some (.own es))) σ (upd H a (.lst ys))/\Fr ρ σ H (ρ.set i (some (.own es))) (upd H a (.lst ys)):=by
 have wa:OO A ρ σ a:=.inr ⟨i,_,e,rfl,es'⟩
 exact R.write (q:=.own es) e rfl rfl es' ⟨a,ys,rfl,aF,f.keeps fun b u n h=>⟨n,by rw [ax (fun z=>n (by rw [z];exact wa))];exact h⟩⟩
theorem Rel.ownAt (R:Rel K A ρ σ H) {i:Nat}{ds:List D} (e:ρ[i]?=some (some (.own ds))):∃a xs,σ[i]?=some (some (.ref a))/\H a=some (.lst xs)/\FVs K (OO A ρ σ) H xs ds:=by
 obtain ⟨v,s,a,xs,rfl,g,f⟩:=R.get i _ e
 exact ⟨a,xs,s,g,f⟩
end
def wH (i:Nat) (pe:PTE):PTE:=fun ρ Q=>match ρ[i]? with
 | some (some (.own _))=>pe ρ fun p ρ1=>(match ρ1[i]? with
  | some (some (.own ds))=>ds.length < 1000000/\Q (.dat .non) (ρ1.set i (some (.own (ds++[p.d]))))
  | _=>False)
 | _=>False
def mr (i:Nat) (pe pk:PTE):PTS:=fun D ρ=>pe ρ fun p ρ1=>(match ρ1[i]? with
 | some (some (.own _))=>pk ρ1 fun kp ρ2=>(match ρ2[i]?,kp with
  | some (some (.own ds)),.dat (.int k)=>∃j,ixN ds.length k=some j/\D.nx (ρ2.set i (some (.own (ds.set j p.d))))
  | _,_=>False)
 | _=>False)
section
variable {K:PySem.W.Frag}{te tk:TE}{pe pk:PTE}{fs:List Nat}
theorem jR {i:Nat} (h:LE K te pe):LE K (tBM K "list" ut (cJ i) (bV te i4)) (wH i pe):=fun A ρ σ H Q Q' R q k=>by
 unfold wH at q
 split at q
 .rename_i ds0 e0
  obtain ⟨a0,xs0,s0,g0,f0⟩:=R.ownAt e0
  refine ⟨_,s0,.inl ⟨rfl,xs0,SqL.of g0⟩,h A ρ σ H _ _ R q fun v H1 p ρ1 q1 f1 o1=>?_⟩
  obtain ⟨R1,fv⟩:=o1.frz
  split at q1
  .rename_i ds e1
   obtain ⟨a,xs,s,g,f⟩:=R1.ownAt e1
   rw [s0] at s;cases s
   obtain ⟨R2,f2⟩:=R1.lstw e1 s0 (f.append (.cons fv .nil))
   exact ⟨a0,xs,v,rfl,rfl,g,Nat.lt_of_lt_of_le (by rw [f.length];exact q1.1) (sz _ (Nat.le_refl _)),k _ _ _ _ q1.2 (f1.trans f2) ⟨R2,.non⟩⟩
  .exact q1.elim
 .exact q.elim
theorem kE {i:Nat} (h:LE K te pe) (hk:LE K tk pk):LS K fs (Be te (EQ (cJ i) tk BM)) (mr i pe pk):=fun fx A R H0 ρ σ H D D' hf r F q k1 k2 k3 k4=>h A ρ σ H _ _ r q fun v H1 p ρ1 q1 f1 o1=>by
 obtain ⟨R1,fv⟩:=o1.frz
 split at q1
 .rename_i ds0 e0
  obtain ⟨a0,xs0,s0,g0,f0⟩:=R1.ownAt e0
  refine ⟨_,s0,hk A ρ1 σ H1 _ _ R1 q1 fun w H2 kp ρ2 q2 f2 o2=>?_⟩
  split at q2
  .rename_i ds j e2
   obtain ⟨n,hn,q2⟩:=q2
   obtain ⟨R2,fw⟩:=o2
   cases fw
   obtain ⟨a,xs,s,g,f⟩:=R2.ownAt e2
   rw [s0] at s;cases s
   obtain ⟨R3,f3⟩:=R2.lstw e2 s0 (FVs.set (fv.keeps f2.keeps) n f)
   exact ⟨a0,xs,j,n,rfl,rfl,g,by rw [f.length];exact hn,k1 _ _ _ q2 R3 (((F.fr f1).fr f2).fr f3)⟩
  .exact q2.elim
 .exact q1.elim
end
def spP (K:PySem.W.Frag) (c:FN):Sp:=fun vs H Q _=>∃(O:Addr->Prop) (ds:List D) (Qc:PV->Prop),(∀b,O b->H b≠none)/\FVs K O H vs ds/\c ds Qc/\∀r,Qc r->∀v H',Gr H H'->qj K O H H' r v->Q v H'
def ba (c:FN) (pr:PTA):PTE:=fun ρ Q=>pr ρ fun as ρ1=>match avD as with
 | some ds=>c ds fun r=>Q r ρ1
 | none=>False
theorem jg {N:List Str}{vs:List V}{i:Nat}{v:V} (h:vs[i]?=some v):(start N vs)[i]?=some (some v):=by
 unfold start
 rw [List.getElem?_append_left (by rw [List.length_map];exact (List.getElem?_eq_some_iff.mp h).1),List.getElem?_map,h];rfl
def c9 (n:Nat) (ps:List PV):PSt:=ps.map some++List.replicate (n - ps.length) none
theorem dq {n:Nat}{ps:List PV}{i:Nat}{p:PV} (h:(c9 n ps)[i]?=some (some p)):ps[i]?=some p:=by
 unfold c9 at h
 by_cases hi:i < ps.length
 .rw [List.getElem?_append_left (by rw [List.length_map];exact hi),List.getElem?_map] at h
  cases e:ps[i]? with
  | none=>rw [e] at h;cases h
  | some q=>rw [e] at h;cases h;rfl
 .rw [List.getElem?_append_right (by rw [List.length_map];omega)] at h
  have:=List.mem_of_getElem? h
  rw [List.mem_replicate] at this
  cases this.2
section
variable {K:PySem.W.Frag}{tr:TA}{pr:PTA}{ts:TS}{ps:PTS}
theorem aE {c:FN} (h:LAs K tr pr):LE K (iJ (spP K c) [] E0 tr) (ba c pr):=fun A ρ σ H Q Q' R q k=>h A ρ σ H _ _ R q fun vs H1 as ρ1 q1 f1 R1 o1=>by
 split at q1
 .rename_i ds e
  rw [List.append_nil]
  exact ⟨OO A ρ1 σ,ds,_,R1.dom2,o1.avD e,q1,fun r qr v H' g ov=>k v H' r ρ1 qr (f1.trans g.fr) ((ov.out R1 g).h0 f1.dm)⟩
 .exact q1.elim
theorem Out.outV {O:Addr->Prop}{ρ:PSt}{σ:St}{H H':Hp}{p:PV}{v:V} (h:Out K O ρ σ H H' p v):qj K O H H' p v:=by
 cases p with
 | dat d=>exact h.2.keeps (aZ.less fun b z=>.inl z)
 | own ds =>
  obtain ⟨a,xs,e1,na,e2,e3,R,f⟩:=h
  exact ⟨a,xs,e1,e2,e3,f.keeps (aZ.less fun b z=>.inl z)⟩
 | ins c ns ds =>
  obtain ⟨a,dx,fs,e1,na,e2,e3,m,R,f⟩:=h
  exact ⟨a,dx,fs,e1,e2,e3,m,f.keeps (aZ.less fun b z=>.inl z)⟩
theorem fnP {c:FN}{N:List Str} (hl:LS K [] ts ps) (hn:∀ds Q,c ds Q->ds.length<=N.length) (hc:∀ds Q,c ds Q->ps { nx:=fun _=>Q (.dat .non),rt:=fun p _=>Q p } (c9 N.length (ds.map .dat)))
  {vs:List V}{H:Hp}{Q:VK}{E:XK} (h:spP K c vs H Q E):ts { nx:=fun _ H'=>Q .non H',rt:=Q } (start N vs) H:=by
 obtain ⟨O,ds,Qc,dom,fv,hq,k⟩:=h
 have nw:∀(ρ:PSt) (b:Addr),ρ=c9 N.length (ds.map .dat)->¬ Wr ρ (start N vs) b:=fun ρ b e ⟨i,p,e1,o1,s1⟩=>by
  rw [e] at e1
  have:=dq e1
  rw [List.getElem?_map] at this
  cases e2:ds[i]? with
  | none=>rw [e2] at this;cases this
  | some d=>rw [e2] at this;cases this;cases o1
 have lenv:=fv.length
 have hle:=hn ds Qc hq
 have R0:Rel K O (c9 N.length (ds.map .dat)) (start N vs) H:=by
  refine ⟨?_,fun i p e=>?_,fun i j p q v e1 e2 o1 o2 s1 s2=>?_,dom,fun b _ w=>nw _ b rfl w⟩
  .unfold c9 start
   rw [List.length_append,List.length_append,List.length_map,List.length_map,List.length_map,List.length_replicate,List.length_replicate,lenv]
  .have:=dq e
   rw [List.getElem?_map] at this
   cases e2:ds[i]? with
   | none=>rw [e2] at this;cases this
   | some d =>
    rw [e2] at this;cases this
    obtain ⟨v,hv,f⟩:=fv.getD e2
    exact ⟨v,jg hv,f.keeps (aZ.less fun b z=>z.elim id fun w=>absurd w (nw _ b rfl))⟩
  .have:=dq e1
   rw [List.getElem?_map] at this
   cases e3:ds[i]? with
   | none=>rw [e3] at this;cases this
   | some d=>rw [e3] at this;cases this;cases o1
 refine hl [] O (fun _=>False) H _ _ H _ _ rfl R0 ⟨fun _ _ _ h=>h,fun _ h=>h,fun b w=>absurd w (nw _ b rfl),fun p hp=>nomatch hp⟩ (hc ds Qc hq) (fun ρ' σ' H' q r F=>?_) (fun v p ρ' σ' H' q o F=>?_) (fun _ _ _ z=>z.elim) (fun _ _ _ z=>z.elim)
 .exact k _ q .non H' (fun b o e=>F.kp b o id e) .non
 .exact k _ q v H' (fun b o e=>F.kp b o id e) o.outV
abbrev FR:=PV->List D->(PV->PV->Prop)->Prop
def spR (K:PySem.W.Frag) (c:FR):Sp:=fun vs H Q _=>∃(A:Addr->Prop) (a:Addr) (p:PV) (ws:List V) (ds:List D) (Qc:PV->PV->Prop),vs=.ref a::ws/\p.isOwn=true/\(∀b,A b->H b≠none)/\¬ A a/\RS K (iM A a) H p (.ref a)/\FVs K (iM A a) H ws ds/\c p ds Qc /\
 ∀r p',Qc r p'->p'.isOwn=true->∀v H',(∀b o,b≠a->H b=some o->H' b=some o)->H' a≠none->RS K (iM A a) H' p' (.ref a)->qj K (iM A a) H H' r v->(∀a',v=.ref a'->r.isOwn=true->RS K (iM (iM A a) a') H' p' (.ref a))->Q v H'
def Bk (Q:PV->PV->Prop) (r:PV) (ρ:PSt):Prop:=match ρ[0]? with
 | some (some p)=>p.isOwn=true/\Q r p
 | _=>False
theorem fnR {c:FR}{N:List Str} (hl:LS K [0] ts ps) (hn:∀p ds Q,c p ds Q->ds.length + 1<=N.length) (hc:∀p ds Q,p.isOwn=true->c p ds Q->ps { nx:=Bk Q (.dat .non),rt:=Bk Q } (c9 N.length (p::ds.map .dat)))
  {vs:List V}{H:Hp}{Q:VK}{E:XK} (h:spR K c vs H Q E):ts { nx:=fun _ H'=>Q .non H',rt:=Q } (start N vs) H:=by
 obtain ⟨A,a,p,ws,ds,Qc,rfl,ow,dom,na,rs,fv,hq,k⟩:=h
 have s0:(start N (V.ref a::ws))[0]?=some (some (.ref a)):=jg rfl
 have b0:(c9 N.length (p::ds.map .dat))[0]?=some (some p):=rfl
 have wr:∀b,Wr (c9 N.length (p::ds.map .dat)) (start N (.ref a::ws)) b->b=a:=fun b ⟨i,q,e1,o1,s1⟩=>by
  have:=dq e1
  cases i with
  | zero=>rw [s0] at s1;cases s1;rfl
  | succ i =>
   rw [List.getElem?_cons_succ,List.getElem?_map] at this
   cases e2:ds[i]? with
   | none=>rw [e2] at this;cases this
   | some d=>rw [e2] at this;cases this;cases o1
 have wa:Wr (c9 N.length (p::ds.map .dat)) (start N (.ref a::ws)) a:=⟨0,p,b0,ow,s0⟩
 have oeq:OO A (c9 N.length (p::ds.map .dat)) (start N (.ref a::ws))=iM A a:=funext fun b=>propext ⟨fun z=>z.imp id (wr b),fun z=>z.imp id fun z=>by rw [z];exact wa⟩
 have lenv:=fv.length
 have hle:=hn p ds Qc hq
 have R0:Rel K A (c9 N.length (p::ds.map .dat)) (start N (.ref a::ws)) H:=by
  refine ⟨?_,fun i q e=>?_,fun i j q1 q2 v e1 e2 o1 o2 s1 s2=>?_,dom,fun b z w=>?_⟩
  .unfold c9 start
   simp only [List.length_append,List.length_map,List.length_replicate,List.length_cons,lenv]
  .have:=dq e
   rw [oeq]
   cases i with
   | zero=>cases this;exact ⟨_,s0,rs⟩
   | succ i =>
    rw [List.getElem?_cons_succ,List.getElem?_map] at this
    cases e2:ds[i]? with
    | none=>rw [e2] at this;cases this
    | some d =>
     rw [e2] at this;cases this
     obtain ⟨v,hv,f⟩:=fv.getD e2
     exact ⟨v,jg (by rw [List.getElem?_cons_succ];exact hv),f⟩
  .have own0:∀(i:Nat) (q:PV),(c9 N.length (p::ds.map .dat))[i]?=some (some q)->q.isOwn=true->i=0:=fun i q e o=>by
    have:=dq e
    cases i with
    | zero=>rfl
    | succ i =>
     rw [List.getElem?_cons_succ,List.getElem?_map] at this
     cases e2:ds[i]? with
     | none=>rw [e2] at this;cases this
     | some d=>rw [e2] at this;cases this;cases o
   rw [own0 i q1 e1 o1,own0 j q2 e2 o2]
  .rw [wr b w] at z;exact na z
 have fin:∀(v:V) (r:PV) (ρ':PSt) (σ':St) (H':Hp),Bk Qc r ρ'->Out K A ρ' σ' H H' r v->dD [(0,.ref a)] (fun b=>b=a) H ρ' σ' H'->Q v H':=fun v r ρ' σ' H' q o F=>by
  unfold Bk at q
  split at q
  .rename_i p' e'
   obtain ⟨ow',q⟩:=q
   have sa:=F.fx (0,.ref a) (List.mem_singleton.mpr rfl)
   have wa':Wr ρ' σ' a:=⟨0,p',e',ow',sa⟩
   have kpa:∀b o,b≠a->H b=some o->H' b=some o:=fun b o n e=>F.kp b o n e
   cases r with
   | dat d =>
    obtain ⟨R1,f1⟩:=o
    obtain ⟨v1,s1,rs1⟩:=R1.get 0 p' e'
    rw [sa] at s1;cases s1
    have less:∀b,iM A a b->OO A ρ' σ' b:=fun b z=>z.imp id fun z=>by rw [z];exact wa'
    exact k _ p' q ow' v H' kpa (R1.wr wa') (rs1.keeps (aZ.less less) fun _ _ _=>rfl) (f1.keeps (aZ.less less)) (fun _ _ z=>nomatch z)
   | own es =>
    obtain ⟨a',xs,rfl,n1,n2,e3,R1,f1⟩:=o
    obtain ⟨v1,s1,rs1⟩:=R1.get 0 p' e'
    rw [sa] at s1;cases s1
    have less:∀b,iM (iM A a) a' b->OO (iM A a') ρ' σ' b:=fun b z=>by
     rcases z with (z | z) | z
     .exact .inl (.inl z)
     .exact .inr (by rw [z];exact wa')
     .exact .inl (.inr z)
    exact k _ p' q ow' _ H' kpa (R1.wr wa') (rs1.keeps (aZ.less fun b z=>less b (.inl z)) fun _ _ _=>rfl) ⟨a',xs,rfl,n2,e3,f1.keeps (aZ.less less)⟩ (fun a'' e _=>by cases e;exact rs1.keeps (aZ.less less) fun _ _ _=>rfl)
   | ins c ns es =>
    obtain ⟨a',dx,fs,rfl,n1,n2,e3,m,R1,f1⟩:=o
    obtain ⟨v1,s1,rs1⟩:=R1.get 0 p' e'
    rw [sa] at s1;cases s1
    have less:∀b,iM (iM A a) a' b->OO (iM A a') ρ' σ' b:=fun b z=>by
     rcases z with (z | z) | z
     .exact .inl (.inl z)
     .exact .inr (by rw [z];exact wa')
     .exact .inl (.inr z)
    exact k _ p' q ow' _ H' kpa (R1.wr wa') (rs1.keeps (aZ.less fun b z=>less b (.inl z)) fun _ _ _=>rfl) ⟨a',dx,fs,rfl,n2,e3,m,f1.keeps (aZ.less less)⟩ (fun a'' e _=>by cases e;exact rs1.keeps (aZ.less less) fun _ _ _=>rfl)
  .exact q.elim
 refine hl [(0,.ref a)] A (fun b=>b=a) H _ _ H _ _ rfl R0 ⟨fun _ _ _ h=>h,fun _ h=>h,fun b w=>.inl (wr b w),fun q hq=>by rw [List.mem_singleton.mp hq];exact s0⟩ (hc p ds Qc ow hq) (fun ρ' σ' H' q r F=>fin .non (.dat .non) ρ' σ' H' q ⟨r,.non⟩ F) (fun v p ρ' σ' H' q o F=>fin v p ρ' σ' H' q o F) (fun _ _ _ z=>z.elim) (fun _ _ _ z=>z.elim)
end
def E9:FN:=fun as Q=>∃ns:List Int,as=[.scr ns]/\ns.length<=63/\Q (.dat (.bl true))
theorem Ap {K:PySem.W.Frag}{vs:List V}{H:Hp}{Q:VK}{E:XK} (h:tf K vs H Q E):spP K E9 vs H Q E:=by
 obtain ⟨a,ns,rfl,hS,h63,q⟩:=h
 refine ⟨fun _=>False,[.scr ns],fun r=>r=.dat (.bl true),nofun,.cons (.scr ?_) .nil,⟨ns,rfl,h63,rfl⟩,fun r e v H' g o=>?_⟩
 .rcases hS with h | h
  .exact .inl ⟨id,h⟩
  .exact .inr h
 .subst e
  cases o
  exact q H'
section
variable {K:PySem.W.Frag}{X:Cx}
def Fa:List V->Hp->VK->Prop:=fun xs H Q=>∃i,xs=[.int i]/\Q (.int (if i < 0 then -i else i)) H
def Cw:List V->Hp->VK->Prop:=fun xs H Q=>∃i j,xs=[.int i,.int j]/\Q (.int (if j < i then j else i)) H
theorem Eh:bK X (.builtin "abs") Fa:=wW
theorem yO (hc:X.calm=true):bK X (.builtin "min") Cw:=uh hc
def Ei:FN
 | [.int i],Q=>Q (.dat (.int (if i < 0 then -i else i)))
 | _,_=>False
def xF:FN
 | [.int i,.int j],Q=>Q (.dat (.int (if j < i then j else i)))
 | _,_=>False
theorem Cy:LC K Fa Ei:=by
 intro O H xs as Q Q' dom fs q k
 unfold Ei at q
 split at q
 .cases fs with | cons a b=>cases b;rw [a.int];exact ⟨_,rfl,k _ H _ q (Gr.refl _) (.int _)⟩
 .exact q.elim
theorem vg:LC K Cw xF:=by
 intro O H xs as Q Q' dom fs q k
 unfold xF at q
 split at q
 .cases fs with
  | cons a b=>cases b with | cons b c=>cases c;rw [a.int,b.int];exact ⟨_,_,rfl,k _ H _ q (Gr.refl _) (.int _)⟩
 .exact q.elim
def Cz (K:PySem.W.Frag):List V->Hp->VK->Prop:=fun xs H Q=>∃(p:Addr) (ns:List Int),xs=[.ref p]/\SqL K H p (ns.map V.int)/\0 < ns.length/\∀m:Int,m∈ns->(∀a∈ns,m<=a)->Q (.int m) H
def CA (K:PySem.W.Frag):List V->Hp->VK->Prop:=fun xs H Q=>∃(p:Addr) (ns:List Int),xs=[.ref p]/\SqL K H p (ns.map V.int)/\Q (.int ns.sum) H
def Fb (K:PySem.W.Frag):List V->Hp->VK->Prop:=fun xs H Q=>∃(p:Addr) (bs:List Bool),xs=[.ref p]/\SqL K H p (bs.map V.bl)/\Q (.bl (bs.all id)) H
def Fc (K:PySem.W.Frag):List V->Hp->VK->Prop:=fun xs H Q=>∃(p:Addr) (bs:List Bool),xs=[.ref p]/\SqL K H p (bs.map V.bl)/\Q (.bl (bs.any id)) H
theorem CB (K:PySem.W.Frag) (e:X.K=K) (hc:X.calm=true):bK X (.builtin "min") (Cz K):=by subst e;exact u0 hc
theorem vh (K:PySem.W.Frag) (e:X.K=K) (hc:X.calm=true):bK X (.builtin "sum") (CA K):=by subst e;exact u4 hc
theorem CC (K:PySem.W.Frag) (e:X.K=K) (hc:X.calm=true):bK X (.builtin "all") (Fb K):=by subst e;exact xu hc
theorem Ej (K:PySem.W.Frag) (e:X.K=K) (hc:X.calm=true):bK X (.builtin "any") (Fc K):=by subst e;exact xv hc
def Aq:FN
 | [.lst ds],Q=>∃ns:List Int,ds=ns.map .int/\0 < ns.length/\∀m:Int,m∈ns->(∀a∈ns,m<=a)->Q (.dat (.int m))
 | _,_=>False
def vi:FN
 | [.lst ds],Q=>∃ns:List Int,ds=ns.map .int/\Q (.dat (.int ns.sum))
 | _,_=>False
def Do:FN
 | [.lst ds],Q=>∃bs:List Bool,ds=bs.map .bl/\Q (.dat (.bl (bs.all id)))
 | _,_=>False
def Ek:FN
 | [.lst ds],Q=>∃bs:List Bool,ds=bs.map .bl/\Q (.dat (.bl (bs.any id)))
 | _,_=>False
theorem Ar:LC K (Cz K) Aq:=by
 intro O H xs as Q Q' dom fs q k
 unfold Aq at q
 split at q
 .obtain ⟨ns,rfl,h0,q⟩:=q
  cases fs with
  | cons a b =>
   cases b
   obtain ⟨p,ys,rfl,e1,f1⟩:=a.lst
   rw [f1.ints] at e1
   exact ⟨p,ns,rfl,SqL.of e1,h0,fun m hm hle=>k _ H _ (q m hm hle) (Gr.refl _) (.int _)⟩
 .exact q.elim
theorem qI:LC K (CA K) vi:=by
 intro O H xs as Q Q' dom fs q k
 unfold vi at q
 split at q
 .obtain ⟨ns,rfl,q⟩:=q
  cases fs with
  | cons a b =>
   cases b
   obtain ⟨p,ys,rfl,e1,f1⟩:=a.lst
   rw [f1.ints] at e1
   exact ⟨p,ns,rfl,SqL.of e1,k _ H _ q (Gr.refl _) (.int _)⟩
 .exact q.elim
theorem yP:LC K (Fb K) Do:=by
 intro O H xs as Q Q' dom fs q k
 unfold Do at q
 split at q
 .obtain ⟨ns,rfl,q⟩:=q
  cases fs with
  | cons a b =>
   cases b
   obtain ⟨p,ys,rfl,e1,f1⟩:=a.lst
   rw [f1.bls] at e1
   exact ⟨p,ns,rfl,SqL.of e1,k _ H _ q (Gr.refl _) (.bl _)⟩
 .exact q.elim
theorem CD:LC K (Fc K) Ek:=by
 intro O H xs as Q Q' dom fs q k
 unfold Ek at q
 split at q
 .obtain ⟨ns,rfl,q⟩:=q
  cases fs with
  | cons a b =>
   cases b
   obtain ⟨p,ys,rfl,e1,f1⟩:=a.lst
   rw [f1.bls] at e1
   exact ⟨p,ns,rfl,SqL.of e1,k _ H _ q (Gr.refl _) (.bl _)⟩
 .exact q.elim
def As (K:PySem.W.Frag):List V->Hp->VK->Prop:=fun xs H Q=>∃p ys,xs=[.ref p]/\((SqL K H p ys/\∀l,H l=none->Q (.ref l) (upd H l (.tup ys)))\/(SqT K H p ys/\Q (.ref p) H))
theorem eI (K:PySem.W.Frag) (e:X.K=K):bK X (.type "tuple") (As K):=by subst e;exact mY
theorem yQ (K:PySem.W.Frag) (e:X.K=K):bK X (.type "list") (u9 K):=by subst e;exact oS
def fo:FN
 | [.lst ds],Q=>Q (.dat (.tup ds))
 | [.tup ds],Q=>Q (.dat (.tup ds))
 | [.scr ns],Q=>Q (.dat (.tup (ns.map .int)))
 | _,_=>False
def xG:FN
 | [.lst ds],Q=>Q (.own ds)
 | [.tup ds],Q=>Q (.own ds)
 | [.scr ns],Q=>Q (.own (ns.map .int))
 | _,_=>False
theorem dr:LC K (As K) fo:=by
 intro O H xs as Q Q' dom fs q k
 unfold fo at q
 split at q
 .cases fs with
  | cons a b =>
   cases b
   obtain ⟨p,ys,rfl,e1,f1⟩:=a.lst
   exact ⟨p,ys,rfl,.inl ⟨SqL.of e1,fun l hl=>k _ _ _ q (Gr.new hl) (kB dom hl f1)⟩⟩
 .cases fs with
  | cons a b =>
   cases b
   obtain ⟨p,ys,rfl,n1,e1,f1⟩:=a.tup
   exact ⟨p,ys,rfl,.inr ⟨SqT.of e1,k _ H _ q (Gr.refl _) (.tup n1 e1 f1)⟩⟩
 .cases fs with
  | cons a b =>
   cases b
   obtain ⟨p,rfl,e1⟩:=a.scr
   exact ⟨p,_,rfl,.inl ⟨e1,fun l hl=>k _ _ _ q (Gr.new hl) (kB dom hl (FVs.of_ints _))⟩⟩
 .exact q.elim
theorem vj:LC K (u9 K) xG:=by
 intro O H xs as Q Q' dom fs q k
 unfold xG at q
 split at q
 .cases fs with
  | cons a b =>
   cases b
   obtain ⟨p,ys,rfl,e1,f1⟩:=a.lst
   exact ⟨p,ys,rfl,.inl (SqL.of e1),fun l hl=>k _ _ _ q (Gr.new hl) (d7 hl f1)⟩
 .cases fs with
  | cons a b =>
   cases b
   obtain ⟨p,ys,rfl,n1,e1,f1⟩:=a.tup
   exact ⟨p,ys,rfl,.inr (SqT.of e1),fun l hl=>k _ _ _ q (Gr.new hl) (d7 hl f1)⟩
 .cases fs with
  | cons a b =>
   cases b
   obtain ⟨p,rfl,e1⟩:=a.scr
   exact ⟨p,_,rfl,.inl e1,fun l hl=>k _ _ _ q (Gr.new hl) (d7 hl (FVs.of_ints _))⟩
 .exact q.elim
variable {ta:TE}{pa:PA1}{tr:TA}{pr:PTA}{pe:PTE}
def oA (i:Int) (n:Nat):List D:=(List.range n).map fun (k:Nat)=>D.int (i + (k:Int))
def mkL (tup:Bool) (ds:List D):PV:=match tup with | true=>.dat (.tup ds) | false=>.own ds
def xH (tup:Bool) (pr:PTA):PTE:=fun ρ Q=>pr ρ fun as ρ1=>match as with
 | [.v (.int j)]=>(0<=j/\j<=1000000)/\Q (mkL tup (oA 0 j.toNat)) ρ1
 | _=>False
theorem CF {O:Addr->Prop}{H:Hp} (i:Int) (n:Nat):FVs K O H (qz i 1 n) (oA i n):=by
 have e:∀l:List Nat,FVs K O H (l.map fun (k:Nat)=>V.int (i + k * 1)) (l.map fun (k:Nat)=>D.int (i + (k:Int))):=fun l=>by
  induction l with
  | nil=>exact .nil
  | cons a r ih=>exact .cons (by show FV K O H (V.int (i + (a:Int) * 1)) (D.int (i + (a:Int)));rw [show i + (a:Int) * 1=i + (a:Int) by omega];exact .int _) ih
 exact e _
theorem mw {i j:Int} (h:i<=j):Builtin.Range.rangeSize i j 1=(((j - i).toNat:Nat):Int):=by
 unfold Builtin.Range.rangeSize
 rw [if_pos (by decide)]
 simp only [Int.ediv_one]
 split <;> omega
theorem tu {i j:Int} (h0:-1000000<=i) (h1:i<=j) (h2:j<=1000000):Builtin.Range.small i j 1=true:=by
 unfold Builtin.Range.small
 rw [mw h1]
 simp only [Builtin.Range.rangeFitsLong,Bool.and_eq_true,Bool.or_eq_true,decide_eq_true_eq,beq_iff_eq,show (1:Int) > 0 by decide,if_true]
 omega
def mkO (tup:Bool):List V->HO:=match tup with | true=>.tup | false=>.lst
theorem CG {O:Addr->Prop}{H:Hp}{xs:List V}{ds:List D}{p:Addr} (tup:Bool) (dom:∀b,O b->H b≠none) (hp:H p=none) (f:FVs K O H xs ds):qj K O H (upd H p (mkO tup xs)) (mkL tup ds) (.ref p):=by
 cases tup with
 | true=>exact kB dom hp f
 | false=>exact d7 hp f
theorem nB (tup:Bool) (h:LAs K tr pr):LE K (tCB (DP K (mkO tup)) (bV (fun σ H Q=>tr σ H fun vs H1=>∃j:Int,vs=[.int j]/\∀p,H1 p=none->Q (.ref p) (upd H1 p (yF p 0 j 1))) i4)) (xH tup pr):=fun A ρ σ H Q Q' R q k=>h A ρ σ H _ _ R q fun vs H1 as ρ1 q1 f1 R1 o1=>by
 split at q1
 .rename_i j
  cases o1 with
  | cons a b =>
   cases b
   cases a
   refine ⟨j,rfl,fun p hp=>⟨p,0,j,1,j.toNat,rfl,aF,tu (by decide) q1.1.1 q1.1.2,by rw [mw q1.1.1,Int.sub_zero],by omega,fun l hl=>?_⟩⟩
   have g:Gr H1 (upd H1 p (yF p 0 j 1)):=Gr.new hp
   have R2:=R1.gr g
   have g2:Gr (upd H1 p (yF p 0 j 1)) (upd (upd H1 p (yF p 0 j 1)) l (mkO tup (qz 0 1 j.toNat))):=Gr.new hl
   exact k _ _ _ ρ1 q1.2 (f1.trans (g.fr.trans g2.fr)) ((qj.out R2 g2 (CG tup R2.dom2 hl (CF 0 _))).h0 fun b z=>(g.fr (ρ:=ρ1) (σ:=σ)).dm b (f1.dm b z))
 .exact q1.elim
theorem vk (K:PySem.W.Frag) (e:X.K=K) (hc:X.calm=true):bK X (.type "list") (DP K (mkO false)):=by subst e;exact tm hc
abbrev FM:=List Nat->List D->(PV->Prop)->Prop
def LM (K:PySem.W.Frag) (r:V->List V->Hp->VK->Prop) (f:FM):Prop:=∀(O:Addr->Prop) (H:Hp) (l:List Nat) (xs:List V) (as:List D) (Q:PV->Prop) (Q':VK),(∀b,O b->H b≠none)->l.length<=1000000->Bh K O H xs as->f l as Q ->
 (∀v H' p,Q p->Gr H H'->qj K O H H' p v->Q' v H')->r (.str (S l)) xs H Q'
def pSM (f:FM) (pe:PTE) (pr:PTA):PTE:=fun ρ Q=>pe ρ fun p ρ1=>match p with
 | .dat (.str l)=>pr ρ1 fun as ρ2=>(match conts ρ2 as with
  | some ds=>f l ds fun r=>Q r ρ2
  | none=>False)
 | _=>False
theorem At {r:V->List V->Hp->VK->Prop}{f:FM} (o:LM K r f) (he:LE K ta pe) (hr:LAs K tr pr):LE K (tBM K "str" r ta tr) (pSM f pe pr):=fun A ρ σ H Q Q' R q k=>he A ρ σ H _ _ R q fun v H1 p ρ1 q1 f1 o1=>by
 split at q1
 .rename_i l
  obtain ⟨R1,fv⟩:=o1
  cases fv with
  | str _ hl =>
   refine ⟨rfl,hr A ρ1 σ H1 _ _ R1 q1 fun vs H2 as ρ2 q2 f2 R2 o2=>?_⟩
   split at q2
   .rename_i ds e
    exact o _ H2 l vs ds _ _ R2.dom2 hl (R2.conts o2 e) q2 fun z H3 p q3 g ov=>k z H3 p ρ2 q3 ((f1.trans f2).trans g.fr) ((ov.out R2 g).h0 fun b z=>f2.dm b (f1.dm b z))
   .exact q2.elim
 .exact q1.elim
def CH:V->List V->Hp->VK->Prop:=fun x xs H Q=>∃a b,x=.str (S a)/\xs=[.str (S b)]/\Q (.bl (decide (b <:+ a))) H
def yR:V->List V->Hp->VK->Prop:=fun x xs H Q=>∃a b,x=.str (S a)/\xs=[.str (S b)]/\Q (.int (fnd a b 0)) H
theorem Au:MtR X "str.endswith" CH:=qx
theorem xI:MtR X "str.find" yR:=xp
def Av:FM
 | a,[.str b],Q=>Q (.dat (.bl (decide (b <:+ a))))
 | _,_,_=>False
def vm:FM
 | a,[.str b],Q=>Q (.dat (.int (fnd a b 0)))
 | _,_,_=>False
theorem Aw:LM K CH Av:=by
 intro O H l xs as Q Q' dom hl fs q k
 unfold Av at q
 split at q
 .cases fs with | cons a b=>cases b;rw [a.str.1];exact ⟨_,_,rfl,rfl,k _ H _ q (Gr.refl _) (.bl _)⟩
 .exact q.elim
theorem xJ:LM K yR vm:=by
 intro O H l xs as Q Q' dom hl fs q k
 unfold vm at q
 split at q
 .cases fs with | cons a b=>cases b;rw [a.str.1];exact ⟨_,_,rfl,rfl,k _ H _ q (Gr.refl _) (.int _)⟩
 .exact q.elim
def eX (f:Str):List Str->Option Nat
 | []=>none
 | n::r=>if n=f then some 0 else (eX f r).map (· + 1)
theorem pD {f:Str}:∀{fs:List (Str×V)}{k:Nat},eX f (fs.map Prod.fst)=some k->fs.lookup f=(fs.map Prod.snd)[k]?
 | [],k,h=>by cases h
 | (n,v)::r,k,h=>by
  unfold eX at h
  rw [List.map_cons] at h
  simp only at h
  rw [List.lookup_cons]
  by_cases e:n=f
  .rw [if_pos e] at h;cases h
   rw [show (f == n)=true by rw [e];exact beq_self_eq_true _];rfl
  .rw [if_neg e] at h
   rw [show (f == n)=false from beq_eq_false_iff_ne.mpr fun z=>e z.symm]
   cases e2:eX f (r.map Prod.fst) with
   | none=>rw [e2] at h;cases h
   | some j=>rw [e2] at h;cases h;show List.lookup f r=_;rw [pD e2];simp
theorem kF {f:Str}:∀{fs:List (Str×V)},eX f (fs.map Prod.fst)=none->fs.lookup f=none
 | [],h=>rfl
 | (n,v)::r,h=>by
  unfold eX at h
  rw [List.map_cons] at h
  simp only at h
  rw [List.lookup_cons]
  by_cases e:n=f
  .rw [if_pos e] at h;cases h
  .rw [if_neg e] at h
   rw [show (f == n)=false from beq_eq_false_iff_ne.mpr fun z=>e z.symm]
   cases e2:eX f (r.map Prod.fst) with
   | none=>exact kF e2
   | some j=>rw [e2] at h;cases h
theorem nC {f:Str}{v:V}:∀{fs:List (Str×V)},eX f (fs.map Prod.fst)=none->ma f v fs=fs++[(f,v)]
 | [],h=>rfl
 | (n,x)::r,h=>by
  unfold eX at h
  rw [List.map_cons] at h
  simp only at h
  by_cases e:n=f
  .rw [if_pos e] at h;cases h
  .rw [if_neg e] at h
   cases e2:eX f (r.map Prod.fst) with
   | none=>unfold ma;rw [if_neg e,nC e2];rfl
   | some j=>rw [e2] at h;cases h
theorem FVc.obj {O:Addr->Prop}{H:Hp}{v:V}{c:Str}{ns:List Str}{ds:List D} (h:FVc K O H v (.obj c ns ds)):∃a dx fs,v=.ref a/\H a=some (.ins (aP K c) dx fs)/\fs.map Prod.fst=ns/\FVs K O H (fs.map Prod.snd) ds:=by
 rcases h with h | ⟨a,xs,ds',e1,e2,e3,f⟩ | ⟨a,dx,c,fs,ns,ds',e1,e2,e3,m,f⟩
 .cases h with
  | obj n e m f=>exact ⟨_,_,_,rfl,e,m,f⟩
 .cases e2
 .cases e2;exact ⟨a,dx,fs,e1,e3,m,f⟩
def ql (c0:Str) (ns0:List Str) (k:Nat) (pa:PA1):PTE:=fun ρ Q=>pa ρ fun x ρ1=>match cont ρ1 x with
 | some (.obj c ns ds)=>(c=c0/\ns=ns0)/\∃d,ds[k]?=some d/\Q (.dat d) ρ1
 | _=>False
theorem eJ {c0 f:Str}{ns0:List Str}{i:Nat} (hc:Cls K (aP K c0)) (hn:eV K (aP K c0) f) (hk:eX f ns0=some i) (h:LA1 K ta pa):LE K (uk K ta f) (ql c0 ns0 i pa):=fun A ρ σ H Q Q' R q k=>h A ρ σ H _ _ R q fun v H1 a ρ1 q1 f1 R1 o1=>by
 split at q1
 .rename_i c ns ds e
  obtain ⟨⟨rfl,rfl⟩,d,hd,q1⟩:=q1
  obtain ⟨a,dx,fs,rfl,e1,m,f⟩:=(R1.cont o1 e).obj
  obtain ⟨v,hv,fv⟩:=f.getD hd
  exact ⟨a,_,dx,fs,v,rfl,e1,hc,hn,by rw [pD (k:=i) (by rw [m];exact hk)];exact hv,k v H1 _ ρ1 q1 f1 ⟨R1,fv⟩⟩
 .exact q1.elim
def kG (c0:Str) (ns0:List Str) (f:Str) (i:Nat) (pe:PTE):PTS:=fun D ρ=>pe ρ fun p ρ1=>match ρ1[i]? with
 | some (some (.ins c ns ds))=>(c=c0/\ns=ns0/\ns0.length < 1000)/\D.nx (ρ1.set i (some (.ins c0 (ns0++[f]) (ds++[p.d]))))
 | _=>False
theorem jt {fs':List Nat}{c0 f:Str}{ns0:List Str}{i:Nat} (hc:Cls K (aP K c0)) (hn:eV K (aP K c0) f) (hk:eX f ns0=none) (h:LE K ta pe):LS K fs' (ET K (cJ i) ta f) (kG c0 ns0 f i pe):=fun fx A R H0 ρ σ H D D' hf r F q k1 k2 k3 k4=>h A ρ σ H _ _ r q fun v H1 p ρ1 q1 f1 o1=>by
 obtain ⟨R1,fv⟩:=o1.frz
 split at q1
 .rename_i c ns ds e
  obtain ⟨⟨rfl,rfl,hl⟩,q1⟩:=q1
  obtain ⟨w,s,a,dx,fs,rfl,g,m,ff⟩:=R1.get i _ e
  have hk':eX f (fs.map Prod.fst)=none:=by rw [m];exact hk
  have wa:OO A ρ1 σ a:=.inr ⟨i,_,e,rfl,s⟩
  have kw:∀o,aZ (OO A ρ1 σ) H1 (OO A ρ1 σ) (upd H1 a o):=fun o b u n h=>⟨n,by rw [ax (fun z=>n (by rw [z];exact wa))];exact h⟩
  obtain ⟨R2,f2⟩:=R1.write (o:=.ins (aP K c) dx (ma f v fs)) (q:=.ins c (ns++[f]) (ds++[p.d])) e rfl rfl s ⟨a,dx,ma f v fs,rfl,aF,by rw [nC hk',List.map_append,m];rfl,by rw [nC hk',List.map_append];exact (ff.append (.cons fv .nil)).keeps (kw _)⟩
  refine ⟨_,s,a,_,dx,fs,rfl,g,hc,hn,?_,k1 _ _ _ q1 R2 ((F.fr f1).fr f2)⟩
  have:fs.length=ns.length:=by rw [<- m,List.length_map]
  omega
 .exact q1.elim
def Ax (c0:Str) (c:FR) (pr:PTA):PTE:=fun ρ Q=>pr ρ fun as ρ1=>match avD as with
 | some ds=>c (.ins c0 [] []) ds fun r p'=>(match r,p' with
  | .dat .non,.ins c1 ns es=>c1=c0/\Q (.ins c1 ns es) ρ1
  | _,_=>False)
 | none=>False
theorem vn {c0:Str}{c:FR} (h:LAs K tr pr):LE K (wZ (aP K c0) (spR K c) [] E0 tr) (Ax c0 c pr):=fun A ρ σ H Q Q' R q k=>h A ρ σ H _ _ R q fun vs H1 as ρ1 q1 f1 R1 o1=>by
 split at q1
 .rename_i ds e
  intro x dx hx hdx hne
  rw [List.append_nil]
  let H2:=upd (upd H1 dx (.own x)) x (.ins (aP K c0) dx [])
  have g2:Gr H1 H2:=fun b o z=>by
   show upd (upd H1 dx (.own x)) x _ b=_
   rw [ax (aN z hx),ax (aN z hdx)];exact z
  have nx:¬ OO A ρ1 σ x:=R1.oo hx
  have keep2:aZ (OO A ρ1 σ) H1 (iM (OO A ρ1 σ) x) H2:=fun b o n z=>by
   refine ⟨fun y=>?_,g2 b o z⟩
   rcases y with y | y
   .exact n y
   .rw [y,hx] at z;cases z
  refine ⟨OO A ρ1 σ,x,.ins c0 [] [],vs,ds,_,rfl,rfl,fun b z=>(g2.fr (ρ:=ρ1) (σ:=σ)).dm b (R1.dom2 b z),nx,⟨x,dx,[],rfl,aF,rfl,.nil⟩,(o1.avD e).keeps keep2,q1,fun r p' qr ow' v H' kp ha rs ov _=>?_⟩
  split at qr
  .obtain ⟨rfl,qr⟩:=qr
   cases ov
   refine ⟨rfl,?_⟩
   obtain ⟨a',dx',fs,ea,e2,m,f⟩:=rs
   cases ea
   have g:Gr H1 H':=fun b o z=>kp b o (aN z hx) (g2 b o z)
   have hx0:H x=none:=by
    cases eb:H x with
    | none=>rfl
    | some o=>exact absurd hx (f1.dm x (by rw [eb];exact nofun))
   refine k _ H' _ ρ1 qr (f1.trans g.fr) ⟨x,dx',fs,rfl,fun z=>nx (.inl z),hx0,e2,m,R1.grA g hx (by rw [e2];exact nofun),f.keeps (aZ.less fun b z=>?_)⟩
   rcases z with (z | z) | z
   .exact .inl (.inl z)
   .exact .inr z
   .exact .inl (.inr z)
  .exact qr.elim
 .exact q1.elim
def yS (c0:Str) (ns0:List Str) (c:FN) (pe:PTE) (pr:PTA):PTE:=fun ρ Q=>pe ρ fun p ρ1=>match p.d with
 | .obj c1 ns ds=>(c1=c0/\ns=ns0)/\pr ρ1 fun as ρ2=>(match avD as with
  | some es=>c (.obj c1 ns ds::es) fun r=>Q r ρ2
  | none=>False)
 | _=>False
theorem xK {c0 m:Str}{ns0:List Str}{c:FN} (hm:eX m ns0=none) (he:LE K ta pe) (hr:LAs K tr pr):LE K (zD (aP K c0) m (spP K c) [] E0 ta tr) (yS c0 ns0 c pe pr):=fun A ρ σ H Q Q' R q k=>he A ρ σ H _ _ R q fun v H1 p ρ1 q1 f1 o1=>by
 obtain ⟨R1,fv⟩:=o1.frz
 split at q1
 .rename_i c1 ns ds e
  rw [e] at fv
  obtain ⟨⟨rfl,rfl⟩,q1⟩:=q1
  obtain ⟨a,dx,fs,rfl,e1,mm,f⟩:=FVc.obj (.inl fv)
  refine ⟨a,dx,fs,rfl,e1,kF (by rw [mm];exact hm),hr A ρ1 σ H1 _ _ R1 q1 fun vs H2 as ρ2 q2 f2 R2 o2=>?_⟩
  split at q2
  .rename_i es e3
   rw [List.append_nil]
   exact ⟨OO A ρ2 σ,_::es,_,R2.dom2,.cons (fv.keeps f2.keeps) (o2.avD e3),q2,fun r qr v H' g ov=>k v H' r ρ2 qr ((f1.trans f2).trans g.fr) ((ov.out R2 g).h0 fun b z=>f2.dm b (f1.dm b z))⟩
  .exact q2.elim
 .exact q1.elim
end
abbrev El:R2:=rI0 fun i j=>.int (i - j)
abbrev Em:R2:=rI (fun _ j=>0 < j) fun i j=>.int (i % j)
abbrev En:R2:=rI DC fun i j=>.int (i / j)
abbrev Ep:R2:=rI DD fun i j=>.int (i ^ j.toNat)
abbrev Es:R2:=rI0 fun i j=>.bl (decide (j < i))
abbrev FE:R2:=rI0 fun i j=>.bl (decide (j<=i))
abbrev Et:V->Hp->VK->Prop:=rU fun i=>.int (-i)
abbrev yT:F2:=fI0 fun i j=>.int (i - j)
abbrev Bl:F2:=fI (fun _ j=>0 < j) fun i j=>.int (i % j)
abbrev Fd:F2:=fI (fun _ j=>0 < j/\j < 1073741824) fun i j=>.int (i / j)
abbrev FF:F2:=fI (fun i j=>0<=j/\j<=1000000/\i.natAbs < 2 ^ 64) fun i j=>.int (i ^ j.toNat)
abbrev fGt:F2:=fI0 fun i j=>.bl (decide (j < i))
abbrev fGe:F2:=fI0 fun i j=>.bl (decide (j<=i))
def Bm:D->(PV->Prop)->Prop
 | .int i,Q=>Q (.dat (.int (-i)))
 | _,_=>False
section
variable {K:PySem.W.Frag}{X:Cx}{ta:TE}{tr:TA}{pr:PTA}{ts:TS}{ps:PTS}
theorem pE:OpR X (binaryOp .Sub) El:=BD
theorem tw:OpR X (binaryOp .Mod) Em:=BF
theorem yU:OpR X (binaryOp .FloorDiv) En:=zr
theorem Eu:OpR X (binaryOp .Pow) Ep:=BG
theorem Bn:OpR X (compareOp .Gt) Es:=DI
theorem Fe:OpR X (compareOp .GtE) FE:=DJ
theorem sf:LU K Et Bm:=by
 intro O H x a Q Q' dom fx q k
 unfold Bm at q
 split at q
 .rename_i i;exact ⟨i,fx.int,k _ H _ q (Gr.refl _) (.int _)⟩
 .exact q.elim
theorem sg {es:List Expr}{ct:Nat}{tp:Pos} (K:PySem.W.Frag) (e:X.K=K) {a:Expr}{ta:TA}{p pos:Pos} (hg:Gl X "enumerate") (hm:X.mg "enumerate"=none) (ha:PA X [a] ta) (hs:starEach [a] X.env=[(false,eval a X.env)]:=by rfl) :
  PI X (.Tuple es ct tp) (.Call (.Name "enumerate" p) [a] [] pos) (Aa K ta):=by subst e;exact Ab hg hm ha hs
theorem oB {ix:List (Option Nat)}{fs:List Nat}{i:Nat} (h:∀k∈fs,k∈Bj ix) (hi:(Bj ix).contains i=false):fs.contains i=false:=by
 cases e:fs.contains i with
 | false=>rfl
 | true =>
  have:=h i (List.contains_iff_mem.mp e)
  rw [List.contains_iff_mem.mpr this] at hi;cases hi
theorem lK (t:Value) (b c:Bool) (h1:PySem.W.kitOne K t (.type "list")=some b) (h2:PySem.W.kitOne K t (.type "tuple")=some c):PySem.W.kitAny K t [.type "list",.type "tuple"]=some (b || c):=by
 simp only [PySem.W.kitAny,h1,h2]
 cases b <;> cases c <;> rfl
def yV (c:FN) (es:List D) (pr:PTA):PTE:=fun ρ Q=>pr ρ fun as ρ1=>match avD as with
 | some ds=>c (ds++es) fun r=>Q r ρ1
 | none=>False
theorem xL {c:FN}{vs0:List V}{ds:List D} (hd:∀{O:Addr->Prop}{H:Hp},FVs K O H vs0 ds) (h:LAs K tr pr):LE K (iJ (spP K c) vs0 E0 tr) (yV c ds pr):=fun A ρ σ H Q Q' R q k=>h A ρ σ H _ _ R q fun vs H1 as ρ1 q1 f1 R1 o1=>by
 split at q1
 .rename_i es e
  exact ⟨OO A ρ1 σ,_,_,R1.dom2,(o1.avD e).append hd,q1,fun r qr v H' g ov=>k v H' r ρ1 qr (f1.trans g.fr) ((ov.out R1 g).h0 f1.dm)⟩
 .exact q1.elim
theorem ju {c:FN}{n:Nat} (hn:∀ds Q,c ds Q->ds.length=n) {vs:List V}{H:Hp}{Q:VK}{E:XK} (h:spP K c vs H Q E):vs.length=n:=by
 obtain ⟨O,ds,Qc,_,f,hq,_⟩:=h
 rw [f.length];exact hn ds Qc hq
theorem FG {c:FR}{n:Nat} (hn:∀p ds Q,c p ds Q->ds.length + 1=n) {vs:List V}{H:Hp}{Q:VK}{E:XK} (h:spR K c vs H Q E):vs.length=n:=by
 obtain ⟨A,a,p,ws,ds,Qc,rfl,_,_,_,_,f,hq,_⟩:=h
 rw [List.length_cons,f.length];exact hn p ds Qc hq
abbrev dI (pp:PTS) (n:Nat) (ds:List D) (Q:PV->Prop):Prop:=pp { nx:=fun _=>Q (.dat .non),rt:=fun p _=>Q p } (c9 n (ds.map .dat))
abbrev Ff (pp:PTS) (n:Nat) (p:PV) (ds:List D) (Q:PV->PV->Prop):Prop:=pp { nx:=Bk Q (.dat .non),rt:=Bk Q } (c9 n (p::ds.map .dat))
end
end L2
namespace L2
theorem Cal.imp {P:PySem.Program}{w:PySem.World}{K:PySem.W.Frag}{mg:PySem.Str->Option PySem.Value}{base:PySem.Heap}{k:Nat}{x:PySem.Str}{ps:List PySem.Str}{sp sp':Sp} (C:Cal P w K mg base k x ps sp) (h:∀vs H Q E,sp' vs H Q E->sp vs H Q E):Cal P w K mg base k x ps sp':=by
 obtain ⟨f,fd,F,r⟩:=C.ex
 exact ⟨f,fd,F.imp h,r⟩
end L2
namespace L2
open PySem PySem.Spec PyProof.Rows
theorem cfm {ix:List (Option Nat)}{ρ1:PSt}{n:Nat}{it:Nat->D}{g:PTG}{pt:PTT}{pe:PTE}{Q:PKt} (T:PSt->Prop) (f:Nat->Option D) (h0:T (cC ix ρ1))
  (hs:∀k τ d,k < n->d=it k->T τ->∀(K1:D->PSt->Prop) (K2:PSt->Prop),(∀d τ',f k=some d->T τ'->K1 d τ')->(∀τ',f k=none->T τ'->K2 τ')->g (.dat d) τ fun τ2=>pt τ2 fun ok τ3=>iW ok (pe τ3 fun p τ4=>K1 p.d τ4) (K2 τ3))
  (hq:∀τ,T τ->Q (.own ((List.range n).filterMap f)) (fE ix ρ1 τ)) :
  nA ix ρ1 n it g pt pe Q:=by
 refine ⟨fun k ys τ=>ys=(List.range k).filterMap f/\T τ,⟨rfl,h0⟩,fun k ys τ dd hk ed ⟨e,t⟩=>?_,fun ys τ ⟨e,t⟩=>by rw [e];exact hq τ t⟩
 have r:(List.range (k + 1)).filterMap f=(List.range k).filterMap f++(f k).toList:=by
  rw [List.range_succ,List.filterMap_append]
  cases e:f k with
  | none=>rw [show [k].filterMap f=[] by simp [e]];rfl
  | some d=>rw [show [k].filterMap f=[d] by simp [e]];rfl
 refine hs k τ dd hk ed t (fun d τ'=>(ys++[d]=(List.range (k + 1)).filterMap f/\T τ')) (fun τ'=>(ys=(List.range (k + 1)).filterMap f/\T τ')) (fun d τ' h t'=>⟨?_,t'⟩) (fun τ' h t'=>⟨?_,t'⟩)
 .rw [r,e,h];rfl
 .rw [r,e,h];simp
theorem tZ {ix:List (Option Nat)}{ρ1:PSt}{n:Nat}{it:Nat->D}{g:PTG}{pe:PTE}{Q:PKt} (T:PSt->Prop) (f:Nat->D) (h0:T (cC ix ρ1))
  (hs:∀k τ d,k < n->d=it k->T τ->∀K1:D->PSt->Prop,(∀τ',T τ'->K1 (f k) τ')->g (.dat d) τ fun τ2=>pe τ2 fun p τ4=>K1 p.d τ4)
  (hq:∀τ,T τ->Q (.own ((List.range n).map f)) (fE ix ρ1 τ)) :
  nA ix ρ1 n it g pA pe Q:=by
 refine cfm T (fun k=>some (f k)) h0 (fun k τ d hk ed t K1 K2 k1 k2=>?_) fun τ t=>?_
 .exact hs k τ d hk ed t K1 fun τ' t'=>k1 _ τ' rfl t'
 .have:(List.range n).filterMap (fun k=>some (f k))=(List.range n).map f:=by rw [<- List.filterMap_eq_map];rfl
  rw [this];exact hq τ t
theorem pF {β:Type} (f:D->β) (ds:List D):(List.range ds.length).map (fun k=>f (itD ds k))=ds.map f:=by
 apply List.ext_getElem?
 intro i
 rw [List.getElem?_map,List.getElem?_map]
 by_cases h:i < ds.length
 .rw [List.getElem?_range h,An h];rfl
 .rw [List.getElem?_eq_none (by rw [List.length_range];omega),List.getElem?_eq_none (by omega)];rfl
theorem fF {β:Type} (f:Nat->β) (l:List Nat):(List.range l.length).map (fun k=>f (l.getD k 0))=l.map f:=by
 apply List.ext_getElem?
 intro i
 rw [List.getElem?_map,List.getElem?_map]
 by_cases h:i < l.length
 .rw [List.getElem?_range h]
  show some (f (l.getD i 0))=_
  rw [List.getD_eq_getElem?_getD,List.getElem?_eq_getElem h];rfl
 .rw [List.getElem?_eq_none (by rw [List.length_range];omega),List.getElem?_eq_none (by omega)];rfl
def pw (ws:List (List Nat)) (k:Nat):List Nat:=ws.getD k []
theorem f8 {ws:List (List Nat)}{k:Nat} (h:k < ws.length):ws[k]?=some (pw ws k):=by unfold pw;rw [List.getD_eq_getElem?_getD,List.getElem?_eq_getElem h];rfl
theorem gE {ws:List (List Nat)}{k:Nat} (h:k < ws.length):pw ws k∈ws:=List.mem_of_getElem? (f8 h)
theorem fG {ws:List (List Nat)}{k:Nat} (h:k < (ws.map D.str).length):itD (ws.map D.str) k=.str (pw ws k):=ik (by rw [List.getElem?_map,f8 (by rwa [List.length_map] at h)];rfl)
theorem cH {ws:List (List Nat)}{i:Int}{k:Nat} (h:k < ws.length) (e:i=(k:Int)):atI (ws.map D.str) i=some (.str (pw ws k)):=eC (j:=k) (by rw [List.getElem?_map,f8 h];rfl) e
theorem pG {l:List Nat}{k:Nat} (h:k < l.length):l.take (k + 1)=l.take k++[l.getD k 0]:=by
 rw [List.take_succ,List.getD_eq_getElem?_getD,List.getElem?_eq_getElem h];rfl
def Pc (m:Nat) (w:List Nat):Prop:=0 < w.length/\w.length<=m/\Lts w
def Pcs (m:Nat) (ws:List (List Nat)):Prop:=∀w∈ws,Pc m w
theorem Pcs.app {m:Nat}{ws:List (List Nat)}{w:List Nat} (h:Pcs m ws) (h':Pc m w):Pcs m (ws++[w]):=fun v hv=>by
 rcases List.mem_append.mp hv with z | z
 .exact h v z
 .rw [List.mem_singleton.mp z];exact h'
def ltB (c:Nat):Bool:=decide (97<=c) && decide (c<=122)
def xM:D->Int->Int->Bool
 | .str l,a,b=>(decide (a<=(l.length:Int)) && decide ((l.length:Int)<=b)) && l.all ltB
 | _,_,_=>false
theorem nE (l:List Nat) (a b:Int):xM (.str l) a b=((decide (a<=(l.length:Int)) && decide ((l.length:Int)<=b)) && l.all ltB):=rfl
def Ev:D->Nat
 | .str l=>l.length
 | _=>0
theorem kH {l:List Nat}:l.all ltB=true ↔ Lts l:=by
 rw [List.all_eq_true]
 unfold Lts ltB
 constructor
 .intro h c hc
  have:=h c hc
  rw [Bool.and_eq_true,decide_eq_true_eq,decide_eq_true_eq] at this
  exact this
 .intro h c hc
  rw [Bool.and_eq_true,decide_eq_true_eq,decide_eq_true_eq]
  exact h c hc
theorem vo {w:List Nat}:xM (.str w) 1 60=true ↔ Pc 60 w:=by
 unfold xM Pc
 rw [Bool.and_eq_true,Bool.and_eq_true,decide_eq_true_eq,decide_eq_true_eq,kH]
 constructor
 .rintro ⟨⟨h1,h2⟩,h3⟩;exact ⟨by omega,by omega,h3⟩
 .rintro ⟨h1,h2,h3⟩;exact ⟨⟨by omega,by omega⟩,h3⟩
theorem qJ (i j:Nat):(!decide (([j]:List Nat) < [i]))=decide (i<=j):=by
 by_cases h:i<=j
 .rw [decide_eq_true h]
  have:¬ ([j]:List Nat) < [i]:=by
   rw [List.cons_lt_cons_iff]
   rintro (z | ⟨_,z⟩)
   .omega
   .exact absurd z (List.lt_irrefl _)
  rw [decide_eq_false this];rfl
 .rw [decide_eq_false h]
  have:([j]:List Nat) < [i]:=by
   rw [List.cons_lt_cons_iff];exact .inl (by omega)
  rw [decide_eq_true this];rfl
theorem nF:∀ns:List Int,D.pys (ns.map .int)=ns.map PyData.int
 | []=>rfl
 | n::r=>by rw [List.map_cons,List.map_cons,<- nF r];rfl
theorem my:∀ns:List Int,D.plains (ns.map .int)=true
 | []=>rfl
 | n::r=>by rw [List.map_cons];show (true && D.plains (r.map .int))=true;rw [my r];rfl
def Sh (d:D):Prop:=d.plain=true/\SeqAt.shaped d.py=true
theorem Ag.of {a b:D} (h:Sh a) (h':Sh b):Ag a b:=⟨h.1,h'.1,h.2,h'.2⟩
theorem Sh.lstI (ns:List Int):Sh (.lst (ns.map .int)):=⟨my ns,by show SeqAt.shaped (.list (D.pys _))=true;rw [nF];exact (qB.list (uR ns)).shaped (by decide)⟩
theorem xN {d:D} (h:Sh d):deq d d=true:=xr h.2
theorem sj {α:Type} (c:α) (n:Nat):sY [c] (n:Int)=List.replicate n c:=by
 unfold sY
 rw [Int.toNat_natCast]
 induction n with
 | zero=>rfl
 | succ n ih=>rw [List.replicate_succ,List.flatten_cons,ih];rfl
def lL (sep:List Nat):List (List Nat)->List Nat
 | []=>[]
 | [w]=>w
 | w::v::r=>w++sep++lL sep (v::r)
theorem vp (sep:List Nat):∀ws:List (List Nat),PySem.Str.join (S sep) (ws.map S)=S (lL sep ws)
 | []=>rfl
 | [w]=>rfl
 | w::v::r=>by
  show S w++S sep++PySem.Str.join (S sep) ((v::r).map S)=S (w++sep++lL sep (v::r))
  rw [vp sep (v::r),xj,xj]
theorem pH (sep:List Nat):∀ws:List (List Nat),(lL sep ws).length<=ws.flatten.length + ws.length * sep.length
 | []=>Nat.zero_le _
 | [w]=>by show w.length<=_;rw [List.flatten_cons,List.flatten_nil,List.append_nil];omega
 | w::v::r=>by
  have ih:=pH sep (v::r)
  show (w++sep++lL sep (v::r)).length<=_
  rw [List.flatten_cons,List.length_append,List.length_append,List.length_append]
  rw [List.length_cons (as:=v::r),Nat.succ_mul]
  omega
section
variable {K:PySem.W.Frag}{X:Cx}
def yW (K:PySem.W.Frag):V->List V->Hp->VK->Prop:=fun x xs H Q=>∃(p:Addr) (sep:List Nat) (ws:List (List Nat)),x=.str (S sep)/\xs=[.ref p]/\SqL K H p (ws.map tx)/\ws.flatten.length + ws.length * sep.length<=1000000/\Q (.str (S (lL sep ws))) H
theorem xO (K:PySem.W.Frag) (e:X.K=K):MtR X "str.join" (yW K):=by
 subst e
 intro pins s σ H x xs v us Q I rx rs h
 obtain ⟨p,sep,ws,rfl,rfl,hS,hz,q⟩:=h
 obtain ⟨t,rfl⟩:=rx
 obtain ⟨u,rfl,ru⟩:=ib rs
 cases (show u=Value.ref p from ru)
 obtain ⟨its,rv,pl,_⟩:=I.list hS
 refine join_list pl.isList (by simpa using u8 rv) ?_ fun t' k=>?_
 .rw [List.map_map,eT]
  have e1:(ws.map ((fun y:Str=>y.length) ∘ S)).sum=ws.flatten.length:=by
   rw [List.length_flatten]
   exact congrArg List.sum (List.map_congr_left fun w _=>eT w)
  rw [e1]
  simp only [List.length_map]
  omega
 .refine ⟨.str (S (lL sep ws)),H,I.tok _,⟨t',?_⟩,q⟩
  rw [<- vp]
  exact congrArg (fun z=>Value.str z t') (StrLaws.glued_eq_join _ _)
def vq:FM
 | [],[.lst ds],Q=>∃ws:List (List Nat),ds=ws.map .str/\ws.flatten.length<=1000000/\Q (.dat (.str ws.flatten))
 | c::sep,[.lst ds],Q=>∃ws:List (List Nat),ds=ws.map .str/\ws.flatten.length + ws.length * (c::sep).length<=1000000/\Q (.dat (.str (lL (c::sep) ws)))
 | _,_,_=>False
theorem pI:∀ws:List (List Nat),lL [] ws=ws.flatten
 | []=>rfl
 | [w]=>by show w=w++[];rw [List.append_nil]
 | w::v::r=>by show w++[]++lL [] (v::r)=_;rw [pI (v::r),List.append_nil];rfl
theorem xP:LM K (yW K) vq:=by
 intro O H l xs as Q Q' dom hl fs q k
 unfold vq at q
 split at q
 .obtain ⟨ws,rfl,hw,q⟩:=q
  cases fs with
  | cons a b =>
   cases b
   obtain ⟨p,ys,rfl,e1,f1⟩:=a.lst
   rw [f1.strs] at e1
   refine ⟨p,[],ws,rfl,rfl,SqL.of e1,by rw [List.length_nil,Nat.mul_zero];exact hw,?_⟩
   rw [pI]
   exact k _ H _ q (Gr.refl _) (.str _ hw)
 .obtain ⟨ws,rfl,hw,q⟩:=q
  cases fs with
  | cons a b =>
   cases b
   obtain ⟨p,ys,rfl,e1,f1⟩:=a.lst
   rw [f1.strs] at e1
   exact ⟨p,_,ws,rfl,rfl,SqL.of e1,hw,k _ H _ q (Gr.refl _) (.str _ (Nat.le_trans (pH _ _) hw))⟩
 .exact q.elim
end
section
variable {X:Cx}{K:PySem.W.Frag}
def CI:PTE:=fun ρ Q=>Q (.dat (.dic [] [])) ρ
theorem Ay:LE K yG CI:=fun A ρ σ H Q Q' R q k=>fun p hp =>
 k _ _ (.dat (.dic [] [])) ρ q (Fr.new hp) ⟨R.grow hp,.dic (R.oo hp) aF rfl .nil⟩
def vt (neg:Bool):R2:=fun x y H Q=>∃a b,x=.ref a/\y=.ref b/\H a=some (.dK [])/\H b=some (.dK [])/\Q (.bl (!neg)) H
theorem xQ (hu:X.A.units + 64 < cLine):OpR X (compareOp .Eq) (vt false):=by
 intro pins s σ H x y v u Q I rx ry ⟨a,b,e1,e2,h1,h2,q⟩
 subst e1 e2
 cases rx
 cases ry
 obtain ⟨_,y1,vs,r1,p1⟩:=(show bD X.prog X.w H s.heap a (.dK []) from I.hok a _ h1)
 obtain ⟨_,y2,ws,r2,p2⟩:=(show bD X.prog X.w H s.heap b (.dK []) from I.hok b _ h2)
 cases r1
 cases r2
 exact PySem.W.keq_eq (r:=true) y1 y2 p1 p2 (by omega) (fun _=>.nil) ⟨.bl true,H,I,rfl,q⟩
theorem xR (hu:X.A.units + 64 < cLine):OpR X (compareOp .NotEq) (vt true):=by
 intro pins s σ H x y v u Q I rx ry ⟨a,b,e1,e2,h1,h2,q⟩
 subst e1 e2
 cases rx
 cases ry
 obtain ⟨_,y1,vs,r1,p1⟩:=(show bD X.prog X.w H s.heap a (.dK []) from I.hok a _ h1)
 obtain ⟨_,y2,ws,r2,p2⟩:=(show bD X.prog X.w H s.heap b (.dK []) from I.hok b _ h2)
 cases r1
 cases r2
 exact PySem.W.keq_ne (r:=true) y1 y2 p1 p2 (by omega) (fun _=>.nil) ⟨.bl false,H,I,rfl,q⟩
def xS (K:PySem.W.Frag) (neg:Bool):R2:=fun x y H Q=>Cn K neg x y H Q\/vt neg x y H Q
theorem jh (K:PySem.W.Frag) (e:X.K=K) (hu:X.A.units + 64 < cLine):OpR X (compareOp .Eq) (xS K false):=OpR.or (FA K e hu) (xQ hu)
theorem pJ (K:PySem.W.Frag) (e:X.K=K) (hu:X.A.units + 64 < cLine):OpR X (compareOp .NotEq) (xS K true):=OpR.or (FC K e hu) (xR hu)
def qm:F2
 | .dic [] [],.dic [] [],Q=>Q (.dat (.bl true))
 | a,b,Q=>fEq a b Q
def wI:F2
 | .dic [] [],.dic [] [],Q=>Q (.dat (.bl false))
 | a,b,Q=>fNe a b Q
theorem FVc.dic0 {O:Addr->Prop}{H:Hp}{v:V} (h:FVc K O H v (.dic [] [])):∃a,v=.ref a/\H a=some (.dK []):=by
 cases h.fv nofun nofun with
 | dic n e m f =>
  rename_i a kvs
  cases kvs with
  | nil=>exact ⟨a,rfl,e⟩
  | cons x r=>cases m
theorem eY:LO K (xS K false) qm:=by
 intro O H x y a b Q Q' dom fx fy q k
 unfold qm at q
 split at q
 .obtain ⟨a,rfl,e1⟩:=fx.dic0
  obtain ⟨b,rfl,e2⟩:=fy.dic0
  exact .inr ⟨a,b,rfl,rfl,e1,e2,k _ H _ q (Gr.refl _) (.bl _)⟩
 .exact .inl (D8 O H x y _ _ Q Q' dom fx fy q k)
theorem jS:LO K (xS K true) wI:=by
 intro O H x y a b Q Q' dom fx fy q k
 unfold wI at q
 split at q
 .obtain ⟨a,rfl,e1⟩:=fx.dic0
  obtain ⟨b,rfl,e2⟩:=fy.dic0
  exact .inr ⟨a,b,rfl,rfl,e1,e2,k _ H _ q (Gr.refl _) (.bl _)⟩
 .exact .inl (D9 O H x y _ _ Q Q' dom fx fy q k)
end
theorem vv:∀ds:List D,D.pys ds=ds.map D.py
 | []=>rfl
 | d::r=>by rw [List.map_cons,<- vv r];rfl
theorem mB:∀ds:List D,D.plains ds=ds.all D.plain
 | []=>rfl
 | d::r=>by rw [List.all_cons,<- mB r];rfl
def Fl (n:Nat) (d:D):Prop:=d.plain=true/\qB n d.py
theorem Fl.sh {n:Nat}{d:D} (h:Fl n d) (hn:n<=64):Sh d:=⟨h.1,h.2.shaped hn⟩
theorem Fl.mono {n m:Nat}{d:D} (h:Fl n d) (hn:n<=m):Fl m d:=⟨h.1,h.2.1,Nat.le_trans h.2.2 hn⟩
theorem Fl.int {n:Nat} (i:Int):Fl n (.int i):=(show Fl 0 (.int i) from ⟨rfl,qB.int i⟩).mono (Nat.zero_le _)
theorem Fl.lst {n:Nat}{ds:List D} (h:∀d∈ds,Fl n d):Fl (n + 1) (.lst ds):=by
 refine ⟨?_,?_⟩
 .show D.plains ds=true
  rw [mB,List.all_eq_true];exact fun d hd=>(h d hd).1
 .show qB (n + 1) (.list (D.pys ds))
  rw [vv]
  refine qB.list fun d hd=>?_
  obtain ⟨x,hx,rfl⟩:=List.mem_map.mp hd
  exact (h x hx).2
theorem Fl.ints {n:Nat} (zs:List Int):∀d∈zs.map D.int,Fl n d:=fun d hd=>by
 obtain ⟨i,_,rfl⟩:=List.mem_map.mp hd
 exact Fl.int i
def j2:D->Bool
 | .int _=>true
 | _=>false
def vw:D->Bool
 | .lst _=>true
 | .tup _=>true
 | _=>false
def bu:D->List D
 | .lst ds=>ds
 | .tup ds=>ds
 | _=>[]
def toI:D->Int
 | .int i=>i
 | _=>0
def du (d:D) (m:Int):Bool:=vw d && (decide (((bu d).length:Int)=m) && (bu d).all j2)
def Srt (d:D):Prop:=d.sort=true/\∀x∈bu d,x.sort=true
theorem nG:∀{ds:List D},ds.all j2=true->ds=(ds.map toI).map D.int
 | [],_=>rfl
 | d::r,h=>by
  rw [List.all_cons,Bool.and_eq_true] at h
  rw [List.map_cons,List.map_cons,<- nG h.2]
  cases d <;> first | rfl | cases h.1
abbrev SIt (h:Heap) (a:Addr) (x:Str) (t:Tok) (i:Nat):Prop:=h.IsStrIter a (strIterType x) x t i
theorem SIt.mv {h h':Heap}{a:Addr}{x:Str}{t:Tok}{i:Nat} (W:SIt h a x t i) (k:∀o,h.get? a=some o->h'.get? a=some o):SIt h' a x t i:=let ⟨o,ho,r⟩:=W;⟨o,k o ho,r⟩
section
variable {P:Program}{w:World}{A:Around}{E:Value->Shared->Prop}{s:Shared}{z U V i j:Addr}{n:Nat}{x y:Str}{t t':Tok}{cx cy:Nat}{u v:Value}
theorem gF {Q:Value->Shared->Prop} (W:SIt s.heap i x t n) (hx:x.cps[n]?=some cx) (hQ:∀h',SIt h' i x t (n + 1)->Heap.SameBut i s.heap h'->Q (.str ⟨#[cx]⟩ s.toks) { s with heap:=h',toks:=s.toks + 1 }) :
  wpAny (model P w) A (Builtin.SmallTypes.nextOf (.ref i)) Q E s:=by
 unfold SIt strIterType at W hQ
 cases ha:x.cps.all (· < 128)
 .simp only [ha,Bool.false_eq_true,if_false] at W hQ
  exact wpAny_nextOf_wide_item W hx hQ
 .simp only [ha,if_true] at W hQ
  exact wpAny_nextOf_ascii_item W hx hQ
theorem kI {Q:Value->Shared->Prop} (hh:A.handled=none) (W:SIt s.heap i x t n) (hx:x.cps[n]?=none)
  (hE:∀h' e,Heap.ExtBut i s.heap h'->(∃o,h'.get? e=some o/\o.cls=.type "StopIteration")->E (.ref e) { s with heap:=h' }) :
  wpAny (model P w) A (Builtin.SmallTypes.nextOf (.ref i)) Q E s:=by
 unfold SIt strIterType at W
 cases ha:x.cps.all (· < 128)
 .simp only [ha,Bool.false_eq_true,if_false] at W
  exact wpAny_nextOf_wide_end hh W hx hE
 .simp only [ha,if_true] at W
  exact wpAny_nextOf_ascii_end hh W hx hE
theorem Az {Q:Value->Shared->Prop} (D:ZA z U V i j) (hz:IsZip s.heap z U V .none) (hU:IsPair s.heap U (.ref i) (.ref j)) (hV:IsPair s.heap V u v)
  (W1:SIt s.heap i x t n) (W2:SIt s.heap j y t' n) (hx:x.cps[n]?=some cx) (hy:y.cps[n]?=some cy)
  (hQ:∀h',IsZip h' z U V (rawInt s.heap.objs.size)->IsPair h' V (.str ⟨#[cx]⟩ s.toks) (.str ⟨#[cy]⟩ (s.toks + 1))->SIt h' i x t (n + 1)->SIt h' j y t' (n + 1)->IsPair h' s.heap.objs.size (.str ⟨#[cx]⟩ s.toks) (.str ⟨#[cy]⟩ (s.toks + 1))->h'.objs.size=s.heap.objs.size + 1 ->
   (∀b o,b≠z->b≠V->b≠i->b≠j->s.heap.get? b=some o->h'.get? b=some o)->Q (.ref s.heap.objs.size) { s with heap:=h',toks:=s.toks + 1 + 1 }) :
  wpAny (model P w) A (Builtin.«zip.__next__» ⟨[.ref z],[]⟩) (fun f s'=>∃r,f=.done (.ret r)/\Q r s') E s:=by
 refine wpAny_bind (m:=field (.ref z) 2) (wpAny_field hz rfl (x:=.bool false) rfl (wpAny_bind (m:=field (.ref z) 3) (wpAny_field hz rfl (x:=.ref U) rfl (wpAny_bind (wpAny_seqItems hU rfl ?_)))))
 refine wpAny_bind (m:=Builtin.SmallTypes.ownedTupleIsFree (.ref z)) ?_
 unfold Builtin.SmallTypes.ownedTupleIsFree
 refine wpAny_bind (wpAny_field hz rfl (x:=.none) rfl (wpAny_pure ?_))
 simp only [if_true]
 refine wpAny_bind (wpAny_rule (wpAny_bind (wpAny_field hz rfl (x:=.ref V) rfl (wpAny_bind (wpAny_setField_rec hz (by simp) fun g1 z1 b1=>wpAny_bind ?_)))))
 replace z1:IsZip g1 z U V .ellipsis:=z1
 simp only [List.zipIdx_cons,List.zipIdx_nil,List.forIn_cons,List.forIn_nil]
 have e1:=b1.extBut
 refine wpAny_bind (wpAny_bind (wpAny_onRaise (wpAny_bind (m:=Builtin.SmallTypes.nextOf (.ref i)) (gF (W1.mv fun o e=>e1 _ o D.iz e) hx fun g2 w1 b2=>wpAny_pure ?_))))
 have e2:=b2.extBut
 have v2:IsPair g2 V u v:=e2 _ _ D.Vi (e1 _ _ D.Vz hV)
 refine wpAny_bind (wpAny_seqItems v2 rfl (wpAny_bind (wpAny_updateSeq_pair v2 fun g3 v3 b3=>wpAny_bind (wpAny_letGo (wpAny_pure ?_)))))
 replace v3:IsPair g3 V (.str ⟨#[cx]⟩ s.toks) v:=v3
 have e3:=b3.extBut
 refine wpAny_bind (wpAny_bind (wpAny_onRaise (wpAny_bind (m:=Builtin.SmallTypes.nextOf (.ref j)) (gF (W2.mv fun o e=>e3 _ o D.Vj.symm (e2 _ o D.ij.symm (e1 _ o D.jz e))) hy fun g4 w2 b4=>wpAny_pure ?_))))
 have e4:=b4.extBut
 have v4:IsPair g4 V (.str ⟨#[cx]⟩ s.toks) v:=e4 _ _ D.Vj v3
 refine wpAny_bind (wpAny_seqItems v4 rfl (wpAny_bind (wpAny_updateSeq_pair v4 fun g5 v5 b5=>wpAny_bind (wpAny_letGo (wpAny_pure (wpAny_pure ?_))))))
 replace v5:IsPair g5 V (.str ⟨#[cx]⟩ s.toks) (.str ⟨#[cy]⟩ (s.toks + 1)):=v5
 have e5:=b5.extBut
 refine wpAny_bind (wpAny_seqItems v5 rfl (wpAny_bind (wpAny_newTuple ?_)))
 have sz:g5.objs.size=s.heap.objs.size:=by rw [b5.1,b4.1,b3.1,b2.1,b1.1]
 have z5:IsZip g5 z U V .ellipsis:=e5 _ _ D.Vz.symm (e4 _ _ D.jz.symm (e3 _ _ D.Vz.symm (e2 _ _ D.iz.symm z1)))
 have k5:∀b o,b≠z->b≠V->b≠i->b≠j->s.heap.get? b=some o->g5.get? b=some o:=fun b o q1 q2 q3 q4 e=>e5 _ _ q2 (e4 _ _ q4 (e3 _ _ q2 (e2 _ _ q3 (e1 _ _ q1 e))))
 have w15:SIt g5 i x t (n + 1):=w1.mv fun o e=>e5 _ o D.Vi.symm (e4 _ o D.ij (e3 _ o D.Vi.symm e))
 have w25:SIt g5 j y t' (n + 1):=w2.mv fun o e=>e5 _ o D.Vj.symm e
 have zlt:z < g5.objs.size:=Heap.lt_size z5
 refine wpAny_bind (m:=Builtin.SmallTypes.ownedTupleHandOut (.ref z) (.ref g5.objs.size)) ?_
 unfold Builtin.SmallTypes.ownedTupleHandOut
 have z6:IsZip (g5.push { cls:=.type "tuple",data:=.seq #[(.str ⟨#[cx]⟩ s.toks),(.str ⟨#[cy]⟩ (s.toks + 1))] }) z U V .ellipsis:=Heap.get?_push_of_some _ z5
 refine wpAny_bind (wpAny_setField_rec z6 (by simp) fun g7 z7 b7=>?_)
 replace z7:IsZip g7 z U V (rawInt g5.objs.size):=z7
 refine wpAny_setField_rec z7 (by simp) fun g8 z8 b8=>?_
 replace z8:IsZip g8 z U V (rawInt g5.objs.size):=z8
 have up:∀b o,b≠z->g5.get? b=some o->g8.get? b=some o:=fun b o q e=>b8.extBut _ _ q (b7.extBut _ _ q (Heap.get?_push_of_some _ e))
 have t8:IsPair g8 g5.objs.size (.str ⟨#[cx]⟩ s.toks) (.str ⟨#[cy]⟩ (s.toks + 1)):=b8.extBut _ _ (Nat.ne_of_gt zlt) (b7.extBut _ _ (Nat.ne_of_gt zlt) (Heap.get?_push_size _ rfl))
 have s8:g8.objs.size=g5.objs.size + 1:=by rw [b8.1,b7.1,Heap.size_push]
 rw [sz] at z8 t8 s8
 refine wpAny_pure ⟨_,rfl,?_⟩
 show Q (.ref g5.objs.size) _
 rw [sz]
 exact hQ g8 z8 (up _ _ D.Vz v5) (w15.mv fun o e=>up _ o D.iz e) (w25.mv fun o e=>up _ o D.jz e) t8 s8 fun b o q1 q2 q3 q4 e=>up b o q1 (k5 b o q1 q2 q3 q4 e)
theorem CJ {Q:Fin->Shared->Prop} (hh:A.handled=none) (D:ZA z U V i j) (hz:IsZip s.heap z U V .none) (hU:IsPair s.heap U (.ref i) (.ref j)) (hV:IsPair s.heap V u v)
  (W1:SIt s.heap i x t n) (W2:SIt s.heap j y t' n) (hend:x.cps[n]?=none\/y.cps[n]?=none)
  (hE:∀h' tk e,(∀b o,b≠z->b≠V->b≠i->b≠j->s.heap.get? b=some o->h'.get? b=some o)->(∃o,h'.get? e=some o/\o.cls=.type "StopIteration")->E (.ref e) { s with heap:=h',toks:=tk }) :
  wpAny (model P w) A (Builtin.«zip.__next__» ⟨[.ref z],[]⟩) Q E s:=by
 refine wpAny_bind (m:=field (.ref z) 2) (wpAny_field hz rfl (x:=.bool false) rfl (wpAny_bind (m:=field (.ref z) 3) (wpAny_field hz rfl (x:=.ref U) rfl (wpAny_bind (wpAny_seqItems hU rfl ?_)))))
 refine wpAny_bind (m:=Builtin.SmallTypes.ownedTupleIsFree (.ref z)) ?_
 unfold Builtin.SmallTypes.ownedTupleIsFree
 refine wpAny_bind (wpAny_field hz rfl (x:=.none) rfl (wpAny_pure ?_))
 simp only [if_true]
 refine wpAny_bind (wpAny_rule (wpAny_bind (wpAny_field hz rfl (x:=.ref V) rfl (wpAny_bind (wpAny_setField_rec hz (by simp) fun g1 z1 b1=>wpAny_bind ?_)))))
 replace z1:IsZip g1 z U V .ellipsis:=z1
 simp only [List.zipIdx_cons,List.zipIdx_nil,List.forIn_cons,List.forIn_nil]
 have e1:=b1.extBut
 cases hx:x.cps[n]? with
 | none =>
  refine wpAny_bind (wpAny_bind (wpAny_onRaise (wpAny_bind (m:=Builtin.SmallTypes.nextOf (.ref i)) (kI hh (W1.mv fun o e=>e1 _ o D.iz e) hx fun g2 e b2 he=>?_))))
  obtain ⟨oe,ge,ce⟩:=he
  have z2:IsZip g2 z U V .ellipsis:=b2 _ _ D.iz.symm z1
  have ez:e≠z:=fun q=>by subst q;rw [z2] at ge;cases ge;simp at ce
  exact wpAny_setField_rec z2 (by simp) fun g3 _ b3=>hE g3 _ e (fun b o q1 _ q3 _ q=>b3.extBut _ _ q1 (b2 _ _ q3 (e1 _ _ q1 q))) ⟨oe,b3.extBut _ _ ez ge,ce⟩
 | some cx =>
  have hy:y.cps[n]?=none:=by
   rcases hend with q | q
   .rw [hx] at q;cases q
   .exact q
  refine wpAny_bind (wpAny_bind (wpAny_onRaise (wpAny_bind (m:=Builtin.SmallTypes.nextOf (.ref i)) (gF (W1.mv fun o e=>e1 _ o D.iz e) hx fun g2 w1 b2=>wpAny_pure ?_))))
  have e2:=b2.extBut
  have v2:IsPair g2 V u v:=e2 _ _ D.Vi (e1 _ _ D.Vz hV)
  refine wpAny_bind (wpAny_seqItems v2 rfl (wpAny_bind (wpAny_updateSeq_pair v2 fun g3 v3 b3=>wpAny_bind (wpAny_letGo (wpAny_pure ?_)))))
  have e3:=b3.extBut
  refine wpAny_bind (wpAny_bind (wpAny_onRaise (wpAny_bind (m:=Builtin.SmallTypes.nextOf (.ref j)) (kI hh (W2.mv fun o e=>e3 _ o D.Vj.symm (e2 _ o D.ij.symm (e1 _ o D.jz e))) hy fun g4 e b4 he=>?_))))
  obtain ⟨oe,ge,ce⟩:=he
  have z4:IsZip g4 z U V .ellipsis:=b4 _ _ D.jz.symm (e3 _ _ D.Vz.symm (e2 _ _ D.iz.symm z1))
  have ez:e≠z:=fun q=>by subst q;rw [z4] at ge;cases ge;simp at ce
  exact wpAny_setField_rec z4 (by simp) fun g5 _ b5=>hE g5 _ e (fun b o q1 q2 q3 q4 q=>b5.extBut _ _ q1 (b4 _ _ q4 (e3 _ _ q2 (e2 _ _ q3 (e1 _ _ q1 q))))) ⟨oe,b5.extBut _ _ ez ge,ce⟩
end
def Ew (xs ys:List V):It :=
  ⟨fun i H=>∃x y,xs[i]?=some x/\ys[i]?=some y,
   fun i H p H'=>∃T x y,H T=none/\p=.ref T/\xs[i]?=some x/\ys[i]?=some y/\H'=upd H T (.tup [x,y]),
   fun i H=>xs.length<=i\/ys.length<=i⟩
theorem vx {P:Program}{w:World}{K:PySem.W.Frag}{es:List Expr}{ct:Nat}{tp:Pos}{z U V i j:Addr}{la lb:List Nat}{t t':Tok} (D:ZA z U V i j) :
  wR P w K (.Tuple es ct tp) (Ew (cD la) (cD lb)) [z,U,V,i,j] z (fun n h=>IsZip h z U V .none/\IsPair h U (.ref i) (.ref j)/\(∃u v,IsPair h V u v)/\SIt h i (S la) t n/\SIt h j (S lb) t' n) where
 mem:=by simp
 obj:=fun n h st b hb=>by
  obtain ⟨hz,hU,⟨u,v,hV⟩,⟨o1,g1,c1,d1⟩,⟨o2,g2,c2,d2⟩⟩:=st
  simp only [List.mem_cons,List.not_mem_nil,or_false] at hb
  rcases hb with rfl | rfl | rfl | rfl | rfl
  .exact ⟨_,hz,fun v q=>by cases q⟩
  .exact ⟨_,hU,fun v q=>by cases q⟩
  .exact ⟨_,hV,fun v q=>by cases q⟩
  .exact ⟨_,g1,fun v q=>by rw [d1] at q;cases q⟩
  .exact ⟨_,g2,fun v q=>by rw [d2] at q;cases q⟩
 keep:=fun n h h' st kk=>by
  obtain ⟨hz,hU,⟨u,v,hV⟩,w1,w2⟩:=st
  exact ⟨kk z (by simp) _ hz,kk U (by simp) _ hU,⟨u,v,kk V (by simp) _ hV⟩,w1.mv fun o e=>kk i (by simp) o e,w2.mv fun o e=>kk j (by simp) o e⟩
 item:=by
  intro X hP hw hK hc n pins s σ H E I hf st hg
  subst hP hw hK
  obtain ⟨x,y,hx,hy⟩:=hg
  obtain ⟨hz,hU,⟨u,v,hV⟩,w1,w2⟩:=st
  obtain ⟨cx,hcx,rfl⟩:=fk hx
  obtain ⟨cy,hcy,rfl⟩:=fk hy
  have hT:s.TypeIs (.ref z) "zip":=⟨_,hz,rfl⟩
  unfold pyNext
  refine wpAny_bind (wpAny_attempt (wpAny_callSpecial?_slot (name:=Str.ofString "__next__") hT F.slot_zip_next (wpAny_call_entry F.slot_zip_next hT F.entry_zip_next
   (Az (cx:=cx) (cy:=cy) D hz hU hV w1 w2 (by simpa [S] using hcx) (by simpa [S] using hcy) fun h' a1 a2 a3 a4 a5 a6 a7=>wpAny_pure ?_) (F.args_zip_next_1 _))))
  refine ⟨_,rfl,wpAny_letOwnedTupleGo_zip a1 fun g gz gs=>?_⟩
  have lt:∀{b o},s.heap.get? b=some o->s.heap.objs.size≠b:=fun e=>Nat.ne_of_gt (Heap.lt_size e)
  have kp:∀b o,b∉[z,V,i,j]->s.heap.get? b=some o->g.get? b=some o:=fun b o hb e=>by
   simp only [List.mem_cons,List.not_mem_nil,or_false,not_or] at hb
   exact gs.extBut _ _ hb.1 (a7 b o hb.1 hb.2.1 hb.2.2.1 hb.2.2.2 e)
  have I2:Inv X pins σ (upd H s.heap.objs.size (.tup [.str (S [cx]),.str (S [cy])])) { s with heap:=g,toks:=s.toks + 1 + 1 }:=I.yielded (ch:=[z,V,i,j]) (fun b hb=>hf b (by
   simp only [List.mem_cons,List.not_mem_nil,or_false] at hb ⊢
   rcases hb with q | q | q | q <;> simp [q])) (Nat.le_refl _) kp ⟨by show 2<=sizeLine;decide,[.str ⟨#[cx]⟩ s.toks,.str ⟨#[cy]⟩ (s.toks + 1)],.cons ⟨_,rfl⟩ (.cons ⟨_,rfl⟩ .nil),_,gs.extBut _ _ (lt hz) a5,rfl,_,rfl⟩
  refine ⟨.ref s.heap.objs.size,_,I2,rfl,⟨_,_,_,I.hok.fresh (Nat.le_refl _),rfl,hx,hy,rfl⟩,
   ⟨gz,gs.extBut _ _ D.Uz (a7 _ _ D.Uz D.UV D.Ui D.Uj hU),⟨_,_,gs.extBut _ _ D.Vz a2⟩,a3.mv fun o e=>gs.extBut _ o D.iz e,a4.mv fun o e=>gs.extBut _ o D.jz e⟩,fun b hb=>?_⟩
  rw [ax ?_]
  .exact (hf b hb).1
  .intro q
   subst q
   simp only [List.mem_cons,List.not_mem_nil,or_false] at hb
   obtain ⟨o1,g1,_⟩:=w1
   obtain ⟨o2,g2,_⟩:=w2
   rcases hb with q | q | q | q | q
   .exact lt hz q
   .exact lt hU q
   .exact lt hV q
   .exact lt g1 q
   .exact lt g2 q
 done:=by
  intro X hP hw hK hc n pins s σ H E I hf st hg
  subst hP hw hK
  have hend:(cD la).length<=n\/(cD lb).length<=n:=hg
  obtain ⟨hz,hU,⟨u,v,hV⟩,w1,w2⟩:=st
  rw [cK,cK] at hend
  have hT:s.TypeIs (.ref z) "zip":=⟨_,hz,rfl⟩
  unfold pyNext
  refine wpAny_bind (wpAny_attempt (wpAny_callSpecial?_slot (name:=Str.ofString "__next__") hT F.slot_zip_next (wpAny_call_entry F.slot_zip_next hT F.entry_zip_next
   (CJ (I.ok.hd hc) D hz hU hV w1 w2 ?_ fun h' tk e hk he=>?_) (F.args_zip_next_1 _))))
  .rcases hend with q | q
   .exact .inl (by simp [S];omega)
   .exact .inr (by simp [S];omega)
  .obtain ⟨o,ho,hcl⟩:=he
   refine wpAny_bind (wpAny_isInstance (T:="StopIteration") (b:=true) ⟨o,ho,hcl⟩ isSubtype_stop (wpAny_pure ⟨rfl,?_⟩))
   exact I.step (g':=s.gens) (d':=s.drawn) (t':=tk) (ch:=[z,V,i,j]) (fun b hb=>by
     have q:=hf b (by
      simp only [List.mem_cons,List.not_mem_nil,or_false] at hb ⊢
      rcases hb with q | q | q | q <;> simp [q])
     exact ⟨q.2.2.2.1,q.2.1,q.2.2.2.2.1,q.2.2.2.2.2⟩) (fun b o _ _ hc e _=>by
     simp only [List.mem_cons,List.not_mem_nil,or_false,not_or] at hc
     exact hk b o hc.1 hc.2.1 hc.2.2.1 hc.2.2.2 e) (fun b o _ _ hc e _=>⟨o.slots,by
     simp only [List.mem_cons,List.not_mem_nil,or_false,not_or] at hc
     exact hk b o hc.1 hc.2.1 hc.2.2.1 hc.2.2.2 e⟩) (fun _ _ _ _ q=>q) (fun b o hc e=>⟨o,by
     simp only [List.mem_cons,List.not_mem_nil,or_false,not_or] at hc
     exact hk b o hc.1 hc.2.1 hc.2.2.1 hc.2.2.2 e⟩) (fun _ _ e=>e) (fun _ _ _ e=>e) (fun b ps e=>⟨#[],by rw [e];simp⟩) (fun m hm=>by
     obtain ⟨o,es,ep,ho,r⟩:=hm
     exact ⟨o,es,ep,hk _ o (hf z (by simp)).2.1.symm (hf V (by simp)).2.1.symm (hf i (by simp)).2.1.symm (hf j (by simp)).2.1.symm ho,r⟩) (fun b u e=>by
     have nn:∀b u,H b=some u->b≠z/\b≠V/\b≠i/\b≠j:=fun b u e=>⟨fun q=>(by rw [q,(hf z (by simp)).1] at e;cases e),fun q=>(by rw [q,(hf V (by simp)).1] at e;cases e),fun q=>(by rw [q,(hf i (by simp)).1] at e;cases e),fun q=>(by rw [q,(hf j (by simp)).1] at e;cases e)⟩
     refine (I.hok b u e).stay (fun c v hc q=>?_) (fun _ q=>q) fun _ _ q=>q
     have n4:c≠z/\c≠V/\c≠i/\c≠j:=by
      rcases hc with q | q
      .rw [q];exact nn b u e
      .exact nn c _ q
     exact hk c v n4.1 n4.2.1 n4.2.2.1 n4.2.2.2 q) I.bare
 self:=fun _ _ _ _ _ st h=>wpAny_pyIter_zip st.1 h
section
variable {P:Program}{w:World}{A:Around}{E:Value->Shared->Prop}{s:Shared}
abbrev tz (x:Str) (t:Tok):Obj:={ cls:=.type (strIterType x),data:=.fields #[.str x t,.int 0 0] }
theorem mC {x:Str}{t:Tok}{Q:Value->Shared->Prop} (hQ:Q (.ref s.heap.objs.size) { s with heap:=s.heap.push (tz x t) }):wpAny (model P w) A (pyIter (.str x t)) Q E s:=by
 unfold tz strIterType at hQ
 cases ha:x.cps.all (· < 128)
 .simp only [ha,Bool.false_eq_true,if_false] at hQ
  exact wpAny_pyIter_wide ha hQ
 .simp only [ha,if_true] at hQ
  exact wpAny_pyIter_ascii ha hQ
abbrev yg1 (h:Heap) (x:Str) (t:Tok):Heap:=h.push (tz x t)
abbrev yg2 (h:Heap) (x y:Str) (t u:Tok):Heap:=(yg1 h x t).push (tz y u)
abbrev yg3 (h:Heap) (x y:Str) (t u:Tok):Heap:=(yg2 h x y t u).push { cls:=.type "tuple",data:=.seq #[.ref h.objs.size,.ref (yg1 h x t).objs.size] }
abbrev yg4 (h:Heap) (x y:Str) (t u:Tok):Heap:=(yg3 h x y t u).push { cls:=.type "tuple",data:=.seq #[.none,.none] }
abbrev yg5 (h:Heap) (x y:Str) (t u:Tok):Heap:=(yg4 h x y t u).push { cls:=.type "zip",data:=.fields #[.none,.bool false,.bool false,.ref (yg2 h x y t u).objs.size,.ref (yg3 h x y t u).objs.size] }
theorem xT (x y:Str) (t u:Tok):Meets (Builtin.«zip.__new__» ⟨[.type "zip",.str x t,.str y u],[]⟩) (fun _ R s =>
   R (.ok (.ret (.ref (yg4 s.heap x y t u).objs.size))) { s with heap:=yg5 s.heap x y t u }) :=
 .of_wp fun prog w A R s h=>by
  obtain ⟨hp,g,d,tk,os⟩:=s
  have hsub:=sub_zip
  wp_walk using mC (x:=x) (t:=t),mC (x:=y) (t:=u)
  exact ⟨_,rfl,h⟩
theorem xU {x y:Str}{t u:Tok}{Q:Value->Shared->Prop}
  (h:∀h',IsZip h' (s.heap.objs.size + 4) (s.heap.objs.size + 2) (s.heap.objs.size + 3) .none->IsPair h' (s.heap.objs.size + 2) (.ref s.heap.objs.size) (.ref (s.heap.objs.size + 1)) ->
   IsPair h' (s.heap.objs.size + 3) .none .none->SIt h' s.heap.objs.size x t 0->SIt h' (s.heap.objs.size + 1) y u 0->(∀b o,s.heap.get? b=some o->h'.get? b=some o)->Q (.ref (s.heap.objs.size + 4)) { s with heap:=h' }) :
  wpAny (model P w) A (call (.type "zip") [.str x t,.str y u]) Q E s:=by
 refine callType_new F.called_zip (by decide) (F.typeCall_zip_2 _ _) (F.newCall_zip_2 _ _) (fun obj=>F.args_object_init_3 obj _ _) F.entry_zip_new (xT x y t u) ?_
 have z1:(yg1 s.heap x t).objs.size=s.heap.objs.size + 1:=Heap.size_push ..
 have z2:(yg2 s.heap x y t u).objs.size=s.heap.objs.size + 2:=by rw [Heap.size_push,z1]
 have z3:(yg3 s.heap x y t u).objs.size=s.heap.objs.size + 3:=by rw [Heap.size_push,z2]
 have z4:(yg4 s.heap x y t u).objs.size=s.heap.objs.size + 4:=by rw [Heap.size_push,z3]
 have m4:∀b o,(yg4 s.heap x y t u).get? b=some o->(yg5 s.heap x y t u).get? b=some o:=fun b o e=>Heap.get?_push_of_some _ e
 have m3:∀b o,(yg3 s.heap x y t u).get? b=some o->(yg5 s.heap x y t u).get? b=some o:=fun b o e=>m4 b o (Heap.get?_push_of_some _ e)
 have m2:∀b o,(yg2 s.heap x y t u).get? b=some o->(yg5 s.heap x y t u).get? b=some o:=fun b o e=>m3 b o (Heap.get?_push_of_some _ e)
 have m1:∀b o,(yg1 s.heap x t).get? b=some o->(yg5 s.heap x y t u).get? b=some o:=fun b o e=>m2 b o (Heap.get?_push_of_some _ e)
 have g5:(yg5 s.heap x y t u).get? (yg4 s.heap x y t u).objs.size=some _:=Heap.get?_push_size _ rfl
 have g4:=m4 _ _ (Heap.get?_push_size (yg3 s.heap x y t u) (o:={ cls:=.type "tuple",data:=.seq #[.none,.none] }) rfl)
 have g3:=m3 _ _ (Heap.get?_push_size (yg2 s.heap x y t u) (o:={ cls:=.type "tuple",data:=.seq #[.ref s.heap.objs.size,.ref (yg1 s.heap x t).objs.size] }) rfl)
 have g2:=m2 _ _ (Heap.get?_push_size (yg1 s.heap x t) (o:=tz y u) rfl)
 have g1:=m1 _ _ (Heap.get?_push_size s.heap (o:=tz x t) rfl)
 show _/\_
 rw [z2,z3,z4] at g5
 rw [z1,z2] at g3
 rw [z3] at g4
 rw [z1] at g2
 rw [z4]
 exact ⟨⟨_,g5,rfl⟩,h _ g5 g3 g4 ⟨_,g1,rfl,rfl⟩ ⟨_,g2,rfl,rfl⟩ fun b o e=>m1 b o (Heap.get?_push_of_some _ e)⟩
end
section
variable {X:Cx}{es:List Expr}{ct:Nat}{tp:Pos}
def AA (K:PySem.W.Frag) (ta:TA):TI:=fun σ H R=>ta σ H fun vs H1=>(∃k l a c,vs=[.ref a,.ref c]/\(∃xs ys,Sq k K H1 a xs/\Sq l K H1 c ys)/\R (Itz k l K a c) H1)\/∃la lb,vs=[.str (S la),.str (S lb)]/\R (Ew (cD la) (cD lb)) H1
theorem qK (K:PySem.W.Frag) (e:X.K=K) {a b:Expr}{ta:TA}{p pos:Pos} (hg:Gl X "zip") (hm:X.mg "zip"=none) (ha:PA X [a,b] ta)
  (hs:starEach [a,b] X.env=[(false,eval a X.env),(false,eval b X.env)]:=by rfl) (hs2:starEach [b] X.env=[(false,eval b X.env)]:=by rfl) :
  PI X (.Tuple es ct tp) (.Call (.Name "zip" p) [a,b] [] pos) (AA K ta):=by
 subst e
 intro pins s σ H R I h
 refine Call_ (iX I hg hm boot_zip (PyProof.Rows.callWith_type1 (thn (ha pos pins s σ H _ I h) fun us s1 ⟨vs,H1,I1,r1,q1⟩=>?_) (by rw [hs,hs2]) (by rw [hs2];rfl)))
 have fin:∀b∈[s1.heap.objs.size + 4,s1.heap.objs.size + 2,s1.heap.objs.size + 3,s1.heap.objs.size,s1.heap.objs.size + 1],rM X pins H1 b:=fun b hb=>by
  have hle:s1.heap.objs.size<=b:=by
   simp only [List.mem_cons,List.not_mem_nil,or_false] at hb
   rcases hb with e | e | e | e | e
   .rw [e];exact Nat.le_add_right _ _
   .rw [e];exact Nat.le_add_right _ _
   .rw [e];exact Nat.le_add_right _ _
   .rw [e];exact Nat.le_refl _
   .rw [e];exact Nat.le_add_right _ _
  exact I1.fpOk hle (I1.hok.fresh hle)
 rcases q1 with ⟨k,l,a,c,e,⟨xs,ys,q1,q2⟩,q⟩ | ⟨la,lb,e,q⟩
 .subst e
  cases r1 with
  | cons r rr =>
   cases rr with
   | cons r' rr =>
    cases rr
    cases r
    cases r'
    obtain ⟨its,rv,p,_⟩:=I1.row q1
    obtain ⟨jts,rv',p',_⟩:=I1.row q2
    refine zV p p' fun h' g1 g2 g3 g4 g5 kk=>wpAny_pyIter_zip g1 ?_
    have I2:Inv X pins σ H1 { s1 with heap:=h',toks:=s1.toks }:=I1.kept kk
    exact ⟨s1.heap.objs.size + 4,[s1.heap.objs.size + 4,s1.heap.objs.size + 2,s1.heap.objs.size + 3,s1.heap.objs.size,s1.heap.objs.size + 1],_,_,H1,rfl,I2,xo (i:=s1.heap.objs.size) (j:=s1.heap.objs.size + 1)
     (B9 _),⟨g1,g2,⟨_,_,g3⟩,g4,g5⟩,fin,q⟩
 .subst e
  cases r1 with
  | cons r rr =>
   cases rr with
   | cons r' rr =>
    cases rr
    obtain ⟨t,rfl⟩:=r
    obtain ⟨u,rfl⟩:=r'
    refine xU fun h' g1 g2 g3 g4 g5 kk=>wpAny_pyIter_zip g1 ?_
    have I2:Inv X pins σ H1 { s1 with heap:=h',toks:=s1.toks }:=I1.kept kk
    exact ⟨s1.heap.objs.size + 4,[s1.heap.objs.size + 4,s1.heap.objs.size + 2,s1.heap.objs.size + 3,s1.heap.objs.size,s1.heap.objs.size + 1],_,_,H1,rfl,I2,vx (i:=s1.heap.objs.size) (j:=s1.heap.objs.size + 1)
     (B9 _),⟨g1,g2,⟨_,_,g3⟩,g4,g5⟩,fin,q⟩
def sk (pa:PTA):PTI:=fun ρ Q=>pa ρ fun as ρ1=>match as with
 | [.v (.str x),.v (.str y)]=>Q (min x.length y.length) (fun k=>.tup [.str [x.getD k 0],.str [y.getD k 0]]) ρ1
 | [.v a,.v b]=>(match rowD a,rowD b with
  | some xs,some ys=>Q (min xs.length ys.length) (fun k=>.tup [itD xs k,itD ys k]) ρ1
  | _,_=>False)
 | _=>False
end
section
variable {K:PySem.W.Frag}{ta:TA}{pa:PTA}
theorem CK {O:Addr->Prop}{H:Hp}{x y:List Nat}:Wlk K O H (Ew (cD x) (cD y)) (min x.length y.length) (fun k=>.tup [.str [x.getD k 0],.str [y.getD k 0]]):=fun O' H' kk dom=>by
 refine ⟨fun j hj=>?_,?_⟩
 .have h1:j < (cD x).length:=by rw [cK];omega
  have h2:j < (cD y).length:=by rw [cK];omega
  refine ⟨⟨_,_,List.getElem?_eq_getElem h1,List.getElem?_eq_getElem h2⟩,fun v H'' ⟨T,u,w,hT,e,y1,y2,e2⟩=>?_⟩
  subst e e2
  obtain ⟨c,hc,rfl⟩:=fk y1
  obtain ⟨d,hd,rfl⟩:=fk y2
  show Gr H' _/\FV K O' _ _ (.tup [.str [x.getD j 0],.str [y.getD j 0]])
  rw [List.getD_eq_getElem?_getD,List.getD_eq_getElem?_getD,hc,hd]
  exact ⟨Gr.new hT,.tup (fun z=>dom T z hT) aF (.cons (.str _ (by show 1<=1000000;decide)) (.cons (.str _ (by show 1<=1000000;decide)) .nil))⟩
 .show (cD x).length<=_\/(cD y).length<=_
  rw [cK,cK];omega
theorem qL (h:LAs K ta pa):LI K (AA K ta) (sk pa):=fun A ρ σ H Q Q' R q k=>h A ρ σ H _ _ R q fun vs H1 as ρ1 q1 f1 R1 o1=>by
 split at q1
 .rename_i x y
  cases o1 with
  | cons o1 o2 =>
   cases o2 with
   | cons o2 o3 =>
    cases o3
    have f1':FV K _ H1 _ (.str x):=o1
    have f2':FV K _ H1 _ (.str y):=o2
    cases f1'
    cases f2'
    exact .inr ⟨x,y,rfl,k _ H1 _ _ ρ1 q1 f1 R1 CK⟩
 .rename_i da db hno
  have:=Cv (K:=K) (ta:=ta) (pa:=pa) h
  cases o1 with
  | cons o1 o2 =>
   cases o2 with
   | cons o2 o3 =>
    cases o3
    split at q1
    .rename_i xs ys ex ey
     obtain ⟨b1,a1,us,rfl,l1,w1⟩:=FV.rowD (show FV K _ H1 _ da from o1) ex
     obtain ⟨b2,a2,ws,rfl,l2,w2⟩:=FV.rowD (show FV K _ H1 _ db from o2) ey
     have t1:=w1 _ H1 (fun b o n h=>⟨n,h⟩)
     have t2:=w2 _ H1 (fun b o n h=>⟨n,h⟩)
     refine .inl ⟨b1,b2,a1,a2,rfl,⟨us,ws,t1.1,t2.1⟩,k _ H1 _ _ ρ1 q1 f1 R1 fun O' H' kk dom=>?_⟩
     obtain ⟨s1,g1⟩:=w1 O' H' kk
     obtain ⟨s2,g2⟩:=w2 O' H' kk
     refine ⟨fun j hj=>?_,⟨us,ws,s1,s2,by omega⟩⟩
     have h1:j < us.length:=by omega
     have h2:j < ws.length:=by omega
     refine ⟨⟨us,ws,_,_,s1,s2,List.getElem?_eq_getElem h1,List.getElem?_eq_getElem h2⟩,fun x H'' ⟨T,u,w,hT,e,y1,y2,e2⟩=>?_⟩
     subst e e2
     obtain ⟨d1,hd1,fd1⟩:=g1.get (y1 us s1)
     obtain ⟨d2,hd2,fd2⟩:=g2.get (y2 ws s2)
     have e1:itD xs j=d1:=by unfold itD;rw [List.getD_eq_getElem?_getD,hd1];rfl
     have e2:itD ys j=d2:=by unfold itD;rw [List.getD_eq_getElem?_getD,hd2];rfl
     rw [e1,e2]
     have kk2:aZ O' H' O' (upd H' T (.tup [u,w])):=fun b o n e=>⟨n,by rw [ax (aN e hT)];exact e⟩
     exact ⟨Gr.new hT,.tup (fun z=>dom T z hT) aF (.cons (fd1.keeps kk2) (.cons (fd2.keeps kk2) .nil))⟩
    .exact q1.elim
 .exact q1.elim
end
section
variable {X:Cx}{K:PySem.W.Frag}{te:TE}{pe:PTE}
def CL (K:PySem.W.Frag):List V->Hp->VK->Prop:=fun xs H Q=>∃(p:Addr) (ns:List Int),xs=[.ref p]/\SqL K H p (ns.map V.int)/\ns.length < 64/\∀ns':List Int,ns'.Perm ns->ns'.Pairwise (·<=·)->∀q,H q=none->Q (.ref q) (upd H q (.lst (ns'.map V.int)))
theorem AB (K:PySem.W.Frag) (e:X.K=K):bK X (.builtin "sorted") (CL K):=by
 subst e
 intro pins s σ H xs us Q I r h
 obtain ⟨p,ns,rfl,hS,hne,q⟩:=h
 obtain ⟨u,rfl,ru⟩:=ib r
 cases (show u=Value.ref p from ru)
 obtain ⟨its,rv,pl,hz⟩:=I.list hS
 have hi:=gU rv
 have hlen:its.length=ns.length:=by have:=rv.length;rw [List.length_map] at this;exact this.symm
 refine sorted_ints pl.isList hi (by omega) fun out ns' ho hp hs=>?_
 obtain ⟨e,he⟩:=sortedAll_at s.heap its out
 have hle:s.heap.objs.size<=s.heap.objs.size + 1:=Nat.le_succ _
 refine ⟨.ref (s.heap.objs.size + 1),_,I.laid (a:=s.heap.objs.size + 1) (o:=.lst (ns'.map V.int)) (t':=s.toks) (fun b o z=>sortedAll_old z) hle ?_,rfl,q ns' hp hs _ (I.hok.fresh hle)⟩
 refine ⟨?_,out.toList,e,i9 ho,he⟩
 rw [List.length_map,hp.length_eq]
 exact sz _ (by omega)
def vy (i:Nat) (pe:PTE):PTE:=fun ρ Q=>match ρ[i]? with
 | some (some (.own _))=>pe ρ fun p ρ1=>(match ρ1[i]?,p with
  | some (some (.own ds)),.dat (.int j)=>∃k d,(ixN ds.length j=some k/\ds.length<=1000000)/\ds[k]?=some d/\Q (.dat d) (ρ1.set i (some (.own (ds.eraseIdx k))))
  | _,_=>False)
 | _=>False
theorem FVs.eraseIdx {O:Addr->Prop}{H:Hp}:∀{xs:List V}{ds:List D} (k:Nat),FVs K O H xs ds->FVs K O H (xs.eraseIdx k) (ds.eraseIdx k)
 | _,_,_,.nil=>.nil
 | _,_,0,.cons a b=>b
 | _,_,k + 1,.cons a b=>.cons a (FVs.eraseIdx k b)
theorem xV {i:Nat} (h:LE K te pe):LE K (tBM K "list" yD (cJ i) (bV te i4)) (vy i pe):=fun A ρ σ H Q Q' R q k=>by
 unfold vy at q
 split at q
 .rename_i ds0 e0
  obtain ⟨a0,xs0,s0,g0,f0⟩:=R.ownAt e0
  refine ⟨_,s0,.inl ⟨rfl,xs0,SqL.of g0⟩,h A ρ σ H _ _ R q fun v H1 p ρ1 q1 f1 o1=>?_⟩
  obtain ⟨R1,fv⟩:=o1.frz
  split at q1
  .rename_i ds j e1
   obtain ⟨a,xs,s,g,f⟩:=R1.ownAt e1
   rw [s0] at s;cases s
   obtain ⟨m,d,⟨hm,hl⟩,hd,q1⟩:=q1
   obtain ⟨w,hw,fw⟩:=f.getD hd
   cases (show FV K _ H1 v (.int j) from fv)
   obtain ⟨t1,t2,t3,t4⟩:=qt hm
   obtain ⟨R2,f2⟩:=R1.lstw (es:=ds.eraseIdx m) (ys:=xs.eraseIdx m) e1 s0 (f.eraseIdx m)
   have hx:xs.length=ds.length:=f.length
   exact ⟨a0,xs,j,m,w,rfl,rfl,g,by omega,by omega,by rw [hx];exact t1,hw,k _ _ _ _ q1 (f1.trans f2) ⟨R2,(fw.keeps f2.keeps)⟩⟩
  .exact q1.elim
 .exact q.elim
end
section
variable {X:Cx}{K:PySem.W.Frag}{te:TE}{pe:PTE}{fs:List Nat}
def yX:TIp:=fun x y H Q=>rI0 (fun i j=>.int (i + j)) x y H Q\/∃a b,x=.str (S a)/\y=.str (S b)/\a.length + b.length<=1000000/\Q (.str (S (a++b))) H
theorem vz:PIp X .Add yX:=by
 intro pins s σ H x y v u Q I rx ry q
 rcases q with q | ⟨a,b,rfl,rfl,hl,q⟩
 .exact zt pins s σ H x y v u Q I rx ry q
 .obtain ⟨t,rfl⟩:=rx
  obtain ⟨t',rfl⟩:=ry
  refine PyProof.Rows.iadd_str (fun t2 k=>⟨.str (S (a++b)),H,I.tok k,⟨t2,by rw [xj]⟩,q⟩) ?_
  rw [eT,eT]
  exact Nat.le_trans hl (sz _ (Nat.le_refl _))
def ipD:D->D->(D->Prop)->Prop
 | .int a,.int b,Q=>Q (.int (a + b))
 | .str a,.str b,Q=>a.length + b.length<=1000000/\Q (.str (a++b))
 | _,_,_=>False
def xW (i:Nat) (pe:PTE):PTS:=fun E ρ=>match ρ[i]? with
 | some (some (.dat d))=>pe ρ fun p ρ1=>(match ρ1[i]? with
  | some (some (.dat d'))=>d'=d/\ipD d p.d fun r=>ay i (.dat r) ρ1 E.nx
  | _=>False)
 | _=>False
theorem yY {i:Nat} (hi:LG K fs (dY i) (ay i)) (h:LE K te pe):LS K fs (ER i te yX) (xW i pe):=fun fx A R H0 ρ σ H E E' hf r F q k1 k2 k3 k4=>by
 unfold xW at q
 split at q
 .rename_i d e
  obtain ⟨v0,s0,rs0⟩:=r.get i _ e
  refine ⟨v0,s0,h A ρ σ H _ _ r q fun v H1 p ρ1 q1 f1 o1=>?_⟩
  obtain ⟨R1,fv⟩:=o1.frz
  split at q1
  .rename_i d' e1
   obtain ⟨rfl,q1⟩:=q1
   obtain ⟨v1,s1,rs1⟩:=R1.get i _ e1
   rw [s0] at s1
   cases s1
   have fv1:FV K (OO A ρ1 σ) H1 v0 d':=rs1
   unfold ipD at q1
   split at q1
   .rename_i a b ep
    rw [ep] at fv
    cases fv1
    cases fv
    exact .inl ⟨a,b,rfl,rfl,hi fx A R H0 ρ1 σ H1 (.dat (.int (a + b))) _ _ _ hf (F.fr f1) ⟨R1,.int _⟩ q1 k1⟩
   .rename_i a b ep
    rw [ep] at fv
    cases fv1
    cases fv
    exact .inr ⟨a,b,rfl,rfl,q1.1,hi fx A R H0 ρ1 σ H1 (.dat (.str (a++b))) _ _ _ hf (F.fr f1) ⟨R1,.str _ (by rw [List.length_append];exact q1.1)⟩ q1.2 k1⟩
   .exact q1.elim
  .exact q1.elim
 .exact q.elim
end
section
variable {X:Cx}{K:PySem.W.Frag}{te tk:TE}{pe pk:PTE}
def insN {α:Type} (xs:List α) (i:Int) (y:α):List α:=xs.take (min i.toNat xs.length)++[y]++xs.drop (min i.toNat xs.length)
def vA:V->List V->Hp->VK->Prop:=fun x vs H Q=>∃l xs i y,x=.ref l/\vs=[.int i,y]/\H l=some (.lst xs)/\(0<=i/\i < 2 ^ 62)/\xs.length < sizeLine/\Q .non (upd H l (.lst (insN xs i y)))
theorem vB:MtM X "list.insert" vA:=by
 intro pins s σ H x vs v us Q I rx rv h
 obtain ⟨l,xs,i,y,rfl,rfl,hH,hi,hz0,q⟩:=h
 cases rx
 cases rv with
 | cons ri rr =>
  cases rr with
  | cons ry rr =>
   cases rr
   obtain ⟨t,rfl⟩:=ri
   rename_i u
   obtain ⟨z,its,n,r,hl,e⟩:=I.lstM hH
   refine call_meets F.slot_list_insert ⟨_,e,rfl⟩ F.entry_list_insert (F.args_list_insert_3 _ _ _) (AutoSeq1.list_insert_list_int_val_1 l its.toArray n i t u (by rw [fitsIndex_both (by omega) (by omega)];decide) (by rw [List.size_toArray];omega)) ⟨e,?_⟩
   refine ⟨.non,_,I.lset (its':=insN its i u) hH e ?_ ?_ ?_,rfl,q⟩
   .have:¬ i < 0:=by omega
    simp only [this,if_false,List.size_toArray,insN,List.extract_toArray,List.push_toArray,List.append_toArray]
    congr 1
    rw [List.extract_eq_take_drop,List.extract_eq_take_drop]
    simp [List.take_of_length_le]
   .exact ((r.take _).append (.cons ry .nil)).append (r.drop _) |> fun h=>by unfold insN;rw [<- hl];exact h
   .unfold insN
    rw [List.length_append,List.length_append,List.length_take,List.length_drop]
    show _ + 1 + _<=_
    omega
def qM (i:Nat) (pk pe:PTE):PTE:=fun ρ Q=>match ρ[i]? with
 | some (some (.own _))=>pk ρ fun kp ρ1=>(match kp with
  | .dat (.int j)=>pe ρ1 fun p ρ2=>(match ρ2[i]? with
   | some (some (.own ds))=>((0<=j/\j < 2 ^ 60)/\ds.length < 1000000)/\Q (.dat .non) (ρ2.set i (some (.own (insN ds j p.d))))
   | _=>False)
  | _=>False)
 | _=>False
theorem FVs.insN {O:Addr->Prop}{H:Hp}{xs:List V}{ds:List D}{j:Int}{y:V}{d:D} (f:FVs K O H xs ds) (g:FV K O H y d):FVs K O H (L2.insN xs j y) (L2.insN ds j d):=by
 unfold L2.insN
 rw [f.length]
 exact ((f.take _).append (.cons g .nil)).append (f.drop _)
theorem vC {i:Nat} (hk:LE K tk pk) (h:LE K te pe):LE K (tBM K "list" vA (cJ i) (bV tk (bV te i4))) (qM i pk pe):=fun A ρ σ H Q Q' R q k=>by
 unfold qM at q
 split at q
 .rename_i ds0 e0
  obtain ⟨a0,xs0,s0,g0,f0⟩:=R.ownAt e0
  refine ⟨_,s0,.inl ⟨rfl,xs0,SqL.of g0⟩,hk A ρ σ H _ _ R q fun v1 H1 p1 ρ1 q1 f1 o1=>?_⟩
  split at q1
  .rename_i j
   obtain ⟨R1,fv1⟩:=o1
   cases fv1
   refine h A ρ1 σ H1 _ _ R1 q1 fun v H2 p ρ2 q2 f2 o2=>?_
   obtain ⟨R2,fv⟩:=o2.frz
   split at q2
   .rename_i ds e2
    obtain ⟨a,xs,s,g,f⟩:=R2.ownAt e2
    rw [s0] at s;cases s
    obtain ⟨R3,f3⟩:=R2.lstw e2 s0 (f.insN (j:=j) fv)
    exact ⟨a0,xs,j,v,rfl,rfl,g,by omega,Nat.lt_of_lt_of_le (by rw [f.length];exact q2.1.2) (sz _ (Nat.le_refl _)),k _ _ _ _ q2.2 ((f1.trans f2).trans f3) ⟨R3,.non⟩⟩
   .exact q2.elim
  .exact q1.elim
 .exact q.elim
end
section
variable {prog:Program}{w:World}{A:Around}{E:Value->Shared->Prop}{s:Shared}
theorem nH {l:Addr}{vs:List Value}{Q:List Value->Shared->Prop} (hl:IsTup s.heap l vs.toArray)
  (h:Q vs { s with heap:=(s.heap.push (seqObj "list" #[] 0)).update s.heap.objs.size (Obj.mapSeq (·++vs.toArray)) }) (hsz:vs.length<=sizeLine:=by size_fits) :
  wpAny (model prog w) A (collect (.ref l)) Q E s:=by
 obtain ⟨o,ho,hc,n,hd⟩:=id hl
 unfold collect
 refine wpAny_bind (wpAny_runValue (codeAny_builtin entry_proto_collect' ?_))
 show wpAny _ _ (do again (.builtin "list.__iadd__" ⟨[<- newList [],.ref l],[]⟩)) _ _ s
 refine wpAny_bind (wpAny_newList (wpAny_pure ⟨Code.quiet_builtin _ (by decide +kernel),codeAny_builtin entry_list_iadd' ?_⟩))
 show wpAny _ _ (Builtin.List.listExtendWith (.ref s.heap.objs.size) (.ref l) (.ref s.heap.objs.size)) _ _ { s with heap:=s.heap.push (seqObj "list" #[] 0) }
 unfold Builtin.List.listExtendWith
 have ho':(s.heap.push (seqObj "list" #[] 0)).get? l=some o:=Heap.get?_push_of_some _ ho
 refine wpAny_bind (wpAny_typeOf (T:="tuple") ⟨o,ho',hc⟩ ?_)
 have ht:(Value.type "tuple" == Value.type "tuple")=true:=by rfl
 rw [if_pos (by rw [ht];simp)]
 refine wpAny_bind (listItems_at ho' hd ?_)
 refine wpAny_bind (listItems_at (xs:=#[]) (n:=0) (Heap.get?_push_size _ rfl) rfl ?_)
 rw [if_neg (by simp)]
 refine wpAny_bind (listUpdate_at (xs:=#[]) (n:=0) (Heap.get?_push_size _ rfl) rfl ?_ (Nat.zero_le _) (by show (#[]++vs.toArray).size<=sizeLine + 1;simp only [Array.size_append,List.size_toArray,List.length_nil];omega))
 refine wpAny_pure ?_
 show wpAny (model prog w) A (do
   let o <- load s.heap.objs.size
   match o.data with
   | .seq xs _=>pure xs.toList
   | _=>unsupported "internal:collect") Q E { s with heap:=(s.heap.push (seqObj "list" #[] 0)).update s.heap.objs.size (Obj.mapSeq (·++vs.toArray)) }
 refine wpAny_bind (wpAny_load (get?_update_seq (Heap.get?_push_size _ rfl) _) ?_)
 show wpAny _ _ (pure ((#[]:Array Value)++vs.toArray).toList) Q E _
 rw [show ((#[]:Array Value)++vs.toArray).toList=vs by simp]
 exact wpAny_pure h
theorem pK {l:Addr}{vs:List Value}{ns:List Int}{Q:Value->Shared->Prop} (hl:IsTup s.heap l vs.toArray) (hI:IntsAre vs ns) (h64:vs.length < 64)
  (h:∀(out:Array Value) (ns':List Int),IntsAre out.toList ns'->ns'.Perm ns->ns'.Pairwise (·<=·)->Q (.ref (s.heap.objs.size + 1)) { s with heap:=sortedAll s.heap vs out }) :
  wpAny (model prog w) A (call (.builtin "sorted") [.ref l]) Q E s:=by
 refine Calls.call_function_entry kind_sorted plain_sorted entry_sorted (args_sorted1 _) ?_
 unfold Builtin.«sorted»
 refine wpAny_bind (m:=checkCount "sorted" 1 1 _) (wpAny_pure ?_)
 refine wpAny_bind (nH hl ?_)
 refine wpAny_bind (wpAny_newList ?_)
 have hsz:((s.heap.push (seqObj "list" #[] 0)).update s.heap.objs.size (Obj.mapSeq (·++vs.toArray))).objs.size=s.heap.objs.size + 1:=by
  rw [Heap.size_update,size_push']
 have hoL:(((s.heap.push (seqObj "list" #[] 0)).update s.heap.objs.size (Obj.mapSeq (·++vs.toArray))).push (seqObj "list" vs.toArray 0)).get? (s.heap.objs.size + 1)=some (seqObj "list" vs.toArray 0):=by
  rw [<- hsz];exact Heap.get?_push_size _ rfl
 show wpAny _ _ _ _ _ { s with heap:=((s.heap.push (seqObj "list" #[] 0)).update s.heap.objs.size (Obj.mapSeq (·++vs.toArray))).push (seqObj "list" vs.toArray 0) }
 rw [hsz]
 refine wpAny_bind (wpAny_holding (wpAny_call_entry slot_list_sort ⟨_,hoL,rfl⟩ entry_list_sort (list_sort_tree hoL hI h64 fun out ns' a1 a2 a3=>⟨_,rfl,?_⟩) (args_list_sort _)))
 exact wpAny_pure ⟨_,rfl,h out ns' a1 a2 a3⟩
end
section
variable {X:Cx}{K:PySem.W.Frag}
def yZ (K:PySem.W.Frag):List V->Hp->VK->Prop:=fun xs H Q=>∃(b:Bool) (p:Addr) (ns:List Int),xs=[.ref p]/\Sq b K H p (ns.map V.int)/\ns.length < 64/\∀ns':List Int,ns'.Perm ns->ns'.Pairwise (·<=·)->∀q,H q=none->Q (.ref q) (upd H q (.lst (ns'.map V.int)))
theorem AC (K:PySem.W.Frag) (e:X.K=K):bK X (.builtin "sorted") (yZ K):=by
 subst e
 intro pins s σ H xs us Q I r h
 obtain ⟨b,p,ns,rfl,hS,hne,q⟩:=h
 obtain ⟨u,rfl,ru⟩:=ib r
 cases (show u=Value.ref p from ru)
 cases b with
 | false=>exact AB X.K rfl pins s σ H _ _ Q I r ⟨p,ns,rfl,hS,hne,q⟩
 | true =>
  obtain ⟨its,rv,pl,hz⟩:=I.tuple hS
  have hi:=gU rv
  have hlen:its.length=ns.length:=by have:=rv.length;rw [List.length_map] at this;exact this.symm
  refine pK pl hi (by omega) fun out ns' ho hp hs=>?_
  obtain ⟨e,he⟩:=sortedAll_at s.heap its out
  have hle:s.heap.objs.size<=s.heap.objs.size + 1:=Nat.le_succ _
  refine ⟨.ref (s.heap.objs.size + 1),_,I.laid (a:=s.heap.objs.size + 1) (o:=.lst (ns'.map V.int)) (t':=s.toks) (fun b o z=>sortedAll_old z) hle ?_,rfl,q ns' hp hs _ (I.hok.fresh hle)⟩
  refine ⟨?_,out.toList,e,i9 ho,he⟩
  rw [List.length_map,hp.length_eq]
  exact sz _ (by omega)
def vD:FN
 | [.lst ds],Q=>∃ns:List Int,ds=ns.map .int/\ns.length < 64/\∀ns':List Int,ns'.Perm ns->ns'.Pairwise (·<=·)->Q (.own (ns'.map .int))
 | [.tup ds],Q=>∃ns:List Int,ds=ns.map .int/\ns.length < 64/\∀ns':List Int,ns'.Perm ns->ns'.Pairwise (·<=·)->Q (.own (ns'.map .int))
 | _,_=>False
theorem xX:LC K (yZ K) vD:=by
 intro O H xs as Q Q' dom fs q k
 unfold vD at q
 split at q
 .obtain ⟨ns,rfl,h0,q⟩:=q
  cases fs with
  | cons a b =>
   cases b
   obtain ⟨p,ys,rfl,e1,f1⟩:=a.lst
   rw [f1.ints] at e1
   exact ⟨false,p,ns,rfl,SqL.of e1,h0,fun ns' h1 h2 p' hp'=>k _ _ _ (q ns' h1 h2) (Gr.new hp') (d7 hp' (FVs.of_ints _))⟩
 .obtain ⟨ns,rfl,h0,q⟩:=q
  cases fs with
  | cons a b =>
   cases b
   obtain ⟨p,ys,rfl,_,e1,f1⟩:=a.tup
   rw [f1.ints] at e1
   exact ⟨true,p,ns,rfl,SqT.of e1,h0,fun ns' h1 h2 p' hp'=>k _ _ _ (q ns' h1 h2) (Gr.new hp') (d7 hp' (FVs.of_ints _))⟩
 .exact q.elim
end
section
variable {prog:Program}{w:World}{A:Around}{E:Value->Shared->Prop}{s:Shared}
theorem pL {it t:Addr}{items:Array Value} (hne:t≠it):∀(n i:Nat) (s:Shared) (Q:List Value->Shared->Prop),s.heap.IsListIter it t i->s.heap.IsList t items->i + n<=items.size ->
  (∀h',h'.IsListIter it t (i + n)->Heap.SameBut it s.heap h'->Q ((items.toList.drop i).take n) { s with heap:=h' })->wpAny (model prog w) A (draw (.ref it) n) Q E s
 | 0,i,s,Q,hit,_,_,hQ=>by
  show wpAny _ _ (pure []) Q E s
  exact wpAny_pure (by simpa using hQ s.heap hit (Heap.SameBut.refl ..))
 | n + 1,i,s,Q,hit,ht,hle,hQ=>by
  have hlt:i < items.size:=by omega
  show wpAny _ _ (pyNext (.ref it) >>= _) Q E s
  refine wpAny_bind (wpAny_pyNext_list_item hit ht (x:=items[i]) (by simp [hlt]) fun h₁ hit₁ hs₁=>?_)
  refine wpAny_bind (wpAny_holding (pL hne n (i + 1) _ _ hit₁ (ht.extBut hs₁.extBut hne) (by omega) fun h₂ hit₂ hs₂=>wpAny_pure ?_))
  have hd:items.toList.drop i=items[i]::items.toList.drop (i + 1):=by simp [List.drop_eq_getElem_cons,hlt]
  have:=hQ h₂ (by rw [show i + (n + 1)=i + 1 + n by omega];exact hit₂) (hs₁.trans hs₂)
  rw [hd,List.take_succ_cons] at this
  exact this
theorem j3 {t:Addr}{items:Array Value}{Q:List Value->Shared->Prop} (hh:A.handled=none) (ht:s.heap.IsList t items)
  (hQ:∀h',Heap.ExtBut s.heap.objs.size s.heap h'->Q items.toList { s with heap:=h' }):wpAny (model prog w) A (unpackItems (.ref t) items.size none) Q E s:=by
 have hlt:t≠s.heap.objs.size:=by obtain ⟨o,ho,_⟩:=ht;exact Nat.ne_of_lt (Heap.lt_size ho)
 unfold unpackItems
 refine wpAny_bind ?_
 .unfold notIterableAtAll
  refine wpAny_bind (wpAny_specialOf ht.typeIs PySem.F.slot_list_iter.lookup ?_)
  refine wpAny_pure ?_
  simp only [Bool.false_eq_true,if_false]
  refine wpAny_bind (wpAny_holding (wpAny_pyIter_list ht ?_))
  refine wpAny_bind (wpAny_holding (pL hlt items.size 0 _ _ ⟨_,Heap.get?_push_size _ rfl,rfl,rfl⟩ (ht.push _) (by omega) fun h₁ hit₁ hs₁=>?_))
  have hall:List.take items.size (List.drop 0 items.toList)=items.toList:=by
   rw [List.drop_zero];exact List.take_of_length_le (by simp)
  rw [hall]
  rw [if_neg (by simp)]
  have ht₁:h₁.IsList t items:=(ht.push _).extBut hs₁.extBut hlt
  refine wpAny_bind (wpAny_holding (wpAny_pyNext_list_end hh hit₁ ht₁ (by simp) fun h₂ he₂=>?_))
  simp only [Option.isSome_none,Bool.false_eq_true,if_false]
  refine wpAny_pure (hQ h₂ fun b o hb e=>he₂ b o hb (hs₁.extBut b o hb (Heap.get?_push_of_some _ e)))
theorem jv {env:Env}{elts:List Expr}{x1}{pos:Pos}{t:Addr}{items:Array Value}{Q:Unit->Shared->Prop} (hh:A.handled=none) (ht:s.heap.IsList t items)
  (hn:(assignEach elts env).length=items.size) (hstar:(assignEach elts env).findIdx? (·.1)=none)
  (h:∀h',Heap.ExtBut s.heap.objs.size s.heap h'->wpAny (model prog w) A (assignInOrder ((assignEach elts env).map (·.2)) items.toList) Q E { s with heap:=h' }) :
  wpAny (model prog w) A (assign (.Tuple elts x1 pos) env (.ref t)) Q E s:=by
 rw [assign_Tuple]
 refine wpAny_bind (wpAny_standAt ?_)
 unfold unpack
 rw [hn,hstar]
 exact wpAny_bind (wpAny_holding (j3 hh ht h))
end
def Dp (K:PySem.W.Frag) (n:Nat) (t:TGs):TG:=fun v σ H Q=>∃b a xs,v=.ref a/\Sq b K H a xs/\xs.length=n/\t xs σ H Q
section
variable {X:Cx}
theorem kJ (K:PySem.W.Frag) (eK:X.K=K) {es:List Expr}{k:Nat}{t:TGs}{n:Nat}{pos:Pos} (hc:X.calm=true) (h:PGs X es t)
  (hn:(assignEach es X.env).length=n:=by rfl) (hst:(assignEach es X.env).findIdx? (·.1)=none:=by rfl):PG X (.Tuple es k pos) (Dp K n t):=by
 subst eK
 intro pins s σ H v u Q I r hw
 obtain ⟨b,a,xs,e1,hq,hl,hw⟩:=hw
 cases b with
 | true=>exact BA hc h hn hst pins s σ H v u Q I r ⟨a,xs,e1,hq,hl,hw⟩
 | false =>
  subst e1
  cases r
  obtain ⟨its,rv,ht,hz⟩:=I.list hq
  refine jv (I.ok.hd hc) ht.isList (by simp [hn,<- hl,rv.length]) hst fun h' hx=>?_
  have I1:Inv X pins σ H { s with heap:=h' }:=I.kept (t':=s.toks) fun b o e=>hx b o (Nat.ne_of_lt (Heap.lt_size e)) e
  exact h pins _ σ H xs _ Q I1 (by simpa using rv) hw
def kK (n:Nat) (gs:yN):PTG:=fun p ρ Q=>match p with | .dat (.tup ds)=>ds.length=n/\gs ds ρ Q | .dat (.lst ds)=>ds.length=n/\gs ds ρ Q | .own ds=>ds.length=n/\gs ds ρ Q | _=>False
end
section
variable {K:PySem.W.Frag}{fs:List Nat}
theorem jw {n:Nat}{gs:TGs}{pgs:yN} (h:LGs K fs gs pgs):LGd K fs (Dp K n gs) (kK n pgs):=fun fx A R H0 ρ σ H d v Q Q' hf F r fv q k=>by
 unfold kK at q
 split at q
 .rename_i e
  cases e
  cases fv with
  | tup nn e f=>exact ⟨true,_,_,rfl,SqT.of e,by rw [f.length];exact q.1,h fx A R H0 ρ σ H _ _ Q Q' hf F r f q.2 k⟩
 .rename_i e
  cases e
  cases fv with
  | lst nn e f=>exact ⟨false,_,_,rfl,SqL.of e,by rw [f.length];exact q.1,h fx A R H0 ρ σ H _ _ Q Q' hf F r f q.2 k⟩
 .rename_i e
  cases e
 .exact q.elim
theorem CM {n:Nat}{gs:TGs}{pgs:yN} (h:LGs K fs gs pgs):LG K fs (Dp K n gs) (kK n pgs):=fun fx A R H0 ρ σ H p v Q Q' hf F o q k=>by
 unfold kK at q
 split at q
 .obtain ⟨r,fv⟩:=o
  cases fv with
  | tup nn e f=>exact ⟨true,_,_,rfl,SqT.of e,by rw [f.length];exact q.1,h fx A R H0 ρ σ H _ _ Q Q' hf F r f q.2 fun ρ' σ' q' r' F' _=>k ρ' σ' H q' r' F'⟩
 .obtain ⟨r,fv⟩:=o
  cases fv with
  | lst nn e f=>exact ⟨false,_,_,rfl,SqL.of e,by rw [f.length];exact q.1,h fx A R H0 ρ σ H _ _ Q Q' hf F r f q.2 fun ρ' σ' q' r' F' _=>k ρ' σ' H q' r' F'⟩
 .obtain ⟨r,fv⟩:=o.frz
  cases fv with
  | lst nn e f=>exact ⟨false,_,_,rfl,SqL.of e,by rw [f.length];exact q.1,h fx A R H0 ρ σ H _ _ Q Q' hf F r f q.2 fun ρ' σ' q' r' F' _=>k ρ' σ' H q' r' F'⟩
 .exact q.elim
end
def iO (d:D) (xs:List D):Prop:=d=.lst xs\/d=.tup xs
theorem iO.lst (xs:List D):iO (.lst xs) xs:=.inl rfl
theorem iO.tup (xs:List D):iO (.tup xs) xs:=.inr rfl
theorem iO.items {d:D}{xs:List D} (h:iO d xs):bu d=xs:=by rcases h with rfl | rfl <;> rfl
def nSt:Expr->Bool
 | .Starred _ _=>false
 | _=>true
theorem gG {e:Expr}{es:List Expr}{env:Env} (h:nSt e=true):starEach (e::es) env=(false,eval e env)::starEach es env:=by
 cases e <;> first | rfl | cases h
theorem fH {env:Env}{pos:Pos}:∀{es:List Expr},es.all nSt=true->(backTo pos (starEach es env)).any (·.1)=false
 | [],_=>rfl
 | e::es,h=>by
  rw [List.all_cons,Bool.and_eq_true] at h
  rw [gG h.1]
  show (false || (backTo pos (starEach es env)).any (·.1))=false
  rw [fH h.2];rfl
section
variable {X:Cx}{k:Nat}{x:Str}{ps:List Str}{sp:Sp}{e:Expr}{es:List Expr}{te:TE}{t:TA}{p pos:Pos}{dvs:List V}{C:Addr}{id T:String}{r:List V->Hp->VK->Prop}
theorem paC (ha:PE X e te) (hr:PA X es t) (hn:nSt e=true:=by rfl):PA X (e::es) (bV te t):=zB ha hr (gG hn)
theorem aL (C:Cal X.prog X.w X.K X.mg X.base k x ps sp) (hr:gj k X.A) (ha:PA X (e::es) t) (hg:Gl X x:=by rfl) (hdb:(x == ("__debug__":Str))=false:=by decide) (hn:nSt e=true:=by rfl) (hp:es.all nSt=true:=by rfl) :
  PE X (.Call (.Name x p) (e::es) [] pos) (iJ sp [] E0 t):=B4 C hr ha hg hdb (gG hn) (fH hp)
theorem xY (j:Nat) (C:Ce X.prog X.w X.K X.mg X.base k x ps dvs sp) (hr:gj k X.A) (hj:j<=dvs.length) (ha:PA X (e::es) t) (hg:Gl X x:=by rfl) (hdb:(x == ("__debug__":Str))=false:=by decide) (hn:nSt e=true:=by rfl) (hp:es.all nSt=true:=by rfl) :
  PE X (.Call (.Name x p) (e::es) [] pos) (iJ sp (dvs.drop j) E0 t):=zZ j C hr hj ha hg hdb (gG hn) (fH hp)
theorem sm (M:Cg X.prog X.w X.K X.mg X.base k C x ps sp) (hr:gj (k + 1) X.A) (ha:PA X (e::es) t) (hg:Gl X x:=by rfl) (hdb:(x == ("__debug__":Str))=false:=by decide) (hn:nSt e=true:=by rfl) (hp:es.all nSt=true:=by rfl) :
  PE X (.Call (.Name x p) (e::es) [] pos) (wZ C sp [] E0 t):=z0 M hr ha hg hdb (gG hn) (fH hp)
theorem ar (hc:bK X (.builtin id) r) (hg:Gl X x) (hm:X.mg x=none) (hv:bootBuiltins x=some (.builtin id)) (ha:PA X (e::es) t) (hnn:x≠"__name__":=by decide) (hdb:(x == ("__debug__":Str))=false:=by decide) (hn:nSt e=true:=by rfl) (hp:es.all nSt=true:=by rfl) :
  PE X (.Call (.Name x p) (e::es) [] pos) (tCB r t):=w9 hc hg hm hv ha hnn hdb (gG hn) (fH hp)
theorem bq (hc:bK X (.type T) r) (hg:Gl X x) (hm:X.mg x=none) (hv:bootBuiltins x=some (.type T)) (ha:PA X (e::es) t) (hnn:x≠"__name__":=by decide) (hdb:(x == ("__debug__":Str))=false:=by decide) (hn:nSt e=true:=by rfl) (hp:es.all nSt=true:=by rfl) :
  PE X (.Call (.Name x p) (e::es) [] pos) (tCB r t):=uq hc hg hm hv ha hnn hdb (gG hn) (fH hp)
end
def plT:Expr->Bool
 | .Call _ _ _ _=>true
 | .Name _ _=>true
 | .Subscript _ _ _=>true
 | .Attribute _ _ _=>true
 | _=>false
theorem AD {e:Expr}{env:Env} (h:plT e=true):∀whole,isTrue e env whole=(do let v <- whole;standAt e.pos;holding [v] (truthy v)):=by
 cases e <;> first | (intro _;rfl) | cases h
theorem eL {X:Cx}{e:Expr}{t:TE} (h:PE X e t) (hp:plT e=true:=by rfl):PT X e (tB t):=Bx h (AD hp)
def gq (a b:List Nat):Bool:=decide (0<=fnd b a 0)
def dF (ps:List (List Nat)) (i:Nat):Bool:=!decide (pw ps i∈ps.take i) && !(ps.filter fun o=>decide ((pw ps i).length < o.length)).any fun o=>gq (pw ps i) o
theorem nI {a b:List Nat}:gq a b=true ↔ ∃k,stA b a k=true:=by
 unfold gq
 constructor
 .intro h
  have h0:fnd b a 0≠-1:=fun z=>by rw [z] at h;exact absurd (of_decide_eq_true h) (by decide)
  obtain ⟨k,_,_,h1,_⟩:=rR h0
  exact ⟨k,h1⟩
 .rintro ⟨k,hk⟩
  by_cases h0:fnd b a 0=-1
  .rw [xq h0 k (Nat.zero_le _)] at hk;cases hk
  .obtain ⟨j,e,_⟩:=rR h0
   rw [e];exact decide_eq_true (by omega)
theorem xZ (a:List Nat):gq a a=true:=nI.mpr ⟨0,decide_eq_true ⟨by omega,by rw [List.drop_zero,List.take_length]⟩⟩
theorem vE {a b c:List Nat} (h1:gq a b=true) (h2:gq b c=true):gq a c=true:=by
 obtain ⟨k1,e1⟩:=nI.mp h1
 obtain ⟨k2,e2⟩:=nI.mp h2
 obtain ⟨l1,t1⟩:=of_decide_eq_true e1
 obtain ⟨l2,t2⟩:=of_decide_eq_true e2
 refine nI.mpr ⟨k2 + k1,decide_eq_true ⟨by omega,?_⟩⟩
 have hb:b.drop k1=(c.drop (k2 + k1)).take (b.length - k1):=by
  rw [<- t2,List.drop_take,List.drop_drop,t2]
 have ha:a=((c.drop (k2 + k1)).take (b.length - k1)).take a.length:=by rw [<- hb,t1]
 rw [List.take_take,show min a.length (b.length - k1)=a.length by omega] at ha
 exact ha.symm
theorem x0 {ps:List (List Nat)}{i:Nat}:dF ps i=true ↔ pw ps i∉ps.take i/\∀o∈ps,(pw ps i).length < o.length->gq (pw ps i) o=false:=by
 unfold dF
 rw [Bool.and_eq_true,Bool.not_eq_true',Bool.not_eq_true',decide_eq_false_iff_not,List.any_eq_false]
 constructor
 .rintro ⟨h1,h2⟩
  refine ⟨h1,fun o ho hl=>?_⟩
  have:=h2 o (List.mem_filter.mpr ⟨ho,decide_eq_true hl⟩)
  simpa using this
 .rintro ⟨h1,h2⟩
  refine ⟨h1,fun o ho=>?_⟩
  obtain ⟨m1,m2⟩:=List.mem_filter.mp ho
  rw [h2 o m1 (of_decide_eq_true m2)];decide
theorem vF {ps:List (List Nat)} (hw:∀w∈ps,w.length<=60):∀(m i:Nat),i < ps.length->(61 - (pw ps i).length) * (ps.length + 1) + i<=m->∃j,j < ps.length/\dF ps j=true/\gq (pw ps i) (pw ps j)=true:=by
 intro m
 induction m with
 | zero =>
  intro i hi h
  have hl:=hw _ (List.mem_of_getElem? (f8 hi))
  have:0 < (61 - (pw ps i).length) * (ps.length + 1):=Nat.mul_pos (by omega) (by omega)
  omega
 | succ m ih =>
  intro i hi h
  have hl:=hw _ (List.mem_of_getElem? (f8 hi))
  by_cases hk:dF ps i=true
  .exact ⟨i,hi,hk,xZ _⟩
  .by_cases h1:pw ps i∈ps.take i
   .obtain ⟨i',hi'⟩:=List.mem_iff_getElem?.mp h1
    have hlt:i' < i:=by
     have:=(List.getElem?_eq_some_iff.mp hi').1
     rw [List.length_take] at this;omega
    have he:pw ps i'=pw ps i:=by
     rw [List.getElem?_take,if_pos hlt] at hi'
     have:=f8 (ws:=ps) (k:=i') (by omega)
     rw [hi'] at this;exact (Option.some.inj this).symm
    obtain ⟨j,a1,a2,a3⟩:=ih i' (by omega) (by rw [he];omega)
    exact ⟨j,a1,a2,by rw [<- he];exact a3⟩
   .have h2:∃o∈ps,(pw ps i).length < o.length/\gq (pw ps i) o=true:=by
     apply Classical.byContradiction
     intro z
     refine hk (x0.mpr ⟨h1,fun o ho hlo=>?_⟩)
     cases hs:gq (pw ps i) o with
     | false=>rfl
     | true=>exact absurd ⟨o,ho,hlo,hs⟩ z
    obtain ⟨o,ho,hlo,hs⟩:=h2
    obtain ⟨i',hi'⟩:=List.mem_iff_getElem?.mp ho
    have hlt:i' < ps.length:=(List.getElem?_eq_some_iff.mp hi').1
    have he:pw ps i'=o:=by
     have:=f8 hlt
     rw [hi'] at this;exact (Option.some.inj this).symm
    have hm:(61 - o.length + 1) * (ps.length + 1)<=(61 - (pw ps i).length) * (ps.length + 1):=Nat.mul_le_mul_right _ (by have:=hw o ho;omega)
    rw [Nat.add_mul,Nat.one_mul] at hm
    obtain ⟨j,a1,a2,a3⟩:=ih i' hlt (by rw [he];omega)
    rw [he] at a3
    exact ⟨j,a1,a2,vE hs a3⟩
def pM (a b:List Nat) (k:Nat):Prop:=k < min a.length b.length/\b.take k <:+ a/\∀j,j < min a.length b.length->b.take j <:+ a->j<=k
theorem pM.uniq {a b:List Nat}{j k:Nat} (x:pM a b j) (y:pM a b k):j=k:=Nat.le_antisymm (y.2.2 j x.1 x.2.1) (x.2.2 k y.1 y.2.1)
def f9 (a b:List Nat):Nat:=open Classical in if h:∃k,pM a b k then Classical.choose h else 0
theorem nJ {a b:List Nat} (ha:0 < a.length) (hb:0 < b.length):pM a b (f9 a b):=by
 obtain ⟨k,h1,h2,h3⟩:=kz (fun k=>b.take k <:+ a) (by rw [List.take_zero];exact List.nil_suffix) (min a.length b.length) (by omega)
 have h:∃k,pM a b k:=⟨k,h1,h2,h3⟩
 unfold f9
 rw [dif_pos h]
 exact Classical.choose_spec h
theorem nK {a b:List Nat}{k:Nat} (h:pM a b k):f9 a b=k:=(nJ (by have:=h.1;omega) (by have:=h.1;omega)).uniq h
def aO (ps:List (List Nat)):List Nat:=(List.range ps.length).filter (dF ps)
def vG (ps:List (List Nat)):List Nat:=(List.range ps.length).filter fun i=>!decide (i∈aO ps)
def ah (ps:List (List Nat)):List (List Nat):=(aO ps).map (pw ps)
theorem fq {ps:List (List Nat)}{i:Nat} (h:i∈aO ps):i < ps.length:=List.mem_range.mp (List.mem_filter.mp h).1
theorem gZ (ps:List (List Nat)):(aO ps).length<=ps.length:=Nat.le_trans (List.length_filter_le ..) (by rw [List.length_range];omega)
theorem jx {m:Nat}{ps:List (List Nat)} (h:Pcs m ps):Pcs m (ah ps):=fun w hw=>by
 obtain ⟨i,hi,rfl⟩:=List.mem_map.mp hw
 exact h _ (gE (fq hi))
theorem jy (ps:List (List Nat)):(ah ps).length<=ps.length:=by unfold ah;rw [List.length_map];exact gZ ps
def kL (ps:List (List Nat)) (i:Nat):List Nat:=(aO ps).filter fun j=>gq (pw ps i) (pw ps j)
def sr (ps:List (List Nat)) (i:Nat):Nat:=(kL ps i).headD 0
theorem x4 {l:List Nat} (h:l.Pairwise (· < ·)) {m:Nat} (hm:m∈l) (hle:∀a∈l,m<=a):l.headD 0=m:=by
 cases l with
 | nil=>cases hm
 | cons x r =>
  show x=m
  have h1:=hle x (List.mem_cons_self ..)
  rcases List.mem_cons.mp hm with e | e
  .exact e.symm
  .have:=(List.pairwise_cons.mp h).1 m e;omega
theorem pN (ps:List (List Nat)):(aO ps).Pairwise (· < ·):=List.pairwise_lt_range.filter _
theorem vH {ps:List (List Nat)}{i m:Nat} (hm:m∈kL ps i) (hle:∀a∈kL ps i,m<=a):sr ps i=m:=x4 ((pN ps).filter _) hm hle
theorem tD {ps:List (List Nat)} (hw:∀w∈ps,w.length<=60) {i:Nat} (hi:i < ps.length):∃j,j∈kL ps i:=by
 obtain ⟨j,h1,h2,h3⟩:=vF hw _ i hi (Nat.le_refl _)
 exact ⟨j,List.mem_filter.mpr ⟨List.mem_filter.mpr ⟨List.mem_range.mpr h1,h2⟩,h3⟩⟩
def eM (ps:List (List Nat)) (i:Nat):D:=.tup [.int (i:Int),.int (sr ps i:Int),.int (fnd (pw ps (sr ps i)) (pw ps i) 0)]
def x5 (ws:List (List Nat)):D:=.tup (ws.map fun w=>.tup (ws.map fun v=>.int (f9 w v:Int)))
def AE (ps:List (List Nat)):Int:=((ah ps).map fun w=>(w.length:Int)).sum
def nD (k:Nat):D:=.int (k:Int)
def kM:List Str:=["pieces","kept","words","left","laps","total"]
def kN (ps:List (List Nat)):List D:=[.tup (ps.map .str),.tup ((aO ps).map nD),.tup ((ah ps).map .str),.tup ((vG ps).map (eM ps)),x5 (ah ps),.int (AE ps)]
theorem vI {ks:List Nat}{k:Nat} (h:k < (ks.map nD).length):itD (ks.map nD) k=.int ((ks.getD k 0:Nat):Int):=ik (by
 have h:k < ks.length:=by rwa [List.length_map] at h
 rw [List.getElem?_map,List.getD_eq_getElem?_getD,List.getElem?_eq_getElem h];rfl)
theorem nL (w:List Nat):∀ws:List (List Nat),inD (.str w) (ws.map .str)=decide (w∈ws)
 | []=>by simp [inD]
 | v::r=>by
  have ih:=nL w r
  unfold inD at ih ⊢
  rw [List.map_cons,List.any_cons,ih]
  show ((v == w) || decide (w∈r))=_
  by_cases h:v=w
  .subst h;simp
  .rw [beq_eq_false_iff_ne.mpr h,Bool.false_or]
   by_cases h2:w∈r
   .rw [decide_eq_true h2,decide_eq_true (List.mem_cons_of_mem _ h2)]
   .rw [decide_eq_false h2,decide_eq_false (fun z=>(List.mem_cons.mp z).elim (fun e=>h e.symm) h2)]
theorem vJ (k:Nat):∀ks:List Nat,inD (.int (k:Int)) (ks.map nD)=decide (k∈ks)
 | []=>by simp [inD]
 | v::r=>by
  have ih:=vJ k r
  unfold inD at ih ⊢
  rw [List.map_cons,List.any_cons,ih]
  show (((v:Int) == (k:Int)) || decide (k∈r))=_
  by_cases h:v=k
  .subst h;simp
  .rw [show ((v:Int) == (k:Int))=false from beq_eq_false_iff_ne.mpr (by omega),Bool.false_or]
   by_cases h2:k∈r
   .rw [decide_eq_true h2,decide_eq_true (List.mem_cons_of_mem _ h2)]
   .rw [decide_eq_false h2,decide_eq_false (fun z=>(List.mem_cons.mp z).elim (fun e=>h e.symm) h2)]
theorem vK (ws:List (List Nat)):(ws.map D.str).all D.fl=true:=by rw [List.all_map];exact List.all_eq_true.mpr fun _ _=>rfl
theorem CN (ks:List Nat):(ks.map nD).all D.fl=true:=by rw [List.all_map];exact List.all_eq_true.mpr fun _ _=>rfl
theorem AF (n:Nat):oA 0 n=(List.range n).map nD:=by
 unfold oA nD
 exact List.map_congr_left fun k _=>by rw [Int.zero_add]
theorem pO (ws:List (List Nat)):(List.range ws.length).map (pw ws)=ws:=by
 apply List.ext_getElem?
 intro k
 rw [List.getElem?_map]
 by_cases hk:k < ws.length
 .rw [List.getElem?_range hk,f8 hk];rfl
 .rw [List.getElem?_eq_none (by rw [List.length_range];omega),List.getElem?_eq_none (by omega)];rfl
theorem x6 {β:Type} (f:List Nat->Option β) (ws:List (List Nat)):(List.range ws.length).filterMap (fun k=>f (pw ws k))=ws.filterMap f:=by
 conv=>rhs;rw [<- pO ws]
 rw [List.filterMap_map];rfl
theorem dw {α β:Type} (p:α->Bool) (g:α->β):∀l:List α,l.filterMap (fun a=>if p a=true then some (g a) else none)=(l.filter p).map g
 | []=>rfl
 | a::r=>by
  rw [List.filterMap_cons,List.filter_cons]
  cases h:p a with
  | true=>simp [dw p g r]
  | false=>simp [dw p g r]
theorem x8 {β:Type} (f:Nat->Option β) (ks:List Nat):(List.range ks.length).filterMap (fun k=>f (ks.getD k 0))=ks.filterMap f:=by
 have e:(List.range ks.length).map (fun k=>ks.getD k 0)=ks:=by
  have:=fF (fun k=>k) ks
  rw [List.map_id'] at this;exact this
 conv=>rhs;rw [<- e]
 rw [List.filterMap_map];rfl
theorem jA (n:Nat):(oA 0 n).length=n:=by unfold oA;rw [List.length_map,List.length_range]
theorem nM {n j:Nat} (h:j < (oA 0 n).length):itD (oA 0 n) j=.int (j:Int):=ik (by
 rw [jA] at h
 unfold oA
 rw [List.getElem?_map,List.getElem?_range h]
 show some (D.int (0 + (j:Int)))=_
 rw [Int.zero_add])
theorem x9 (a b:List Int):deq (.lst (a.map .int)) (.lst (b.map .int))=decide (a=b):=by
 unfold deq
 show PyData.eqv (.list (D.pys _)) (.list (D.pys _))=_
 rw [nF,nF]
 simp only [PyData.eqv]
 exact kt a b
def nN (n:Nat):List Int:=(List.range n).map fun k=>((k:Nat):Int)
theorem pP (n:Nat):oA 0 n=(nN n).map D.int:=by
 unfold oA nN
 rw [List.map_map]
 exact List.map_congr_left fun k _=>by show D.int (0 + (k:Int))=D.int (k:Int);rw [Int.zero_add]
theorem qN (n:Nat):(nN n).Pairwise (·<=·):=by
 unfold nN
 rw [List.pairwise_map]
 exact List.pairwise_lt_range.imp fun h=>by omega
theorem AG {a b:List Int}{n:Nat} (hp:b.Perm a) (hs:b.Pairwise (·<=·)):decide (b=nN n)=decide (a.Perm (nN n)):=by
 by_cases h:b=nN n
 .rw [decide_eq_true h,decide_eq_true (by rw [<- h];exact hp.symm)]
 .rw [decide_eq_false h,decide_eq_false fun z=>h (List.Perm.eq_of_pairwise (fun x y _ _ h1 h2=>by omega) hs (qN n) (hp.trans z))]
abbrev vmB:List Value:=[.type "ValueError",.type "Exception",.type "BaseException",.type "object"]
open PySem.Builtin PySem.Builtin.ObjectAttr
section
variable {prog:Program}{w:World}{A:Around}{E:Value->Shared->Prop}{K:PySem.W.Frag}{h:Heap}{g:Array GenState}{d:Drawn}{t:Nat}{os:OsState}
variable {nm q:Str}{C G N x:Addr}{bs:List Value}{sn:List Str}{sub:List Value}{ab:Bool}{col:Option Bool}{k0 k1 k2 k3 k5:Option Value}{name:Str}{v:Value}{o:Obj}{vs:Array Value}
def Fg (h h':Heap) (x:Addr) (o:Obj) (name:Str) (v:Value) (dx:Addr):Prop :=
 h'.get? x=some { o with dict:=some dx }/\h.objs.size<=dx/\dx≠x/\h'.Ns1 dx (fun y=>if y=name then some v else none)/\∀b ob,b≠x->h.get? b=some ob->h'.get? b=some ob
theorem nO {tk:Tok}{Q:Fin->Shared->Prop} (X:K.In h) (hC:h.get? C=some (excClassObj nm q C N bs (.ref G::vmB) true sn sub ab col none k0 k1 k2 k3 k5 "ValueError.__new__"))
  (hna:PySem.W.findIn K (.ref C) name=some none) (hx:h.get? x=some o) (hc:o.cls=.ref C) (hd:o.data=.fields vs) (hdn:o.dict=none)
  (hq:∀h' tk' dx,Fg h h' x o name v dx->Q (.done (.ret .none)) ⟨h',g,d,tk',os⟩) :
  wpAny (model prog w) A (Builtin.«object.__setattr__» ⟨[.ref x,.str name tk,v],[]⟩) Q E ⟨h,g,d,t,os⟩:=by
 have hpass:=PySem.F.store_ValueError.passes (.ref x)
 unfold Builtin.«object.__setattr__»
 repeat (first
  | rw [refuse_eq]
  | (rw [refuseLoop_ref,refuseLoop_ref,hpass])
  | (with_reducible refine wpAny_loadPart_at hx ?_;rw [hc])
  | with_reducible refine wpAny_mroOf_exc hC ?_
  | (with_reducible refine (PySem.W.looks_findIn X hna).at ?_)
  | wp_step)
 rw [hdn,if_neg (by simp [typeHasDict])]
 split
 .rename_i hcd
  cases hcd
 split
 .rename_i c hcd
  rw [hd] at hcd;cases hcd
 .have hx1:(h.push { cls:=.type "dict",data:=.dict #[] }).get? x=some o:=Heap.get?_push_of_some _ hx
  have hxs:x≠h.objs.size:=Nat.ne_of_lt (Heap.lt_size hx)
  refine wpAny_bind (wpAny_alloc' ?_)
  refine wpAny_bind (wpAny_update' hx1 ?_)
  refine wpAny_pure ?_
  generalize hg2:((h.push { cls:=.type "dict",data:=.dict #[] }).update x fun o=>{ cls:=o.cls,dict:=some h.objs.size,data:=o.data,slots:=o.slots })=h2
  have gd:h2.get? h.objs.size=some { cls:=.type "dict",data:=.dict #[] }:=by
   rw [<- hg2]
   exact (Heap.get?_update_ne _ _ _ _ hxs.symm).trans (Heap.get?_push_at rfl rfl)
  have gx:h2.get? x=some { o with dict:=some h.objs.size }:=by
   rw [<- hg2]
   refine Heap.get?_update_self _ hx1 ?_
   have hfr:=(Heap.get?_some_iff.mp hx).2
   obtain ⟨oc,od,odt,osl⟩:=o
   cases odt <;> first | rfl | exact hfr
  have kp:∀b ob,b≠x->h.get? b=some ob->h2.get? b=some ob:=fun b ob hb e=>by
   rw [<- hg2]
   exact (Heap.get?_update_ne _ _ _ _ hb).trans (Heap.get?_push_of_some _ e)
  have hnd:h2.Ns h.objs.size (fun _=>none):=⟨_,#[],_,gd,rfl,fun e he=>absurd he (by simp),fun _=>rfl⟩
  show wpAny _ _ (storeInDict h.objs.size (.str name tk) name v) _ _ _
  unfold storeInDict newKeyGuard
  refine wpAny_bind (wpAny_pure (wpAny_bind (wpAny_nsSet1 (Heap.Ns1.of_empty hnd) fun h' hn' hs=>?_)))
  obtain ⟨oD,esD,epD,hoD,hdD,hcD⟩:=hn'.count (Within.cons name v Within.nil)
  refine wpAny_bind (wpAny_lookBehind hoD (by
   rw [hdD]
   exact pastItsLine_dict (Nat.le_trans hcD (by rw [List.length_cons,List.length_nil,sizeLine_eq];omega))) ?_)
  wp_walk
  exact hq h' _ h.objs.size ⟨(hs.2 x hxs).trans gx,Nat.le_refl _,hxs.symm,hn',fun b ob hb e=>(hs.2 b (Nat.ne_of_lt (Heap.lt_size e))).trans (kp b ob hb e)⟩
theorem AH {Q:Unit->Shared->Prop} (X:K.In h) (hC:h.get? C=some (excClassObj nm q C N bs (.ref G::vmB) true sn sub ab col none k0 k1 k2 k3 k5 "ValueError.__new__"))
  (hsa:PySem.W.findIn K (.ref C) "__setattr__"=some (some (.builtin "object.__setattr__"))) (hna:PySem.W.findIn K (.ref C) name=some none)
  (hx:h.get? x=some o) (hc:o.cls=.ref C) (hd:o.data=.fields vs) (hdn:o.dict=none)
  (hq:∀h' tk' dx,Fg h h' x o name v dx->Q () ⟨h',g,d,tk',os⟩) :
  wpAny (model prog w) A (setAttr (.ref x) name v) Q E ⟨h,g,d,t,os⟩:=by
 have SF:=PySem.F.store_ValueError
 have u3:=SF.slot.bind (.ref x)
 unfold setAttr callSpecial? specialOf
 refine wpAny_bind (wpAny_mkText (wpAny_bind (wpAny_bind (wpAny_bind (wpAny_typeOf_ref hx ?_)))))
 rw [hc]
 refine (PySem.W.looks_findIn X hsa).at ?_
 refine wpAny_holding (wpAny_bind (wpAny_of_eq u3 (wpAny_bind (wpAny_call ?_))))
 have own:(Value.ref C::.ref G::vmB).contains (.type "object")=true:=by
  rw [List.contains_cons,List.contains_cons,SF.hasOwner,Bool.or_true,Bool.or_true]
 refine codeAny_call_builtin SF.slot.plain SF.entry ?_
 simp only [checkBuiltinCall,SF.kind,SF.split]
 have ha:=SF.args (.ref x) (.str name t) v
 show wpAny _ _ (isInstance (.ref x) (.type "object") >>= _) _ _ _
 refine wpAny_bind ?_
 unfold isInstance
 refine wpAny_bind (wpAny_typeOf_ref hx ?_)
 rw [hc]
 refine wpAny_isSubtype_exc hC ?_
 rw [own]
 have step:∀{Q':Fin->Shared->Prop},(∀s',Q () s'->Q' (.done (.ret .none)) s')->wpAny (model prog w) A.in1 (Builtin.«object.__setattr__» ⟨[.ref x,.str name t,v],[]⟩) Q' E ⟨h,g,d,t + 1,os⟩:=fun k =>
  nO X hC hna hx hc hd hdn fun h' tk' dx z=>k _ (hq h' tk' dx z)
 show wpAny _ _ (match Manifest.signature? "object.__setattr__" with | some sig=>Bind.checkArgs "object.__setattr__" sig { pos:=[Value.ref x]++[Value.str name t,v] } | x=>pure ()) _ _ _
 cases hsig:Manifest.signature? "object.__setattr__" with
 | none=>exact wpAny_pure (step fun s' z=>wpAny_pure (wpAny_pure z))
 | some sig =>
  simp only [argsOk,hsig] at ha
  have h2:Bind.checkArgs "object.__setattr__" sig ⟨[.ref x,.str name t,v],[]⟩=pure ():=ha
  show wpAny _ _ (Bind.checkArgs "object.__setattr__" sig ⟨[.ref x,.str name t,v],[]⟩) _ _ _
  rw [h2]
  exact wpAny_pure (step fun s' z=>wpAny_pure (wpAny_pure z))
end
open PySem.Builtin PySem.Builtin.ObjectAttr
open PySem.Builtin PySem.Builtin.ObjectAttr
section
variable {prog:Program}{w:World}{A:Around}{E:Value->Shared->Prop}{K:PySem.W.Frag}{h:Heap}{g:Array GenState}{d:Drawn}{t:Nat}{os:OsState}
variable {nm q:Str}{C G N x dx:Addr}{bs:List Value}{sn:List Str}{sub:List Value}{ab:Bool}{col:Option Bool}{k0 k1 k2 k3 k5:Option Value}{name:Str}{v:Value}{o:Obj}{vs:Array Value}{mA:Str->Option Value}
theorem vL {R:Result->Shared->Prop} (hC:h.get? C=some (excClassObj nm q C N bs (.ref G::vmB) true sn sub ab col none k0 k1 k2 k3 k5 "ValueError.__new__")) (hx:h.get? x=some o) (hc:o.cls=.ref C)
  (hq:R (.ok (.ret (.ref C))) ⟨h,g,d,t,os⟩):codeAny (model prog w) A (.call (.builtin "getset_descriptor.__get__") ⟨[.builtin "object.__class__",.ref x,.ref C],[]⟩) R ⟨h,g,d,t,os⟩:=by
 have hT5:(⟨h,g,d,t,os⟩:Shared).TypeIs (.builtin "object.__class__") "getset_descriptor":=PySem.F.typeOf_object_class
 have own:(Value.ref C::.ref G::vmB).contains (.type (".".intercalate ("object.__class__".cutAt '.').dropLast))=true:=by
  rw [PySem.F.owner_object_class]
  rfl
 refine codeAny_call_builtin PySem.F.slot_gs_get.plain PySem.F.entry_gs_get ?_
 refine PySem.F.slot_gs_get.check _ _ _ _ _ _ _ _ hT5 (PySem.F.args_gs_get _ _ _) ?_
 repeat (any_goals (first
  | assumption
  | (with_reducible refine wpAny_loadPart_at hx ?_;rw [hc])
  | (with_reducible refine wpAny_isSubtype_exc hC ?_;rw [own])
  | wp_step))
 refine ⟨Code.quiet_builtin _ (by decide +kernel),codeAny_builtin PySem.F.entry_object_class ?_⟩
 repeat (any_goals (first
  | assumption
  | (with_reducible refine wpAny_loadPart_at hx ?_;rw [hc])
  | wp_step))
theorem qO {tk:Tok}{Q:Fin->Shared->Prop} (X:K.In h) (hC:h.get? C=some (excClassObj nm q C N bs (.ref G::vmB) true sn sub ab col none k0 k1 k2 k3 k5 "ValueError.__new__")) (hx:h.get? x=some o) (hc:o.cls=.ref C)
  (hcl:PySem.W.findIn K (.ref C) "__class__"=some (some (.builtin "object.__class__"))) (hq:Q (.done (.ret (.ref C))) ⟨h,g,d,t,os⟩) :
  wpAny (model prog w) A (Builtin.«object.__getattribute__» ⟨[.ref x,.str "__class__" tk],[]⟩) Q E ⟨h,g,d,t,os⟩:=by
 have u5:=PySem.F.typeOf_object_class
 have u6:=PySem.F.slot_gs_get.lookup
 have u7:=PySem.F.slot_gs_set.lookup
 unfold Builtin.«object.__getattribute__»
 repeat (any_goals (first
  | assumption
  | (with_reducible refine wpAny_loadPart_at hx ?_;rw [hc])
  | (with_reducible refine (PySem.W.looks_findIn X hcl).at ?_)
  | wp_step))
 refine vL hC hx hc ?_
 repeat (any_goals (first
  | assumption
  | wp_step))
end
open PySem.Builtin PySem.Builtin.ObjectAttr
section
variable {prog:Program}{w:World}{A:Around}{E:Value->Shared->Prop}{K:PySem.W.Frag}{h:Heap}{g:Array GenState}{d:Drawn}{t:Nat}{os:OsState}
variable {nm q:Str}{C G N x dx:Addr}{bs:List Value}{sn:List Str}{sub:List Value}{ab:Bool}{col:Option Bool}{k0 k1 k2 k3 k5:Option Value}{name:Str}{v:Value}{o:Obj}{vs:Array Value}{mA:Str->Option Value}
theorem FH {fill expr:Bool}{tk:Tok}{Q:Value->Shared->Prop} (X:K.In h) (hC:h.get? C=some (excClassObj nm q C N bs (.ref G::vmB) true sn sub ab col none k0 k1 k2 k3 k5 "ValueError.__new__"))
  (hga:PySem.W.findIn K (.ref C) "__getattribute__"=some (some (.builtin "BaseException.__getattribute__"))) (hgh:PySem.W.findIn K (.ref C) "__getattr__"=some none)
  (hx:h.get? x=some o) (hc:o.cls=.ref C) (hh:handedOut v=pure v)
  (step:∀{Q':Fin->Shared->Prop}{E':Value->Shared->Prop},Q' (.done (.ret v)) ⟨h,g,d,t,os⟩->wpAny (model prog w) A.in1 (Builtin.«object.__getattribute__» ⟨[.ref x,.str name tk],[]⟩) Q' E' ⟨h,g,d,t,os⟩)
  (hq:Q v ⟨h,g,d,t,os⟩):wpAny (model prog w) A (getAttrBy (.ref x) (.str name tk) fill expr) Q E ⟨h,g,d,t,os⟩:=by
 unfold getAttrBy
 refine wpAny_holding (wpAny_bind (wpAny_typeOf_ref hx ?_))
 rw [hc]
 refine wpAny_bind ((PySem.W.looks_findIn X hga).at ?_)
 have hx2:(Value.builtin "BaseException.__getattribute__" == Value.builtin "object.__getattribute__")=false:=by decide +kernel
 show wpAny _ _ (if (onTheHeap (.ref C) && (Value.builtin "BaseException.__getattribute__" == Value.builtin "object.__getattribute__"))=true then _ else _) _ _ _
 rw [hx2,Bool.and_false,if_neg (by decide)]
 unfold getAttrByItsOwn
 refine wpAny_bind ((PySem.W.looks_hook X (r:=none) (by rw [if_pos (by rfl)];exact hgh)).at ?_)
 refine wpAny_bind (wpAny_attempt ?_)
 unfold callGetattribute
 refine wpAny_holding ?_
 rw [if_neg (by cases expr <;> decide)]
 unfold boundAndCalled
 have FB:=PySem.F.attrBase_ValueError
 have own:(Value.ref C::.ref G::vmB).contains (.type "BaseException")=true:=by
  rw [List.contains_cons,List.contains_cons,FB.hasBase,Bool.or_true,Bool.or_true]
 have ha:=PySem.F.args_bexc_ga (.ref x) (.str name tk)
 have hk:builtinKind "BaseException.__getattribute__"=some .slot:=by decide +kernel
 have hsp:splitId "BaseException.__getattribute__"=some ("BaseException","__getattribute__"):=by decide +kernel
 refine wpAny_bind (wpAny_of_eq (FB.ga.bind (.ref x)) ?_)
 refine wpAny_call (codeAny_call_builtin FB.ga.plain PySem.F.entry_bexc_ga ?_)
 simp only [checkBuiltinCall,hk,hsp]
 show wpAny _ _ (isInstance (.ref x) (.type "BaseException") >>= _) _ _ _
 refine wpAny_bind ?_
 unfold isInstance
 refine wpAny_bind (wpAny_typeOf_ref hx ?_)
 rw [hc]
 refine wpAny_isSubtype_exc hC ?_
 rw [own]
 have done:wpAny (model prog w) A (handedOut v) Q E ⟨h,g,d,t,os⟩:=by rw [hh];exact wpAny_pure hq
 show wpAny _ _ (match Manifest.signature? "BaseException.__getattribute__" with | some sig=>Bind.checkArgs "BaseException.__getattribute__" sig { pos:=[Value.ref x]++[Value.str name tk] } | x=>pure ()) _ _ _
 cases hsig:Manifest.signature? "BaseException.__getattribute__" with
 | none=>exact wpAny_pure (step done)
 | some sig =>
  simp only [argsOk,hsig] at ha
  have h2:Bind.checkArgs "BaseException.__getattribute__" sig ⟨[.ref x,.str name tk],[]⟩=pure ():=ha
  show wpAny _ _ (Bind.checkArgs "BaseException.__getattribute__" sig ⟨[.ref x,.str name tk],[]⟩) _ _ _
  rw [h2]
  exact wpAny_pure (step done)
theorem AI {Q:Option Value->Shared->Prop} (X:K.In h) (hC:h.get? C=some (excClassObj nm q C N bs (.ref G::vmB) true sn sub ab col none k0 k1 k2 k3 k5 "ValueError.__new__"))
  (hga:PySem.W.findIn K (.ref C) "__getattribute__"=some (some (.builtin "BaseException.__getattribute__"))) (hgh:PySem.W.findIn K (.ref C) "__getattr__"=some none)
  (hcl:PySem.W.findIn K (.ref C) "__class__"=some (some (.builtin "object.__class__"))) (hx:h.get? x=some o) (hc:o.cls=.ref C) (hq:Q (some (.ref C)) ⟨h,g,d,t + 1,os⟩) :
  wpAny (model prog w) A (getAttr? (.ref x) "__class__") Q E ⟨h,g,d,t,os⟩:=by
 unfold getAttr? getAttrBy?
 refine wpAny_bind (wpAny_mkText (wpAny_bind (wpAny_attempt ?_)))
 exact FH X hC hga hgh hx hc rfl (fun k=>qO X hC hx hc hcl k) (wpAny_pure hq)
structure XC (K:PySem.W.Frag) (C G:Addr):Prop where
 obj:∃nm q N bs sn sub ab col k0 k1 k2 k3 k5,K.lookup C=some (excClassObj nm q C N bs (.ref G::vmB) true sn sub ab col none k0 k1 k2 k3 k5 "ValueError.__new__")
 ga:PySem.W.findIn K (.ref C) "__getattribute__"=some (some (.builtin "BaseException.__getattribute__"))
 gh:PySem.W.findIn K (.ref C) "__getattr__"=some none
 sa:PySem.W.findIn K (.ref C) "__setattr__"=some (some (.builtin "object.__setattr__"))
 cl:PySem.W.findIn K (.ref C) "__class__"=some (some (.builtin "object.__class__"))
theorem ss {dd:Option Addr}{new:Bool} (c:XC K C G):PySem.W.KitX K (.ref x) (.ref C) (XAt x C dd new) where
 ty:=fun M h X p=>by
  obtain ⟨o,vs,h1,h2,_⟩:=p
  exact h2 ▸ (PySem.W.Looks.ld h1).andThen .now
 it:=fun M h X p=>by
  obtain ⟨nm,q,N,bs,sn,sub,ab,col,k0,k1,k2,k3,k5,e⟩:=c.obj
  intro A' Q' E' s' k q
  unfold isType loadHead
  exact wpAny_bind (wpAny_loadPart (k _ _ (X _ _ e)) (wpAny_pure q))
 ne:=fun h tp dd its n sl X htp=>by
  obtain ⟨nm,q,N,bs,sn,sub,ab,col,k0,k1,k2,k3,k5,e⟩:=c.obj
  refine Bool.eq_false_iff.mpr fun z=>?_
  have e2:C=tp:=Value.ref.inj (beq_iff_eq.mp z)
  subst e2
  have e3:=congrArg Obj.data (Option.some.inj ((X _ _ e).symm.trans htp))
  cases e3
 ca:=fun {prog w A E Q s} X p k=>by
  obtain ⟨h,g,d,t,os⟩:=s
  obtain ⟨o,vs,h1,h2,_⟩:=p
  obtain ⟨nm,q,N,bs,sn,sub,ab,col,k0,k1,k2,k3,k5,e⟩:=c.obj
  exact AI X (X _ _ e) c.ga c.gh c.cl h1 h2 k
end
theorem XAt.ok {P:Program}{w:World}{H:Hp}{h:Heap}{x C:Addr}{dd:Option Addr}{new:Bool} (p:XAt x C dd new h):bD P w H h x (.ext (XAt x C dd new)):=by
 obtain ⟨o,vs,h1,h2,h3,h4⟩:=id p
 exact ⟨p,⟨o,h1⟩,fun g1 g2 ⟨o',vs',a1,a2⟩ k=>⟨o',vs',k _ a1,a2⟩⟩
section
variable {X:Cx}{pins:List (Addr×Obj)}{σ:St}{H:Hp}{s:Shared}{a dx C G:Addr}{f:Str}{v:V}{fs:List (Str×V)}{A:Around}{E:Value->Shared->Prop}
theorem Un.setX {h h':Heap}{fs ex:List Addr}{o:HO}{o2:HO} (mu:Mut (H a)) (hx:H dx=none) (hd:h.get? dx=none) (k:∀b ob,b≠a->h.get? b=some ob->h'.get? b=some ob) (ha:∃o,h'.get? a=some o):Un fs ex H (upd (upd H dx o) a o2) h h':=by
 have na:∀b,H b=none->b≠a:=fun b n z=>by subst z;rw [n] at mu;exact mu
 have nd:∀b ob,h.get? b=some ob->b≠dx:=fun b ob e z=>by rw [z,hd] at e;cases e
 have hm:∀b u,H b=some u->¬ Mut (some u)->b≠a/\b≠dx:=fun b u q nm=>⟨fun z=>by subst z;rw [q] at mu;exact nm mu,fun z=>by subst z;rw [hx] at q;cases q⟩
 refine ⟨fun b u q n _ _=>k b u (na b n) q,fun b u q n _ _=>⟨u.slots,k b u (na b n) q⟩,fun b u q n _=>by rw [ax (na b n),ax (nd b u q)];exact n,fun b u q _=>?_,
  fun b xs q=>by rw [ax (hm b _ q fun z=>z).1,ax (hm b _ q fun z=>z).2];exact q,fun b u xs q=>by rw [ax (hm b _ q fun z=>z).1,ax (hm b _ q fun z=>z).2];exact q,
  fun b ps q=>⟨#[],by rw [ax (hm b _ q fun z=>z).1,ax (hm b _ q fun z=>z).2,q];simp⟩⟩
 by_cases hb:b=a
 .subst hb;exact ha
 .exact ⟨u,k b u hb q⟩
theorem setX {new:Bool}{y:V}{u:Value}{Q:Unit->Shared->Prop} (I:Inv X pins σ H s) (ea:H a=some (.ext (XAt a C none new))) (c:XC X.K C G) (n:PySem.W.findIn X.K (.ref C) f=some none) (ry:df y u)
  (h:∀dx s',H dx=none->Inv X pins σ (upd (upd H dx (.xd [(f,y)])) a (.ext (XAt a C (some dx) new))) s'->Q () s'):wpAny (model X.prog X.w) A (setAttr (.ref a) f u) Q E s:=by
 obtain ⟨⟨o,vs,h1,h2,h3,h4,h5⟩,_,_⟩:=(show bD X.prog X.w H s.heap a (.ext (XAt a C none new)) from I.hok a _ ea)
 obtain ⟨nm,q,N,bs,sn,sub,ab,col,k0,k1,k2,k3,k5,e⟩:=c.obj
 have X2:=I.kIn
 obtain ⟨hh,g,d,t,os⟩:=s
 refine AH X2 (X2 _ _ e) c.sa n h1 h2 h4 h3 fun h' tk' dx z=>?_
 obtain ⟨z1,z2,z3,z4,z5⟩:=z
 have hdx:H dx=none:=I.hok.fresh z2
 have hg0:hh.get? dx=none:=Heap.get?_none_of_le z2
 have hne:dx≠a:=z3
 have mu:Mut (H a):=by rw [ea];exact True.intro
 refine h dx _ hdx (I.un (t':=tk') (Un.setX mu hdx hg0 z5 ⟨_,z1⟩) fun b ob eb=>?_)
 by_cases hb:b=a
 .subst hb
  rw [aF] at eb
  cases eb
  exact XAt.ok ⟨_,vs,z1,h2,rfl,h4,h5⟩
 .rw [ax hb] at eb
  by_cases hb2:b=dx
  .subst hb2
   rw [aF] at eb
   cases eb
   refine ⟨_,z4,fun y'=>?_⟩
   show tW (List.lookup y' [(f,y)]) _
   by_cases q:y'=f
   .subst q
    rw [if_pos rfl]
    have e1:List.lookup y' [(y',y)]=some y:=by simp [List.lookup]
    rw [e1];exact ry
   .rw [if_neg q]
    have:(y' == f)=false:=beq_eq_false_iff_ne.mpr q
    simp [List.lookup,this,tW]
  .rw [ax hb2] at eb
   refine (I.hok b ob eb).stay (fun c w hc e=>?_) (fun c e=>?_) fun c xs e=>?_
   .refine z5 c w ?_ e
    rintro rfl
    rcases hc with hc | hc
    .exact hb hc.symm
    .rw [ea] at hc;cases hc
   .rw [ax,ax]
    .exact e
    .rintro rfl;rw [hdx] at e;cases e
    .rintro rfl;rw [ea] at e;cases e
   .rw [ax,ax]
    .exact e
    .rintro rfl;rw [hdx] at e;cases e
    .rintro rfl;rw [ea] at e;cases e
end
section
variable {X:Cx}{o e value:Expr}{f:Str}{pos pos':Pos}{ta tv:TE}
def AJ (K:PySem.W.Frag) (ta tv:TE) (f:Str):TS:=fun D σ H=>tv σ H fun y H1=>ta σ H1 fun x H2=>∃a C G new,x=.ref a/\H2 a=some (.ext (XAt a C none new))/\XC K C G/\PySem.W.findIn K (.ref C) f=some none /\
 ∀dx,H2 dx=none->D.nx σ (upd (upd H2 dx (.xd [(f,y)])) a (.ext (XAt a C (some dx) new)))
theorem AK (ha:PE X o ta) (hv:PE X value tv) (hs:swapsWith value (some (.Attribute o f pos')) pos.line X.env=pure false):PS X (.Assign [.Attribute o f pos'] value pos) (AJ X.K ta tv f):=by
 intro pins s σ H D I h
 refine plainObj_wpAny_Assign_Attribute (thn (hv pins s σ H _ I h) fun u s1 ⟨y,H1,I1,ry,q⟩=>thn (ha pins s1 σ H1 _ I1 q) fun ov s2 ⟨x,H2,I2,rx,a,C,G,new,ex,ea,c,n,q2⟩=>?_) hs
 subst ex
 obtain rfl:ov=Value.ref a:=rx
 exact setX I2 ea c n ry fun dx s3 hdx I3=>⟨σ,_,I3,q2 dx hdx⟩
end
theorem bD.there {P:Program}{w:World}{H:Hp}{h:Heap}{a:Addr}{o:HO} (x:bD P w H h a o):∃ob,h.get? a=some ob:=by
 cases o with
 | lst xs=>obtain ⟨_,_,_,_,e⟩:=x;exact ⟨_,e⟩
 | tup xs=>obtain ⟨_,_,_,ob,e,_⟩:=x;exact ⟨ob,e⟩
 | dK kvs=>obtain ⟨_,_,_,_,o,_,_,e,_⟩:=x;exact ⟨o,e⟩
 | dT kvs=>obtain ⟨_,_,_,_,o,_,_,e,_⟩:=x;exact ⟨o,e⟩
 | set S n=>obtain ⟨o,_,_,_,e,_⟩:=x;exact ⟨o,e⟩
 | ins C dx fs=>obtain ⟨_,_,_,e,_⟩:=x;exact ⟨_,e⟩
 | own y=>exact x
 | xd fs=>obtain ⟨_,⟨o,_,_,e,_⟩,_⟩:=x;exact ⟨o,e⟩
 | rng lo hi=>obtain ⟨_,_,_,e⟩:=x;exact ⟨_,e⟩
 | frz ob u=>obtain ⟨e,_⟩:=x;exact ⟨ob,e⟩
 | tbl ps=>exact ⟨_,(show h.get? a=some _ from x)⟩
 | met f y=>exact ⟨_,(show h.get? a=some _ from x)⟩
 | ext φ=>exact x.2.1
theorem HOk.not {P:Program}{w:World}{H:Hp}{h:Heap}{a:Addr} (x:HOk P w H h) (e:h.get? a=none):H a=none:=by
 cases q:H a with
 | none=>rfl
 | some u=>obtain ⟨ob,e2⟩:=(x a u q).there;rw [e] at e2;cases e2
section
variable {X:Cx}{pins:List (Addr×Obj)}{σ:St}{H:Hp}{s:Shared}{h':Heap}{a:Addr}{o:HO}
theorem Inv.news {t':Nat} (I:Inv X pins σ H s) (k:∀b u,s.heap.get? b=some u->h'.get? b=some u) (hn:s.heap.get? a=none) (new:bD X.prog X.w (upd H a o) h' a o):Inv X pins σ (upd H a o) { s with heap:=h',toks:=t' }:=by
 have ha:=I.hok.not hn
 refine I.un ⟨fun b u q _ _ _=>k b u q,fun b u q _ _ _=>⟨u.slots,k b u q⟩,fun b u q n _=>?_,fun b u q _=>⟨u,k b u q⟩,fun b xs q=>?_,fun b u xs q=>?_,fun b ps q=>⟨#[],?_⟩⟩ fun b u q=>?_
 .rw [ax (fun z=>by rw [z,hn] at q;cases q)];exact n
 .rw [ax (aN q ha)];exact q
 .rw [ax (aN q ha)];exact q
 .rw [ax (aN q ha),q];simp
 .by_cases hb:b=a
  .subst hb;rw [aF] at q;cases q;exact new
  .rw [ax hb] at q
   exact (I.hok b u q).stay (fun c v _ e=>k c v e) (fun c e=>by rw [ax (aN e ha)];exact e) fun c xs e=>by rw [ax (aN e ha)];exact e
end
structure XM (K:PySem.W.Frag) (C G fI:Addr):Prop where
 c:XC K C G
 tail:∀h:Heap,K.In h->OwnTail h vmB (.ref G::vmB)
 init:PySem.W.findIn K (.ref C) "__init__"=some (some (.ref fI))
 fn:PySem.W.typeIn K (.ref fI)=some (.type "function")
 kp:PySem.W.keepIn K (.ref C)=true
def CO (K:PySem.W.Frag) (f:Str):Sp:=fun vs H Q _=>∃a C G new v,vs=[.ref a,v]/\H a=some (.ext (XAt a C none new))/\XC K C G/\PySem.W.findIn K (.ref C) f=some none/\∀dx,H dx=none->Q .non (upd (upd H dx (.xd [(f,v)])) a (.ext (XAt a C (some dx) new)))
structure Dq (P:Program) (w:World) (K:PySem.W.Frag) (mg:Str->Option Value) (base:Heap) (k:Nat) (C:Addr) (x f:Str):Prop where
 ex:∃(G fI:Addr) (fd:FuncData) (ps:List Str),lH P w K mg base CX0 k fI fd ps (CO K f)/\i5 K fd ps []/\XM K C G fI/\PySem.W.findIn K (.ref C) f=some none/\mg x=some (.ref C)
def X0 (K:PySem.W.Frag) (C:Addr):Prop:=∀h:Heap,K.In h->∃bm N nm q bs hd sn sub ab col dd k0 k1 k2 k3 k5 mN,
 h.get? C=some (excClassObj nm q C N bs bm hd sn sub ab col dd k0 k1 k2 k3 k5 "ValueError.__new__")/\h.Ns N mN/\mN "__init__"=none/\OwnTail h vmB bm
theorem CP {K:PySem.W.Frag}{C:Addr} (q:PySem.W.excIn K C vmB "ValueError.__new__"=true):X0 K C:=fun h X=>by
 unfold PySem.W.excIn at q
 split at q
 case h_2=>cases q
 case h_1 dd cd sl ho =>
  split at q
  case h_2=>cases q
  case h_1 C' bm k0 k1 k2 k3 n k5 hm hs =>
   simp only [Bool.and_eq_true,beq_iff_eq,Bool.not_eq_true'] at q
   obtain ⟨⟨⟨⟨⟨e1,e2⟩,hdel⟩,ht⟩,hok⟩,hni⟩:=q
   subst e1 e2
   cases cd with
   | mk nm bs mro ns qn hd sn sub ab col del =>
    cases sl with
    | mk l =>
     have hs:l=[k0,k1,k2,k3,some (.builtin "ValueError.__new__"),k5]:=hs
     have hm:mro=.ref C'::bm:=hm
     have hdel:del=false:=hdel
     subst hs hm hdel
     refine ⟨bm,ns,nm,qn,bs,hd,sn,sub,ab,col,dd,k0,k1,k2,k3,k5,_,X _ _ ho,.of_isNs (PySem.W.isNs_of_in X hok),PySem.W.nsMap_none_of_in X hok hni,PySem.W.tail_of_in X ht⟩
theorem AL {K:PySem.W.Frag}{G:Addr} (q:PySem.W.excIn K G vmB "ValueError.__new__"=true) (hg:∃nm q N bs sn sub ab col k0 k1 k2 k3 k5,K.lookup G=some (excClassObj nm q G N bs vmB true sn sub ab col none k0 k1 k2 k3 k5 "ValueError.__new__")) :
  ∀h:Heap,K.In h->OwnTail h vmB (.ref G::vmB):=fun h X=>by
 obtain ⟨bm,N,nm,qn,bs,hd,sn,sub,ab,col,dd,k0,k1,k2,k3,k5,mN,h1,h2,h3,_⟩:=CP q h X
 exact .own h1 h2 h3 .base
def CQ (C:Addr):TE:=fun σ H Q=>∀e,H e=none->Q (.ref e) (upd H e (.ext (XAt e C none true)))
section
variable {X:Cx}{C:Addr}{x:Str}{p pos:Pos}
theorem AM (z:X0 X.K C) (kp:PySem.W.keepIn X.K (.ref C)=true) (hm:X.mg x=some (.ref C)) (hg:Gl X x:=by rfl) (hdb:(x == ("__debug__":Str))=false:=by decide):PE X (.Call (.Name x p) [] [] pos) (CQ C):=by
 intro pins s σ H Q I h
 refine wpAny_Call_Name_kw (gw I hg hm ?_ hdb)
 refine PySem.W.callWith_K0 I.kIn kp ?_
 obtain ⟨bm,N,nm,qn,bs,hd,sn,sub,ab,col,dd,k0,k1,k2,k3,k5,mN,h1,h2,h3,h4⟩:=z s.heap I.kIn
 have I0:=I
 obtain ⟨hh,g,d,tk,os⟩:=s
 refine wpAny_call_exc_subT PySem.F.excBase_ValueError h4 h1 h2 h3 (fun h' e made=>?_) (by show 0<=sizeLine;exact Nat.zero_le _)
 obtain ⟨tt,m1,m2,m3⟩:=made.there
 have new:XAt e C none true h':=⟨_,_,m1,rfl,rfl,rfl,(by show 1 < 6;decide),fun _=>rfl⟩
 exact ⟨V.ref e,_,I0.news (t':=tk) made.keeps made.new new.ok,rfl,h e (I0.hok.not made.new)⟩
def Ex (K:PySem.W.Frag) (D:Addr):List V->Hp->VK->Prop:=fun xs H Q=>∃a C G dd new b,xs=[.ref a,.ref D]/\H a=some (.ext (XAt a C dd new))/\XC K C G/\PySem.W.kitOne K (.ref C) (.ref D)=some b/\Q (.bl b) H
theorem ya {D:Addr}:bK X (.builtin "isinstance") (Ex X.K D):=by
 intro pins s σ H xs us Q I r h
 obtain ⟨a,C,G,dd,new,b,rfl,ea,c,e,q⟩:=h
 obtain ⟨u,w',rfl,rx,ry⟩:=ug r
 cases (show u=Value.ref a from rx)
 cases (show w'=Value.ref D from ry)
 have ok:=(show bD X.prog X.w H s.heap a (.ext (XAt a C dd new)) from I.hok a _ ea)
 exact PySem.W.kia_one (ss c) I.kIn ok.1 e (fun z=>nomatch z) fun tk=>⟨.bl b,H,I.tok _,rfl,q⟩
def AN (K:PySem.W.Frag):List V->Hp->VK->Prop:=fun xs H Q=>∃a C G dd new n b,xs=[.ref a,.ty n]/\H a=some (.ext (XAt a C dd new))/\XC K C G/\PySem.W.kitOne K (.ref C) (.type n)=some b/\Q (.bl b) H
theorem vM:bK X (.builtin "isinstance") (AN X.K):=by
 intro pins s σ H xs us Q I r h
 obtain ⟨a,C,G,dd,new,n,b,rfl,ea,c,e,q⟩:=h
 obtain ⟨u,w',rfl,rx,ry⟩:=ug r
 cases (show u=Value.ref a from rx)
 cases (show w'=Value.type n from ry)
 have ok:=(show bD X.prog X.w H s.heap a (.ext (XAt a C dd new)) from I.hok a _ ea)
 exact PySem.W.kia_one (ss c) I.kIn ok.1 e (fun z=>nomatch z) fun tk=>⟨.bl b,H,I.tok _,rfl,q⟩
end
def XCl (K:PySem.W.Frag) (c:Str):Prop:=∃dd cd sl,K.lookup (aP K c)=some ⟨.type "type",dd,.cls cd,sl⟩/\cd.name=c
structure y0 (K:PySem.W.Frag) (cs:List Str):Prop where
 g:XCl K "GlueError"
 n:∀c∈cs,XCl K c
 c:∀c∈cs,XC K (aP K c) (aP K "GlueError")
section
variable {K:PySem.W.Frag}{C G D:Addr}{c d:Str}
theorem XCl.ne (h1:XCl K c) (h2:XCl K d) (n:c≠d):aP K c≠aP K d:=fun e=>by
 obtain ⟨_,cd,_,l1,n1⟩:=h1
 obtain ⟨_,cd2,_,l2,n2⟩:=h2
 rw [e,l2] at l1
 cases l1
 exact n (n1.symm.trans n2)
theorem vN (x:XC K C G) (base:Value):PySem.W.subIn K (.ref C) base=some ((Value.ref C::.ref G::vmB).contains base):=by
 obtain ⟨nm,q,N,bs,sn,sub,ab,col,k0,k1,k2,k3,k5,e⟩:=x.obj
 show PySem.W.mroIn K C base=_
 unfold PySem.W.mroIn PySem.W.clsIn
 rw [e]
 rfl
theorem AO (x:XC K C G) (y:∃dd cd sl,K.lookup D=some ⟨.type "type",dd,.cls cd,sl⟩):PySem.W.kitOne K (.ref C) (.ref D)=some (decide (C=D) || decide (D=G)):=by
 obtain ⟨dd,cd,sl,e⟩:=y
 unfold PySem.W.kitOne
 by_cases h:C=D
 .subst h;simp
 .rw [if_neg (fun z=>h (Value.ref.inj (beq_iff_eq.mp z)))]
  unfold PySem.W.kitCls
  have e1:((PySem.W.clsIn K D).isSome && PySem.W.typeIn K (.ref D) == some (.type "type"))=true:=by
   have e2:PySem.W.clsIn K D=some cd:=by unfold PySem.W.clsIn;rw [e]
   have e3:PySem.W.typeIn K (.ref D)=some (.type "type"):=by show (K.lookup D).map (·.cls)=_;rw [e];rfl
   rw [e2,e3]
   rfl
  show (if ((PySem.W.clsIn K D).isSome && PySem.W.typeIn K (.ref D) == some (.type "type"))=true then PySem.W.subIn K (.ref C) (.ref D) else none)=_
  rw [if_pos e1,vN x,decide_eq_false h,Bool.false_or]
  congr 1
  rw [List.contains_cons,List.contains_cons]
  have t1:(Value.ref D == Value.ref C)=false:=beq_eq_false_iff_ne.mpr fun z=>h (Value.ref.inj z).symm
  have t2:vmB.contains (Value.ref D)=false:=rfl
  rw [t1,t2,Bool.false_or,Bool.or_false]
  by_cases g:D=G
  .subst g;simp
  .rw [decide_eq_false g];exact beq_eq_false_iff_ne.mpr fun z=>g (Value.ref.inj z)
theorem AQ (x:XC K C G):PySem.W.kitOne K (.ref C) (.type "ValueError")=some true:=by
 unfold PySem.W.kitOne
 rw [if_neg (by intro z;cases beq_iff_eq.mp z)]
 unfold PySem.W.kitCls
 show (if PySem.W.kitMeta "ValueError"=true then PySem.W.subIn K (.ref C) (.type "ValueError") else none)=_
 rw [if_pos (by decide +kernel),vN x]
 rfl
end
def wJ (c d:Str):Bool:=decide (c=d) || decide (d="GlueError")
theorem AR {K:PySem.W.Frag}{cs:List Str} (X:y0 K cs) {c d:Str} (hc:c∈cs) (hd:d∈cs\/d="GlueError"):PySem.W.kitOne K (.ref (aP K c)) (.ref (aP K d))=some (wJ c d):=by
 have yd:XCl K d:=hd.elim (X.n d) fun e=>by rw [e];exact X.g
 obtain ⟨dd,cd,sl,e1,e2⟩:=id yd
 rw [AO (X.c c hc) ⟨dd,cd,sl,e1⟩]
 unfold wJ
 congr 2
 .by_cases h:c=d
  .subst h;rw [decide_eq_true rfl,decide_eq_true rfl]
  .rw [decide_eq_false h,decide_eq_false ((X.n c hc).ne yd h)]
 .by_cases h:d="GlueError"
  .subst h;rw [decide_eq_true rfl,decide_eq_true rfl]
  .rw [decide_eq_false h,decide_eq_false (yd.ne X.g h)]
section
variable {K:PySem.W.Frag}{ta:TA}{te:TE}{pa:PTA}{pe:PA1}{cs:List Str}
theorem FVc.exc {O:Addr->Prop}{H:Hp}{v:V}{c:Str}{ns:List Str}{ds:List D} (h:FVc K O H v (.exc c ns ds)):FV K O H v (.exc c ns ds):=h.fv nofun nofun
def CS (c:Str):PTE:=fun ρ Q=>Q (.dat (.exc c [] [])) ρ
def Dr (cs:List Str) (d:Str) (pa:PA1):PTE:=fun ρ Q=>pa ρ fun x ρ1=>match cont ρ1 x with
 | some (.exc c ns ds)=>cs.contains c=true/\Q (.dat (.bl (wJ c d))) ρ1
 | _=>False
theorem vO {d:Str} (X:y0 K cs) (hd:d∈cs\/d="GlueError") (h:LA1 K te pe):LE K (tCB (Ex K (aP K d)) (bV te (bV (tC (.ref (aP K d))) i4))) (Dr cs d pe):=fun A ρ σ H Q Q' R q k=>h A ρ σ H _ _ R q fun v H1 a ρ1 q1 f1 R1 o1=>by
 split at q1
 .rename_i c ns ds e
  obtain ⟨hc,q1⟩:=q1
  have hc:c∈cs:=List.contains_iff_mem.mp hc
  have ek:=AR X hc hd
  cases (R1.cont o1 e).exc with
  | exc0 n1 e1=>exact ⟨_,_,_,_,_,_,rfl,e1,X.c c hc,ek,k _ H1 _ ρ1 q1 f1 ⟨R1,.bl _⟩⟩
  | exc1 n1 n2 e1 e2 m f=>exact ⟨_,_,_,_,_,_,rfl,e1,X.c c hc,ek,k _ H1 _ ρ1 q1 f1 ⟨R1,.bl _⟩⟩
 .exact q1.elim
def Fh (cs:List Str) (pa:PA1):PTE:=fun ρ Q=>pa ρ fun x ρ1=>match cont ρ1 x with
 | some (.exc c ns ds)=>cs.contains c=true/\Q (.dat (.bl true)) ρ1
 | _=>False
theorem CT (X:y0 K cs) (h:LA1 K te pe):LE K (tCB (AN K) (bV te (bV (tC (.ty "ValueError")) i4))) (Fh cs pe):=fun A ρ σ H Q Q' R q k=>h A ρ σ H _ _ R q fun v H1 a ρ1 q1 f1 R1 o1=>by
 split at q1
 .rename_i c ns ds e
  obtain ⟨hc,q1⟩:=q1
  have hc:c∈cs:=List.contains_iff_mem.mp hc
  have ek:=AQ (X.c c hc)
  cases (R1.cont o1 e).exc with
  | exc0 n1 e1=>exact ⟨_,_,_,_,_,_,_,rfl,e1,X.c c hc,ek,k _ H1 _ ρ1 q1 f1 ⟨R1,.bl _⟩⟩
  | exc1 n1 n2 e1 e2 m f=>exact ⟨_,_,_,_,_,_,_,rfl,e1,X.c c hc,ek,k _ H1 _ ρ1 q1 f1 ⟨R1,.bl _⟩⟩
 .exact q1.elim
end
section
variable {X:Cx}
theorem AS (K:PySem.W.Frag) (e:X.K=K) {D:Addr}:bK X (.builtin "isinstance") (Ex K D):=by subst e;exact ya
theorem Ey (K:PySem.W.Frag) (e:X.K=K):bK X (.builtin "isinstance") (AN K):=by subst e;exact vM
theorem qP {x:Str}{C:Addr}{p:Pos} (hm:X.mg x=some (.ref C)) (hg:Gl X x:=by rfl) (hdb:(x == ("__debug__":Str))=false:=by decide):PE X (.Name x p) (tC (.ref C)):=by
 intro pins s σ H Q I h
 exact gw I hg hm ⟨.ref C,H,I,rfl,h⟩ hdb
end
section
variable {P:Program}{w:World}{K:PySem.W.Frag}{mg:Str->Option Value}{base:Heap}{x qual nm:Str}{C G fI:Addr}{st:Stmt}{fd:FuncData}{N ps:List Str}
theorem qQ (F:Fun K "__init__" qual st fI fd) (S:aK N ps (ap st)) (hl:ps.length=2)
  (hb:∀(kV doc pm:Value) (an:Option Addr) (cdv ct:Value) (us:List Value),us.length=ps.length->bindArgs (PySem.W.fnOf "__init__" qual (bP st) (bv st) (ap st) .none kV doc pm an cdv ct) ⟨us,[]⟩=pure (ps.zip us))
  (hp:∀(cdv:Value) (A:Around) (outer:List Env) (s:Shared) (H:Hp) (E:XK),PSs (oz CX0 P w K mg base N qual (ap st) fI cdv A outer s H E).nox (bv st) (AJ K (cJ 0) (cJ 1) nm))
  (m:XM K C G fI) (na:PySem.W.findIn K (.ref C) nm=some none) (hm:mg x=some (.ref C)):Dq P w K mg base 1 C x nm:=by
 refine ⟨G,fI,fd,ps,F.ok (k:=0) S (fun vs H Q E h=>?_) (fun cdv A outer s H vs Q E hr h=>⟨_,hp cdv A outer s H E,?_⟩),F.binds hb,m,na,hm⟩
 .obtain ⟨a,C,G,new,v,rfl,_⟩:=h
  exact hl.symm
 .obtain ⟨a,C,G,new,v,rfl,ea,c,n,q⟩:=h
  exact ⟨v,rfl,.ref a,rfl,a,C,G,new,rfl,ea,c,n,fun dx hdx=>q dx hdx⟩
end
section
variable {X:Cx}{e:Expr}{f:Str}{pos:Pos}{ta:TE}
theorem nP (K:PySem.W.Frag) (ek:X.K=K) {o value:Expr}{pos':Pos}{tv:TE} (ha:PE X o ta) (hv:PE X value tv) (hs:swapsWith value (some (.Attribute o f pos')) pos.line X.env=pure false):PS X (.Assign [.Attribute o f pos'] value pos) (AJ K ta tv f):=by subst ek;exact AK ha hv hs
end
def wK (h:Heap) (e T:Addr) (fl:Value):Prop:=∃oe vs oT ts,h.get? e=some oe/\oe.data=.fields vs/\vs[1]?=some (.ref T)/\T≠e/\h.get? T=some oT/\oT.data=.fields ts/\ts[3]?=some fl
structure vP (fs:List Addr) (e:Addr) (T0:Option Addr) (h h':Heap):Prop where
 kp:∀b o,b∉fs->b≠e->T0≠some b->h.get? b=some o->h'.get? b=some o
 sl:∀b o,b∈fs->h.get? b=some o->∃sl,h'.get? b=some { o with slots:=sl }
 ex:∀oe vs,h.get? e=some oe->oe.data=.fields vs->∃oe' vs',h'.get? e=some oe'/\oe'.cls=oe.cls/\oe'.dict=oe.dict/\oe'.data=.fields vs'/\vs'.size=vs.size
section
variable {M:Model}{A:Around}{E:Value->Shared->Prop}{s:Shared}{base:Heap}{env:Env}{outer:List Env}{L e T0:Addr}{oe:Obj}{vs:Array Value}
theorem vQ {head:Value}{hadNext:Bool}{Q:Unit->Shared->Prop} (hfr:A.frames=some (env::outer)) (hl:s.heap.FunFrames base (env::outer)) (hf:env.frame=some L)
  (he:s.heap.get? e=some oe) (hd:oe.data=.fields vs) (hsz:1 < vs.size)
  (h:∀h' T,s.heap.objs.size<=T->vP (frs (env::outer)) e none s.heap h'->wK h' e T (rawInt L)->Q () { s with heap:=h' }) :
  wpAny M A (do let a <- frameOf env;let pl <- entryPlaceOf L hadNext;let b <- EntryCells.newEntry head a .none (rawInt L) .none pl;setField (.ref e) 1 b) Q E s:=by
 have nf:e∉frs (env::outer):=fun hm=>by
  obtain ⟨_,o,ho,hn⟩:=hl.mem hm
  rw [he] at ho
  cases ho
  exact hn vs hd
 refine wpAny_bind (wpAny_frameOf_fun hfr hl hf fun g1 hs1=>?_)
 refine wpAny_bind (wpAny_entryPlaceOf fun pl hpl=>?_)
 have e1:g1.get? e=some oe:=(hs1.2.1 e nf).trans he
 unfold EntryCells.newEntry newFields
 refine wpAny_bind (wpAny_newObj_type ?_ (hpl.sizeOk5 _ _ _ _ _))
 have hts:∃ts:Array Value,([head,.ref L,.none,rawInt L,.none]++(if pl.isEmpty then List.replicate 6 Value.none else pl)).toArray=ts/\ts[3]?=some (rawInt L):=⟨_,rfl,by
  rcases hpl with rfl | ⟨_,_,_,_,_,_,_,rfl⟩ <;> simp⟩
 obtain ⟨ts,ets,t3⟩:=hts
 rw [ets]
 generalize hg2:g1.push { cls:=.type "traceback",dict:=none,data:=.fields ts }=g2
 have sz1:g1.objs.size=s.heap.objs.size:=hs1.1
 have k2:∀b o,g1.get? b=some o->g2.get? b=some o:=fun b o q=>by rw [<- hg2];exact Heap.get?_push_of_some _ q
 have gT:g2.get? g1.objs.size=some { cls:=.type "traceback",dict:=none,data:=.fields ts }:=by rw [<- hg2];exact Heap.get?_push_size _ rfl
 refine wpAny_setField (k2 _ _ e1) hd hsz ?_
 have ne:g1.objs.size≠e:=Nat.ne_of_gt (Heap.lt_size e1)
 generalize hg3:g2.update e (Obj.mapFields (·.setIfInBounds 1 (Value.ref g1.objs.size)))=g3
 have d3:=Obj.data_mapFields hd (·.setIfInBounds 1 (Value.ref g1.objs.size))
 have e3:g3.get? e=some (oe.mapFields (·.setIfInBounds 1 (Value.ref g1.objs.size))):=by rw [<- hg3];exact Heap.get?_update_self _ (k2 _ _ e1) (Obj.isFreed_of_fields d3)
 have k3:∀b o,b≠e->g2.get? b=some o->g3.get? b=some o:=fun b o hb q=>by rw [<- hg3];exact (Heap.get?_update_ne _ _ _ _ hb).trans q
 refine h g3 g1.objs.size (by rw [sz1];exact Nat.le_refl _) ⟨fun b o hb hbe _ q=>k3 b o hbe (k2 b o ((hs1.2.1 b hb).trans q)),fun b o hb q=>?_,fun oe' vs' q1 q2=>?_⟩ ⟨_,_,_,ts,e3,d3,by simp [hsz],ne,k3 _ _ ne gT,rfl,t3⟩
 .obtain ⟨sl,q'⟩:=hs1.2.2 b o q
  exact ⟨sl,k3 b _ (fun z=>nf (by rw [<- z];exact hb)) (k2 b _ q')⟩
 .rw [he] at q1
  cases q1
  rw [hd] at q2
  cases q2
  obtain ⟨c,dc,dt,sl⟩:=oe
  cases hd
  exact ⟨_,_,e3,rfl,rfl,d3,by simp⟩
theorem AT {Q:Unit->Shared->Prop} (hfr:A.frames=some (env::outer)) (hl:s.heap.FunFrames base (env::outer)) (hf:env.frame=some L)
  (he:s.heap.get? e=some oe) (hd:oe.data=.fields vs) (h1:vs[1]?=some .none)
  (h:∀h' T,s.heap.objs.size<=T->vP (frs (env::outer)) e none s.heap h'->wK h' e T (rawInt L)->Q () { s with heap:=h' }):wpAny M A (noteFrame (.ref e) env) Q E s:=by
 unfold noteFrame
 simp only [hf]
 refine wpAny_bind (wpAny_field he hd h1 ?_)
 rw [if_neg (by decide)]
 exact vQ hfr hl hf he hd (Array.getElem?_eq_some_iff.mp h1).1 h
theorem vR {Q:Unit->Shared->Prop} (hfr:A.frames=some (env::outer)) (hl:s.heap.FunFrames base (env::outer)) (hf:env.frame=some L) (fly:wK s.heap e T0 .none) (nT:T0∉frs (env::outer))
  (h:∀h' T,s.heap.objs.size<=T->vP (frs (env::outer)) e (some T0) s.heap h'->wK h' e T (rawInt L)->Q () { s with heap:=h' }):wpAny M A (noteFrame (.ref e) env) Q E s:=by
 obtain ⟨oe,vs,oT,ts,he,hd,h1,ne,hT,hdT,h3⟩:=fly
 have hsz:1 < vs.size:=(Array.getElem?_eq_some_iff.mp h1).1
 unfold noteFrame
 simp only [hf]
 refine wpAny_bind (wpAny_field he hd h1 ?_)
 rw [if_pos (show (Value.ref T0 != Value.none)=true by simp)]
 refine wpAny_bind (wpAny_field hT hdT h3 ?_)
 rw [if_neg (show ¬ ((Value.none == rawInt L)=true) by simp [rawInt])]
 refine wpAny_bind (wpAny_setField hT hdT (Array.getElem?_eq_some_iff.mp h3).1 ?_)
 have ot:∀b,b≠T0->(s.heap.update T0 (Obj.mapFields (·.setIfInBounds 3 Value.none))).get? b=s.heap.get? b:=fun b hb=>Heap.get?_update_ne _ _ _ _ hb
 have sz:(s.heap.update T0 (Obj.mapFields (·.setIfInBounds 3 Value.none))).objs.size=s.heap.objs.size:=by simp [Heap.update]
 have hl2:(s.heap.update T0 (Obj.mapFields (·.setIfInBounds 3 Value.none))).FunFrames base (env::outer):=hl.of_keeps fun b o q nf=>⟨o,(ot b (fun z=>by rw [z,hT] at q;cases q;exact nf ts hdT)).trans q,rfl⟩
 refine vQ hfr hl2 hf ((ot e (Ne.symm ne)).trans he) hd hsz fun h' T hT' mv fly=>h h' T (by rw [<- sz];exact hT') ⟨fun b o h1 h2 h3 q=>mv.kp b o h1 h2 (by simp) ((ot b (fun z=>h3 (by rw [z]))).trans q),fun b o h1 q=>mv.sl b o h1 ((ot b (fun z=>nT (by rw [<- z];exact h1))).trans q),fun oe' vs' q1 q2=>mv.ex oe' vs' ((ot e (Ne.symm ne)).trans q1) q2⟩ fly
theorem kO {fl:Value}{T:Addr}{Q:Unit->Shared->Prop} (fly:wK s.heap e T fl) (h:∀h',(∀b o,b≠T->s.heap.get? b=some o->h'.get? b=some o)->wK h' e T .none->Q () { s with heap:=h' }):wpAny M A (setFlight (.ref e) none) Q E s:=by
 obtain ⟨oe,vs,oT,ts,he,hd,h1,ne,hT,hdT,h3⟩:=fly
 unfold setFlight
 refine wpAny_bind (wpAny_field he hd h1 ?_)
 rw [if_pos (show (Value.ref T != Value.none)=true by simp)]
 have hs3:3 < ts.size:=(Array.getElem?_eq_some_iff.mp h3).1
 refine wpAny_setField hT hdT hs3 (h _ (fun b o hb q=>(Heap.get?_update_ne _ _ _ _ hb).trans q) ?_)
 have dT:=Obj.data_mapFields hdT (·.setIfInBounds 3 ((none:Option Addr).elim Value.none fun f=>rawInt f))
 exact ⟨oe,vs,_,_,(Heap.get?_update_ne _ _ _ _ (Ne.symm ne)).trans he,hd,h1,ne,Heap.get?_update_self _ hT (Obj.isFreed_of_fields dT),dT,by simp [hs3]⟩
end
def CXe (P:Program) (w:World):CXT:=fun outer H s E e s'=>∃(ea C:Addr) (dd:Option Addr) (H':Hp) (T:Addr),e=.ref ea/\s'.os=s.os/\AllBare s'.gens/\Un (frs outer) [] H H' s.heap s'.heap/\HOk P w H' s'.heap /\
 H' ea=some (.ext (XAt ea C dd false))/\wK s'.heap ea T .none/\s.heap.get? T=none/\H' T=none/\E (.ref ea) dd H'
theorem nQ {l:List Env}{h base:Heap} (hl:h.FunFrames base l) {b:Addr} (hb:b∈frs l):∃o,h.get? b=some o:=by
 obtain ⟨_,o,ho,_⟩:=hl.mem hb
 exact ⟨o,ho⟩
theorem XAt.moved {fs:List Addr}{ea C:Addr}{dd:Option Addr}{new:Bool}{T0:Option Addr}{h h':Heap} (x:XAt ea C dd new h) (mv:vP fs ea T0 h h'):XAt ea C dd false h':=by
 obtain ⟨o,vs,h1,h2,h3,h4,h5,_⟩:=x
 obtain ⟨o',vs',q1,q2,q3,q4,q5⟩:=mv.ex o vs h1 h4
 exact ⟨o',vs',q1,q2.trans h2,q3.trans h3,q4,by rw [q5];exact h5,nofun⟩
theorem HOk.moved {P:Program}{w:World}{H H':Hp}{h h1 h2:Heap}{fs:List Addr}{ea C T:Addr}{dd:Option Addr}{new:Bool}{T0:Option Addr} (ok:HOk P w H h) (hea:H ea=some (.ext (XAt ea C dd new))) (mv:vP fs ea T0 h h1) (hT:h.objs.size<=T) (un:∀b o,b≠T->h1.get? b=some o->h2.get? b=some o)
  (hfs:∀b∈fs,H b=none) (hT0:∀b,T0=some b->H b=none) (fly:wK h2 ea T .none) (hH:H'=upd H ea (.ext (XAt ea C dd false))):HOk P w H' h2:=fun b o eb=>by
 subst hH
 have ne:∀c u,H c=some u->c≠T:=fun c u q=>Nat.ne_of_lt (Nat.lt_of_lt_of_le (ok.lt q) hT)
 have kp:∀c u,c≠ea->H c=some u->∀v,h.get? c=some v->h2.get? c=some v:=fun c u hc q v z=>un c v (ne c u q) (mv.kp c v (fun m=>by rw [hfs c m] at q;cases q) hc (fun e=>by rw [hT0 c e] at q;cases q) z)
 by_cases hb:b=ea
 .subst hb
  rw [aF] at eb
  cases eb
  have x:XAt b C dd new h:=(ok b _ hea).1
  obtain ⟨o',vs',q1,q2,q3,q4,q5,q6⟩:=x.moved mv
  exact XAt.ok ⟨o',vs',un b o' (ne b _ hea) q1,q2,q3,q4,q5,q6⟩
 .rw [ax hb] at eb
  refine (ok b o eb).stay (fun c v hc q=>?_) (fun c q=>?_) fun c xs q=>?_
  .rcases hc with rfl | hc
   .exact kp c o hb eb v q
   .exact kp c _ (fun z=>by rw [z,hea] at hc;cases hc) hc v q
  .rw [ax (fun z=>by rw [z,hea] at q;cases q)];exact q
  .rw [ax (fun z=>by rw [z,hea] at q;cases q)];exact q
section
variable {P:Program}{w:World}{K:PySem.W.Frag}{mg:Str->Option Value}{base:Heap}{N:List Str}{qual:Str}{scope:Scope}{f:Addr}{cd:Value}{A:Around}{outer:List Env}{s0:Shared}{H0:Hp}{E:XK}{pins:List (Addr×Obj)}{σ:St}{H:Hp}{s:Shared}
theorem vS {ea C:Addr}{dd:Option Addr} (I:Inv (oz (CXe P w) P w K mg base N qual scope f cd A outer s0 H0 E) pins σ H s) (hea:H ea=some (.ext (XAt ea C dd true))) (hE:E (.ref ea) dd (upd H ea (.ext (XAt ea C dd false)))) :
  (oz (CXe P w) P w K mg base N qual scope f cd A outer s0 H0 E).xe (.ref ea) s:=by
 obtain ⟨⟨o,vs,h1,h2,h3,h4,h5,h6⟩,_,_⟩:=(show bD P w H s.heap ea (.ext (XAt ea C dd true)) from I.hok ea _ hea)
 show wpAny (model P w) _ (leaving _ (.ref ea)) _ _ s
 unfold leaving
 refine wpAny_bind (AT I.ok.frames I.stack rfl h1 h4 (h6 rfl) fun g1 T hT mv fly=>?_)
 refine kO fly fun g2 un fly2=>?_
 have hf2:∀b∈frs (envOfC qual scope s0.heap.objs.size f cd::outer),H b=none:=I.stkFree
 have hok:=I.hok.moved hea mv hT un hf2 (fun b e=>nomatch e) fly2 rfl
 have old:∀b o,s0.heap.get? b=some o->b≠s0.heap.objs.size:=fun b o q=>Nat.ne_of_lt (Heap.lt_size q)
 have bT:∀b o,s.heap.get? b=some o->b≠T:=fun b o q=>Nat.ne_of_lt (Nat.lt_of_lt_of_le (Heap.lt_size q) hT)
 have nea:∀b,H b=none->b≠ea:=fun b n z=>by rw [z,hea] at n;cases n
 have sub:∀b,b∈frs outer->b∈frs (envOfC qual scope s0.heap.objs.size f cd::outer):=fun b hb=>List.mem_cons_of_mem _ hb
 have nsub:∀b o,s0.heap.get? b=some o->b∉frs outer->b∉frs (envOfC qual scope s0.heap.objs.size f cd::outer):=fun b o q hb z=>by
  rcases List.mem_cons.mp (show b∈s0.heap.objs.size::frs outer from z) with z | z
  .exact old b o q z
  .exact hb z
 have un0:Un (frs outer) [] H0 (upd H ea (.ext (XAt ea C dd false))) s0.heap g2:=by
  refine ⟨fun b ob q n hb hx=>?_,fun b ob q n hb hx=>?_,fun b ob q n hx=>?_,fun b ob q hx=>?_,fun b xs q=>?_,fun b ob u q=>?_,fun b ps q=>?_⟩
  .have q1:=I.base.keep b ob q n hb hx
   have n1:=I.base.free b ob q n hx
   exact un b ob (bT b ob q1) (mv.kp b ob (nsub b ob q hb) (nea b n1) (by simp) q1)
  .obtain ⟨sl,q1⟩:=I.base.slot b ob q n hb hx
   obtain ⟨sl2,q2⟩:=mv.sl b _ (sub b hb) q1
   exact ⟨sl2,un b _ (bT b _ q1) q2⟩
  .have n1:=I.base.free b ob q n hx
   rw [ax (nea b n1)];exact n1
  .obtain ⟨o1,q1⟩:=I.base.there b ob q hx
   by_cases hbe:b=ea
   .subst hbe
    obtain ⟨o2,vs2,q2,_⟩:=mv.ex o vs h1 h4
    exact ⟨o2,un b o2 (bT b _ q1) q2⟩
   .by_cases hb:b∈frs (envOfC qual scope s0.heap.objs.size f cd::outer)
    .obtain ⟨sl2,q2⟩:=mv.sl b _ hb q1
     exact ⟨_,un b _ (bT b _ q1) q2⟩
    .exact ⟨o1,un b o1 (bT b _ q1) (mv.kp b o1 hb hbe (by simp) q1)⟩
  .have q1:=I.base.tups b xs q
   rw [ax (fun z=>by rw [z,hea] at q1;cases q1)];exact q1
  .have q1:=I.base.frzs b ob u q
   rw [ax (fun z=>by rw [z,hea] at q1;cases q1)];exact q1
  .obtain ⟨m,q1⟩:=I.base.tbls b ps q
   exact ⟨m,by rw [ax (fun z=>by rw [z,hea] at q1;cases q1)];exact q1⟩
 refine ⟨ea,C,dd,_,T,rfl,I.os,I.bare,un0,hok,aF,fly2,?_,?_,hE⟩
 .cases q:s0.heap.get? T with
  | none=>rfl
  | some ob =>
   obtain ⟨o1,q1⟩:=I.base.there T ob q (show T∉([]:List Addr) by simp)
   exact absurd rfl (bT T o1 q1)
 .rw [ax (fun z=>by
   have:=I.hok.lt hea
   rw [<- z] at this
   exact absurd (Nat.lt_of_lt_of_le this hT) (Nat.lt_irrefl _))]
  exact I.hok.fresh hT
theorem AU {E1:XK}{e:Value}{s':Shared} (I:Inv (oz (CXe P w) P w K mg base N qual scope f cd A outer s0 H0 E) pins σ H s)
  (h:CXe P w (envOfC qual scope s0.heap.objs.size f cd::outer) H s E1 e s') (hE:∀c dd H',E1 c dd H'->E c dd H'):(oz (CXe P w) P w K mg base N qual scope f cd A outer s0 H0 E).xe e s':=by
 obtain ⟨ea,C,dd,H',T0,rfl,os,bare,un1,hok1,hea,fly0,hT0,hT0',hE1⟩:=h
 have hf1:∀b∈frs (envOfC qual scope s0.heap.objs.size f cd::outer),H b=none:=I.stkFree
 have hst:=I.stack
 have hl:s'.heap.FunFrames base (envOfC qual scope s0.heap.objs.size f cd::outer):=by
  have all:∀l:List Env,(∀b∈frs l,b∈frs (envOfC qual scope s0.heap.objs.size f cd::outer))->s.heap.FunFrames base l->s'.heap.FunFrames base l:=by
   intro l
   induction l with
   | nil=>intro _ _;trivial
   | cons en r ih =>
    intro hs hl
    obtain ⟨hk,⟨L,o,hf,hn,ho,hd⟩,hr⟩:=hl
    have hL:L∈frs (en::r):=by unfold frs;rw [List.filterMap_cons,hf];exact List.mem_cons_self
    obtain ⟨sl,q⟩:=un1.slot L o ho (hf1 L (hs L hL)) (hs L hL) (by simp)
    exact ⟨hk,⟨L,_,hf,hn,q,hd⟩,ih (fun b hb=>hs b (by unfold frs;rw [List.filterMap_cons,hf];exact List.mem_cons_of_mem _ hb)) hr⟩
  exact all _ (fun _ hb=>hb) hst
 have nT0:T0∉frs (envOfC qual scope s0.heap.objs.size f cd::outer):=fun z=>by
  obtain ⟨o,q⟩:=nQ hst z
  rw [hT0] at q;cases q
 have hf2:∀b∈frs (envOfC qual scope s0.heap.objs.size f cd::outer),H' b=none:=fun b hb=>by
  obtain ⟨o,q⟩:=nQ hst hb
  exact un1.free b o q (hf1 b hb) (by simp)
 show wpAny (model P w) _ (leaving _ (.ref ea)) _ _ s'
 unfold leaving
 refine wpAny_bind (vR I.ok.frames hl rfl fly0 nT0 fun g1 T hT mv fly=>?_)
 refine kO fly fun g2 un fly2=>?_
 have hok:=hok1.moved hea mv hT un hf2 (fun b e=>by cases e;exact hT0') fly2 rfl
 have upe:upd H' ea (.ext (XAt ea C dd false))=H':=by
  funext b
  by_cases z:b=ea
  .subst z;rw [aF,hea]
  .rw [ax z]
 rw [upe] at hok
 have old:∀b o,s0.heap.get? b=some o->b≠s0.heap.objs.size:=fun b o q=>Nat.ne_of_lt (Heap.lt_size q)
 have bT:∀b o,s'.heap.get? b=some o->b≠T:=fun b o q=>Nat.ne_of_lt (Nat.lt_of_lt_of_le (Heap.lt_size q) hT)
 have bT0:∀b o,s.heap.get? b=some o->some T0≠some b:=fun b o q z=>by cases z;rw [hT0] at q;cases q
 have nea:∀b,H' b=none->b≠ea:=fun b n z=>by rw [z,hea] at n;cases n
 have sub:∀b,b∈frs outer->b∈frs (envOfC qual scope s0.heap.objs.size f cd::outer):=fun b hb=>List.mem_cons_of_mem _ hb
 have nsub:∀b o,s0.heap.get? b=some o->b∉frs outer->b∉frs (envOfC qual scope s0.heap.objs.size f cd::outer):=fun b o q hb z=>by
  rcases List.mem_cons.mp (show b∈s0.heap.objs.size::frs outer from z) with z | z
  .exact old b o q z
  .exact hb z
 obtain ⟨oe,vs,oT,ts,he1,he2,_⟩:=id fly0
 have un0:Un (frs outer) [] H0 H' s0.heap g2:=by
  refine ⟨fun b ob q n hb hx=>?_,fun b ob q n hb hx=>?_,fun b ob q n hx=>?_,fun b ob q hx=>?_,fun b xs q=>un1.tups b xs (I.base.tups b xs q),fun b ob u q=>un1.frzs b ob u (I.base.frzs b ob u q),fun b ps q=>?_⟩
  .have q1:=I.base.keep b ob q n hb hx
   have n1:=I.base.free b ob q n hx
   have q2:=un1.keep b ob q1 n1 (nsub b ob q hb) hx
   exact un b ob (bT b ob q2) (mv.kp b ob (nsub b ob q hb) (nea b (un1.free b ob q1 n1 hx)) (bT0 b ob q1) q2)
  .obtain ⟨sl,q1⟩:=I.base.slot b ob q n hb hx
   obtain ⟨sl1,q2⟩:=un1.slot b _ q1 (I.base.free b ob q n hx) (sub b hb) hx
   obtain ⟨sl2,q3⟩:=mv.sl b _ (sub b hb) q2
   exact ⟨sl2,un b _ (bT b _ q2) q3⟩
  .obtain ⟨o1,q1⟩:=I.base.there b ob q hx
   exact un1.free b o1 q1 (I.base.free b ob q n hx) hx
  .obtain ⟨o1,q1⟩:=I.base.there b ob q hx
   obtain ⟨o2,q2⟩:=un1.there b o1 q1 hx
   by_cases hbe:b=ea
   .subst hbe
    obtain ⟨o3,vs3,q3,_⟩:=mv.ex oe vs he1 he2
    exact ⟨o3,un b o3 (bT b _ q2) q3⟩
   .by_cases hb:b∈frs (envOfC qual scope s0.heap.objs.size f cd::outer)
    .obtain ⟨sl2,q3⟩:=mv.sl b _ hb q2
     exact ⟨_,un b _ (bT b _ q2) q3⟩
    .exact ⟨o2,un b o2 (bT b _ q2) (mv.kp b o2 hb hbe (bT0 b o1 q1) q2)⟩
  .obtain ⟨m,q1⟩:=I.base.tbls b ps q
   obtain ⟨m2,q2⟩:=un1.tbls b _ q1
   exact ⟨m++m2,by rw [q2,Array.append_assoc]⟩
 refine ⟨ea,C,dd,H',T,rfl,os.trans I.os,bare,un0,hok,hea,fly2,?_,hok1.fresh hT,hE _ _ _ hE1⟩
 cases q:s0.heap.get? T with
 | none=>rfl
 | some ob =>
  obtain ⟨o1,q1⟩:=I.base.there T ob q (show T∉([]:List Addr) by simp)
  obtain ⟨o2,q2⟩:=un1.there T o1 q1 (by simp)
  exact absurd rfl (bT T o2 q2)
end
section
variable {prog:Program}{w:World}{A:Around}{E:Value->Shared->Prop}{K:PySem.W.Frag}{env:Env}
theorem AW {Q:Flow->Shared->Prop}{x:Sem Value}{s:Shared} (hh:A.handled=none)
  (hx:wpAny (model prog w) A x (fun v s₁=>∃ea C G dd,v=.ref ea/\K.In s₁.heap/\XC K C G/\XAt ea C dd true s₁.heap/\E (.ref ea) s₁) E s):wpAny (model prog w) A (raiseStmt env (some x) none) Q E s:=by
 unfold raiseStmt
 refine wpAny_bind (wpAny_mono hx (fun v s1 h1=>?_) fun _ _ z=>z)
 obtain ⟨ea,C,G,dd,rfl,X,c,⟨o,vs,q1,q2,q3,q4,q5,q6⟩,hE⟩:=h1
 obtain ⟨nm,q,N,bs,sn,sub,ab,col,k0,k1,k2,k3,k5,e⟩:=c.obj
 have hC:=X _ _ e
 obtain ⟨hp,g,d,tk,os⟩:=s1
 have own:(Value.ref C::.ref G::vmB).contains (.type "BaseException")=true:=rfl
 have qn:=q6 rfl
 repeat (first
  | (with_reducible refine wpAny_loadPart_at q1 ?_;first | rw [q2] | rw [q4] | skip)
  | with_reducible refine wpAny_loadPart_at hC ?_
  | (with_reducible refine wpAny_isSubtype_exc hC ?_;rw [own])
  | with_reducible refine wpAny_field q1 q4 qn ?_
  | wp_step)
 exact wpAny_raiseNew_none hh hE
end
def RX (X:Cx) (J:St->XK):Prop:=∀(pins:List (Addr×Obj)) (σ:St) (H:Hp) (s:Shared) (ea C:Addr) (dd:Option Addr),Inv X pins σ H s->H ea=some (.ext (XAt ea C dd true))->J σ (.ref ea) dd (upd H ea (.ext (XAt ea C dd false)))->X.xe (.ref ea) s
def y4 (K:PySem.W.Frag) (te:TE) (J:St->XK):TS:=fun D σ H=>te σ H fun v H1=>∃ea C G dd,v=.ref ea/\H1 ea=some (.ext (XAt ea C dd true))/\XC K C G/\J σ (.ref ea) dd (upd H1 ea (.ext (XAt ea C dd false)))
section
variable {X:Cx}{J:St->XK}{x:Expr}{pos:Pos}{te:TE}
theorem yb (K:PySem.W.Frag) (ek:X.K=K) (hc:X.calm=true) (hx:RX X J) (he:PE X x te):PS X (.Raise (some x) none pos) (y4 K te J):=by
 subst ek
 intro pins s σ H D I h
 have key:wpAny (model X.prog X.w) X.A (raiseStmt X.env (some (do let v <- eval x X.env;standAt pos;pure v)) none) (SP X pins D) X.xe s:=by
  refine AW (K:=X.K) (I.ok.hd hc) (wpAny_bind (wpAny_mono (he pins s σ H _ I h) (fun u s1 ⟨v,H1,I1,rv,ea,C,G,dd,ev,hea,c,hj⟩=>wpAny_bind (wpAny_standAt (wpAny_pure ?_))) fun _ _ z=>z))
  subst ev
  obtain rfl:u=Value.ref ea:=rv
  have ok:=(show bD X.prog X.w H1 s1.heap ea (.ext (XAt ea C dd true)) from I1.hok ea _ hea)
  exact ⟨ea,C,G,dd,rfl,I1.kIn,c,ok.1,hx pins σ H1 s1 ea C dd I1 hea hj⟩
 rw [arm_exec_Raise]
 first
  | exact wpAny_bind (wpAny_standAt key)
  | (simp only [evalOpt,Option.map];exact wpAny_bind (wpAny_standAt key))
  | (show wpAny _ _ (do standAt pos;raiseStmt X.env (some (do let v <- eval x X.env;standAt pos;pure v)) none) _ _ s;exact wpAny_bind (wpAny_standAt key))
theorem CU {P:Program}{w:World}{K:PySem.W.Frag}{mg:Str->Option Value}{base:Heap}{N:List Str}{qual:Str}{scope:Scope}{f:Addr}{cd:Value}{A:Around}{outer:List Env}{s0:Shared}{H0:Hp}{E:XK} :
  RX (oz (CXe P w) P w K mg base N qual scope f cd A outer s0 H0 E) (fun _=>E):=fun pins σ H s ea C dd I hea hj=>vS I hea hj
end
def PX (CX:CXT) (X:Cx) (J:St->XK):Prop:=∀(pins:List (Addr×Obj)) (σ:St) (H:Hp) (s:Shared) (e:Value) (s':Shared),Inv X pins σ H s->CX X.stack H s (J σ) e s'->X.xe e s'
theorem vT {P:Program}{w:World}{K:PySem.W.Frag}{mg:Str->Option Value}{base:Heap}{N:List Str}{qual:Str}{scope:Scope}{f:Addr}{cd:Value}{A:Around}{outer:List Env}{s0:Shared}{H0:Hp}{E:XK} :
  PX (CXe P w) (oz (CXe P w) P w K mg base N qual scope f cd A outer s0 H0 E) (fun _=>E):=fun pins σ H s e s' I h=>AU I h fun _ _ _ z=>z
def su (sp:Sp) (J:St->XK) (t:TA):TE:=fun σ H Q=>t σ H fun vs H1=>sp vs H1 Q (J σ)
structure oE (P:Program) (w:World) (K:PySem.W.Frag) (mg:Str->Option Value) (base:Heap) (k:Nat) (x:Str) (ps:List Str) (sp:Sp):Prop where
 ex:∃(f:Addr) (fd:FuncData),lH P w K mg base (CXe P w) k f fd ps sp/\i5 K fd ps []/\PySem.W.keepIn K (.ref f)=true/\mg x=some (.ref f)
section
variable {X:Cx}{k:Nat}{x:Str}{ps:List Str}{sp:Sp}{p pos:Pos}{e:Expr}{es:List Expr}{t:TA}{J:St->XK}
theorem ef (C:oE X.prog X.w X.K X.mg X.base k x ps sp) (hr:gj k X.A) (hx:PX (CXe X.prog X.w) X J) (ha:PA X (e::es) t) (hg:Gl X x:=by rfl) (hdb:(x == ("__debug__":Str))=false:=by decide) (hn:nSt e=true:=by rfl) (hp:es.all nSt=true:=by rfl) :
  PE X (.Call (.Name x p) (e::es) [] pos) (su sp J t):=by
 obtain ⟨f,fd,F,hb,hk,hm⟩:=C.ex
 intro pins s σ H Q I h
 refine wpAny_Call_Name_kw (gw I hg hm ?_ hdb)
 refine PySem.W.callWith_K (h₀:=X.base) I.ok.mod.kin hk (thn (ha pos pins s σ H _ I h) fun us s1 ⟨vs,H1,I1,r,q⟩=>⟨I1.kIn,?_⟩) (gG hn) (fH hp)
 have hl:us.length=ps.length:=by rw [<- r.length];exact F.len _ _ _ _ q
 refine wpAny_call (codeAny_mono (F.run X.A X.stack s1 H1 ⟨us,[]⟩ us vs Q (J σ) hr I1.env0 ?_ r q) fun r s' hq=>?_)
 .have:=hb s1 us I1.kIn (by rw [List.append_nil];exact hl)
  rw [List.append_nil] at this
  exact this
 .cases r with
  | error e=>exact hx pins σ H1 s1 e s' I1 hq
  | ok fl =>
   cases fl with
   | ret u=>exact I1.after hq
   | next=>exact False.elim hq
   | brk=>exact False.elim hq
   | cont=>exact False.elim hq
end
section
variable {X:Cx}{pins:List (Addr×Obj)}{σ:St}{H:Hp}{s:Shared}
abbrev Cx.mk' (X:Cx) (e:Value):Cx:={ X with A:=X.A.mark (some e),calm:=false }
theorem Inv.mark (I:Inv X pins σ H s) (e:Value):Inv (X.mk' e) pins σ H s :=
 ⟨⟨I.ok.mod,I.ok.kind,I.ok.glob,I.ok.blt,I.ok.above,I.ok.inj,I.ok.has,I.ok.cab,nofun,I.ok.frames,I.ok.stk,I.ok.exf,I.ok.bs,I.ok.bsz,I.ok.noex,I.ok.exfs,I.ok.funs,I.ok.frf⟩,I.os,I.bare,I.base,I.loc,I.cell,I.free,I.freeC,I.pin,I.hok,I.len⟩
theorem Inv.unmark {e:Value} (I:Inv (X.mk' e) pins σ H s) (hd:X.calm=true->X.A.handled=none):Inv X pins σ H s :=
 ⟨⟨I.ok.mod,I.ok.kind,I.ok.glob,I.ok.blt,I.ok.above,I.ok.inj,I.ok.has,I.ok.cab,hd,I.ok.frames,I.ok.stk,I.ok.exf,I.ok.bs,I.ok.bsz,I.ok.noex,I.ok.exfs,I.ok.funs,I.ok.frf⟩,I.os,I.bare,I.base,I.loc,I.cell,I.free,I.freeC,I.pin,I.hok,I.len⟩
theorem ji {M:Model}{A:Around}{E:Value->Shared->Prop}{i:Nat}{x:Str}{pos:Pos}{Q:Unit->Shared->Prop} (I:Inv X pins σ H s) (hN:X.N.Nodup) (hi:X.N[i]?=some x) (hk:X.env.scope.names.lookup x=some .local)
  (h:∀s',Inv X pins (σ.set i none) H s'->Q () s'):wpAny M A (do bindName X.env x .none;unbindBehindTheSuite X.env x pos) Q E s:=by
 refine wpAny_bind (wpAny_bindName (gR I hN hi (.inl hk) (v:=.non) rfl (fun s1 I1=>?_) (.inr hk)))
 have hiσ:i < σ.length:=by rw [I.len];exact (List.getElem?_eq_some_iff.mp hi).1
 obtain ⟨m,hn,hl⟩:=id I1.loc
 obtain ⟨u,ru,lk⟩:=hl i x .non hi (List.getElem?_set_self hiσ) (.inl hk)
 have hm:m x=some u:=by
  rcases lk with ⟨_,z⟩ | ⟨z,_⟩
  .exact z
  .have z':X.env.scope.names.lookup x=some .cell\/X.env.scope.names.lookup x=some .free:=z
   rw [hk] at z'
   rcases z' with z' | z' <;> cases z'
 unfold unbindBehindTheSuite
 refine wpAny_onRaise (wpAny_unbindName_local hk hn hm (by rw [I.ok.kind];rfl) fun h' u' hn' hs=>?_)
 have cne:=I1.cne
 obtain ⟨oL,_,_,hoL,_⟩:=id hn
 have big:∀b o,X.s₀.heap.get? b=some o->b≠X.env.locals:=fun b o q=>Nat.ne_of_lt (Nat.lt_of_lt_of_le (Heap.lt_size q) I.ok.above)
 refine h _ ⟨I1.ok,I1.os,I1.bare,⟨fun b o q n hb hx=>(hs.2 b (big b o q)).trans (I1.base.keep b o q n hb hx),fun b o q n hb hx=>?_,I1.base.free,fun b o q hx=>?_,I1.base.tups,I1.base.frzs,I1.base.tbls⟩,⟨_,hn',fun j y v' e1 e2 e3=>?_⟩,fun y c q=>?_,I1.free,I1.freeC,fun p hp=>?_,fun b ob q=>?_,by simpa using I.len⟩
 .obtain ⟨sl,q1⟩:=I1.base.slot b o q n hb hx
  exact ⟨sl,(hs.2 b (big b o q)).trans q1⟩
 .obtain ⟨o',q1⟩:=I1.base.there b o q hx
  exact ⟨o',(hs.2 b (big b o q)).trans q1⟩
 .by_cases hj:j=i
  .subst hj
   rw [List.getElem?_set_self hiσ] at e2
   cases e2
  .rw [List.getElem?_set_ne (Ne.symm hj)] at e2
   obtain ⟨u2,r2,q⟩:=hl j y v' e1 (by rw [List.getElem?_set_ne (Ne.symm hj)];exact e2) e3
   refine ⟨u2,r2,?_⟩
   rcases q with ⟨k,z⟩ | ⟨k,c,z1,z2⟩
   .have:y≠x:=fun z=>hj (mT hN e1 (z ▸ hi))
    exact .inl ⟨k,by simp [this,z]⟩
   .exact .inr ⟨k,c,z1,z2.sameBut hs (cne y c z1)⟩
 .obtain ⟨w',z⟩:=I1.cell y c q
  exact ⟨w',z.sameBut hs (cne y c q)⟩
 .obtain ⟨q,n,ne,nf,dd⟩:=I1.pin p hp
  exact ⟨(hs.2 p.1 ne).trans q,n,ne,nf,dd⟩
 .refine (I1.hok b ob q).stay (fun c w' hc z=>(hs.2 c ?_).trans z) (fun _ z=>z) fun _ _ z=>z
  rintro rfl
  rcases hc with hc | hc
  .rw [<- hc,I1.free] at q;cases q
  .rw [I1.free] at hc;cases hc
end
section
variable {M:Model}{A:Around}{E:Value->Shared->Prop}{K:PySem.W.Frag}{C G D:Addr}
theorem pQ {h:Heap}{g:Array GenState}{d:Drawn}{t:Nat}{os:OsState}{ea:Addr}{dd:Option Addr}{new:Bool}{Q:Bool->Shared->Prop} (X:K.In h) (c:XC K C G) (x:XAt ea C dd new h)
  (hD:∃nm q N bs bm hd sn sub ab col d0 k0 k1 k2 k3 k5 nw,K.lookup D=some (excClassObj nm q D N bs bm hd sn sub ab col d0 k0 k1 k2 k3 k5 nw)/\(Value.ref D::bm).contains (.type "BaseException")=true)
  (hq:Q ((Value.ref C::.ref G::vmB).contains (.ref D)) ⟨h,g,d,t,os⟩):wpAny M A (excMatches (.ref ea) (.ref D)) Q E ⟨h,g,d,t,os⟩:=by
 obtain ⟨nm,q,N,bs,sn,sub,ab,col,k0,k1,k2,k3,k5,e⟩:=c.obj
 obtain ⟨nm',q',N',bs',bm',hd',sn',sub',ab',col',d0',k0',k1',k2',k3',k5',nw',e2,hb⟩:=hD
 obtain ⟨o,vs,q1,q2,_⟩:=x
 have hC:=X _ _ e
 have hDo:=X _ _ e2
 have f:=tc_notTuple
 generalize hbb:(Value.ref C::.ref G::vmB).contains (.ref D)=b at hq
 unfold excMatches
 repeat (first
  | (with_reducible refine wpAny_loadPart_at q1 ?_;rw [q2])
  | with_reducible refine wpAny_loadPart_at hDo ?_
  | with_reducible refine wpAny_loadPart_at hC ?_
  | (with_reducible refine wpAny_isSubtype_exc hDo ?_;rw [hb])
  | (with_reducible refine wpAny_isSubtype_exc hC ?_;rw [hbb])
  | wp_step)
 cases b <;> (wp_walk;exact hq)
end
structure FTk (X:Cx) (pins:List (Addr×Obj)) (H:Hp) (T:Addr):Prop where
 nt:H T=none
 sz:X.s₀.heap.objs.size<=T
 nl:T≠X.env.locals
 nc:∀x c,X.env.cells.lookup x=some c->c≠T
 np:∀p∈X.pn++pins,p.1≠T
section
variable {X:Cx}{pins:List (Addr×Obj)}{σ:St}{H:Hp}{s:Shared}
theorem FI {M:Model}{Er:Value->Shared->Prop}{E1:XK}{e:Value}{s':Shared}{Q:Unit->Shared->Prop} (hst:X.stack=X.env::X.outer) (hfm:X.env.frame=some X.env.locals) (I:Inv X pins σ H s) (h:CXe X.prog X.w X.stack H s E1 e s')
  (k:∀ea C dd H' T s2,e=.ref ea->Inv X pins σ H' s2->H' ea=some (.ext (XAt ea C dd false))->wK s2.heap ea T .none->FTk X pins H' T->E1 (.ref ea) dd H'->Q () s2) :
  wpAny M X.A (noteFrame e X.env) (fun _ s1=>wpAny M X.A (setFlight e none) Q Er s1) Er s':=by
 obtain ⟨ea,C,dd,H',T0,rfl,os,bare,un1,hok1,hea,fly0,hT0,hT0',hE1⟩:=h
 have hf1:∀b∈frs X.stack,H b=none:=I.stkFree
 have hss:=I.stack
 have hl:s'.heap.FunFrames X.base X.stack:=by
  have all:∀l:List Env,(∀b∈frs l,b∈frs X.stack)->s.heap.FunFrames X.base l->s'.heap.FunFrames X.base l:=by
   intro l
   induction l with
   | nil=>intro _ _;trivial
   | cons en r ih =>
    intro hs hl
    obtain ⟨hk,⟨L,o,hf,hn,ho,hd⟩,hr⟩:=hl
    have hL:L∈frs (en::r):=by unfold frs;rw [List.filterMap_cons,hf];exact List.mem_cons_self
    obtain ⟨sl,q⟩:=un1.slot L o ho (hf1 L (hs L hL)) (hs L hL) (by simp)
    exact ⟨hk,⟨L,_,hf,hn,q,hd⟩,ih (fun b hb=>hs b (by unfold frs;rw [List.filterMap_cons,hf];exact List.mem_cons_of_mem _ hb)) hr⟩
  exact all _ (fun _ hb=>hb) hss
 have nT0:T0∉frs X.stack:=fun z=>by
  obtain ⟨o,q⟩:=nQ hss z
  rw [hT0] at q;cases q
 have hf2:∀b∈frs X.stack,H' b=none:=fun b hb=>by
  obtain ⟨o,q⟩:=nQ hss hb
  exact un1.free b o q (hf1 b hb) (by simp)
 have fr:=I.ok.frames
 rw [hst] at fr hl nT0 hf2
 refine vR fr hl hfm fly0 nT0 fun g1 T hT mv fly=>?_
 refine kO fly fun g2 un fly2=>?_
 have hok:=hok1.moved hea mv hT un hf2 (fun b e=>by cases e;exact hT0') fly2 rfl
 have upe:upd H' ea (.ext (XAt ea C dd false))=H':=by
  funext b
  by_cases z:b=ea
  .subst z;rw [aF,hea]
  .rw [ax z]
 rw [upe] at hok
 have bT:∀b o,s'.heap.get? b=some o->b≠T:=fun b o q=>Nat.ne_of_lt (Nat.lt_of_lt_of_le (Heap.lt_size q) hT)
 have bT0:∀b o,s.heap.get? b=some o->some T0≠some b:=fun b o q z=>by cases z;rw [hT0] at q;cases q
 have nea:∀b,H' b=none->b≠ea:=fun b n z=>by rw [z,hea] at n;cases n
 obtain ⟨oe,vs,oT,ts,he1,he2,_⟩:=id fly0
 have u:Un (frs X.stack) [] H H' s.heap g2:=by
  rw [hst] at un1 ⊢
  refine ⟨fun b ob q n hb hx=>?_,fun b ob q n hb hx=>?_,un1.free,fun b ob q hx=>?_,un1.tups,un1.frzs,un1.tbls⟩
  .have q2:=un1.keep b ob q n hb hx
   exact un b ob (bT b ob q2) (mv.kp b ob hb (nea b (un1.free b ob q n hx)) (bT0 b ob q) q2)
  .obtain ⟨sl1,q2⟩:=un1.slot b ob q n hb hx
   obtain ⟨sl2,q3⟩:=mv.sl b _ hb q2
   exact ⟨sl2,un b _ (bT b _ q2) q3⟩
  .obtain ⟨o2,q2⟩:=un1.there b ob q hx
   by_cases hbe:b=ea
   .subst hbe
    obtain ⟨o3,vs3,q3,_⟩:=mv.ex oe vs he1 he2
    exact ⟨o3,un b o3 (bT b _ q2) q3⟩
   .by_cases hb:b∈frs (X.env::X.outer)
    .obtain ⟨sl2,q3⟩:=mv.sl b _ hb q2
     exact ⟨_,un b _ (bT b _ q2) q3⟩
    .exact ⟨o2,un b o2 (bT b _ q2) (mv.kp b o2 hb hbe (bT0 b ob q) q2)⟩
 have far:∀b o,s.heap.get? b=some o->b < T:=fun b o q=>by
  obtain ⟨o2,q2⟩:=un1.there b o q (by simp)
  exact Nat.lt_of_lt_of_le (Heap.lt_size q2) hT
 have hL:X.env.locals < T:=by
  obtain ⟨m,⟨o,_,_,ho,_⟩,_⟩:=I.loc
  exact far _ o ho
 refine k ea C dd H' T { s' with heap:=g2 } rfl (I.call' (s':={ s' with heap:=g2 }) os u hok bare (fun b z=>nomatch z)) hea fly2 ⟨hok1.fresh hT,Nat.le_of_lt (Nat.lt_of_le_of_lt I.ok.above hL),Ne.symm (Nat.ne_of_lt hL),fun x c q=>?_,fun p hp=>?_⟩ hE1
 .obtain ⟨v,o,ho,_⟩:=I.cell x c q
  exact Nat.ne_of_lt (far c o ho)
 .exact Nat.ne_of_lt (far _ _ (I.pin p hp).1)
end
abbrev THd:=Addr->Addr->Option Addr->wF->St->Hp->Prop
def PH (X:Cx) (hs:List ExceptHandler) (th:THd):Prop:=∀(pins:List (Addr×Obj)) (s:Shared) (σ:St) (H:Hp) (ea C:Addr) (dd:Option Addr) (T:Addr) (D:wF),Inv X pins σ H s->H ea=some (.ext (XAt ea C dd false))->wK s.heap ea T .none->FTk X pins H T->th ea C dd D σ H ->
 wpAny (model X.prog X.w) X.A (handleBy (.ref ea) X.env hs) (SP X pins D) X.xe s
def hAs (K:PySem.W.Frag) (C0:Addr) (i:Nat) (ts:TS) (tr:THd):THd:=fun ea C dd D σ H=>∃G,XC K C G /\
 ((Value.ref C::.ref G::vmB).contains (.ref C0)=true->ts { nx:=fun σ' H'=>D.nx (σ'.set i none) H',bk:=fun σ' H'=>D.bk (σ'.set i none) H',ct:=fun σ' H'=>D.ct (σ'.set i none) H',rt:=D.rt } (σ.set i (some (.ref ea))) H) /\
 ((Value.ref C::.ref G::vmB).contains (.ref C0)=false->tr ea C dd D σ H)
def XD (K:PySem.W.Frag) (D:Addr):Prop:=∃nm q N bs bm hd sn sub ab col d0 k0 k1 k2 k3 k5 nw,K.lookup D=some (excClassObj nm q D N bs bm hd sn sub ab col d0 k0 k1 k2 k3 k5 nw)/\(Value.ref D::bm).contains (.type "BaseException")=true
section
variable {X:Cx}{C0:Addr}{cn n:Str}{np pos:Pos}{b0:Stmt}{suite:List Stmt}{rest:List ExceptHandler}{i:Nat}{ts:TS}{tr:THd}
theorem Ez (K:PySem.W.Frag) (ek:X.K=K) (hx:XD K C0) (hm:X.mg cn=some (.ref C0)) (hN:X.N.Nodup) (hi:X.N[i]?=some n) (hk:X.env.scope.names.lookup n=some .local) (hs:∀e,PSs (X.mk' e).nox (b0::suite) ts) (hr:PH X rest tr)
  (hg:Gl X cn:=by rfl) (hdb:(cn == ("__debug__":Str))=false:=by decide):PH X (.ExceptHandler (some (.Name cn np)) (some n) (b0::suite) pos::rest) (hAs K C0 i ts tr):=by
 subst ek
 intro pins s σ H ea C dd T D I hea fly ft h
 obtain ⟨G,c,h1,h2⟩:=h
 have xa:XAt ea C dd false s.heap:=(show bD X.prog X.w H s.heap ea (.ext (XAt ea C dd false)) from I.hok ea _ hea).1
 refine wpAny_handleBy_cons (codeAny_handlers_test ?_) (by intro z;cases z)
 refine gw (X:=X.mk' (.ref ea)) (I.mark (.ref ea)) hg hm ?_ hdb
 have X2:=I.kIn
 have I0:=I
 obtain ⟨hh,g,d,tk,os⟩:=s
 refine pQ X2 c xa hx ?_
 cases hb:(Value.ref C::.ref G::vmB).contains (.ref C0) with
 | false=>exact hr pins _ σ H ea C dd T D I0 hea fly ft (h2 hb)
 | true =>
  refine codeAny_handlers_suite_as ?_
  refine kO fly fun g2 un fly2=>?_
  have I1:Inv X pins σ H { heap:=g2,gens:=g,drawn:=d,toks:=tk,os:=os }:=I0.turned (it:=T) (t':=tk) un ft.nt ft.nl (.inr ft.sz) ft.nc ft.np
  refine gR (X:=X) (v:=.ref ea) I1 hN hi (.inl hk) rfl (fun s2 I2=>?_) (.inr hk)
  refine wpAny_mono (hs (.ref ea) pins s2 _ H _ ((I2.mark (.ref ea)).wish _) (h1 hb)) (fun f s3 hf=>?_) fun _ _ z=>False.elim z
  have un1:∀{σ' H'},Inv (X.mk' (.ref ea)).nox pins σ' H' s3->Inv X pins σ' H' s3:=fun J=>(Inv.unwish J).unmark I0.ok.hd
  show wpAny _ X.A (do bindName X.env n .none;unbindBehindTheSuite X.env n pos) (fun _ s4=>SP X pins D f s4) X.xe s3
  cases f with
  | next =>
   obtain ⟨σ',H',J,q⟩:=hf
   exact ji (un1 J) hN hi hk fun s4 I4=>⟨_,H',I4,q⟩
  | brk =>
   obtain ⟨σ',H',J,q⟩:=hf
   exact ji (un1 J) hN hi hk fun s4 I4=>⟨_,H',I4,q⟩
  | cont =>
   obtain ⟨σ',H',J,q⟩:=hf
   exact ji (un1 J) hN hi hk fun s4 I4=>⟨_,H',I4,q⟩
  | ret u =>
   obtain ⟨v,σ',H',J,r,q⟩:=hf
   exact ji (un1 J) hN hi hk fun s4 I4=>⟨v,_,H',I4,r,q⟩
theorem vU:PH X [] (fun _ _ _ _ _ _=>False):=fun _ _ _ _ _ _ _ _ _ _ _ _ _ h=>h.elim
end
def hNo (K:PySem.W.Frag) (C0:Addr) (ts:TS) (tr:THd):THd:=fun ea C dd D σ H=>∃G,XC K C G /\
 ((Value.ref C::.ref G::vmB).contains (.ref C0)=true->ts D σ H) /\
 ((Value.ref C::.ref G::vmB).contains (.ref C0)=false->tr ea C dd D σ H)
abbrev Cx.tryb (X:Cx) (pn:List (Addr×Obj)) (E:Value->Shared->Prop):Cx:={ X with pn:=pn,xe:=E }
def Fi (tb:(St->XK)->TS) (th:THd):TS:=fun D σ H=>∃J:St->XK,tb J D σ H/\∀(σ':St) (ea:Addr) (dd:Option Addr) (H':Hp),J σ' (.ref ea) dd H'->∃C,H' ea=some (.ext (XAt ea C dd false))/\th ea C dd D σ' H'
section
variable {X:Cx}{C0:Addr}{cn n:Str}{np pos:Pos}{b0:Stmt}{suite body:List Stmt}{rest:List ExceptHandler}{h0:ExceptHandler}{hs:List ExceptHandler}{i:Nat}{ts:TS}{tr th:THd}{tb:(St->XK)->TS}
theorem EA (K:PySem.W.Frag) (ek:X.K=K) (hx:XD K C0) (hm:X.mg cn=some (.ref C0)) (hs:∀e,PSs (X.mk' e).nox (b0::suite) ts) (hr:PH X rest tr)
  (hg:Gl X cn:=by rfl) (hdb:(cn == ("__debug__":Str))=false:=by decide):PH X (.ExceptHandler (some (.Name cn np)) none (b0::suite) pos::rest) (hNo K C0 ts tr):=by
 subst ek
 intro pins s σ H ea C dd T D I hea fly ft h
 obtain ⟨G,c,h1,h2⟩:=h
 have xa:XAt ea C dd false s.heap:=(show bD X.prog X.w H s.heap ea (.ext (XAt ea C dd false)) from I.hok ea _ hea).1
 refine wpAny_handleBy_cons (codeAny_handlers_test ?_) (by intro z;cases z)
 refine gw (X:=X.mk' (.ref ea)) (I.mark (.ref ea)) hg hm ?_ hdb
 have X2:=I.kIn
 have I0:=I
 obtain ⟨hh,g,d,tk,os⟩:=s
 refine pQ X2 c xa hx ?_
 cases hb:(Value.ref C::.ref G::vmB).contains (.ref C0) with
 | false=>exact hr pins _ σ H ea C dd T D I0 hea fly ft (h2 hb)
 | true =>
  refine codeAny_handlers_suite ?_
  refine kO fly fun g2 un fly2=>?_
  have I1:Inv X pins σ H { heap:=g2,gens:=g,drawn:=d,toks:=tk,os:=os }:=I0.turned (it:=T) (t':=tk) un ft.nt ft.nl (.inr ft.sz) ft.nc ft.np
  refine wpAny_mono (hs (.ref ea) pins _ _ H _ ((I1.mark (.ref ea)).wish _) (h1 hb)) (fun f s3 hf=>?_) fun _ _ z=>False.elim z
  have un1:∀{σ' H'},Inv (X.mk' (.ref ea)).nox pins σ' H' s3->Inv X pins σ' H' s3:=fun J=>(Inv.unwish J).unmark I0.ok.hd
  cases f with
  | next =>
   obtain ⟨σ',H',J,q⟩:=hf
   exact ⟨_,H',un1 J,q⟩
  | brk =>
   obtain ⟨σ',H',J,q⟩:=hf
   exact ⟨_,H',un1 J,q⟩
  | cont =>
   obtain ⟨σ',H',J,q⟩:=hf
   exact ⟨_,H',un1 J,q⟩
  | ret u =>
   obtain ⟨v,σ',H',J,r,q⟩:=hf
   exact ⟨v,_,H',un1 J,r,q⟩
theorem vV (hst:X.stack=X.env::X.outer) (hfm:X.env.frame=some X.env.locals)
  (hb:∀J pn E,PX (CXe X.prog X.w) (X.tryb pn E) J->PSs (X.tryb pn E) body (tb J)) (hh:PH X (h0::hs) th):PS X (.Try body (h0::hs) [] [] pos) (Fi tb th):=by
 intro pins s σ H D I h
 obtain ⟨J,h1,h2⟩:=h
 have mk:∀{E σ H s},Inv X pins σ H s->Inv (X.tryb (X.pn++pins) E) [] σ H s:=fun I =>
  ⟨⟨I.ok.mod,I.ok.kind,I.ok.glob,I.ok.blt,I.ok.above,I.ok.inj,I.ok.has,I.ok.cab,I.ok.hd,I.ok.frames,I.ok.stk,I.ok.exf,I.ok.bs,I.ok.bsz,I.ok.noex,I.ok.exfs,I.ok.funs,I.ok.frf⟩,I.os,I.bare,I.base,I.loc,I.cell,I.free,I.freeC,fun p hp=>I.pin p (by simpa using hp),I.hok,I.len⟩
 have un:∀{E pins' σ H s},Inv (X.tryb (X.pn++pins) E) pins' σ H s->Inv X pins σ H s:=fun {E pins' σ H s} I =>
  ⟨⟨I.ok.mod,I.ok.kind,I.ok.glob,I.ok.blt,I.ok.above,I.ok.inj,I.ok.has,I.ok.cab,I.ok.hd,I.ok.frames,I.ok.stk,I.ok.exf,I.ok.bs,I.ok.bsz,I.ok.noex,I.ok.exfs,I.ok.funs,I.ok.frf⟩,I.os,I.bare,I.base,I.loc,I.cell,I.free,I.freeC,fun p hp=>I.pin p (List.mem_append_left pins' hp),I.hok,I.len⟩
 let XE:Value->Shared->Prop:=fun e s1=>∃σ H s,Inv X pins σ H s/\CXe X.prog X.w X.stack H s (J σ) e s1
 have px:PX (CXe X.prog X.w) (X.tryb (X.pn++pins) XE) J:=fun pins' σ' H' s' e s1 I' h=>⟨σ',H',s',un I',h⟩
 refine wpAny_Try_except (wpAny_mono (hb J _ _ px [] s σ H D (mk I) h1) (fun f s1 hf=>?_) fun e s1 he=>?_)
 .cases f with
  | next =>
   obtain ⟨σ',H',I',q⟩:=hf
   rw [arm_execs_nil]
   exact wpAny_pure ⟨σ',H',un I',q⟩
  | brk =>
   obtain ⟨σ',H',I',q⟩:=hf
   exact ⟨σ',H',un I',q⟩
  | cont =>
   obtain ⟨σ',H',I',q⟩:=hf
   exact ⟨σ',H',un I',q⟩
  | ret u =>
   obtain ⟨v,σ',H',I',r,q⟩:=hf
   exact ⟨v,σ',H',un I',r,q⟩
 .obtain ⟨σ',H',s',I',cx⟩:=he
  refine FI hst hfm I' cx fun ea C dd H2 T s2 ee I2 hea fly ft hJ=>?_
  subst ee
  obtain ⟨C2,hea2,ht⟩:=h2 σ' ea dd H2 hJ
  exact hh pins s2 σ' H2 ea C2 dd T D I2 hea2 fly ft ht
end
def XR (K:PySem.W.Frag) (O:Addr->Prop) (H:Hp) (ea:Addr) (dd:Option Addr) (d:D):Prop:=∃c ns ds,d=.exc c ns ds/\H ea=some (.ext (XAt ea (aP K c) dd false))/\FV K O H (.ref ea) d
theorem XR.keeps {K:PySem.W.Frag}{O O':Addr->Prop}{H H':Hp}{ea:Addr}{dd:Option Addr}{d:D} (k:aZ O H O' H') (h:XR K O H ea dd d):XR K O' H' ea dd d:=by
 obtain ⟨c,ns,ds,rfl,e,f⟩:=h
 have n:¬ O ea:=by cases f with
  | exc0 n _=>exact n
  | exc1 n _ _ _ _ _=>exact n
 exact ⟨c,ns,ds,rfl,(k _ _ n e).2,f.keeps k⟩
def LSX (K:PySem.W.Frag) (E:D->Prop) (Eo:XK) (fs:List Nat) (ts:TS) (ps:PTS):Prop:=∀(fx:List (Nat×V)) (A R:Addr->Prop) (H0:Hp) (ρ:PSt) (σ:St) (H:Hp) (D:xC) (D':wF),fx.map Prod.fst=fs->Rel K A ρ σ H->dD fx R H0 ρ σ H->ps D ρ ->
 (∀ρ' σ' H',D.nx ρ'->Rel K A ρ' σ' H'->dD fx R H0 ρ' σ' H'->D'.nx σ' H') ->
 (∀v p ρ' σ' H',D.rt p ρ'->Out K A ρ' σ' H0 H' p v->dD fx R H0 ρ' σ' H'->D'.rt v H') ->
 (∀ρ' σ' H',D.bk ρ'->Rel K A ρ' σ' H'->dD fx R H0 ρ' σ' H'->D'.bk σ' H') ->
 (∀ρ' σ' H',D.ct ρ'->Rel K A ρ' σ' H'->dD fx R H0 ρ' σ' H'->D'.ct σ' H') ->
 (∀ρ' σ' H' ea dd d,E d->Rel K A ρ' σ' H'->dD fx R H0 ρ' σ' H'->H0 ea=none->XR K (OO A ρ' σ') H' ea dd d->Eo (.ref ea) dd H')->ts D' σ H
theorem dD.nn {fx:List (Nat×V)}{R:Addr->Prop}{H0 H:Hp}{ρ:PSt}{σ:St} (F:dD fx R H0 ρ σ H) {b:Addr} (h:H b=none):H0 b=none:=by
 cases e:H0 b with
 | none=>rfl
 | some o=>exact absurd h (F.dm b (by rw [e];exact nofun))
section
variable {K:PySem.W.Frag}{E:D->Prop}{Eo:XK}{fs:List Nat}{ta tb ts:TS}{pa pb ps:PTS}{te:TE}{pe:PTE}{tt:TT}{pt:PTT}{wi:TI}{pi:PTI}{g:TG}{pg:PTG}
theorem LS.x (h:LS K fs ts ps):LSX K E Eo fs ts ps:=fun fx A R H0 ρ σ H D D' hf r F q k1 k2 k3 k4 _=>h fx A R H0 ρ σ H D D' hf r F q k1 k2 k3 k4
theorem pR (ha:LSX K E Eo fs ta pa) (hb:LSX K E Eo fs tb pb):LSX K E Eo fs (Dg ta tb) (aQ pa pb):=fun fx A R H0 ρ σ H D D' hf r F q k1 k2 k3 k4 k5 =>
 ha fx A R H0 ρ σ H _ _ hf r F q (fun ρ1 σ1 H1 q1 r1 F1=>hb fx A R H0 ρ1 σ1 H1 _ _ hf r1 F1 q1 k1 k2 k3 k4 k5) k2 k3 k4 k5
theorem EB (ht:LT K tt pt) (ha:LSX K E Eo fs ta pa) (hb:LSX K E Eo fs tb pb):LSX K E Eo fs (Dw tt ta tb) (jr pt pa pb):=fun fx A R H0 ρ σ H D D' hf r F q k1 k2 k3 k4 k5=>ht A ρ σ H _ _ r q fun c H1 ρ1 q1 f1 r1=>by
 cases c with
 | true=>exact ha fx A R H0 ρ1 σ H1 D D' hf r1 (F.fr f1) q1 k1 k2 k3 k4 k5
 | false=>exact hb fx A R H0 ρ1 σ H1 D D' hf r1 (F.fr f1) q1 k1 k2 k3 k4 k5
theorem CV (hi:LI K wi pi) (hg:LGd K fs g pg) (hb:LSX K E Eo fs tb pb):LSX K E Eo fs (Dz wi g tb) (jf pi pg pb):=fun fx A R H0 ρ σ H D D' hf r F q k1 k2 k3 k4 k5=>hi A ρ σ H _ _ r q fun J H1 n it ρ1 q1 f1 r1 W=>by
 obtain ⟨I,i0,turn,after⟩:=q1
 have F1:=F.fr f1
 refine ⟨fun i m σ' H'=>i + m=n/\∃ρ',I i ρ'/\Rel K A ρ' σ' H'/\dD fx (Wr ρ1 σ) H1 ρ' σ' H',⟨n,Nat.zero_add n,ρ1,i0,r1,dD.start F1.fx⟩,fun i m σ' H' ⟨him,ρ',iv,r',F'⟩=>?_⟩
 obtain ⟨go,stop⟩:=W _ H' F'.keeps r'.dom2
 by_cases hk:i < n
 .obtain ⟨g1,g2⟩:=go i hk
  refine .inr ⟨g1,fun σ'' H''=>∃ρ'',I (i + 1) ρ''/\Rel K A ρ'' σ'' H''/\dD fx (Wr ρ1 σ) H1 ρ'' σ'' H'',fun σ'' H'' z=>⟨m - 1,by omega,by omega,z⟩,fun x H'' y=>?_⟩
  obtain ⟨gr,fv⟩:=g2 x H'' y
  refine hg fx A (Wr ρ1 σ) H1 ρ' σ' H'' _ x _ _ hf (F'.fr gr.fr) (r'.gr gr) fv (turn i ρ' _ hk rfl iv) fun ρ2 σ2 q2 r2 F2 _=>?_
  refine hb fx A (Wr ρ1 σ) H1 ρ2 σ2 H'' _ _ hf r2 F2 q2 (fun ρ3 σ3 H3 q3 r3 F3=>⟨ρ3,q3,r3,F3⟩) (fun v p ρ3 σ3 H3 q3 o3 F3=>k2 v p ρ3 σ3 H3 q3 (o3.h0 F1.dm) (F1.trans F3 F3.fx)) (fun ρ3 σ3 H3 q3 r3 F3=>k1 ρ3 σ3 H3 q3 r3 (F1.trans F3 F3.fx)) (fun ρ3 σ3 H3 q3 r3 F3=>⟨ρ3,q3,r3,F3⟩)
   (fun ρ3 σ3 H3 ea dd d q3 r3 F3 n3 x3=>k5 ρ3 σ3 H3 ea dd d q3 r3 (F1.trans F3 F3.fx) (F1.nn n3) x3)
 .have e:i=n:=by omega
  subst e
  exact .inl ⟨stop,k1 ρ' σ' H' (after ρ' iv) r' (F1.trans F' F'.fx)⟩
end
def vW (E:D->Prop) (pe:PTE):PTS:=fun _ ρ=>pe ρ fun p _=>match p with
 | .dat d=>E d
 | _=>False
section
variable {K:PySem.W.Frag}{E:D->Prop}{Eo:XK}{fs:List Nat}{ta:TA}{pa:PTA}{cs:List Str}{c f:Str}
theorem EC {H:Hp}{a:Addr}{o o':HO}:upd (upd H a o) a o'=upd H a o':=by
 funext b
 by_cases z:b=a
 .subst z;rw [aF,aF]
 .rw [ax z,ax z,ax z]
theorem vX (X:y0 K cs) (hc:c∈cs):LSX K E Eo fs (y4 K (CQ (aP K c)) (fun _=>Eo)) (vW E (CS c)):=fun fx A R H0 ρ σ H D D' hf r F q k1 k2 k3 k4 k5 e he=>by
 refine ⟨e,aP K c,aP K "GlueError",none,rfl,aF,X.c c hc,?_⟩
 rw [EC]
 have g:Gr H (upd H e (.ext (XAt e (aP K c) none false))):=Gr.new he
 exact k5 ρ σ _ e _ _ q (r.gr g) (F.fr g.fr) (F.nn he) ⟨_,_,_,rfl,aF,.exc0 (fun z=>r.dom2 e z he) aF⟩
end
abbrev FX:=List D->(PV->Prop)->(D->Prop)->Prop
def spX (K:PySem.W.Frag) (c:FX):Sp:=fun vs H Q E=>∃(O:Addr->Prop) (ds:List D) (Qc:PV->Prop) (Ec:D->Prop),(∀b,O b->H b≠none)/\FVs K O H vs ds/\c ds Qc Ec/\(∀r,Qc r->∀v H',Gr H H'->qj K O H H' r v->Q v H') /\
 ∀d,Ec d->∀ea dd H',Gr H H'->H ea=none->XR K O H' ea dd d->E (.ref ea) dd H'
section
variable {K:PySem.W.Frag}{tr:TA}{pr:PTA}{ts:XK->TS}{ps:(D->Prop)->PTS}
def kP (c:FX) (pr:PTA):PTE:=fun ρ Q=>pr ρ fun as ρ1=>match avD as with
 | some ds=>c ds (fun r=>Q r ρ1) (fun _=>False)
 | none=>False
theorem hG {c:FX} (h:LAs K tr pr):LE K (su (spX K c) (fun _=>E0) tr) (kP c pr):=fun A ρ σ H Q Q' R q k=>h A ρ σ H _ _ R q fun vs H1 as ρ1 q1 f1 R1 o1=>by
 split at q1
 .rename_i ds e
  exact ⟨OO A ρ1 σ,ds,_,_,R1.dom2,o1.avD e,q1,fun r qr v H' g ov=>k v H' r ρ1 qr (f1.trans g.fr) ((ov.out R1 g).h0 f1.dm),fun d z=>z.elim⟩
 .exact q1.elim
end
section
variable {K:PySem.W.Frag}{cs:List Str}
theorem jT (X:y0 K cs) {c d:Str} (hc:c∈cs) (hd:d∈cs\/d="GlueError"):(Value.ref (aP K c)::.ref (aP K "GlueError")::vmB).contains (.ref (aP K d))=wJ c d:=by
 have yd:XCl K d:=hd.elim (X.n d) fun e=>by rw [e];exact X.g
 have rr:∀a b:Addr,(Value.ref a == Value.ref b)=decide (a=b):=fun a b=>by
  by_cases h:a=b
  .subst h;simp
  .rw [decide_eq_false h];exact beq_eq_false_iff_ne.mpr fun z=>h (Value.ref.inj z)
 rw [List.contains_cons,List.contains_cons,rr,rr]
 have t2:vmB.contains (Value.ref (aP K d))=false:=rfl
 rw [t2,Bool.or_false]
 unfold wJ
 congr 1
 .by_cases h:c=d
  .subst h;rw [decide_eq_true rfl,decide_eq_true rfl]
  .rw [decide_eq_false h,decide_eq_false fun z=>(X.n c hc).ne yd h z.symm]
 .by_cases h:d="GlueError"
  .subst h;rw [decide_eq_true rfl,decide_eq_true rfl]
  .rw [decide_eq_false h,decide_eq_false (yd.ne X.g h)]
end
section
variable {K:PySem.W.Frag}{A R:Addr->Prop}{fx:List (Nat×V)}{fs:List Nat}{H0 H:Hp}{ρ:PSt}{σ:St}{i:Nat}
theorem jj {j:Nat}{q:PV} (e:(ρ.set i none)[j]?=some (some q)):j≠i/\ρ[j]?=some (some q):=by
 by_cases z:i=j
 .subst z
  by_cases hi:i < ρ.length
  .rw [List.getElem?_set_self hi] at e;cases e
  .rw [List.getElem?_eq_none (by rw [List.length_set];omega)] at e;cases e
 .rw [List.getElem?_set_ne z] at e;exact ⟨fun q=>z q.symm,e⟩
theorem nR {b:Addr} (h:Wr (ρ.set i none) (σ.set i none) b):Wr ρ σ b:=by
 obtain ⟨j,r,e1,o1,s1⟩:=h
 obtain ⟨n,e⟩:=jj e1
 rw [List.getElem?_set_ne (fun z=>n z.symm)] at s1
 exact ⟨j,r,e,o1,s1⟩
theorem Rel.unset (R1:Rel K A ρ σ H):Rel K A (ρ.set i none) (σ.set i none) H:=by
 have k:aZ (OO A ρ σ) H (OO A (ρ.set i none) (σ.set i none)) H:=aZ.less fun b z=>z.imp id nR
 refine ⟨by rw [List.length_set,List.length_set];exact R1.len,fun j r e1=>?_,fun j l p1 q1 v' e1 e2 o1 o2 s1 s2=>?_,R1.dom,fun b z w=>R1.sep b z (nR w)⟩
 .obtain ⟨n,e⟩:=jj e1
  obtain ⟨u,s,r'⟩:=R1.get j r e
  exact ⟨u,by rw [List.getElem?_set_ne (fun z=>n z.symm)];exact s,r'.keeps k fun _ _ _=>rfl⟩
 .obtain ⟨n1,e1⟩:=jj e1
  obtain ⟨n2,e2⟩:=jj e2
  rw [List.getElem?_set_ne (fun z=>n1 z.symm)] at s1
  rw [List.getElem?_set_ne (fun z=>n2 z.symm)] at s2
  exact R1.dj j l p1 q1 v' e1 e2 o1 o2 s1 s2
theorem dD.unset (hf:fx.map Prod.fst=fs) (hi:fs.contains i=false) (F:dD fx R H0 ρ σ H):dD fx R H0 (ρ.set i none) (σ.set i none) H :=
 ⟨F.kp,F.dm,fun b w=>F.ow b (nR w),fun q hq=>by
  have:q.1≠i:=fun z=>by
   have h1:i∈fs:=by rw [<- hf,<- z];exact List.mem_map_of_mem hq
   rw [List.contains_iff_mem.mpr h1] at hi;cases hi
  rw [List.getElem?_set_ne (fun z=>this z.symm)];exact F.fx q hq⟩
end
abbrev PTH:=D->PTS
def LH (K:PySem.W.Frag) (fs:List Nat) (th:THd) (ph:PTH):Prop:=∀(fx:List (Nat×V)) (A R:Addr->Prop) (H0:Hp) (ρ:PSt) (σ:St) (H:Hp) (D:xC) (D':wF) (ea:Addr) (dd:Option Addr) (c:Str) (ns:List Str) (ds:List L2.D),fx.map Prod.fst=fs->Rel K A ρ σ H->dD fx R H0 ρ σ H ->
 H ea=some (.ext (XAt ea (aP K c) dd false))->FV K (OO A ρ σ) H (.ref ea) (.exc c ns ds)->ph (.exc c ns ds) D ρ ->
 (∀ρ' σ' H',D.nx ρ'->Rel K A ρ' σ' H'->dD fx R H0 ρ' σ' H'->D'.nx σ' H') ->
 (∀v p ρ' σ' H',D.rt p ρ'->Out K A ρ' σ' H0 H' p v->dD fx R H0 ρ' σ' H'->D'.rt v H') ->
 (∀ρ' σ' H',D.bk ρ'->Rel K A ρ' σ' H'->dD fx R H0 ρ' σ' H'->D'.bk σ' H') ->
 (∀ρ' σ' H',D.ct ρ'->Rel K A ρ' σ' H'->dD fx R H0 ρ' σ' H'->D'.ct σ' H')->th ea (aP K c) dd D' σ H
def yc:PTH:=fun _ _ _=>False
def ED (cs:List Str) (c0:Str) (i:Nat) (pb:PTS) (rest:PTH):PTH:=fun d D ρ=>match d with
 | .exc c _ _=>cs.contains c=true/\iW (wJ c c0) (pb { nx:=fun ρ'=>D.nx (ρ'.set i none),bk:=fun ρ'=>D.bk (ρ'.set i none),ct:=fun ρ'=>D.ct (ρ'.set i none),rt:=D.rt } (ρ.set i (some (.dat d)))) (rest d D ρ)
 | _=>False
def Fj (cs:List Str) (c0:Str) (pb:PTS) (rest:PTH):PTH:=fun d D ρ=>match d with
 | .exc c _ _=>cs.contains c=true/\iW (wJ c c0) (pb D ρ) (rest d D ρ)
 | _=>False
section
variable {K:PySem.W.Frag}{cs:List Str}{fs:List Nat}{ts:TS}{ps:PTS}{tr:THd}{pr:PTH}{c0:Str}{i:Nat}
theorem vY:LH K fs (fun _ _ _ _ _ _=>False) yc:=fun _ _ _ _ _ _ _ _ _ _ _ _ _ _ _ _ _ _ _ h _ _ _ _=>h
theorem CW (X:y0 K cs) (h0:c0∈cs\/c0="GlueError") (hi:fs.contains i=false) (hs:LS K fs ts ps) (hr:LH K fs tr pr):LH K fs (hAs K (aP K c0) i ts tr) (ED cs c0 i ps pr):=fun fx A R H0 ρ σ H D D' ea dd c ns ds hf r F hea fv q k1 k2 k3 k4=>by
 obtain ⟨hc,q⟩:=(show cs.contains c=true/\_ from q)
 have hc:c∈cs:=List.contains_iff_mem.mp hc
 have ek:=jT X hc h0
 refine ⟨aP K "GlueError",X.c c hc,fun e=>?_,fun e=>?_⟩
 .rw [ek] at e
  rw [e] at q
  have o:Out K A ρ σ H0 H (.dat (.exc c ns ds)) (.ref ea):=⟨r,fv⟩
  exact hs fx A R H0 _ _ H _ _ hf (o.put (i:=i)).1 (F.put hf hi o.put.2) q (fun ρ' σ' H' q' r' F'=>k1 _ _ _ q' r'.unset (F'.unset hf hi)) k2 (fun ρ' σ' H' q' r' F'=>k3 _ _ _ q' r'.unset (F'.unset hf hi)) (fun ρ' σ' H' q' r' F'=>k4 _ _ _ q' r'.unset (F'.unset hf hi))
 .rw [ek] at e
  rw [e] at q
  exact hr fx A R H0 ρ σ H D D' ea dd c ns ds hf r F hea fv q k1 k2 k3 k4
theorem EE (X:y0 K cs) (h0:c0∈cs\/c0="GlueError") (hs:LS K fs ts ps) (hr:LH K fs tr pr):LH K fs (hNo K (aP K c0) ts tr) (Fj cs c0 ps pr):=fun fx A R H0 ρ σ H D D' ea dd c ns ds hf r F hea fv q k1 k2 k3 k4=>by
 obtain ⟨hc,q⟩:=(show cs.contains c=true/\_ from q)
 have hc:c∈cs:=List.contains_iff_mem.mp hc
 have ek:=jT X hc h0
 refine ⟨aP K "GlueError",X.c c hc,fun e=>?_,fun e=>?_⟩
 .rw [ek] at e
  rw [e] at q
  exact hs fx A R H0 _ _ H _ _ hf r F q k1 k2 k3 k4
 .rw [ek] at e
  rw [e] at q
  exact hr fx A R H0 ρ σ H D D' ea dd c ns ds hf r F hea fv q k1 k2 k3 k4
end
def ye (c:FX) (pa:PTA) (ph:PTH):PTS:=fun D ρ=>pa ρ fun as ρ1=>match avD as with
 | some ds=>c ds (fun _=>D.nx ρ1) (fun d=>ph d D ρ1)
 | none=>False
section
variable {K:PySem.W.Frag}{fs:List Nat}{ta:TA}{pa:PTA}{th:THd}{ph:PTH}{c:FX}
theorem vZ (ha:LAs K ta pa) (hh:LH K fs th ph):LS K fs (Fi (fun J=>Dg (wO (su (spX K c) J ta)) zp) th) (ye c pa ph):=fun fx A R H0 ρ σ H D D' hf r F q k1 k2 k3 k4=>by
 refine ⟨fun σ' v dd H'=>∃ρ1 ea d,v=.ref ea/\σ'=σ/\Rel K A ρ1 σ H'/\dD fx R H0 ρ1 σ H'/\XR K (OO A ρ1 σ) H' ea dd d/\ph d D ρ1,?_,fun σ' ea dd H' ⟨ρ1,ea',d,ev,es,r1,F1,x1,q1⟩=>?_⟩
 .refine ha A ρ σ H _ _ r q fun vs H1 as ρ1 q1 f1 R1 o1=>?_
  split at q1
  .rename_i ds e
   exact ⟨OO A ρ1 σ,ds,_,_,R1.dom2,o1.avD e,q1,fun r qr v H' g ov=>k1 ρ1 σ H' qr (ov.out R1 g).frz.1 ((F.fr f1).fr g.fr),fun d qd ea dd H' g n x=>⟨ρ1,ea,d,rfl,rfl,R1.gr g,(F.fr f1).fr g.fr,x,qd⟩⟩
  .exact q1.elim
 .cases ev
  subst es
  obtain ⟨c,ns,ds,rfl,hea,fv⟩:=x1
  exact ⟨_,hea,hh fx A R H0 ρ1 σ' H' D D' ea dd c ns ds hf r1 F1 hea fv q1 k1 k2 k3 k4⟩
end
def LEX (K:PySem.W.Frag) (E:D->Prop) (Eo:XK) (te:TE) (pe:PTE):Prop:=∀(A:Addr->Prop) (ρ:PSt) (σ:St) (H:Hp) (Q:PKt) (Q':VK),Rel K A ρ σ H->pe ρ Q ->
 (∀v H' p ρ',Q p ρ'->Fr ρ σ H ρ' H'->Out K A ρ' σ H H' p v->Q' v H') ->
 (∀ρ' H' ea dd d,E d->Fr ρ σ H ρ' H'->Rel K A ρ' σ H'->H ea=none->XR K (OO A ρ' σ) H' ea dd d->Eo (.ref ea) dd H')->te σ H Q'
def sw (E:D->Prop) (c:FX) (pr:PTA):PTE:=fun ρ Q=>pr ρ fun as ρ1=>match avD as with
 | some ds=>c ds (fun r=>Q r ρ1) E
 | none=>False
section
variable {K:PySem.W.Frag}{E:D->Prop}{Eo:XK}{fs:List Nat}{ta:TA}{pa:PTA}{c:FX}{te:TE}{pe:PTE}{g:TG}{pg:PTG}
theorem nS (h:LAs K ta pa):LEX K E Eo (su (spX K c) (fun _=>Eo) ta) (sw E c pa):=fun A ρ σ H Q Q' R q k kx=>h A ρ σ H _ _ R q fun vs H1 as ρ1 q1 f1 R1 o1=>by
 split at q1
 .rename_i ds e
  refine ⟨OO A ρ1 σ,ds,_,_,R1.dom2,o1.avD e,q1,fun r qr v H' g ov=>k v H' r ρ1 qr (f1.trans g.fr) ((ov.out R1 g).h0 f1.dm),fun d z ea dd H' g n x=>kx ρ1 H' ea dd d z (f1.trans g.fr) (R1.gr g) ?_ x⟩
  cases e0:H ea with
  | none=>rfl
  | some o=>exact absurd n (f1.dm ea (by rw [e0];exact nofun))
 .exact q1.elim
theorem qR (h:LEX K E Eo te pe):LSX K E Eo fs (wO te) (eH pe):=fun fx A R H0 ρ σ H D D' hf r F q k1 k2 k3 k4 k5=>h A ρ σ H _ _ r q (fun v H1 p ρ1 q1 f1 o1=>k1 _ _ _ q1 o1.frz.1 (F.fr f1)) fun ρ' H' ea dd d z f R1 n x=>k5 ρ' σ H' ea dd d z R1 (F.fr f) (F.nn n) x
end
section
variable {X:Cx}{st:Stmt}{t:TS}
theorem PS.nox (h:PS X.nox st t):PS X st t:=fun pins s σ H D I hw =>
 wpAny_mono (h pins s σ H D (I.wish _) hw) (fun f s' hs=>by
  cases f with
  | next=>obtain ⟨σ',H',J,q⟩:=hs;exact ⟨σ',H',J.unwish,q⟩
  | brk=>obtain ⟨σ',H',J,q⟩:=hs;exact ⟨σ',H',J.unwish,q⟩
  | cont=>obtain ⟨σ',H',J,q⟩:=hs;exact ⟨σ',H',J.unwish,q⟩
  | ret u=>obtain ⟨v,σ',H',J,r,q⟩:=hs;exact ⟨v,σ',H',J.unwish,r,q⟩) fun _ _ z=>z.elim
end
section
variable {P:Program}{w:World}{K:PySem.W.Frag}{mg:Str->Option Value}{base:Heap}{x:Str}{st:Stmt}{N ps:List Str}{k:Nat}{sp:Sp}
theorem cA.okE (D:cA K mg x st) (S:aK N ps (ap st))
  (hb:∀(kV doc pm:Value) (an:Option Addr) (cdv ct:Value) (us:List Value),us.length=ps.length->bindArgs (PySem.W.fnOf x x (bP st) (bv st) (ap st) .none kV doc pm an cdv ct) ⟨us,[]⟩=pure (ps.zip us))
  (len:∀vs H Q E,sp vs H Q E->vs.length=ps.length)
  (hbody:∀(f:Addr) (cdv:Value) (A:Around) (outer:List Env) (s:Shared) (H:Hp) (vs:List V) (Q:VK) (E:XK),gj k (A.deeper (envOfC x (ap st) s.heap.objs.size f cdv))->sp vs H Q E ->
   ∃t,PSs (oz (CXe P w) P w K mg base N x (ap st) f cdv A outer s H E) (bv st) t/\t { nx:=fun _ H'=>Q .non H',rt:=Q } (start N vs) H):oE P w K mg base (k + 1) x ps sp:=by
 obtain ⟨f,fd,F,hm⟩:=D.ex
 refine ⟨f,fd,?_,F.binds hb,F.kp,hm⟩
 obtain ⟨oc,od,kV,doc,pm,an,cdv,ct,osl,rfl,lk,hcd⟩:=F.ex
 exact zF lk hcd S len fun A outer s H vs Q E hr hsp=>hbody f cdv A outer s H vs Q E hr hsp
end
theorem px0 {P:Program}{w:World}{X:Cx}:PX (CXe P w) X (fun _=>E0):=fun pins σ H s e s' I h=>by
 obtain ⟨_,_,_,_,_,_,_,_,_,_,_,_,_,_,z⟩:=h
 exact z.elim
abbrev yf (pp:(D->Prop)->PTS) (n:Nat) (ds:List D) (Q:PV->Prop) (E:D->Prop):Prop:=pp E { nx:=fun _=>Q (.dat .non),rt:=fun p _=>Q p } (c9 n (ds.map .dat))
section
variable {K:PySem.W.Frag}{ts:TS}{ps:(D->Prop)->PTS}
theorem Ds {c:FX}{n:Nat} (hn:∀ds Q E,c ds Q E->ds.length=n) {vs:List V}{H:Hp}{Q:VK}{E:XK} (h:spX K c vs H Q E):vs.length=n:=by
 obtain ⟨O,ds,Qc,Ec,_,fv,hq,_⟩:=h
 rw [fv.length]
 exact hn ds Qc Ec hq
theorem Dt {c:FX}{N:List Str}{vs:List V}{H:Hp}{Q:VK}{E:XK} (hl:∀Ec,LSX K Ec E [] ts (ps Ec)) (hn:∀ds Q E,c ds Q E->ds.length<=N.length) (hc:∀ds Q E,c ds Q E->yf ps N.length ds Q E)
  (h:spX K c vs H Q E):ts { nx:=fun _ H'=>Q .non H',rt:=Q } (start N vs) H:=by
 obtain ⟨O,ds,Qc,Ec,dom,fv,hq,k,kx⟩:=h
 have nw:∀(ρ:PSt) (b:Addr),ρ=c9 N.length (ds.map .dat)->¬ Wr ρ (start N vs) b:=fun ρ b e ⟨i,p,e1,o1,s1⟩=>by
  rw [e] at e1
  have:=dq e1
  rw [List.getElem?_map] at this
  cases e2:ds[i]? with
  | none=>rw [e2] at this;cases this
  | some d=>rw [e2] at this;cases this;cases o1
 have lenv:=fv.length
 have hle:=hn ds Qc Ec hq
 have R0:Rel K O (c9 N.length (ds.map .dat)) (start N vs) H:=by
  refine ⟨?_,fun i p e=>?_,fun i j p q v e1 e2 o1 o2 s1 s2=>?_,dom,fun b _ w=>nw _ b rfl w⟩
  .unfold c9 start
   rw [List.length_append,List.length_append,List.length_map,List.length_map,List.length_map,List.length_replicate,List.length_replicate,lenv]
  .have:=dq e
   rw [List.getElem?_map] at this
   cases e2:ds[i]? with
   | none=>rw [e2] at this;cases this
   | some d =>
    rw [e2] at this;cases this
    obtain ⟨v,hv,f⟩:=fv.getD e2
    exact ⟨v,jg hv,f.keeps (aZ.less fun b z=>z.elim id fun w=>absurd w (nw _ b rfl))⟩
  .have:=dq e1
   rw [List.getElem?_map] at this
   cases e3:ds[i]? with
   | none=>rw [e3] at this;cases this
   | some d=>rw [e3] at this;cases this;cases o1
 refine hl Ec [] O (fun _=>False) H _ _ H _ _ rfl R0 ⟨fun _ _ _ h=>h,fun _ h=>h,fun b w=>absurd w (nw _ b rfl),fun p hp=>nomatch hp⟩ (hc ds Qc Ec hq) (fun ρ' σ' H' q r F=>?_) (fun v p ρ' σ' H' q o F=>?_) (fun _ _ _ z=>z.elim) (fun _ _ _ z=>z.elim) (fun ρ' σ' H' ea dd d q r F n x=>?_)
 .exact k _ q .non H' (fun b o e=>F.kp b o id e) .non
 .exact k _ q v H' (fun b o e=>F.kp b o id e) o.outV
 .exact kx d q ea dd H' (fun b o e=>F.kp b o id e) n (x.keeps (aZ.less fun b z=>.inl z))
end
theorem y6 {X:Cx}{c0 cn n:Str}{np pos:Pos}{b0:Stmt}{suite:List Stmt}{rest:List ExceptHandler}{ts:TS}{tr:THd} (i:Nat) (K:PySem.W.Frag) (ek:X.K=K) (hx:XD K (aP K c0)) (hm:X.mg cn=some (.ref (aP K c0))) (hN:X.N.Nodup) (hi:X.N[i]?=some n) (hk:X.env.scope.names.lookup n=some .local) (hs:∀e,PSs (X.mk' e).nox (b0::suite) ts) (hr:PH X rest tr)
  (hg:Gl X cn:=by rfl) (hdb:(cn == ("__debug__":Str))=false:=by decide):PH X (.ExceptHandler (some (.Name cn np)) (some n) (b0::suite) pos::rest) (hAs K (aP K c0) i ts tr):=Ez K ek hx hm hN hi hk hs hr hg hdb
theorem wb (d:D):(PV.dat d).d=d:=rfl
theorem wc (ds:List D):(PV.own ds).d=.lst ds:=rfl
theorem wd (c:Str) (ns:List Str) (ds:List D):(PV.ins c ns ds).d=.obj c ns ds:=rfl
theorem CY (ds:List D):mkL false ds=.own ds:=rfl
theorem CZ (ds:List D):mkL true ds=.dat (.tup ds):=rfl
def pkm (ρ:PSt) (j:Nat):Option PV:=match ρ[j]? with
 | some v=>v
 | none=>none
theorem sx (v:Option PV) (r:PSt):pkm (v::r) 0=v:=rfl
theorem sy (v:Option PV) (r:PSt) (n:Nat):pkm (v::r) (n + 1)=pkm r n:=rfl
theorem pS (ρ:PSt):cC [] ρ=[]:=rfl
theorem mD (ix:List (Option Nat)) (ρ:PSt):cC (none::ix) ρ=none::cC ix ρ:=rfl
theorem mE (j:Nat) (ix:List (Option Nat)) (ρ:PSt):cC (some j::ix) ρ=pkm ρ j::cC ix ρ:=rfl
theorem pT (j:Nat) (ix:List (Option Nat)) (ρ:PSt) (t:Option PV) (τ:PSt):fE (some j::ix) ρ (t::τ)=fE ix (ρ.set j t) τ:=rfl
theorem pU (ix:List (Option Nat)) (ρ:PSt) (t:Option PV) (τ:PSt):fE (none::ix) ρ (t::τ)=fE ix ρ τ:=rfl
theorem sA (ρ τ:PSt):fE [] ρ τ=ρ:=rfl
def Bo (pe:PTE):PTE:=fun ρ Q=>pe ρ fun p ρ1=>Q (.dat p.d) ρ1
theorem pV {K:PySem.W.Frag}{ta:TE}{pe:PTE} (h:LE K ta pe):LE K ta (Bo pe):=fun A ρ σ H Q Q' R q k=>h A ρ σ H _ Q' R q fun v H' p ρ' q f o=>k v H' (.dat p.d) ρ' q f o.frz
theorem jB {α:Type}{e:α->D}{xs:List α}{k:Nat} (h:k < xs.length):itD (xs.map e) k=e xs[k]:=ik (by rw [List.getElem?_map,List.getElem?_eq_getElem h];rfl)
theorem wf {α β:Type} (f:α->β) (xs:List α) (g:Nat->β) (h:∀k (hk:k < xs.length),g k=f xs[k]):(List.range xs.length).map g=xs.map f:=by
 apply List.ext_getElem?
 intro i
 rw [List.getElem?_map,List.getElem?_map]
 by_cases hi:i < xs.length
 .rw [List.getElem?_range hi,List.getElem?_eq_getElem hi]
  exact congrArg some (h i hi)
 .rw [List.getElem?_eq_none (by rw [List.length_range];omega),List.getElem?_eq_none (by omega)];rfl
section
variable {α:Type}{e:α->D}{xs:List α}{ix:List (Option Nat)}{ρ1:PSt}{g:PTG}{pt:PTT}{pe:PTE}{Q:PKt}
theorem Fk (T:PSt->Prop) (f:α->Option D) (h0:T (cC ix ρ1))
  (hs:∀x∈xs,∀τ,T τ->∀(K1:D->PSt->Prop) (K2:PSt->Prop),(∀d τ',f x=some d->T τ'->K1 d τ')->(∀τ',f x=none->T τ'->K2 τ')->g (.dat (e x)) τ fun τ2=>pt τ2 fun ok τ3=>iW ok (pe τ3 fun p τ4=>K1 p.d τ4) (K2 τ3))
  (hq:∀τ,T τ->Q (.own (xs.filterMap f)) (fE ix ρ1 τ)):nA ix ρ1 (xs.map e).length (itD (xs.map e)) g pt pe Q:=by
 refine cfm T (fun k=>(xs[k]?).bind f) h0 (fun k τ d hk ed t K1 K2 k1 k2=>?_) fun τ t=>?_
 .rw [List.length_map] at hk
  rw [jB hk] at ed
  subst ed
  have eg:(xs[k]?).bind f=f xs[k]:=by rw [List.getElem?_eq_getElem hk];rfl
  rw [eg] at k1 k2
  exact hs _ (List.getElem_mem hk) τ t K1 K2 k1 k2
 .have e1:(List.range (xs.map e).length).filterMap (fun k=>(xs[k]?).bind f)=xs.filterMap f:=by
   rw [List.length_map]
   have h1:(List.range xs.length).map (fun k=>(xs[k]?).bind f)=xs.map f:=wf f xs _ fun k hk=>by rw [List.getElem?_eq_getElem hk];rfl
   have h2:∀l:List Nat,l.filterMap (fun k=>(xs[k]?).bind f)=(l.map fun k=>(xs[k]?).bind f).filterMap id:=fun l=>by rw [List.filterMap_map];rfl
   rw [h2,h1,List.filterMap_map];rfl
  rw [e1];exact hq τ t
theorem EF (T:PSt->Prop) (f:α->D) (h0:T (cC ix ρ1))
  (hs:∀x∈xs,∀τ,T τ->∀K1:D->PSt->Prop,(∀τ',T τ'->K1 (f x) τ')->g (.dat (e x)) τ fun τ2=>pe τ2 fun p τ4=>K1 p.d τ4)
  (hq:∀τ,T τ->Q (.own (xs.map f)) (fE ix ρ1 τ)):nA ix ρ1 (xs.map e).length (itD (xs.map e)) g pA pe Q:=by
 refine Fk T (fun x=>some (f x)) h0 (fun x hx τ t K1 K2 k1 k2=>?_) fun τ t=>?_
 .exact hs x hx τ t K1 fun τ' t'=>k1 _ τ' rfl t'
 .rw [show xs.filterMap (fun x=>some (f x))=xs.map f by rw [<- List.filterMap_eq_map];rfl];exact hq τ t
theorem EG {β:Type} (p:α->Bool) (f:α->β):∀xs:List α,xs.filterMap (fun x=>if p x=true then some (f x) else none)=(xs.filter p).map f:=dw p f
theorem cfX (T:PSt->Prop) (p:α->Bool) (f:α->D) (h0:T (cC ix ρ1))
  (hs:∀x∈xs,∀τ,T τ->∀(K1:D->PSt->Prop) (K2:PSt->Prop),(∀τ',p x=true->T τ'->K1 (f x) τ')->(∀τ',p x=false->T τ'->K2 τ')->g (.dat (e x)) τ fun τ2=>pt τ2 fun ok τ3=>iW ok (pe τ3 fun p τ4=>K1 p.d τ4) (K2 τ3))
  (hq:∀τ,T τ->Q (.own ((xs.filter p).map f)) (fE ix ρ1 τ)):nA ix ρ1 (xs.map e).length (itD (xs.map e)) g pt pe Q:=by
 refine Fk T (fun x=>if p x=true then some (f x) else none) h0 (fun x hx τ t K1 K2 k1 k2=>hs x hx τ t K1 K2 (fun τ' h t'=>k1 _ τ' (by rw [if_pos h]) t') fun τ' h t'=>k2 τ' (by rw [if_neg (by rw [h];decide)]) t') fun τ t=>?_
 rw [EG];exact hq τ t
theorem cm1 (f:α->D)
  (hs:∀x∈xs,∀(v:Option PV) (K1:D->PSt->Prop),(∀v',K1 (f x) (v'::(cC ix ρ1).tail))->g (.dat (e x)) (v::(cC ix ρ1).tail) fun τ2=>pe τ2 fun p τ4=>K1 p.d τ4)
  (hq:∀v:Option PV,Q (.own (xs.map f)) (fE ix ρ1 (v::(cC ix ρ1).tail))) (hx:cC ix ρ1=none::(cC ix ρ1).tail:=by rfl):nA ix ρ1 (xs.map e).length (itD (xs.map e)) g pA pe Q:=by
 refine EF (fun τ=>∃v,τ=v::(cC ix ρ1).tail) f ⟨none,hx⟩ ?_ ?_
 .rintro x hx τ ⟨v,rfl⟩ K1 k1
  exact hs x hx v K1 fun v'=>k1 _ ⟨v',rfl⟩
 .rintro τ ⟨v,rfl⟩
  exact hq v
theorem cf1 (p:α->Bool) (f:α->D)
  (hs:∀x∈xs,∀(v:Option PV) (K1:D->PSt->Prop) (K2:PSt->Prop),(∀v',p x=true->K1 (f x) (v'::(cC ix ρ1).tail))->(∀v',p x=false->K2 (v'::(cC ix ρ1).tail))->g (.dat (e x)) (v::(cC ix ρ1).tail) fun τ2=>pt τ2 fun ok τ3=>iW ok (pe τ3 fun p τ4=>K1 p.d τ4) (K2 τ3))
  (hq:∀v:Option PV,Q (.own ((xs.filter p).map f)) (fE ix ρ1 (v::(cC ix ρ1).tail))) (hx:cC ix ρ1=none::(cC ix ρ1).tail:=by rfl):nA ix ρ1 (xs.map e).length (itD (xs.map e)) g pt pe Q:=by
 refine cfX (fun τ=>∃v,τ=v::(cC ix ρ1).tail) p f ⟨none,hx⟩ ?_ ?_
 .rintro x hx τ ⟨v,rfl⟩ K1 K2 k1 k2
  exact hs x hx v K1 K2 (fun v' h=>k1 _ h ⟨v',rfl⟩) fun v' h=>k2 _ h ⟨v',rfl⟩
 .rintro τ ⟨v,rfl⟩
  exact hq v
end
section
variable {α:Type}{e:α->D}{xs:List α}{ρ1:PSt}{g:PTG}{pb:PTS}{nx bk:PSt->Prop}{rt:PV->PSt->Prop}
theorem FJ {it:Nat->D} (J:List α->PSt->Prop) (h0:J [] ρ1)
  (hs:∀pre x suf ρ,xs=pre++x::suf->J pre ρ->g (.dat (.tup [.int (pre.length:Int),e x])) ρ fun ρ2=>pb { nx:=J (pre++[x]),rt:=rt,bk:=bk,ct:=J (pre++[x]) } ρ2) (hq:∀ρ,J xs ρ->nx ρ)
  (hit:∀k,it k=.tup [.int (k:Int),itD (xs.map e) k]:=by intro k;rfl) :
  ∃I:Nat->PSt->Prop,I 0 ρ1/\(∀k ρ d,k < (xs.map e).length->d=it k->I k ρ->g (.dat d) ρ fun ρ2=>pb { nx:=I (k + 1),rt:=rt,bk:=bk,ct:=I (k + 1) } ρ2)/\∀ρ,I (xs.map e).length ρ->nx ρ:=by
 refine ⟨fun k ρ=>J (xs.take k) ρ,by show J (xs.take 0) ρ1;rw [List.take_zero];exact h0,fun k ρ d hk ed hJ=>?_,fun ρ h=>hq ρ (by have h:J (xs.take (xs.map e).length) ρ:=h;rw [List.length_map,List.take_length] at h;exact h)⟩
 rw [List.length_map] at hk
 rw [hit,jB hk] at ed
 subst ed
 have ht:xs.take (k + 1)=xs.take k++[xs[k]]:=by rw [List.take_succ,List.getElem?_eq_getElem hk];rfl
 show g _ ρ fun ρ2=>pb { nx:=J (xs.take (k + 1)),rt:=rt,bk:=bk,ct:=J (xs.take (k + 1)) } ρ2
 rw [ht]
 have hl:(xs.take k).length=k:=by rw [List.length_take];omega
 have:=hs (xs.take k) xs[k] (xs.drop (k + 1)) ρ (by rw [List.getElem_cons_drop,List.take_append_drop]) hJ
 rw [hl] at this
 exact this
end
theorem kQ {α:Type} (f:α->Int) (xs:List α):xs.map (fun x=>D.int (f x))=(xs.map f).map D.int:=by rw [List.map_map];rfl
theorem qS {α:Type} (f:α->List Nat) (xs:List α):xs.map (fun x=>D.str (f x))=(xs.map f).map D.str:=by rw [List.map_map];rfl
theorem yg {a b t:List Nat}{k:Nat} (h:pM a b k) (ht:a <:+ t):b <:+ t++b.drop k:=by
 obtain ⟨u,hu⟩:=List.IsSuffix.trans h.2.1 ht
 refine ⟨u,?_⟩
 rw [<- hu,List.append_assoc,List.take_append_drop]
theorem wg {α β:Type} (f:α->β) (xs:List α) (i:Nat):(xs.map f).eraseIdx i=(xs.eraseIdx i).map f:=by
 rw [List.eraseIdx_eq_take_drop_succ,List.eraseIdx_eq_take_drop_succ,List.map_append,List.map_take,List.map_drop]
theorem wj {α:Type}{js:List α}{i:Nat} (h:i < js.length):(js.eraseIdx i++[js[i]]).Perm js:=by
 rw [List.eraseIdx_eq_take_drop_succ,List.append_assoc]
 have e:js=js.take i++(js[i]::js.drop (i + 1)):=by rw [List.getElem_cons_drop,List.take_append_drop]
 conv=>rhs;rw [e]
 exact List.Perm.append_left _ (List.perm_append_singleton _ _)
theorem y8 {n i:Nat} (h:i < n):ixN n (i:Int)=some i:=by
 unfold ixN
 rw [if_pos (by omega),if_pos (by omega),Int.toNat_natCast]
theorem wk {α:Type}{P:List α->Prop} (h0:P []) (h1:∀l a,P l->P (l++[a])) (l:List α):P l:=by
 have go:∀r:List α,P r.reverse:=fun r=>by
  induction r with
  | nil=>exact h0
  | cons a r ih=>rw [List.reverse_cons];exact h1 _ _ ih
 have:=go l.reverse
 rwa [List.reverse_reverse] at this
def glT (ws:List (List Nat)):Nat->List Nat->List Nat
 | _,[]=>[]
 | i,j::r=>(pw ws j).drop (f9 (pw ws i) (pw ws j))++glT ws j r
def glN (ws:List (List Nat)):List Nat->List Nat
 | []=>[]
 | j::r=>pw ws j++glT ws j r
def y9 (ws:List (List Nat)):Nat->List Nat->Nat
 | _,[]=>0
 | i,j::r=>f9 (pw ws i) (pw ws j) + y9 ws j r
def Du (ws:List (List Nat)):List Nat->Nat
 | []=>0
 | j::r=>y9 ws j r
theorem sB (ws:List (List Nat)) (j:Nat):∀(i:Nat) (r:List Nat) (l:Nat),glT ws i (r++[l]++[j])=glT ws i (r++[l])++(pw ws j).drop (f9 (pw ws l) (pw ws j))
 | i,[],l=>by
  show (pw ws l).drop _++((pw ws j).drop _++[])=(pw ws l).drop _++[]++_
  rw [List.append_nil,List.append_nil]
 | i,a::r,l=>by
  show (pw ws a).drop _++glT ws a (r++[l]++[j])=(pw ws a).drop _++glT ws a (r++[l])++_
  rw [sB ws j a r l,List.append_assoc]
theorem ka (ws:List (List Nat)) (pre:List Nat) (l j:Nat):glN ws (pre++[l]++[j])=glN ws (pre++[l])++(pw ws j).drop (f9 (pw ws l) (pw ws j)):=by
 cases pre with
 | nil=>show pw ws l++((pw ws j).drop _++[])=pw ws l++[]++_;rw [List.append_nil,List.append_nil]
 | cons a r =>
  show pw ws a++glT ws a (r++[l]++[j])=pw ws a++glT ws a (r++[l])++_
  rw [sB,List.append_assoc]
theorem wl {ws:List (List Nat)}:∀{i:Nat}{r:List Nat},0 < (pw ws i).length->(∀j∈r,0 < (pw ws j).length)->(glT ws i r).length + y9 ws i r=(r.map fun j=>(pw ws j).length).sum
 | i,[],_,_=>rfl
 | i,j::r,hi,h=>by
  have hj:=h j (List.mem_cons_self ..)
  have ih:=wl (i:=j) (r:=r) hj fun k hk=>h k (List.mem_cons_of_mem _ hk)
  have hl:=(nJ hi hj).1
  show ((pw ws j).drop _++glT ws j r).length + (f9 _ _ + y9 ws j r)=_
  rw [List.length_append,List.length_drop,List.map_cons,List.sum_cons,<- ih]
  omega
theorem AX {ws:List (List Nat)}{js:List Nat} (h:∀j∈js,0 < (pw ws j).length):(glN ws js).length + Du ws js=(js.map fun j=>(pw ws j).length).sum:=by
 cases js with
 | nil=>rfl
 | cons j r =>
  have:=wl (h j (List.mem_cons_self ..)) fun k hk=>h k (List.mem_cons_of_mem _ hk)
  show (pw ws j++glT ws j r).length + y9 ws j r=_
  rw [List.length_append,List.map_cons,List.sum_cons,<- this]
  omega
theorem AY {ws:List (List Nat)}:∀{pre:List Nat}{l:Nat},(∀j∈pre++[l],0 < (pw ws j).length)->pw ws l <:+ glN ws (pre++[l]):=fun {pre}=>by
 induction pre using wk with
 | h0=>intro l _;exact ⟨[],by show pw ws l=pw ws l++[];rw [List.append_nil]⟩
 | h1 pre a ih =>
  intro l h
  rw [ka]
  have ha:=h a (by simp)
  have hl:=h l (by simp)
  exact yg (nJ ha hl) (ih fun j hj=>h j (List.mem_append_left _ hj))
theorem AZ {ws:List (List Nat)} (pre suf:List Nat):glN ws pre <+: glN ws (pre++suf):=by
 induction suf using wk with
 | h0=>rw [List.append_nil];exact List.prefix_refl _
 | h1 suf a ih =>
  rw [<- List.append_assoc]
  rcases List.eq_nil_or_concat (pre++suf) with e | ⟨r,l,e⟩
  .have:pre=[]:=(List.append_eq_nil_iff.mp e).1
   rw [this];exact List.nil_prefix
  .rw [List.concat_eq_append] at e
   rw [e] at ih ⊢
   rw [ka]
   exact ih.trans (List.prefix_append _ _)
theorem EH {α β:Type} (f:α->β) (xs:List α):eW (xs.map f) (some 1) none=(xs.tail).map f:=by
 rw [show (1:Int)=((1:Nat):Int) from rfl,fj,<- List.map_drop,List.drop_one]
theorem EI {α β:Type} (f:α->β) (xs:List α):eW (xs.map f) none (some 1)=(xs.take 1).map f:=by
 rw [show (1:Int)=((1:Nat):Int) from rfl,iK,<- List.map_take]
section
variable {α β:Type}{e:α->D}{e':β->D}{xs:List α}{ys:List β}{ρ1:PSt}{g:PTG}{pb:PTS}{nx bk:PSt->Prop}{rt:PV->PSt->Prop}
theorem Fm {it:Nat->D}{n:Nat} (J:List α->PSt->Prop) (h0:J (xs.take 1) ρ1)
  (hs:∀pre a b suf ρ,xs=pre++a::b::suf->J (pre++[a]) ρ->g (.dat (.tup [e a,e b])) ρ fun ρ2=>pb { nx:=J (pre++[a]++[b]),rt:=rt,bk:=bk,ct:=J (pre++[a]++[b]) } ρ2) (hq:∀ρ,J xs ρ->nx ρ)
  (hn:n=min (xs.map e).length (xs.tail.map e).length:=by rfl) (hit:∀k,it k=.tup [itD (xs.map e) k,itD (xs.tail.map e) k]:=by intro k;rfl) :
  ∃I:Nat->PSt->Prop,I 0 ρ1/\(∀k ρ d,k < n->d=it k->I k ρ->g (.dat d) ρ fun ρ2=>pb { nx:=I (k + 1),rt:=rt,bk:=bk,ct:=I (k + 1) } ρ2)/\∀ρ,I n ρ->nx ρ:=by
 rw [List.length_map,List.length_map,List.length_tail] at hn
 refine ⟨fun k ρ=>J (xs.take (k + 1)) ρ,h0,fun k ρ d hk ed hJ=>?_,fun ρ h=>hq ρ ?_⟩
 .have k1:k + 1 < xs.length:=by omega
  have k0:k < xs.length:=by omega
  rw [hit,jB k0,jB (by rw [List.length_tail];omega),List.getElem_tail] at ed
  subst ed
  have t1:xs.take (k + 1)=xs.take k++[xs[k]]:=by rw [List.take_succ,List.getElem?_eq_getElem k0];rfl
  have t2:xs.take (k + 1 + 1)=xs.take k++[xs[k]]++[xs[k + 1]]:=by rw [List.take_succ,List.getElem?_eq_getElem k1,t1];rfl
  show g _ ρ fun ρ2=>pb { nx:=J (xs.take (k + 1 + 1)),rt:=rt,bk:=bk,ct:=J (xs.take (k + 1 + 1)) } ρ2
  rw [t2]
  refine hs _ _ _ (xs.drop (k + 1 + 1)) ρ ?_ (by rw [<- t1];exact hJ)
  rw [List.getElem_cons_drop,List.getElem_cons_drop,List.take_append_drop]
 .have h:J (xs.take (n + 1)) ρ:=h
  rw [List.take_of_length_le (by omega)] at h
  exact h
end
section
variable {α β:Type}{e:α->D}{e':β->D}{xs:List α}{ys:List β}{ix:List (Option Nat)}{ρ1:PSt}{g:PTG}{pt:PTT}{pe:PTE}{Q:PKt}
theorem wm {γ:Type} (f:α->β->γ) (xs:List α) (ys:List β) (h:Nat->γ) (hh:∀k (h1:k < xs.length) (h2:k < ys.length),h k=f xs[k] ys[k]):(List.range (min xs.length ys.length)).map h=(xs.zip ys).map fun p=>f p.1 p.2:=by
 apply List.ext_getElem?
 intro i
 rw [List.getElem?_map,List.getElem?_map]
 by_cases hi:i < min xs.length ys.length
 .have h1:i < xs.length:=by omega
  have h2:i < ys.length:=by omega
  rw [List.getElem?_range hi,List.getElem?_eq_getElem (by rw [List.length_zip];exact hi),List.getElem_zip]
  exact congrArg some (hh i h1 h2)
 .rw [List.getElem?_eq_none (by rw [List.length_range];omega),List.getElem?_eq_none (by rw [List.length_zip];omega)];rfl
theorem cmZ {it:Nat->D}{n:Nat} (f:α->β->D)
  (hs:∀a b,(a,b)∈xs.zip ys->∀(v w:Option PV) (K1:D->PSt->Prop),(∀v' w',K1 (f a b) (v'::w'::(cC ix ρ1).tail.tail))->g (.dat (.tup [e a,e' b])) (v::w::(cC ix ρ1).tail.tail) fun τ2=>pe τ2 fun p τ4=>K1 p.d τ4)
  (hq:∀v w:Option PV,Q (.own ((xs.zip ys).map fun p=>f p.1 p.2)) (fE ix ρ1 (v::w::(cC ix ρ1).tail.tail))) (hx:cC ix ρ1=none::none::(cC ix ρ1).tail.tail:=by rfl)
  (hn:n=min (xs.map e).length (ys.map e').length:=by rfl) (hit:∀k,it k=.tup [itD (xs.map e) k,itD (ys.map e') k]:=by intro k;rfl):nA ix ρ1 n it g pA pe Q:=by
 rw [List.length_map,List.length_map] at hn
 subst hn
 by_cases h0:0 < min xs.length ys.length
 .have ga:∀k,k < min xs.length ys.length->∃h1:k < xs.length,∃h2:k < ys.length,it k=.tup [e xs[k],e' ys[k]]:=fun k hk=>⟨by omega,by omega,by rw [hit,jB (by omega),jB (by omega)]⟩
  have hx0:0 < xs.length:=by omega
  have hy0:0 < ys.length:=by omega
  refine tZ (fun τ=>∃v w,τ=v::w::(cC ix ρ1).tail.tail) (fun k=>f (xs.getD k xs[0]) (ys.getD k ys[0])) ⟨none,none,hx⟩ ?_ ?_
  .rintro k τ d hk rfl ⟨v,w,rfl⟩ K1 k1
   obtain ⟨h1,h2,ek⟩:=ga k hk
   rw [ek]
   have g1:xs.getD k xs[0]=xs[k]:=by rw [List.getD_eq_getElem?_getD,List.getElem?_eq_getElem h1];rfl
   have g2:ys.getD k ys[0]=ys[k]:=by rw [List.getD_eq_getElem?_getD,List.getElem?_eq_getElem h2];rfl
   rw [g1,g2] at k1
   refine hs _ _ ?_ v w K1 fun v' w'=>k1 _ ⟨v',w',rfl⟩
   refine List.mem_iff_getElem.mpr ⟨k,by rw [List.length_zip];exact hk,by rw [List.getElem_zip]⟩
  .rintro τ ⟨v,w,rfl⟩
   rw [wm f xs ys _ fun k h1 h2=>by rw [List.getD_eq_getElem?_getD,List.getElem?_eq_getElem h1,List.getD_eq_getElem?_getD,List.getElem?_eq_getElem h2];rfl]
   exact hq v w
 .refine tZ (fun τ=>∃v w,τ=v::w::(cC ix ρ1).tail.tail) (fun _=>.non) ⟨none,none,hx⟩ (fun k τ d hk=>by omega) ?_
  rintro τ ⟨v,w,rfl⟩
  have e1:min xs.length ys.length=0:=by omega
  have e2:xs.zip ys=[]:=List.length_eq_zero_iff.mp (by rw [List.length_zip];exact e1)
  have:=hq v w
  rw [e2] at this
  rw [e1]
  exact this
end
theorem wn (ws:List (List Nat)):∀js:List Nat,((js.zip js.tail).map fun p=>(f9 (pw ws p.1) (pw ws p.2):Int)).sum=(Du ws js:Int)
 | []=>rfl
 | [j]=>rfl
 | i::j::r=>by
  have ih:=wn ws (j::r)
  show (((i,j)::((j::r).zip r)).map _).sum=((f9 (pw ws i) (pw ws j) + y9 ws j r:Nat):Int)
  rw [List.map_cons,List.sum_cons]
  have ih:(((j::r).zip r).map fun p=>(f9 (pw ws p.1) (pw ws p.2):Int)).sum=(y9 ws j r:Int):=ih
  rw [ih]
  show (f9 (pw ws i) (pw ws j):Int) + (y9 ws j r:Int)=_
  omega
theorem wo (a b:List Nat):(!(Builtin.Str.occurrences (S b) (S a) 0 (S b).length 1).isEmpty)=gq a b:=by
 have e:=uP b a 0
 unfold gq
 rw [<- e]
 cases Builtin.Str.occurrences (S b) (S a) 0 (S b).length 1 with
 | nil=>rfl
 | cons k r=>exact (decide_eq_true (by omega:(0:Int)<=(k:Int))).symm
section
variable {X:Cx}{K:PySem.W.Frag}
def EJ (neg:Bool):R2:=fun x y H Q=>∃a b,x=.str (S a)/\y=.str (S b)/\Q (.bl (if neg then !gq a b else gq a b)) H
theorem C1:OpR X (compareOp .In) (EJ false):=by
 intro pins s σ H x y v u Q I rx ry h
 obtain ⟨a,b,rfl,rfl,q⟩:=h
 obtain ⟨t,rfl⟩:=rx
 obtain ⟨t',rfl⟩:=ry
 exact P.in_str ⟨.bl _,H,I,rfl,by rw [wo];exact q⟩
theorem wp:OpR X (compareOp .NotIn) (EJ true):=by
 intro pins s σ H x y v u Q I rx ry h
 obtain ⟨a,b,rfl,rfl,q⟩:=h
 obtain ⟨t,rfl⟩:=rx
 obtain ⟨t',rfl⟩:=ry
 exact P.notIn_str ⟨.bl _,H,I,rfl,by rw [wo];exact q⟩
def C3 (K:PySem.W.Frag) (neg:Bool):R2:=fun x y H Q=>rIn K neg x y H Q\/EJ neg x y H Q
theorem EK (K:PySem.W.Frag) (e:X.K=K):OpR X (compareOp .In) (C3 K false):=OpR.or (FD K e) C1
theorem nU (K:PySem.W.Frag) (e:X.K=K):OpR X (compareOp .NotIn) (C3 K true):=OpR.or (Aj K e) wp
def Bp (neg:Bool):F2
 | .str a,.str b,Q=>Q (.dat (.bl (if neg then !gq a b else gq a b)))
 | a,.lst ds,Q=>(a.fl=true/\ds.all D.fl=true)/\Q (.dat (.bl (if neg then !inD a ds else inD a ds)))
 | a,.tup ds,Q=>(a.fl=true/\ds.all D.fl=true)/\Q (.dat (.bl (if neg then !inD a ds else inD a ds)))
 | _,_,_=>False
theorem sC {neg:Bool}:LO K (C3 K neg) (Bp neg):=by
 intro O H x y a b Q Q' dom fx fy q k
 unfold Bp at q
 split at q
 .obtain ⟨rfl,_⟩:=fx.str
  obtain ⟨rfl,_⟩:=fy.str
  exact .inr ⟨_,_,rfl,rfl,k _ H _ q (Gr.refl _) (.bl _)⟩
 .exact .inl (Cp O H x y _ _ Q Q' dom fx fy q k)
 .exact .inl (Cp O H x y _ _ Q Q' dom fx fy q k)
 .exact q.elim
end
theorem nV {ws:List (List Nat)}{js:List Nat}{k:Nat} (h:k < js.length):glN ws (js.take (k + 1))=glN ws (js.take k)++(pw ws (js.getD k 0)).drop (if k=0 then 0 else f9 (pw ws (js.getD (k - 1) 0)) (pw ws (js.getD k 0))):=by
 have t1:js.take (k + 1)=js.take k++[js.getD k 0]:=pG h
 by_cases e:k=0
 .subst e
  rw [if_pos rfl,t1,List.take_zero,List.drop_zero]
  show pw ws _++[]=[]++pw ws _
  rw [List.append_nil,List.nil_append]
 .have t0:js.take k=js.take (k - 1)++[js.getD (k - 1) 0]:=by
   have:=pG (l:=js) (k:=k - 1) (by omega)
   rwa [show k - 1 + 1=k by omega] at this
  rw [if_neg e,t1,t0,ka]
section
variable {X:Cx}{K:PySem.W.Frag}{ta te:TE}{pa:PA1}{pe:PTE}
def LPs (K:PySem.W.Frag) (trs:List (TE×TE)) (ks:List Key) (pr:PTA):Prop:=∀(A:Addr->Prop) (ρ:PSt) (σ:St) (H:Hp) (Q:List AV->PSt->Prop) (Q':List (V×V)->Hp->Prop),Rel K A ρ σ H->pr ρ Q ->
 (∀vs H' as ρ',Q as ρ'->Fr ρ σ H ρ' H'->Rel K A ρ' σ H'->yJ K (OO A ρ' σ) σ H' as vs->vs.length=ks.length->Q' ((ks.zip vs).map fun kv=>(kV kv.1,kv.2)) H')->rT trs σ H Q'
theorem wq:LPs K [] [] aw:=fun A ρ σ H Q Q' R q k=>k [] H [] ρ q (Fr.refl _ _ _) R .nil rfl
theorem nW {tv:TE}{pv:PA1}{trs:List (TE×TE)}{ks:List Key}{pr:PTA} (kk:Key) (hv:LA1 K tv pv) (hr:LPs K trs ks pr):LPs K ((tC (kV kk),tv)::trs) (kk::ks) (ac pv pr):=fun A ρ σ H Q Q' R q k =>
 hv A ρ σ H _ _ R q fun v H1 a ρ1 q1 f1 R1 o1=>hr A ρ1 σ H1 _ _ R1 q1 fun vs H2 as ρ2 q2 f2 R2 o2 l2=>k (v::vs) H2 _ ρ2 q2 (f1.trans f2) R2 (.cons (o1.keeps f2.keeps) o2) (by rw [List.length_cons,l2];rfl)
theorem A0 {kvs:List (Key×V)}{k:Key}{v:V} (h:k∉kvs.map Prod.fst):uS kvs k v=kvs++[(k,v)]:=by
 unfold uS
 rw [if_neg]
 intro z
 obtain ⟨a,m,e⟩:=List.any_eq_true.mp z
 exact h (List.mem_map.mpr ⟨a,m,of_decide_eq_true e⟩)
theorem pW:∀(kvs acc:List (Key×V)),((acc++kvs).map Prod.fst).Nodup->jP acc kvs=acc++kvs
 | [],acc,_=>by show acc=_;rw [List.append_nil]
 | kv::r,acc,h=>by
  show jP (uS acc kv.1 kv.2) r=_
  have hn:kv.1∉acc.map Prod.fst:=fun m=>by
   rw [List.map_append,List.map_cons] at h
   exact (List.nodup_append.mp h).2.2 _ m _ (List.mem_cons_self ..) rfl
  rw [A0 hn,pW r _ (by rw [List.append_assoc];exact h),List.append_assoc];rfl
def A1 (ks:List Key) (pr:PTA):PTE:=fun ρ Q=>pr ρ fun as ρ1=>match avD as with
 | some ds=>Q (.dat (.dic ks ds)) ρ1
 | none=>False
theorem wt {trs:List (TE×TE)}{ks:List Key}{pr:PTA} (hn:ks.Nodup) (h15:ks.length<=15) (h:LPs K trs ks pr):LE K (Cd trs) (A1 ks pr):=fun A ρ σ H Q Q' R q k=>fun p hp=>by
 have R1:Rel K (iM A p) ρ σ (upd H p (.dK [])):=R.grA (Gr.new hp) hp (by rw [aF];exact nofun)
 refine h (iM A p) ρ σ _ _ _ R1 q fun vs H2 as ρ2 q2 f2 R2 o2 l2=>?_
 split at q2
 .rename_i ds ed
  have e2:H2 p=some (.dK []):=f2.kp p _ (R1.sep p (.inr rfl)) aF
  have fv:=o2.avD ed
  have m1:(ks.zip vs).map Prod.fst=ks:=List.map_fst_zip (by omega)
  have m2:(ks.zip vs).map Prod.snd=vs:=List.map_snd_zip (by omega)
  have em:jP [] (ks.zip vs)=ks.zip vs:=by
   rw [pW _ _ (by rw [List.nil_append,m1];exact hn),List.nil_append]
  refine ⟨e2,ks.zip vs,rfl,by rw [List.length_zip];omega,?_⟩
  rw [em]
  have fr:Fr ρ σ H ρ2 (upd H2 p (.dK (ks.zip vs))):=⟨fun b o n e=>by
   have nb:b≠p:=aN e hp
   rw [ax nb]
   exact f2.kp b o n (by rw [ax nb];exact e),fun b e=>by
   by_cases z:b=p
   .rw [z,aF];exact nofun
   .rw [ax z]
    exact f2.dm b (by rw [ax z];exact e),f2.ow⟩
  have np:¬ OO A ρ2 σ p:=fun z=>z.elim (fun z=>R.dom p z hp) fun z=>R2.sep p (.inr rfl) z
  refine k _ _ (.dat (.dic ks ds)) ρ2 q2 fr ⟨(R2.amb (o:=.dK (ks.zip vs)) (.inr rfl)).less fun b z=>.inl z,.dic np aF m1 ?_⟩
  rw [m2]
  refine fv.keeps fun b o n e=>⟨fun z=>n (z.imp .inl id),?_⟩
  rw [ax fun z=>n (.inl (.inr z))];exact e
 .exact q2.elim
end
section
variable {X:Cx}{K:PySem.W.Frag}
def za (K:PySem.W.Frag):R2:=fun x y H Q=>∃a b ys,x=.ref a/\y=.ref b/\SqT K H a []/\SqT K H b ys/\Q (.ref b) H
theorem yh:OpR X (binaryOp .Add) (za X.K):=by
 intro pins s σ H x y v u Q I rx ry h
 obtain ⟨a,b,ys,rfl,rfl,ha,hb,q⟩:=h
 cases rx
 cases ry
 obtain ⟨its,r1,p1,_⟩:=I.tuple ha
 obtain ⟨its2,r2,p2,_⟩:=I.tuple hb
 have e0:its=[]:=r1.nil_iff.mpr rfl
 subst e0
 obtain ⟨⟨cls,dd,data,sl⟩,ho,hc,n,hd⟩:=id p1
 obtain ⟨⟨cls2,dd2,data2,sl2⟩,ho2,hc2,n2,hd2⟩:=id p2
 simp only at hc hd hc2 hd2
 subst hc hd hc2 hd2
 exact concat_meets ⟨_,ho,rfl⟩ ⟨_,ho2,rfl⟩ noFill_tuple_add seq_tuple_add PySem.F.slot_tuple_add PySem.F.entry_tuple_add (PySem.F.args_tuple_add_2 _ _) (tuple_addW0 a b _ _ n n2 dd dd2 sl sl2 rfl) ⟨ho,ho2,.ref b,H,I,rfl,q⟩
def C4 (K:PySem.W.Frag):R2:=fun x y H Q=>Ae K x y H Q\/za K x y H Q
theorem de (K:PySem.W.Frag) (e:X.K=K):OpR X (binaryOp .Add) (C4 K):=OpR.or (D4 K e) (by subst e;exact yh)
def eU:F2
 | .tup a,.tup b,Q=>a.length + b.length<=1000000/\Q (.dat (.tup (a++b)))
 | a,b,Q=>D5 a b Q
theorem bZ:LO K (C4 K) eU:=by
 intro O H x y a b Q Q' dom fx fy q k
 unfold eU at q
 split at q
 .rename_i Q ds es
  cases ds with
  | cons d ds=>exact .inl (yL O H x y _ _ _ Q' dom fx fy ⟨nofun,q⟩ k)
  | nil =>
   obtain ⟨p1,xs1,rfl,n1,e1,f1⟩:=fx.tup
   obtain ⟨p2,xs2,rfl,n2,e2,f2⟩:=fy.tup
   cases f1
   exact .inr ⟨p1,p2,xs2,rfl,rfl,SqT.of e1,SqT.of e2,k _ H _ q.2 (Gr.refl _) (.tup n2 e2 f2)⟩
 .exact .inl (yL O H x y _ _ _ Q' dom fx fy q k)
end
section
variable {X:Cx}
def Fn:Expr->Bool
 | .ListComp .. | .SetComp .. | .DictComp ..=>false
 | _=>true
theorem wu {o i e:Expr}{p:Pos}{l:Nat}{env:Env} (h:Fn e=true):swapsWithSole [.Subscript o i p] e l env=pure false:=by
 show swapsWith e (some (.Subscript o i p)) l env=pure false
 cases e <;> first | rfl | cases h
theorem qT {o i e:Expr}{p:Pos}{env:Env}:swappedStores [.Subscript o i p] e env=pure none:=rfl
theorem kR {o i e:Expr}{p:Pos}{te:TE}{g:TG}{pos:Pos} (he:PE X e te) (hg:PG X (.Subscript o i p) g) (hn:Fn e=true:=by rfl):PS X (.Assign [.Subscript o i p] e pos) (Be te g) :=
 yx he hg (wu hn) qT rfl
end
theorem qU (a b c d:Value):argsOk "object.__init__" ⟨[a,b,c,d],[]⟩:=by
 unfold argsOk;rw [signature?_of (id:="object.__init__") (n:=['_','_','t','i','n','i','_','_']) (o:=['t','c','e','j','b','o']) (by kernel_rfl) F.owner_object];kernel_rfl
theorem tE (a b c:Value):checkTypeCall "zip" ⟨[a,b,c],[]⟩=pure ():=by kernel_rfl
theorem tF (a b c:Value):checkBuiltinCall "zip.__new__" ⟨[.type "zip",a,b,c],[]⟩=pure ():=by kernel_rfl
abbrev gH (h:Heap) (T:Addr) (a b c:Value):Prop:=h.get? T=some { cls:=.type "tuple",data:=.seq #[a,b,c] }
structure ZB (z U V i j m:Addr):Prop where
 Uz:U≠z
 Vz:V≠z
 iz:i≠z
 jz:j≠z
 mz:m≠z
 UV:U≠V
 Ui:U≠i
 Uj:U≠j
 Um:U≠m
 Vi:V≠i
 Vj:V≠j
 Vm:V≠m
 ij:i≠j
 im:i≠m
 jm:j≠m
theorem EL (n:Nat):ZB (n + 5) (n + 3) (n + 4) n (n + 1) (n + 2):=by
 refine ⟨?_,?_,?_,?_,?_,?_,?_,?_,?_,?_,?_,?_,?_,?_,?_⟩ <;> (intro h;have h2:@Eq Nat _ _:=h;omega)
section
variable {P:Program}{w:World}{A:Around}{E:Value->Shared->Prop}{s:Shared}{k l q:Bool}{z U V i j m a c d:Addr}{n:Nat}{xs ys zs:Array Value}{x y v u1 u2 u3:Value}
theorem jC {T:Addr}{a b c x:Value}{k:Nat}{Q:Unit->Shared->Prop} (hT:gH s.heap T a b c)
  (h:∀h',h'.get? T=some { cls:=.type "tuple",data:=.seq ((#[a,b,c]:Array Value).setIfInBounds k x) }->Heap.SameBut T s.heap h'->Q () { s with heap:=h' }) :
  wpAny (model P w) A (updateSeq T (·.setIfInBounds k x)) Q E s:=by
 refine wpAny_updateSeq hT rfl (h _ ?_ (Heap.SameBut.update ..))
 rw [Heap.get?_update_self _ hT rfl]
 simp [Obj.mapSeq]
theorem A2 {Q:Value->Shared->Prop} (D:ZB z U V i j m) (na:∀b∈[z,V,i,j,m],a≠b) (nc:∀b∈[z,V,i,j,m],c≠b) (nd:∀b∈[z,V,i,j,m],d≠b)
  (hz:IsZip s.heap z U V .none) (hU:gH s.heap U (.ref i) (.ref j) (.ref m)) (hV:gH s.heap V u1 u2 u3)
  (W1:bw k s.heap i a n) (W2:bw l s.heap j c n) (W3:bw q s.heap m d n) (R1:cL k s.heap a xs) (R2:cL l s.heap c ys) (R3:cL q s.heap d zs) (hx:xs[n]?=some x) (hy:ys[n]?=some y) (hv:zs[n]?=some v)
  (hQ:∀h',IsZip h' z U V (rawInt s.heap.objs.size)->gH h' V x y v->bw k h' i a (n + 1)->bw l h' j c (n + 1)->bw q h' m d (n + 1)->gH h' s.heap.objs.size x y v ->
   (∀b o,b∉[z,V,i,j,m]->s.heap.get? b=some o->h'.get? b=some o)->Q (.ref s.heap.objs.size) { s with heap:=h' }) :
  wpAny (model P w) A (Builtin.«zip.__next__» ⟨[.ref z],[]⟩) (fun f s'=>∃r,f=.done (.ret r)/\Q r s') E s:=by
 simp only [List.mem_cons,List.not_mem_nil,or_false,forall_eq_or_imp,forall_eq] at na nc nd
 obtain ⟨az,aV,ai,aj,am⟩:=na
 obtain ⟨cz,cV,ci,cj,cm⟩:=nc
 obtain ⟨dz,dV,di,dj,dm⟩:=nd
 refine wpAny_bind (m:=field (.ref z) 2) (wpAny_field hz rfl (x:=.bool false) rfl (wpAny_bind (m:=field (.ref z) 3) (wpAny_field hz rfl (x:=.ref U) rfl (wpAny_bind (wpAny_seqItems hU rfl ?_)))))
 refine wpAny_bind (m:=Builtin.SmallTypes.ownedTupleIsFree (.ref z)) ?_
 unfold Builtin.SmallTypes.ownedTupleIsFree
 refine wpAny_bind (wpAny_field hz rfl (x:=.none) rfl (wpAny_pure ?_))
 simp only [if_true]
 refine wpAny_bind (wpAny_rule (wpAny_bind (wpAny_field hz rfl (x:=.ref V) rfl (wpAny_bind (wpAny_setField_rec hz (by simp) fun g1 z1 b1=>wpAny_bind ?_)))))
 replace z1:IsZip g1 z U V .ellipsis:=z1
 simp only [List.zipIdx_cons,List.zipIdx_nil,List.forIn_cons,List.forIn_nil]
 have e1:=b1.extBut
 refine wpAny_bind (wpAny_bind (wpAny_onRaise (wpAny_bind (m:=Builtin.SmallTypes.nextOf (.ref i)) (cF (W1.mv fun o e=>e1 _ o D.iz e) (R1.mv fun o e=>e1 _ o az e) hx fun g2 w1 b2=>wpAny_pure ?_))))
 have e2:=b2.extBut
 have v2:gH g2 V u1 u2 u3:=e2 _ _ D.Vi (e1 _ _ D.Vz hV)
 refine wpAny_bind (wpAny_seqItems v2 rfl (wpAny_bind (jC v2 fun g3 v3 b3=>wpAny_bind (wpAny_letGo (wpAny_pure ?_)))))
 replace v3:gH g3 V x u2 u3:=v3
 have e3:=b3.extBut
 refine wpAny_bind (wpAny_bind (wpAny_onRaise (wpAny_bind (m:=Builtin.SmallTypes.nextOf (.ref j)) (cF (W2.mv fun o e=>e3 _ o D.Vj.symm (e2 _ o D.ij.symm (e1 _ o D.jz e))) (R2.mv fun o e=>e3 _ o cV (e2 _ o ci (e1 _ o cz e))) hy fun g4 w2 b4=>wpAny_pure ?_))))
 have e4:=b4.extBut
 have v4:gH g4 V x u2 u3:=e4 _ _ D.Vj v3
 refine wpAny_bind (wpAny_seqItems v4 rfl (wpAny_bind (jC v4 fun g5 v5 b5=>wpAny_bind (wpAny_letGo (wpAny_pure ?_)))))
 replace v5:gH g5 V x y u3:=v5
 have e5:=b5.extBut
 refine wpAny_bind (wpAny_bind (wpAny_onRaise (wpAny_bind (m:=Builtin.SmallTypes.nextOf (.ref m)) (cF (W3.mv fun o e=>e5 _ o D.Vm.symm (e4 _ o D.jm.symm (e3 _ o D.Vm.symm (e2 _ o D.im.symm (e1 _ o D.mz e))))) (R3.mv fun o e=>e5 _ o dV (e4 _ o dj (e3 _ o dV (e2 _ o di (e1 _ o dz e))))) hv fun g6 w3 b6=>wpAny_pure ?_))))
 have e6:=b6.extBut
 have v6:gH g6 V x y u3:=e6 _ _ D.Vm v5
 refine wpAny_bind (wpAny_seqItems v6 rfl (wpAny_bind (jC v6 fun g7 v7 b7=>wpAny_bind (wpAny_letGo (wpAny_pure (wpAny_pure ?_))))))
 replace v7:gH g7 V x y v:=v7
 have e7:=b7.extBut
 refine wpAny_bind (wpAny_seqItems v7 rfl (wpAny_bind (wpAny_newTuple ?_)))
 have sz:g7.objs.size=s.heap.objs.size:=by rw [b7.1,b6.1,b5.1,b4.1,b3.1,b2.1,b1.1]
 have z7:IsZip g7 z U V .ellipsis:=e7 _ _ D.Vz.symm (e6 _ _ D.mz.symm (e5 _ _ D.Vz.symm (e4 _ _ D.jz.symm (e3 _ _ D.Vz.symm (e2 _ _ D.iz.symm z1)))))
 have k7:∀b o,b∉[z,V,i,j,m]->s.heap.get? b=some o->g7.get? b=some o:=fun b o hb e=>by
  simp only [List.mem_cons,List.not_mem_nil,or_false,not_or] at hb
  obtain ⟨q1,q2,q3,q4,q5⟩:=hb
  exact e7 _ _ q2 (e6 _ _ q5 (e5 _ _ q2 (e4 _ _ q4 (e3 _ _ q2 (e2 _ _ q3 (e1 _ _ q1 e))))))
 have w17:bw k g7 i a (n + 1):=w1.mv fun o e=>e7 _ o D.Vi.symm (e6 _ o D.im (e5 _ o D.Vi.symm (e4 _ o D.ij (e3 _ o D.Vi.symm e))))
 have w27:bw l g7 j c (n + 1):=w2.mv fun o e=>e7 _ o D.Vj.symm (e6 _ o D.jm (e5 _ o D.Vj.symm e))
 have w37:bw q g7 m d (n + 1):=w3.mv fun o e=>e7 _ o D.Vm.symm e
 have zlt:z < g7.objs.size:=Heap.lt_size z7
 refine wpAny_bind (m:=Builtin.SmallTypes.ownedTupleHandOut (.ref z) (.ref g7.objs.size)) ?_
 unfold Builtin.SmallTypes.ownedTupleHandOut
 have z8:IsZip (g7.push { cls:=.type "tuple",data:=.seq #[x,y,v] }) z U V .ellipsis:=Heap.get?_push_of_some _ z7
 refine wpAny_bind (wpAny_setField_rec z8 (by simp) fun g9 z9 b9=>?_)
 replace z9:IsZip g9 z U V (rawInt g7.objs.size):=z9
 refine wpAny_setField_rec z9 (by simp) fun g10 z10 b10=>?_
 replace z10:IsZip g10 z U V (rawInt g7.objs.size):=z10
 have up:∀b o,b≠z->g7.get? b=some o->g10.get? b=some o:=fun b o q e=>b10.extBut _ _ q (b9.extBut _ _ q (Heap.get?_push_of_some _ e))
 have t10:gH g10 g7.objs.size x y v:=b10.extBut _ _ (Nat.ne_of_gt zlt) (b9.extBut _ _ (Nat.ne_of_gt zlt) (Heap.get?_push_size _ rfl))
 rw [sz] at z10 t10
 refine wpAny_pure ⟨_,rfl,?_⟩
 show Q (.ref g7.objs.size) _
 rw [sz]
 exact hQ g10 z10 (up _ _ D.Vz v7) (w17.mv fun o e=>up _ o D.iz e) (w27.mv fun o e=>up _ o D.jz e) (w37.mv fun o e=>up _ o D.mz e) t10 fun b o hb e=>up b o (fun z=>hb (by rw [z];exact List.mem_cons_self ..)) (k7 b o hb e)
theorem C5 {Q:Fin->Shared->Prop} (hh:A.handled=none) (D:ZB z U V i j m) (az:a≠z) (hz:IsZip s.heap z U V .none) (hU:gH s.heap U (.ref i) (.ref j) (.ref m))
  (W1:bw k s.heap i a n) (R1:cL k s.heap a xs) (hend:xs[n]?=none)
  (hE:∀h' e,(∀b o,b∉[z,i]->s.heap.get? b=some o->h'.get? b=some o)->(∃o,h'.get? e=some o/\o.cls=.type "StopIteration")->E (.ref e) { s with heap:=h' }) :
  wpAny (model P w) A (Builtin.«zip.__next__» ⟨[.ref z],[]⟩) Q E s:=by
 refine wpAny_bind (m:=field (.ref z) 2) (wpAny_field hz rfl (x:=.bool false) rfl (wpAny_bind (m:=field (.ref z) 3) (wpAny_field hz rfl (x:=.ref U) rfl (wpAny_bind (wpAny_seqItems hU rfl ?_)))))
 refine wpAny_bind (m:=Builtin.SmallTypes.ownedTupleIsFree (.ref z)) ?_
 unfold Builtin.SmallTypes.ownedTupleIsFree
 refine wpAny_bind (wpAny_field hz rfl (x:=.none) rfl (wpAny_pure ?_))
 simp only [if_true]
 refine wpAny_bind (wpAny_rule (wpAny_bind (wpAny_field hz rfl (x:=.ref V) rfl (wpAny_bind (wpAny_setField_rec hz (by simp) fun g1 z1 b1=>wpAny_bind ?_)))))
 replace z1:IsZip g1 z U V .ellipsis:=z1
 simp only [List.zipIdx_cons,List.zipIdx_nil,List.forIn_cons,List.forIn_nil]
 have e1:=b1.extBut
 refine wpAny_bind (wpAny_bind (wpAny_onRaise (wpAny_bind (m:=Builtin.SmallTypes.nextOf (.ref i)) (eF hh (W1.mv fun o e=>e1 _ o D.iz e) (R1.mv fun o e=>e1 _ o az e) hend fun g2 e b2 he=>?_))))
 obtain ⟨oe,ge,ce⟩:=he
 have z2:IsZip g2 z U V .ellipsis:=b2 _ _ D.iz.symm z1
 have ez:e≠z:=fun q=>by subst q;rw [z2] at ge;cases ge;simp at ce
 exact wpAny_setField_rec z2 (by simp) fun g3 _ b3=>hE g3 e (fun b o hb q=>by
  simp only [List.mem_cons,List.not_mem_nil,or_false,not_or] at hb
  exact b3.extBut _ _ hb.1 (b2 _ _ hb.2 (e1 _ _ hb.1 q))) ⟨oe,b3.extBut _ _ ez ge,ce⟩
end
def Fo (k l q:Bool) (K:PySem.W.Frag) (a c d:Addr):It :=
  ⟨fun i H=>∃xs ys zs x y v,Sq k K H a xs/\Sq l K H c ys/\Sq q K H d zs/\xs[i]?=some x/\ys[i]?=some y/\zs[i]?=some v,
   fun i H p H'=>∃T x y v,H T=none/\p=.ref T/\(∀xs,Sq k K H a xs->xs[i]?=some x)/\(∀ys,Sq l K H c ys->ys[i]?=some y)/\(∀zs,Sq q K H d zs->zs[i]?=some v)/\H'=upd H T (.tup [x,y,v]),
   fun i H=>∃xs,Sq k K H a xs/\xs.length<=i⟩
theorem wv {P:Program}{w:World}{K:PySem.W.Frag}{es:List Expr}{ct:Nat}{tp:Pos}{k l q:Bool}{a c d z U V i j m:Addr} (D:ZB z U V i j m) :
  wR P w K (.Tuple es ct tp) (Fo k l q K a c d) [z,U,V,i,j,m] z (fun n h=>IsZip h z U V .none/\gH h U (.ref i) (.ref j) (.ref m)/\(∃u v w,gH h V u v w)/\bw k h i a n/\bw l h j c n/\bw q h m d n) where
 mem:=by simp
 obj:=fun n h st b hb=>by
  obtain ⟨hz,hU,⟨u,v,w,hV⟩,⟨o1,g1,c1,d1⟩,⟨o2,g2,c2,d2⟩,⟨o3,g3,c3,d3⟩⟩:=st
  simp only [List.mem_cons,List.not_mem_nil,or_false] at hb
  rcases hb with rfl | rfl | rfl | rfl | rfl | rfl
  .exact ⟨_,hz,fun v q=>by cases q⟩
  .exact ⟨_,hU,fun v q=>by cases q⟩
  .exact ⟨_,hV,fun v q=>by cases q⟩
  .exact ⟨_,g1,fun v q=>by rw [d1] at q;cases q⟩
  .exact ⟨_,g2,fun v q=>by rw [d2] at q;cases q⟩
  .exact ⟨_,g3,fun v q=>by rw [d3] at q;cases q⟩
 keep:=fun n h h' st kk=>by
  obtain ⟨hz,hU,⟨u,v,w,hV⟩,w1,w2,w3⟩:=st
  exact ⟨kk z (by simp) _ hz,kk U (by simp) _ hU,⟨u,v,w,kk V (by simp) _ hV⟩,w1.mv fun o e=>kk i (by simp) o e,w2.mv fun o e=>kk j (by simp) o e,w3.mv fun o e=>kk m (by simp) o e⟩
 item:=by
  intro X hP hw hK hc n pins s σ H E I hf st hg
  subst hP hw hK
  obtain ⟨xs,ys,zs,x,y,v,q1,q2,q3,hx,hy,hv⟩:=hg
  obtain ⟨hz,hU,⟨u1,u2,u3,hV⟩,w1,w2,w3⟩:=st
  obtain ⟨its,rv,p,_⟩:=I.row q1
  obtain ⟨jts,rv',p',_⟩:=I.row q2
  obtain ⟨mts,rv'',p'',_⟩:=I.row q3
  obtain ⟨ux,hux,rx⟩:=rv.get hx
  obtain ⟨uy,huy,ry⟩:=rv'.get hy
  obtain ⟨uv,huv,rvv⟩:=rv''.get hv
  have hT:s.TypeIs (.ref z) "zip":=⟨_,hz,rfl⟩
  have sub:∀b,b∈[z,V,i,j,m]->b∈[z,U,V,i,j,m]:=fun b hb=>by
   simp only [List.mem_cons,List.not_mem_nil,or_false] at hb ⊢
   rcases hb with q | q | q | q | q <;> simp [q]
  unfold pyNext
  refine wpAny_bind (wpAny_attempt (wpAny_callSpecial?_slot (name:=Str.ofString "__next__") hT F.slot_zip_next (wpAny_call_entry F.slot_zip_next hT F.entry_zip_next
   (A2 (x:=ux) (y:=uy) (v:=uv) D (fun b hb=>I.row_ne q1 (hf b (sub b hb))) (fun b hb=>I.row_ne q2 (hf b (sub b hb))) (fun b hb=>I.row_ne q3 (hf b (sub b hb))) hz hU hV w1 w2 w3 p p' p'' (by simpa using hux) (by simpa using huy) (by simpa using huv) fun h' a1 a2 a3 a4 a5 a6 a7=>wpAny_pure ?_) (F.args_zip_next_1 _))))
  refine ⟨_,rfl,wpAny_letOwnedTupleGo_zip a1 fun g gz gs=>?_⟩
  have lt:∀{b o},s.heap.get? b=some o->s.heap.objs.size≠b:=fun e=>Nat.ne_of_gt (Heap.lt_size e)
  have kp:∀b o,b∉[z,V,i,j,m]->s.heap.get? b=some o->g.get? b=some o:=fun b o hb e=>gs.extBut _ _ (fun z=>hb (by rw [z];exact List.mem_cons_self ..)) (a7 b o hb e)
  have I2:Inv X pins σ (upd H s.heap.objs.size (.tup [x,y,v])) { s with heap:=g,toks:=s.toks }:=I.yielded (ch:=[z,V,i,j,m]) (fun b hb=>hf b (sub b hb)) (Nat.le_refl _) kp ⟨by show 3<=sizeLine;decide,[ux,uy,uv],.cons rx (.cons ry (.cons rvv .nil)),_,gs.extBut _ _ (lt hz) a6,rfl,_,rfl⟩
  refine ⟨.ref s.heap.objs.size,_,I2,rfl,⟨_,x,y,v,I.hok.fresh (Nat.le_refl _),rfl,fun xs' q=>by rw [I.row_inj q q1];exact hx,fun ys' q=>by rw [I.row_inj q q2];exact hy,fun zs' q=>by rw [I.row_inj q q3];exact hv,rfl⟩,
   ⟨gz,kp _ _ (by simp [D.Uz,D.UV,D.Ui,D.Uj,D.Um]) hU,⟨_,_,_,gs.extBut _ _ D.Vz a2⟩,a3.mv fun o e=>gs.extBut _ o D.iz e,a4.mv fun o e=>gs.extBut _ o D.jz e,a5.mv fun o e=>gs.extBut _ o D.mz e⟩,fun b hb=>?_⟩
  rw [ax ?_]
  .exact (hf b hb).1
  .intro q
   subst q
   simp only [List.mem_cons,List.not_mem_nil,or_false] at hb
   obtain ⟨o1,g1,_⟩:=w1
   obtain ⟨o2,g2,_⟩:=w2
   obtain ⟨o3,g3,_⟩:=w3
   rcases hb with q | q | q | q | q | q
   .exact lt hz q
   .exact lt hU q
   .exact lt hV q
   .exact lt g1 q
   .exact lt g2 q
   .exact lt g3 q
 done:=by
  intro X hP hw hK hc n pins s σ H E I hf st hg
  subst hP hw hK
  obtain ⟨xs,q1,hend⟩:=hg
  obtain ⟨hz,hU,_,w1,_,_⟩:=st
  obtain ⟨its,rv,p,_⟩:=I.row q1
  have e1:=rv.length
  have hT:s.TypeIs (.ref z) "zip":=⟨_,hz,rfl⟩
  unfold pyNext
  refine wpAny_bind (wpAny_attempt (wpAny_callSpecial?_slot (name:=Str.ofString "__next__") hT F.slot_zip_next (wpAny_call_entry F.slot_zip_next hT F.entry_zip_next
   (C5 (I.ok.hd hc) D (I.row_ne q1 (hf z (by simp))) hz hU w1 p (by simp;omega) fun h' e hk he=>?_) (F.args_zip_next_1 _))))
  obtain ⟨o,ho,hcl⟩:=he
  refine wpAny_bind (wpAny_isInstance (T:="StopIteration") (b:=true) ⟨o,ho,hcl⟩ isSubtype_stop (wpAny_pure ⟨rfl,?_⟩))
  have hfz:∀b∈[z,i],b∈[z,U,V,i,j,m]:=fun b hb=>by
   simp only [List.mem_cons,List.not_mem_nil,or_false] at hb ⊢
   rcases hb with q | q <;> simp [q]
  have nn:∀b u,H b=some u->b∉[z,i]:=fun b u e hb=>by rw [(hf b (hfz b hb)).1] at e;cases e
  exact I.step (g':=s.gens) (d':=s.drawn) (t':=s.toks) (ch:=[z,i]) (fun b hb=>by
    have q:=hf b (hfz b hb)
    exact ⟨q.2.2.2.1,q.2.1,q.2.2.2.2.1,q.2.2.2.2.2⟩) (fun b o _ _ hc e _=>hk b o hc e) (fun b o _ _ hc e _=>⟨o.slots,hk b o hc e⟩) (fun _ _ _ _ q=>q) (fun b o hc e=>⟨o,hk b o hc e⟩) (fun _ _ e=>e) (fun _ _ _ e=>e) (fun b ps e=>⟨#[],by rw [e];simp⟩) (fun m hm=>by
    obtain ⟨o,es,ep,ho,r⟩:=hm
    exact ⟨o,es,ep,hk _ o (fun hb=>(hf _ (hfz _ hb)).2.1 rfl) ho,r⟩) (fun b u e=>by
    refine (I.hok b u e).stay (fun c v hc q=>?_) (fun _ q=>q) fun _ _ q=>q
    refine hk c v ?_ q
    rcases hc with q | q
    .rw [q];exact nn b u e
    .exact nn c _ q) I.bare
 self:=fun _ _ _ _ _ st h=>wpAny_pyIter_zip st.1 h
section
variable {P:Program}{w:World}{A:Around}{E:Value->Shared->Prop}{s:Shared}{k l q:Bool}
abbrev xg3 (h:Heap) (k l q:Bool) (a c d:Addr):Heap:=(zg2 h k l a c).push (fC q d)
abbrev xg4 (h:Heap) (k l q:Bool) (a c d:Addr):Heap:=(xg3 h k l q a c d).push { cls:=.type "tuple",data:=.seq #[.ref h.objs.size,.ref (zg1 h k a).objs.size,.ref (zg2 h k l a c).objs.size] }
abbrev xg5 (h:Heap) (k l q:Bool) (a c d:Addr):Heap:=(xg4 h k l q a c d).push { cls:=.type "tuple",data:=.seq #[.none,.none,.none] }
abbrev xg6 (h:Heap) (k l q:Bool) (a c d:Addr):Heap:=(xg5 h k l q a c d).push { cls:=.type "zip",data:=.fields #[.none,.bool false,.bool false,.ref (xg3 h k l q a c d).objs.size,.ref (xg4 h k l q a c d).objs.size] }
set_option maxHeartbeats 8000000 in
theorem yi (k l q:Bool) (a c d:Addr) (xs ys zs:Array Value):Meets (Builtin.«zip.__new__» ⟨[.type "zip",.ref a,.ref c,.ref d],[]⟩) (fun _ R s=>cL k s.heap a xs/\cL l s.heap c ys/\cL q s.heap d zs /\
   R (.ok (.ret (.ref (xg5 s.heap k l q a c d).objs.size))) { s with heap:=xg6 s.heap k l q a c d }) :=
 .of_wp fun prog w A R s h=>by
  obtain ⟨hp,g,dd,tk,os⟩:=s
  obtain ⟨r1,r2,r3,h⟩:=h
  have hsub:=sub_zip
  have R1:cL k (Shared.heap ⟨hp,g,dd,tk,os⟩) a xs:=r1
  have R2:cL l (Shared.heap ⟨hp.push (fC k a),g,dd,tk,os⟩) c ys:=r2.mv fun o e=>Heap.get?_push_of_some _ e
  have R3:cL q (Shared.heap ⟨(hp.push (fC k a)).push (fC l c),g,dd,tk,os⟩) d zs:=r3.mv fun o e=>Heap.get?_push_of_some _ (Heap.get?_push_of_some _ e)
  wp_walk using c8 R1,c8 R2,c8 R3
  exact ⟨_,rfl,h⟩
theorem yj {a c d:Addr}{xs ys zs:Array Value}{Q:Value->Shared->Prop} (r1:cL k s.heap a xs) (r2:cL l s.heap c ys) (r3:cL q s.heap d zs)
  (h:∀h',IsZip h' (s.heap.objs.size + 5) (s.heap.objs.size + 3) (s.heap.objs.size + 4) .none->gH h' (s.heap.objs.size + 3) (.ref s.heap.objs.size) (.ref (s.heap.objs.size + 1)) (.ref (s.heap.objs.size + 2)) ->
   gH h' (s.heap.objs.size + 4) .none .none .none->bw k h' s.heap.objs.size a 0->bw l h' (s.heap.objs.size + 1) c 0->bw q h' (s.heap.objs.size + 2) d 0->(∀b o,s.heap.get? b=some o->h'.get? b=some o)->Q (.ref (s.heap.objs.size + 5)) { s with heap:=h' }) :
  wpAny (model P w) A (call (.type "zip") [.ref a,.ref c,.ref d]) Q E s:=by
 refine callType_new F.called_zip (by decide) (tE _ _ _) (tF _ _ _) (fun obj=>qU obj _ _ _) F.entry_zip_new (yi k l q a c d xs ys zs) ⟨r1,r2,r3,?_⟩
 have z1:(zg1 s.heap k a).objs.size=s.heap.objs.size + 1:=Heap.size_push ..
 have z2:(zg2 s.heap k l a c).objs.size=s.heap.objs.size + 2:=by rw [Heap.size_push,z1]
 have z3:(xg3 s.heap k l q a c d).objs.size=s.heap.objs.size + 3:=by rw [Heap.size_push,z2]
 have z4:(xg4 s.heap k l q a c d).objs.size=s.heap.objs.size + 4:=by rw [Heap.size_push,z3]
 have z5:(xg5 s.heap k l q a c d).objs.size=s.heap.objs.size + 5:=by rw [Heap.size_push,z4]
 have m5:∀b o,(xg5 s.heap k l q a c d).get? b=some o->(xg6 s.heap k l q a c d).get? b=some o:=fun b o e=>Heap.get?_push_of_some _ e
 have m4:∀b o,(xg4 s.heap k l q a c d).get? b=some o->(xg6 s.heap k l q a c d).get? b=some o:=fun b o e=>m5 b o (Heap.get?_push_of_some _ e)
 have m3:∀b o,(xg3 s.heap k l q a c d).get? b=some o->(xg6 s.heap k l q a c d).get? b=some o:=fun b o e=>m4 b o (Heap.get?_push_of_some _ e)
 have m2:∀b o,(zg2 s.heap k l a c).get? b=some o->(xg6 s.heap k l q a c d).get? b=some o:=fun b o e=>m3 b o (Heap.get?_push_of_some _ e)
 have m1:∀b o,(zg1 s.heap k a).get? b=some o->(xg6 s.heap k l q a c d).get? b=some o:=fun b o e=>m2 b o (Heap.get?_push_of_some _ e)
 have g6:(xg6 s.heap k l q a c d).get? (xg5 s.heap k l q a c d).objs.size=some _:=Heap.get?_push_size _ rfl
 have g5:=m5 _ _ (Heap.get?_push_size (xg4 s.heap k l q a c d) (o:={ cls:=.type "tuple",data:=.seq #[.none,.none,.none] }) rfl)
 have g4:=m4 _ _ (Heap.get?_push_size (xg3 s.heap k l q a c d) (o:={ cls:=.type "tuple",data:=.seq #[.ref s.heap.objs.size,.ref (zg1 s.heap k a).objs.size,.ref (zg2 s.heap k l a c).objs.size] }) rfl)
 have g3:=m3 _ _ (Heap.get?_push_size (zg2 s.heap k l a c) (o:=fC q d) rfl)
 have g2:=m2 _ _ (Heap.get?_push_size (zg1 s.heap k a) (o:=fC l c) rfl)
 have g1:=m1 _ _ (Heap.get?_push_size s.heap (o:=fC k a) rfl)
 show _/\_
 rw [z3,z4,z5] at g6
 rw [z1,z2,z3] at g4
 rw [z4] at g5
 rw [z1] at g2
 rw [z2] at g3
 rw [z5]
 exact ⟨⟨_,g6,rfl⟩,h _ g6 g4 g5 ⟨_,g1,rfl,rfl⟩ ⟨_,g2,rfl,rfl⟩ ⟨_,g3,rfl,rfl⟩ fun b o e=>m1 b o (Heap.get?_push_of_some _ e)⟩
end
section
variable {X:Cx}{es:List Expr}{ct:Nat}{tp:Pos}
def C6 (K:PySem.W.Frag) (ta:TA):TI:=fun σ H R=>ta σ H fun vs H1=>∃k l q a c d,vs=[.ref a,.ref c,.ref d]/\(∃xs ys zs,Sq k K H1 a xs/\Sq l K H1 c ys/\Sq q K H1 d zs)/\R (Fo k l q K a c d) H1
theorem A3 (K:PySem.W.Frag) (e:X.K=K) {a b c:Expr}{ta:TA}{p pos:Pos} (hg:Gl X "zip") (hm:X.mg "zip"=none) (ha:PA X [a,b,c] ta)
  (hs:starEach [a,b,c] X.env=[(false,eval a X.env),(false,eval b X.env),(false,eval c X.env)]:=by rfl) (hs2:starEach [b,c] X.env=[(false,eval b X.env),(false,eval c X.env)]:=by rfl) :
  PI X (.Tuple es ct tp) (.Call (.Name "zip" p) [a,b,c] [] pos) (C6 K ta):=by
 subst e
 intro pins s σ H R I h
 refine Call_ (iX I hg hm boot_zip (PyProof.Rows.callWith_type1 (thn (ha pos pins s σ H _ I h) fun us s1 ⟨vs,H1,I1,r1,q1⟩=>?_) (by rw [hs,hs2]) (by rw [hs2];rfl)))
 have fin:∀b∈[s1.heap.objs.size + 5,s1.heap.objs.size + 3,s1.heap.objs.size + 4,s1.heap.objs.size,s1.heap.objs.size + 1,s1.heap.objs.size + 2],rM X pins H1 b:=fun b hb=>by
  have hle:s1.heap.objs.size<=b:=by
   simp only [List.mem_cons,List.not_mem_nil,or_false] at hb
   rcases hb with e | e | e | e | e | e
   .rw [e];exact Nat.le_add_right _ _
   .rw [e];exact Nat.le_add_right _ _
   .rw [e];exact Nat.le_add_right _ _
   .rw [e];exact Nat.le_refl _
   .rw [e];exact Nat.le_add_right _ _
   .rw [e];exact Nat.le_add_right _ _
  exact I1.fpOk hle (I1.hok.fresh hle)
 obtain ⟨k,l,q',a,c,d,e,⟨xs,ys,zs,q1,q2,q3⟩,q⟩:=q1
 subst e
 cases r1 with
 | cons r rr =>
  cases rr with
  | cons r' rr =>
   cases rr with
   | cons r'' rr =>
    cases rr
    cases r
    cases r'
    cases r''
    obtain ⟨its,rv,p,_⟩:=I1.row q1
    obtain ⟨jts,rv',p',_⟩:=I1.row q2
    obtain ⟨mts,rv'',p'',_⟩:=I1.row q3
    refine yj p p' p'' fun h' g1 g2 g3 g4 g5 g6 kk=>wpAny_pyIter_zip g1 ?_
    have I2:Inv X pins σ H1 { s1 with heap:=h',toks:=s1.toks }:=I1.kept kk
    exact ⟨s1.heap.objs.size + 5,[s1.heap.objs.size + 5,s1.heap.objs.size + 3,s1.heap.objs.size + 4,s1.heap.objs.size,s1.heap.objs.size + 1,s1.heap.objs.size + 2],_,_,H1,rfl,I2,wv (i:=s1.heap.objs.size) (j:=s1.heap.objs.size + 1) (m:=s1.heap.objs.size + 2)
     (EL _),⟨g1,g2,⟨_,_,_,g3⟩,g4,g5,g6⟩,fin,q⟩
def zb (pa:PTA):PTI:=fun ρ Q=>pa ρ fun as ρ1=>match as with
 | [.v a,.v b,.v c]=>(match rowD a,rowD b,rowD c with
  | some xs,some ys,some zs=>(xs.length<=ys.length/\xs.length<=zs.length)/\Q xs.length (fun k=>.tup [itD xs k,itD ys k,itD zs k]) ρ1
  | _,_,_=>False)
 | _=>False
end
section
variable {K:PySem.W.Frag}{ta:TA}{pa:PTA}
theorem A4 (h:LAs K ta pa):LI K (C6 K ta) (zb pa):=fun A ρ σ H Q Q' R q k=>h A ρ σ H _ _ R q fun vs H1 as ρ1 q1 f1 R1 o1=>by
 split at q1
 .rename_i da db dc
  cases o1 with
  | cons o1 o2 =>
   cases o2 with
   | cons o2 o3 =>
    cases o3 with
    | cons o3 o4 =>
     cases o4
     split at q1
     .rename_i xs ys zs ex ey ez
      obtain ⟨⟨le1,le2⟩,q1⟩:=q1
      obtain ⟨b1,a1,us,rfl,l1,w1⟩:=FV.rowD (show FV K _ H1 _ da from o1) ex
      obtain ⟨b2,a2,ws,rfl,l2,w2⟩:=FV.rowD (show FV K _ H1 _ db from o2) ey
      obtain ⟨b3,a3,ts,rfl,l3,w3⟩:=FV.rowD (show FV K _ H1 _ dc from o3) ez
      have t1:=w1 _ H1 (fun b o n h=>⟨n,h⟩)
      have t2:=w2 _ H1 (fun b o n h=>⟨n,h⟩)
      have t3:=w3 _ H1 (fun b o n h=>⟨n,h⟩)
      refine ⟨b1,b2,b3,a1,a2,a3,rfl,⟨us,ws,ts,t1.1,t2.1,t3.1⟩,k _ H1 _ _ ρ1 q1 f1 R1 fun O' H' kk dom=>?_⟩
      obtain ⟨s1,g1⟩:=w1 O' H' kk
      obtain ⟨s2,g2⟩:=w2 O' H' kk
      obtain ⟨s3,g3⟩:=w3 O' H' kk
      refine ⟨fun j hj=>?_,⟨us,s1,by omega⟩⟩
      have h1:j < us.length:=by omega
      have h2:j < ws.length:=by omega
      have h3:j < ts.length:=by omega
      refine ⟨⟨us,ws,ts,_,_,_,s1,s2,s3,List.getElem?_eq_getElem h1,List.getElem?_eq_getElem h2,List.getElem?_eq_getElem h3⟩,fun x H'' ⟨T,u,w,v,hT,e,y1,y2,y3,e2⟩=>?_⟩
      subst e e2
      obtain ⟨d1,hd1,fd1⟩:=g1.get (y1 us s1)
      obtain ⟨d2,hd2,fd2⟩:=g2.get (y2 ws s2)
      obtain ⟨d3,hd3,fd3⟩:=g3.get (y3 ts s3)
      rw [ik hd1,ik hd2,ik hd3]
      have kk2:aZ O' H' O' (upd H' T (.tup [u,w,v])):=fun b o n e=>⟨n,by rw [ax (aN e hT)];exact e⟩
      exact ⟨Gr.new hT,.tup (fun z=>dom T z hT) aF (.cons (fd1.keeps kk2) (.cons (fd2.keeps kk2) (.cons (fd3.keeps kk2) .nil)))⟩
     .exact q1.elim
 .exact q1.elim
end
def iP (K:PySem.W.Frag) (x:Str) (st:Stmt):Prop:=∃(f:Addr) (oc kV dc pm cd ct:Value) (od an:Option Addr) (sl:Array (Option Value)),PySem.W.nsIn K mainGlobals x=some (some (.ref f)) /\
 K.lookup f=some ⟨oc,od,.func (PySem.W.fnOf x x (bP st) (bv st) (ap st) .none kV dc pm an cd ct),sl⟩/\PySem.W.codeIn K cd x=true/\PySem.W.keepIn K (.ref f)=true
theorem C7 {K:PySem.W.Frag}{x:Str}{st:Stmt}{f:Addr}{oc kV dc pm cd ct:Value}{od an:Option Addr}{sl:Array (Option Value)} (a:PySem.W.nsIn K mainGlobals x=some (some (.ref f))) (l:K.lookup f=some ⟨oc,od,.func (PySem.W.fnOf x x (bP st) (bv st) (ap st) .none kV dc pm an cd ct),sl⟩)
  (c:PySem.W.codeIn K cd x=true) (k:PySem.W.keepIn K (.ref f)=true):iP K x st:=⟨f,oc,kV,dc,pm,cd,ct,od,an,sl,a,l,c,k⟩
theorem bM {K:PySem.W.Frag}{h:Heap}{mg:Str->Option Value}{x:Str}{st:Stmt} (q:iP K x st) (X:K.In h) (G:h.Ns mainGlobals mg):cA K mg x st:=by
 obtain ⟨f,oc,kV,dc,pm,cd,ct,od,an,sl,a,l,c,k⟩:=q
 exact .mk' X G a l c k
section
variable {X:Cx}{K:PySem.W.Frag}
def C8 (K:PySem.W.Frag) (te ts:TE):TE:=fun σ H Q=>te σ H fun x H1=>ts σ H1 fun y H2=>y=.int (-1)/\((∃l,x=.str (S l)/\l.length<=sizeLine/\Q (.str (S l.reverse)) H2)\/∃a xs,x=.ref a/\SqL K H2 a xs/\∀p,H2 p=none->Q (.ref p) (upd H2 p (.lst xs.reverse)))
theorem A5 (K:PySem.W.Frag) (e0:X.K=K) {e st:Expr}{te:TE}{ts:TE}{p2 pos:Pos} (he:PE X e te) (hst:PE X st ts) :
  PE X (.Subscript e (.Slice none none (some st) p2) pos) (C8 K te ts):=by
 subst e0
 intro pins s σ H Q I h
 refine Subscript_ (thn (he pins s σ H _ I h) fun v s1 ⟨x,H1,I1,r1,q1⟩=>?_)
 refine wpAny_Slice ?_
 rw [evalPart_none]
 refine wpAny_pure (wpAny_pure ?_)
 rw [evalPart_some]
 refine thn (hst pins s1 σ H1 _ I1 q1) fun vs s2 ⟨y,H2,I2,r2,q2⟩=>?_
 obtain ⟨rfl,q2⟩:=q2
 obtain ⟨t',rfl⟩:=r2
 have I3:Inv X pins σ H2 { s2 with heap:=s2.heap.push { cls:=.type "slice",data:=.fields #[.none,.none,.int (-1) t'] } }:=I2.kept (t':=s2.toks) fun b ob q=>Heap.get?_push_of_some _ q
 rcases q2 with ⟨l,rfl,hz,q⟩ | ⟨a,xs,rfl,hx,q⟩
 .obtain ⟨t,rfl⟩:=r1
  have hm:∀t2 k,EP X pins σ Q (.str (Txt.sliceBy (S l) none none (-1,t')) t2) { { s2 with heap:=s2.heap.push { cls:=.type "slice",data:=.fields #[.none,.none,.int (-1) t'] } } with toks:=k }:=fun t2 k=>⟨.str (S l.reverse),H2,I3.tok _,⟨t2,by rw [DQ]⟩,q⟩
  refine tail_any (ops:=[.ref s2.heap.objs.size,.str (S l) t]) (typeIs_str _ _ t) slot_str_getitem.lookup (wpAny_getItem_str_slice (l:=none) (u:=none) (st:=some (-1,t')) ⟨_,Heap.get?_push_size _ rfl,rfl,rfl⟩ rfl ?_) (by with_unfolding_all rfl)
  exact post_val_or_str ⟨Nat.le_trans (Txt.sliceBy_le _ _ _ (-1,t') (by show (-1:Int)≠0;decide)) (by rw [eT];exact hz),hm⟩
 .cases r1
  obtain ⟨its,r,ht,hz⟩:=I3.list hx
  have hlen:=r.length
  refine tail_any (ops:=[.ref a,.ref s2.heap.objs.size]) ht.isList.typeIs slot_list_getitem.lookup (wpAny_getItem_list_slice ht.isList ⟨_,Heap.get?_push_size _ rfl,rfl,rfl⟩ .none .none (st:=some (-1)) (.int _ _) (by simp) ?_ (by rw [List.size_toArray] <;> omega)) (by first | with_unfolding_all rfl | rfl)
  rw [PySem.W.krv_pick]
  refine ⟨.ref _,_,I3.laid (t':=s2.toks) (o:=.lst xs.reverse) (fun b ob q=>Heap.get?_push_of_some _ q) (Nat.le_refl _) ?_,rfl,q _ (I3.hok.fresh (Nat.le_refl _))⟩
  exact ⟨by rw [List.length_reverse];exact hz,_,0,r.reverse,Heap.get?_push_size _ rfl⟩
end
section
variable {K:PySem.W.Frag}{ta tb:TE}{pa:PA1}{pe:PTE}
def C9 (pa:PA1) (pe:PTE):PTE:=fun ρ Q=>pa ρ fun x ρ1=>pe ρ1 fun p ρ2=>match cont ρ2 x,p with
 | some (.str l),.dat (.int (-1))=>Q (.dat (.str l.reverse)) ρ2
 | some (.lst ds),.dat (.int (-1))=>Q (.own ds.reverse) ρ2
 | _,_=>False
theorem A6 (ha:LA1 K ta pa) (hb:LE K tb pe):LE K (C8 K ta tb) (C9 pa pe):=fun A ρ σ H Q Q' R q k =>
 ha A ρ σ H _ _ R q fun v H1 a ρ1 q1 f1 R1 o1=>hb A ρ1 σ H1 _ _ R1 q1 fun w H2 p ρ2 q2 f2 o2=>by
  split at q2
  .rename_i l e1
   obtain ⟨R2,fw⟩:=o2
   cases fw
   have fx:=R2.cont (o1.keeps f2.keeps) e1
   exact ⟨rfl,.inl ⟨l,fx.str.1,sz _ fx.str.2,k _ H2 _ ρ2 q2 (f1.trans f2) ⟨R2,.str _ (by rw [List.length_reverse];exact fx.str.2)⟩⟩⟩
  .rename_i ds e1
   obtain ⟨R2,fw⟩:=o2
   cases fw
   obtain ⟨a,xs,rfl,e2,f3⟩:=(R2.cont (o1.keeps f2.keeps) e1).lst
   exact ⟨rfl,.inr ⟨a,xs,rfl,SqL.of e2,fun p hp=>k _ _ _ ρ2 q2 ((f1.trans f2).trans (Gr.new hp).fr) (((d7 hp f3.reverse).out R2 (Gr.new hp)).h0 fun b z=>f2.dm b (f1.dm b z))⟩⟩
  .exact q2.elim
end
end L2
namespace K16
open PySem PySem.Spec PyProof.Rows L2
def top (i:Nat):Stmt:=PySem.Challenge.pw_shortglue_k16_text_of_order.main.body.getD i (.Pass ⟨0,0,0,0⟩)
abbrev nX:Stmt:=top 7
abbrev iQ:Stmt:=top 8
abbrev fJ:Stmt:=top 9
abbrev jD:Stmt:=top 11
abbrev fK:Stmt:=top 12
abbrev jE:Stmt:=top 13
abbrev kS:Stmt:=top 14
abbrev iR:Stmt:=top 15
abbrev qV:Stmt:=top 16
abbrev fu:Stmt:=top 24
abbrev fL:Stmt:=top 25
abbrev A7:Stmt:=top 18
abbrev jF:Stmt:=top 19
abbrev fh:Stmt:=top 27
abbrev eN:Stmt:=top 28
abbrev kT:Stmt:=top 29
abbrev jG:Stmt:=top 30
abbrev cp:Stmt:=ko (top 31) 0
abbrev cq:Stmt:=ko (top 31) 1
abbrev jH:Stmt:=top 33
abbrev jI:Stmt:=top 34
abbrev dy:Stmt:=top 35
abbrev gI:Stmt:=top 36
abbrev kU:Stmt:=top 37
abbrev jJ:Stmt:=top 38
abbrev gJ:Stmt:=top 39
abbrev iS:Stmt:=top 40
abbrev fM:Stmt:=top 41
abbrev fi:Stmt:=top 42
abbrev kW:Stmt:=top 43
abbrev jK:Stmt:=top 44
abbrev yk:Stmt:=top 45
theorem ww:aK ["thing"] ["thing"] (ap nX):=⟨rfl,rfl,rfl,by decide +kernel,rfl,by decide +kernel,by decide +kernel⟩
theorem pX:aK ["thing"] ["thing"] (ap iQ):=⟨rfl,rfl,rfl,by decide +kernel,rfl,by decide +kernel,by decide +kernel⟩
theorem lM:aK ["thing","many"] ["thing","many"] (ap fJ):=⟨rfl,rfl,rfl,by decide +kernel,rfl,by decide +kernel,by decide +kernel⟩
theorem qW:aK ["thing","many"] ["thing","many"] (ap jD):=⟨rfl,rfl,rfl,by decide +kernel,rfl,by decide +kernel,by decide +kernel⟩
theorem lN:aK ["family","order"] ["family","order"] (ap fK):=⟨rfl,rfl,rfl,by decide +kernel,rfl,by decide +kernel,by decide +kernel⟩
theorem eO:aK ["words","laps","row","text","before","number"] ["words","laps","row"] (ap jE):=⟨rfl,rfl,rfl,by decide +kernel,rfl,by decide +kernel,by decide +kernel⟩
theorem tG:aK ["family","order"] ["family","order"] (ap kS):=⟨rfl,rfl,rfl,by decide +kernel,rfl,by decide +kernel,by decide +kernel⟩
theorem eZ:aK ["family","order","starts","before","number"] ["family","order"] (ap iR):=⟨rfl,rfl,rfl,by decide +kernel,rfl,by decide +kernel,by decide +kernel⟩
theorem yl:aK ["family","order"] ["family","order"] (ap qV):=⟨rfl,rfl,rfl,by decide +kernel,rfl,by decide +kernel,by decide +kernel⟩
theorem tH:aK ["thing","least","most"] ["thing","least","most"] (ap fu):=⟨rfl,rfl,rfl,by decide +kernel,rfl,by decide +kernel,by decide +kernel⟩
theorem lO:aK ["text","piece"] ["text","piece"] (ap fL):=⟨rfl,rfl,rfl,by decide +kernel,rfl,by decide +kernel,by decide +kernel⟩
theorem zc:aK ["one","other","k"] ["one","other"] (ap A7):=⟨rfl,rfl,rfl,by decide +kernel,rfl,by decide +kernel,by decide +kernel⟩
theorem qX:aK ["words"] ["words"] (ap jF):=⟨rfl,rfl,rfl,by decide +kernel,rfl,by decide +kernel,by decide +kernel⟩
theorem eP:aK ["things","at","thing"] ["things"] (ap fh):=⟨rfl,rfl,rfl,by decide +kernel,rfl,by decide +kernel,by decide +kernel⟩
theorem j4:aK ["piece","other"] ["piece","other"] (ap eN):=⟨rfl,rfl,rfl,by decide +kernel,rfl,by decide +kernel,by decide +kernel⟩
theorem jL:aK ["pieces","at","piece","longer"] ["pieces","at"] (ap kT):=⟨rfl,rfl,rfl,by decide +kernel,rfl,by decide +kernel,by decide +kernel⟩
theorem kX:aK ["pieces","kept","at","holder"] ["pieces","kept","at"] (ap jG):=⟨rfl,rfl,rfl,by decide +kernel,rfl,by decide +kernel,by decide +kernel⟩
theorem ip:aK ["self","pieces","indexes"] ["self","pieces"] (ap cp):=⟨rfl,rfl,rfl,by decide +kernel,rfl,by decide +kernel,by decide +kernel⟩
theorem lP:aK ["self"] ["self"] (ap cq):=⟨rfl,rfl,rfl,by decide +kernel,rfl,by decide +kernel,by decide +kernel⟩
theorem qY:aK ["_law_script","_law_k"] ["_law_script","_law_k"] (ap jH):=⟨rfl,rfl,rfl,by decide +kernel,rfl,by decide +kernel,by decide +kernel⟩
theorem iT:aK ["_law_script","_law_k","_law_many","_law_a"] ["_law_script","_law_k","_law_many"] (ap jI):=⟨rfl,rfl,rfl,by decide +kernel,rfl,by decide +kernel,by decide +kernel⟩
theorem aR:aK ["_law_cell_here","_law_most","_law_pieces_here","_law_piece","_law_signs","_law_digit"] ["_law_cell_here","_law_most"] (ap dy):=⟨rfl,rfl,rfl,by decide +kernel,rfl,by decide +kernel,by decide +kernel⟩
theorem bN:aK ["_law_script","_law_most","_law_letters","_law_text","_law_k","_law_pieces_here","_law_at"] ["_law_script","_law_most"] (ap gI):=⟨rfl,rfl,rfl,by decide +kernel,rfl,by decide +kernel,by decide +kernel⟩
theorem mF:aK ["_law_one","_law_other","_law_k"] ["_law_one","_law_other"] (ap kU):=⟨rfl,rfl,rfl,by decide +kernel,rfl,by decide +kernel,by decide +kernel⟩
theorem eQ:aK ["_law_pieces_here","_law_kept_here","_law_k","_law_piece","_law_longer"] ["_law_pieces_here"] (ap jJ):=⟨rfl,rfl,rfl,by decide +kernel,rfl,by decide +kernel,by decide +kernel⟩
theorem nY:aK ["_law_found","_law_due_here"] ["_law_found","_law_due_here"] (ap gJ):=⟨rfl,rfl,rfl,by decide +kernel,rfl,by decide +kernel,by decide +kernel⟩
theorem gK:aK ["_law_script","_law_many","_law_order_here","_law_k"] ["_law_script","_law_many"] (ap iS):=⟨rfl,rfl,rfl,by decide +kernel,rfl,by decide +kernel,by decide +kernel⟩
theorem cU:aK ["_law_script","_law_order_here","_law_wrong","_law_at","_law_kind"] ["_law_script","_law_order_here"] (ap fM):=⟨rfl,rfl,rfl,by decide +kernel,rfl,by decide +kernel,by decide +kernel⟩
theorem dA:aK ["_law_family","_law_wrong","_law_names","e"] ["_law_family","_law_wrong"] (ap fi):=⟨rfl,rfl,rfl,by decide +kernel,rfl,by decide +kernel,by decide +kernel⟩
theorem dG:aK ["_law_words","_law_order_here","_law_text","_law_starts","_law_k","_law_shared"] ["_law_words","_law_order_here"] (ap kW):=⟨rfl,rfl,rfl,by decide +kernel,rfl,by decide +kernel,by decide +kernel⟩
theorem cI:aK ["_law_family","_law_words","_law_order_here","_law_text","_law_starts","_law_found","_law_spots","_law_word","_law_place","_law_start"] ["_law_family","_law_words","_law_order_here"] (ap jK):=⟨rfl,rfl,rfl,by decide +kernel,rfl,by decide +kernel,by decide +kernel⟩
theorem gL:aK ["_law_script","_law_pieces_here","_law_family","_law_words","_law_many","_law_order_here","_law_wrong","_law_thing","_law_none","_law_held","_law_strange"] ["_law_script"] (ap yk):=⟨rfl,rfl,rfl,by decide +kernel,rfl,by decide +kernel,by decide +kernel⟩
structure Txt (mg:Str->Option Value):Prop where
 b_ValueError:mg "ValueError"=none
 b_abs:mg "abs"=none
 b_all:mg "all"=none
 b_any:mg "any"=none
 b_bool:mg "bool"=none
 b_enumerate:mg "enumerate"=none
 b_int:mg "int"=none
 b_isinstance:mg "isinstance"=none
 b_len:mg "len"=none
 b_list:mg "list"=none
 b_min:mg "min"=none
 b_range:mg "range"=none
 b_sorted:mg "sorted"=none
 b_str:mg "str"=none
 b_sum:mg "sum"=none
 b_tuple:mg "tuple"=none
 b_zip:mg "zip"=none
 g_MOST_PIECES:∃t,mg "MOST_PIECES"=some (.int 40 t)
 g_MOST_SIGNS:∃t,mg "MOST_SIGNS"=some (.int 60 t)
abbrev cW:Stmt:=ko (top 2) 0
theorem kY:aK ["self","most"] ["self","most"] (ap cW):=⟨rfl,rfl,rfl,by decide +kernel,rfl,by decide +kernel,by decide +kernel⟩
abbrev cX:Stmt:=ko (top 3) 0
theorem kZ:aK ["self","at"] ["self","at"] (ap cX):=⟨rfl,rfl,rfl,by decide +kernel,rfl,by decide +kernel,by decide +kernel⟩
abbrev dW:Stmt:=ko (top 4) 0
theorem nZ:aK ["self","k"] ["self","k"] (ap dW):=⟨rfl,rfl,rfl,by decide +kernel,rfl,by decide +kernel,by decide +kernel⟩
abbrev xcs:List Str:=["TooMany","NoPiece","NoLap","NoOrder"]
abbrev Fp:List (Str×Str):=[("TooMany","most"),("NoPiece","at"),("NoLap","k")]
structure TxX (K:PySem.W.Frag) (mg:Str->Option Value):Prop where
 all:y0 K xcs
 at_:∀c g,(c,g)∈Fp->PySem.W.findIn K (.ref (aP K c)) g=some none
 m_TooMany:mg "TooMany"=some (.ref (aP K "TooMany"))
 m_NoPiece:mg "NoPiece"=some (.ref (aP K "NoPiece"))
 m_NoLap:mg "NoLap"=some (.ref (aP K "NoLap"))
 m_NoOrder:mg "NoOrder"=some (.ref (aP K "NoOrder"))
 m_GlueError:mg "GlueError"=some (.ref (aP K "GlueError"))
 d_TooMany:XD K (aP K "TooMany")
 d_NoPiece:XD K (aP K "NoPiece")
 d_NoLap:XD K (aP K "NoLap")
 d_NoOrder:XD K (aP K "NoOrder")
 d_GlueError:XD K (aP K "GlueError")
 z_NoOrder:X0 K (aP K "NoOrder")
 kp_NoOrder:PySem.W.keepIn K (.ref (aP K "NoOrder"))=true
structure TxC (K:PySem.W.Frag):Prop where
 cl_Family:Cls K (aP K "Family")
 n_Family_pieces:eV K (aP K "Family") "pieces"
 n_Family_kept:eV K (aP K "Family") "kept"
 n_Family_words:eV K (aP K "Family") "words"
 n_Family_left:eV K (aP K "Family") "left"
 n_Family_laps:eV K (aP K "Family") "laps"
 n_Family_total:eV K (aP K "Family") "total"
local macro_rules | `(tactic| walk_at "s")=>`(tactic| first | (with_reducible omega) | (with_reducible assumption) | (with_reducible rfl) | exact Nat.le_of_ble_eq_true rfl | (simp only [List.length_cons,List.length_nil,List.length_append,List.length_map];(with_reducible omega)) | assumption | rfl | (refine ⟨?_,?_⟩ <;> first | (with_reducible omega) | (with_reducible assumption) | (with_reducible rfl) | exact Nat.le_of_ble_eq_true rfl | assumption | rfl | (refine ⟨?_,?_⟩ <;> first | (with_reducible omega) | (with_reducible assumption) | (with_reducible rfl) | exact Nat.le_of_ble_eq_true rfl | assumption | rfl | (refine ⟨?_,?_⟩ <;> first | (with_reducible omega) | (with_reducible assumption) | (with_reducible rfl) | exact Nat.le_of_ble_eq_true rfl | assumption | rfl | fail) | fail) | fail) | omega | fail)
local macro_rules | `(tactic| walk_at "r")=>`(tactic| ((try dsimp only [List.set_cons_zero,List.set_cons_succ,wb,wc,wd,CY,CZ,pS,mD,mE,sx,sy,List.tail_cons,pT,pU,sA]);(conv=>whnf);(repeat (first | ((with_reducible refine And.intro ?_ ?_);(next=>walk_at "s");(conv=>whnf)) | ((with_reducible refine (show Exists _ from ?_));(first | (refine ⟨_,rfl,?_⟩) | (refine ⟨_,iO.lst _,?_⟩) | (refine ⟨_,iO.tup _,?_⟩));(conv=>whnf)) | ((refine (show iW _ _ _ from ?_));(first | (with_reducible refine Fz (by assumption) ?_) | (with_reducible refine Dk (by assumption) ?_) | (with_reducible refine D1 (by assumption) ?_) | (with_reducible refine Ac (by assumption) ?_) | ((with_reducible refine DZ ?_ ?_);(next=>(first | (with_reducible rfl) | (with_reducible assumption) | (with_reducible omega)))) | ((with_reducible refine D0 ?_ ?_);(next=>(first | (with_reducible rfl) | (with_reducible assumption) | (with_reducible omega)))) | ((with_reducible refine Ch ?_ ?_);(next=>(first | (with_reducible rfl) | (with_reducible assumption) | (with_reducible omega)))) | ((with_reducible refine yI ?_ ?_);(next=>(first | (with_reducible rfl) | (with_reducible assumption) | (with_reducible omega)))));(conv=>whnf))));(try refine (show iW _ _ _ from ?_));(try dsimp only [List.set_cons_zero,List.set_cons_succ,wb,wc,wd,CY,CZ,pS,mD,mE,sx,sy,List.tail_cons,pT,pU,sA])))
theorem Fq {b:Bool} (h:b=true):(if true=true then !decide (b=true) else decide (b=true))=false:=by subst h;rfl
theorem FK {b:Bool} (h:b=false):(if true=true then !decide (b=false) else decide (b=false))=false:=by subst h;rfl
theorem qZ {ds:List D}{k:Nat} (h:k < ds.length):itD ds k∈ds:=by unfold itD;rw [List.getD_eq_getElem?_getD,List.getElem?_eq_getElem h];exact List.getElem_mem h
def pY:Nat:=1
def cY:FN
 | [d],Q=>d.sort=true/\Q (.dat (.bl (vw d)))
 | _,_=>False
def jU:Nat:=1
def bA:FN
 | [d],Q=>d.sort=true/\Q (.dat (.bl (j2 d)))
 | _,_=>False
def iq:Nat:=2
def bi:FN
 | [d,.int m],Q=>Srt d/\(bu d).length<=1000000/\Q (.dat (.bl (du d m)))
 | _,_=>False
def k6:Nat:=2
def cN (d:D) (m:Int):Bool:=du d m && decide (((bu d).map toI).Perm (nN m.toNat))
theorem gM (js:List Nat):js.map nD=(js.map fun j=>((j:Nat):Int)).map D.int:=by rw [List.map_map];rfl
theorem hX {js:List Nat}{n:Nat}{d:D} (hd:iO d (js.map nD)) (hp:js.Perm (List.range n)):cN d n=true:=by
 have hl:js.length=n:=by rw [hp.length_eq,List.length_range]
 unfold cN du
 rw [Bool.and_eq_true,Bool.and_eq_true,Bool.and_eq_true,hd.items]
 refine ⟨⟨by rcases hd with rfl | rfl <;> rfl,decide_eq_true (by rw [List.length_map,hl]),?_⟩,decide_eq_true ?_⟩
 .rw [gM,List.all_map];exact List.all_eq_true.mpr fun _ _=>rfl
 .rw [gM,List.map_map]
  show ((js.map fun j=>((j:Nat):Int)).map id).Perm _
  rw [List.map_id,Int.toNat_natCast]
  exact hp.map _
theorem n0 {d:D}{n:Nat} (h:cN d n=true):∃js:List Nat,iO d (js.map nD)/\js.Perm (List.range n):=by
 unfold cN at h
 rw [Bool.and_eq_true,decide_eq_true_eq,Int.toNat_natCast] at h
 obtain ⟨c,hp⟩:=h
 unfold du at c
 rw [Bool.and_eq_true,Bool.and_eq_true] at c
 obtain ⟨c1,c2,c3⟩:=c
 have fE:∀zs:List Int,zs.Perm (nN n)->∃js:List Nat,zs=js.map (fun j=>((j:Nat):Int))/\js.Perm (List.range n):=fun zs hz=>by
  refine ⟨zs.map Int.toNat,?_,?_⟩
  .rw [List.map_map]
   have:∀z∈zs,((z.toNat:Nat):Int)=z:=fun z m=>by
    have:=hz.mem_iff.mp m
    unfold nN at this
    obtain ⟨k,_,e⟩:=List.mem_map.mp this
    omega
   conv=>lhs;rw [<- List.map_id zs]
   exact List.map_congr_left fun z m=>(this z m).symm
  .have:=hz.map Int.toNat
   unfold nN at this
   rw [List.map_map] at this
   have e:(List.range n).map (Int.toNat ∘ fun k=>((k:Nat):Int))=List.range n:=by
    conv=>rhs;rw [<- List.map_id (List.range n)]
    exact List.map_congr_left fun k _=>Int.toNat_natCast k
   rw [e] at this
   exact this
 obtain ⟨js,e,hj⟩:=fE _ hp
 refine ⟨js,?_,hj⟩
 have e2:bu d=js.map nD:=by rw [nG c3,e,gM]
 cases d with
 | lst ds=>exact .inl (congrArg D.lst e2)
 | tup ds=>exact .inr (congrArg D.tup e2)
 | _=>cases c1
theorem mG {js:List Nat}{n:Nat} (h:js.Perm (List.range n)) {j:Nat} (hj:j∈js):j < n:=List.mem_range.mp (h.mem_iff.mp hj)
theorem fN {js:List Nat}{n:Nat} (h:js.Perm (List.range n)):js.length=n:=by rw [h.length_eq,List.length_range]
theorem Da {js ks:List Nat} (e:js.map nD=ks.map nD):js=ks:=by
 have:=congrArg (List.map toI) e
 rw [gM,gM,List.map_map,List.map_map,List.map_map,List.map_map] at this
 have:=congrArg (List.map Int.toNat) this
 rw [List.map_map,List.map_map] at this
 have id1:∀l:List Nat,l.map (Int.toNat ∘ (toI ∘ D.int) ∘ fun j=>((j:Nat):Int))=l:=fun l=>by
  conv=>rhs;rw [<- List.map_id l]
  exact List.map_congr_left fun k _=>Int.toNat_natCast k
 rw [id1,id1] at this
 exact this
theorem A8 {d:D}{js ks:List Nat} (h1:iO d (js.map nD)) (h2:iO d (ks.map nD)):js=ks:=Da (h1.items.symm.trans h2.items)
def aY:FN
 | [d,.int m],Q=>Srt d/\((bu d).length<=60/\0<=m/\m<=60)/\Q (.dat (.bl (cN d m)))
 | _,_=>False
def ir:Nat:=2
def aJ:FX
 | [.obj c ns fs,d],Q,E=>c="Family"/\ns=kM/\∃ps:List (List Nat),fs=kN ps/\(Srt d/\(bu d).length<=60/\(ah ps).length<=60)/\(cN d ((ah ps).length:Nat)=false->E (.exc "NoOrder" [] []))/\(cN d ((ah ps).length:Nat)=true->Q (.dat .non))
 | _,_,_=>False
def k8:Nat:=6
theorem n5 {ws:List (List Nat)}{i:Int}{k:Nat} (h:k < ws.length) (e:i=(k:Int)):atI (ws.map fun w=>D.tup (ws.map fun v=>.int (f9 w v:Int))) i=some (.tup (ws.map fun v=>.int (f9 (pw ws k) v:Int))) :=
 eC (j:=k) (by rw [List.getElem?_map,f8 h];rfl) e
theorem q0 {ws:List (List Nat)}{u:List Nat}{i:Int}{k:Nat} (h:k < ws.length) (e:i=(k:Int)):atI (ws.map fun v=>D.int (f9 u v:Int)) i=some (.int (f9 u (pw ws k):Int)) :=
 eC (j:=k) (by rw [List.getElem?_map,f8 h];rfl) e
theorem wx {ws:List (List Nat)}{m:Nat} (hw:∀j,(pw ws j).length<=m):∀js:List Nat,(glN ws js).length<=js.length * m:=by
 have go:∀(r:List Nat) (i:Nat),(glT ws i r).length<=r.length * m:=fun r=>by
  induction r with
  | nil=>intro i;exact Nat.zero_le _
  | cons j r ih =>
   intro i
   show ((pw ws j).drop _++glT ws j r).length<=_
   rw [List.length_append,List.length_drop,List.length_cons,Nat.succ_mul]
   have:=ih j
   have:=hw j
   omega
 intro js
 cases js with
 | nil=>exact Nat.zero_le _
 | cons j r =>
  show (pw ws j++glT ws j r).length<=_
  rw [List.length_append,List.length_cons,Nat.succ_mul]
  have:=go r j
  have:=hw j
  omega
theorem ym {ws:List (List Nat)}{m:Nat} (hw:∀w∈ws,w.length<=m) (j:Nat):(pw ws j).length<=m:=by
 by_cases h:j < ws.length
 .exact hw _ (gE h)
 .unfold pw
  rw [List.getD_eq_getElem?_getD,List.getElem?_eq_none (by omega)];exact Nat.zero_le _
theorem wy (ws:List (List Nat)) (js:List Nat):((js.take 1).map (pw ws)).flatten=glN ws (js.take 1):=by
 cases js with
 | nil=>rfl
 | cons j r=>rfl
def bS:FN
 | [.tup ds,d2,d],Q=>∃ws:List (List Nat),ds=ws.map .str/\d2=x5 ws/\(ws.length<=60/\∀w∈ws,w.length<=60)/\∃js:List Nat,iO d (js.map nD)/\(js.length<=60/\∀j∈js,j < ws.length)/\Q (.dat (.str (glN ws js)))
 | _,_=>False
def mH:Nat:=2
def br:FX
 | [.obj c ns fs,d],Q,E=>c="Family"/\ns=kM/\∃ps:List (List Nat),fs=kN ps/\(Srt d/\(bu d).length<=60/\(ah ps).length<=60/\∀w∈ah ps,w.length<=60)/\(cN d ((ah ps).length:Nat)=false->E (.exc "NoOrder" [] []))/\∀js:List Nat,iO d (js.map nD)->js.Perm (List.range (ah ps).length)->Q (.dat (.str (glN (ah ps) js)))
 | _,_,_=>False
def jV:Nat:=5
def stK (ws:List (List Nat)) (js:List Nat) (k:Nat):Nat:=(glN ws (js.take (k + 1))).length - (pw ws (js.getD k 0)).length
def stR (ws:List (List Nat)) (js:List Nat) (n t:Nat):List Int:=(List.range n).map fun x=>if js.idxOf x < t then (stK ws js (js.idxOf x):Int) else 0
theorem wz {α:Type} (f:Nat->α) (n j:Nat) (v:α):((List.range n).map f).set j v=(List.range n).map fun x=>if x=j then v else f x:=by
 apply List.ext_getElem?
 intro i
 rw [List.getElem?_set,List.getElem?_map,List.getElem?_map,List.length_map,List.length_range]
 by_cases hi:i < n
 .rw [List.getElem?_range hi]
  by_cases e:j=i
  .subst e;rw [if_pos rfl,if_pos hi];show some v=some (if j=j then v else f j);rw [if_pos rfl]
  .rw [if_neg e];show some (f i)=some (if i=j then v else f i);rw [if_neg (Ne.symm e)]
 .rw [List.getElem?_eq_none (by rw [List.length_range];omega)]
  by_cases e:j=i
  .rw [if_pos e,if_neg (by omega)];rfl
  .rw [if_neg e];rfl
theorem getD_mem {js:List Nat}{k:Nat} (h:k < js.length):js.getD k 0∈js:=by
 rw [List.getD_eq_getElem?_getD,List.getElem?_eq_getElem h];exact List.getElem_mem h
theorem zd {ws:List (List Nat)}{js:List Nat} (hw:∀j∈js,0 < (pw ws j).length) {k:Nat} (h:k < js.length):pw ws (js.getD k 0) <:+ glN ws (js.take (k + 1)):=by
 have e:js.take (k + 1)=js.take k++[js.getD k 0]:=by
  rw [List.take_succ,List.getD_eq_getElem?_getD,List.getElem?_eq_getElem h];rfl
 rw [e]
 refine AY fun j hj=>hw j ?_
 rcases List.mem_append.mp hj with z | z
 .exact List.mem_of_mem_take z
 .rw [List.mem_singleton.mp z];exact getD_mem h
theorem n6 {ws:List (List Nat)}{js:List Nat} (hw:∀j∈js,0 < (pw ws j).length) {k:Nat} (h:k < js.length):stK ws js k + (pw ws (js.getD k 0)).length=(glN ws (js.take (k + 1))).length:=by
 have:=(zd hw h).length_le
 unfold stK;omega
theorem sD {ws:List (List Nat)}{js:List Nat} (h:0 < js.length):stK ws js 0=0:=by
 match js,h with
 | j::r,_ =>
  show (pw ws j++glT ws j []).length - (pw ws j).length=0
  rw [List.length_append]
  show (pw ws j).length + 0 - (pw ws j).length=0
  omega
theorem sE {ws:List (List Nat)}{js:List Nat} (hw:∀j∈js,0 < (pw ws j).length) {k:Nat} (h:k + 1 < js.length) :
  (stK ws js (k + 1):Int)=(stK ws js k:Int) + ((pw ws (js.getD k 0)).length:Int) - (f9 (pw ws (js.getD k 0)) (pw ws (js.getD (k + 1) 0)):Int):=by
 have e0:=n6 hw (show k < js.length by omega)
 have e1:=n6 hw h
 have e2:=congrArg List.length (nV (ws:=ws) h)
 rw [List.length_append,List.length_drop,if_neg (by omega),show k + 1 - 1=k by omega] at e2
 have hl:=nJ (hw _ (getD_mem (show k < js.length by omega))) (hw _ (getD_mem h))
 have:=hl.1
 omega
theorem ze {js:List Nat} (nd:js.Nodup) {k:Nat} (h:k < js.length):js.idxOf (js.getD k 0)=k:=by
 have m:=getD_mem h
 have l:=List.idxOf_lt_length_of_mem m
 have e:=List.getElem_idxOf l
 have g:js.getD k 0=js[k]:=by rw [List.getD_eq_getElem?_getD,List.getElem?_eq_getElem h];rfl
 exact (List.getElem_inj (h₀:=l) (h₁:=h) nd).mp (e.trans g)
theorem rc {ws:List (List Nat)}{js:List Nat}{n:Nat} (hp:js.Perm (List.range n)) {t:Nat} (ht:t < js.length):(stR ws js n t).set (js.getD t 0) (stK ws js t:Int)=stR ws js n (t + 1):=by
 have nd:js.Nodup:=hp.nodup_iff.mpr List.nodup_range
 unfold stR
 rw [wz]
 refine List.map_congr_left fun x hx=>?_
 have mx:x∈js:=hp.mem_iff.mpr hx
 have lx:=List.idxOf_lt_length_of_mem mx
 have ex:js.getD (js.idxOf x) 0=x:=by rw [List.getD_eq_getElem?_getD,List.getElem?_eq_getElem lx,List.getElem_idxOf lx];rfl
 by_cases e:x=js.getD t 0
 .rw [if_pos e,e,ze nd ht,if_pos (by omega)]
 .rw [if_neg e]
  have ne:js.idxOf x≠t:=fun z=>e (by rw [<- z,ex])
  by_cases l:js.idxOf x < t
  .rw [if_pos l,if_pos (by omega)]
  .rw [if_neg l,if_neg (by omega)]
theorem n8 (ws:List (List Nat)) (js:List Nat) (n:Nat):stR ws js n 0=List.replicate n 0:=by
 unfold stR
 apply List.ext_getElem?
 intro i
 rw [List.getElem?_map]
 by_cases hi:i < n
 .rw [List.getElem?_range hi,List.getElem?_replicate,if_pos hi];rfl
 .rw [List.getElem?_eq_none (by rw [List.length_range];omega),List.getElem?_replicate,if_neg hi];rfl
theorem zf {ws:List (List Nat)}{js:List Nat}{n:Nat} (hp:js.Perm (List.range n)) {k t:Nat} (hk:k < t) (h:k < js.length):(stR ws js n t)[js.getD k 0]?=some (stK ws js k:Int):=by
 have nd:js.Nodup:=hp.nodup_iff.mpr List.nodup_range
 have:=mG hp (getD_mem h)
 unfold stR
 rw [List.getElem?_map,List.getElem?_range this]
 show some (if _ then _ else _)=_
 rw [ze nd h,if_pos hk]
theorem tI {ws:List (List Nat)}{js:List Nat} (hw:∀j∈js,0 < (pw ws j).length) {k:Nat} (h:k < js.length):((glN ws js).drop (stK ws js k)).take (pw ws (js.getD k 0)).length=pw ws (js.getD k 0):=by
 obtain ⟨a,ea⟩:=zd hw h
 obtain ⟨b,eb⟩:=AZ (ws:=ws) (js.take (k + 1)) (js.drop (k + 1))
 rw [List.take_append_drop] at eb
 have l:=n6 hw h
 rw [<- ea,List.length_append] at l
 have la:stK ws js k=a.length:=by omega
 rw [la,<- eb,<- ea,List.append_assoc,List.drop_left,List.take_left]
theorem A9 {ws:List (List Nat)}{js:List Nat} (n:Nat) (h:0 < js.length):stR ws js n 1=stR ws js n 0:=by
 unfold stR
 refine List.map_congr_left fun x _=>?_
 by_cases e:js.idxOf x < 1
 .rw [if_pos e,if_neg (by omega),show js.idxOf x=0 by omega,sD h];rfl
 .rw [if_neg e,if_neg (by omega)]
theorem yn {ws:List (List Nat)}{js:List Nat} (n:Nat):stR ws js n (js.take 1).length=stR ws js n 0:=by
 rw [List.length_take]
 by_cases h:0 < js.length
 .rw [show min 1 js.length=1 by omega];exact A9 n h
 .rw [show min 1 js.length=0 by omega]
theorem n9 (ws:List (List Nat)) (js:List Nat) (n t:Nat):(stR ws js n t).length=n:=by unfold stR;rw [List.length_map,List.length_range]
theorem zg {ws:List (List Nat)}{js:List Nat} (hw:∀j∈js,0 < (pw ws j).length) {k:Nat} (h:k < js.length) :
  ((glN ws (js.take k)).length:Int) - (((if k=0 then 0 else f9 (pw ws (js.getD (k - 1) 0)) (pw ws (js.getD k 0)):Nat)):Int)=(stK ws js k:Int):=by
 cases k with
 | zero=>rw [if_pos rfl,sD h];rfl
 | succ k =>
  rw [if_neg (by omega),sE hw h,show k + 1 - 1=k by omega,<- n6 hw (show k < js.length by omega)]
  omega
def aW:FX
 | [.obj c ns fs,d],Q,E=>c="Family"/\ns=kM/\∃ps:List (List Nat),fs=kN ps/\(Srt d/\(bu d).length<=60/\(ah ps).length<=60/\∀w∈ah ps,0 < w.length/\w.length<=60)/\(cN d ((ah ps).length:Nat)=false->E (.exc "NoOrder" [] []))/\∀js:List Nat,iO d (js.map nD)->js.Perm (List.range (ah ps).length)->Q (.dat (.tup ((stR (ah ps) js (ah ps).length js.length).map .int)))
 | _,_,_=>False
def sF:Nat:=2
def bY:FX
 | [.obj c ns fs,d],Q,E=>c="Family"/\ns=kM/\∃ps:List (List Nat),fs=kN ps/\(Srt d/\(bu d).length<=60/\(ah ps).length<=60/\∀w∈ah ps,w.length<=60)/\(cN d ((ah ps).length:Nat)=false->E (.exc "NoOrder" [] []))/\∀js:List Nat,iO d (js.map nD)->js.Perm (List.range (ah ps).length)->Q (.dat (.int (Du (ah ps) js:Int)))
 | _,_,_=>False
def mI:Nat:=3
def cO:FN
 | [d,.int a,.int b],Q=>d.sort=true/\Ev d<=1000000/\Q (.dat (.bl (xM d a b)))
 | _,_=>False
def iu:Nat:=2
def aU:FN
 | [.str a,.str b],Q=>Q (.dat (.int (fnd a b 0)))
 | _,_=>False
def zh:Nat:=3
def gc:FN
 | [.str a,.str b],Q=>(0 < a.length/\a.length<=10000)/\(0 < b.length/\b.length<=10000)/\Q (.dat (.int (f9 a b:Int)))
 | _,_=>False
def k9:Nat:=1
def bU:FN
 | [.tup ds],Q=>∃ws:List (List Nat),ds=ws.map .str/\(ws.length<=1000/\∀w∈ws,0 < w.length/\w.length<=10000)/\Q (.dat (x5 ws))
 | _,_=>False
def gN:Nat:=3
def bb:FN
 | [d],Q=>∃ws:List (List Nat),iO d (ws.map .str)/\(ws.length<=40/\Pcs 60 ws)/\Q (.dat .non)
 | _,_=>False
def gf:Nat:=2
def aG:FN
 | [.str a,.str b],Q=>Q (.dat (.bl (gq a b)))
 | _,_=>False
def mJ:Nat:=4
def cb:FN
 | [.tup ds,.int i],Q=>∃ws:List (List Nat),ds=ws.map .str/\(ws.length<=1000/\∀w∈ws,w.length<=10000)/\(0<=i/\i < (ws.length:Int))/\Q (.dat (.bl (dF ws i.toNat)))
 | _,_=>False
def lc:Nat:=4
def bH:FN
 | [.tup ds,.tup ks,.int i],Q=>∃ws:List (List Nat),ds=ws.map .str/\ks=(aO ws).map nD/\(ws.length<=1000/\∀w∈ws,w.length<=60)/\(0<=i/\i < (ws.length:Int))/\Q (.dat (eM ws i.toNat))
 | _,_=>False
def iw:Nat:=3
def bj:FR
 | .ins "Family" [] [],[d],Q=>∃ws:List (List Nat),iO d (ws.map .str)/\(ws.length<=40/\Pcs 60 ws)/\Q (.dat .non) (.ins "Family" kM (kN ws))
 | _,_,_=>False
def iy:Nat:=1
def bn:FN
 | [.obj c ns fs],Q=>c="Family"/\ns=kM/\∃ws:List (List Nat),fs=kN ws/\Q (.dat (.int ((ah ws).length:Int)))
 | _,_=>False
def lf:Nat:=2
def bg:FN
 | [.scr ns,.int k],Q=>(0<=k/\k<=1000000)/\∀x:Int,0<=x->Q (.dat (.int x))
 | _,_=>False
def lg:Nat:=4
def aC:FN
 | [.scr ns,.int k,.int m],Q=>(0<=k/\k<=10000)/\(0 < m/\m<=1000000)/\∀x:Int,0<=x->x < m->Q (.dat (.int x))
 | _,_=>False
def eR:Nat:=6
abbrev Fs:List Nat:=[97,98,99,100,101,102,103,104,105,106,107,108,109,110,111,112,113,114,115,116,117,118,119,120,121,122]
theorem yo:Lts Fs:=kH.mp (by decide)
def aM:FN
 | [.int c,.int mo],Q=>0<=c/\(0 < mo/\mo<=40)/\∀ps:List (List Nat),ps.length<=mo.toNat->Pcs 9 ps->Q (.dat (.lst (ps.map .str)))
 | _,_=>False
def jk:Nat:=7
def bz:FN
 | [.scr ns,.int mo],Q=>(0 < mo/\mo<=40)/\∀ps:List (List Nat),ps.length<=mo.toNat->Pcs 9 ps->Q (.dat (.lst (ps.map .str)))
 | _,_=>False
def mK:Nat:=3
def cu:FN
 | [.str a,.str b],Q=>(0 < a.length/\a.length<=10000)/\(0 < b.length/\b.length<=10000)/\Q (.dat (.int (f9 a b:Int)))
 | _,_=>False
def lh:Nat:=5
def bI:FN
 | [.lst ds],Q=>∃ps:List (List Nat),ds=ps.map .str/\(ps.length<=40/\∀w∈ps,w.length<=60)/\Q (.dat (.lst ((aO ps).map nD)))
 | _,_=>False
def jl:Nat:=2
def aS:FN
 | [.int a,.int b],Q=>Q (.dat (.bl (decide (a=b))))
 | _,_=>False
def jW:Nat:=4
def bF:FN
 | [.scr ns,.int m],Q=>(0<=m/\m<=40)/\∀js:List Nat,js.Perm (List.range m.toNat)->Q (.dat (.lst (js.map nD)))
 | _,_=>False
def iA:Nat:=5
theorem tJ {n:Nat}{zs:List Int}{z:Int} (hz:z∈zs) (h:z < 0\/(n:Int)<=z):¬ zs.Perm (nN n):=fun hp=>by
 have:=hp.mem_iff.mp hz
 unfold nN at this
 obtain ⟨k,hk,e⟩:=List.mem_map.mp this
 have:=List.mem_range.mp hk
 omega
theorem Ba (n:Nat):(nN n).Nodup:=by
 unfold nN
 exact List.Pairwise.map (fun k:Nat=>(k:Int)) (fun a b (h:a≠b)=>by omega) List.nodup_range
theorem tK {n:Nat}{zs:List Int} (h:¬ zs.Nodup):¬ zs.Perm (nN n):=fun hp=>h (hp.nodup_iff.mpr (Ba n))
theorem sG {zs:List Int}{n:Nat}{d:D} (hd:iO d (zs.map .int)) (h:¬ zs.Perm (nN n)):cN d (n:Int)=false:=by
 unfold cN
 rw [hd.items,show (zs.map D.int).map toI=zs by rw [List.map_map];exact List.map_id' _,Int.toNat_natCast,decide_eq_false h,Bool.and_false]
theorem wA {d:D}{n:Int}{x:D} (hx:x∈bu d) (h:j2 x=false):cN d n=false:=by
 unfold cN du
 rw [show (bu d).all j2=false from List.all_eq_false.mpr ⟨x,hx,by rw [h];decide⟩,Bool.and_false,Bool.and_false,Bool.false_and]
theorem pZ {d:D}{n:Int} (h:vw d=false):cN d n=false:=by
 unfold cN du
 rw [h,Bool.false_and,Bool.false_and]
theorem fO {d:D}{n:Int} (h:((bu d).length:Int)≠n):cN d n=false:=by
 unfold cN du
 rw [decide_eq_false h,Bool.false_and,Bool.and_false,Bool.false_and]
theorem oa {d:D}{zs:List Int} (hd:iO d (zs.map .int)):Srt d:=by
 refine ⟨by rcases hd with rfl | rfl <;> rfl,fun x hx=>?_⟩
 rw [hd.items] at hx
 obtain ⟨z,_,rfl⟩:=List.mem_map.mp hx
 rfl
theorem yp {α:Type} (xs:List α) (i:Int) (y:α):(insN xs i y).length=xs.length + 1:=by
 unfold insN
 rw [List.length_append,List.length_append,List.length_take,List.length_drop];show _ + 1 + _=_;omega
theorem yq {α:Type}{xs:List α}{i:Int}{y x:α} (h:x∈insN xs i y):x=y\/x∈xs:=by
 unfold insN at h
 rcases List.mem_append.mp h with z | z
 .rcases List.mem_append.mp z with z | z
  .exact .inr (List.mem_of_mem_take z)
  .exact .inl (List.mem_singleton.mp z)
 .exact .inr (List.mem_of_mem_drop z)
theorem Bb {zs:List Int}{i p:Nat} (hi:i < zs.length) (hp:p < zs.length) (h:p≠i):¬ (zs.set i (zs.getD p 0)).Nodup:=fun nd=>by
 have g1:(zs.set i (zs.getD p 0))[i]?=some (zs.getD p 0):=by rw [List.getElem?_set,if_pos rfl,if_pos hi]
 have g2:(zs.set i (zs.getD p 0))[p]?=some (zs.getD p 0):=by rw [List.getElem?_set,if_neg (Ne.symm h),List.getD_eq_getElem?_getD,List.getElem?_eq_getElem hp];rfl
 exact h ((List.getElem?_inj (by rw [List.length_set];exact hp) nd).mp (g2.trans g1.symm))
def bo:FN
 | [.scr ns,.lst ds],Q=>∃js:List Nat,ds=js.map nD/\(js.Perm (List.range js.length)/\js.length<=40)/\∀xs:List D,xs.length<=41->(∀x∈xs,x.sort=true)->(∀d:D,iO d xs->cN d (js.length:Nat)=false)->Q (.dat (.lst xs))
 | _,_=>False
def gO:Nat:=4
def bc:FN
 | [.obj c ns fs,d],Q=>c="Family"/\ns=kM/\∃ps:List (List Nat),fs=kN ps/\(Srt d/\(bu d).length<=60/\(ah ps).length<=60/\∀w∈ah ps,0 < w.length/\w.length<=60)/\cN d ((ah ps).length:Nat)=false/\Q (.dat (.lst [.bl true,.bl true,.bl true]))
 | _,_=>False
def mL:Nat:=6
def cv:FN
 | [.lst es,d],Q=>∃ws:List (List Nat),es=ws.map .str/\(ws.length<=60/\∀w∈ws,0 < w.length/\w.length<=60)/\∃js:List Nat,iO d (js.map nD)/\js.Perm (List.range ws.length)/\Q (.dat (.tup [.str (glN ws js),.lst ((stR ws js ws.length js.length).map .int)]))
 | _,_=>False
def lj:Nat:=10
theorem wB {ws:List (List Nat)}{js:List Nat} (hp:js.Perm (List.range ws.length)) (hpos:∀j∈js,0 < (pw ws j).length):(Du ws js:Int)=(ws.map fun w=>(w.length:Int)).sum - ((glN ws js).length:Int):=by
 have e:=AX hpos
 have e2:(js.map fun j=>(pw ws j).length).sum=((List.range ws.length).map fun j=>(pw ws j).length).sum:=(hp.map _).sum_nat
 have e3:(List.range ws.length).map (fun j=>(pw ws j).length)=ws.map List.length:=by
  conv=>rhs;rw [<- pO ws,List.map_map]
  rfl
 have e4:∀l:List (List Nat),(l.map fun w=>(w.length:Int)).sum=((l.map List.length).sum:Int):=fun l=>by
  induction l with
  | nil=>rfl
  | cons a r ih=>rw [List.map_cons,List.sum_cons,ih,List.map_cons,List.sum_cons];omega
 rw [e4,<- e3,<- e2,<- e]
 omega
def bp:FN
 | [.obj c ns fs,.lst es,d],Q=>c="Family"/\ns=kM/\∃ps:List (List Nat),fs=kN ps/\es=(ah ps).map .str/\((ah ps).length<=40/\∀w∈ah ps,0 < w.length/\w.length<=60)/\∃js:List Nat,iO d (js.map nD)/\js.Perm (List.range (ah ps).length)/\Q (.dat (.bl true))
 | _,_=>False
def zi:Nat:=11
abbrev sH:FN:=E9
def jn:PTS:=(bQ (E7 .list .tuple (pSl 0)))
theorem tL (d:D) (Q:PV->Prop) (h:cY ([d]) Q):dI jn pY ([d]) Q:=by
 show jn _ [some (.dat (d))]
 obtain ⟨hd,q⟩:=h
 cases d <;> first | (cases hd;done) | (walk_at "r";exact q)
theorem wC:∀ds Q,cY ds Q->dI jn pY ds Q:=fun ds Q h=>by
 unfold cY at h
 split at h
 .exact tL _ _ h
 .exact h.elim
def e8:PTS:=(bQ (j1 (yM .int (pSl 0)) (va (yM .bool (pSl 0)))))
theorem og (d:D) (Q:PV->Prop) (h:bA ([d]) Q):dI e8 jU ([d]) Q:=by
 show e8 _ [some (.dat (d))]
 obtain ⟨hd,q⟩:=h
 cases d <;> first | (cases hd;done) | (walk_at "r";exact q)
theorem p3:∀ds Q,bA ds Q->dI e8 jU ds Q:=fun ds Q h=>by
 unfold bA at h
 split at h
 .exact og _ _ h
 .exact h.elim
def dJ:PTS:=(bQ (j1 (ba cY (ac (pFz (aX 0)) aw)) (j1 (pOp qm (pFz (pCB gn (ac (pSl 0) aw))) (pSl 1)) (pCB Do (ac (pFz (gm [none] (gl (aX 0)) (ay 0) pA (ba bA (ac (pFz (aX 0)) aw)))) aw)))))
theorem ll (d:D) (m:Int) (Q:PV->Prop) (h:bi ([d,.int m]) Q):dI dJ iq ([d,.int m]) Q:=by
 show dJ _ [some (.dat (d)),some (.dat (.int m))]
 obtain ⟨⟨hd,hs⟩,hl,q⟩:=h
 have body:∀ds:List D,bu d=ds->vw d=true->(ds.length:Int)=m->du d m=(ds.map j2).all id:=fun ds e1 e2 e3=>by
  unfold du
  rw [e1,e2,decide_eq_true e3,Bool.true_and,Bool.true_and,List.all_map];rfl
 have no:∀ds:List D,bu d=ds->¬ (ds.length:Int)=m->du d m=false:=fun ds e1 e3=>by
  unfold du
  rw [e1,decide_eq_false e3,Bool.false_and,Bool.and_false]
 cases d with
 | lst ds =>
  have hl:ds.length<=1000000:=hl
  walk_at "r"
  refine d4 (fun c=>?_) (fun c=>?_)
  .walk_at "r"
   refine tZ (fun τ=>∃v,τ=[v]) (fun k=>.bl (j2 (itD ds k))) ?_ ?_ ?_
   .exact ⟨_,rfl⟩
   .rintro k τ _ hk rfl ⟨v,rfl⟩ K1 k1
    walk_at "r"
    exact ⟨hs _ (qZ hk),k1 _ ⟨_,rfl⟩⟩
   .rintro τ ⟨v,rfl⟩
    walk_at "r"
    refine ⟨(List.range ds.length).map fun k=>j2 (itD ds k),by rw [List.map_map];rfl,?_⟩
    rw [body ds rfl rfl c] at q
    rw [pF]
    exact q
  .walk_at "r"
   rw [no ds rfl c] at q
   exact q
 | tup ds =>
  have hl:ds.length<=1000000:=hl
  walk_at "r"
  refine d4 (fun c=>?_) (fun c=>?_)
  .walk_at "r"
   refine tZ (fun τ=>∃v,τ=[v]) (fun k=>.bl (j2 (itD ds k))) ?_ ?_ ?_
   .exact ⟨_,rfl⟩
   .rintro k τ _ hk rfl ⟨v,rfl⟩ K1 k1
    walk_at "r"
    exact ⟨hs _ (qZ hk),k1 _ ⟨_,rfl⟩⟩
   .rintro τ ⟨v,rfl⟩
    walk_at "r"
    refine ⟨(List.range ds.length).map fun k=>j2 (itD ds k),by rw [List.map_map];rfl,?_⟩
    rw [body ds rfl rfl c] at q
    rw [pF]
    exact q
  .walk_at "r"
   rw [no ds rfl c] at q
   exact q
 | str l=>walk_at "r";exact q
 | non=>walk_at "r";exact q
 | bl b=>walk_at "r";exact q
 | int i=>walk_at "r";exact q
 | ty n=>cases hd
 | scr ns=>cases hd
 | dic ks ds=>walk_at "r";exact q
 | obj c ns ds=>cases hd
 | exc c ns ds=>cases hd
theorem lQ:∀ds Q,bi ds Q->dI dJ iq ds Q:=fun ds Q h=>by
 unfold bi at h
 split at h
 .exact ll _ _ _ h
 .exact h.elim
def fP:PTS:=(bQ (j1 (ba bi (ac (pFz (aX 0)) (ac (pFz (aX 1)) aw))) (pOp qm (pFz (pCB vD (ac (pSl 0) aw))) (pFz (xH false (ac (pFz (aX 1)) aw))))))
theorem p4 (d:D) (m:Int) (Q:PV->Prop) (h:aY ([d,.int m]) Q):dI fP k6 ([d,.int m]) Q:=by
 show fP _ [some (.dat (d)),some (.dat (.int m))]
 obtain ⟨hd,⟨hl,hm⟩,q⟩:=h
 have hl6:(bu d).length<=1000000:=by omega
 walk_at "r"
 refine yH (fun c=>?_) (fun c=>?_)
 .have c:du d m=true:=c
  obtain ⟨zs,hz,hzl⟩:∃zs:List Int,iO d (zs.map .int)/\(zs.length:Int)=m:=by
   unfold du at c
   rw [Bool.and_eq_true,Bool.and_eq_true] at c
   obtain ⟨c1,c2,c3⟩:=c
   cases d with
   | lst ds=>exact ⟨ds.map toI,.inl (congrArg _ (nG c3)),by rw [List.length_map];exact of_decide_eq_true c2⟩
   | tup ds=>exact ⟨ds.map toI,.inr (congrArg _ (nG c3)),by rw [List.length_map];exact of_decide_eq_true c2⟩
   | _=>cases c1
  have h64:zs.length < 64:=by omega
  subst hzl
  have ti:(zs.map D.int).map toI=zs:=by rw [List.map_map];exact List.map_id' _
  have eo:cN d zs.length=decide (zs.Perm (nN zs.length)):=by
   unfold cN
   rw [c,Bool.true_and,hz.items,ti,Int.toNat_natCast]
  rw [eo] at q
  have eqk:∀ns':List Int,Ag (D.lst (ns'.map D.int)) (D.lst (oA 0 ((zs.length:Nat):Int).toNat)):=fun ns'=>by
   rw [Int.toNat_natCast,pP];exact Ag.of (Sh.lstI _) (Sh.lstI _)
  have deqk:∀ns':List Int,ns'.Perm zs->ns'.Pairwise (·<=·)->deq (D.lst (ns'.map D.int)) (D.lst (oA 0 ((zs.length:Nat):Int).toNat))=decide (zs.Perm (nN zs.length)):=fun ns' h1 h2=>by
   rw [Int.toNat_natCast,pP,x9];exact AG h1 h2
  rcases hz with rfl | rfl <;> (
   walk_at "r"
   intro ns' h1 h2
   have e1:=eqk ns'
   walk_at "r"
   rw [deqk ns' h1 h2]
   exact q)
 .have c:du d m=false:=c
  walk_at "r"
  rw [show cN d m=false by unfold cN;rw [c];rfl] at q
  exact q
theorem rd:∀ds Q,aY ds Q->dI fP k6 ds Q:=fun ds Q h=>by
 unfold aY at h
 split at h
 .exact p4 _ _ _ h
 .exact h.elim
def dL (E:D->Prop):PTS:=(jr (wG (pB (ba aY (ac (pFz (aX 1)) (ac (pFz (yS "Family" ["pieces","kept","words","left","laps","total"] bn (aX 0) aw)) aw))))) (vW E (CS "NoOrder")) cP)
theorem lm (c:Str) (ns:List Str) (fs:List D) (d:D) (Q:PV->Prop) (E:D->Prop) (h:aJ ([.obj c ns fs,d]) Q E):yf dL ir ([.obj c ns fs,d]) Q E:=by
 show dL E _ [some (.dat (.obj c ns fs)),some (.dat (d))]
 obtain ⟨rfl,rfl,ps,rfl,⟨hs,hl,hw⟩,he,q⟩:=h
 have h0:(bu d).length<=60/\0<=((ah ps).length:Int)/\((ah ps).length:Int)<=60:=⟨hl,by omega,by omega⟩
 walk_at "r"
 refine kA (yH (fun c=>?_) (fun c=>?_))
 .exact q c
 .walk_at "r"
  exact he c
theorem lR:∀ds Q E,aJ ds Q E->yf dL ir ds Q E:=fun ds Q E h=>by
 unfold aJ at h
 split at h
 .exact lm _ _ _ _ _ _ h
 .exact h.elim
def fQ:PTS:=(aQ (bL (pSM vq (pC (.str [])) (ac (pFz (gm [none,some 0] (gl (dQ (pSl 2) eG (dn (pC (.int 1))))) (ay 0) pA (pOp fIx (pSl 1) (pSl 0)))) aw)) (ay 3)) (aQ (jf (sk (ac (pFz (aX 2)) (ac (pFz (dQ (pSl 2) (dn (pC (.int 1))) eG)) aw))) (kK 2 (dR (ay 4) (dR (ay 5) nr))) (xW 3 (dQ (pFz (pOp fIx (pSl 0) (pSl 5))) (dn (pOp fIx (pFz (pOp fIx (pSl 1) (pSl 4))) (pSl 5))) eG))) (bQ (aX 3))))
theorem p5 (ds:List D) (d2 d:D) (Q:PV->Prop) (h:bS ([.tup ds,d2,d]) Q):dI fQ k8 ([.tup ds,d2,d]) Q:=by
 show fQ _ [some (.dat (.tup ds)),some (.dat (d2)),some (.dat (d)),none,none,none]
 obtain ⟨ws,rfl,rfl,⟨hn,hw⟩,js,hd,⟨hjl,hj⟩,q⟩:=h
 have hjm:(js.map nD).length=js.length:=List.length_map _
 have ht1:((js.take 1).map nD).length<=1:=by rw [List.length_map,List.length_take];omega
 have hpw:=ym hw
 have hgl:=wx hpw
 have hg1:((js.take 1).map (pw ws)).flatten.length<=1000000:=by
  rw [wy]
  have:=hgl (js.take 1)
  rw [List.length_take] at this;omega
 rcases hd with rfl | rfl <;> (
  walk_at "r"
  rw [EI]
  refine ⟨by omega,cm1 (fun j=>.str (pw ws j)) (fun j hjm v K1 k1=>?_) (fun v=>?_)⟩
  .have hj2:=hj j (List.mem_of_mem_take hjm)
   walk_at "r"
   refine ⟨_,cH hj2 rfl,?_⟩
   walk_at "r"
   exact k1 _
  .rw [qS (pw ws) (js.take 1)]
   walk_at "r"
   rw [EH,wy]
   refine Fm (α:=Nat) (fun (pre:List Nat) ρ=>∃x v4 v5:Option PV,ρ=[some (.dat (.tup (ws.map .str))),some (.dat (x5 ws)),x,some (.dat (.str (glN ws pre))),v4,v5]) ⟨_,_,_,rfl⟩ ?_ ?_
   .rintro pre a b suf ρ ej ⟨x,v4,v5,rfl⟩
    have ha:a < ws.length:=hj a (by rw [ej];simp)
    have hb:b < ws.length:=hj b (by rw [ej];simp)
    have hpl:(pre++[a]).length<=60:=by have:=congrArg List.length ej;simp at this ⊢;omega
    have g1:=hgl (pre++[a])
    have c1:=dH (pw ws b) (some (f9 (pw ws a) (pw ws b):Int)) none
    have c2:=hpw b
    have e1:nD a=.int (a:Int):=rfl
    have e2:nD b=.int (b:Int):=rfl
    rw [e1,e2]
    walk_at "r"
    refine ⟨_,cH hb rfl,?_⟩
    walk_at "r"
    refine ⟨_,n5 ha rfl,?_⟩
    walk_at "r"
    refine ⟨_,q0 hb rfl,?_⟩
    walk_at "r"
    exact ⟨_,_,_,by rw [ka,fj]⟩
   .rintro ρ ⟨x,v4,v5,rfl⟩
    walk_at "r"
    exact q)
theorem re:∀ds Q,bS ds Q->dI fQ k8 ds Q:=fun ds Q h=>by
 unfold bS at h
 split at h
 .exact p5 _ _ _ _ h
 .exact h.elim
def hZ (E:D->Prop):PTS:=(aQ (eH (sw E aJ (ac (pFz (aX 0)) (ac (pFz (aX 1)) aw)))) (bQ (ba bS (ac (pFz (ql "Family" ["pieces","kept","words","left","laps","total"] 2 (pSl 0))) (ac (pFz (ql "Family" ["pieces","kept","words","left","laps","total"] 4 (pSl 0))) (ac (pFz (aX 1)) aw))))))
theorem rf (c:Str) (ns:List Str) (fs:List D) (d:D) (Q:PV->Prop) (E:D->Prop) (h:br ([.obj c ns fs,d]) Q E):yf hZ mH ([.obj c ns fs,d]) Q E:=by
 show hZ E _ [some (.dat (.obj c ns fs)),some (.dat (d))]
 obtain ⟨rfl,rfl,ps,rfl,⟨hs,hl,hw,hw2⟩,he,q⟩:=h
 have h0:Srt d/\(bu d).length<=60/\(ah ps).length<=60:=⟨hs,hl,hw⟩
 have h1:(ah ps).length<=60/\∀w∈ah ps,w.length<=60:=⟨hw,hw2⟩
 walk_at "r"
 intro ho
 obtain ⟨js,hj,hp⟩:=n0 ho
 walk_at "r"
 exact ⟨js,hj,⟨by rw [fN hp];exact hw,fun j m=>mG hp m⟩,q js hj hp⟩
theorem tM:∀ds Q E,br ds Q E->yf hZ mH ds Q E:=fun ds Q E h=>by
 unfold br at h
 split at h
 .exact rf _ _ _ _ _ _ h
 .exact h.elim
def e9 (E:D->Prop):PTS:=(aQ (eH (sw E aJ (ac (pFz (aX 0)) (ac (pFz (aX 1)) aw)))) (aQ (bL (gm [none] (gl (aX 1)) (ay 0) pA (pC (.int 0))) (ay 2)) (aQ (jf (sk (ac (pFz (aX 1)) (ac (pFz (dQ (pSl 1) (dn (pC (.int 1))) eG)) aw))) (kK 2 (dR (ay 3) (dR (ay 4) nr))) (mr 2 (pOp yT (pFz (pOp eU (pFz (pOp fIx (pSl 2) (pSl 3))) (pFz (pCB gn (ac (pFz (pOp fIx (pFz (ql "Family" ["pieces","kept","words","left","laps","total"] 2 (pSl 0))) (pSl 3))) aw))))) (pFz (pOp fIx (pFz (pOp fIx (pFz (ql "Family" ["pieces","kept","words","left","laps","total"] 4 (pSl 0))) (pSl 3))) (pSl 4)))) (aX 4))) (bQ (pCB fo (ac (pSl 2) aw))))))
theorem oh (c:Str) (ns:List Str) (fs:List D) (d:D) (Q:PV->Prop) (E:D->Prop) (h:aW ([.obj c ns fs,d]) Q E):yf e9 jV ([.obj c ns fs,d]) Q E:=by
 show e9 E _ [some (.dat (.obj c ns fs)),some (.dat (d)),none,none,none]
 obtain ⟨rfl,rfl,ps,rfl,⟨hs,hl,hw,hw2⟩,he,q⟩:=h
 have h0:Srt d/\(bu d).length<=60/\(ah ps).length<=60:=⟨hs,hl,hw⟩
 walk_at "r"
 intro ho
 obtain ⟨js,hj,hp⟩:=n0 ho
 have q2:=q js hj hp
 clear q he h0
 have hjl:=fN hp
 have hjm:(js.map nD).length=js.length:=List.length_map _
 have hlt:∀j∈js,j < (ah ps).length:=fun j m=>mG hp m
 have hpos:∀j∈js,0 < (pw (ah ps) j).length:=fun j hj=>(hw2 _ (gE (hlt j hj))).1
 have hpl:=ym fun w hw=>(hw2 w hw).2
 rcases hj with rfl | rfl <;> (
  walk_at "r"
  refine cm1 (fun _=>.int 0) (fun j hj v K1 k1=>?_) (fun v=>?_)
  .walk_at "r"
   exact k1 _
  .have e0:js.map (fun _=>D.int 0)=(stR (ah ps) js (ah ps).length 0).map .int:=by
    rw [n8,<- hjl,List.map_replicate,List.map_const']
   rw [e0]
   walk_at "r"
   rw [EH]
   refine Fm (α:=Nat) (fun (pr:List Nat) ρ=>∃x v4 v5:Option PV,ρ=[some (.dat (.obj "Family" kM (kN ps))),x,some (.own ((stR (ah ps) js (ah ps).length pr.length).map .int)),v4,v5]) ⟨_,_,_,by rw [yn]⟩ ?_ ?_
   .rintro pre a b suf ρ ej ⟨x,v4,v5,rfl⟩
    have la:pre.length < js.length:=by rw [ej];simp
    have lb:pre.length + 1 < js.length:=by rw [ej];simp
    have ga:js.getD pre.length 0=a:=by rw [List.getD_eq_getElem?_getD,ej];simp
    have gb:js.getD (pre.length + 1) 0=b:=by rw [List.getD_eq_getElem?_getD,ej];simp
    have ha:a < (ah ps).length:=hlt a (by rw [ej];simp)
    have hb:b < (ah ps).length:=hlt b (by rw [ej];simp)
    have hsl:=n9 (ah ps) js (ah ps).length (pre++[a]).length
    have hsm:((stR (ah ps) js (ah ps).length (pre++[a]).length).map D.int).length=(ah ps).length:=by rw [List.length_map,hsl]
    have e1:nD a=.int (a:Int):=rfl
    have e2:nD b=.int (b:Int):=rfl
    rw [e1,e2]
    walk_at "r"
    refine ⟨_,eC (j:=a) (by rw [List.getElem?_map,<- ga,zf hp (by simp) la];rfl) rfl,?_⟩
    walk_at "r"
    refine ⟨_,cH ha rfl,?_⟩
    walk_at "r"
    refine ⟨_,n5 ha rfl,?_⟩
    walk_at "r"
    refine ⟨_,q0 hb rfl,?_⟩
    walk_at "r"
    refine ⟨b,y8 (by rw [hsm];exact hb),?_⟩
    have ev:(stK (ah ps) js pre.length:Int) + ((pw (ah ps) a).length:Int) - (f9 (pw (ah ps) a) (pw (ah ps) b):Int)=(stK (ah ps) js (pre.length + 1):Int):=by
     rw [sE hpos lb,ga,gb]
    have es:=rc (ws:=ah ps) hp lb
    rw [gb] at es
    rw [ev,<- List.map_set,show (pre++[a]).length=pre.length + 1 by simp,show (pre++[a]++[b]).length=pre.length + 1 + 1 by simp,es]
    exact ⟨_,_,_,rfl⟩
   .rintro ρ ⟨x,v4,v5,rfl⟩
    walk_at "r"
    exact q2)
theorem p6:∀ds Q E,aW ds Q E->yf e9 jV ds Q E:=fun ds Q E h=>by
 unfold aW at h
 split at h
 .exact oh _ _ _ _ _ _ h
 .exact h.elim
def kc (E:D->Prop):PTS:=(aQ (eH (sw E aJ (ac (pFz (aX 0)) (ac (pFz (aX 1)) aw)))) (bQ (pCB vi (ac (pFz (gm [none,none,some 0] (sk (ac (pFz (aX 1)) (ac (pFz (dQ (pSl 1) (dn (pC (.int 1))) eG)) aw))) (kK 2 (dR (ay 0) (dR (ay 1) nr))) pA (pOp fIx (pFz (pOp fIx (pFz (ql "Family" ["pieces","kept","words","left","laps","total"] 4 (pSl 2))) (pSl 0))) (pSl 1)))) aw))))
theorem wD (c:Str) (ns:List Str) (fs:List D) (d:D) (Q:PV->Prop) (E:D->Prop) (h:bY ([.obj c ns fs,d]) Q E):yf kc sF ([.obj c ns fs,d]) Q E:=by
 show kc E _ [some (.dat (.obj c ns fs)),some (.dat (d))]
 obtain ⟨rfl,rfl,ps,rfl,⟨hs,hl,hw,hw2⟩,he,q⟩:=h
 have h0:Srt d/\(bu d).length<=60/\(ah ps).length<=60:=⟨hs,hl,hw⟩
 have h1:(ah ps).length<=60/\∀w∈ah ps,w.length<=60:=⟨hw,hw2⟩
 walk_at "r"
 intro ho
 obtain ⟨js,hj,hp⟩:=n0 ho
 have q2:=q js hj hp
 clear q he h0
 have hjl:=fN hp
 have hjm:(js.map nD).length=js.length:=List.length_map _
 have hlt:∀j∈js,j < (ah ps).length:=fun j m=>mG hp m
 rcases hj with rfl | rfl <;> (
  walk_at "r"
  rw [EH]
  refine cmZ (fun a b=>.int (f9 (pw (ah ps) a) (pw (ah ps) b):Int)) (fun a b m v w K1 k1=>?_) (fun v w=>?_)
  .have ha:=hlt a (List.of_mem_zip m).1
   have hb:=hlt b (List.mem_of_mem_tail (List.of_mem_zip m).2)
   have e1:nD a=.int (a:Int):=rfl
   have e2:nD b=.int (b:Int):=rfl
   rw [e1,e2]
   walk_at "r"
   refine ⟨_,n5 ha rfl,?_⟩
   walk_at "r"
   refine ⟨_,q0 hb rfl,?_⟩
   walk_at "r"
   exact k1 _ _
  .rw [kQ (fun p:Nat×Nat=>(f9 (pw (ah ps) p.1) (pw (ah ps) p.2):Int))]
   walk_at "r"
   rw [wn]
   exact q2)
theorem yr:∀ds Q E,bY ds Q E->yf kc sF ds Q E:=fun ds Q E h=>by
 unfold bY at h
 split at h
 .exact wD _ _ _ _ _ _ h
 .exact h.elim
def h7:PTS:=(aQ (jr (pOr (wG (pB (yM .str (pSl 0)))) (wG (pB (vc fLe fLe (pSl 1) (pFz (pCB gn (ac (pSl 0) aw))) (pSl 2))))) (bQ (pC (.bl false))) cP) (bQ (pCB Do (ac (pFz (gm [none] (gl (aX 0)) (ay 0) pA (vc fLe fLe (pFz (pC (.str [97]))) (pSl 0) (pFz (pC (.str [122])))))) aw))))
theorem rg (d:D) (a b:Int) (Q:PV->Prop) (h:cO ([d,.int a,.int b]) Q):dI h7 mI ([d,.int a,.int b]) Q:=by
 show h7 _ [some (.dat (d)),some (.dat (.int a)),some (.dat (.int b))]
 obtain ⟨hd,hl,q⟩:=h
 cases d with
 | str l =>
  have hl:l.length<=1000000:=hl
  walk_at "r"
  refine d4 (fun c1=>?_) (fun c1=>?_)
  .walk_at "r"
   refine qD (fun c2=>?_) (fun c2=>?_)
   .walk_at "r"
    rw [show xM (.str l) a b=false by rw [nE,decide_eq_false c2,Bool.and_false];rfl] at q
    exact q
   .walk_at "r"
    refine tZ (fun τ=>∃v,τ=[v]) (fun k=>.bl (ltB (l.getD k 0))) ?_ ?_ ?_
    .exact ⟨_,rfl⟩
    .rintro k τ _ hk rfl ⟨v,rfl⟩ K1 k1
     walk_at "r"
     refine qD (fun c=>?_) (fun c=>?_)
     .have hc:97<=l.getD k 0:=of_decide_eq_true (by rw [<- qJ];rw [decide_eq_false c];rfl)
      walk_at "r"
      show K1 (.bl (!decide (([122]:List Nat) < [l.getD k 0]))) _
      rw [qJ]
      rw [show ltB (l.getD k 0)=decide (l.getD k 0<=122) by unfold ltB;rw [decide_eq_true hc];rfl] at k1
      exact k1 _ ⟨_,rfl⟩
     .have hc:¬ 97<=l.getD k 0:=of_decide_eq_false (by rw [<- qJ,decide_eq_true c];rfl)
      walk_at "r"
      rw [show ltB (l.getD k 0)=false by unfold ltB;rw [decide_eq_false hc];rfl] at k1
      exact k1 _ ⟨_,rfl⟩
    .rintro τ ⟨v,rfl⟩
     walk_at "r"
     refine ⟨(List.range l.length).map fun k=>ltB (l.getD k 0),by rw [List.map_map];rfl,?_⟩
     have e:xM (.str l) a b=(((List.range l.length).map fun k=>ltB (l.getD k 0)).all id):=by
      rw [nE,decide_eq_true c1,decide_eq_true c2,Bool.and_self,Bool.true_and,fF]
      rw [List.all_map];rfl
     rw [e] at q
     exact q
  .walk_at "r"
   rw [show xM (.str l) a b=false by rw [nE,decide_eq_false c1,Bool.false_and];rfl] at q
   exact q
 | non=>walk_at "r";exact q
 | bl b=>walk_at "r";exact q
 | int i=>walk_at "r";exact q
 | ty n=>cases hd
 | lst ds=>walk_at "r";exact q
 | tup ds=>walk_at "r";exact q
 | scr ns=>cases hd
 | dic ks ds=>walk_at "r";exact q
 | obj c ns ds=>cases hd
 | exc c ns ds=>cases hd
theorem tN:∀ds Q,cO ds Q->dI h7 mI ds Q:=fun ds Q h=>by
 unfold cO at h
 split at h
 .exact rg _ _ _ _ h
 .exact h.elim
def dM:PTS:=(bQ (pSM vm (aX 0) (ac (pSl 1) aw)))
theorem ln (a b:List Nat) (Q:PV->Prop) (h:aU ([.str a,.str b]) Q):dI dM iu ([.str a,.str b]) Q:=by
 show dM _ [some (.dat (.str a)),some (.dat (.str b))]
 walk_at "r"
 exact h
theorem lS:∀ds Q,aU ds Q->dI dM iu ds Q:=fun ds Q h=>by
 unfold aU at h
 split at h
 .exact ln _ _ _ h
 .exact h.elim
def sI:PTS:=(aQ (jf (Eb (ac (pFz (pOp yT (pFz (pCB xF (ac (pFz (pCB gn (ac (pSl 0) aw))) (ac (pFz (pCB gn (ac (pSl 1) aw))) aw)))) (pFz (pC (.int 1))))) (ac (pFz (pC (.int 0))) (ac (pFz (pUn Bm (pFz (pC (.int 1))))) aw)))) (ay 2) (jr (pB (pSM Av (aX 0) (ac (pFz (dQ (pSl 1) eG (dn (aX 2)))) aw))) (bQ (aX 2)) cP)) (bQ (pC (.int 0))))
theorem Bc (a b:List Nat) (Q:PV->Prop) (h:gc ([.str a,.str b]) Q):dI sI zh ([.str a,.str b]) Q:=by
 show sI _ [some (.dat (.str a)),some (.dat (.str b)),none]
 obtain ⟨⟨a0,a1⟩,⟨b0,b1⟩,q⟩:=h
 have hm:(if (b.length:Int) < (a.length:Int) then (b.length:Int) else (a.length:Int))=((min a.length b.length:Nat):Int):=by split <;> omega
 walk_at "r"
 refine ⟨fun i ρ=>(∃v2:Option PV,ρ=[some (.dat (.str a)),some (.dat (.str b)),v2])/\∀j,min a.length b.length - i<=j->j < min a.length b.length->¬ b.take j <:+ a,⟨⟨_,rfl⟩,fun j h1 h2=>by omega⟩,?_,?_⟩
 .rintro i ρ d hi ed ⟨⟨v2,rfl⟩,ih⟩
  have hi:i < (((if (b.length:Int) < (a.length:Int) then (b.length:Int) else (a.length:Int)) - 1) - 0).toNat:=hi
  have ed:d=.int (((if (b.length:Int) < (a.length:Int) then (b.length:Int) else (a.length:Int)) - 1) - (i:Int)):=ed
  rw [hm] at hi ed
  obtain ⟨k,hk,hk2⟩:∃k:Nat,(((min a.length b.length:Nat):Int) - 1) - (i:Int)=(k:Int)/\k=min a.length b.length - 1 - i:=⟨min a.length b.length - 1 - i,by omega,rfl⟩
  rw [hk] at ed
  subst ed
  walk_at "r"
  rw [iK]
  refine d4 (fun c=>?_) (fun c=>?_)
  .walk_at "r"
   rw [show f9 a b=k from nK ⟨by omega,c,fun j h1 h2=>by
    rcases Nat.lt_or_ge k j with h | h
    .exact absurd h2 (ih j (by omega) h1)
    .exact h⟩] at q
   exact q
  .refine ⟨⟨_,rfl⟩,fun j h1 h2=>?_⟩
   by_cases hj:j=k
   .rw [hj];exact c
   .exact ih j (by omega) h2
 .rintro ρ ⟨⟨v2,rfl⟩,ih⟩
  rw [hm] at ih
  walk_at "r"
  rw [show f9 a b=0 from nK ⟨by omega,by rw [List.take_zero];exact List.nil_suffix,fun j h1 h2=>by
   rcases Nat.eq_zero_or_pos j with h | h
   .omega
   .exact absurd h2 (ih j (by omega) h1)⟩] at q
  exact q
theorem Db:∀ds Q,gc ds Q->dI sI zh ds Q:=fun ds Q h=>by
 unfold gc at h
 split at h
 .exact Bc _ _ _ h
 .exact h.elim
def fR:PTS:=(bQ (pCB fo (ac (pFz (gm [none,some 0] (gl (aX 0)) (ay 0) pA (pCB fo (ac (pFz (gm [none,some 0] (gl (aX 1)) (ay 0) pA (ba gc (ac (pFz (aX 1)) (ac (pFz (aX 0)) aw))))) aw)))) aw)))
theorem p7 (ds:List D) (Q:PV->Prop) (h:bU ([.tup ds]) Q):dI fR k9 ([.tup ds]) Q:=by
 show fR _ [some (.dat (.tup ds))]
 obtain ⟨ws,rfl,⟨hn,hw⟩,q⟩:=h
 have hlm:(ws.map D.str).length=ws.length:=List.length_map _
 have rr:∀f:List Nat->D,(List.range (ws.map D.str).length).map (fun k=>f (pw ws k))=ws.map f:=fun f=>by
  rw [hlm]
  apply List.ext_getElem?
  intro k
  rw [List.getElem?_map,List.getElem?_map]
  by_cases hk:k < ws.length
  .rw [List.getElem?_range hk,f8 hk];rfl
  .rw [List.getElem?_eq_none (by rw [List.length_range];omega),List.getElem?_eq_none (by omega)];rfl
 walk_at "r"
 refine tZ (fun τ=>∃v,τ=[v,some (.dat (.tup (ws.map .str)))]) (fun k=>.tup (ws.map fun v=>.int (f9 (pw ws k) v:Int))) ?_ ?_ ?_
 .exact ⟨_,rfl⟩
 .rintro k τ d hk ed ⟨v,rfl⟩ K1 k1
  rw [fG hk] at ed
  subst ed
  have w1:=hw _ (gE (show k < ws.length by omega))
  walk_at "r"
  refine tZ (fun τ=>∃v,τ=[v,some (.dat (.str (pw ws k)))]) (fun j=>.int (f9 (pw ws k) (pw ws j):Int)) ?_ ?_ ?_
  .exact ⟨_,rfl⟩
  .rintro j τ d hj ed ⟨v,rfl⟩ K2 k2
   rw [fG hj] at ed
   subst ed
   have w2:=hw _ (gE (show j < ws.length by omega))
   walk_at "r"
   exact k2 _ ⟨_,rfl⟩
  .rintro τ ⟨v,rfl⟩
   rw [rr (fun w=>D.int (f9 (pw ws k) w:Int))]
   walk_at "r"
   exact k1 _ ⟨_,rfl⟩
 .rintro τ ⟨v,rfl⟩
  rw [rr (fun w=>D.tup (ws.map fun v=>.int (f9 w v:Int)))]
  walk_at "r"
  exact q
theorem rh:∀ds Q,bU ds Q->dI fR k9 ds Q:=fun ds Q h=>by
 unfold bU at h
 split at h
 .exact p7 _ _ h
 .exact h.elim
def dB:PTS:=(aQ (jr (pB (pOp fGt (pFz (pCB gn (ac (pSl 0) aw))) (pFz (pC (.int 40))))) qG cP) (jf (vd (ac (pFz (aX 0)) aw)) (kK 2 (dR (ay 1) (dR (ay 2) nr))) (jr (wG (pB (yV cO [] (ac (pFz (aX 2)) (ac (pFz (pC (.int 1))) (ac (pFz (pC (.int 60))) aw)))))) qG cP)))
theorem j5 (d:D) (Q:PV->Prop) (h:bb ([d]) Q):dI dB gN ([d]) Q:=by
 show dB _ [some (.dat (d)),none,none]
 obtain ⟨ws,hd,⟨hn,hp⟩,q⟩:=h
 have hlm:(ws.map D.str).length=ws.length:=List.length_map _
 rcases hd with rfl | rfl
 .walk_at "r"
  refine ⟨fun k ρ=>∃v1 v2:Option PV,ρ=[some (.dat (.lst (ws.map .str))),v1,v2],⟨_,_,rfl⟩,?_,?_⟩
  .rintro k ρ d hk ed ⟨v1,v2,rfl⟩
   have ed:d=.tup [.int k,itD (ws.map D.str) k]:=ed
   rw [fG hk] at ed
   subst ed
   have hw:=hp _ (gE (show k < ws.length by omega))
   have ht:xM (.str (pw ws k)) 1 60=true:=vo.mpr hw
   have h1:(pw ws k).length<=1000000:=by have:=hw.2.1;omega
   walk_at "r"
   refine Ac ht ?_
   exact ⟨_,_,rfl⟩
  .rintro ρ ⟨v1,v2,rfl⟩
   exact q
 .walk_at "r"
  refine ⟨fun k ρ=>∃v1 v2:Option PV,ρ=[some (.dat (.tup (ws.map .str))),v1,v2],⟨_,_,rfl⟩,?_,?_⟩
  .rintro k ρ d hk ed ⟨v1,v2,rfl⟩
   have ed:d=.tup [.int k,itD (ws.map D.str) k]:=ed
   rw [fG hk] at ed
   subst ed
   have hw:=hp _ (gE (show k < ws.length by omega))
   have ht:xM (.str (pw ws k)) 1 60=true:=vo.mpr hw
   have h1:(pw ws k).length<=1000000:=by have:=hw.2.1;omega
   walk_at "r"
   refine Ac ht ?_
   exact ⟨_,_,rfl⟩
  .rintro ρ ⟨v1,v2,rfl⟩
   exact q
theorem lp:∀ds Q,bb ds Q->dI dB gN ds Q:=fun ds Q h=>by
 unfold bb at h
 split at h
 .exact j5 _ _ h
 .exact h.elim
def cZ:PTS:=(bQ (pOp fGe (pFz (ba aU (ac (pFz (aX 1)) (ac (pFz (aX 0)) aw)))) (pFz (pC (.int 0)))))
theorem jM (a b:List Nat) (Q:PV->Prop) (h:aG ([.str a,.str b]) Q):dI cZ gf ([.str a,.str b]) Q:=by
 show cZ _ [some (.dat (.str a)),some (.dat (.str b))]
 walk_at "r"
 exact h
theorem j6:∀ds Q,aG ds Q->dI cZ gf ds Q:=fun ds Q h=>by
 unfold aG at h
 split at h
 .exact jM _ _ _ h
 .exact h.elim
def h8:PTS:=(aQ (bL (pOp fIx (pSl 0) (pSl 1)) (ay 2)) (aQ (bL (gm [none,some 2] (gl (aX 0)) (ay 0) (pB (pOp fGt (pFz (pCB gn (ac (pSl 0) aw))) (pFz (pCB gn (ac (pSl 1) aw))))) (aX 0)) (ay 3)) (bQ (j1 (pOp (Bp true) (pSl 2) (pFz (dQ (pSl 0) eG (dn (aX 1))))) (va (pCB Ek (ac (pFz (gm [none,some 2] (gl (aX 3)) (ay 0) pA (ba aG (ac (pFz (aX 1)) (ac (pFz (aX 0)) aw))))) aw)))))))
theorem rj (ds:List D) (i:Int) (Q:PV->Prop) (h:cb ([.tup ds,.int i]) Q):dI h8 mJ ([.tup ds,.int i]) Q:=by
 show h8 _ [some (.dat (.tup ds)),some (.dat (.int i)),none,none]
 obtain ⟨ws,rfl,⟨hn,hw⟩,hi,q⟩:=h
 obtain ⟨k,rfl⟩:∃k:Nat,i=(k:Int):=⟨i.toNat,by omega⟩
 have hk:k < ws.length:=by omega
 have hlm:(ws.map D.str).length=ws.length:=List.length_map _
 have w1:=hw _ (gE hk)
 walk_at "r"
 refine ⟨_,cH hk rfl,?_⟩
 walk_at "r"
 refine cfm (fun τ=>∃v,τ=[v,some (.dat (.str (pw ws k)))]) (fun j=>if (pw ws k).length < (pw ws j).length then some (.str (pw ws j)) else none) ?_ ?_ ?_
 .exact ⟨_,rfl⟩
 .rintro j τ d hj ed ⟨v,rfl⟩ K1 K2 k1 k2
  rw [fG hj] at ed
  subst ed
  have w2:=hw _ (gE (show j < ws.length by omega))
  walk_at "r"
  refine d4 (fun c=>?_) (fun c=>?_)
  .walk_at "r"
   exact k1 _ _ (by rw [if_pos (by omega)]) ⟨_,rfl⟩
  .exact k2 _ (by rw [if_neg (by omega)]) ⟨_,rfl⟩
 .rintro τ ⟨v,rfl⟩
  have e1:(List.range (ws.map D.str).length).filterMap (fun j=>if (pw ws k).length < (pw ws j).length then some (D.str (pw ws j)) else none)=(ws.filter fun o=>decide ((pw ws k).length < o.length)).map D.str:=by
   rw [hlm,x6 (fun w=>if (pw ws k).length < w.length then some (D.str w) else none) ws,<- dw]
   congr 1
   funext w
   by_cases h:(pw ws k).length < w.length
   .rw [if_pos h,if_pos (decide_eq_true h)]
   .rw [if_neg h,if_neg (by rw [decide_eq_false h];decide)]
  rw [e1]
  have hll:(ws.filter fun o=>decide ((pw ws k).length < o.length)).length<=ws.length:=List.length_filter_le ..
  generalize hL:(ws.filter fun o=>decide ((pw ws k).length < o.length))=ls at hll ⊢
  have hlm2:(ls.map D.str).length=ls.length:=List.length_map _
  have c1:eW (ws.map D.str) none (some (k:Int))=(ws.take k).map D.str:=by rw [iK,List.map_take]
  have hfl:(eW (ws.map D.str) none (some (k:Int))).all D.fl=true:=by rw [c1];exact vK _
  have hin:inD (.str (pw ws k)) (eW (ws.map D.str) none (some (k:Int)))=decide (pw ws k∈ws.take k):=by rw [c1];exact nL _ _
  have hkb:dF ws k=(!inD (.str (pw ws k)) (eW (ws.map D.str) none (some (k:Int))) && !ls.any fun o=>gq (pw ws k) o):=by
   unfold dF;rw [hin,hL]
  rw [Int.toNat_natCast,hkb] at q
  walk_at "r"
  refine kA (yH (fun c=>?_) (fun c=>?_))
  .walk_at "r"
   have c:inD (.str (pw ws k)) (eW (ws.map D.str) none (some (k:Int)))=true:=c
   rw [c] at q
   exact q
  .have c:inD (.str (pw ws k)) (eW (ws.map D.str) none (some (k:Int)))=false:=c
   rw [c,Bool.not_false,Bool.true_and] at q
   walk_at "r"
   refine tZ (fun τ=>∃v,τ=[v,some (.dat (.str (pw ws k)))]) (fun j=>.bl (gq (pw ws k) (pw ls j))) ?_ ?_ ?_
   .exact ⟨_,rfl⟩
   .rintro j τ d hj ed ⟨v,rfl⟩ K1 k1
    rw [fG hj] at ed
    subst ed
    walk_at "r"
    exact k1 _ ⟨_,rfl⟩
   .rintro τ ⟨v,rfl⟩
    walk_at "r"
    refine ⟨ls.map fun o=>gq (pw ws k) o,?_,?_⟩
    .rw [hlm2,List.map_map]
     conv=>rhs;rw [<- pO ls,List.map_map]
     rfl
    .rw [show ((ls.map fun o=>gq (pw ws k) o).any id)=ls.any (fun o=>gq (pw ws k) o) by rw [List.any_map];rfl]
     walk_at "r"
     exact q
theorem tO:∀ds Q,cb ds Q->dI h8 mJ ds Q:=fun ds Q h=>by
 unfold cb at h
 split at h
 .exact rj _ _ _ h
 .exact h.elim
def fS:PTS:=(aQ (bL (pCB Aq (ac (pFz (gm [none,some 0,some 2] (gl (aX 1)) (ay 0) (pB (ba aG (ac (pFz (pOp fIx (pSl 1) (pSl 2))) (ac (pFz (pOp fIx (pSl 1) (pSl 0))) aw)))) (aX 0))) aw)) (ay 3)) (bQ (Ci (ac (pFz (aX 2)) (ac (pFz (aX 3)) (ac (pFz (ba aU (ac (pFz (pOp fIx (pSl 0) (pSl 3))) (ac (pFz (pOp fIx (pSl 0) (pSl 2))) aw)))) aw))))))
theorem p8 (ds ks:List D) (i:Int) (Q:PV->Prop) (h:bH ([.tup ds,.tup ks,.int i]) Q):dI fS lc ([.tup ds,.tup ks,.int i]) Q:=by
 show fS _ [some (.dat (.tup ds)),some (.dat (.tup ks)),some (.dat (.int i)),none]
 obtain ⟨ws,rfl,rfl,⟨hn,hw⟩,hi,q⟩:=h
 obtain ⟨k,rfl⟩:∃k:Nat,i=(k:Int):=⟨i.toNat,by omega⟩
 have hk:k < ws.length:=by omega
 rw [Int.toNat_natCast] at q
 have hkl:=gZ ws
 have hkm:((aO ws).map nD).length=(aO ws).length:=List.length_map _
 walk_at "r"
 refine cfm (fun τ=>∃v,τ=[v,some (.dat (.tup (ws.map .str))),some (.dat (.int (k:Int)))]) (fun j=>if gq (pw ws k) (pw ws ((aO ws).getD j 0))=true then some (nD ((aO ws).getD j 0)) else none) ?_ ?_ ?_
 .exact ⟨_,rfl⟩
 .rintro j τ d hj ed ⟨v,rfl⟩ K1 K2 k1 k2
  have hj2:(aO ws).getD j 0 < ws.length:=fq (List.mem_of_getElem? (by rw [List.getD_eq_getElem?_getD,List.getElem?_eq_getElem (show j < (aO ws).length by omega)];rfl))
  rw [vI hj] at ed
  subst ed
  generalize (aO ws).getD j 0=z at hj2 k1 k2 ⊢
  walk_at "r"
  refine ⟨_,cH hk rfl,?_⟩
  walk_at "r"
  refine ⟨_,cH hj2 rfl,?_⟩
  walk_at "r"
  cases hc:gq (pw ws k) (pw ws z) with
  | true=>walk_at "r";exact k1 _ _ (by rw [if_pos hc];rfl) ⟨_,rfl⟩
  | false=>walk_at "r";exact k2 _ (by rw [if_neg (by rw [hc];decide)]) ⟨_,rfl⟩
 .rintro τ ⟨v,rfl⟩
  have e1:(List.range ((aO ws).map nD).length).filterMap (fun j=>if gq (pw ws k) (pw ws ((aO ws).getD j 0))=true then some (nD ((aO ws).getD j 0)) else none)=((kL ws k).map fun j=>((j:Nat):Int)).map D.int:=by
   rw [hkm,x8 (fun j=>if gq (pw ws k) (pw ws j)=true then some (nD j) else none) (aO ws),dw (fun j=>gq (pw ws k) (pw ws j)) nD,List.map_map]
   rfl
  rw [e1]
  obtain ⟨h0,hh0⟩:=tD hw hk
  walk_at "r"
  refine ⟨by rw [List.length_map];exact List.length_pos_of_mem hh0,fun m hm hle=>?_⟩
  obtain ⟨z,hz,rfl⟩:=List.mem_map.mp hm
  have hz2:z < ws.length:=fq (List.mem_filter.mp hz).1
  have hho:sr ws k=z:=vH hz fun a ha=>by have:=hle _ (List.mem_map_of_mem ha);omega
  walk_at "r"
  refine ⟨_,cH hz2 rfl,?_⟩
  walk_at "r"
  refine ⟨_,cH hk rfl,?_⟩
  walk_at "r"
  unfold eM at q
  rw [hho] at q
  exact q
theorem rl:∀ds Q,bH ds Q->dI fS lc ds Q:=fun ds Q h=>by
 unfold bH at h
 split at h
 .exact p8 _ _ _ _ h
 .exact h.elim
def dN:PTS:=(aQ (eH (ba bb (ac (pFz (aX 1)) aw))) (aQ (kG "Family" [] "pieces" 0 (pCB fo (ac (pSl 1) aw))) (aQ (bL (xH false (ac (pFz (pCB gn (ac (pFz (ql "Family" ["pieces"] 0 (pSl 0))) aw))) aw)) (ay 2)) (aQ (kG "Family" ["pieces"] "kept" 0 (pCB fo (ac (pFz (gm [none,some 0] (gl (aX 2)) (ay 0) (pB (ba cb (ac (pFz (ql "Family" ["pieces"] 0 (pSl 1))) (ac (pFz (aX 0)) aw)))) (aX 0))) aw))) (aQ (kG "Family" ["pieces","kept"] "words" 0 (pCB fo (ac (pFz (gm [none,some 0] (gl (ql "Family" ["pieces","kept"] 1 (pSl 0))) (ay 0) pA (pOp fIx (pFz (ql "Family" ["pieces","kept"] 0 (pSl 1))) (pSl 0)))) aw))) (aQ (kG "Family" ["pieces","kept","words"] "left" 0 (pCB fo (ac (pFz (gm [none,some 0] (gl (aX 2)) (ay 0) (pB (pOp (Bp true) (pSl 0) (pFz (ql "Family" ["pieces","kept","words"] 1 (pSl 1))))) (ba bH (ac (pFz (ql "Family" ["pieces","kept","words"] 0 (pSl 1))) (ac (pFz (ql "Family" ["pieces","kept","words"] 1 (pSl 1))) (ac (pFz (aX 0)) aw)))))) aw))) (aQ (kG "Family" ["pieces","kept","words","left"] "laps" 0 (ba bU (ac (pFz (ql "Family" ["pieces","kept","words","left"] 2 (pSl 0))) aw))) (kG "Family" ["pieces","kept","words","left","laps"] "total" 0 (pCB vi (ac (pFz (gm [none] (gl (ql "Family" ["pieces","kept","words","left","laps"] 2 (pSl 0))) (ay 0) pA (pCB gn (ac (pSl 0) aw)))) aw))))))))))
theorem lq (d:D) (Q:PV->PV->Prop) (h:bj (.ins "Family" [] []) ([d]) Q):Ff dN iw (.ins "Family" [] []) ([d]) Q:=by
 show dN _ [some (.ins "Family" [] []),some (.dat (d)),none]
 obtain ⟨ws,hd,⟨hn,hp⟩,q⟩:=h
 have hlm:(ws.map D.str).length=ws.length:=List.length_map _
 have hkl:=gZ ws
 have hkm:((aO ws).map nD).length=(aO ws).length:=List.length_map _
 have hrl:(oA 0 (((ws.map D.str).length:Nat):Int).toNat).length=ws.length:=by rw [jA];omega
 have hk1:ws.length<=1000/\∀w∈ws,w.length<=10000:=⟨by omega,fun w hw=>by have:=(hp w hw).2.1;omega⟩
 have hk2:ws.length<=1000/\∀w∈ws,w.length<=60:=⟨by omega,fun w hw=>(hp w hw).2.1⟩
 walk_at "r"
 refine ⟨ws,hd,⟨hn,hp⟩,?_⟩
 rcases hd with rfl | rfl
 .walk_at "r"
  refine cfm (fun τ=>∃v,τ=[v,some (.ins "Family" ["pieces"] [.tup (ws.map .str)])]) (fun j=>if dF ws j=true then some (nD j) else none) ?_ ?_ ?_
  .exact ⟨_,rfl⟩
  .rintro j τ d hj ed ⟨v,rfl⟩ K1 K2 k1 k2
   have hj2:j < ws.length:=by rw [jA] at hj;omega
   rw [nM hj] at ed
   subst ed
   walk_at "r"
   rw [Int.toNat_natCast]
   cases hc:dF ws j with
   | true=>walk_at "r";exact k1 _ _ (by rw [if_pos hc];rfl) ⟨_,rfl⟩
   | false=>walk_at "r";exact k2 _ (by rw [if_neg (by rw [hc];decide)]) ⟨_,rfl⟩
  .rintro τ ⟨v,rfl⟩
   have e1:(List.range (oA 0 (((ws.map D.str).length:Nat):Int).toNat).length).filterMap (fun j=>if dF ws j=true then some (nD j) else none)=(aO ws).map nD:=by
    rw [jA,hlm,Int.toNat_natCast,dw (dF ws) nD];rfl
   rw [e1]
   walk_at "r"
   refine tZ (fun τ=>∃v,τ=[v,some (.ins "Family" ["pieces","kept"] [.tup (ws.map .str),.tup ((aO ws).map nD)])]) (fun k=>.str (pw ws ((aO ws).getD k 0))) ?_ ?_ ?_
   .exact ⟨_,rfl⟩
   .rintro j τ d hj ed ⟨v,rfl⟩ K1 k1
    have hj2:(aO ws).getD j 0 < ws.length:=fq (List.mem_of_getElem? (by rw [List.getD_eq_getElem?_getD,List.getElem?_eq_getElem (show j < (aO ws).length by omega)];rfl))
    rw [vI hj] at ed
    subst ed
    walk_at "r"
    refine ⟨_,cH hj2 rfl,?_⟩
    walk_at "r"
    exact k1 _ ⟨_,rfl⟩
   .rintro τ ⟨v,rfl⟩
    have e2:(List.range ((aO ws).map nD).length).map (fun k=>D.str (pw ws ((aO ws).getD k 0)))=(ah ws).map D.str:=by
     rw [hkm,fF (fun j=>D.str (pw ws j)) (aO ws)]
     unfold ah
     rw [List.map_map];rfl
    rw [e2]
    have hwl:=jy ws
    have hwm:((ah ws).map D.str).length=(ah ws).length:=List.length_map _
    have hwp:=jx hp
    have hwq:(ah ws).length<=1000/\∀w∈ah ws,0 < w.length/\w.length<=10000:=⟨by omega,fun w hw=>⟨(hwp w hw).1,by have:=(hwp w hw).2.1;omega⟩⟩
    have hfl:((aO ws).map nD).all D.fl=true:=CN _
    walk_at "r"
    refine cfm (fun τ=>∃v,τ=[v,some (.ins "Family" ["pieces","kept","words"] [.tup (ws.map .str),.tup ((aO ws).map nD),.tup ((ah ws).map .str)])]) (fun j=>if (!decide (j∈aO ws))=true then some (eM ws j) else none) ?_ ?_ ?_
    .exact ⟨_,rfl⟩
    .rintro j τ d hj ed ⟨v,rfl⟩ K1 K2 k1 k2
     have hj2:j < ws.length:=by omega
     rw [nM hj] at ed
     subst ed
     have hin:=vJ j (aO ws)
     walk_at "r"
     refine kA (yH (fun c=>?_) (fun c=>?_))
     .have c:inD (.int (j:Int)) ((aO ws).map nD)=true:=c
      rw [hin] at c
      exact k2 _ (by rw [c];rfl) ⟨_,rfl⟩
     .have c:inD (.int (j:Int)) ((aO ws).map nD)=false:=c
      rw [hin] at c
      walk_at "r"
      rw [Int.toNat_natCast]
      exact k1 _ _ (by rw [c];rfl) ⟨_,rfl⟩
    .rintro τ ⟨v,rfl⟩
     have e3:(List.range (oA 0 (((ws.map D.str).length:Nat):Int).toNat).length).filterMap (fun j=>if (!decide (j∈aO ws))=true then some (eM ws j) else none)=(vG ws).map (eM ws):=by
      rw [hrl,dw (fun j=>!decide (j∈aO ws)) (eM ws)];rfl
     rw [e3]
     walk_at "r"
     refine tZ (fun τ=>∃v,τ=[v]) (fun k=>.int ((pw (ah ws) k).length:Int)) ?_ ?_ ?_
     .exact ⟨_,rfl⟩
     .rintro j τ d hj ed ⟨v,rfl⟩ K1 k1
      rw [fG hj] at ed
      subst ed
      walk_at "r"
      exact k1 _ ⟨_,rfl⟩
     .rintro τ ⟨v,rfl⟩
      have e4:(List.range ((ah ws).map D.str).length).map (fun k=>D.int ((pw (ah ws) k).length:Int))=((ah ws).map fun w=>(w.length:Int)).map D.int:=by
       rw [hwm,List.map_map]
       conv=>rhs;rw [<- pO (ah ws),List.map_map]
       rfl
      rw [e4]
      walk_at "r"
      exact q
 .walk_at "r"
  refine cfm (fun τ=>∃v,τ=[v,some (.ins "Family" ["pieces"] [.tup (ws.map .str)])]) (fun j=>if dF ws j=true then some (nD j) else none) ?_ ?_ ?_
  .exact ⟨_,rfl⟩
  .rintro j τ d hj ed ⟨v,rfl⟩ K1 K2 k1 k2
   have hj2:j < ws.length:=by rw [jA] at hj;omega
   rw [nM hj] at ed
   subst ed
   walk_at "r"
   rw [Int.toNat_natCast]
   cases hc:dF ws j with
   | true=>walk_at "r";exact k1 _ _ (by rw [if_pos hc];rfl) ⟨_,rfl⟩
   | false=>walk_at "r";exact k2 _ (by rw [if_neg (by rw [hc];decide)]) ⟨_,rfl⟩
  .rintro τ ⟨v,rfl⟩
   have e1:(List.range (oA 0 (((ws.map D.str).length:Nat):Int).toNat).length).filterMap (fun j=>if dF ws j=true then some (nD j) else none)=(aO ws).map nD:=by
    rw [jA,hlm,Int.toNat_natCast,dw (dF ws) nD];rfl
   rw [e1]
   walk_at "r"
   refine tZ (fun τ=>∃v,τ=[v,some (.ins "Family" ["pieces","kept"] [.tup (ws.map .str),.tup ((aO ws).map nD)])]) (fun k=>.str (pw ws ((aO ws).getD k 0))) ?_ ?_ ?_
   .exact ⟨_,rfl⟩
   .rintro j τ d hj ed ⟨v,rfl⟩ K1 k1
    have hj2:(aO ws).getD j 0 < ws.length:=fq (List.mem_of_getElem? (by rw [List.getD_eq_getElem?_getD,List.getElem?_eq_getElem (show j < (aO ws).length by omega)];rfl))
    rw [vI hj] at ed
    subst ed
    walk_at "r"
    refine ⟨_,cH hj2 rfl,?_⟩
    walk_at "r"
    exact k1 _ ⟨_,rfl⟩
   .rintro τ ⟨v,rfl⟩
    have e2:(List.range ((aO ws).map nD).length).map (fun k=>D.str (pw ws ((aO ws).getD k 0)))=(ah ws).map D.str:=by
     rw [hkm,fF (fun j=>D.str (pw ws j)) (aO ws)]
     unfold ah
     rw [List.map_map];rfl
    rw [e2]
    have hwl:=jy ws
    have hwm:((ah ws).map D.str).length=(ah ws).length:=List.length_map _
    have hwp:=jx hp
    have hwq:(ah ws).length<=1000/\∀w∈ah ws,0 < w.length/\w.length<=10000:=⟨by omega,fun w hw=>⟨(hwp w hw).1,by have:=(hwp w hw).2.1;omega⟩⟩
    have hfl:((aO ws).map nD).all D.fl=true:=CN _
    walk_at "r"
    refine cfm (fun τ=>∃v,τ=[v,some (.ins "Family" ["pieces","kept","words"] [.tup (ws.map .str),.tup ((aO ws).map nD),.tup ((ah ws).map .str)])]) (fun j=>if (!decide (j∈aO ws))=true then some (eM ws j) else none) ?_ ?_ ?_
    .exact ⟨_,rfl⟩
    .rintro j τ d hj ed ⟨v,rfl⟩ K1 K2 k1 k2
     have hj2:j < ws.length:=by omega
     rw [nM hj] at ed
     subst ed
     have hin:=vJ j (aO ws)
     walk_at "r"
     refine kA (yH (fun c=>?_) (fun c=>?_))
     .have c:inD (.int (j:Int)) ((aO ws).map nD)=true:=c
      rw [hin] at c
      exact k2 _ (by rw [c];rfl) ⟨_,rfl⟩
     .have c:inD (.int (j:Int)) ((aO ws).map nD)=false:=c
      rw [hin] at c
      walk_at "r"
      rw [Int.toNat_natCast]
      exact k1 _ _ (by rw [c];rfl) ⟨_,rfl⟩
    .rintro τ ⟨v,rfl⟩
     have e3:(List.range (oA 0 (((ws.map D.str).length:Nat):Int).toNat).length).filterMap (fun j=>if (!decide (j∈aO ws))=true then some (eM ws j) else none)=(vG ws).map (eM ws):=by
      rw [hrl,dw (fun j=>!decide (j∈aO ws)) (eM ws)];rfl
     rw [e3]
     walk_at "r"
     refine tZ (fun τ=>∃v,τ=[v]) (fun k=>.int ((pw (ah ws) k).length:Int)) ?_ ?_ ?_
     .exact ⟨_,rfl⟩
     .rintro j τ d hj ed ⟨v,rfl⟩ K1 k1
      rw [fG hj] at ed
      subst ed
      walk_at "r"
      exact k1 _ ⟨_,rfl⟩
     .rintro τ ⟨v,rfl⟩
      have e4:(List.range ((ah ws).map D.str).length).map (fun k=>D.int ((pw (ah ws) k).length:Int))=((ah ws).map fun w=>(w.length:Int)).map D.int:=by
       rw [hwm,List.map_map]
       conv=>rhs;rw [<- pO (ah ws),List.map_map]
       rfl
      rw [e4]
      walk_at "r"
      exact q
theorem lT:∀p ds Q,p.isOwn=true->bj p ds Q->Ff dN iw p ds Q:=fun p ds Q _ h=>by
 unfold bj at h
 split at h
 .exact lq _ _ h
 .exact h.elim
def dO:PTS:=(bQ (pCB gn (ac (pFz (ql "Family" ["pieces","kept","words","left","laps","total"] 2 (pSl 0))) aw)))
theorem lr (c:Str) (ns:List Str) (fs:List D) (Q:PV->Prop) (h:bn ([.obj c ns fs]) Q):dI dO iy ([.obj c ns fs]) Q:=by
 show dO _ [some (.dat (.obj c ns fs))]
 obtain ⟨rfl,rfl,ws,rfl,q⟩:=h
 walk_at "r"
 rw [List.length_map]
 exact q
theorem lU:∀ds Q,bn ds Q->dI dO iy ds Q:=fun ds Q h=>by
 unfold bn at h
 split at h
 .exact lr _ _ _ _ h
 .exact h.elim
def fT:PTS:=(aQ (jr (pB (pOp qm (pFz (pCB gn (ac (pSl 0) aw))) (pFz (pC (.int 0))))) (bQ (pOp eU (pFz (pOp tY (pFz (pC (.int 5))) (pSl 1))) (pFz (pC (.int 3))))) cP) (bQ (pCB Ei (ac (pFz (pOp fIx (pSl 0) (pFz (pOp Bl (pSl 1) (pFz (pCB gn (ac (pSl 0) aw))))))) aw))))
theorem p9 (ns:List Int) (k:Int) (Q:PV->Prop) (h:bg ([.scr ns,.int k]) Q):dI fT lf ([.scr ns,.int k]) Q:=by
 show fT _ [some (.dat (.scr ns)),some (.dat (.int k))]
 obtain ⟨hk,q⟩:=h
 walk_at "r"
 refine d4 (fun c=>?_) (fun c=>?_)
 .walk_at "r"
  exact q _ (by omega)
 .have h0:0 < ns.length:=by omega
  obtain ⟨v,hv,e⟩:=zS (n:=ns.length) rfl h0 k
  walk_at "r"
  refine ⟨v,e,?_⟩
  walk_at "r"
  exact q _ (by split <;> omega)
theorem rm:∀ds Q,bg ds Q->dI fT lf ds Q:=fun ds Q h=>by
 unfold bg at h
 split at h
 .exact p9 _ _ _ h
 .exact h.elim
def fU:PTS:=(aQ (bL (pOp Bl (pFz (pOp eU (pFz (pOp eU (pFz (pOp tY (pFz (pOp Bl (pFz (ba bg (ac (pFz (aX 0)) (ac (pFz (aX 1)) aw)))) (pFz (pC (.int 1000003))))) (pFz (pC (.int 48271))))) (pFz (pOp tY (pFz (pOp tY (pSl 1) (pSl 1))) (pFz (pC (.int 7919))))))) (pFz (pC (.int 101))))) (pFz (pC (.int 2147483647)))) (ay 3)) (aQ (bL (pOp Bl (pFz (pOp eU (pFz (pOp eU (pFz (pOp tY (pSl 3) (pSl 3))) (pFz (pOp tY (pFz (pC (.int 31))) (pSl 3))))) (pFz (pOp tY (pSl 1) (pFz (pC (.int 104729))))))) (pFz (pC (.int 2147483629)))) (ay 3)) (bQ (pOp Bl (pFz (pOp Fd (pSl 3) (pFz (pC (.int 11))))) (pSl 2)))))
theorem qa (ns:List Int) (k m:Int) (Q:PV->Prop) (h:aC ([.scr ns,.int k,.int m]) Q):dI fU lg ([.scr ns,.int k,.int m]) Q:=by
 show fU _ [some (.dat (.scr ns)),some (.dat (.int k)),some (.dat (.int m)),none]
 obtain ⟨hk,hm,q⟩:=h
 walk_at "r"
 rintro x hx
 walk_at "r"
 exact q _ (Int.emod_nonneg _ (by omega)) (Int.emod_lt_of_pos _ hm.1)
theorem rn:∀ds Q,aC ds Q->dI fU lg ds Q:=fun ds Q h=>by
 unfold aC at h
 split at h
 .exact qa _ _ _ _ h
 .exact h.elim
def cr:PTS:=(aQ (bL (pf aw) (ay 2)) (aQ (bL (pC (.str [])) (ay 3)) (aQ (bL (pC (.int 0)) (ay 4)) (aQ (vf (Bi (pB (pOp fGt (pSl 0) (pFz (pC (.int 0))))) (pB (pOp fLt (pSl 4) (pFz (pC (.int 60)))))) (aQ (bL (pOp Bl (pSl 0) (pFz (pC (.int 27)))) (ay 5)) (aQ (bL (pOp Fd (pSl 0) (pFz (pC (.int 27)))) (ay 0)) (aQ (xW 4 (pC (.int 1))) (aQ (pz (jr (pB (pOp fLt (pSl 5) (pFz (pC (.int 26))))) (bL (pOp eU (pSl 3) (pFz (pOp fIx (pFz (pC (.str [97,98,99,100,101,102,103,104,105,106,107,108,109,110,111,112,113,114,115,116,117,118,119,120,121,122]))) (pSl 5)))) (ay 3)) cP)) (jr (Bi (pB (pOp wI (pSl 3) (pFz (pC (.str []))))) (pOr (pB (pOp qm (pSl 5) (pFz (pC (.int 26))))) (pB (pOp qm (pFz (pCB gn (ac (pSl 3) aw))) (pFz (pC (.int 9))))))) (aQ (eH (wH 2 (aX 3))) (bL (pC (.str [])) (ay 3))) cP)))))) (aQ (pz (jr (pB (pOp wI (pSl 3) (pFz (pC (.str []))))) (eH (wH 2 (aX 3))) cP)) (bQ (Bo (dQ (pSl 2) eG (dn (aX 1))))))))))
theorem ie (c mo:Int) (Q:PV->Prop) (h:aM ([.int c,.int mo]) Q):dI cr eR ([.int c,.int mo]) Q:=by
 show cr _ [some (.dat (.int c)),some (.dat (.int mo)),none,none,none,none]
 obtain ⟨hc,hmo,q⟩:=h
 walk_at "r"
 refine ⟨fun m ρ=>∃(c:Int) (ps:List (List Nat)) (w:List Nat) (s:Int) (v5:Option PV),ρ=[some (.dat (.int c)),some (.dat (.int mo)),some (.own (ps.map .str)),some (.dat (.str w)),some (.dat (.int s)),v5]/\0<=c/\Pcs 9 ps/\Lts w/\w.length < 9/\s + m=60/\0<=s/\ps.length<=s,⟨60,c,[],[],0,none,rfl,hc,nofun,Lts.nil,by decide,rfl,by decide,by decide⟩,?_⟩
 rintro m ρ ⟨c,ps,w,s,v5,rfl,hc,hps,hw,hwl,hs,hs0,hpl⟩
 have hlm:(ps.map D.str).length=ps.length:=List.length_map _
 have fin:∀ps:List (List Nat),ps.length<=61->Pcs 9 ps->Q (.dat (.lst (eW (ps.map D.str) none (some mo)))):=fun ps hl hp=>by
  obtain ⟨n,rfl⟩:∃n:Nat,mo=(n:Int):=⟨mo.toNat,by omega⟩
  rw [iK,<- List.map_take]
  exact q _ (by rw [List.length_take];omega) fun w hw=>hp w (List.mem_of_mem_take hw)
 walk_at "r"
 refine d4 (fun c0=>?_) (fun c0=>?_)
 .walk_at "r"
  refine d4 (fun c1=>?_) (fun c1=>?_)
  .have hd0:0<=c % 27:=Int.emod_nonneg _ (by decide)
   have hd1:c % 27 < 27:=Int.emod_lt_of_pos _ (by decide)
   have hc2:0<=c / 27:=Int.ediv_nonneg hc (by decide)
   generalize hdg:c % 27=dg at hd0 hd1
   generalize hcc:c / 27=cc at hc2
   walk_at "r"
   rw [hdg,hcc]
   refine ⟨fun ρ=>∃w:List Nat,ρ=[some (.dat (.int cc)),some (.dat (.int mo)),some (.own (ps.map .str)),some (.dat (.str w)),some (.dat (.int (s + 1))),some (.dat (.int dg))]/\Lts w/\w.length<=9,?_,?_⟩
   .walk_at "r"
    refine d4 (fun c2=>?_) (fun c2=>⟨w,rfl,hw,by omega⟩)
    obtain ⟨j,rfl⟩:∃j:Nat,dg=(j:Int):=⟨dg.toNat,by omega⟩
    have hj:j < Fs.length:=by show j < 26;omega
    walk_at "r"
    refine ⟨_,eC (List.getElem?_eq_getElem hj) rfl,?_⟩
    walk_at "r"
    exact ⟨hw.app (Lts.one (yo _ (List.getElem_mem hj))),by rw [List.length_append];show _ + 1<=_;omega⟩
   .rintro ρ ⟨w,rfl,hw,hwl⟩
    walk_at "r"
    refine qD (fun c2=>?_) (fun c2=>?_)
    .have hw0:0 < w.length:=List.length_pos_iff.mpr c2
     have app:∃m',m' < m/\∃(c:Int) (ps':List (List Nat)) (w':List Nat) (s':Int) (v5:Option PV),[some (PV.dat (.int cc)),some (.dat (.int mo)),some (.own (ps.map .str++[.str w])),some (.dat (.str [])),some (.dat (.int (s + 1))),some (.dat (.int dg))]=[some (.dat (.int c)),some (.dat (.int mo)),some (.own (ps'.map .str)),some (.dat (.str w')),some (.dat (.int s')),v5]/\0<=c/\Pcs 9 ps'/\Lts w'/\w'.length < 9/\s' + m'=60/\0<=s'/\ps'.length<=s' :=
      ⟨m - 1,by omega,cc,ps++[w],[],s + 1,_,by rw [List.map_append];rfl,hc2,hps.app ⟨hw0,hwl,hw⟩,Lts.nil,by decide,by omega,by omega,by rw [List.length_append];show ((_ + 1:Nat):Int)<=_;omega⟩
     walk_at "r"
     refine d4 (fun c3=>?_) (fun c3=>?_)
     .walk_at "r"
      exact app
     .walk_at "r"
      refine d4 (fun c4=>?_) (fun c4=>?_)
      .walk_at "r"
       exact app
      .exact ⟨m - 1,by omega,cc,ps,w,s + 1,_,rfl,hc2,hps,hw,by omega,by omega,by omega,by omega⟩
    .exact ⟨m - 1,by omega,cc,ps,w,s + 1,_,rfl,hc2,hps,hw,by rw [c2];decide,by omega,by omega,by omega⟩
  .walk_at "r"
   refine ⟨fun ρ=>∃ps:List (List Nat),(ps.length<=61/\Pcs 9 ps)/\ρ=[some (.dat (.int c)),some (.dat (.int mo)),some (.own (ps.map .str)),some (.dat (.str w)),some (.dat (.int s)),v5],?_,?_⟩
   .walk_at "r"
    refine qD (fun h=>?_) fun _=>⟨ps,⟨by omega,hps⟩,rfl⟩
    walk_at "r"
    exact ⟨ps++[w],⟨by rw [List.length_append];show _ + 1<=_;omega,hps.app ⟨List.length_pos_iff.mpr h,by omega,hw⟩⟩,by rw [List.map_append];rfl⟩
   rintro ρ ⟨ps,⟨h1,h2⟩,rfl⟩
   walk_at "r"
   exact fin ps h1 h2
 .walk_at "r"
  refine ⟨fun ρ=>∃ps:List (List Nat),(ps.length<=61/\Pcs 9 ps)/\ρ=[some (.dat (.int c)),some (.dat (.int mo)),some (.own (ps.map .str)),some (.dat (.str w)),some (.dat (.int s)),v5],?_,?_⟩
  .walk_at "r"
   refine qD (fun h=>?_) fun _=>⟨ps,⟨by omega,hps⟩,rfl⟩
   walk_at "r"
   exact ⟨ps++[w],⟨by rw [List.length_append];show _ + 1<=_;omega,hps.app ⟨List.length_pos_iff.mpr h,by omega,hw⟩⟩,by rw [List.map_append];rfl⟩
  rintro ρ ⟨ps,⟨h1,h2⟩,rfl⟩
  walk_at "r"
  exact fin ps h1 h2
theorem iU:∀ds Q,aM ds Q->dI cr eR ds Q:=fun ds Q h=>by
 unfold aM at h
 split at h
 .exact ie _ _ _ h
 .exact h.elim
def eA:PTS:=(aQ (jr (pB (pOp fGe (pFz (ba bg (ac (pFz (aX 0)) (ac (pFz (pC (.int 0))) aw)))) (pFz (pOp FF (pFz (pC (.int 10))) (pFz (pC (.int 18))))))) (bQ (Bo (ba aM (ac (pFz (ba bg (ac (pFz (aX 0)) (ac (pFz (pC (.int 0))) aw)))) (ac (pFz (aX 1)) aw))))) cP) (aQ (bL (pOp fIx (pFz (pf (ac (pFz (pC (.str [97,98]))) (ac (pFz (pC (.str [97,98,99]))) (ac (pFz (pC (.str [120,121,122,97,98]))) aw))))) (pFz (ba aC (ac (pFz (aX 0)) (ac (pFz (pC (.int 1))) (ac (pFz (pC (.int 3))) aw)))))) (ay 2)) (aQ (bL (pC (.str [])) (ay 3)) (aQ (jf (Ct (ac (pFz (pC (.int 14))) aw)) (ay 4) (bL (pOp eU (pSl 3) (pFz (pOp fIx (pSl 2) (pFz (ba aC (ac (pFz (aX 0)) (ac (pFz (pOp eU (pFz (pC (.int 20))) (pSl 4))) (ac (pFz (pCB gn (ac (pSl 2) aw))) aw)))))))) (ay 3))) (aQ (bL (pf aw) (ay 5)) (aQ (jf (Ct (ac (pFz (pOp eU (pFz (pC (.int 1))) (pFz (ba aC (ac (pFz (aX 0)) (ac (pFz (pC (.int 2))) (ac (pFz (aX 1)) aw))))))) aw)) (ay 4) (aQ (bL (ba aC (ac (pFz (aX 0)) (ac (pFz (pOp eU (pFz (pC (.int 40))) (pFz (pOp tY (pFz (pC (.int 2))) (pSl 4))))) (ac (pFz (pC (.int 12))) aw)))) (ay 6)) (eH (wH 5 (dQ (pSl 3) (dn (aX 6)) (dn (pOp eU (pFz (pOp eU (pSl 6) (pFz (pC (.int 1))))) (pFz (ba aC (ac (pFz (aX 0)) (ac (pFz (pOp eU (pFz (pC (.int 41))) (pFz (pOp tY (pFz (pC (.int 2))) (pSl 4))))) (ac (pFz (pC (.int 7))) aw)))))))))))) (bQ (Bo (aX 5)))))))))
theorem lV (ns:List Int) (mo:Int) (Q:PV->Prop) (h:bz ([.scr ns,.int mo]) Q):dI eA jk ([.scr ns,.int mo]) Q:=by
 show eA _ [some (.dat (.scr ns)),some (.dat (.int mo)),none,none,none,none,none]
 obtain ⟨hmo,q⟩:=h
 walk_at "r"
 rintro x hx
 walk_at "r"
 refine d4 (fun c=>?_) (fun c=>?_)
 .walk_at "r"
  rintro y hy
  walk_at "r"
  exact q
 .walk_at "r"
  rintro x hx0 hx1
  obtain ⟨ls,hls0,hls1,hls2,hat⟩:∃ls:List Nat,0 < ls.length/\ls.length<=5/\Lts ls/\atI [D.str [97,98],D.str [97,98,99],D.str [120,121,122,97,98]] x=some (.str ls):=by
   have:x=0\/x=1\/x=2:=by omega
   rcases this with rfl | rfl | rfl
   .exact ⟨[97,98],by decide,by decide,kH.mp (by decide),rfl⟩
   .exact ⟨[97,98,99],by decide,by decide,kH.mp (by decide),rfl⟩
   .exact ⟨[120,121,122,97,98],by decide,by decide,kH.mp (by decide),rfl⟩
  walk_at "r"
  refine ⟨_,hat,?_⟩
  walk_at "r"
  refine ⟨fun k ρ=>∃(t:List Nat) (v4:Option PV),ρ=[some (.dat (.scr ns)),some (.dat (.int mo)),some (.dat (.str ls)),some (.dat (.str t)),v4,none,none]/\t.length=k/\Lts t,⟨[],none,rfl,rfl,Lts.nil⟩,?_,?_⟩
  .rintro k ρ _ hk rfl ⟨t,v4,rfl,htl,ht⟩
   have hk:k < 14:=hk
   walk_at "r"
   rintro x hx0 hx1
   obtain ⟨j,rfl⟩:∃j:Nat,x=(j:Int):=⟨x.toNat,by omega⟩
   have hj:j < ls.length:=by omega
   walk_at "r"
   refine ⟨_,eC (List.getElem?_eq_getElem hj) rfl,?_⟩
   walk_at "r"
   exact ⟨_,_,rfl,by rw [List.length_append,htl];rfl,ht.app (Lts.one (hls2 _ (List.getElem_mem hj)))⟩
  .rintro ρ ⟨t,v4,rfl,htl,ht⟩
   have htl:t.length=14:=htl
   walk_at "r"
   rintro n hn0 hn1
   walk_at "r"
   refine ⟨fun k ρ=>∃(ps:List (List Nat)) (v4 v6:Option PV),ρ=[some (.dat (.scr ns)),some (.dat (.int mo)),some (.dat (.str ls)),some (.dat (.str t)),v4,some (.own (ps.map .str)),v6]/\ps.length=k/\Pcs 9 ps,⟨[],_,none,rfl,rfl,nofun⟩,?_,?_⟩
   .rintro k ρ _ hk rfl ⟨ps,v4,v6,rfl,hpl,hps⟩
    have hk:k < (1 + n).toNat:=hk
    have hlm:(ps.map D.str).length=ps.length:=List.length_map _
    walk_at "r"
    rintro x hx0 hx1
    obtain ⟨i,rfl⟩:∃i:Nat,x=(i:Int):=⟨x.toNat,by omega⟩
    walk_at "r"
    rintro y hy0 hy1
    obtain ⟨j,rfl⟩:∃j:Nat,y=(j:Int):=⟨y.toNat,by omega⟩
    walk_at "r"
    refine ⟨ps++[eW t (some (i:Int)) (some ((i:Int) + 1 + (j:Int)))],_,_,by rw [List.map_append];rfl,by rw [List.length_append,hpl];rfl,hps.app ?_⟩
    rw [show (i:Int) + 1 + (j:Int)=((i + 1 + j:Nat):Int) by omega,oW]
    exact ⟨by rw [List.length_take,List.length_drop];omega,by rw [List.length_take,List.length_drop];omega,(ht.drop _).take _⟩
   .rintro ρ ⟨ps,v4,v6,rfl,hpl,hps⟩
    have hpl:ps.length=(1 + n).toNat:=hpl
    walk_at "r"
    exact q ps (by omega) hps
theorem oi:∀ds Q,bz ds Q->dI eA jk ds Q:=fun ds Q h=>by
 unfold bz at h
 split at h
 .exact lV _ _ _ h
 .exact h.elim
def h9:PTS:=(aQ (jf (Eb (ac (pFz (pOp yT (pFz (pCB xF (ac (pFz (pCB gn (ac (pSl 0) aw))) (ac (pFz (pCB gn (ac (pSl 1) aw))) aw)))) (pFz (pC (.int 1))))) (ac (pFz (pC (.int 0))) (ac (pFz (pUn Bm (pFz (pC (.int 1))))) aw)))) (ay 2) (jr (pB (pOp qm (pFz (dQ (pSl 0) (dn (pOp yT (pFz (pCB gn (ac (pSl 0) aw))) (pSl 2))) eG)) (pFz (dQ (pSl 1) eG (dn (aX 2)))))) (bQ (aX 2)) cP)) (bQ (pC (.int 0))))
theorem rp (a b:List Nat) (Q:PV->Prop) (h:cu ([.str a,.str b]) Q):dI h9 mK ([.str a,.str b]) Q:=by
 show h9 _ [some (.dat (.str a)),some (.dat (.str b)),none]
 obtain ⟨⟨a0,a1⟩,⟨b0,b1⟩,q⟩:=h
 have hm:(if (b.length:Int) < (a.length:Int) then (b.length:Int) else (a.length:Int))=((min a.length b.length:Nat):Int):=by split <;> omega
 walk_at "r"
 refine ⟨fun i ρ=>(∃v2:Option PV,ρ=[some (.dat (.str a)),some (.dat (.str b)),v2])/\∀j,min a.length b.length - i<=j->j < min a.length b.length->¬ b.take j <:+ a,⟨⟨_,rfl⟩,fun j h1 h2=>by omega⟩,?_,?_⟩
 .rintro i ρ d hi ed ⟨⟨v2,rfl⟩,ih⟩
  have hi:i < (((if (b.length:Int) < (a.length:Int) then (b.length:Int) else (a.length:Int)) - 1) - 0).toNat:=hi
  have ed:d=.int (((if (b.length:Int) < (a.length:Int) then (b.length:Int) else (a.length:Int)) - 1) - (i:Int)):=ed
  rw [hm] at hi ed
  obtain ⟨k,hk,hk2⟩:∃k:Nat,(((min a.length b.length:Nat):Int) - 1) - (i:Int)=(k:Int)/\k=min a.length b.length - 1 - i:=⟨min a.length b.length - 1 - i,by omega,rfl⟩
  rw [hk] at ed
  subst ed
  walk_at "r"
  have e1:eW a (some ((a.length:Int) - (k:Int))) none=a.drop (a.length - k):=by
   rw [show (a.length:Int) - (k:Int)=((a.length - k:Nat):Int) by omega,fj]
  have e2:eW b none (some (k:Int))=b.take k:=iK b k
  have sfx:a.drop (a.length - k)=b.take k ↔ b.take k <:+ a:=by
   rw [List.suffix_iff_eq_drop,List.length_take,show min k b.length=k by omega]
   exact ⟨fun h=>h.symm,fun h=>h.symm⟩
  rw [e1,e2]
  refine d4 (fun c=>?_) (fun c=>?_)
  .walk_at "r"
   rw [show f9 a b=k from nK ⟨by omega,sfx.mp c,fun j h1 h2=>by
    rcases Nat.lt_or_ge k j with h | h
    .exact absurd h2 (ih j (by omega) h1)
    .exact h⟩] at q
   exact q
  .refine ⟨⟨_,rfl⟩,fun j h1 h2=>?_⟩
   by_cases hj:j=k
   .rw [hj];exact fun z=>c (sfx.mpr z)
   .exact ih j (by omega) h2
 .rintro ρ ⟨⟨v2,rfl⟩,ih⟩
  rw [hm] at ih
  walk_at "r"
  rw [show f9 a b=0 from nK ⟨by omega,by rw [List.take_zero];exact List.nil_suffix,fun j h1 h2=>by
   rcases Nat.eq_zero_or_pos j with h | h
   .omega
   .exact absurd h2 (ih j (by omega) h1)⟩] at q
  exact q
theorem tP:∀ds Q,cu ds Q->dI h9 mK ds Q:=fun ds Q h=>by
 unfold cu at h
 split at h
 .exact rp _ _ _ h
 .exact h.elim
def fV:PTS:=(aQ (bL (pf aw) (ay 1)) (aQ (jf (vd (ac (pFz (aX 0)) aw)) (kK 2 (dR (ay 2) (dR (ay 3) nr))) (aQ (bL (gm [none,some 3] (gl (aX 0)) (ay 0) (Bi (pB (pOp fGt (pFz (pCB gn (ac (pSl 0) aw))) (pFz (pCB gn (ac (pSl 1) aw))))) (pB (pOp (Bp false) (pSl 1) (pSl 0)))) (aX 0)) (ay 4)) (jr (Bi (pB (pOp qm (pFz (pCB gn (ac (pSl 4) aw))) (pFz (pC (.int 0))))) (pB (pOp (Bp true) (pSl 3) (pFz (dQ (pSl 0) eG (dn (aX 2))))))) (eH (wH 1 (aX 2))) cP))) (bQ (aX 1))))
theorem qb (ds:List D) (Q:PV->Prop) (h:bI ([.lst ds]) Q):dI fV lh ([.lst ds]) Q:=by
 show fV _ [some (.dat (.lst ds)),none,none,none,none]
 obtain ⟨ps,rfl,⟨hn,hw⟩,q⟩:=h
 have hlm:(ps.map D.str).length=ps.length:=List.length_map _
 walk_at "r"
 refine FJ (α:=List Nat) (fun (pre:List (List Nat)) ρ=>∃v2 v3 v4:Option PV,ρ=[some (.dat (.lst (ps.map .str))),some (.own (((List.range pre.length).filter (dF ps)).map nD)),v2,v3,v4]) ⟨_,_,_,rfl⟩ ?_ ?_
 .rintro pre p suf ρ ej ⟨v2,v3,v4,rfl⟩
  have hk:pre.length < ps.length:=by rw [ej];simp
  have hp:pw ps pre.length=p:=by
   have:=f8 hk
   rw [ej,List.getElem?_append_right (Nat.le_refl _)] at this
   simp at this
   exact (this.trans (by rw [<- ej])).symm
  have hpl:p.length<=60:=hw p (by rw [ej];simp)
  have hml:(((List.range pre.length).filter (dF ps)).map nD).length<=ps.length:=by
   rw [List.length_map]
   refine Nat.le_trans (List.length_filter_le ..) ?_
   rw [List.length_range];omega
  walk_at "r"
  refine cf1 (fun o=>decide (p.length < o.length) && gq p o) (fun o=>.str o) (fun o ho v K1 K2 k1 k2=>?_) (fun v=>?_)
  .walk_at "r"
   refine d4 (fun c=>?_) (fun c=>?_)
   .walk_at "r"
    cases hs:gq p o with
    | true=>exact k1 _ (by rw [decide_eq_true (by omega:p.length < o.length)];exact hs)
    | false=>exact k2 _ (by rw [hs,Bool.and_false])
   .exact k2 _ (by rw [decide_eq_false (by omega:¬ p.length < o.length),Bool.false_and])
  .have c1:eW (ps.map D.str) none (some (pre.length:Int))=(ps.take pre.length).map D.str:=by rw [iK,List.map_take]
   have hfl:(eW (ps.map D.str) none (some (pre.length:Int))).all D.fl=true:=by rw [c1];exact vK _
   have hin:inD (.str p) (eW (ps.map D.str) none (some (pre.length:Int)))=decide (p∈ps.take pre.length):=by rw [c1];exact nL _ _
   have hkb:dF ps pre.length=(!decide (p∈ps.take pre.length) && decide ((ps.filter fun o=>decide (p.length < o.length) && gq p o).length=0)):=by
    unfold dF
    rw [hp]
    congr 1
    cases hf:(ps.filter fun o=>decide (p.length < o.length) && gq p o) with
    | nil =>
     rw [List.length_nil,decide_eq_true rfl,Bool.not_eq_true',List.any_eq_false]
     intro o ho z
     obtain ⟨m1,m2⟩:=List.mem_filter.mp ho
     have:o∈ps.filter fun o=>decide (p.length < o.length) && gq p o:=List.mem_filter.mpr ⟨m1,by rw [m2];exact z⟩
     rw [hf] at this;cases this
    | cons o r =>
     rw [List.length_cons,decide_eq_false (by omega)]
     have:o∈ps.filter fun o=>decide (p.length < o.length) && gq p o:=by rw [hf];exact List.mem_cons_self ..
     obtain ⟨m1,m2⟩:=List.mem_filter.mp this
     rw [Bool.and_eq_true] at m2
     rw [Bool.not_eq_false',List.any_eq_true]
     exact ⟨o,List.mem_filter.mpr ⟨m1,m2.1⟩,m2.2⟩
   have hrs:(List.range (pre++[p]).length).filter (dF ps)=(List.range pre.length).filter (dF ps)++(if dF ps pre.length=true then [pre.length] else []):=by
    rw [List.length_append,show pre.length + [p].length=pre.length + 1 from rfl,List.range_succ,List.filter_append]
    congr 1
    rw [List.filter_cons];rfl
   rw [hrs]
   generalize (List.range pre.length).filter (dF ps)=ks at hml
   walk_at "r"
   rw [List.length_map]
   refine d4 (fun c=>?_) (fun c=>?_)
   .walk_at "r"
    rw [hin]
    refine kA (yH (fun c2=>?_) (fun c2=>?_))
    .walk_at "r"
     have e:dF ps pre.length=false:=by rw [hkb,c2];rfl
     exact ⟨_,_,_,by rw [e,if_neg (by decide),List.append_nil]⟩
    .walk_at "r"
     have e:dF ps pre.length=true:=by rw [hkb,c2,decide_eq_true (Int.ofNat.inj c)];rfl
     exact ⟨_,_,_,by rw [e,if_pos rfl,List.map_append];rfl⟩
   .walk_at "r"
    have e:dF ps pre.length=false:=by rw [hkb,show decide ((ps.filter fun o=>decide (p.length < o.length) && gq p o).length=0)=false from decide_eq_false fun z=>c (by rw [z];rfl),Bool.and_false]
    exact ⟨_,_,_,by rw [e,if_neg (by decide),List.append_nil]⟩
 .rintro ρ ⟨v2,v3,v4,rfl⟩
  walk_at "r"
  exact q
theorem rq:∀ds Q,bI ds Q->dI fV lh ds Q:=fun ds Q h=>by
 unfold bI at h
 split at h
 .exact qb _ _ h
 .exact h.elim
def eB:PTS:=(bQ (j1 (yM .int (pSl 0)) (j1 (va (yM .bool (pSl 0))) (pOp qm (pSl 0) (pSl 1)))))
theorem lW (a b:Int) (Q:PV->Prop) (h:aS ([.int a,.int b]) Q):dI eB jl ([.int a,.int b]) Q:=by
 show eB _ [some (.dat (.int a)),some (.dat (.int b))]
 walk_at "r"
 exact h
theorem oj:∀ds Q,aS ds Q->dI eB jl ds Q:=fun ds Q h=>by
 unfold aS at h
 split at h
 .exact lW _ _ _ h
 .exact h.elim
def fb:PTS:=(aQ (bL (xH false (ac (pFz (aX 1)) aw)) (ay 2)) (aQ (jf (Ct (ac (pFz (aX 1)) aw)) (ay 3) (eH (wH 2 (vy 2 (ba aC (ac (pFz (aX 0)) (ac (pFz (pOp eU (pFz (pC (.int 70))) (pSl 3))) (ac (pFz (aX 1)) aw)))))))) (bQ (aX 2))))
theorem om (ns:List Int) (m:Int) (Q:PV->Prop) (h:bF ([.scr ns,.int m]) Q):dI fb jW ([.scr ns,.int m]) Q:=by
 show fb _ [some (.dat (.scr ns)),some (.dat (.int m)),none,none]
 obtain ⟨hm,q⟩:=h
 obtain ⟨n,rfl⟩:∃n:Nat,m=(n:Int):=⟨m.toNat,by omega⟩
 rw [Int.toNat_natCast] at q
 walk_at "r"
 refine ⟨fun k ρ=>∃(js:List Nat) (v3:Option PV),ρ=[some (.dat (.scr ns)),some (.dat (.int n)),some (.own (js.map nD)),v3]/\js.Perm (List.range n),⟨List.range n,none,by rw [<- AF];rfl,List.Perm.refl _⟩,?_,?_⟩
 .rintro k ρ _ hk rfl ⟨js,v3,rfl,hp⟩
  have hk:k < n:=hk
  have hjl:js.length=n:=by rw [hp.length_eq,List.length_range]
  have hlm:(js.map nD).length=js.length:=List.length_map _
  walk_at "r"
  rintro x hx0 hx1
  obtain ⟨i,rfl⟩:∃i:Nat,x=(i:Int):=⟨x.toNat,by omega⟩
  have hi:i < js.length:=by omega
  walk_at "r"
  refine ⟨i,nD js[i],⟨y8 (by omega),by omega⟩,by rw [List.getElem?_map,List.getElem?_eq_getElem hi];rfl,?_⟩
  have hel:((js.map nD).eraseIdx i).length < 1000000:=by rw [List.length_eraseIdx];split <;> omega
  walk_at "r"
  exact ⟨js.eraseIdx i++[js[i]],_,by rw [List.map_append,wg];rfl,(wj hi).trans hp⟩
 .rintro ρ ⟨js,v3,rfl,hp⟩
  walk_at "r"
  exact q js hp
theorem qc:∀ds Q,bF ds Q->dI fb jW ds Q:=fun ds Q h=>by
 unfold bF at h
 split at h
 .exact om _ _ _ h
 .exact h.elim
def dP:PTS:=(aQ (bL (pCB xG (ac (pSl 1) aw)) (ay 2)) (aQ (jr (pB (pOp qm (pFz (pCB gn (ac (pSl 2) aw))) (pFz (pC (.int 0))))) (bQ (Bo (pf (ac (pFz (pC (.int 0))) aw)))) cP) (aQ (bL (ba aC (ac (pFz (aX 0)) (ac (pFz (pC (.int 90))) (ac (pFz (pCB gn (ac (pSl 2) aw))) aw)))) (ay 3)) (aQ (bL (ba aC (ac (pFz (aX 0)) (ac (pFz (pC (.int 91))) (ac (pFz (pC (.int 9))) aw)))) (ay 4)) (aQ (pz (jr (pB (pOp fLt (pSl 4) (pFz (pC (.int 5))))) (mr 2 (pOp fIx (pFz (pf (ac (pFz (pCB gn (ac (pSl 2) aw))) (ac (pFz (pUn Bm (pFz (pC (.int 1))))) (ac (pFz (pC (.str [48]))) (ac (pFz (pf (ac (pFz (pC (.int 0))) aw))) (ac (pFz CI) aw))))))) (pSl 4)) (aX 3)) (jr (pB (pOp qm (pSl 4) (pFz (pC (.int 5))))) (bL (pOp eU (pFz (dQ (pSl 2) eG (dn (aX 3)))) (pFz (dQ (pSl 2) (dn (pOp eU (pSl 3) (pFz (pC (.int 1))))) eG))) (ay 2)) (jr (pB (pOp qm (pSl 4) (pFz (pC (.int 6))))) (eH (qM 2 (aX 3) (pOp fIx (pSl 2) (pSl 3)))) (jr (Bi (pB (pOp qm (pSl 4) (pFz (pC (.int 7))))) (pB (pOp fGt (pFz (pCB gn (ac (pSl 2) aw))) (pFz (pC (.int 1)))))) (mr 2 (pOp fIx (pSl 2) (pFz (pOp yT (pSl 3) (pFz (pC (.int 1)))))) (aX 3)) (mr 2 (pOp qm (pFz (pOp fIx (pSl 2) (pSl 3))) (pFz (pC (.int 1)))) (aX 3))))))) (bQ (Bo (aX 2))))))))
theorem lu (ns:List Int) (ds:List D) (Q:PV->Prop) (h:bo ([.scr ns,.lst ds]) Q):dI dP iA ([.scr ns,.lst ds]) Q:=by
 show dP _ [some (.dat (.scr ns)),some (.dat (.lst ds)),none,none,none]
 obtain ⟨js,rfl,⟨hp,hl⟩,q⟩:=h
 have hjm:(js.map nD).length=js.length:=List.length_map _
 walk_at "r"
 refine d4 (fun c=>?_) (fun c=>?_)
 .walk_at "r"
  have c:js.length=0:=by omega
  refine q [.int 0] (by decide) (fun x hx=>by rw [List.mem_singleton.mp hx];rfl) (fun d hd=>fO (by rw [hd.items,c];decide))
 .have c:0 < js.length:=by omega
  walk_at "r"
  rintro at_ ha0 ha1
  walk_at "r"
  rintro kd hk0 hk1
  obtain ⟨i,rfl⟩:∃i:Nat,at_=(i:Int):=⟨at_.toNat,by omega⟩
  have hi:i < js.length:=by omega
  have si:∀x∈js.map nD,x.sort=true:=fun x hx=>by obtain ⟨j,_,rfl⟩:=List.mem_map.mp hx;rfl
  have gi:(js.map nD)[i]?=some (.int ((js.getD i 0:Nat):Int)):=by rw [List.getElem?_map,List.getD_eq_getElem?_getD,List.getElem?_eq_getElem hi];rfl
  have mset:∀(v:D),v∈(js.map nD).set i v:=fun v=>List.mem_iff_getElem?.mpr ⟨i,by rw [List.getElem?_set,if_pos rfl,if_pos (by rw [hjm];exact hi)]⟩
  have sset:∀(v:D),v.sort=true->∀x∈(js.map nD).set i v,x.sort=true:=fun v hv x hx=>by
   rcases List.mem_or_eq_of_mem_set hx with z | z
   .exact si x z
   .rw [z];exact hv
  have lset:∀v:D,((js.map nD).set i v).length=js.length:=fun v=>by rw [List.length_set,hjm]
  have odd:∀v:D,j2 v=false->∀d:D,iO d ((js.map nD).set i v)->cN d (js.length:Nat)=false:=fun v hv d hd=>wA (x:=v) (by rw [hd.items];exact mset v) hv
  have setI:∀z:Int,(z < 0\/(js.length:Int)<=z)->∀d:D,iO d ((js.map nD).set i (.int z))->cN d (js.length:Nat)=false:=fun z hz d hd=>by
   rw [gM,<- List.map_set] at hd
   refine sG hd (tJ (z:=z) ?_ hz)
   exact List.mem_iff_getElem?.mpr ⟨i,by rw [List.getElem?_set,if_pos rfl,if_pos (by rw [List.length_map];exact hi)]⟩
  have e1:eW (js.map nD) none (some (i:Int))=(js.map nD).take i:=iK _ _
  have e2:eW (js.map nD) (some ((i:Int) + 1)) none=(js.map nD).drop (i + 1):=by rw [show (i:Int) + 1=((i + 1:Nat):Int) by omega];exact fj _ _
  have l12:((js.map nD).take i++(js.map nD).drop (i + 1)).length=js.length - 1:=by rw [List.length_append,List.length_take,List.length_drop,hjm];omega
  walk_at "r"
  refine ⟨fun ρ=>∃xs:List D,xs.length<=41/\(∀x∈xs,x.sort=true)/\(∀d:D,iO d xs->cN d (js.length:Nat)=false)/\ρ=[some (.dat (.scr ns)),some (.dat (.lst (js.map nD))),some (.own xs),some (.dat (.int (i:Int))),some (.dat (.int kd))],?_,?_⟩
  .walk_at "r"
   refine d4 (fun c1=>?_) (fun c1=>?_)
   .walk_at "r"
    obtain ⟨v,hv,sv,gv⟩:∃v:D,atI [D.int ((js.map nD).length:Nat),D.int (-1),D.str [48],D.lst [D.int 0],D.dic [] []] kd=some v/\v.sort=true/\∀d,iO d ((js.map nD).set i v)->cN d (js.length:Nat)=false:=by
     rcases (show kd=0\/kd=1\/kd=2\/kd=3\/kd=4 by omega) with e | e | e | e | e <;> subst e
     .exact ⟨_,rfl,rfl,setI _ (.inr (by rw [hjm];omega))⟩
     .exact ⟨_,rfl,rfl,setI _ (.inl (by omega))⟩
     .exact ⟨_,rfl,rfl,odd _ rfl⟩
     .exact ⟨_,rfl,rfl,odd _ rfl⟩
     .exact ⟨_,rfl,rfl,odd _ rfl⟩
    refine ⟨_,hv,?_⟩
    walk_at "r"
    refine ⟨i,y8 (by rw [hjm];exact hi),?_⟩
    exact ⟨_,by rw [lset];omega,sset v sv,gv,rfl⟩
   .walk_at "r"
    refine d4 (fun c2=>?_) (fun c2=>?_)
    .walk_at "r"
     rw [e1,e2]
     refine ⟨by rw [List.length_append] at l12;omega,?_⟩
     walk_at "r"
     refine ⟨_,by rw [l12];omega,fun x hx=>?_,fun d hd=>fO (by rw [hd.items,l12];omega),rfl⟩
     rcases List.mem_append.mp hx with z | z
     .exact si x (List.mem_of_mem_take z)
     .exact si x (List.mem_of_mem_drop z)
    .walk_at "r"
     refine d4 (fun c3=>?_) (fun c3=>?_)
     .walk_at "r"
      refine ⟨_,eC gi rfl,?_⟩
      walk_at "r"
      have li:(insN (js.map nD) (i:Int) (.int ((js.getD i 0:Nat):Int))).length=js.length + 1:=by rw [yp,hjm]
      refine ⟨_,by rw [li];omega,fun x hx=>?_,fun d hd=>fO (by rw [hd.items,li];omega),rfl⟩
      rcases yq hx with z | z
      .rw [z];rfl
      .exact si x z
     .have eqv:∀b:Bool,j2 (.bl b)=false:=fun b=>rfl
      walk_at "r"
      refine d4 (fun c4=>?_) (fun c4=>?_)
      .walk_at "r"
       refine d4 (fun c5=>?_) (fun c5=>?_)
       .obtain ⟨p,hpl,hpi,ep⟩:∃p:Nat,p < js.length/\p≠i/\atI (js.map nD) ((i:Int) - 1)=some (.int ((js.getD p 0:Nat):Int)):=by
         have gp:∀p,p < js.length->(js.map nD)[p]?=some (.int ((js.getD p 0:Nat):Int)):=fun p hp=>by rw [List.getElem?_map,List.getD_eq_getElem?_getD,List.getElem?_eq_getElem hp];rfl
         by_cases e:i=0
         .refine ⟨js.length - 1,by omega,by omega,?_⟩
          unfold atI ixN
          rw [if_neg (by omega),if_pos (by rw [hjm];omega),hjm,show ((i:Int) - 1 + (js.length:Int)).toNat=js.length - 1 by omega]
          exact gp _ (by omega)
         .exact ⟨i - 1,by omega,by omega,eC (gp (i - 1) (by omega)) (by omega)⟩
        walk_at "r"
        refine ⟨_,ep,?_⟩
        walk_at "r"
        refine ⟨i,y8 (by rw [hjm];exact hi),?_⟩
        refine ⟨_,by rw [lset];omega,sset _ rfl,fun d hd=>?_,rfl⟩
        rw [gM,<- List.map_set] at hd
        refine sG hd (tK ?_)
        have:=Bb (zs:=js.map fun j=>((j:Nat):Int)) (i:=i) (p:=p) (by rw [List.length_map];exact hi) (by rw [List.length_map];exact hpl) hpi
        rwa [show (js.map fun j=>((j:Nat):Int)).getD p 0=((js.getD p 0:Nat):Int) by
         rw [List.getD_eq_getElem?_getD,List.getElem?_map,List.getElem?_eq_getElem hpl,List.getD_eq_getElem?_getD,List.getElem?_eq_getElem hpl];rfl] at this
       .walk_at "r"
        refine ⟨_,eC gi rfl,?_⟩
        walk_at "r"
        refine ⟨i,y8 (by rw [hjm];exact hi),?_⟩
        exact ⟨_,by rw [lset];omega,sset _ rfl,odd _ rfl,rfl⟩
      .walk_at "r"
       refine ⟨_,eC gi rfl,?_⟩
       walk_at "r"
       refine ⟨i,y8 (by rw [hjm];exact hi),?_⟩
       exact ⟨_,by rw [lset];omega,sset _ rfl,odd _ rfl,rfl⟩
  .rintro ρ ⟨xs,h1,h2,h3,rfl⟩
   walk_at "r"
   exact q xs h1 h2 h3
theorem lX:∀ds Q,bo ds Q->dI dP iA ds Q:=fun ds Q h=>by
 unfold bo at h
 split at h
 .exact lu _ _ _ h
 .exact h.elim
def dC:PTS:=(aQ (bL (pf aw) (ay 2)) (aQ (ye br (ac (pFz (aX 0)) (ac (pFz (aX 1)) aw)) (ED xcs "NoOrder" 3 (eH (wH 2 (j1 (Dr xcs "GlueError" (pSl 3)) (j1 (Fh xcs (pSl 3)) (va (Dr xcs "NoLap" (pSl 3))))))) yc)) (aQ (ye aW (ac (pFz (aX 0)) (ac (pFz (aX 1)) aw)) (Fj xcs "NoOrder" (eH (wH 2 (pC (.bl true)))) yc)) (aQ (ye bY (ac (pFz (aX 0)) (ac (pFz (aX 1)) aw)) (ED xcs "GlueError" 3 (eH (wH 2 (Dr xcs "NoOrder" (pSl 3)))) yc)) (bQ (aX 2))))))
theorem j7 (c:Str) (ns:List Str) (fs:List D) (d:D) (Q:PV->Prop) (h:bc ([.obj c ns fs,d]) Q):dI dC gO ([.obj c ns fs,d]) Q:=by
 show dC _ [some (.dat (.obj c ns fs)),some (.dat (d)),none,none]
 obtain ⟨rfl,rfl,ps,rfl,⟨hs,hl,hn,hw⟩,ho,q⟩:=h
 have a2:Srt d/\(bu d).length<=60/\(ah ps).length<=60/\∀w∈ah ps,w.length<=60:=⟨hs,hl,hn,fun w h=>(hw w h).2⟩
 have a3:Srt d/\(bu d).length<=60/\(ah ps).length<=60/\∀w∈ah ps,0 < w.length/\w.length<=60:=⟨hs,hl,hn,hw⟩
 have no:∀js:List Nat,iO d (js.map nD)->js.Perm (List.range (ah ps).length)->False:=fun js h1 h2=>by rw [hX h1 h2] at ho;cases ho
 have i1:wJ "NoOrder" "NoOrder"=true:=by decide +kernel
 have i2:wJ "NoOrder" "GlueError"=true:=by decide +kernel
 have i3:wJ "NoOrder" "NoLap"=false:=by decide +kernel
 walk_at "r"
 refine ⟨fun _=>?_,fun js h1 h2=>(no js h1 h2).elim⟩
 walk_at "r"
 refine ⟨fun _=>?_,fun js h1 h2=>(no js h1 h2).elim⟩
 walk_at "r"
 refine ⟨fun _=>?_,fun js h1 h2=>(no js h1 h2).elim⟩
 walk_at "r"
 exact q
theorem lv:∀ds Q,bc ds Q->dI dC gO ds Q:=fun ds Q h=>by
 unfold bc at h
 split at h
 .exact j7 _ _ _ _ _ h
 .exact h.elim
def ia:PTS:=(aQ (bL (pC (.str [])) (ay 2)) (aQ (bL (pOp tY (pFz (pf (ac (pFz (pC (.int 0))) aw))) (pFz (pCB gn (ac (pSl 1) aw)))) (ay 3)) (aQ (jf (Ct (ac (pFz (pCB gn (ac (pSl 1) aw))) aw)) (ay 4) (aQ (bL (pC (.int 0)) (ay 5)) (aQ (pz (jr (pB (pOp fGt (pSl 4) (pFz (pC (.int 0))))) (bL (ba cu (ac (pFz (pOp fIx (pSl 0) (pFz (pOp fIx (pSl 1) (pFz (pOp yT (pSl 4) (pFz (pC (.int 1))))))))) (ac (pFz (pOp fIx (pSl 0) (pFz (pOp fIx (pSl 1) (pSl 4))))) aw))) (ay 5)) cP)) (aQ (mr 3 (pOp yT (pFz (pCB gn (ac (pSl 2) aw))) (pSl 5)) (pOp fIx (pSl 1) (pSl 4))) (bL (pOp eU (pSl 2) (pFz (dQ (pFz (pOp fIx (pSl 0) (pFz (pOp fIx (pSl 1) (pSl 4))))) (dn (aX 5)) eG))) (ay 2)))))) (bQ (Ci (ac (pFz (aX 2)) (ac (pFz (aX 3)) aw)))))))
theorem rz (es:List D) (d:D) (Q:PV->Prop) (h:cv ([.lst es,d]) Q):dI ia mL ([.lst es,d]) Q:=by
 show ia _ [some (.dat (.lst es)),some (.dat (d)),none,none,none,none]
 obtain ⟨ws,rfl,⟨hn,hw⟩,js,hd,hp,q⟩:=h
 have hjl:=fN hp
 have hjm:(js.map nD).length=js.length:=List.length_map _
 have hwm:(ws.map D.str).length=ws.length:=List.length_map _
 have hlt:∀j∈js,j < ws.length:=fun j m=>mG hp m
 have hpos:∀j∈js,0 < (pw ws j).length:=fun j hj=>(hw _ (gE (hlt j hj))).1
 have hpl:=ym fun w hw'=>(hw w hw').2
 have hgl:=wx hpl
 rcases hd with rfl | rfl
 .walk_at "r"
  have e0:sY [D.int 0] (((js.map nD).length:Nat):Int)=(stR ws js ws.length 0).map .int:=by
   rw [n8,hjm,hjl,List.map_replicate];exact sj _ _
  rw [e0]
  refine ⟨fun k ρ=>∃v4 v5:Option PV,ρ=[some (.dat (.lst (ws.map .str))),some (.dat (.lst (js.map nD))),some (.dat (.str (glN ws (js.take k)))),some (.own ((stR ws js ws.length k).map .int)),v4,v5],⟨_,_,rfl⟩,?_,?_⟩
  .rintro k ρ _ hk rfl ⟨v4,v5,rfl⟩
   have hk:k < js.length:=by rw [hjm,Int.toNat_natCast] at hk;exact hk
   have hsm:((stR ws js ws.length k).map D.int).length=ws.length:=by rw [List.length_map,n9]
   have mk:=getD_mem hk
   have hkw:=hlt _ mk
   have ak:atI (js.map nD) (k:Int)=some (.int ((js.getD k 0:Nat):Int)):=eC (j:=k) (by rw [List.getElem?_map,List.getD_eq_getElem?_getD,List.getElem?_eq_getElem hk];rfl) rfl
   have gk:=hgl (js.take k)
   have tk:(js.take k).length<=60:=by rw [List.length_take];omega
   have stp:=nV (ws:=ws) hk
   have lk:=hpl (js.getD k 0)
   walk_at "r"
   refine ⟨fun ρ=>ρ=[some (.dat (.lst (ws.map .str))),some (.dat (.lst (js.map nD))),some (.dat (.str (glN ws (js.take k)))),some (.own ((stR ws js ws.length k).map .int)),some (.dat (.int (k:Int))),some (.dat (.int (((if k=0 then 0 else f9 (pw ws (js.getD (k - 1) 0)) (pw ws (js.getD k 0)):Nat)):Int)))],?_,?_⟩
   .walk_at "r"
    refine d4 (fun c=>?_) (fun c=>?_)
    .have hk0:k≠0:=by omega
     have hk1:k - 1 < js.length:=by omega
     have m1:=getD_mem hk1
     have hw1:=hlt _ m1
     have ak1:atI (js.map nD) ((k:Int) - 1)=some (.int ((js.getD (k - 1) 0:Nat):Int)):=eC (j:=k - 1) (by rw [List.getElem?_map,List.getD_eq_getElem?_getD,List.getElem?_eq_getElem hk1];rfl) (by omega)
     have p1:=hpos _ m1
     have p2:=hpos _ mk
     have l1:=hpl (js.getD (k - 1) 0)
     walk_at "r"
     refine ⟨_,ak1,?_⟩
     walk_at "r"
     refine ⟨_,cH hw1 rfl,?_⟩
     walk_at "r"
     refine ⟨_,ak,?_⟩
     walk_at "r"
     refine ⟨_,cH hkw rfl,?_⟩
     walk_at "r"
     rw [if_neg hk0]
    .walk_at "r"
     have hk0:k=0:=by omega
     rw [if_pos hk0]
     rfl
   .rintro ρ rfl
    walk_at "r"
    refine ⟨_,ak,?_⟩
    walk_at "r"
    refine ⟨js.getD k 0,y8 (by rw [hsm];exact hkw),?_⟩
    walk_at "r"
    refine ⟨_,ak,?_⟩
    walk_at "r"
    refine ⟨_,cH hkw rfl,?_⟩
    have c1:=dH (pw ws (js.getD k 0)) (some (((if k=0 then 0 else f9 (pw ws (js.getD (k - 1) 0)) (pw ws (js.getD k 0)):Nat)):Int)) none
    walk_at "r"
    rw [zg hpos hk,<- List.map_set,rc hp hk,fj,<- stp]
    exact ⟨_,_,rfl⟩
  .rintro ρ ⟨v4,v5,rfl⟩
   rw [hjm,Int.toNat_natCast,List.take_length]
   walk_at "r"
   exact q
 .walk_at "r"
  have e0:sY [D.int 0] (((js.map nD).length:Nat):Int)=(stR ws js ws.length 0).map .int:=by
   rw [n8,hjm,hjl,List.map_replicate];exact sj _ _
  rw [e0]
  refine ⟨fun k ρ=>∃v4 v5:Option PV,ρ=[some (.dat (.lst (ws.map .str))),some (.dat (.tup (js.map nD))),some (.dat (.str (glN ws (js.take k)))),some (.own ((stR ws js ws.length k).map .int)),v4,v5],⟨_,_,rfl⟩,?_,?_⟩
  .rintro k ρ _ hk rfl ⟨v4,v5,rfl⟩
   have hk:k < js.length:=by rw [hjm,Int.toNat_natCast] at hk;exact hk
   have hsm:((stR ws js ws.length k).map D.int).length=ws.length:=by rw [List.length_map,n9]
   have mk:=getD_mem hk
   have hkw:=hlt _ mk
   have ak:atI (js.map nD) (k:Int)=some (.int ((js.getD k 0:Nat):Int)):=eC (j:=k) (by rw [List.getElem?_map,List.getD_eq_getElem?_getD,List.getElem?_eq_getElem hk];rfl) rfl
   have gk:=hgl (js.take k)
   have tk:(js.take k).length<=60:=by rw [List.length_take];omega
   have stp:=nV (ws:=ws) hk
   have lk:=hpl (js.getD k 0)
   walk_at "r"
   refine ⟨fun ρ=>ρ=[some (.dat (.lst (ws.map .str))),some (.dat (.tup (js.map nD))),some (.dat (.str (glN ws (js.take k)))),some (.own ((stR ws js ws.length k).map .int)),some (.dat (.int (k:Int))),some (.dat (.int (((if k=0 then 0 else f9 (pw ws (js.getD (k - 1) 0)) (pw ws (js.getD k 0)):Nat)):Int)))],?_,?_⟩
   .walk_at "r"
    refine d4 (fun c=>?_) (fun c=>?_)
    .have hk0:k≠0:=by omega
     have hk1:k - 1 < js.length:=by omega
     have m1:=getD_mem hk1
     have hw1:=hlt _ m1
     have ak1:atI (js.map nD) ((k:Int) - 1)=some (.int ((js.getD (k - 1) 0:Nat):Int)):=eC (j:=k - 1) (by rw [List.getElem?_map,List.getD_eq_getElem?_getD,List.getElem?_eq_getElem hk1];rfl) (by omega)
     have p1:=hpos _ m1
     have p2:=hpos _ mk
     have l1:=hpl (js.getD (k - 1) 0)
     walk_at "r"
     refine ⟨_,ak1,?_⟩
     walk_at "r"
     refine ⟨_,cH hw1 rfl,?_⟩
     walk_at "r"
     refine ⟨_,ak,?_⟩
     walk_at "r"
     refine ⟨_,cH hkw rfl,?_⟩
     walk_at "r"
     rw [if_neg hk0]
    .walk_at "r"
     have hk0:k=0:=by omega
     rw [if_pos hk0]
     rfl
   .rintro ρ rfl
    walk_at "r"
    refine ⟨_,ak,?_⟩
    walk_at "r"
    refine ⟨js.getD k 0,y8 (by rw [hsm];exact hkw),?_⟩
    walk_at "r"
    refine ⟨_,ak,?_⟩
    walk_at "r"
    refine ⟨_,cH hkw rfl,?_⟩
    have c1:=dH (pw ws (js.getD k 0)) (some (((if k=0 then 0 else f9 (pw ws (js.getD (k - 1) 0)) (pw ws (js.getD k 0)):Nat)):Int)) none
    walk_at "r"
    rw [zg hpos hk,<- List.map_set,rc hp hk,fj,<- stp]
    exact ⟨_,_,rfl⟩
  .rintro ρ ⟨v4,v5,rfl⟩
   rw [hjm,Int.toNat_natCast,List.take_length]
   walk_at "r"
   exact q
theorem tQ:∀ds Q,cv ds Q->dI ia mL ds Q:=fun ds Q h=>by
 unfold cv at h
 split at h
 .exact rz _ _ _ h
 .exact h.elim
def fW:PTS:=(aQ (bL (ba cv (ac (pFz (aX 1)) (ac (pFz (aX 2)) aw))) (kK 2 (dR (ay 3) (dR (ay 4) nr)))) (aQ (bL (kP br (ac (pFz (aX 0)) (ac (pFz (aX 2)) aw))) (ay 5)) (aQ (jr (pOr (wG (pB (yM .str (pSl 5)))) (pB (pOp wI (pSl 5) (pSl 3)))) (bQ (pC (.bl false))) cP) (aQ (bL (kP aW (ac (pFz (aX 0)) (ac (pFz (aX 2)) aw))) (ay 6)) (aQ (jr (pOr (wG (pB (yM .tuple (pSl 6)))) (pB (pOp wI (pFz (pCB gn (ac (pSl 6) aw))) (pFz (pCB gn (ac (pSl 1) aw)))))) (bQ (pC (.bl false))) cP) (aQ (jf (zb (ac (pFz (aX 1)) (ac (pFz (aX 6)) (ac (pFz (aX 4)) aw)))) (kK 3 (dR (ay 7) (dR (ay 8) (dR (ay 9) nr)))) (jr (pOr (wG (pB (ba aS (ac (pFz (aX 8)) (ac (pFz (aX 9)) aw))))) (pB (pOp wI (pFz (dQ (pSl 5) (dn (aX 8)) (dn (pOp eU (pSl 8) (pFz (pCB gn (ac (pSl 7) aw))))))) (pSl 7)))) (bQ (pC (.bl false))) cP)) (bQ (ba aS (ac (pFz (kP bY (ac (pFz (aX 0)) (ac (pFz (aX 2)) aw)))) (ac (pFz (pOp yT (pFz (pCB vi (ac (pFz (gm [none] (gl (aX 1)) (ay 0) pA (pCB gn (ac (pSl 0) aw)))) aw))) (pFz (pCB gn (ac (pSl 3) aw))))) aw))))))))))
theorem qe (c:Str) (ns:List Str) (fs:List D) (es:List D) (d:D) (Q:PV->Prop) (h:bp ([.obj c ns fs,.lst es,d]) Q):dI fW lj ([.obj c ns fs,.lst es,d]) Q:=by
 show fW _ [some (.dat (.obj c ns fs)),some (.dat (.lst es)),some (.dat (d)),none,none,none,none,none,none,none]
 obtain ⟨rfl,rfl,ps,rfl,rfl,⟨hn,hw⟩,js,hd,hp,q⟩:=h
 have hjl:=fN hp
 have hjm:(js.map nD).length=js.length:=List.length_map _
 have hwm:((ah ps).map D.str).length=(ah ps).length:=List.length_map _
 have hlt:∀j∈js,j < (ah ps).length:=fun j m=>mG hp m
 have hpos:∀j∈js,0 < (pw (ah ps) j).length:=fun j hj=>(hw _ (gE (hlt j hj))).1
 have hpl:=ym fun w hw'=>(hw w hw').2
 have hgl:=wx hpl js
 have srt:Srt d:=⟨by rcases hd with rfl | rfl <;> rfl,fun x hx=>by rw [hd.items] at hx;obtain ⟨j,_,rfl⟩:=List.mem_map.mp hx;rfl⟩
 have il:(bu d).length<=60:=by rw [hd.items,hjm];omega
 have a1:(ah ps).length<=60/\∀w∈ah ps,0 < w.length/\w.length<=60:=⟨by omega,hw⟩
 have a2:Srt d/\(bu d).length<=60/\(ah ps).length<=60/\∀w∈ah ps,w.length<=60:=⟨srt,il,by omega,fun w h=>(hw w h).2⟩
 have a3:Srt d/\(bu d).length<=60/\(ah ps).length<=60/\∀w∈ah ps,0 < w.length/\w.length<=60:=⟨srt,il,by omega,hw⟩
 have io:=hX hd hp
 have no:cN d ((ah ps).length:Nat)=false->False:=fun z=>by rw [io] at z;cases z
 have hsm:((stR (ah ps) js (ah ps).length js.length).map D.int).length=(ah ps).length:=by rw [List.length_map,n9]
 walk_at "r"
 refine ⟨js,hd,hp,?_⟩
 walk_at "r"
 intro ks hk1 hk2
 have e:=A8 hd hk1
 subst e
 walk_at "r"
 intro ks hk1 hk2
 have e:=A8 hd hk1
 subst e
 walk_at "r"
 have hst:∀k,k < (ah ps).length->∃z:Nat,(stR (ah ps) js (ah ps).length js.length)[k]?=some (z:Int)/\((glN (ah ps) js).drop z).take (pw (ah ps) k).length=pw (ah ps) k:=fun k hk=>by
  have mk:k∈js:=hp.mem_iff.mpr (List.mem_range.mpr hk)
  have lx:=List.idxOf_lt_length_of_mem mk
  have ex:js.getD (js.idxOf k) 0=k:=by rw [List.getD_eq_getElem?_getD,List.getElem?_eq_getElem lx,List.getElem_idxOf lx];rfl
  refine ⟨stK (ah ps) js (js.idxOf k),?_,?_⟩
  .have:=zf (ws:=ah ps) hp lx lx
   rw [ex] at this;exact this
  .have:=tI hpos lx
   rw [ex] at this;exact this
 refine ⟨fun k ρ=>∃v7 v8 v9:Option PV,ρ=[some (.dat (.obj "Family" kM (kN ps))),some (.dat (.lst ((ah ps).map .str))),some (.dat d),some (.dat (.str (glN (ah ps) js))),some (.dat (.lst ((stR (ah ps) js (ah ps).length js.length).map .int))),some (.dat (.str (glN (ah ps) js))),some (.dat (.tup ((stR (ah ps) js (ah ps).length js.length).map .int))),v7,v8,v9],⟨_,_,_,rfl⟩,?_,?_⟩
 .rintro k ρ _ hk rfl ⟨v7,v8,v9,rfl⟩
  have hk:k < (ah ps).length:=by rw [hwm] at hk;exact hk
  obtain ⟨z,h1,h2⟩:=hst k hk
  have ez:itD ((stR (ah ps) js (ah ps).length js.length).map D.int) k=.int (z:Int):=ik (by rw [List.getElem?_map,h1];rfl)
  have lk:=hpl k
  rw [fG (by rw [hwm];exact hk),ez]
  walk_at "r"
  have ec:eW (glN (ah ps) js) (some (z:Int)) (some ((z:Int) + ((pw (ah ps) k).length:Int)))=pw (ah ps) k:=by
   rw [show (z:Int) + ((pw (ah ps) k).length:Int)=((z + (pw (ah ps) k).length:Nat):Int) by omega,oW,show z + (pw (ah ps) k).length - z=(pw (ah ps) k).length by omega];exact h2
  refine yI ec ?_
  exact ⟨_,_,_,rfl⟩
 .rintro ρ ⟨v7,v8,v9,rfl⟩
  walk_at "r"
  intro ks hk1 hk2
  have e:=A8 hd hk1
  subst e
  walk_at "r"
  refine cm1 (fun w=>.int (w.length:Int)) (fun w hw v K1 k1=>?_) (fun v=>?_)
  .walk_at "r"
   exact k1 _
  .rw [kQ (fun w:List Nat=>(w.length:Int))]
   walk_at "r"
   rw [decide_eq_true (wB hp hpos)]
   exact q
theorem rA:∀ds Q,bp ds Q->dI fW lj ds Q:=fun ds Q h=>by
 unfold bp at h
 split at h
 .exact qe _ _ _ _ _ _ h
 .exact h.elim
def sJ:PTS:=(aQ (bL (ba bz (ac (pFz (aX 0)) (ac (pFz (pC (.int 12))) aw))) (ay 1)) (aQ (bL (Ax "Family" bj (ac (pFz (aX 1)) aw)) (ay 2)) (aQ (bL (gm [none,some 1] (gl (ba bI (ac (pFz (aX 1)) aw))) (ay 0) pA (pOp fIx (pSl 1) (pSl 0))) (ay 3)) (aQ (bL (pCB gn (ac (pSl 3) aw)) (ay 4)) (aQ (bL (ba bF (ac (pFz (aX 0)) (ac (pFz (aX 4)) aw))) (ay 5)) (aQ (bL (ba bo (ac (pFz (aX 0)) (ac (pFz (aX 5)) aw))) (ay 6)) (aQ (jr (pOr (pB (pOp (fIs true) (pFz (ba aY (ac (pFz (aX 5)) (ac (pFz (aX 4)) aw)))) (pFz (pC (.bl true))))) (pB (pOp (fIs true) (pFz (ba aY (ac (pFz (pCB fo (ac (pSl 5) aw))) (ac (pFz (aX 4)) aw)))) (pFz (pC (.bl true)))))) (bQ (pC (.bl false))) cP) (aQ (jf (gl (pf (ac (pFz (aX 6)) (ac (pFz (pCB fo (ac (pSl 6) aw))) (ac (pFz (pC .non)) (ac (pFz (pC (.bl true))) (ac (pFz (pC (.str [48,49]))) (ac (pFz (A1 [(Sum.inl 0)] (ac (pFz (pC (.int 0))) aw))) (ac (pFz (aX 4)) (ac (pFz (pOp eU (pSl 5) (pFz (pf (ac (pFz (aX 4)) aw))))) aw)))))))))) (ay 7) (jr (pB (pOp (fIs true) (pFz (ba aY (ac (pFz (aX 7)) (ac (pFz (aX 4)) aw)))) (pFz (pC (.bl false))))) (bQ (pC (.bl false))) cP)) (aQ (bL (Ax "Family" bj (ac (pFz (pf aw)) aw)) (ay 8)) (aQ (jr (pOr (pB (pOp wI (pFz (kP br (ac (pFz (aX 8)) (ac (pFz (pf aw)) aw)))) (pFz (pC (.str []))))) (pOr (pB (pOp wI (pFz (kP aW (ac (pFz (aX 8)) (ac (pFz (Ci aw)) aw)))) (pFz (Ci aw)))) (wG (pB (ba aS (ac (pFz (kP bY (ac (pFz (aX 8)) (ac (pFz (pf aw)) aw)))) (ac (pFz (pC (.int 0))) aw))))))) (bQ (pC (.bl false))) cP) (aQ (bL (pCB xG (ac (pSl 5) aw)) (ay 9)) (aQ (bL (pOp fIx (pFz (pf (ac (pFz (aX 6)) (ac (pFz (pCB fo (ac (pSl 6) aw))) (ac (pFz (pC .non)) (ac (pFz (pC (.bl true))) (ac (pFz (pC (.str [48,49]))) (ac (pFz (A1 [(Sum.inl 0),(Sum.inl 1)] (ac (pFz (pC (.int 0))) (ac (pFz (pC (.int 1))) aw)))) (ac (pFz (aX 4)) aw))))))))) (pFz (ba aC (ac (pFz (aX 0)) (ac (pFz (pC (.int 95))) (ac (pFz (pC (.int 7))) aw)))))) (ay 10)) (aQ (jr (pOr (wG (pB (ba bp (ac (pFz (aX 2)) (ac (pFz (aX 3)) (ac (pFz (aX 5)) aw)))))) (pB (pOp wI (pFz (ba bc (ac (pFz (aX 2)) (ac (pFz (aX 10)) aw)))) (pFz (pf (ac (pFz (pC (.bl true))) (ac (pFz (pC (.bl true))) (ac (pFz (pC (.bl true))) aw)))))))) (bQ (pC (.bl false))) cP) (bQ (j1 (ba bp (ac (pFz (aX 2)) (ac (pFz (aX 3)) (ac (pFz (pCB fo (ac (pFz (C9 (pSl 5) (pUn Bm (pFz (pC (.int 1)))))) aw))) aw)))) (j1 (ba bp (ac (pFz (aX 2)) (ac (pFz (aX 3)) (ac (pFz (aX 5)) aw)))) (pOp qm (pSl 5) (pSl 9))))))))))))))))))
theorem Bd (ns:List Int) (h63:ns.length<=63) (Q:PV->Prop) (q:Q (.dat (.bl true))):dI sJ zi [.scr ns] Q:=by
 show sJ _ [some (.dat (.scr ns)),none,none,none,none,none,none,none,none,none,none]
 walk_at "r"
 rintro ps hpl hps
 have hpl:ps.length<=12:=hpl
 have hp6:ps.length<=40/\Pcs 60 ps:=⟨by omega,fun w hw=>⟨(hps w hw).1,Nat.le_trans (hps w hw).2.1 (by decide),(hps w hw).2.2⟩⟩
 have hp7:ps.length<=40/\∀w∈ps,w.length<=60:=⟨by omega,fun w hw=>(hp6.2 w hw).2.1⟩
 have hlm:(ps.map D.str).length=ps.length:=List.length_map _
 have hwp:=jx hp6.2
 have hwn:=jy ps
 have hkn:=gZ ps
 have hkm:((aO ps).map nD).length=(aO ps).length:=List.length_map _
 have hwm:((ah ps).map D.str).length=(ah ps).length:=List.length_map _
 walk_at "r"
 refine cm1 (fun k=>.str (pw ps k)) (fun k hk v K1 k1=>?_) (fun v=>?_)
 .have hk2:=fq hk
  have e1:nD k=.int (k:Int):=rfl
  rw [e1]
  walk_at "r"
  refine ⟨_,cH hk2 rfl,?_⟩
  walk_at "r"
  exact k1 _
 have e1:(aO ps).map (fun k=>D.str (pw ps k))=(ah ps).map D.str:=by unfold ah;rw [List.map_map];rfl
 rw [e1]
 walk_at "r"
 rintro js hjs
 rw [hwm,Int.toNat_natCast] at hjs
 have hjl:=fN hjs
 have hjm:(js.map nD).length=js.length:=List.length_map _
 have hjs2:js.Perm (List.range js.length)/\js.length<=40:=⟨by rw [hjl];exact hjs,by omega⟩
 walk_at "r"
 rintro xs hx1 hx2 hx3
 rw [hjl] at hx3
 have s1:Srt (.lst (js.map nD)):=by rw [gM];exact oa (.lst _)
 have s2:Srt (.tup (js.map nD)):=by rw [gM];exact oa (.tup _)
 have o1:=hX (iO.lst (js.map nD)) hjs
 have o2:=hX (iO.tup (js.map nD)) hjs
 have b1:(bu (.lst (js.map nD))).length<=60/\(0:Int)<=((ah ps).length:Int)/\((ah ps).length:Int)<=60:=⟨by show (js.map nD).length<=60;omega,by omega,by omega⟩
 have b2:(bu (.tup (js.map nD))).length<=60/\(0:Int)<=((ah ps).length:Int)/\((ah ps).length:Int)<=60:=⟨by show (js.map nD).length<=60;omega,by omega,by omega⟩
 rw [hwm]
 walk_at "r"
 refine Dk (Fq o1) ?_
 walk_at "r"
 refine Dk (Fq o2) ?_
 walk_at "r"
 have good:∀x∈[D.lst xs,D.tup xs,D.non,D.bl true,D.str [48,49],D.dic [Sum.inl 0] [D.int 0],D.int ((ah ps).length:Int),D.lst (js.map nD++[D.int ((ah ps).length:Int)])],Srt x/\(bu x).length<=60/\cN x ((ah ps).length:Nat)=false:=fun x hx=>by
  have row:∀x:D,x.sort=true->bu x=[]->vw x=false->Srt x/\(bu x).length<=60/\cN x ((ah ps).length:Nat)=false:=fun x h1 h2 h3=>⟨⟨h1,fun y hy=>by rw [h2] at hy;cases hy⟩,by rw [h2];decide,pZ h3⟩
  simp only [List.mem_cons,List.not_mem_nil,or_false] at hx
  rcases hx with rfl | rfl | rfl | rfl | rfl | rfl | rfl | rfl
  .exact ⟨⟨rfl,hx2⟩,by show xs.length<=60;omega,hx3 _ (.lst _)⟩
  .exact ⟨⟨rfl,hx2⟩,by show xs.length<=60;omega,hx3 _ (.tup _)⟩
  .exact row _ rfl rfl rfl
  .exact row _ rfl rfl rfl
  .exact row _ rfl rfl rfl
  .exact row _ rfl rfl rfl
  .exact row _ rfl rfl rfl
  .have el:js.map nD++[D.int ((ah ps).length:Int)]=((js.map fun j=>((j:Nat):Int))++[((ah ps).length:Int)]).map .int:=by rw [gM,List.map_append];rfl
   rw [el]
   refine ⟨oa (.lst _),?_,fO ?_⟩
   .show List.length (List.map _ _)<=60
    rw [List.length_map,List.length_append,List.length_map];show js.length + 1<=60;omega
   .show ((List.length (List.map _ _):Nat):Int)≠_
    rw [List.length_map,List.length_append,List.length_map];show ((js.length + 1:Nat):Int)≠_;omega
 refine ⟨fun k ρ=>∃v7:Option PV,ρ=[some (.dat (.scr ns)),some (.dat (.lst (ps.map .str))),some (.ins "Family" kM (kN ps)),some (.own ((ah ps).map .str)),some (.dat (.int ((ah ps).length:Int))),some (.dat (.lst (js.map nD))),some (.dat (.lst xs)),v7,none,none,none],⟨_,rfl⟩,?_,?_⟩
 .rintro k ρ x hk hx ⟨v7,rfl⟩
  obtain ⟨g1,g2,g3⟩:=good x (by rw [hx];exact qZ hk)
  have g2:(bu x).length<=60/\(0:Int)<=((ah ps).length:Int)/\((ah ps).length:Int)<=60:=⟨g2,by omega,by omega⟩
  clear hx
  walk_at "r"
  refine Dk (FK g3) ?_
  exact ⟨_,rfl⟩
 rintro ρ ⟨v7,rfl⟩
 have w0:ah []=[]:=rfl
 have n1:Srt (.lst [])/\(bu (.lst [])).length<=60/\(ah []).length<=60/\∀w∈ah [],w.length<=60:=⟨⟨rfl,fun x hx=>by cases hx⟩,by decide,by decide,nofun⟩
 have n2:Srt (.tup [])/\(bu (.tup [])).length<=60/\(ah []).length<=60/\∀w∈ah [],0 < w.length/\w.length<=60:=⟨⟨rfl,fun x hx=>by cases hx⟩,by decide,by decide,nofun⟩
 have f1:cN (.lst []) ((ah []).length:Nat)=false->False:=fun z=>by rw [hX (js:=[]) (.lst []) (List.Perm.refl _)] at z;cases z
 have f2:cN (.tup []) ((ah []).length:Nat)=false->False:=fun z=>by rw [hX (js:=[]) (.tup []) (List.Perm.refl _)] at z;cases z
 walk_at "r"
 refine ⟨[],.lst [],⟨by decide,nofun⟩,rfl,?_⟩
 walk_at "r"
 intro ks k1 k2
 have ek:ks=[]:=List.length_eq_zero_iff.mp (fN k2)
 subst ek
 walk_at "r"
 intro ks k1 k2
 have ek:ks=[]:=List.length_eq_zero_iff.mp (fN k2)
 subst ek
 walk_at "r"
 intro ks k1 k2
 have ek:ks=[]:=List.length_eq_zero_iff.mp (fN k2)
 subst ek
 walk_at "r"
 rintro kd hk0 hk1
 obtain ⟨v,hv,gv1,gv2,gv3⟩:∃v:D,atI [D.lst xs,D.tup xs,D.non,D.bl true,D.str [48,49],D.dic [Sum.inl 0,Sum.inl 1] [D.int 0,D.int 1],D.int ((ah ps).length:Int)] kd=some v/\Srt v/\(bu v).length<=60/\cN v ((ah ps).length:Nat)=false:=by
  rcases (show kd=0\/kd=1\/kd=2\/kd=3\/kd=4\/kd=5\/kd=6 by omega) with e | e | e | e | e | e | e <;> subst e
  .exact ⟨_,rfl,good _ (by simp)⟩
  .exact ⟨_,rfl,good _ (by simp)⟩
  .exact ⟨_,rfl,good _ (by simp)⟩
  .exact ⟨_,rfl,good _ (by simp)⟩
  .exact ⟨_,rfl,good _ (by simp)⟩
  .exact ⟨_,rfl,⟨rfl,fun x hx=>by cases hx⟩,by decide,pZ rfl⟩
  .exact ⟨_,rfl,good _ (by simp)⟩
 have t1:(ah ps).length<=40/\∀w∈ah ps,0 < w.length/\w.length<=60:=⟨by omega,fun w hw=>⟨(hwp w hw).1,(hwp w hw).2.1⟩⟩
 have t2:Srt v/\(bu v).length<=60/\(ah ps).length<=60/\∀w∈ah ps,0 < w.length/\w.length<=60:=⟨gv1,gv2,by omega,t1.2⟩
 clear good
 walk_at "r"
 refine ⟨_,hv,?_⟩
 have hjr:js.reverse.Perm (List.range (ah ps).length):=(List.reverse_perm js).trans hjs
 have er:(js.map nD).reverse=js.reverse.map nD:=by rw [List.map_reverse]
 walk_at "r"
 rw [er]
 refine ⟨js.reverse,.tup _,hjr,?_⟩
 walk_at "r"
 have shj:Sh (.lst (js.map nD)):=by rw [gM];exact (Fl.lst (n:=0) (Fl.ints _)).sh (by decide)
 refine ⟨Ag.of shj shj,?_⟩
 rw [xN shj]
 exact q
theorem Dc:∀ds Q,sH ds Q->dI sJ zi ds Q:=fun ds Q h=>by
 obtain ⟨ns,rfl,h63,q⟩:=h
 exact Bd ns h63 Q q
section
variable {P:Program}{w:World}{K:PySem.W.Frag}{mg:Str->Option Value}{base:Heap}
theorem qf:∀ds Q,cY ds Q->ds.length=1:=fun ds Q h=>by unfold cY at h;split at h;(first | rfl | exact h.elim);(first | rfl | exact h.elim)
theorem wE (D:cA K mg "is_row" nX) (T:Txt mg) (TC:TxC K) (TX:TxX K mg):Cal P w K mg base 1 "is_row" ["thing"] (spP K cY):=by
 refine D.ok ww (fun _ _ _ _ _ _ us hl=>match us,hl with | [_],_=>rfl) (fun vs H Q E h=>?_) (fun f cdv A outer s H vs Q E hr h=>?_)
 .exact ju qf h
 .have hu:=hr.units
  exact ⟨_,(au (bd (ar (Ea K rfl) rfl T.b_isinstance boot_isinstance (paC (pv 0) (paC (oJ (paC (fe (v:=.ty "list") rfl T.b_list boot_list rfl) (paC (fe (v:=.ty "tuple") rfl T.b_tuple boot_tuple rfl) ag))) ag))))),fnP (K:=K) (c:=cY) (ps:=jn) (N:=["thing"]) (bf (Cs .list .tuple lK (aq (i:=0)))) (fun ds Q h=>Nat.le_trans (Nat.le_of_eq (qf ds Q h)) (by decide)) wC h⟩
theorem jX:∀ds Q,bA ds Q->ds.length=1:=fun ds Q h=>by unfold bA at h;split at h;(first | rfl | exact h.elim);(first | rfl | exact h.elim)
theorem qg (D:cA K mg "is_number" iQ) (T:Txt mg) (TC:TxC K) (TX:TxX K mg):Cal P w K mg base 1 "is_number" ["thing"] (spP K bA):=by
 refine D.ok pX (fun _ _ _ _ _ _ us hl=>match us,hl with | [_],_=>rfl) (fun vs H Q E h=>?_) (fun f cdv A outer s H vs Q E hr h=>?_)
 .exact ju jX h
 .have hu:=hr.units
  exact ⟨_,(au (bd (gy (ar (qF K rfl) rfl T.b_isinstance boot_isinstance (paC (pv 0) (paC (fe (v:=.ty "int") rfl T.b_int boot_int rfl) ag))) (kf (rK (ar (qF K rfl) rfl T.b_isinstance boot_isinstance (paC (pv 0) (paC (fe (v:=.ty "bool") rfl T.b_bool boot_bool rfl) ag)))))))),fnP (K:=K) (c:=bA) (ps:=e8) (N:=["thing"]) (bf (gB (kC .int (aq (i:=0))) (r9 (kC .bool (aq (i:=0)))))) (fun ds Q h=>Nat.le_trans (Nat.le_of_eq (jX ds Q h)) (by decide)) p3 h⟩
theorem iB:∀ds Q,bi ds Q->ds.length=2:=fun ds Q h=>by unfold bi at h;split at h;(first | rfl | exact h.elim);(first | rfl | exact h.elim)
theorem lY (D:cA K mg "are_numbers" fJ) (T:Txt mg) (TC:TxC K) (TX:TxX K mg) (C_is_number:Cal P w K mg base 1 "is_number" ["thing"] (spP K bA)) (C_is_row:Cal P w K mg base 1 "is_row" ["thing"] (spP K cY)):Cal P w K mg base 2 "are_numbers" ["thing","many"] (spP K bi):=by
 refine D.ok lM (fun _ _ _ _ _ _ us hl=>match us,hl with | [_,_],_=>rfl) (fun vs H Q E h=>?_) (fun f cdv A outer s H vs Q E hr h=>?_)
 .exact ju iB h
 .have hu:=hr.units
  exact ⟨_,(au (bd (gy (aL C_is_row (hr.mono (by decide)) (paC (pv 0) ag)) (gy (iI (jh K rfl hu) (ar (cM K rfl) rfl T.b_len PySem.boot_len (paC (pv 0) ag)) (pv 1) (bx _)) (kf (ar (CC K rfl rfl) rfl T.b_all boot_all (paC (dE (wi:=(mq K (cJ 0))) (g:=(dY 0)) (tts:=qy) (te:=(iJ (spP K bA) [] E0 (bV (cJ 0) i4))) ["item"] [none] rfl (dS K rfl (pv 0)) (fun _ _ _ _=>⟨(aT (i:=0) (by show List.Nodup (["item"]:List Str);decide +kernel) rfl (by first | exact Or.inl rfl | exact Or.inr rfl)),dZ,(aL C_is_number (hr.mono (by decide)) (paC (pv 0) ag))⟩) (by kernel_rfl)) ag))))))),fnP (K:=K) (c:=bi) (ps:=dJ) (N:=["thing","many"]) (bf (gB (aE (c:=cY) (aa (ae (al (i:=0))) af)) (gB (aB eY (ae (bt bB (aa (aq (i:=0)) af))) (aq (i:=1))) (bt yP (aa (ae (cG (ix:=[none]) rfl (dU (al (i:=0))) (fun fs hc=>(aH (i:=0) (oB hc (by decide)))) fZ (aE (c:=bA) (aa (ae (al (i:=0))) af)))) af))))) (fun ds Q h=>Nat.le_trans (Nat.le_of_eq (iB ds Q h)) (by decide)) lQ h⟩
theorem lw:∀ds Q,aY ds Q->ds.length=2:=fun ds Q h=>by unfold aY at h;split at h;(first | rfl | exact h.elim);(first | rfl | exact h.elim)
theorem rB (D:cA K mg "is_order" jD) (T:Txt mg) (TC:TxC K) (TX:TxX K mg) (C_are_numbers:Cal P w K mg base 2 "are_numbers" ["thing","many"] (spP K bi)):Cal P w K mg base 3 "is_order" ["thing","many"] (spP K aY):=by
 refine D.ok qW (fun _ _ _ _ _ _ us hl=>match us,hl with | [_,_],_=>rfl) (fun vs H Q E h=>?_) (fun f cdv A outer s H vs Q E hr h=>?_)
 .exact ju lw h
 .have hu:=hr.units
  exact ⟨_,(au (bd (gy (aL C_are_numbers (hr.mono (by decide)) (paC (pv 0) (paC (pv 1) ag))) (kf (iI (jh K rfl hu) (ar (AC K rfl) rfl T.b_sorted boot_sorted (paC (pv 0) ag)) (bq (vk K rfl rfl) rfl T.b_list boot_list (paC (ky rfl T.b_range (paC (pv 1) ag)) ag)) (bx _)))))),fnP (K:=K) (c:=aY) (ps:=fP) (N:=["thing","many"]) (bf (gB (aE (c:=bi) (aa (ae (al (i:=0))) (aa (ae (al (i:=1))) af))) (aB eY (ae (bt xX (aa (aq (i:=0)) af))) (ae (nB false (aa (ae (al (i:=1))) af)))))) (fun ds Q h=>Nat.le_trans (Nat.le_of_eq (lw ds Q h)) (by decide)) rd h⟩
theorem iC:∀ds Q E,aJ ds Q E->ds.length=2:=fun ds Q E h=>by unfold aJ at h;split at h;(first | rfl | exact h.elim);(first | rfl | exact h.elim)
theorem lZ (D:cA K mg "check_order" fK) (T:Txt mg) (TC:TxC K) (TX:TxX K mg) (C_Family_many:Dj P w K mg base 1 (aP K "Family") "many" ["self"] (spP K bn)) (C_is_order:Cal P w K mg base 3 "is_order" ["thing","many"] (spP K aY)):oE P w K mg base 4 "check_order" ["family","order"] (spX K aJ):=by
 refine D.okE lN (fun _ _ _ _ _ _ us hl=>match us,hl with | [_,_],_=>rfl) (fun vs H Q E h=>?_) (fun f cdv A outer s H vs Q E hr h=>?_)
 .exact Ds iC h
 .have hu:=hr.units
  exact ⟨_,(au (dX (PT.nox (iY (eL (aL C_is_order (hr.mono (by decide)) (paC (pv 1) (paC (xw (pv 0) TC.cl_Family C_Family_many (hr.mono (by decide))) ag)))))) (au (yb K rfl rfl CU (AM TX.z_NoOrder TX.kp_NoOrder TX.m_NoOrder))) bE)),Dt (K:=K) (c:=aJ) (ps:=dL) (N:=["family","order"]) (fun _=>(EB (je (tX (aE (c:=aY) (aa (ae (al (i:=1))) (aa (ae (xK (c0:="Family") (m:="many") (ns0:=["pieces","kept","words","left","laps","total"]) (c:=bn) (by decide +kernel) (al (i:=0)) af)) af))))) (vX TX.all (List.contains_iff_mem.mp (by decide +kernel))) (LS.x bR))) (fun ds Q E h=>Nat.le_trans (Nat.le_of_eq (iC ds Q E h)) (by decide)) lR h⟩
theorem ly:∀ds Q,bS ds Q->ds.length=3:=fun ds Q h=>by unfold bS at h;split at h;(first | rfl | exact h.elim);(first | rfl | exact h.elim)
theorem rC (D:cA K mg "glue_all" jE) (T:Txt mg) (TC:TxC K) (TX:TxX K mg):Cal P w K mg base 1 "glue_all" ["words","laps","row"] (spP K bS):=by
 refine D.ok eO (fun _ _ _ _ _ _ us hl=>match us,hl with | [_,_,_],_=>rfl) (fun vs H Q E h=>?_) (fun f cdv A outer s H vs Q E hr h=>?_)
 .exact ju ly h
 .have hu:=hr.units
  exact ⟨_,(ao (bh (i:=3) eO.nd rfl (by first | exact Or.inl rfl | exact Or.inr rfl) (fm K rfl PySem.F.plainAttrs_str PySem.F.slot_str_join PySem.F.type_str_join (xO K rfl) (cE (l:=[]) (by decide +kernel)) (paC (dE (wi:=(mq K (tSl (Cr K) (cJ 2) mW (xc (tC (V.int 1)))))) (g:=(dY 0)) (tts:=qy) (te:=(tOp (xB K) (cJ 1) (cJ 0))) ["number","words"] [none,some 0] rfl (dS K rfl (bW (qk K rfl) (pv 2) dh (cw aA))) (fun _ _ _ _=>⟨(aT (i:=0) (by show List.Nodup (["number","words"]:List Str);decide +kernel) rfl (by first | exact Or.inl rfl | exact Or.inr rfl)),dZ,(cR (ic K rfl) (pv 1) (pv 0) (fun _ _=>rfl))⟩) (by kernel_rfl)) ag))) (ao (fX PassesOwn.never rfl (qK K rfl rfl T.b_zip (paC (pv 2) (paC (bW (qk K rfl) (pv 2) (cw aA) dh) ag))) (kJ K rfl (n:=2) rfl (cg (aT (i:=4) eO.nd rfl (by first | exact Or.inl rfl | exact Or.inr rfl)) (cg (aT (i:=5) eO.nd rfl (by first | exact Or.inl rfl | exact Or.inr rfl)) iH))) (au (yy (i:=3) eO.nd rfl (by first | exact Or.inl rfl | exact Or.inr rfl) (bW (qk K rfl) (cR (ic K rfl) (pv 0) (pv 5) (fun _ _=>rfl)) (cw (cR (ic K rfl) (cR (ic K rfl) (pv 1) (pv 4) (fun _ _=>rfl)) (pv 5) (fun _ _=>rfl))) dh) vz))) (au (bd (pv 3))))),fnP (K:=K) (c:=bS) (ps:=fQ) (N:=["words","laps","row","text","before","number"]) (aD (a8 (At xP (le_str (l:=[])) (aa (ae (cG (ix:=[none,some 0]) rfl (dU (bX (aq (i:=2)) cB (bJ le_int))) (fun fs hc=>(aH (i:=0) (oB hc (by decide)))) fZ (aB cS (aq (i:=1)) (aq (i:=0))))) af)) (aI (i:=3) rfl)) (aD (gC (qL (aa (ae (al (i:=2))) (aa (ae (bX (aq (i:=2)) (bJ le_int) cB)) af))) (jw (ck (aH (i:=4) rfl) (ck (aH (i:=5) rfl) iN))) (yY (i:=3) (aI (i:=3) rfl) (bX (ae (aB cS (aq (i:=0)) (aq (i:=5)))) (bJ (aB cS (ae (aB cS (aq (i:=1)) (aq (i:=4)))) (aq (i:=5)))) cB))) (bf (al (i:=3))))) (fun ds Q h=>Nat.le_trans (Nat.le_of_eq (ly ds Q h)) (by decide)) re h⟩
theorem mM:∀ds Q E,br ds Q E->ds.length=2:=fun ds Q E h=>by unfold br at h;split at h;(first | rfl | exact h.elim);(first | rfl | exact h.elim)
theorem tR (D:cA K mg "text_of" kS) (T:Txt mg) (TC:TxC K) (TX:TxX K mg) (C_check_order:oE P w K mg base 4 "check_order" ["family","order"] (spX K aJ)) (C_glue_all:Cal P w K mg base 1 "glue_all" ["words","laps","row"] (spP K bS)):oE P w K mg base 5 "text_of" ["family","order"] (spX K br):=by
 refine D.okE tG (fun _ _ _ _ _ _ us hl=>match us,hl with | [_,_],_=>rfl) (fun vs H Q E h=>?_) (fun f cdv A outer s H vs Q E hr h=>?_)
 .exact Ds mM h
 .have hu:=hr.units
  exact ⟨_,(ao (cQ (ef C_check_order (hr.mono (by decide)) vT (paC (pv 0) (paC (pv 1) ag)))) (au (PS.nox (bd (aL C_glue_all (hr.mono (by decide)) (paC (c6 K rfl (pv 0) rfl) (paC (c6 K rfl (pv 0) rfl) (paC (pv 1) ag)))))))),Dt (K:=K) (c:=br) (ps:=hZ) (N:=["family","order"]) (fun _=>(pR (qR (nS (c:=aJ) (aa (ae (al (i:=0))) (aa (ae (al (i:=1))) af)))) (LS.x (bf (aE (c:=bS) (aa (ae (eJ (ns0:=["pieces","kept","words","left","laps","total"]) TC.cl_Family TC.n_Family_words (i:=2) (by decide +kernel) (aq (i:=0)))) (aa (ae (eJ (ns0:=["pieces","kept","words","left","laps","total"]) TC.cl_Family TC.n_Family_laps (i:=4) (by decide +kernel) (aq (i:=0)))) (aa (ae (al (i:=1))) af)))))))) (fun ds Q E h=>Nat.le_trans (Nat.le_of_eq (mM ds Q E h)) (by decide)) tM h⟩
theorem jY:∀ds Q E,aW ds Q E->ds.length=2:=fun ds Q E h=>by unfold aW at h;split at h;(first | rfl | exact h.elim);(first | rfl | exact h.elim)
theorem qh (D:cA K mg "starts_of" iR) (T:Txt mg) (TC:TxC K) (TX:TxX K mg) (C_check_order:oE P w K mg base 4 "check_order" ["family","order"] (spX K aJ)):oE P w K mg base 5 "starts_of" ["family","order"] (spX K aW):=by
 refine D.okE eZ (fun _ _ _ _ _ _ us hl=>match us,hl with | [_,_],_=>rfl) (fun vs H Q E h=>?_) (fun f cdv A outer s H vs Q E hr h=>?_)
 .exact Ds jY h
 .have hu:=hr.units
  exact ⟨_,(ao (cQ (ef C_check_order (hr.mono (by decide)) vT (paC (pv 0) (paC (pv 1) ag)))) (ao (PS.nox (ng (wi:=(mq K (cJ 1))) (g:=(dY 0)) (tts:=qy) (te:=(tC (V.int 0))) (i:=2) ["number"] [none] eZ.nd rfl (Or.inl rfl) rfl (dS K rfl (pv 1)) (fun _ _ _ _=>⟨(aT (i:=0) (by show List.Nodup (["number"]:List Str);decide +kernel) rfl (by first | exact Or.inl rfl | exact Or.inr rfl)),dZ,aA⟩) (by kernel_rfl))) (ao (fX PassesOwn.leaving rfl (qK K rfl rfl T.b_zip (paC (pv 1) (paC (bW (qk K rfl) (pv 1) (cw aA) dh) ag))) (kJ K rfl (n:=2) rfl (cg (aT (i:=3) eZ.nd rfl (by first | exact Or.inl rfl | exact Or.inr rfl)) (cg (aT (i:=4) eZ.nd rfl (by first | exact Or.inl rfl | exact Or.inr rfl)) iH))) (au (PS.nox (kR (bG pE (bG (de K rfl) (cR (ic K rfl) (pv 2) (pv 3) (fun _ _=>rfl)) (ar (cM K rfl) rfl T.b_len PySem.boot_len (paC (cR (ic K rfl) (c6 K rfl (pv 0) rfl) (pv 3) (fun _ _=>rfl)) ag))) (cR (ic K rfl) (cR (ic K rfl) (c6 K rfl (pv 0) rfl) (pv 3) (fun _ _=>rfl)) (pv 4) (fun _ _=>rfl))) (oH (pv 2) (pv 4) i6))))) (au (PS.nox (bd (bq (eI K rfl) rfl T.b_tuple boot_tuple (paC (pv 2) ag)))))))),Dt (K:=K) (c:=aW) (ps:=e9) (N:=["family","order","starts","before","number"]) (fun _=>(pR (qR (nS (c:=aJ) (aa (ae (al (i:=0))) (aa (ae (al (i:=1))) af)))) (pR (LS.x (a8 (cG (ix:=[none]) rfl (dU (al (i:=1))) (fun fs hc=>(aH (i:=0) (oB hc (by decide)))) fZ le_int) (aI (i:=2) rfl))) (pR (CV (qL (aa (ae (al (i:=1))) (aa (ae (bX (aq (i:=1)) (bJ le_int) cB)) af))) (jw (ck (aH (i:=3) rfl) (ck (aH (i:=4) rfl) iN))) (LS.x (kE (i:=2) (aB jQ (ae (aB bZ (ae (aB cS (aq (i:=2)) (aq (i:=3)))) (ae (bt bB (aa (ae (aB cS (ae (eJ (ns0:=["pieces","kept","words","left","laps","total"]) TC.cl_Family TC.n_Family_words (i:=2) (by decide +kernel) (aq (i:=0)))) (aq (i:=3)))) af))))) (ae (aB cS (ae (aB cS (ae (eJ (ns0:=["pieces","kept","words","left","laps","total"]) TC.cl_Family TC.n_Family_laps (i:=4) (by decide +kernel) (aq (i:=0)))) (aq (i:=3)))) (aq (i:=4))))) (al (i:=4))))) (LS.x (bf (bt dr (aa (aq (i:=2)) af)))))))) (fun ds Q E h=>Nat.le_trans (Nat.le_of_eq (jY ds Q E h)) (by decide)) p6 h⟩
theorem sK:∀ds Q E,bY ds Q E->ds.length=2:=fun ds Q E h=>by unfold bY at h;split at h;(first | rfl | exact h.elim);(first | rfl | exact h.elim)
theorem yt (D:cA K mg "saved" qV) (T:Txt mg) (TC:TxC K) (TX:TxX K mg) (C_check_order:oE P w K mg base 4 "check_order" ["family","order"] (spX K aJ)):oE P w K mg base 5 "saved" ["family","order"] (spX K bY):=by
 refine D.okE yl (fun _ _ _ _ _ _ us hl=>match us,hl with | [_,_],_=>rfl) (fun vs H Q E h=>?_) (fun f cdv A outer s H vs Q E hr h=>?_)
 .exact Ds sK h
 .have hu:=hr.units
  exact ⟨_,(ao (cQ (ef C_check_order (hr.mono (by decide)) vT (paC (pv 0) (paC (pv 1) ag)))) (au (PS.nox (bd (ar (vh K rfl rfl) rfl T.b_sum boot_sum (paC (dE (wi:=(AA K (bV (cJ 1) (bV (tSl (Cr K) (cJ 1) (xc (tC (V.int 1))) mW) i4)))) (g:=(Dp K 2 (wP (dY 0) (wP (dY 1) Dy)))) (tts:=qy) (te:=(tOp (xB K) (tOp (xB K) (uk K (cJ 2) "laps") (cJ 0)) (cJ 1))) ["before","number","family"] [none,none,some 0] rfl (qK K rfl rfl T.b_zip (paC (pv 1) (paC (bW (qk K rfl) (pv 1) (cw aA) dh) ag))) (fun _ _ _ _=>⟨(kJ K rfl (n:=2) rfl (cg (aT (i:=0) (by show List.Nodup (["before","number","family"]:List Str);decide +kernel) rfl (by first | exact Or.inl rfl | exact Or.inr rfl)) (cg (aT (i:=1) (by show List.Nodup (["before","number","family"]:List Str);decide +kernel) rfl (by first | exact Or.inl rfl | exact Or.inr rfl)) iH))),dZ,(cR (ic K rfl) (cR (ic K rfl) (c6 K rfl (pv 2) rfl) (pv 0) (fun _ _=>rfl)) (pv 1) (fun _ _=>rfl))⟩) (by kernel_rfl)) ag)))))),Dt (K:=K) (c:=bY) (ps:=kc) (N:=["family","order"]) (fun _=>(pR (qR (nS (c:=aJ) (aa (ae (al (i:=0))) (aa (ae (al (i:=1))) af)))) (LS.x (bf (bt qI (aa (ae (cG (ix:=[none,none,some 0]) rfl (qL (aa (ae (al (i:=1))) (aa (ae (bX (aq (i:=1)) (bJ le_int) cB)) af))) (fun fs hc=>(jw (ck (aH (i:=0) (oB hc (by decide))) (ck (aH (i:=1) (oB hc (by decide))) iN)))) fZ (aB cS (ae (aB cS (ae (eJ (ns0:=["pieces","kept","words","left","laps","total"]) TC.cl_Family TC.n_Family_laps (i:=4) (by decide +kernel) (aq (i:=2)))) (aq (i:=0)))) (aq (i:=1))))) af)))))) (fun ds Q E h=>Nat.le_trans (Nat.le_of_eq (sK ds Q E h)) (by decide)) yr h⟩
theorem mO:∀ds Q,cO ds Q->ds.length=3:=fun ds Q h=>by unfold cO at h;split at h;(first | rfl | exact h.elim);(first | rfl | exact h.elim)
theorem tS (D:rW K mg "is_text" fu [.int 0,.int 4000]) (T:Txt mg) (TC:TxC K) (TX:TxX K mg):Ce P w K mg base 1 "is_text" ["thing","least","most"] [.int 0,.int 4000] (spP K cO):=by
 refine D.ok tH (fun dT kV doc pm an cdv ct items us n hi hn hl=>?_) (fun vs H Q E h=>?_) (fun f cdv A outer s H vs Q E hr h=>?_)
 .obtain ⟨i0,i1,rfl⟩:∃i0 i1,items=[i0,i1]:=match items,hi with | [i0,i1],_=>⟨i0,i1,rfl⟩
  have hn':n=0\/n=1\/n=2:=by (have:n<=2:=hn);omega
  rcases hn' with rfl | rfl | rfl
  .have hl2:us.length=1:=by (simp at hl;omega)
   match us,hl2 with
   | [_],_=>exact ⟨_,rfl,rfl⟩
  .have hl2:us.length=2:=by (simp at hl;omega)
   match us,hl2 with
   | [_,_],_=>exact ⟨_,rfl,rfl⟩
  .have hl2:us.length=3:=by (simp at hl;omega)
   match us,hl2 with
   | [_,_,_],_=>exact ⟨_,rfl,rfl⟩
 .exact ju mO h
 .have hu:=hr.units
  exact ⟨_,(ao (dX (PW.pt (mU (iY (eL (ar (qF K rfl) rfl T.b_isinstance boot_isinstance (paC (pv 0) (paC (fe (v:=.ty "str") rfl T.b_str boot_str rfl) ag))))) (jN (iY (wV Dn Dn (pv 1) (ar (cM K rfl) rfl T.b_len PySem.boot_len (paC (pv 0) ag)) (pv 2)))))) (au (bd gu)) bE) (au (bd (ar (CC K rfl rfl) rfl T.b_all boot_all (paC (dE (wi:=(mq K (cJ 0))) (g:=(dY 0)) (tts:=qy) (te:=(rO Dm Dm (tC (V.str (S [97]))) (cJ 0) (tC (V.str (S [122]))))) ["sign"] [none] rfl (dS K rfl (pv 0)) (fun _ _ _ _=>⟨(aT (i:=0) (by show List.Nodup (["sign"]:List Str);decide +kernel) rfl (by first | exact Or.inl rfl | exact Or.inr rfl)),dZ,(wU Dn Dn (cE (l:=[97]) (by decide +kernel)) (pv 0) (cE (l:=[122]) (by decide +kernel)))⟩) (by kernel_rfl)) ag))))),fnP (K:=K) (c:=cO) (ps:=h7) (N:=["thing","least","most"]) (aD (et (nq (je (tX (kC .str (aq (i:=0))))) (je (gX (sd xA xA (aq (i:=1)) (ae (bt bB (aa (aq (i:=0)) af))) (aq (i:=2)))))) (bf gA) bR) (bf (bt yP (aa (ae (cG (ix:=[none]) rfl (dU (al (i:=0))) (fun fs hc=>(aH (i:=0) (oB hc (by decide)))) fZ (sd xA xA (ae (le_str (l:=[97]))) (aq (i:=0)) (ae (le_str (l:=[122])))))) af)))) (fun ds Q h=>Nat.le_trans (Nat.le_of_eq (mO ds Q h)) (by decide)) tN h⟩
theorem iD:∀ds Q,aU ds Q->ds.length=2:=fun ds Q h=>by unfold aU at h;split at h;(first | rfl | exact h.elim);(first | rfl | exact h.elim)
theorem l0 (D:cA K mg "first_place" fL) (T:Txt mg) (TC:TxC K) (TX:TxX K mg):Cal P w K mg base 1 "first_place" ["text","piece"] (spP K aU):=by
 refine D.ok lO (fun _ _ _ _ _ _ us hl=>match us,hl with | [_,_],_=>rfl) (fun vs H Q E h=>?_) (fun f cdv A outer s H vs Q E hr h=>?_)
 .exact ju iD h
 .have hu:=hr.units
  exact ⟨_,(au (bd (fm K rfl PySem.F.plainAttrs_str PySem.F.slot_str_find PySem.F.type_str_find xI (pv 0) (paC (pv 1) ag)))),fnP (K:=K) (c:=aU) (ps:=dM) (N:=["text","piece"]) (bf (At xJ (al (i:=0)) (aa (aq (i:=1)) af))) (fun ds Q h=>Nat.le_trans (Nat.le_of_eq (iD ds Q h)) (by decide)) lS h⟩
theorem zj:∀ds Q,gc ds Q->ds.length=2:=fun ds Q h=>by unfold gc at h;split at h;(first | rfl | exact h.elim);(first | rfl | exact h.elim)
theorem Dd (D:cA K mg "lap" A7) (T:Txt mg) (TC:TxC K) (TX:TxX K mg):Cal P w K mg base 1 "lap" ["one","other"] (spP K gc):=by
 refine D.ok zc (fun _ _ _ _ _ _ us hl=>match us,hl with | [_,_],_=>rfl) (fun vs H Q E h=>?_) (fun f cdv A outer s H vs Q E hr h=>?_)
 .exact ju zj h
 .have hu:=hr.units
  exact ⟨_,(ao (fX PassesOwn.never rfl (oX rfl T.b_range (paC (bG pE (ar (yO rfl) rfl T.b_min boot_min (paC (ar (cM K rfl) rfl T.b_len PySem.boot_len (paC (pv 0) ag)) (paC (ar (cM K rfl) rfl T.b_len PySem.boot_len (paC (pv 1) ag)) ag))) aA) (paC aA (paC (wT rN aA) ag)))) (aT (i:=2) zc.nd rfl (by first | exact Or.inl rfl | exact Or.inr rfl)) (au (dX (eL (fm K rfl PySem.F.plainAttrs_str PySem.F.slot_str_endswith PySem.F.type_str_endswith Au (pv 0) (paC (bW (qk K rfl) (pv 1) dh (cw (pv 2))) ag))) (au (bd (pv 2))) bE))) (au (bd aA))),fnP (K:=K) (c:=gc) (ps:=sI) (N:=["one","other","k"]) (aD (gC (Cu (aa (ae (aB jQ (ae (bt vg (aa (ae (bt bB (aa (aq (i:=0)) af))) (aa (ae (bt bB (aa (aq (i:=1)) af))) af)))) (ae le_int))) (aa (ae le_int) (aa (ae (xz sf (ae le_int))) af)))) (aH (i:=2) rfl) (et (tX (At Aw (al (i:=0)) (aa (ae (bX (aq (i:=1)) cB (bJ (al (i:=2))))) af))) (bf (al (i:=2))) bR)) (bf le_int)) (fun ds Q h=>Nat.le_trans (Nat.le_of_eq (zj ds Q h)) (by decide)) Db h⟩
theorem lz:∀ds Q,bU ds Q->ds.length=1:=fun ds Q h=>by unfold bU at h;split at h;(first | rfl | exact h.elim);(first | rfl | exact h.elim)
theorem rD (D:cA K mg "all_laps" jF) (T:Txt mg) (TC:TxC K) (TX:TxX K mg) (C_lap:Cal P w K mg base 1 "lap" ["one","other"] (spP K gc)):Cal P w K mg base 2 "all_laps" ["words"] (spP K bU):=by
 refine D.ok qX (fun _ _ _ _ _ _ us hl=>match us,hl with | [_],_=>rfl) (fun vs H Q E h=>?_) (fun f cdv A outer s H vs Q E hr h=>?_)
 .exact ju lz h
 .have hu:=hr.units
  exact ⟨_,(au (bd (bq (eI K rfl) rfl T.b_tuple boot_tuple (paC (dE (wi:=(mq K (cJ 0))) (g:=(dY 0)) (tts:=qy) (te:=(tCB (As K) (bV (uM [none,some 0] (mq K (cJ 1)) (dY 0) qy (iJ (spP K gc) [] E0 (bV (cJ 1) (bV (cJ 0) i4)))) i4))) ["one","words"] [none,some 0] rfl (dS K rfl (pv 0)) (fun _ _ _ _=>⟨(aT (i:=0) (by show List.Nodup (["one","words"]:List Str);decide +kernel) rfl (by first | exact Or.inl rfl | exact Or.inr rfl)),dZ,(bq (eI K rfl) rfl T.b_tuple boot_tuple (paC (dE (wi:=(mq K (cJ 1))) (g:=(dY 0)) (tts:=qy) (te:=(iJ (spP K gc) [] E0 (bV (cJ 1) (bV (cJ 0) i4)))) ["other","one"] [none,some 0] rfl (dS K rfl (pv 1)) (fun _ _ _ _=>⟨(aT (i:=0) (by show List.Nodup (["other","one"]:List Str);decide +kernel) rfl (by first | exact Or.inl rfl | exact Or.inr rfl)),dZ,(aL C_lap (hr.mono (by decide)) (paC (pv 1) (paC (pv 0) ag)))⟩) (by kernel_rfl)) ag))⟩) (by kernel_rfl)) ag)))),fnP (K:=K) (c:=bU) (ps:=fR) (N:=["words"]) (bf (bt dr (aa (ae (cG (ix:=[none,some 0]) rfl (dU (al (i:=0))) (fun fs hc=>(aH (i:=0) (oB hc (by decide)))) fZ (bt dr (aa (ae (cG (ix:=[none,some 0]) rfl (dU (al (i:=1))) (fun fs hc=>(aH (i:=0) (oB hc (by decide)))) fZ (aE (c:=gc) (aa (ae (al (i:=1))) (aa (ae (al (i:=0))) af))))) af)))) af))) (fun ds Q h=>Nat.le_trans (Nat.le_of_eq (lz ds Q h)) (by decide)) rh h⟩
theorem gP:∀ds Q,bb ds Q->ds.length=1:=fun ds Q h=>by unfold bb at h;split at h;(first | rfl | exact h.elim);(first | rfl | exact h.elim)
theorem lA (D:cA K mg "check_pieces" fh) (T:Txt mg) (TC:TxC K) (TX:TxX K mg) (C_is_text:Ce P w K mg base 1 "is_text" ["thing","least","most"] [.int 0,.int 4000] (spP K cO)):Cal P w K mg base 2 "check_pieces" ["things"] (spP K bb):=by
 refine D.ok eP (fun _ _ _ _ _ _ us hl=>match us,hl with | [_],_=>rfl) (fun vs H Q E h=>?_) (fun f cdv A outer s H vs Q E hr h=>?_)
 .exact ju gP h
 .have hu:=hr.units
  exact ⟨_,(ao (dX (a9 Bn (ar (cM K rfl) rfl T.b_len PySem.boot_len (paC (pv 0) ag)) (rV rfl T.g_MOST_PIECES) (bx _)) (au rL) bE) (au (fX PassesOwn.never rfl (sg K rfl rfl T.b_enumerate (paC (pv 0) ag)) (kJ K rfl (n:=2) rfl (cg (aT (i:=1) eP.nd rfl (by first | exact Or.inl rfl | exact Or.inr rfl)) (cg (aT (i:=2) eP.nd rfl (by first | exact Or.inl rfl | exact Or.inr rfl)) iH))) (au (dX (iY (eL (xY 2 C_is_text (hr.mono (by decide)) (by decide) (paC (pv 2) (paC aA (paC (rV rfl T.g_MOST_SIGNS) ag)))))) (au rL) bE))))),fnP (K:=K) (c:=bb) (ps:=dB) (N:=["things","at","thing"]) (aD (et (gX (aB tq (ae (bt bB (aa (aq (i:=0)) af))) (ae (le_int (i:=40))))) se bR) (gC (ve (aa (ae (al (i:=0))) af)) (jw (ck (aH (i:=1) rfl) (ck (aH (i:=2) rfl) iN))) (et (je (tX (xL (ds:=[]) (by repeat (first | exact .nil | exact .cons (.int _) .nil | refine .cons (.int _) ?_)) (aa (ae (al (i:=2))) (aa (ae le_int) (aa (ae (le_int (i:=60))) af)))))) se bR))) (fun ds Q h=>Nat.le_trans (Nat.le_of_eq (gP ds Q h)) (by decide)) lp h⟩
theorem gg:∀ds Q,aG ds Q->ds.length=2:=fun ds Q h=>by unfold aG at h;split at h;(first | rfl | exact h.elim);(first | rfl | exact h.elim)
theorem j8 (D:cA K mg "stands_within" eN) (T:Txt mg) (TC:TxC K) (TX:TxX K mg) (C_first_place:Cal P w K mg base 1 "first_place" ["text","piece"] (spP K aU)):Cal P w K mg base 2 "stands_within" ["piece","other"] (spP K aG):=by
 refine D.ok j4 (fun _ _ _ _ _ _ us hl=>match us,hl with | [_,_],_=>rfl) (fun vs H Q E h=>?_) (fun f cdv A outer s H vs Q E hr h=>?_)
 .exact ju gg h
 .have hu:=hr.units
  exact ⟨_,(au (bd (iI Fe (aL C_first_place (hr.mono (by decide)) (paC (pv 1) (paC (pv 0) ag))) aA (bx _)))),fnP (K:=K) (c:=aG) (ps:=cZ) (N:=["piece","other"]) (bf (aB Cm (ae (aE (c:=aU) (aa (ae (al (i:=1))) (aa (ae (al (i:=0))) af)))) (ae le_int))) (fun ds Q h=>Nat.le_trans (Nat.le_of_eq (gg ds Q h)) (by decide)) j6 h⟩
theorem mP:∀ds Q,cb ds Q->ds.length=2:=fun ds Q h=>by unfold cb at h;split at h;(first | rfl | exact h.elim);(first | rfl | exact h.elim)
theorem tT (D:cA K mg "is_kept" kT) (T:Txt mg) (TC:TxC K) (TX:TxX K mg) (C_stands_within:Cal P w K mg base 2 "stands_within" ["piece","other"] (spP K aG)):Cal P w K mg base 3 "is_kept" ["pieces","at"] (spP K cb):=by
 refine D.ok jL (fun _ _ _ _ _ _ us hl=>match us,hl with | [_,_],_=>rfl) (fun vs H Q E h=>?_) (fun f cdv A outer s H vs Q E hr h=>?_)
 .exact ju mP h
 .have hu:=hr.units
  exact ⟨_,(ao (bh (i:=2) jL.nd rfl (by first | exact Or.inl rfl | exact Or.inr rfl) (cR (ic K rfl) (pv 0) (pv 1) (fun _ _=>rfl))) (ao (ng (wi:=(mq K (cJ 0))) (g:=(dY 0)) (tts:=(qq (tOp Es (tCB (pq K) (bV (cJ 0) i4)) (tCB (pq K) (bV (cJ 1) i4))))) (te:=(cJ 0)) (i:=3) ["other","piece"] [none,some 2] jL.nd rfl (Or.inl rfl) rfl (dS K rfl (pv 0)) (fun _ _ _ _=>⟨(aT (i:=0) (by show List.Nodup (["other","piece"]:List Str);decide +kernel) rfl (by first | exact Or.inl rfl | exact Or.inr rfl)),(ku (a9 Bn (ar (cM K rfl) rfl T.b_len PySem.boot_len (paC (pv 0) ag)) (ar (cM K rfl) rfl T.b_len PySem.boot_len (paC (pv 1) ag)) (bx _))),(pv 0)⟩) (by kernel_rfl)) (au (bd (gy (iI (nU K rfl) (pv 2) (bW (qk K rfl) (pv 0) dh (cw (pv 1))) (by with_unfolding_all rfl)) (kf (rK (ar (Ej K rfl rfl) rfl T.b_any boot_any (paC (dE (wi:=(mq K (cJ 3))) (g:=(dY 0)) (tts:=qy) (te:=(iJ (spP K aG) [] E0 (bV (cJ 1) (bV (cJ 0) i4)))) ["other","piece"] [none,some 2] rfl (dS K rfl (pv 3)) (fun _ _ _ _=>⟨(aT (i:=0) (by show List.Nodup (["other","piece"]:List Str);decide +kernel) rfl (by first | exact Or.inl rfl | exact Or.inr rfl)),dZ,(aL C_stands_within (hr.mono (by decide)) (paC (pv 1) (paC (pv 0) ag)))⟩) (by kernel_rfl)) ag))))))))),fnP (K:=K) (c:=cb) (ps:=h8) (N:=["pieces","at","piece","longer"]) (aD (a8 (aB cS (aq (i:=0)) (aq (i:=1))) (aI (i:=2) rfl)) (aD (a8 (cG (ix:=[none,some 2]) rfl (dU (al (i:=0))) (fun fs hc=>(aH (i:=0) (oB hc (by decide)))) (gX (aB tq (ae (bt bB (aa (aq (i:=0)) af))) (ae (bt bB (aa (aq (i:=1)) af))))) (al (i:=0))) (aI (i:=3) rfl)) (bf (gB (aB sC (aq (i:=2)) (ae (bX (aq (i:=0)) cB (bJ (al (i:=1)))))) (r9 (bt CD (aa (ae (cG (ix:=[none,some 2]) rfl (dU (al (i:=3))) (fun fs hc=>(aH (i:=0) (oB hc (by decide)))) fZ (aE (c:=aG) (aa (ae (al (i:=1))) (aa (ae (al (i:=0))) af))))) af))))))) (fun ds Q h=>Nat.le_trans (Nat.le_of_eq (mP ds Q h)) (by decide)) tO h⟩
theorem lB:∀ds Q,bH ds Q->ds.length=3:=fun ds Q h=>by unfold bH at h;split at h;(first | rfl | exact h.elim);(first | rfl | exact h.elim)
theorem rE (D:cA K mg "left_row" jG) (T:Txt mg) (TC:TxC K) (TX:TxX K mg) (C_first_place:Cal P w K mg base 1 "first_place" ["text","piece"] (spP K aU)) (C_stands_within:Cal P w K mg base 2 "stands_within" ["piece","other"] (spP K aG)):Cal P w K mg base 3 "left_row" ["pieces","kept","at"] (spP K bH):=by
 refine D.ok kX (fun _ _ _ _ _ _ us hl=>match us,hl with | [_,_,_],_=>rfl) (fun vs H Q E h=>?_) (fun f cdv A outer s H vs Q E hr h=>?_)
 .exact ju lB h
 .have hu:=hr.units
  exact ⟨_,(ao (bh (i:=3) kX.nd rfl (by first | exact Or.inl rfl | exact Or.inr rfl) (ar (CB K rfl rfl) rfl T.b_min boot_min (paC (dE (wi:=(mq K (cJ 1))) (g:=(dY 0)) (tts:=(tB (iJ (spP K aG) [] E0 (bV (tOp (xB K) (cJ 1) (cJ 2)) (bV (tOp (xB K) (cJ 1) (cJ 0)) i4))))) (te:=(cJ 0)) ["one","pieces","at"] [none,some 0,some 2] rfl (dS K rfl (pv 1)) (fun _ _ _ _=>⟨(aT (i:=0) (by show List.Nodup (["one","pieces","at"]:List Str);decide +kernel) rfl (by first | exact Or.inl rfl | exact Or.inr rfl)),(ku (eL (aL C_stands_within (hr.mono (by decide)) (paC (cR (ic K rfl) (pv 1) (pv 2) (fun _ _=>rfl)) (paC (cR (ic K rfl) (pv 1) (pv 0) (fun _ _=>rfl)) ag))))),(pv 0)⟩) (by kernel_rfl)) ag))) (au (bd (oJ (paC (pv 2) (paC (pv 3) (paC (aL C_first_place (hr.mono (by decide)) (paC (cR (ic K rfl) (pv 0) (pv 3) (fun _ _=>rfl)) (paC (cR (ic K rfl) (pv 0) (pv 2) (fun _ _=>rfl)) ag))) ag))))))),fnP (K:=K) (c:=bH) (ps:=fS) (N:=["pieces","kept","at","holder"]) (aD (a8 (bt Ar (aa (ae (cG (ix:=[none,some 0,some 2]) rfl (dU (al (i:=1))) (fun fs hc=>(aH (i:=0) (oB hc (by decide)))) (tX (aE (c:=aG) (aa (ae (aB cS (aq (i:=1)) (aq (i:=2)))) (aa (ae (aB cS (aq (i:=1)) (aq (i:=0)))) af)))) (al (i:=0)))) af)) (aI (i:=3) rfl)) (bf (r8 (aa (ae (al (i:=2))) (aa (ae (al (i:=3))) (aa (ae (aE (c:=aU) (aa (ae (aB cS (aq (i:=0)) (aq (i:=3)))) (aa (ae (aB cS (aq (i:=0)) (aq (i:=2)))) af)))) af)))))) (fun ds Q h=>Nat.le_trans (Nat.le_of_eq (lB ds Q h)) (by decide)) rl h⟩
theorem iE:∀p ds Q,bj p ds Q->ds.length + 1=2:=fun p ds Q h=>by unfold bj at h;split at h;(first | rfl | exact h.elim);(first | rfl | exact h.elim)
theorem l5 (D:rZ K mg (aP K "Family") "Family" "Family.__init__" cp) (T:Txt mg) (TC:TxC K) (TX:TxX K mg) (C_all_laps:Cal P w K mg base 2 "all_laps" ["words"] (spP K bU)) (C_check_pieces:Cal P w K mg base 2 "check_pieces" ["things"] (spP K bb)) (C_is_kept:Cal P w K mg base 3 "is_kept" ["pieces","at"] (spP K cb)) (C_left_row:Cal P w K mg base 3 "left_row" ["pieces","kept","at"] (spP K bH)):Cg P w K mg base 4 (aP K "Family") "Family" ["self","pieces"] (spR K bj):=by
 refine D.ok ip (fun _ _ _ _ _ _ us hl=>match us,hl with | [_,_],_=>rfl) (fun vs H Q E h=>?_) (fun f cdv A outer s H vs Q E hr h=>?_)
 .exact FG iE h
 .have hu:=hr.units
  exact ⟨_,(ao (cQ (aL C_check_pieces (hr.mono (by decide)) (paC (pv 1) ag))) (ao (md (pv 0) (bq (eI K rfl) rfl T.b_tuple boot_tuple (paC (pv 1) ag)) rfl) (ao (bh (i:=2) ip.nd rfl (by first | exact Or.inl rfl | exact Or.inr rfl) (bq (vk K rfl rfl) rfl T.b_list boot_list (paC (ky rfl T.b_range (paC (ar (cM K rfl) rfl T.b_len PySem.boot_len (paC (c6 K rfl (pv 0) rfl) ag)) ag)) ag))) (ao (md (pv 0) (bq (eI K rfl) rfl T.b_tuple boot_tuple (paC (dE (wi:=(mq K (cJ 2))) (g:=(dY 0)) (tts:=(tB (iJ (spP K cb) [] E0 (bV (uk K (cJ 1) "pieces") (bV (cJ 0) i4))))) (te:=(cJ 0)) ["at","self"] [none,some 0] rfl (dS K rfl (pv 2)) (fun _ _ _ _=>⟨(aT (i:=0) (by show List.Nodup (["at","self"]:List Str);decide +kernel) rfl (by first | exact Or.inl rfl | exact Or.inr rfl)),(ku (eL (aL C_is_kept (hr.mono (by decide)) (paC (c6 K rfl (pv 1) rfl) (paC (pv 0) ag))))),(pv 0)⟩) (by kernel_rfl)) ag)) rfl) (ao (md (pv 0) (bq (eI K rfl) rfl T.b_tuple boot_tuple (paC (dE (wi:=(mq K (uk K (cJ 0) "kept"))) (g:=(dY 0)) (tts:=qy) (te:=(tOp (xB K) (uk K (cJ 1) "pieces") (cJ 0))) ["at","self"] [none,some 0] rfl (dS K rfl (c6 K rfl (pv 0) rfl)) (fun _ _ _ _=>⟨(aT (i:=0) (by show List.Nodup (["at","self"]:List Str);decide +kernel) rfl (by first | exact Or.inl rfl | exact Or.inr rfl)),dZ,(cR (ic K rfl) (c6 K rfl (pv 1) rfl) (pv 0) (fun _ _=>rfl))⟩) (by kernel_rfl)) ag)) rfl) (ao (md (pv 0) (bq (eI K rfl) rfl T.b_tuple boot_tuple (paC (dE (wi:=(mq K (cJ 2))) (g:=(dY 0)) (tts:=(qq (tOp (C3 K true) (cJ 0) (uk K (cJ 1) "kept")))) (te:=(iJ (spP K bH) [] E0 (bV (uk K (cJ 1) "pieces") (bV (uk K (cJ 1) "kept") (bV (cJ 0) i4))))) ["at","self"] [none,some 0] rfl (dS K rfl (pv 2)) (fun _ _ _ _=>⟨(aT (i:=0) (by show List.Nodup (["at","self"]:List Str);decide +kernel) rfl (by first | exact Or.inl rfl | exact Or.inr rfl)),(ku (a9 (nU K rfl) (pv 0) (c6 K rfl (pv 1) rfl) (by with_unfolding_all rfl))),(aL C_left_row (hr.mono (by decide)) (paC (c6 K rfl (pv 1) rfl) (paC (c6 K rfl (pv 1) rfl) (paC (pv 0) ag))))⟩) (by kernel_rfl)) ag)) rfl) (ao (md (pv 0) (aL C_all_laps (hr.mono (by decide)) (paC (c6 K rfl (pv 0) rfl) ag)) rfl) (au (md (pv 0) (ar (vh K rfl rfl) rfl T.b_sum boot_sum (paC (dE (wi:=(mq K (uk K (cJ 0) "words"))) (g:=(dY 0)) (tts:=qy) (te:=(tCB (pq K) (bV (cJ 0) i4))) ["word"] [none] rfl (dS K rfl (c6 K rfl (pv 0) rfl)) (fun _ _ _ _=>⟨(aT (i:=0) (by show List.Nodup (["word"]:List Str);decide +kernel) rfl (by first | exact Or.inl rfl | exact Or.inr rfl)),dZ,(ar (cM K rfl) rfl T.b_len PySem.boot_len (paC (pv 0) ag))⟩) (by kernel_rfl)) ag)) rfl))))))))),fnR (K:=K) (c:=bj) (ps:=dN) (N:=["self","pieces","indexes"]) (aD (fg (aE (c:=bb) (aa (ae (al (i:=1))) af))) (aD (jt (c0:="Family") (ns0:=[]) (i:=0) TC.cl_Family TC.n_Family_pieces (by decide +kernel) (bt dr (aa (aq (i:=1)) af))) (aD (a8 (nB false (aa (ae (bt bB (aa (ae (eJ (ns0:=["pieces"]) TC.cl_Family TC.n_Family_pieces (i:=0) (by decide +kernel) (aq (i:=0)))) af))) af)) (aI (i:=2) rfl)) (aD (jt (c0:="Family") (ns0:=["pieces"]) (i:=0) TC.cl_Family TC.n_Family_kept (by decide +kernel) (bt dr (aa (ae (cG (ix:=[none,some 0]) rfl (dU (al (i:=2))) (fun fs hc=>(aH (i:=0) (oB hc (by decide)))) (tX (aE (c:=cb) (aa (ae (eJ (ns0:=["pieces"]) TC.cl_Family TC.n_Family_pieces (i:=0) (by decide +kernel) (aq (i:=1)))) (aa (ae (al (i:=0))) af)))) (al (i:=0)))) af))) (aD (jt (c0:="Family") (ns0:=["pieces","kept"]) (i:=0) TC.cl_Family TC.n_Family_words (by decide +kernel) (bt dr (aa (ae (cG (ix:=[none,some 0]) rfl (dU (eJ (ns0:=["pieces","kept"]) TC.cl_Family TC.n_Family_kept (i:=1) (by decide +kernel) (aq (i:=0)))) (fun fs hc=>(aH (i:=0) (oB hc (by decide)))) fZ (aB cS (ae (eJ (ns0:=["pieces","kept"]) TC.cl_Family TC.n_Family_pieces (i:=0) (by decide +kernel) (aq (i:=1)))) (aq (i:=0))))) af))) (aD (jt (c0:="Family") (ns0:=["pieces","kept","words"]) (i:=0) TC.cl_Family TC.n_Family_left (by decide +kernel) (bt dr (aa (ae (cG (ix:=[none,some 0]) rfl (dU (al (i:=2))) (fun fs hc=>(aH (i:=0) (oB hc (by decide)))) (gX (aB sC (aq (i:=0)) (ae (eJ (ns0:=["pieces","kept","words"]) TC.cl_Family TC.n_Family_kept (i:=1) (by decide +kernel) (aq (i:=1)))))) (aE (c:=bH) (aa (ae (eJ (ns0:=["pieces","kept","words"]) TC.cl_Family TC.n_Family_pieces (i:=0) (by decide +kernel) (aq (i:=1)))) (aa (ae (eJ (ns0:=["pieces","kept","words"]) TC.cl_Family TC.n_Family_kept (i:=1) (by decide +kernel) (aq (i:=1)))) (aa (ae (al (i:=0))) af)))))) af))) (aD (jt (c0:="Family") (ns0:=["pieces","kept","words","left"]) (i:=0) TC.cl_Family TC.n_Family_laps (by decide +kernel) (aE (c:=bU) (aa (ae (eJ (ns0:=["pieces","kept","words","left"]) TC.cl_Family TC.n_Family_words (i:=2) (by decide +kernel) (aq (i:=0)))) af))) (jt (c0:="Family") (ns0:=["pieces","kept","words","left","laps"]) (i:=0) TC.cl_Family TC.n_Family_total (by decide +kernel) (bt qI (aa (ae (cG (ix:=[none]) rfl (dU (eJ (ns0:=["pieces","kept","words","left","laps"]) TC.cl_Family TC.n_Family_words (i:=2) (by decide +kernel) (aq (i:=0)))) (fun fs hc=>(aH (i:=0) (oB hc (by decide)))) fZ (bt bB (aa (aq (i:=0)) af)))) af)))))))))) (fun p ds Q h=>Nat.le_trans (Nat.le_of_eq (iE p ds Q h)) (by decide)) lT h⟩
theorem iF:∀ds Q,bn ds Q->ds.length=1:=fun ds Q h=>by unfold bn at h;split at h;(first | rfl | exact h.elim);(first | rfl | exact h.elim)
theorem l6 (D:rY K (aP K "Family") "many" "Family.many" cq) (T:Txt mg) (TC:TxC K) (TX:TxX K mg):Dj P w K mg base 1 (aP K "Family") "many" ["self"] (spP K bn):=by
 refine D.ok lP (fun _ _ _ _ _ _ us hl=>match us,hl with | [_],_=>rfl) (fun vs H Q E h=>?_) (fun f cdv A outer s H vs Q E hr h=>?_)
 .exact ju iF h
 .have hu:=hr.units
  exact ⟨_,(au (bd (ar (cM K rfl) rfl T.b_len PySem.boot_len (paC (c6 K rfl (pv 0) rfl) ag)))),fnP (K:=K) (c:=bn) (ps:=dO) (N:=["self"]) (bf (bt bB (aa (ae (eJ (ns0:=["pieces","kept","words","left","laps","total"]) TC.cl_Family TC.n_Family_words (i:=2) (by decide +kernel) (aq (i:=0)))) af))) (fun ds Q h=>Nat.le_trans (Nat.le_of_eq (iF ds Q h)) (by decide)) lU h⟩
theorem lC:∀ds Q,bg ds Q->ds.length=2:=fun ds Q h=>by unfold bg at h;split at h;(first | rfl | exact h.elim);(first | rfl | exact h.elim)
theorem rF (D:cA K mg "_law_cell" jH) (T:Txt mg) (TC:TxC K) (TX:TxX K mg):Cal P w K mg base 1 "_law_cell" ["_law_script","_law_k"] (spP K bg):=by
 refine D.ok qY (fun _ _ _ _ _ _ us hl=>match us,hl with | [_,_],_=>rfl) (fun vs H Q E h=>?_) (fun f cdv A outer s H vs Q E hr h=>?_)
 .exact ju lC h
 .have hu:=hr.units
  exact ⟨_,(ao (dX (a9 (jh K rfl hu) (ar (cM K rfl) rfl T.b_len PySem.boot_len (paC (pv 0) ag)) aA (bx _)) (au (bd (bG (de K rfl) (bG lJ aA (pv 1)) aA))) bE) (au (bd (ar Eh rfl T.b_abs boot_abs (paC (cR (ic K rfl) (pv 0) (bG tw (pv 1) (ar (cM K rfl) rfl T.b_len PySem.boot_len (paC (pv 0) ag))) (fun _ _=>rfl)) ag))))),fnP (K:=K) (c:=bg) (ps:=fT) (N:=["_law_script","_law_k"]) (aD (et (gX (aB eY (ae (bt bB (aa (aq (i:=0)) af))) (ae le_int))) (bf (aB bZ (ae (aB ii (ae le_int) (aq (i:=1)))) (ae le_int))) bR) (bf (bt Cy (aa (ae (aB cS (aq (i:=0)) (ae (aB mn (aq (i:=1)) (ae (bt bB (aa (aq (i:=0)) af))))))) af)))) (fun ds Q h=>Nat.le_trans (Nat.le_of_eq (lC ds Q h)) (by decide)) rm h⟩
theorem lD:∀ds Q,aC ds Q->ds.length=3:=fun ds Q h=>by unfold aC at h;split at h;(first | rfl | exact h.elim);(first | rfl | exact h.elim)
theorem rG (D:cA K mg "_law_draw" jI) (T:Txt mg) (TC:TxC K) (TX:TxX K mg) (C_law_cell:Cal P w K mg base 1 "_law_cell" ["_law_script","_law_k"] (spP K bg)):Cal P w K mg base 2 "_law_draw" ["_law_script","_law_k","_law_many"] (spP K aC):=by
 refine D.ok iT (fun _ _ _ _ _ _ us hl=>match us,hl with | [_,_,_],_=>rfl) (fun vs H Q E h=>?_) (fun f cdv A outer s H vs Q E hr h=>?_)
 .exact ju lD h
 .have hu:=hr.units
  exact ⟨_,(ao (bh (i:=3) iT.nd rfl (by first | exact Or.inl rfl | exact Or.inr rfl) (bG tw (bG (de K rfl) (bG (de K rfl) (bG lJ (bG tw (aL C_law_cell (hr.mono (by decide)) (paC (pv 0) (paC (pv 1) ag))) aA) aA) (bG lJ (bG lJ (pv 1) (pv 1)) aA)) aA) aA)) (ao (bh (i:=3) iT.nd rfl (by first | exact Or.inl rfl | exact Or.inr rfl) (bG tw (bG (de K rfl) (bG (de K rfl) (bG lJ (pv 3) (pv 3)) (bG lJ aA (pv 3))) (bG lJ (pv 1) aA)) aA)) (au (bd (bG tw (bG yU (pv 3) aA) (pv 2)))))),fnP (K:=K) (c:=aC) (ps:=fU) (N:=["_law_script","_law_k","_law_many","_law_a"]) (aD (a8 (aB mn (ae (aB bZ (ae (aB bZ (ae (aB ii (ae (aB mn (ae (aE (c:=bg) (aa (ae (al (i:=0))) (aa (ae (al (i:=1))) af)))) (ae le_int))) (ae le_int))) (ae (aB ii (ae (aB ii (aq (i:=1)) (aq (i:=1)))) (ae le_int))))) (ae le_int))) (ae le_int)) (aI (i:=3) rfl)) (aD (a8 (aB mn (ae (aB bZ (ae (aB bZ (ae (aB ii (aq (i:=3)) (aq (i:=3)))) (ae (aB ii (ae le_int) (aq (i:=3)))))) (ae (aB ii (aq (i:=1)) (ae le_int))))) (ae le_int)) (aI (i:=3) rfl)) (bf (aB mn (ae (aB vb (aq (i:=3)) (ae le_int))) (aq (i:=2)))))) (fun ds Q h=>Nat.le_trans (Nat.le_of_eq (lD ds Q h)) (by decide)) rn h⟩
theorem eS:∀ds Q,aM ds Q->ds.length=2:=fun ds Q h=>by unfold aM at h;split at h;(first | rfl | exact h.elim);(first | rfl | exact h.elim)
theorem iV (D:cA K mg "_law_digit_pieces" dy) (T:Txt mg) (TC:TxC K) (TX:TxX K mg):Cal P w K mg base 1 "_law_digit_pieces" ["_law_cell_here","_law_most"] (spP K aM):=by
 refine D.ok aR (fun _ _ _ _ _ _ us hl=>match us,hl with | [_,_],_=>rfl) (fun vs H Q E h=>?_) (fun f cdv A outer s H vs Q E hr h=>?_)
 .exact ju eS h
 .have hu:=hr.units
  exact ⟨_,(ao (bh (i:=2) aR.nd rfl (by first | exact Or.inl rfl | exact Or.inr rfl) (eh ag)) (ao (bh (i:=3) aR.nd rfl (by first | exact Or.inl rfl | exact Or.inr rfl) (cE (l:=[]) (by decide +kernel))) (ao (bh (i:=4) aR.nd rfl (by first | exact Or.inl rfl | exact Or.inr rfl) aA) (ao (wQ PassesOwn.never (PW.pt (oG (a9 Bn (pv 0) aA (bx _)) (ke (a9 D7 (pv 4) aA (bx _))))) (ao (bh (i:=5) aR.nd rfl (by first | exact Or.inl rfl | exact Or.inr rfl) (bG tw (pv 0) aA)) (ao (bh (i:=0) aR.nd rfl (by first | exact Or.inl rfl | exact Or.inr rfl) (bG yU (pv 0) aA)) (ao (yy (i:=4) aR.nd rfl (by first | exact Or.inl rfl | exact Or.inr rfl) aA vz) (ao (m7 (dX (a9 D7 (pv 5) aA (bx _)) (au (bh (i:=3) aR.nd rfl (by first | exact Or.inl rfl | exact Or.inr rfl) (bG (de K rfl) (pv 3) (cR (ic K rfl) (cE (l:=[97,98,99,100,101,102,103,104,105,106,107,108,109,110,111,112,113,114,115,116,117,118,119,120,121,122]) (by decide +kernel)) (pv 5) (fun _ _=>rfl))))) bE)) (au (dX (PW.pt (oG (a9 (pJ K rfl hu) (pv 3) (cE (l:=[]) (by decide +kernel)) (bx _)) (ke (PW.pt (mU (a9 (jh K rfl hu) (pv 5) aA (bx _)) (jN (a9 (jh K rfl hu) (ar (cM K rfl) rfl T.b_len PySem.boot_len (paC (pv 3) ag)) aA (bx _)))))))) (ao (cQ (fm K rfl PySem.F.plainAttrs_list PySem.F.slot_list_append PySem.F.type_list_append dk (pv 2) (paC (pv 3) ag))) (au (bh (i:=3) aR.nd rfl (by first | exact Or.inl rfl | exact Or.inr rfl) (cE (l:=[]) (by decide +kernel))))) bE))))))) (ao (m7 (dX (a9 (pJ K rfl hu) (pv 3) (cE (l:=[]) (by decide +kernel)) (bx _)) (au (cQ (fm K rfl PySem.F.plainAttrs_list PySem.F.slot_list_append PySem.F.type_list_append dk (pv 2) (paC (pv 3) ag)))) bE)) (au (bd (bW (qk K rfl) (pv 2) dh (cw (pv 1)))))))))),fnP (K:=K) (c:=aM) (ps:=cr) (N:=["_law_cell_here","_law_most","_law_pieces_here","_law_piece","_law_signs","_law_digit"]) (aD (a8 (ei af) (aI (i:=2) rfl)) (aD (a8 (le_str (l:=[])) (aI (i:=3) rfl)) (aD (a8 le_int (aI (i:=4) rfl)) (aD (xE (pj (gX (aB tq (aq (i:=0)) (ae le_int))) (gX (aB Af (aq (i:=4)) (ae le_int)))) (aD (a8 (aB mn (aq (i:=0)) (ae le_int)) (aI (i:=5) rfl)) (aD (a8 (aB vb (aq (i:=0)) (ae le_int)) (aI (i:=0) rfl)) (aD (yY (i:=4) (aI (i:=4) rfl) le_int) (aD (nu (et (gX (aB Af (aq (i:=5)) (ae le_int))) (a8 (aB bZ (aq (i:=3)) (ae (aB cS (ae (le_str (l:=[97,98,99,100,101,102,103,104,105,106,107,108,109,110,111,112,113,114,115,116,117,118,119,120,121,122]))) (aq (i:=5))))) (aI (i:=3) rfl)) bR)) (et (pj (gX (aB jS (aq (i:=3)) (ae (le_str (l:=[]))))) (nq (gX (aB eY (aq (i:=5)) (ae le_int))) (gX (aB eY (ae (bt bB (aa (aq (i:=3)) af))) (ae le_int))))) (aD (fg (jR (i:=2) (al (i:=3)))) (a8 (le_str (l:=[])) (aI (i:=3) rfl))) bR)))))) (aD (nu (et (gX (aB jS (aq (i:=3)) (ae (le_str (l:=[]))))) (fg (jR (i:=2) (al (i:=3)))) bR)) (bf (pV (bX (aq (i:=2)) cB (bJ (al (i:=1))))))))))) (fun ds Q h=>Nat.le_trans (Nat.le_of_eq (eS ds Q h)) (by decide)) iU h⟩
theorem jo:∀ds Q,bz ds Q->ds.length=2:=fun ds Q h=>by unfold bz at h;split at h;(first | rfl | exact h.elim);(first | rfl | exact h.elim)
theorem oq (D:cA K mg "_law_pieces" gI) (T:Txt mg) (TC:TxC K) (TX:TxX K mg) (C_law_cell:Cal P w K mg base 1 "_law_cell" ["_law_script","_law_k"] (spP K bg)) (C_law_digit_pieces:Cal P w K mg base 1 "_law_digit_pieces" ["_law_cell_here","_law_most"] (spP K aM)) (C_law_draw:Cal P w K mg base 2 "_law_draw" ["_law_script","_law_k","_law_many"] (spP K aC)):Cal P w K mg base 3 "_law_pieces" ["_law_script","_law_most"] (spP K bz):=by
 refine D.ok bN (fun _ _ _ _ _ _ us hl=>match us,hl with | [_,_],_=>rfl) (fun vs H Q E h=>?_) (fun f cdv A outer s H vs Q E hr h=>?_)
 .exact ju jo h
 .have hu:=hr.units
  exact ⟨_,(ao (dX (a9 Fe (aL C_law_cell (hr.mono (by decide)) (paC (pv 0) (paC aA ag))) (bG Eu aA aA) (bx _)) (au (bd (aL C_law_digit_pieces (hr.mono (by decide)) (paC (aL C_law_cell (hr.mono (by decide)) (paC (pv 0) (paC aA ag))) (paC (pv 1) ag))))) bE) (ao (bh (i:=2) bN.nd rfl (by first | exact Or.inl rfl | exact Or.inr rfl) (cR (ic K rfl) (eh (paC (cE (l:=[97,98]) (by decide +kernel)) (paC (cE (l:=[97,98,99]) (by decide +kernel)) (paC (cE (l:=[120,121,122,97,98]) (by decide +kernel)) ag)))) (aL C_law_draw (hr.mono (by decide)) (paC (pv 0) (paC aA (paC aA ag)))) (fun _ _=>rfl))) (ao (bh (i:=3) bN.nd rfl (by first | exact Or.inl rfl | exact Or.inr rfl) (cE (l:=[]) (by decide +kernel))) (ao (fX PassesOwn.never rfl (iZ rfl T.b_range (paC aA ag)) (aT (i:=4) bN.nd rfl (by first | exact Or.inl rfl | exact Or.inr rfl)) (au (bh (i:=3) bN.nd rfl (by first | exact Or.inl rfl | exact Or.inr rfl) (bG (de K rfl) (pv 3) (cR (ic K rfl) (pv 2) (aL C_law_draw (hr.mono (by decide)) (paC (pv 0) (paC (bG (de K rfl) aA (pv 4)) (paC (ar (cM K rfl) rfl T.b_len PySem.boot_len (paC (pv 2) ag)) ag)))) (fun _ _=>rfl)))))) (ao (bh (i:=5) bN.nd rfl (by first | exact Or.inl rfl | exact Or.inr rfl) (eh ag)) (ao (fX PassesOwn.never rfl (iZ rfl T.b_range (paC (bG (de K rfl) aA (aL C_law_draw (hr.mono (by decide)) (paC (pv 0) (paC aA (paC (pv 1) ag))))) ag)) (aT (i:=4) bN.nd rfl (by first | exact Or.inl rfl | exact Or.inr rfl)) (ao (bh (i:=6) bN.nd rfl (by first | exact Or.inl rfl | exact Or.inr rfl) (aL C_law_draw (hr.mono (by decide)) (paC (pv 0) (paC (bG (de K rfl) aA (bG lJ aA (pv 4))) (paC aA ag))))) (au (cQ (fm K rfl PySem.F.plainAttrs_list PySem.F.slot_list_append PySem.F.type_list_append dk (pv 5) (paC (bW (qk K rfl) (pv 3) (cw (pv 6)) (cw (bG (de K rfl) (bG (de K rfl) (pv 6) aA) (aL C_law_draw (hr.mono (by decide)) (paC (pv 0) (paC (bG (de K rfl) aA (bG lJ aA (pv 4))) (paC aA ag))))))) ag)))))) (au (bd (pv 5))))))))),fnP (K:=K) (c:=bz) (ps:=eA) (N:=["_law_script","_law_most","_law_letters","_law_text","_law_k","_law_pieces_here","_law_at"]) (aD (et (gX (aB Cm (ae (aE (c:=bg) (aa (ae (al (i:=0))) (aa (ae le_int) af)))) (ae (aB Cj (ae le_int) (ae le_int))))) (bf (pV (aE (c:=aM) (aa (ae (aE (c:=bg) (aa (ae (al (i:=0))) (aa (ae le_int) af)))) (aa (ae (al (i:=1))) af))))) bR) (aD (a8 (aB cS (ae (ei (aa (ae (le_str (l:=[97,98]))) (aa (ae (le_str (l:=[97,98,99]))) (aa (ae (le_str (l:=[120,121,122,97,98]))) af))))) (ae (aE (c:=aC) (aa (ae (al (i:=0))) (aa (ae le_int) (aa (ae le_int) af)))))) (aI (i:=2) rfl)) (aD (a8 (le_str (l:=[])) (aI (i:=3) rfl)) (aD (gC (xD (aa (ae le_int) af)) (aH (i:=4) rfl) (a8 (aB bZ (aq (i:=3)) (ae (aB cS (aq (i:=2)) (ae (aE (c:=aC) (aa (ae (al (i:=0))) (aa (ae (aB bZ (ae le_int) (aq (i:=4)))) (aa (ae (bt bB (aa (aq (i:=2)) af))) af)))))))) (aI (i:=3) rfl))) (aD (a8 (ei af) (aI (i:=5) rfl)) (aD (gC (xD (aa (ae (aB bZ (ae le_int) (ae (aE (c:=aC) (aa (ae (al (i:=0))) (aa (ae le_int) (aa (ae (al (i:=1))) af))))))) af)) (aH (i:=4) rfl) (aD (a8 (aE (c:=aC) (aa (ae (al (i:=0))) (aa (ae (aB bZ (ae le_int) (ae (aB ii (ae le_int) (aq (i:=4)))))) (aa (ae le_int) af)))) (aI (i:=6) rfl)) (fg (jR (i:=5) (bX (aq (i:=3)) (bJ (al (i:=6))) (bJ (aB bZ (ae (aB bZ (aq (i:=6)) (ae le_int))) (ae (aE (c:=aC) (aa (ae (al (i:=0))) (aa (ae (aB bZ (ae le_int) (ae (aB ii (ae le_int) (aq (i:=4)))))) (aa (ae le_int) af)))))))))))) (bf (pV (al (i:=5)))))))))) (fun ds Q h=>Nat.le_trans (Nat.le_of_eq (jo ds Q h)) (by decide)) oi h⟩
theorem mQ:∀ds Q,cu ds Q->ds.length=2:=fun ds Q h=>by unfold cu at h;split at h;(first | rfl | exact h.elim);(first | rfl | exact h.elim)
theorem tU (D:cA K mg "_law_lap" kU) (T:Txt mg) (TC:TxC K) (TX:TxX K mg):Cal P w K mg base 1 "_law_lap" ["_law_one","_law_other"] (spP K cu):=by
 refine D.ok mF (fun _ _ _ _ _ _ us hl=>match us,hl with | [_,_],_=>rfl) (fun vs H Q E h=>?_) (fun f cdv A outer s H vs Q E hr h=>?_)
 .exact ju mQ h
 .have hu:=hr.units
  exact ⟨_,(ao (fX PassesOwn.never rfl (oX rfl T.b_range (paC (bG pE (ar (yO rfl) rfl T.b_min boot_min (paC (ar (cM K rfl) rfl T.b_len PySem.boot_len (paC (pv 0) ag)) (paC (ar (cM K rfl) rfl T.b_len PySem.boot_len (paC (pv 1) ag)) ag))) aA) (paC aA (paC (wT rN aA) ag)))) (aT (i:=2) mF.nd rfl (by first | exact Or.inl rfl | exact Or.inr rfl)) (au (dX (a9 (jh K rfl hu) (bW (qk K rfl) (pv 0) (cw (bG pE (ar (cM K rfl) rfl T.b_len PySem.boot_len (paC (pv 0) ag)) (pv 2))) dh) (bW (qk K rfl) (pv 1) dh (cw (pv 2))) (bx _)) (au (bd (pv 2))) bE))) (au (bd aA))),fnP (K:=K) (c:=cu) (ps:=h9) (N:=["_law_one","_law_other","_law_k"]) (aD (gC (Cu (aa (ae (aB jQ (ae (bt vg (aa (ae (bt bB (aa (aq (i:=0)) af))) (aa (ae (bt bB (aa (aq (i:=1)) af))) af)))) (ae le_int))) (aa (ae le_int) (aa (ae (xz sf (ae le_int))) af)))) (aH (i:=2) rfl) (et (gX (aB eY (ae (bX (aq (i:=0)) (bJ (aB jQ (ae (bt bB (aa (aq (i:=0)) af))) (aq (i:=2)))) cB)) (ae (bX (aq (i:=1)) cB (bJ (al (i:=2))))))) (bf (al (i:=2))) bR)) (bf le_int)) (fun ds Q h=>Nat.le_trans (Nat.le_of_eq (mQ ds Q h)) (by decide)) tP h⟩
theorem lE:∀ds Q,bI ds Q->ds.length=1:=fun ds Q h=>by unfold bI at h;split at h;(first | rfl | exact h.elim);(first | rfl | exact h.elim)
theorem rH (D:cA K mg "_law_kept" jJ) (T:Txt mg) (TC:TxC K) (TX:TxX K mg):Cal P w K mg base 1 "_law_kept" ["_law_pieces_here"] (spP K bI):=by
 refine D.ok eQ (fun _ _ _ _ _ _ us hl=>match us,hl with | [_],_=>rfl) (fun vs H Q E h=>?_) (fun f cdv A outer s H vs Q E hr h=>?_)
 .exact ju lE h
 .have hu:=hr.units
  exact ⟨_,(ao (bh (i:=1) eQ.nd rfl (by first | exact Or.inl rfl | exact Or.inr rfl) (eh ag)) (ao (fX PassesOwn.never rfl (sg K rfl rfl T.b_enumerate (paC (pv 0) ag)) (kJ K rfl (n:=2) rfl (cg (aT (i:=2) eQ.nd rfl (by first | exact Or.inl rfl | exact Or.inr rfl)) (cg (aT (i:=3) eQ.nd rfl (by first | exact Or.inl rfl | exact Or.inr rfl)) iH))) (ao (ng (wi:=(mq K (cJ 0))) (g:=(dY 0)) (tts:=(Dv (qq (tOp Es (tCB (pq K) (bV (cJ 0) i4)) (tCB (pq K) (bV (cJ 1) i4)))) (qq (tOp (C3 K false) (cJ 1) (cJ 0))))) (te:=(cJ 0)) (i:=4) ["_law_other","_law_piece"] [none,some 3] eQ.nd rfl (Or.inl rfl) rfl (dS K rfl (pv 0)) (fun _ _ _ _=>⟨(aT (i:=0) (by show List.Nodup (["_law_other","_law_piece"]:List Str);decide +kernel) rfl (by first | exact Or.inl rfl | exact Or.inr rfl)),(ku (PW.pt (oG (a9 Bn (ar (cM K rfl) rfl T.b_len PySem.boot_len (paC (pv 0) ag)) (ar (cM K rfl) rfl T.b_len PySem.boot_len (paC (pv 1) ag)) (bx _)) (ke (a9 (EK K rfl) (pv 1) (pv 0) (by with_unfolding_all rfl)))))),(pv 0)⟩) (by kernel_rfl)) (au (dX (PW.pt (oG (a9 (jh K rfl hu) (ar (cM K rfl) rfl T.b_len PySem.boot_len (paC (pv 4) ag)) aA (bx _)) (ke (a9 (nU K rfl) (pv 3) (bW (qk K rfl) (pv 0) dh (cw (pv 2))) (by with_unfolding_all rfl))))) (au (cQ (fm K rfl PySem.F.plainAttrs_list PySem.F.slot_list_append PySem.F.type_list_append dk (pv 1) (paC (pv 2) ag)))) bE)))) (au (bd (pv 1))))),fnP (K:=K) (c:=bI) (ps:=fV) (N:=["_law_pieces_here","_law_kept_here","_law_k","_law_piece","_law_longer"]) (aD (a8 (ei af) (aI (i:=1) rfl)) (aD (gC (ve (aa (ae (al (i:=0))) af)) (jw (ck (aH (i:=2) rfl) (ck (aH (i:=3) rfl) iN))) (aD (a8 (cG (ix:=[none,some 3]) rfl (dU (al (i:=0))) (fun fs hc=>(aH (i:=0) (oB hc (by decide)))) (pj (gX (aB tq (ae (bt bB (aa (aq (i:=0)) af))) (ae (bt bB (aa (aq (i:=1)) af))))) (gX (aB sC (aq (i:=1)) (aq (i:=0))))) (al (i:=0))) (aI (i:=4) rfl)) (et (pj (gX (aB eY (ae (bt bB (aa (aq (i:=4)) af))) (ae le_int))) (gX (aB sC (aq (i:=3)) (ae (bX (aq (i:=0)) cB (bJ (al (i:=2)))))))) (fg (jR (i:=1) (al (i:=2)))) bR))) (bf (al (i:=1))))) (fun ds Q h=>Nat.le_trans (Nat.le_of_eq (lE ds Q h)) (by decide)) rq h⟩
theorem jp:∀ds Q,aS ds Q->ds.length=2:=fun ds Q h=>by unfold aS at h;split at h;(first | rfl | exact h.elim);(first | rfl | exact h.elim)
theorem ou (D:cA K mg "_law_number" gJ) (T:Txt mg) (TC:TxC K) (TX:TxX K mg):Cal P w K mg base 1 "_law_number" ["_law_found","_law_due_here"] (spP K aS):=by
 refine D.ok nY (fun _ _ _ _ _ _ us hl=>match us,hl with | [_,_],_=>rfl) (fun vs H Q E h=>?_) (fun f cdv A outer s H vs Q E hr h=>?_)
 .exact ju jp h
 .have hu:=hr.units
  exact ⟨_,(au (bd (gy (ar (qF K rfl) rfl T.b_isinstance boot_isinstance (paC (pv 0) (paC (fe (v:=.ty "int") rfl T.b_int boot_int rfl) ag))) (gy (rK (ar (qF K rfl) rfl T.b_isinstance boot_isinstance (paC (pv 0) (paC (fe (v:=.ty "bool") rfl T.b_bool boot_bool rfl) ag)))) (kf (iI (jh K rfl hu) (pv 0) (pv 1) (bx _))))))),fnP (K:=K) (c:=aS) (ps:=eB) (N:=["_law_found","_law_due_here"]) (bf (gB (kC .int (aq (i:=0))) (gB (r9 (kC .bool (aq (i:=0)))) (aB eY (aq (i:=0)) (aq (i:=1)))))) (fun ds Q h=>Nat.le_trans (Nat.le_of_eq (jp ds Q h)) (by decide)) oj h⟩
theorem jZ:∀ds Q,bF ds Q->ds.length=2:=fun ds Q h=>by unfold bF at h;split at h;(first | rfl | exact h.elim);(first | rfl | exact h.elim)
theorem qi (D:cA K mg "_law_order" iS) (T:Txt mg) (TC:TxC K) (TX:TxX K mg) (C_law_draw:Cal P w K mg base 2 "_law_draw" ["_law_script","_law_k","_law_many"] (spP K aC)):Cal P w K mg base 3 "_law_order" ["_law_script","_law_many"] (spP K bF):=by
 refine D.ok gK (fun _ _ _ _ _ _ us hl=>match us,hl with | [_,_],_=>rfl) (fun vs H Q E h=>?_) (fun f cdv A outer s H vs Q E hr h=>?_)
 .exact ju jZ h
 .have hu:=hr.units
  exact ⟨_,(ao (bh (i:=2) gK.nd rfl (by first | exact Or.inl rfl | exact Or.inr rfl) (bq (vk K rfl rfl) rfl T.b_list boot_list (paC (ky rfl T.b_range (paC (pv 1) ag)) ag))) (ao (fX PassesOwn.never rfl (iZ rfl T.b_range (paC (pv 1) ag)) (aT (i:=3) gK.nd rfl (by first | exact Or.inl rfl | exact Or.inr rfl)) (au (cQ (fm K rfl PySem.F.plainAttrs_list PySem.F.slot_list_append PySem.F.type_list_append dk (pv 2) (paC (fm K rfl PySem.F.plainAttrs_list PySem.F.slot_list_pop PySem.F.type_list_pop xg (pv 2) (paC (aL C_law_draw (hr.mono (by decide)) (paC (pv 0) (paC (bG (de K rfl) aA (pv 3)) (paC (pv 1) ag)))) ag)) ag))))) (au (bd (pv 2))))),fnP (K:=K) (c:=bF) (ps:=fb) (N:=["_law_script","_law_many","_law_order_here","_law_k"]) (aD (a8 (nB false (aa (ae (al (i:=1))) af)) (aI (i:=2) rfl)) (aD (gC (xD (aa (ae (al (i:=1))) af)) (aH (i:=3) rfl) (fg (jR (i:=2) (xV (i:=2) (aE (c:=aC) (aa (ae (al (i:=0))) (aa (ae (aB bZ (ae le_int) (aq (i:=3)))) (aa (ae (al (i:=1))) af)))))))) (bf (al (i:=2))))) (fun ds Q h=>Nat.le_trans (Nat.le_of_eq (jZ ds Q h)) (by decide)) qc h⟩
theorem iG:∀ds Q,bo ds Q->ds.length=2:=fun ds Q h=>by unfold bo at h;split at h;(first | rfl | exact h.elim);(first | rfl | exact h.elim)
theorem l8 (D:cA K mg "_law_spoiled" fM) (T:Txt mg) (TC:TxC K) (TX:TxX K mg) (C_law_draw:Cal P w K mg base 2 "_law_draw" ["_law_script","_law_k","_law_many"] (spP K aC)):Cal P w K mg base 3 "_law_spoiled" ["_law_script","_law_order_here"] (spP K bo):=by
 refine D.ok cU (fun _ _ _ _ _ _ us hl=>match us,hl with | [_,_],_=>rfl) (fun vs H Q E h=>?_) (fun f cdv A outer s H vs Q E hr h=>?_)
 .exact ju iG h
 .have hu:=hr.units
  exact ⟨_,(@ao _ _ _ _ _ (@bh _ _ 2 _ _ _ _ cU.nd rfl (by first | exact Or.inl rfl | exact Or.inr rfl) (@bq _ _ _ _ _ _ _ _ _ (yQ K rfl) rfl T.b_list boot_list (@paC _ _ _ _ _ (@pv _ 1 _ _ rfl (by first | exact Or.inl rfl | exact Or.inr (Or.inl rfl) | exact Or.inr (Or.inr rfl)) (by decide) (by decide)) ag rfl) (by decide) (by decide) rfl rfl) rfl (by first | exact .inl rfl | exact .inr rfl | assumption)) (@ao _ _ _ _ _ (@dX _ _ _ _ _ _ _ _ (@a9 _ _ _ _ _ _ _ _ (jh K rfl hu) (@ar _ _ _ _ _ _ _ _ _ (cM K rfl) rfl T.b_len PySem.boot_len (@paC _ _ _ _ _ (@pv _ 2 _ _ rfl (by first | exact Or.inl rfl | exact Or.inr (Or.inl rfl) | exact Or.inr (Or.inr rfl)) (by decide) (by decide)) ag rfl) (by decide) (by decide) rfl rfl) aA (bx _)) (@au _ _ _ (@bd _ _ _ _ (@eh _ _ _ _ (@paC _ _ _ _ _ aA ag rfl)))) bE) (@ao _ _ _ _ _ (@bh _ _ 3 _ _ _ _ cU.nd rfl (by first | exact Or.inl rfl | exact Or.inr rfl) (@aL _ _ _ _ _ _ _ _ _ _ C_law_draw (hr.mono (by decide)) (@paC _ _ _ _ _ (@pv _ 0 _ _ rfl (by first | exact Or.inl rfl | exact Or.inr (Or.inl rfl) | exact Or.inr (Or.inr rfl)) (by decide) (by decide)) (@paC _ _ _ _ _ aA (@paC _ _ _ _ _ (@ar _ _ _ _ _ _ _ _ _ (cM K rfl) rfl T.b_len PySem.boot_len (@paC _ _ _ _ _ (@pv _ 2 _ _ rfl (by first | exact Or.inl rfl | exact Or.inr (Or.inl rfl) | exact Or.inr (Or.inr rfl)) (by decide) (by decide)) ag rfl) (by decide) (by decide) rfl rfl) ag rfl) rfl) rfl) rfl (by decide) rfl rfl) rfl (by first | exact .inl rfl | exact .inr rfl | assumption)) (@ao _ _ _ _ _ (@bh _ _ 4 _ _ _ _ cU.nd rfl (by first | exact Or.inl rfl | exact Or.inr rfl) (@aL _ _ _ _ _ _ _ _ _ _ C_law_draw (hr.mono (by decide)) (@paC _ _ _ _ _ (@pv _ 0 _ _ rfl (by first | exact Or.inl rfl | exact Or.inr (Or.inl rfl) | exact Or.inr (Or.inr rfl)) (by decide) (by decide)) (@paC _ _ _ _ _ aA (@paC _ _ _ _ _ aA ag rfl) rfl) rfl) rfl (by decide) rfl rfl) rfl (by first | exact .inl rfl | exact .inr rfl | assumption)) (@ao _ _ _ _ _ (@m7 _ _ _ (@dX _ _ _ _ _ _ _ _ (@a9 _ _ _ _ _ _ _ _ D7 (@pv _ 4 _ _ rfl (by first | exact Or.inl rfl | exact Or.inr (Or.inl rfl) | exact Or.inr (Or.inr rfl)) (by decide) (by decide)) aA (bx _)) (@au _ _ _ (@kR _ _ _ _ _ _ _ _ (@cR _ _ _ _ _ _ _ (ic K rfl) (@eh _ _ _ _ (@paC _ _ _ _ _ (@ar _ _ _ _ _ _ _ _ _ (cM K rfl) rfl T.b_len PySem.boot_len (@paC _ _ _ _ _ (@pv _ 2 _ _ rfl (by first | exact Or.inl rfl | exact Or.inr (Or.inl rfl) | exact Or.inr (Or.inr rfl)) (by decide) (by decide)) ag rfl) (by decide) (by decide) rfl rfl) (@paC _ _ _ _ _ (@wT _ _ _ _ _ _ rN aA) (@paC _ _ _ _ _ (@cE _ _ _ [48] _ (by decide +kernel)) (@paC _ _ _ _ _ (@eh _ _ _ _ (@paC _ _ _ _ _ aA ag rfl)) (@paC _ _ _ _ _ xt ag rfl) rfl) rfl) rfl) rfl)) (@pv _ 4 _ _ rfl (by first | exact Or.inl rfl | exact Or.inr (Or.inl rfl) | exact Or.inr (Or.inr rfl)) (by decide) (by decide)) (fun _ _=>rfl)) (@oH _ _ _ _ _ _ _ (@pv _ 2 _ _ rfl (by first | exact Or.inl rfl | exact Or.inr (Or.inl rfl) | exact Or.inr (Or.inr rfl)) (by decide) (by decide)) (@pv _ 3 _ _ rfl (by first | exact Or.inl rfl | exact Or.inr (Or.inl rfl) | exact Or.inr (Or.inr rfl)) (by decide) (by decide)) i6 (fun _=>rfl)) rfl)) (@au _ _ _ (@dX _ _ _ _ _ _ _ _ (@a9 _ _ _ _ _ _ _ _ (jh K rfl hu) (@pv _ 4 _ _ rfl (by first | exact Or.inl rfl | exact Or.inr (Or.inl rfl) | exact Or.inr (Or.inr rfl)) (by decide) (by decide)) aA (bx _)) (@au _ _ _ (@bh _ _ 2 _ _ _ _ cU.nd rfl (by first | exact Or.inl rfl | exact Or.inr rfl) (@bG _ _ _ _ _ _ _ _ (de K rfl) (@bW _ _ _ _ _ _ _ _ _ _ (qk K rfl) (@pv _ 2 _ _ rfl (by first | exact Or.inl rfl | exact Or.inr (Or.inl rfl) | exact Or.inr (Or.inr rfl)) (by decide) (by decide)) dh (@cw _ _ _ (@pv _ 3 _ _ rfl (by first | exact Or.inl rfl | exact Or.inr (Or.inl rfl) | exact Or.inr (Or.inr rfl)) (by decide) (by decide)))) (@bW _ _ _ _ _ _ _ _ _ _ (qk K rfl) (@pv _ 2 _ _ rfl (by first | exact Or.inl rfl | exact Or.inr (Or.inl rfl) | exact Or.inr (Or.inr rfl)) (by decide) (by decide)) (@cw _ _ _ (@bG _ _ _ _ _ _ _ _ (de K rfl) (@pv _ 3 _ _ rfl (by first | exact Or.inl rfl | exact Or.inr (Or.inl rfl) | exact Or.inr (Or.inr rfl)) (by decide) (by decide)) aA)) dh)) rfl (by first | exact .inl rfl | exact .inr rfl | assumption))) (@au _ _ _ (@dX _ _ _ _ _ _ _ _ (@a9 _ _ _ _ _ _ _ _ (jh K rfl hu) (@pv _ 4 _ _ rfl (by first | exact Or.inl rfl | exact Or.inr (Or.inl rfl) | exact Or.inr (Or.inr rfl)) (by decide) (by decide)) aA (bx _)) (@au _ _ _ (@cQ _ _ _ _ (@fm _ _ _ _ _ _ _ _ _ _ _ _ K rfl PySem.F.plainAttrs_list PySem.F.slot_list_insert PySem.F.type_list_insert vB (@pv _ 2 _ _ rfl (by first | exact Or.inl rfl | exact Or.inr (Or.inl rfl) | exact Or.inr (Or.inr rfl)) (by decide) (by decide)) (@paC _ _ _ _ _ (@pv _ 3 _ _ rfl (by first | exact Or.inl rfl | exact Or.inr (Or.inl rfl) | exact Or.inr (Or.inr rfl)) (by decide) (by decide)) (@paC _ _ _ _ _ (@cR _ _ _ _ _ _ _ (ic K rfl) (@pv _ 2 _ _ rfl (by first | exact Or.inl rfl | exact Or.inr (Or.inl rfl) | exact Or.inr (Or.inr rfl)) (by decide) (by decide)) (@pv _ 3 _ _ rfl (by first | exact Or.inl rfl | exact Or.inr (Or.inl rfl) | exact Or.inr (Or.inr rfl)) (by decide) (by decide)) (fun _ _=>rfl)) ag rfl) rfl) rfl rfl rfl rfl rfl) rfl)) (@au _ _ _ (@dX _ _ _ _ _ _ _ _ (PW.pt (@oG _ _ _ _ _ _ _ (@a9 _ _ _ _ _ _ _ _ (jh K rfl hu) (@pv _ 4 _ _ rfl (by first | exact Or.inl rfl | exact Or.inr (Or.inl rfl) | exact Or.inr (Or.inr rfl)) (by decide) (by decide)) aA (bx _)) (@ke _ _ _ _ (@a9 _ _ _ _ _ _ _ _ Bn (@ar _ _ _ _ _ _ _ _ _ (cM K rfl) rfl T.b_len PySem.boot_len (@paC _ _ _ _ _ (@pv _ 2 _ _ rfl (by first | exact Or.inl rfl | exact Or.inr (Or.inl rfl) | exact Or.inr (Or.inr rfl)) (by decide) (by decide)) ag rfl) (by decide) (by decide) rfl rfl) aA (bx _))))) (@au _ _ _ (@kR _ _ _ _ _ _ _ _ (@cR _ _ _ _ _ _ _ (ic K rfl) (@pv _ 2 _ _ rfl (by first | exact Or.inl rfl | exact Or.inr (Or.inl rfl) | exact Or.inr (Or.inr rfl)) (by decide) (by decide)) (@bG _ _ _ _ _ _ _ _ pE (@pv _ 3 _ _ rfl (by first | exact Or.inl rfl | exact Or.inr (Or.inl rfl) | exact Or.inr (Or.inr rfl)) (by decide) (by decide)) aA) (fun _ _=>rfl)) (@oH _ _ _ _ _ _ _ (@pv _ 2 _ _ rfl (by first | exact Or.inl rfl | exact Or.inr (Or.inl rfl) | exact Or.inr (Or.inr rfl)) (by decide) (by decide)) (@pv _ 3 _ _ rfl (by first | exact Or.inl rfl | exact Or.inr (Or.inl rfl) | exact Or.inr (Or.inr rfl)) (by decide) (by decide)) i6 (fun _=>rfl)) rfl)) (@au _ _ _ (@kR _ _ _ _ _ _ _ _ (@iI _ _ _ _ _ _ _ _ (jh K rfl hu) (@cR _ _ _ _ _ _ _ (ic K rfl) (@pv _ 2 _ _ rfl (by first | exact Or.inl rfl | exact Or.inr (Or.inl rfl) | exact Or.inr (Or.inr rfl)) (by decide) (by decide)) (@pv _ 3 _ _ rfl (by first | exact Or.inl rfl | exact Or.inr (Or.inl rfl) | exact Or.inr (Or.inr rfl)) (by decide) (by decide)) (fun _ _=>rfl)) aA (bx _)) (@oH _ _ _ _ _ _ _ (@pv _ 2 _ _ rfl (by first | exact Or.inl rfl | exact Or.inr (Or.inl rfl) | exact Or.inr (Or.inr rfl)) (by decide) (by decide)) (@pv _ 3 _ _ rfl (by first | exact Or.inl rfl | exact Or.inr (Or.inl rfl) | exact Or.inr (Or.inr rfl)) (by decide) (by decide)) i6 (fun _=>rfl)) rfl)))))))))) (@au _ _ _ (@bd _ _ _ _ (@pv _ 2 _ _ rfl (by first | exact Or.inl rfl | exact Or.inr (Or.inl rfl) | exact Or.inr (Or.inr rfl)) (by decide) (by decide))))))))),fnP (K:=K) (c:=bo) (ps:=dP) (N:=["_law_script","_law_order_here","_law_wrong","_law_at","_law_kind"]) (aD (a8 (bt vj (aa (aq (i:=1)) af)) (aI (i:=2) rfl)) (aD (et (gX (aB eY (ae (bt bB (aa (aq (i:=2)) af))) (ae le_int))) (bf (pV (ei (aa (ae le_int) af)))) bR) (aD (a8 (aE (c:=aC) (aa (ae (al (i:=0))) (aa (ae le_int) (aa (ae (bt bB (aa (aq (i:=2)) af))) af)))) (aI (i:=3) rfl)) (aD (a8 (aE (c:=aC) (aa (ae (al (i:=0))) (aa (ae le_int) (aa (ae le_int) af)))) (aI (i:=4) rfl)) (aD (nu (et (gX (aB Af (aq (i:=4)) (ae le_int))) (kE (i:=2) (aB cS (ae (ei (aa (ae (bt bB (aa (aq (i:=2)) af))) (aa (ae (xz sf (ae le_int))) (aa (ae (le_str (l:=[48]))) (aa (ae (ei (aa (ae le_int) af))) (aa (ae Ay) af))))))) (aq (i:=4))) (al (i:=3))) (et (gX (aB eY (aq (i:=4)) (ae le_int))) (a8 (aB bZ (ae (bX (aq (i:=2)) cB (bJ (al (i:=3))))) (ae (bX (aq (i:=2)) (bJ (aB bZ (aq (i:=3)) (ae le_int))) cB))) (aI (i:=2) rfl)) (et (gX (aB eY (aq (i:=4)) (ae le_int))) (fg (vC (i:=2) (al (i:=3)) (aB cS (aq (i:=2)) (aq (i:=3))))) (et (pj (gX (aB eY (aq (i:=4)) (ae le_int))) (gX (aB tq (ae (bt bB (aa (aq (i:=2)) af))) (ae le_int)))) (kE (i:=2) (aB cS (aq (i:=2)) (ae (aB jQ (aq (i:=3)) (ae le_int)))) (al (i:=3))) (kE (i:=2) (aB eY (ae (aB cS (aq (i:=2)) (aq (i:=3)))) (ae le_int)) (al (i:=3)))))))) (bf (pV (al (i:=2))))))))) (fun ds Q h=>Nat.le_trans (Nat.le_of_eq (iG ds Q h)) (by decide)) lX h⟩
theorem gQ:∀ds Q,bc ds Q->ds.length=2:=fun ds Q h=>by unfold bc at h;split at h;(first | rfl | exact h.elim);(first | rfl | exact h.elim)
theorem lF (D:cA K mg "_law_refusals" fi) (T:Txt mg) (TC:TxC K) (TX:TxX K mg) (C_saved:oE P w K mg base 5 "saved" ["family","order"] (spX K bY)) (C_starts_of:oE P w K mg base 5 "starts_of" ["family","order"] (spX K aW)) (C_text_of:oE P w K mg base 5 "text_of" ["family","order"] (spX K br)):Cal P w K mg base 6 "_law_refusals" ["_law_family","_law_wrong"] (spP K bc):=by
 refine D.ok dA (fun _ _ _ _ _ _ us hl=>match us,hl with | [_,_],_=>rfl) (fun vs H Q E h=>?_) (fun f cdv A outer s H vs Q E hr h=>?_)
 .exact ju gQ h
 .have hu:=hr.units
  exact ⟨_,(ao (bh (i:=2) dA.nd rfl (by first | exact Or.inl rfl | exact Or.inr rfl) (eh ag)) (ao (vV rfl rfl (fun J pn E px=>ao (cQ (ef C_text_of (hr.mono (by decide)) px (paC (pv 0) (paC (pv 1) ag)))) bE) (y6 3 K rfl TX.d_NoOrder TX.m_NoOrder dA.nd rfl rfl (fun _=>(au (cQ (fm K rfl PySem.F.plainAttrs_list PySem.F.slot_list_append PySem.F.type_list_append dk (pv 2) (paC (gy (ar (AS K rfl) rfl T.b_isinstance boot_isinstance (paC (pv 3) (paC (qP TX.m_GlueError) ag))) (gy (ar (Ey K rfl) rfl T.b_isinstance boot_isinstance (paC (pv 3) (paC (fe (v:=.ty "ValueError") rfl T.b_ValueError PyProof.Rows.Boot.«ValueError» rfl) ag))) (kf (rK (ar (AS K rfl) rfl T.b_isinstance boot_isinstance (paC (pv 3) (paC (qP TX.m_NoLap) ag))))))) ag))))) vU)) (ao (vV rfl rfl (fun J pn E px=>ao (cQ (ef C_starts_of (hr.mono (by decide)) px (paC (pv 0) (paC (pv 1) ag)))) bE) (EA K rfl TX.d_NoOrder TX.m_NoOrder (fun _=>(au (cQ (fm K rfl PySem.F.plainAttrs_list PySem.F.slot_list_append PySem.F.type_list_append dk (pv 2) (paC gu ag))))) vU)) (ao (vV rfl rfl (fun J pn E px=>ao (cQ (ef C_saved (hr.mono (by decide)) px (paC (pv 0) (paC (pv 1) ag)))) bE) (y6 3 K rfl TX.d_GlueError TX.m_GlueError dA.nd rfl rfl (fun _=>(au (cQ (fm K rfl PySem.F.plainAttrs_list PySem.F.slot_list_append PySem.F.type_list_append dk (pv 2) (paC (ar (AS K rfl) rfl T.b_isinstance boot_isinstance (paC (pv 3) (paC (qP TX.m_NoOrder) ag))) ag))))) vU)) (au (bd (pv 2))))))),fnP (K:=K) (c:=bc) (ps:=dC) (N:=["_law_family","_law_wrong","_law_names","e"]) (aD (a8 (ei af) (aI (i:=2) rfl)) (aD (vZ (c:=br) (aa (ae (al (i:=0))) (aa (ae (al (i:=1))) af)) (CW (c0:="NoOrder") TX.all (by first | exact Or.inr rfl | exact Or.inl (List.contains_iff_mem.mp (by decide +kernel))) rfl (fg (jR (i:=2) (gB (vO (d:="GlueError") TX.all (by first | exact Or.inr rfl | exact Or.inl (List.contains_iff_mem.mp (by decide +kernel))) (aq (i:=3))) (gB (CT TX.all (aq (i:=3))) (r9 (vO (d:="NoLap") TX.all (by first | exact Or.inr rfl | exact Or.inl (List.contains_iff_mem.mp (by decide +kernel))) (aq (i:=3)))))))) vY)) (aD (vZ (c:=aW) (aa (ae (al (i:=0))) (aa (ae (al (i:=1))) af)) (EE (c0:="NoOrder") TX.all (by first | exact Or.inr rfl | exact Or.inl (List.contains_iff_mem.mp (by decide +kernel))) (fg (jR (i:=2) gA)) vY)) (aD (vZ (c:=bY) (aa (ae (al (i:=0))) (aa (ae (al (i:=1))) af)) (CW (c0:="GlueError") TX.all (by first | exact Or.inr rfl | exact Or.inl (List.contains_iff_mem.mp (by decide +kernel))) rfl (fg (jR (i:=2) (vO (d:="NoOrder") TX.all (by first | exact Or.inr rfl | exact Or.inl (List.contains_iff_mem.mp (by decide +kernel))) (aq (i:=3))))) vY)) (bf (al (i:=2))))))) (fun ds Q h=>Nat.le_trans (Nat.le_of_eq (gQ ds Q h)) (by decide)) lv h⟩
theorem mR:∀ds Q,cv ds Q->ds.length=2:=fun ds Q h=>by unfold cv at h;split at h;(first | rfl | exact h.elim);(first | rfl | exact h.elim)
theorem tV (D:cA K mg "_law_due" kW) (T:Txt mg) (TC:TxC K) (TX:TxX K mg) (C_law_lap:Cal P w K mg base 1 "_law_lap" ["_law_one","_law_other"] (spP K cu)):Cal P w K mg base 2 "_law_due" ["_law_words","_law_order_here"] (spP K cv):=by
 refine D.ok dG (fun _ _ _ _ _ _ us hl=>match us,hl with | [_,_],_=>rfl) (fun vs H Q E h=>?_) (fun f cdv A outer s H vs Q E hr h=>?_)
 .exact ju mR h
 .have hu:=hr.units
  exact ⟨_,(ao (bh (i:=2) dG.nd rfl (by first | exact Or.inl rfl | exact Or.inr rfl) (cE (l:=[]) (by decide +kernel))) (ao (bh (i:=3) dG.nd rfl (by first | exact Or.inl rfl | exact Or.inr rfl) (bG lJ (eh (paC aA ag)) (ar (cM K rfl) rfl T.b_len PySem.boot_len (paC (pv 1) ag)))) (ao (fX PassesOwn.never rfl (iZ rfl T.b_range (paC (ar (cM K rfl) rfl T.b_len PySem.boot_len (paC (pv 1) ag)) ag)) (aT (i:=4) dG.nd rfl (by first | exact Or.inl rfl | exact Or.inr rfl)) (ao (bh (i:=5) dG.nd rfl (by first | exact Or.inl rfl | exact Or.inr rfl) aA) (ao (m7 (dX (a9 Bn (pv 4) aA (bx _)) (au (bh (i:=5) dG.nd rfl (by first | exact Or.inl rfl | exact Or.inr rfl) (aL C_law_lap (hr.mono (by decide)) (paC (cR (ic K rfl) (pv 0) (cR (ic K rfl) (pv 1) (bG pE (pv 4) aA) (fun _ _=>rfl)) (fun _ _=>rfl)) (paC (cR (ic K rfl) (pv 0) (cR (ic K rfl) (pv 1) (pv 4) (fun _ _=>rfl)) (fun _ _=>rfl)) ag))))) bE)) (ao (kR (bG pE (ar (cM K rfl) rfl T.b_len PySem.boot_len (paC (pv 2) ag)) (pv 5)) (oH (pv 3) (cR (ic K rfl) (pv 1) (pv 4) (fun _ _=>rfl)) i6)) (au (bh (i:=2) dG.nd rfl (by first | exact Or.inl rfl | exact Or.inr rfl) (bG (de K rfl) (pv 2) (bW (qk K rfl) (cR (ic K rfl) (pv 0) (cR (ic K rfl) (pv 1) (pv 4) (fun _ _=>rfl)) (fun _ _=>rfl)) (cw (pv 5)) dh)))))))) (au (bd (oJ (paC (pv 2) (paC (pv 3) ag)))))))),fnP (K:=K) (c:=cv) (ps:=ia) (N:=["_law_words","_law_order_here","_law_text","_law_starts","_law_k","_law_shared"]) (aD (a8 (le_str (l:=[])) (aI (i:=2) rfl)) (aD (a8 (aB ii (ae (ei (aa (ae le_int) af))) (ae (bt bB (aa (aq (i:=1)) af)))) (aI (i:=3) rfl)) (aD (gC (xD (aa (ae (bt bB (aa (aq (i:=1)) af))) af)) (aH (i:=4) rfl) (aD (a8 le_int (aI (i:=5) rfl)) (aD (nu (et (gX (aB tq (aq (i:=4)) (ae le_int))) (a8 (aE (c:=cu) (aa (ae (aB cS (aq (i:=0)) (ae (aB cS (aq (i:=1)) (ae (aB jQ (aq (i:=4)) (ae le_int))))))) (aa (ae (aB cS (aq (i:=0)) (ae (aB cS (aq (i:=1)) (aq (i:=4)))))) af))) (aI (i:=5) rfl)) bR)) (aD (kE (i:=3) (aB jQ (ae (bt bB (aa (aq (i:=2)) af))) (aq (i:=5))) (aB cS (aq (i:=1)) (aq (i:=4)))) (a8 (aB bZ (aq (i:=2)) (ae (bX (ae (aB cS (aq (i:=0)) (ae (aB cS (aq (i:=1)) (aq (i:=4)))))) (bJ (al (i:=5))) cB))) (aI (i:=2) rfl)))))) (bf (r8 (aa (ae (al (i:=2))) (aa (ae (al (i:=3))) af))))))) (fun ds Q h=>Nat.le_trans (Nat.le_of_eq (mR ds Q h)) (by decide)) tQ h⟩
theorem lG:∀ds Q,bp ds Q->ds.length=3:=fun ds Q h=>by unfold bp at h;split at h;(first | rfl | exact h.elim);(first | rfl | exact h.elim)
theorem rJ (D:cA K mg "_law_told" jK) (T:Txt mg) (TC:TxC K) (TX:TxX K mg) (C_law_due:Cal P w K mg base 2 "_law_due" ["_law_words","_law_order_here"] (spP K cv)) (C_law_number:Cal P w K mg base 1 "_law_number" ["_law_found","_law_due_here"] (spP K aS)) (C_saved:oE P w K mg base 5 "saved" ["family","order"] (spX K bY)) (C_starts_of:oE P w K mg base 5 "starts_of" ["family","order"] (spX K aW)) (C_text_of:oE P w K mg base 5 "text_of" ["family","order"] (spX K br)):Cal P w K mg base 6 "_law_told" ["_law_family","_law_words","_law_order_here"] (spP K bp):=by
 refine D.ok cI (fun _ _ _ _ _ _ us hl=>match us,hl with | [_,_,_],_=>rfl) (fun vs H Q E h=>?_) (fun f cdv A outer s H vs Q E hr h=>?_)
 .exact ju lG h
 .have hu:=hr.units
  exact ⟨_,(ao (yx (aL C_law_due (hr.mono (by decide)) (paC (pv 1) (paC (pv 2) ag))) (kJ K rfl (n:=2) rfl (cg (aT (i:=3) cI.nd rfl (by first | exact Or.inl rfl | exact Or.inr rfl)) (cg (aT (i:=4) cI.nd rfl (by first | exact Or.inl rfl | exact Or.inr rfl)) iH)))) (ao (bh (i:=5) cI.nd rfl (by first | exact Or.inl rfl | exact Or.inr rfl) (ef C_text_of (hr.mono (by decide)) px0 (paC (pv 0) (paC (pv 2) ag)))) (ao (dX (PW.pt (mU (iY (eL (ar (qF K rfl) rfl T.b_isinstance boot_isinstance (paC (pv 5) (paC (fe (v:=.ty "str") rfl T.b_str boot_str rfl) ag))))) (jN (a9 (pJ K rfl hu) (pv 5) (pv 3) (bx _))))) (au (bd gu)) bE) (ao (bh (i:=6) cI.nd rfl (by first | exact Or.inl rfl | exact Or.inr rfl) (ef C_starts_of (hr.mono (by decide)) px0 (paC (pv 0) (paC (pv 2) ag)))) (ao (dX (PW.pt (mU (iY (eL (ar (qF K rfl) rfl T.b_isinstance boot_isinstance (paC (pv 6) (paC (fe (v:=.ty "tuple") rfl T.b_tuple boot_tuple rfl) ag))))) (jN (a9 (pJ K rfl hu) (ar (cM K rfl) rfl T.b_len PySem.boot_len (paC (pv 6) ag)) (ar (cM K rfl) rfl T.b_len PySem.boot_len (paC (pv 1) ag)) (bx _))))) (au (bd gu)) bE) (ao (fX PassesOwn.never rfl (A3 K rfl rfl T.b_zip (paC (pv 1) (paC (pv 6) (paC (pv 4) ag)))) (kJ K rfl (n:=3) rfl (cg (aT (i:=7) cI.nd rfl (by first | exact Or.inl rfl | exact Or.inr rfl)) (cg (aT (i:=8) cI.nd rfl (by first | exact Or.inl rfl | exact Or.inr rfl)) (cg (aT (i:=9) cI.nd rfl (by first | exact Or.inl rfl | exact Or.inr rfl)) iH)))) (au (dX (PW.pt (mU (iY (eL (aL C_law_number (hr.mono (by decide)) (paC (pv 8) (paC (pv 9) ag))))) (jN (a9 (pJ K rfl hu) (bW (qk K rfl) (pv 5) (cw (pv 8)) (cw (bG (de K rfl) (pv 8) (ar (cM K rfl) rfl T.b_len PySem.boot_len (paC (pv 7) ag))))) (pv 7) (bx _))))) (au (bd gu)) bE))) (au (bd (aL C_law_number (hr.mono (by decide)) (paC (ef C_saved (hr.mono (by decide)) px0 (paC (pv 0) (paC (pv 2) ag))) (paC (bG pE (ar (vh K rfl rfl) rfl T.b_sum boot_sum (paC (dE (wi:=(mq K (cJ 1))) (g:=(dY 0)) (tts:=qy) (te:=(tCB (pq K) (bV (cJ 0) i4))) ["_law_word"] [none] rfl (dS K rfl (pv 1)) (fun _ _ _ _=>⟨(aT (i:=0) (by show List.Nodup (["_law_word"]:List Str);decide +kernel) rfl (by first | exact Or.inl rfl | exact Or.inr rfl)),dZ,(ar (cM K rfl) rfl T.b_len PySem.boot_len (paC (pv 0) ag))⟩) (by kernel_rfl)) ag)) (ar (cM K rfl) rfl T.b_len PySem.boot_len (paC (pv 3) ag))) ag))))))))))),fnP (K:=K) (c:=bp) (ps:=fW) (N:=["_law_family","_law_words","_law_order_here","_law_text","_law_starts","_law_found","_law_spots","_law_word","_law_place","_law_start"]) (aD (a8 (aE (c:=cv) (aa (ae (al (i:=1))) (aa (ae (al (i:=2))) af))) (CM (ck (aH (i:=3) rfl) (ck (aH (i:=4) rfl) iN)))) (aD (a8 (hG (c:=br) (aa (ae (al (i:=0))) (aa (ae (al (i:=2))) af))) (aI (i:=5) rfl)) (aD (et (nq (je (tX (kC .str (aq (i:=5))))) (gX (aB jS (aq (i:=5)) (aq (i:=3))))) (bf gA) bR) (aD (a8 (hG (c:=aW) (aa (ae (al (i:=0))) (aa (ae (al (i:=2))) af))) (aI (i:=6) rfl)) (aD (et (nq (je (tX (kC .tuple (aq (i:=6))))) (gX (aB jS (ae (bt bB (aa (aq (i:=6)) af))) (ae (bt bB (aa (aq (i:=1)) af)))))) (bf gA) bR) (aD (gC (A4 (aa (ae (al (i:=1))) (aa (ae (al (i:=6))) (aa (ae (al (i:=4))) af)))) (jw (ck (aH (i:=7) rfl) (ck (aH (i:=8) rfl) (ck (aH (i:=9) rfl) iN)))) (et (nq (je (tX (aE (c:=aS) (aa (ae (al (i:=8))) (aa (ae (al (i:=9))) af))))) (gX (aB jS (ae (bX (aq (i:=5)) (bJ (al (i:=8))) (bJ (aB bZ (aq (i:=8)) (ae (bt bB (aa (aq (i:=7)) af))))))) (aq (i:=7))))) (bf gA) bR)) (bf (aE (c:=aS) (aa (ae (hG (c:=bY) (aa (ae (al (i:=0))) (aa (ae (al (i:=2))) af)))) (aa (ae (aB jQ (ae (bt qI (aa (ae (cG (ix:=[none]) rfl (dU (al (i:=1))) (fun fs hc=>(aH (i:=0) (oB hc (by decide)))) fZ (bt bB (aa (aq (i:=0)) af)))) af))) (ae (bt bB (aa (aq (i:=3)) af))))) af)))))))))) (fun ds Q h=>Nat.le_trans (Nat.le_of_eq (lG ds Q h)) (by decide)) rA h⟩
theorem zk:∀ds Q,sH ds Q->ds.length=1:=fun ds Q h=>by obtain ⟨_,rfl,_⟩:=h;rfl
theorem De (D:cA K mg "law" yk) (T:Txt mg) (TC:TxC K) (TX:TxX K mg) (C_Family_init:Cg P w K mg base 4 (aP K "Family") "Family" ["self","pieces"] (spR K bj)) (C_law_draw:Cal P w K mg base 2 "_law_draw" ["_law_script","_law_k","_law_many"] (spP K aC)) (C_law_kept:Cal P w K mg base 1 "_law_kept" ["_law_pieces_here"] (spP K bI)) (C_law_number:Cal P w K mg base 1 "_law_number" ["_law_found","_law_due_here"] (spP K aS)) (C_law_order:Cal P w K mg base 3 "_law_order" ["_law_script","_law_many"] (spP K bF)) (C_law_pieces:Cal P w K mg base 3 "_law_pieces" ["_law_script","_law_most"] (spP K bz)) (C_law_refusals:Cal P w K mg base 6 "_law_refusals" ["_law_family","_law_wrong"] (spP K bc)) (C_law_spoiled:Cal P w K mg base 3 "_law_spoiled" ["_law_script","_law_order_here"] (spP K bo)) (C_law_told:Cal P w K mg base 6 "_law_told" ["_law_family","_law_words","_law_order_here"] (spP K bp)) (C_is_order:Cal P w K mg base 3 "is_order" ["thing","many"] (spP K aY)) (C_saved:oE P w K mg base 5 "saved" ["family","order"] (spX K bY)) (C_starts_of:oE P w K mg base 5 "starts_of" ["family","order"] (spX K aW)) (C_text_of:oE P w K mg base 5 "text_of" ["family","order"] (spX K br)):Cal P w K mg base 7 "law" ["_law_script"] (spP K sH):=by
 refine D.ok gL (fun _ _ _ _ _ _ us hl=>match us,hl with | [_],_=>rfl) (fun vs H Q E h=>?_) (fun f cdv A outer s H vs Q E hr h=>?_)
 .exact ju zk h
 .have hu:=hr.units
  exact ⟨_,(@ao _ _ _ _ _ (@bh _ _ 1 _ _ _ _ gL.nd rfl (by first | exact Or.inl rfl | exact Or.inr rfl) (@aL _ _ _ _ _ _ _ _ _ _ C_law_pieces (hr.mono (by decide)) (@paC _ _ _ _ _ (@pv _ 0 _ _ rfl (by first | exact Or.inl rfl | exact Or.inr (Or.inl rfl) | exact Or.inr (Or.inr rfl)) (by decide) (by decide)) (@paC _ _ _ _ _ aA ag rfl) rfl) rfl (by decide) rfl rfl) rfl (by first | exact .inl rfl | exact .inr rfl | assumption)) (@ao _ _ _ _ _ (@bh _ _ 2 _ _ _ _ gL.nd rfl (by first | exact Or.inl rfl | exact Or.inr rfl) (@sm _ _ _ _ _ _ _ _ _ _ _ C_Family_init (hr.mono (by decide)) (@paC _ _ _ _ _ (@pv _ 1 _ _ rfl (by first | exact Or.inl rfl | exact Or.inr (Or.inl rfl) | exact Or.inr (Or.inr rfl)) (by decide) (by decide)) ag rfl) rfl (by decide) rfl rfl) rfl (by first | exact .inl rfl | exact .inr rfl | assumption)) (@ao _ _ _ _ _ (@ng _ _ _ _ _ _ ((mq K (iJ (spP K bI) [] E0 (bV (cJ 1) i4)))) ((dY 0)) qy ((tOp (xB K) (cJ 1) (cJ 0))) 3 _ _ _ _ ["_law_k","_law_pieces_here"] [none,some 1] gL.nd rfl (Or.inl rfl) rfl (@dS _ _ K rfl _ _ (@aL _ _ _ _ _ _ _ _ _ _ C_law_kept (hr.mono (by decide)) (@paC _ _ _ _ _ (@pv _ 1 _ _ rfl (by first | exact Or.inl rfl | exact Or.inr (Or.inl rfl) | exact Or.inr (Or.inr rfl)) (by decide) (by decide)) ag rfl) rfl (by decide) rfl rfl)) (fun _ _ _ _=>⟨(aT (i:=0) (by show List.Nodup (["_law_k","_law_pieces_here"]:List Str);decide +kernel) rfl (by first | exact Or.inl rfl | exact Or.inr rfl)),dZ,(cR (ic K rfl) (pv 1) (pv 0) (fun _ _=>rfl))⟩) (by kernel_rfl) rfl (fun _=>rfl) (by first | exact .inl rfl | exact .inr rfl | assumption)) (@ao _ _ _ _ _ (@bh _ _ 4 _ _ _ _ gL.nd rfl (by first | exact Or.inl rfl | exact Or.inr rfl) (@ar _ _ _ _ _ _ _ _ _ (cM K rfl) rfl T.b_len PySem.boot_len (@paC _ _ _ _ _ (@pv _ 3 _ _ rfl (by first | exact Or.inl rfl | exact Or.inr (Or.inl rfl) | exact Or.inr (Or.inr rfl)) (by decide) (by decide)) ag rfl) (by decide) (by decide) rfl rfl) rfl (by first | exact .inl rfl | exact .inr rfl | assumption)) (@ao _ _ _ _ _ (@bh _ _ 5 _ _ _ _ gL.nd rfl (by first | exact Or.inl rfl | exact Or.inr rfl) (@aL _ _ _ _ _ _ _ _ _ _ C_law_order (hr.mono (by decide)) (@paC _ _ _ _ _ (@pv _ 0 _ _ rfl (by first | exact Or.inl rfl | exact Or.inr (Or.inl rfl) | exact Or.inr (Or.inr rfl)) (by decide) (by decide)) (@paC _ _ _ _ _ (@pv _ 4 _ _ rfl (by first | exact Or.inl rfl | exact Or.inr (Or.inl rfl) | exact Or.inr (Or.inr rfl)) (by decide) (by decide)) ag rfl) rfl) rfl (by decide) rfl rfl) rfl (by first | exact .inl rfl | exact .inr rfl | assumption)) (@ao _ _ _ _ _ (@bh _ _ 6 _ _ _ _ gL.nd rfl (by first | exact Or.inl rfl | exact Or.inr rfl) (@aL _ _ _ _ _ _ _ _ _ _ C_law_spoiled (hr.mono (by decide)) (@paC _ _ _ _ _ (@pv _ 0 _ _ rfl (by first | exact Or.inl rfl | exact Or.inr (Or.inl rfl) | exact Or.inr (Or.inr rfl)) (by decide) (by decide)) (@paC _ _ _ _ _ (@pv _ 5 _ _ rfl (by first | exact Or.inl rfl | exact Or.inr (Or.inl rfl) | exact Or.inr (Or.inr rfl)) (by decide) (by decide)) ag rfl) rfl) rfl (by decide) rfl rfl) rfl (by first | exact .inl rfl | exact .inr rfl | assumption)) (@ao _ _ _ _ _ (@dX _ _ _ _ _ _ _ _ (PW.pt (@mU _ _ _ _ _ _ _ (@a9 _ _ _ _ _ _ _ _ qE (@aL _ _ _ _ _ _ _ _ _ _ C_is_order (hr.mono (by decide)) (@paC _ _ _ _ _ (@pv _ 5 _ _ rfl (by first | exact Or.inl rfl | exact Or.inr (Or.inl rfl) | exact Or.inr (Or.inr rfl)) (by decide) (by decide)) (@paC _ _ _ _ _ (@pv _ 4 _ _ rfl (by first | exact Or.inl rfl | exact Or.inr (Or.inl rfl) | exact Or.inr (Or.inr rfl)) (by decide) (by decide)) ag rfl) rfl) rfl (by decide) rfl rfl) gu (bx _)) (@jN _ _ _ _ (@a9 _ _ _ _ _ _ _ _ qE (@aL _ _ _ _ _ _ _ _ _ _ C_is_order (hr.mono (by decide)) (@paC _ _ _ _ _ (@bq _ _ _ _ _ _ _ _ _ (eI K rfl) rfl T.b_tuple boot_tuple (@paC _ _ _ _ _ (@pv _ 5 _ _ rfl (by first | exact Or.inl rfl | exact Or.inr (Or.inl rfl) | exact Or.inr (Or.inr rfl)) (by decide) (by decide)) ag rfl) (by decide) (by decide) rfl rfl) (@paC _ _ _ _ _ (@pv _ 4 _ _ rfl (by first | exact Or.inl rfl | exact Or.inr (Or.inl rfl) | exact Or.inr (Or.inr rfl)) (by decide) (by decide)) ag rfl) rfl) rfl (by decide) rfl rfl) gu (bx _))))) (@au _ _ _ (@bd _ _ _ _ gu)) bE) (@ao _ _ _ _ _ (@fX _ _ _ _ _ _ _ _ PassesOwn.never rfl (@dS _ _ K rfl _ _ (@eh _ _ _ _ (@paC _ _ _ _ _ (@pv _ 6 _ _ rfl (by first | exact Or.inl rfl | exact Or.inr (Or.inl rfl) | exact Or.inr (Or.inr rfl)) (by decide) (by decide)) (@paC _ _ _ _ _ (@bq _ _ _ _ _ _ _ _ _ (eI K rfl) rfl T.b_tuple boot_tuple (@paC _ _ _ _ _ (@pv _ 6 _ _ rfl (by first | exact Or.inl rfl | exact Or.inr (Or.inl rfl) | exact Or.inr (Or.inr rfl)) (by decide) (by decide)) ag rfl) (by decide) (by decide) rfl rfl) (@paC _ _ _ _ _ yv (@paC _ _ _ _ _ gu (@paC _ _ _ _ _ (@cE _ _ _ ([48,49]) _ (by decide +kernel)) (@paC _ _ _ _ _ (@uU _ _ _ _ _ (@nh _ _ _ _ _ _ (tC (kV (Sum.inl 0))) _ _ aA aA uT) rfl rfl (by intro z;cases z) (by decide)) (@paC _ _ _ _ _ (@pv _ 4 _ _ rfl (by first | exact Or.inl rfl | exact Or.inr (Or.inl rfl) | exact Or.inr (Or.inr rfl)) (by decide) (by decide)) (@paC _ _ _ _ _ (@bG _ _ _ _ _ _ _ _ (de K rfl) (@pv _ 5 _ _ rfl (by first | exact Or.inl rfl | exact Or.inr (Or.inl rfl) | exact Or.inr (Or.inr rfl)) (by decide) (by decide)) (@eh _ _ _ _ (@paC _ _ _ _ _ (@pv _ 4 _ _ rfl (by first | exact Or.inl rfl | exact Or.inr (Or.inl rfl) | exact Or.inr (Or.inr rfl)) (by decide) (by decide)) ag rfl))) ag rfl) rfl) rfl) rfl) rfl) rfl) rfl) rfl))) (@aT _ _ 7 _ gL.nd rfl (by first | exact Or.inl rfl | exact Or.inr rfl) (by first | exact .inl rfl | exact .inr rfl | assumption)) (@au _ _ _ (@dX _ _ _ _ _ _ _ _ (@a9 _ _ _ _ _ _ _ _ qE (@aL _ _ _ _ _ _ _ _ _ _ C_is_order (hr.mono (by decide)) (@paC _ _ _ _ _ (@pv _ 7 _ _ rfl (by first | exact Or.inl rfl | exact Or.inr (Or.inl rfl) | exact Or.inr (Or.inr rfl)) (by decide) (by decide)) (@paC _ _ _ _ _ (@pv _ 4 _ _ rfl (by first | exact Or.inl rfl | exact Or.inr (Or.inl rfl) | exact Or.inr (Or.inr rfl)) (by decide) (by decide)) ag rfl) rfl) rfl (by decide) rfl rfl) gu (bx _)) (@au _ _ _ (@bd _ _ _ _ gu)) bE)) (fun _=>rfl)) (@ao _ _ _ _ _ (@bh _ _ 8 _ _ _ _ gL.nd rfl (by first | exact Or.inl rfl | exact Or.inr rfl) (@sm _ _ _ _ _ _ _ _ _ _ _ C_Family_init (hr.mono (by decide)) (@paC _ _ _ _ _ (@eh _ _ _ _ ag) ag rfl) rfl (by decide) rfl rfl) rfl (by first | exact .inl rfl | exact .inr rfl | assumption)) (@ao _ _ _ _ _ (@dX _ _ _ _ _ _ _ _ (PW.pt (@mU _ _ _ _ _ _ _ (@a9 _ _ _ _ _ _ _ _ (pJ K rfl hu) (@ef _ _ _ _ _ _ _ _ _ _ _ C_text_of (hr.mono (by decide)) px0 (@paC _ _ _ _ _ (@pv _ 8 _ _ rfl (by first | exact Or.inl rfl | exact Or.inr (Or.inl rfl) | exact Or.inr (Or.inr rfl)) (by decide) (by decide)) (@paC _ _ _ _ _ (@eh _ _ _ _ ag) ag rfl) rfl) rfl (by decide) rfl rfl) (@cE _ _ _ [] _ (by decide +kernel)) (bx _)) (@mU _ _ _ _ _ _ _ (@a9 _ _ _ _ _ _ _ _ (pJ K rfl hu) (@ef _ _ _ _ _ _ _ _ _ _ _ C_starts_of (hr.mono (by decide)) px0 (@paC _ _ _ _ _ (@pv _ 8 _ _ rfl (by first | exact Or.inl rfl | exact Or.inr (Or.inl rfl) | exact Or.inr (Or.inr rfl)) (by decide) (by decide)) (@paC _ _ _ _ _ (@oJ _ _ _ _ _ ag) ag rfl) rfl) rfl (by decide) rfl rfl) (@oJ _ _ _ _ _ ag) (bx _)) (@jN _ _ _ _ (@iY _ _ _ _ (@eL _ _ _ (@aL _ _ _ _ _ _ _ _ _ _ C_law_number (hr.mono (by decide)) (@paC _ _ _ _ _ (@ef _ _ _ _ _ _ _ _ _ _ _ C_saved (hr.mono (by decide)) px0 (@paC _ _ _ _ _ (@pv _ 8 _ _ rfl (by first | exact Or.inl rfl | exact Or.inr (Or.inl rfl) | exact Or.inr (Or.inr rfl)) (by decide) (by decide)) (@paC _ _ _ _ _ (@eh _ _ _ _ ag) ag rfl) rfl) rfl (by decide) rfl rfl) (@paC _ _ _ _ _ aA ag rfl) rfl) rfl (by decide) rfl rfl) rfl)))))) (@au _ _ _ (@bd _ _ _ _ gu)) bE) (@ao _ _ _ _ _ (@bh _ _ 9 _ _ _ _ gL.nd rfl (by first | exact Or.inl rfl | exact Or.inr rfl) (@bq _ _ _ _ _ _ _ _ _ (yQ K rfl) rfl T.b_list boot_list (@paC _ _ _ _ _ (@pv _ 5 _ _ rfl (by first | exact Or.inl rfl | exact Or.inr (Or.inl rfl) | exact Or.inr (Or.inr rfl)) (by decide) (by decide)) ag rfl) (by decide) (by decide) rfl rfl) rfl (by first | exact .inl rfl | exact .inr rfl | assumption)) (@ao _ _ _ _ _ (@bh _ _ 10 _ _ _ _ gL.nd rfl (by first | exact Or.inl rfl | exact Or.inr rfl) (@cR _ _ _ _ _ _ _ (ic K rfl) (@eh _ _ _ _ (@paC _ _ _ _ _ (@pv _ 6 _ _ rfl (by first | exact Or.inl rfl | exact Or.inr (Or.inl rfl) | exact Or.inr (Or.inr rfl)) (by decide) (by decide)) (@paC _ _ _ _ _ (@bq _ _ _ _ _ _ _ _ _ (eI K rfl) rfl T.b_tuple boot_tuple (@paC _ _ _ _ _ (@pv _ 6 _ _ rfl (by first | exact Or.inl rfl | exact Or.inr (Or.inl rfl) | exact Or.inr (Or.inr rfl)) (by decide) (by decide)) ag rfl) (by decide) (by decide) rfl rfl) (@paC _ _ _ _ _ yv (@paC _ _ _ _ _ gu (@paC _ _ _ _ _ (@cE _ _ _ ([48,49]) _ (by decide +kernel)) (@paC _ _ _ _ _ (@uU _ _ _ _ _ (@nh _ _ _ _ _ _ (tC (kV (Sum.inl 0))) _ _ aA aA (@nh _ _ _ _ _ _ (tC (kV (Sum.inl 1))) _ _ aA aA uT)) rfl rfl (by intro z;cases z) (by decide)) (@paC _ _ _ _ _ (@pv _ 4 _ _ rfl (by first | exact Or.inl rfl | exact Or.inr (Or.inl rfl) | exact Or.inr (Or.inr rfl)) (by decide) (by decide)) ag rfl) rfl) rfl) rfl) rfl) rfl) rfl)) (@aL _ _ _ _ _ _ _ _ _ _ C_law_draw (hr.mono (by decide)) (@paC _ _ _ _ _ (@pv _ 0 _ _ rfl (by first | exact Or.inl rfl | exact Or.inr (Or.inl rfl) | exact Or.inr (Or.inr rfl)) (by decide) (by decide)) (@paC _ _ _ _ _ aA (@paC _ _ _ _ _ aA ag rfl) rfl) rfl) rfl (by decide) rfl rfl) (fun _ _=>rfl)) rfl (by first | exact .inl rfl | exact .inr rfl | assumption)) (@ao _ _ _ _ _ (@dX _ _ _ _ _ _ _ _ (PW.pt (@mU _ _ _ _ _ _ _ (@iY _ _ _ _ (@eL _ _ _ (@aL _ _ _ _ _ _ _ _ _ _ C_law_told (hr.mono (by decide)) (@paC _ _ _ _ _ (@pv _ 2 _ _ rfl (by first | exact Or.inl rfl | exact Or.inr (Or.inl rfl) | exact Or.inr (Or.inr rfl)) (by decide) (by decide)) (@paC _ _ _ _ _ (@pv _ 3 _ _ rfl (by first | exact Or.inl rfl | exact Or.inr (Or.inl rfl) | exact Or.inr (Or.inr rfl)) (by decide) (by decide)) (@paC _ _ _ _ _ (@pv _ 5 _ _ rfl (by first | exact Or.inl rfl | exact Or.inr (Or.inl rfl) | exact Or.inr (Or.inr rfl)) (by decide) (by decide)) ag rfl) rfl) rfl) rfl (by decide) rfl rfl) rfl)) (@jN _ _ _ _ (@a9 _ _ _ _ _ _ _ _ (pJ K rfl hu) (@aL _ _ _ _ _ _ _ _ _ _ C_law_refusals (hr.mono (by decide)) (@paC _ _ _ _ _ (@pv _ 2 _ _ rfl (by first | exact Or.inl rfl | exact Or.inr (Or.inl rfl) | exact Or.inr (Or.inr rfl)) (by decide) (by decide)) (@paC _ _ _ _ _ (@pv _ 10 _ _ rfl (by first | exact Or.inl rfl | exact Or.inr (Or.inl rfl) | exact Or.inr (Or.inr rfl)) (by decide) (by decide)) ag rfl) rfl) rfl (by decide) rfl rfl) (@eh _ _ _ _ (@paC _ _ _ _ _ gu (@paC _ _ _ _ _ gu (@paC _ _ _ _ _ gu ag rfl) rfl) rfl)) (bx _))))) (@au _ _ _ (@bd _ _ _ _ gu)) bE) (@au _ _ _ (@bd _ _ _ _ (@gy _ _ _ _ _ _ _ (@aL _ _ _ _ _ _ _ _ _ _ C_law_told (hr.mono (by decide)) (@paC _ _ _ _ _ (@pv _ 2 _ _ rfl (by first | exact Or.inl rfl | exact Or.inr (Or.inl rfl) | exact Or.inr (Or.inr rfl)) (by decide) (by decide)) (@paC _ _ _ _ _ (@pv _ 3 _ _ rfl (by first | exact Or.inl rfl | exact Or.inr (Or.inl rfl) | exact Or.inr (Or.inr rfl)) (by decide) (by decide)) (@paC _ _ _ _ _ (@bq _ _ _ _ _ _ _ _ _ (eI K rfl) rfl T.b_tuple boot_tuple (@paC _ _ _ _ _ (A5 K rfl (@pv _ 5 _ _ rfl (by first | exact Or.inl rfl | exact Or.inr (Or.inl rfl) | exact Or.inr (Or.inr rfl)) (by decide) (by decide)) (@wT _ _ _ _ _ _ rN aA)) ag rfl) (by decide) (by decide) rfl rfl) ag rfl) rfl) rfl) rfl (by decide) rfl rfl) (@gy _ _ _ _ _ _ _ (@aL _ _ _ _ _ _ _ _ _ _ C_law_told (hr.mono (by decide)) (@paC _ _ _ _ _ (@pv _ 2 _ _ rfl (by first | exact Or.inl rfl | exact Or.inr (Or.inl rfl) | exact Or.inr (Or.inr rfl)) (by decide) (by decide)) (@paC _ _ _ _ _ (@pv _ 3 _ _ rfl (by first | exact Or.inl rfl | exact Or.inr (Or.inl rfl) | exact Or.inr (Or.inr rfl)) (by decide) (by decide)) (@paC _ _ _ _ _ (@pv _ 5 _ _ rfl (by first | exact Or.inl rfl | exact Or.inr (Or.inl rfl) | exact Or.inr (Or.inr rfl)) (by decide) (by decide)) ag rfl) rfl) rfl) rfl (by decide) rfl rfl) (@kf _ _ _ _ _ (@iI _ _ _ _ _ _ _ _ (jh K rfl hu) (@pv _ 5 _ _ rfl (by first | exact Or.inl rfl | exact Or.inr (Or.inl rfl) | exact Or.inr (Or.inr rfl)) (by decide) (by decide)) (@pv _ 9 _ _ rfl (by first | exact Or.inl rfl | exact Or.inr (Or.inl rfl) | exact Or.inr (Or.inr rfl)) (by decide) (by decide)) (bx _)))))))))))))))))))),fnP (K:=K) (c:=sH) (ps:=sJ) (N:=["_law_script","_law_pieces_here","_law_family","_law_words","_law_many","_law_order_here","_law_wrong","_law_thing","_law_none","_law_held","_law_strange"]) (aD (a8 (aE (c:=bz) (aa (ae (al (i:=0))) (aa (ae le_int) af))) (aI (i:=1) rfl)) (aD (a8 (vn (aa (ae (al (i:=1))) af)) (aI (i:=2) rfl)) (aD (a8 (cG (ix:=[none,some 1]) rfl (dU (aE (c:=bI) (aa (ae (al (i:=1))) af))) (fun fs hc=>(aH (i:=0) (oB hc (by decide)))) fZ (aB cS (aq (i:=1)) (aq (i:=0)))) (aI (i:=3) rfl)) (aD (a8 (bt bB (aa (aq (i:=3)) af)) (aI (i:=4) rfl)) (aD (a8 (aE (c:=bF) (aa (ae (al (i:=0))) (aa (ae (al (i:=4))) af))) (aI (i:=5) rfl)) (aD (a8 (aE (c:=bo) (aa (ae (al (i:=0))) (aa (ae (al (i:=5))) af))) (aI (i:=6) rfl)) (aD (et (nq (gX (aB Ah (ae (aE (c:=aY) (aa (ae (al (i:=5))) (aa (ae (al (i:=4))) af)))) (ae gA))) (gX (aB Ah (ae (aE (c:=aY) (aa (ae (bt dr (aa (aq (i:=5)) af))) (aa (ae (al (i:=4))) af)))) (ae gA)))) (bf gA) bR) (aD (gC (dU (ei (aa (ae (al (i:=6))) (aa (ae (bt dr (aa (aq (i:=6)) af))) (aa (ae yK) (aa (ae gA) (aa (ae (le_str (l:=[48,49]))) (aa (ae (wt (by first | exact List.nodup_singleton _ | decide) (by decide) (nW (Sum.inl 0) (ae le_int) wq))) (aa (ae (al (i:=4))) (aa (ae (aB bZ (aq (i:=5)) (ae (ei (aa (ae (al (i:=4))) af))))) af)))))))))) (aH (i:=7) rfl) (et (gX (aB Ah (ae (aE (c:=aY) (aa (ae (al (i:=7))) (aa (ae (al (i:=4))) af)))) (ae gA))) (bf gA) bR)) (aD (a8 (vn (aa (ae (ei af)) af)) (aI (i:=8) rfl)) (aD (et (nq (gX (aB jS (ae (hG (c:=br) (aa (ae (al (i:=8))) (aa (ae (ei af)) af)))) (ae (le_str (l:=[]))))) (nq (gX (aB jS (ae (hG (c:=aW) (aa (ae (al (i:=8))) (aa (ae (r8 af)) af)))) (ae (r8 af)))) (je (tX (aE (c:=aS) (aa (ae (hG (c:=bY) (aa (ae (al (i:=8))) (aa (ae (ei af)) af)))) (aa (ae le_int) af))))))) (bf gA) bR) (aD (a8 (bt vj (aa (aq (i:=5)) af)) (aI (i:=9) rfl)) (aD (a8 (aB cS (ae (ei (aa (ae (al (i:=6))) (aa (ae (bt dr (aa (aq (i:=6)) af))) (aa (ae yK) (aa (ae gA) (aa (ae (le_str (l:=[48,49]))) (aa (ae (wt (by first | exact List.nodup_singleton _ | decide) (by decide) (nW (Sum.inl 0) (ae le_int) (nW (Sum.inl 1) (ae le_int) wq)))) (aa (ae (al (i:=4))) af))))))))) (ae (aE (c:=aC) (aa (ae (al (i:=0))) (aa (ae le_int) (aa (ae le_int) af)))))) (aI (i:=10) rfl)) (aD (et (nq (je (tX (aE (c:=bp) (aa (ae (al (i:=2))) (aa (ae (al (i:=3))) (aa (ae (al (i:=5))) af)))))) (gX (aB jS (ae (aE (c:=bc) (aa (ae (al (i:=2))) (aa (ae (al (i:=10))) af)))) (ae (ei (aa (ae gA) (aa (ae gA) (aa (ae gA) af)))))))) (bf gA) bR) (bf (gB (aE (c:=bp) (aa (ae (al (i:=2))) (aa (ae (al (i:=3))) (aa (ae (bt dr (aa (ae (A6 (aq (i:=5)) (xz sf (ae le_int)))) af))) af)))) (gB (aE (c:=bp) (aa (ae (al (i:=2))) (aa (ae (al (i:=3))) (aa (ae (al (i:=5))) af)))) (aB eY (aq (i:=5)) (aq (i:=9))))))))))))))))))) (fun ds Q h=>Nat.le_trans (Nat.le_of_eq (zk ds Q h)) (by decide)) Dc h⟩
end
theorem Df {l:PySem.W.OpenLaw}{w:World}{K:PySem.W.Frag}{h:Heap}{mg:Str->Option Value}{fa:Addr} (X:K.In h) (G:h.Ns mainGlobals mg) (hfa:mg "law"=some (.ref fa))
  {C_Family:Addr} (aC_Family:PySem.W.nsIn K mainGlobals "Family"=some (some (.ref C_Family))) (pg_Family:PySem.W.plainGet K C_Family Str.empty=true) (hd_Family:PySem.W.hasDictIn K C_Family=true) (po_Family:PySem.W.plainOver K C_Family=true) (sa_Family:PySem.W.findIn K (.ref C_Family) "__setattr__"=some (some (.builtin "object.__setattr__"))) (mk_Family:PySem.W.makesIn K C_Family=true) (kc_Family:PySem.W.keepIn K (.ref C_Family)=true)
  (n_Family_pieces:PySem.W.findIn K (.ref C_Family) "pieces"=some none)
  (n_Family_kept:PySem.W.findIn K (.ref C_Family) "kept"=some none)
  (n_Family_words:PySem.W.findIn K (.ref C_Family) "words"=some none)
  (n_Family_left:PySem.W.findIn K (.ref C_Family) "left"=some none)
  (n_Family_laps:PySem.W.findIn K (.ref C_Family) "laps"=some none)
  (n_Family_total:PySem.W.findIn K (.ref C_Family) "total"=some none)
  {C_GlueError:Addr} (aC_GlueError:PySem.W.nsIn K mainGlobals "GlueError"=some (some (.ref C_GlueError))) {q_GlueError:Str}{N_GlueError:Addr}{bs_GlueError sub_GlueError:List Value}{sn_GlueError:List Str}{ab_GlueError:Bool}{col_GlueError:Option Bool}{k0_GlueError k1_GlueError k2_GlueError k3_GlueError k5_GlueError:Option Value} (lC_GlueError:K.lookup C_GlueError=some (excClassObj "GlueError" q_GlueError C_GlueError N_GlueError bs_GlueError [.type "ValueError",.type "Exception",.type "BaseException",.type "object"] true sn_GlueError sub_GlueError ab_GlueError col_GlueError none k0_GlueError k1_GlueError k2_GlueError k3_GlueError k5_GlueError "ValueError.__new__")) (xq_GlueError:PySem.W.excIn K C_GlueError [.type "ValueError",.type "Exception",.type "BaseException",.type "object"] "ValueError.__new__"=true)
  {C_TooMany:Addr} (aC_TooMany:PySem.W.nsIn K mainGlobals "TooMany"=some (some (.ref C_TooMany))) {q_TooMany:Str}{N_TooMany:Addr}{bs_TooMany sub_TooMany:List Value}{sn_TooMany:List Str}{ab_TooMany:Bool}{col_TooMany:Option Bool}{k0_TooMany k1_TooMany k2_TooMany k3_TooMany k5_TooMany:Option Value} (lC_TooMany:K.lookup C_TooMany=some (excClassObj "TooMany" q_TooMany C_TooMany N_TooMany bs_TooMany (.ref C_GlueError::[.type "ValueError",.type "Exception",.type "BaseException",.type "object"]) true sn_TooMany sub_TooMany ab_TooMany col_TooMany none k0_TooMany k1_TooMany k2_TooMany k3_TooMany k5_TooMany "ValueError.__new__")) (ga_TooMany:PySem.W.findIn K (.ref C_TooMany) "__getattribute__"=some (some (.builtin "BaseException.__getattribute__"))) (gh_TooMany:PySem.W.findIn K (.ref C_TooMany) "__getattr__"=some none) (sa_TooMany:PySem.W.findIn K (.ref C_TooMany) "__setattr__"=some (some (.builtin "object.__setattr__"))) (cl_TooMany:PySem.W.findIn K (.ref C_TooMany) "__class__"=some (some (.builtin "object.__class__"))) (kc_TooMany:PySem.W.keepIn K (.ref C_TooMany)=true)
  {fx_TooMany:Addr}{xoc_TooMany xkV_TooMany xdc_TooMany xpm_TooMany xcd_TooMany xct_TooMany:Value}{xod_TooMany xan_TooMany:Option Addr}{xsl_TooMany:Array (Option Value)} (xi_TooMany:PySem.W.findIn K (.ref C_TooMany) "__init__"=some (some (.ref fx_TooMany))) (xt_TooMany:PySem.W.typeIn K (.ref fx_TooMany)=some (.type "function")) (xl_TooMany:K.lookup fx_TooMany=some ⟨xoc_TooMany,xod_TooMany,.func (PySem.W.fnOf "__init__" "TooMany.__init__" (bP cW) (bv cW) (ap cW) .none xkV_TooMany xdc_TooMany xpm_TooMany xan_TooMany xcd_TooMany xct_TooMany),xsl_TooMany⟩) (xc0_TooMany:PySem.W.codeIn K xcd_TooMany "TooMany.__init__"=true) (xk_TooMany:PySem.W.keepIn K (.ref fx_TooMany)=true) (xn_TooMany:PySem.W.findIn K (.ref C_TooMany) "most"=some none)
  {C_NoPiece:Addr} (aC_NoPiece:PySem.W.nsIn K mainGlobals "NoPiece"=some (some (.ref C_NoPiece))) {q_NoPiece:Str}{N_NoPiece:Addr}{bs_NoPiece sub_NoPiece:List Value}{sn_NoPiece:List Str}{ab_NoPiece:Bool}{col_NoPiece:Option Bool}{k0_NoPiece k1_NoPiece k2_NoPiece k3_NoPiece k5_NoPiece:Option Value} (lC_NoPiece:K.lookup C_NoPiece=some (excClassObj "NoPiece" q_NoPiece C_NoPiece N_NoPiece bs_NoPiece (.ref C_GlueError::[.type "ValueError",.type "Exception",.type "BaseException",.type "object"]) true sn_NoPiece sub_NoPiece ab_NoPiece col_NoPiece none k0_NoPiece k1_NoPiece k2_NoPiece k3_NoPiece k5_NoPiece "ValueError.__new__")) (ga_NoPiece:PySem.W.findIn K (.ref C_NoPiece) "__getattribute__"=some (some (.builtin "BaseException.__getattribute__"))) (gh_NoPiece:PySem.W.findIn K (.ref C_NoPiece) "__getattr__"=some none) (sa_NoPiece:PySem.W.findIn K (.ref C_NoPiece) "__setattr__"=some (some (.builtin "object.__setattr__"))) (cl_NoPiece:PySem.W.findIn K (.ref C_NoPiece) "__class__"=some (some (.builtin "object.__class__"))) (kc_NoPiece:PySem.W.keepIn K (.ref C_NoPiece)=true)
  {fx_NoPiece:Addr}{xoc_NoPiece xkV_NoPiece xdc_NoPiece xpm_NoPiece xcd_NoPiece xct_NoPiece:Value}{xod_NoPiece xan_NoPiece:Option Addr}{xsl_NoPiece:Array (Option Value)} (xi_NoPiece:PySem.W.findIn K (.ref C_NoPiece) "__init__"=some (some (.ref fx_NoPiece))) (xt_NoPiece:PySem.W.typeIn K (.ref fx_NoPiece)=some (.type "function")) (xl_NoPiece:K.lookup fx_NoPiece=some ⟨xoc_NoPiece,xod_NoPiece,.func (PySem.W.fnOf "__init__" "NoPiece.__init__" (bP cX) (bv cX) (ap cX) .none xkV_NoPiece xdc_NoPiece xpm_NoPiece xan_NoPiece xcd_NoPiece xct_NoPiece),xsl_NoPiece⟩) (xc0_NoPiece:PySem.W.codeIn K xcd_NoPiece "NoPiece.__init__"=true) (xk_NoPiece:PySem.W.keepIn K (.ref fx_NoPiece)=true) (xn_NoPiece:PySem.W.findIn K (.ref C_NoPiece) "at"=some none)
  {C_NoLap:Addr} (aC_NoLap:PySem.W.nsIn K mainGlobals "NoLap"=some (some (.ref C_NoLap))) {q_NoLap:Str}{N_NoLap:Addr}{bs_NoLap sub_NoLap:List Value}{sn_NoLap:List Str}{ab_NoLap:Bool}{col_NoLap:Option Bool}{k0_NoLap k1_NoLap k2_NoLap k3_NoLap k5_NoLap:Option Value} (lC_NoLap:K.lookup C_NoLap=some (excClassObj "NoLap" q_NoLap C_NoLap N_NoLap bs_NoLap (.ref C_GlueError::[.type "ValueError",.type "Exception",.type "BaseException",.type "object"]) true sn_NoLap sub_NoLap ab_NoLap col_NoLap none k0_NoLap k1_NoLap k2_NoLap k3_NoLap k5_NoLap "ValueError.__new__")) (ga_NoLap:PySem.W.findIn K (.ref C_NoLap) "__getattribute__"=some (some (.builtin "BaseException.__getattribute__"))) (gh_NoLap:PySem.W.findIn K (.ref C_NoLap) "__getattr__"=some none) (sa_NoLap:PySem.W.findIn K (.ref C_NoLap) "__setattr__"=some (some (.builtin "object.__setattr__"))) (cl_NoLap:PySem.W.findIn K (.ref C_NoLap) "__class__"=some (some (.builtin "object.__class__"))) (kc_NoLap:PySem.W.keepIn K (.ref C_NoLap)=true)
  {fx_NoLap:Addr}{xoc_NoLap xkV_NoLap xdc_NoLap xpm_NoLap xcd_NoLap xct_NoLap:Value}{xod_NoLap xan_NoLap:Option Addr}{xsl_NoLap:Array (Option Value)} (xi_NoLap:PySem.W.findIn K (.ref C_NoLap) "__init__"=some (some (.ref fx_NoLap))) (xt_NoLap:PySem.W.typeIn K (.ref fx_NoLap)=some (.type "function")) (xl_NoLap:K.lookup fx_NoLap=some ⟨xoc_NoLap,xod_NoLap,.func (PySem.W.fnOf "__init__" "NoLap.__init__" (bP dW) (bv dW) (ap dW) .none xkV_NoLap xdc_NoLap xpm_NoLap xan_NoLap xcd_NoLap xct_NoLap),xsl_NoLap⟩) (xc0_NoLap:PySem.W.codeIn K xcd_NoLap "NoLap.__init__"=true) (xk_NoLap:PySem.W.keepIn K (.ref fx_NoLap)=true) (xn_NoLap:PySem.W.findIn K (.ref C_NoLap) "k"=some none)
  {C_NoOrder:Addr} (aC_NoOrder:PySem.W.nsIn K mainGlobals "NoOrder"=some (some (.ref C_NoOrder))) {q_NoOrder:Str}{N_NoOrder:Addr}{bs_NoOrder sub_NoOrder:List Value}{sn_NoOrder:List Str}{ab_NoOrder:Bool}{col_NoOrder:Option Bool}{k0_NoOrder k1_NoOrder k2_NoOrder k3_NoOrder k5_NoOrder:Option Value} (lC_NoOrder:K.lookup C_NoOrder=some (excClassObj "NoOrder" q_NoOrder C_NoOrder N_NoOrder bs_NoOrder (.ref C_GlueError::[.type "ValueError",.type "Exception",.type "BaseException",.type "object"]) true sn_NoOrder sub_NoOrder ab_NoOrder col_NoOrder none k0_NoOrder k1_NoOrder k2_NoOrder k3_NoOrder k5_NoOrder "ValueError.__new__")) (ga_NoOrder:PySem.W.findIn K (.ref C_NoOrder) "__getattribute__"=some (some (.builtin "BaseException.__getattribute__"))) (gh_NoOrder:PySem.W.findIn K (.ref C_NoOrder) "__getattr__"=some none) (sa_NoOrder:PySem.W.findIn K (.ref C_NoOrder) "__setattr__"=some (some (.builtin "object.__setattr__"))) (cl_NoOrder:PySem.W.findIn K (.ref C_NoOrder) "__class__"=some (some (.builtin "object.__class__"))) (kc_NoOrder:PySem.W.keepIn K (.ref C_NoOrder)=true)
  (xq_NoOrder:PySem.W.excIn K C_NoOrder [.type "ValueError",.type "Exception",.type "BaseException",.type "object"] "ValueError.__new__"=true)
  (d1:iP K "is_row" nX)
  (d2:iP K "is_number" iQ)
  (d3:iP K "glue_all" jE)
  {f4:Addr}{oc4 kV4 dc4 pm4 cd4 ct4:Value}{od4 an4 dd4:Option Addr}{sl4 st4:Array (Option Value)}{dT4:Addr}{n4:Nat}{u4_0 u4_1:Tok} (a4:PySem.W.nsIn K mainGlobals "is_text"=some (some (.ref f4))) (l4:K.lookup f4=some ⟨oc4,od4,.func (PySem.W.fnOf "is_text" "is_text" (bP fu) (bv fu) (ap fu) (.ref dT4) kV4 dc4 pm4 an4 cd4 ct4),sl4⟩) (c4:PySem.W.codeIn K cd4 "is_text"=true) (k4:PySem.W.keepIn K (.ref f4)=true) (t4:K.lookup dT4=some ⟨.type "tuple",dd4,.seq [.int 0 u4_0,.int 4000 u4_1].toArray n4,st4⟩)
  (d5:iP K "first_place" fL)
  (d6:iP K "lap" A7)
  {f7:Addr}{oc7 kV7 dc7 pm7 cd7 ct7:Value}{od7 an7:Option Addr}{sl7:Array (Option Value)} (a7:PySem.W.findIn K (.ref C_Family) "many"=some (some (.ref f7))) (i7:PySem.W.isFn K (.ref f7)=true) (l7:K.lookup f7=some ⟨oc7,od7,.func (PySem.W.fnOf "many" "Family.many" (bP cq) (bv cq) (ap cq) .none kV7 dc7 pm7 an7 cd7 ct7),sl7⟩) (c7:PySem.W.codeIn K cd7 "Family.many"=true) (k7:PySem.W.keepIn K (.ref f7)=true)
  (d8:iP K "_law_cell" jH)
  (d9:iP K "_law_digit_pieces" dy)
  (d10:iP K "_law_lap" kU)
  (d11:iP K "_law_kept" jJ)
  (d12:iP K "_law_number" gJ)
  (d13:iP K "are_numbers" fJ)
  (d14:iP K "all_laps" jF)
  (d15:iP K "check_pieces" fh)
  (d16:iP K "stands_within" eN)
  (d17:iP K "_law_draw" jI)
  (d18:iP K "_law_due" kW)
  (d19:iP K "is_order" jD)
  (d20:iP K "is_kept" kT)
  (d21:iP K "left_row" jG)
  (d22:iP K "_law_pieces" gI)
  (d23:iP K "_law_order" iS)
  (d24:iP K "_law_spoiled" fM)
  (d25:iP K "check_order" fK)
  {f26:Addr}{oc26 kV26 dc26 pm26 cd26 ct26:Value}{od26 an26:Option Addr}{sl26:Array (Option Value)} (a26:PySem.W.findIn K (.ref C_Family) "__init__"=some (some (.ref f26))) (i26:PySem.W.isFn K (.ref f26)=true) (l26:K.lookup f26=some ⟨oc26,od26,.func (PySem.W.fnOf "__init__" "Family.__init__" (bP cp) (bv cp) (ap cp) .none kV26 dc26 pm26 an26 cd26 ct26),sl26⟩) (c26:PySem.W.codeIn K cd26 "Family.__init__"=true) (k26:PySem.W.keepIn K (.ref f26)=true)
  (d27:iP K "text_of" kS)
  (d28:iP K "starts_of" iR)
  (d29:iP K "saved" qV)
  (d30:iP K "_law_refusals" fi)
  (d31:iP K "_law_told" jK)
  (d32:iP K "law" yk)
  (z1:PySem.W.nsIn K mainGlobals "ValueError"=some none)
  (z2:PySem.W.nsIn K mainGlobals "abs"=some none)
  (z3:PySem.W.nsIn K mainGlobals "all"=some none)
  (z4:PySem.W.nsIn K mainGlobals "any"=some none)
  (z5:PySem.W.nsIn K mainGlobals "bool"=some none)
  (z6:PySem.W.nsIn K mainGlobals "enumerate"=some none)
  (z7:PySem.W.nsIn K mainGlobals "int"=some none)
  (z8:PySem.W.nsIn K mainGlobals "isinstance"=some none)
  (z9:PySem.W.nsIn K mainGlobals "len"=some none)
  (z10:PySem.W.nsIn K mainGlobals "list"=some none)
  (z11:PySem.W.nsIn K mainGlobals "min"=some none)
  (z12:PySem.W.nsIn K mainGlobals "range"=some none)
  (z13:PySem.W.nsIn K mainGlobals "sorted"=some none)
  (z14:PySem.W.nsIn K mainGlobals "str"=some none)
  (z15:PySem.W.nsIn K mainGlobals "sum"=some none)
  (z16:PySem.W.nsIn K mainGlobals "tuple"=some none)
  (z17:PySem.W.nsIn K mainGlobals "zip"=some none)
  {ty1:Tok} (y1:PySem.W.nsIn K mainGlobals "MOST_PIECES"=some (some (.int 40 ty1)))
  {ty2:Tok} (y2:PySem.W.nsIn K mainGlobals "MOST_SIGNS"=some (some (.int 60 ty2))) :
  ∃fd:FuncData,(∀(s:Shared) (v:Value),BindsTo s fd ⟨[v],[]⟩ [("_law_script",v)])/\∀base:Heap,K.In base->base.Ns mainGlobals mg->lH l.prog w K mg base CX0 7 fa fd ["_law_script"] (tf K):=by
 have eC_Family:=gW aC_Family
 have TC:TxC K:=⟨by rw [eC_Family];exact ⟨pg_Family,hd_Family,po_Family,sa_Family⟩,by show PySem.W.findIn K (.ref (aP K "Family")) "pieces"=some none;rw [eC_Family];exact n_Family_pieces,by show PySem.W.findIn K (.ref (aP K "Family")) "kept"=some none;rw [eC_Family];exact n_Family_kept,by show PySem.W.findIn K (.ref (aP K "Family")) "words"=some none;rw [eC_Family];exact n_Family_words,by show PySem.W.findIn K (.ref (aP K "Family")) "left"=some none;rw [eC_Family];exact n_Family_left,by show PySem.W.findIn K (.ref (aP K "Family")) "laps"=some none;rw [eC_Family];exact n_Family_laps,by show PySem.W.findIn K (.ref (aP K "Family")) "total"=some none;rw [eC_Family];exact n_Family_total⟩
 have eC_GlueError:=gW aC_GlueError
 have tl_:=AL xq_GlueError ⟨_,_,_,_,_,_,_,_,_,_,_,_,_,lC_GlueError⟩
 have eC_TooMany:=gW aC_TooMany
 have xc_TooMany:XC K C_TooMany C_GlueError:=⟨⟨_,_,_,_,_,_,_,_,_,_,_,_,_,lC_TooMany⟩,ga_TooMany,gh_TooMany,sa_TooMany,cl_TooMany⟩
 have eC_NoPiece:=gW aC_NoPiece
 have xc_NoPiece:XC K C_NoPiece C_GlueError:=⟨⟨_,_,_,_,_,_,_,_,_,_,_,_,_,lC_NoPiece⟩,ga_NoPiece,gh_NoPiece,sa_NoPiece,cl_NoPiece⟩
 have eC_NoLap:=gW aC_NoLap
 have xc_NoLap:XC K C_NoLap C_GlueError:=⟨⟨_,_,_,_,_,_,_,_,_,_,_,_,_,lC_NoLap⟩,ga_NoLap,gh_NoLap,sa_NoLap,cl_NoLap⟩
 have eC_NoOrder:=gW aC_NoOrder
 have xc_NoOrder:XC K C_NoOrder C_GlueError:=⟨⟨_,_,_,_,_,_,_,_,_,_,_,_,_,lC_NoOrder⟩,ga_NoOrder,gh_NoOrder,sa_NoOrder,cl_NoOrder⟩
 have TX:TxX K mg:=⟨⟨by rw [XCl,eC_GlueError];exact ⟨_,_,_,lC_GlueError,rfl⟩,fun c hc=>by
  simp only [xcs,List.mem_cons,List.not_mem_nil,or_false] at hc
  rcases hc with rfl | rfl | rfl | rfl
  .rw [XCl,eC_TooMany];exact ⟨_,_,_,lC_TooMany,rfl⟩
  .rw [XCl,eC_NoPiece];exact ⟨_,_,_,lC_NoPiece,rfl⟩
  .rw [XCl,eC_NoLap];exact ⟨_,_,_,lC_NoLap,rfl⟩
  .rw [XCl,eC_NoOrder];exact ⟨_,_,_,lC_NoOrder,rfl⟩,fun c hc=>by
  simp only [xcs,List.mem_cons,List.not_mem_nil,or_false] at hc
  rcases hc with rfl | rfl | rfl | rfl
  .rw [eC_TooMany,eC_GlueError];exact xc_TooMany
  .rw [eC_NoPiece,eC_GlueError];exact xc_NoPiece
  .rw [eC_NoLap,eC_GlueError];exact xc_NoLap
  .rw [eC_NoOrder,eC_GlueError];exact xc_NoOrder⟩,fun c g hc=>by
  simp only [Fp,List.mem_cons,List.not_mem_nil,or_false,Prod.mk.injEq] at hc
  rcases hc with ⟨rfl,rfl⟩ | ⟨rfl,rfl⟩ | ⟨rfl,rfl⟩
  .rw [eC_TooMany];exact xn_TooMany
  .rw [eC_NoPiece];exact xn_NoPiece
  .rw [eC_NoLap];exact xn_NoLap,by rw [eC_TooMany];exact PySem.W.mg_of X G aC_TooMany,by rw [eC_NoPiece];exact PySem.W.mg_of X G aC_NoPiece,by rw [eC_NoLap];exact PySem.W.mg_of X G aC_NoLap,by rw [eC_NoOrder];exact PySem.W.mg_of X G aC_NoOrder,by rw [eC_GlueError];exact PySem.W.mg_of X G aC_GlueError,by rw [eC_TooMany];exact ⟨_,_,_,_,_,_,_,_,_,_,_,_,_,_,_,_,_,lC_TooMany,rfl⟩,by rw [eC_NoPiece];exact ⟨_,_,_,_,_,_,_,_,_,_,_,_,_,_,_,_,_,lC_NoPiece,rfl⟩,by rw [eC_NoLap];exact ⟨_,_,_,_,_,_,_,_,_,_,_,_,_,_,_,_,_,lC_NoLap,rfl⟩,by rw [eC_NoOrder];exact ⟨_,_,_,_,_,_,_,_,_,_,_,_,_,_,_,_,_,lC_NoOrder,rfl⟩,by rw [eC_GlueError];exact ⟨_,_,_,_,_,_,_,_,_,_,_,_,_,_,_,_,_,lC_GlueError,rfl⟩,by rw [eC_NoOrder];exact CP xq_NoOrder,by rw [eC_NoOrder];exact kc_NoOrder⟩
 have D_is_row:=bM d1 X G
 have D_is_number:=bM d2 X G
 have D_glue_all:=bM d3 X G
 have D_is_text:rW K mg "is_text" fu [.int 0,.int 4000]:=⟨⟨f4,dT4,oc4,od4,an4,dd4,kV4,dc4,pm4,cd4,ct4,sl4,st4,[.int 0 u4_0,.int 4000 u4_1],n4,l4,c4,k4,PySem.W.mg_of X G a4,t4,(.cons ⟨_,rfl⟩ (.cons ⟨_,rfl⟩ .nil))⟩⟩
 have D_first_place:=bM d5 X G
 have D_lap:=bM d6 X G
 have D_Family_many:rY K (aP K "Family") "many" "Family.many" cq:=by rw [eC_Family];exact ⟨⟨f7,_,mh (st:=cq) l7 c7 k7,⟨a7,i7,k7⟩⟩⟩
 have D_law_cell:=bM d8 X G
 have D_law_digit_pieces:=bM d9 X G
 have D_law_lap:=bM d10 X G
 have D_law_kept:=bM d11 X G
 have D_law_number:=bM d12 X G
 have D_are_numbers:=bM d13 X G
 have D_all_laps:=bM d14 X G
 have D_check_pieces:=bM d15 X G
 have D_stands_within:=bM d16 X G
 have D_law_draw:=bM d17 X G
 have D_law_due:=bM d18 X G
 have D_is_order:=bM d19 X G
 have D_is_kept:=bM d20 X G
 have D_left_row:=bM d21 X G
 have D_law_pieces:=bM d22 X G
 have D_law_order:=bM d23 X G
 have D_law_spoiled:=bM d24 X G
 have D_check_order:=bM d25 X G
 have D_Family_init:rZ K mg (aP K "Family") "Family" "Family.__init__" cp:=by rw [eC_Family];exact ⟨⟨f26,_,mh (st:=cp) l26 c26 k26,⟨mk_Family,a26,i26,kc_Family⟩,PySem.W.mg_of X G aC_Family⟩⟩
 have D_text_of:=bM d27 X G
 have D_starts_of:=bM d28 X G
 have D_saved:=bM d29 X G
 have D_law_refusals:=bM d30 X G
 have D_law_told:=bM d31 X G
 have D_law:=bM d32 X G
 have T:Txt mg:=⟨PySem.W.mg_none_of X G z1,PySem.W.mg_none_of X G z2,PySem.W.mg_none_of X G z3,PySem.W.mg_none_of X G z4,PySem.W.mg_none_of X G z5,PySem.W.mg_none_of X G z6,PySem.W.mg_none_of X G z7,PySem.W.mg_none_of X G z8,PySem.W.mg_none_of X G z9,PySem.W.mg_none_of X G z10,PySem.W.mg_none_of X G z11,PySem.W.mg_none_of X G z12,PySem.W.mg_none_of X G z13,PySem.W.mg_none_of X G z14,PySem.W.mg_none_of X G z15,PySem.W.mg_none_of X G z16,PySem.W.mg_none_of X G z17,⟨_,PySem.W.mg_of X G y1⟩,⟨_,PySem.W.mg_of X G y2⟩⟩
 refine B5 (st:=yk) hfa D_law (fun _ _ _ _ _ _ s v=>.of_eq rfl) fun base=>?_
 have C_TooMany_init:Dq l.prog w K mg base 1 (aP K "TooMany") "TooMany" "most":=by
  rw [eC_TooMany]
  exact qQ (mh (st:=cW) xl_TooMany xc0_TooMany xk_TooMany) kY rfl (fun _ _ _ _ _ _ us hl=>match us,hl with | [_,_],_=>rfl) (fun cdv A outer s H E=>au (nP K rfl (pv 0) (pv 1) rfl)) ⟨xc_TooMany,tl_,xi_TooMany,xt_TooMany,kc_TooMany⟩ xn_TooMany (PySem.W.mg_of X G aC_TooMany)
 have C_NoPiece_init:Dq l.prog w K mg base 1 (aP K "NoPiece") "NoPiece" "at":=by
  rw [eC_NoPiece]
  exact qQ (mh (st:=cX) xl_NoPiece xc0_NoPiece xk_NoPiece) kZ rfl (fun _ _ _ _ _ _ us hl=>match us,hl with | [_,_],_=>rfl) (fun cdv A outer s H E=>au (nP K rfl (pv 0) (pv 1) rfl)) ⟨xc_NoPiece,tl_,xi_NoPiece,xt_NoPiece,kc_NoPiece⟩ xn_NoPiece (PySem.W.mg_of X G aC_NoPiece)
 have C_NoLap_init:Dq l.prog w K mg base 1 (aP K "NoLap") "NoLap" "k":=by
  rw [eC_NoLap]
  exact qQ (mh (st:=dW) xl_NoLap xc0_NoLap xk_NoLap) nZ rfl (fun _ _ _ _ _ _ us hl=>match us,hl with | [_,_],_=>rfl) (fun cdv A outer s H E=>au (nP K rfl (pv 0) (pv 1) rfl)) ⟨xc_NoLap,tl_,xi_NoLap,xt_NoLap,kc_NoLap⟩ xn_NoLap (PySem.W.mg_of X G aC_NoLap)
 have C_is_row:=wE (P:=l.prog) (w:=w) (base:=base) D_is_row T TC TX
 have C_is_number:=qg (P:=l.prog) (w:=w) (base:=base) D_is_number T TC TX
 have C_glue_all:=rC (P:=l.prog) (w:=w) (base:=base) D_glue_all T TC TX
 have C_is_text:=tS (P:=l.prog) (w:=w) (base:=base) D_is_text T TC TX
 have C_first_place:=l0 (P:=l.prog) (w:=w) (base:=base) D_first_place T TC TX
 have C_lap:=Dd (P:=l.prog) (w:=w) (base:=base) D_lap T TC TX
 have C_Family_many:=l6 (P:=l.prog) (w:=w) (base:=base) D_Family_many T TC TX
 have C_law_cell:=rF (P:=l.prog) (w:=w) (base:=base) D_law_cell T TC TX
 have C_law_digit_pieces:=iV (P:=l.prog) (w:=w) (base:=base) D_law_digit_pieces T TC TX
 have C_law_lap:=tU (P:=l.prog) (w:=w) (base:=base) D_law_lap T TC TX
 have C_law_kept:=rH (P:=l.prog) (w:=w) (base:=base) D_law_kept T TC TX
 have C_law_number:=ou (P:=l.prog) (w:=w) (base:=base) D_law_number T TC TX
 have C_are_numbers:=lY (P:=l.prog) (w:=w) (base:=base) D_are_numbers T TC TX C_is_number C_is_row
 have C_all_laps:=rD (P:=l.prog) (w:=w) (base:=base) D_all_laps T TC TX C_lap
 have C_check_pieces:=lA (P:=l.prog) (w:=w) (base:=base) D_check_pieces T TC TX C_is_text
 have C_stands_within:=j8 (P:=l.prog) (w:=w) (base:=base) D_stands_within T TC TX C_first_place
 have C_law_draw:=rG (P:=l.prog) (w:=w) (base:=base) D_law_draw T TC TX C_law_cell
 have C_law_due:=tV (P:=l.prog) (w:=w) (base:=base) D_law_due T TC TX C_law_lap
 have C_is_order:=rB (P:=l.prog) (w:=w) (base:=base) D_is_order T TC TX C_are_numbers
 have C_is_kept:=tT (P:=l.prog) (w:=w) (base:=base) D_is_kept T TC TX C_stands_within
 have C_left_row:=rE (P:=l.prog) (w:=w) (base:=base) D_left_row T TC TX C_first_place C_stands_within
 have C_law_pieces:=oq (P:=l.prog) (w:=w) (base:=base) D_law_pieces T TC TX C_law_cell C_law_digit_pieces C_law_draw
 have C_law_order:=qi (P:=l.prog) (w:=w) (base:=base) D_law_order T TC TX C_law_draw
 have C_law_spoiled:=l8 (P:=l.prog) (w:=w) (base:=base) D_law_spoiled T TC TX C_law_draw
 have C_check_order:=lZ (P:=l.prog) (w:=w) (base:=base) D_check_order T TC TX C_Family_many C_is_order
 have C_Family_init:=l5 (P:=l.prog) (w:=w) (base:=base) D_Family_init T TC TX C_all_laps C_check_pieces C_is_kept C_left_row
 have C_text_of:=tR (P:=l.prog) (w:=w) (base:=base) D_text_of T TC TX C_check_order C_glue_all
 have C_starts_of:=qh (P:=l.prog) (w:=w) (base:=base) D_starts_of T TC TX C_check_order
 have C_saved:=yt (P:=l.prog) (w:=w) (base:=base) D_saved T TC TX C_check_order
 have C_law_refusals:=lF (P:=l.prog) (w:=w) (base:=base) D_law_refusals T TC TX C_saved C_starts_of C_text_of
 have C_law_told:=rJ (P:=l.prog) (w:=w) (base:=base) D_law_told T TC TX C_law_due C_law_number C_saved C_starts_of C_text_of
 exact (De (P:=l.prog) (w:=w) (base:=base) D_law T TC TX C_Family_init C_law_draw C_law_kept C_law_number C_law_order C_law_pieces C_law_refusals C_law_spoiled C_law_told C_is_order C_saved C_starts_of C_text_of).imp fun _ _ _ _ h=>Ap h
end K16

open PySem PySem.W PyProof.Rows
local macro_rules | `(tactic| walk_at "fn") => `(tactic| (refine' L2.C7 ?a ?l ?c ?k; (case a => k_is); (case l => k_is); (case c => k_is); (case k => k_is)))
set_option maxRecDepth 100000 in
set_option maxHeartbeats 0 in
theorem PySem.Challenge.cw_shortglue_k16_text_of_order_holds : PySem.Challenge.rw_shortglue_k16_text_of_order.Holds := by
  refine topHd ?_
  k_fill
  refine L2.B6 (l := PySem.Challenge.rw_shortglue_k16_text_of_order) (k := 7) (x := "_law_script") rfl rfl ⟨rfl, by decide, by decide⟩ (fun w h Y => PySem.W.kIn_of Y) ?F
  case F =>
    intro w mg fa h KX G hmg
    refine' K16.Df KX G hmg ?aC_Family ?pg_Family ?hd_Family ?po_Family ?sa_Family ?mk_Family ?kc_Family ?n_Family_pieces ?n_Family_kept ?n_Family_words ?n_Family_left ?n_Family_laps ?n_Family_total ?aC_GlueError ?lC_GlueError ?xq_GlueError ?aC_TooMany ?lC_TooMany ?ga_TooMany ?gh_TooMany ?sa_TooMany ?cl_TooMany ?kc_TooMany ?xi_TooMany ?xt_TooMany ?xl_TooMany ?xc0_TooMany ?xk_TooMany ?xn_TooMany ?aC_NoPiece ?lC_NoPiece ?ga_NoPiece ?gh_NoPiece ?sa_NoPiece ?cl_NoPiece ?kc_NoPiece ?xi_NoPiece ?xt_NoPiece ?xl_NoPiece ?xc0_NoPiece ?xk_NoPiece ?xn_NoPiece ?aC_NoLap ?lC_NoLap ?ga_NoLap ?gh_NoLap ?sa_NoLap ?cl_NoLap ?kc_NoLap ?xi_NoLap ?xt_NoLap ?xl_NoLap ?xc0_NoLap ?xk_NoLap ?xn_NoLap ?aC_NoOrder ?lC_NoOrder ?ga_NoOrder ?gh_NoOrder ?sa_NoOrder ?cl_NoOrder ?kc_NoOrder ?xq_NoOrder ?d1 ?d2 ?d3 ?a4 ?l4 ?c4 ?k4 ?t4 ?d5 ?d6 ?a7 ?i7 ?l7 ?c7 ?k7 ?d8 ?d9 ?d10 ?d11 ?d12 ?d13 ?d14 ?d15 ?d16 ?d17 ?d18 ?d19 ?d20 ?d21 ?d22 ?d23 ?d24 ?d25 ?a26 ?i26 ?l26 ?c26 ?k26 ?d27 ?d28 ?d29 ?d30 ?d31 ?d32 ?z1 ?z2 ?z3 ?z4 ?z5 ?z6 ?z7 ?z8 ?z9 ?z10 ?z11 ?z12 ?z13 ?z14 ?z15 ?z16 ?z17 ?y1 ?y2
    (case aC_Family => k_is)
    (case pg_Family => k_is)
    (case hd_Family => k_is)
    (case po_Family => k_is)
    (case sa_Family => k_is)
    (case mk_Family => k_is)
    (case kc_Family => k_is)
    (case n_Family_pieces => k_is)
    (case n_Family_kept => k_is)
    (case n_Family_words => k_is)
    (case n_Family_left => k_is)
    (case n_Family_laps => k_is)
    (case n_Family_total => k_is)
    (case aC_GlueError => k_is)
    (case lC_GlueError => k_is)
    (case xq_GlueError => k_exc)
    (case aC_TooMany => k_is)
    (case lC_TooMany => k_is)
    (case ga_TooMany => k_is)
    (case gh_TooMany => k_is)
    (case sa_TooMany => k_is)
    (case cl_TooMany => k_is)
    (case kc_TooMany => k_is)
    (case xi_TooMany => k_is)
    (case xt_TooMany => k_is)
    (case xl_TooMany => k_is)
    (case xc0_TooMany => k_is)
    (case xk_TooMany => k_is)
    (case xn_TooMany => k_is)
    (case aC_NoPiece => k_is)
    (case lC_NoPiece => k_is)
    (case ga_NoPiece => k_is)
    (case gh_NoPiece => k_is)
    (case sa_NoPiece => k_is)
    (case cl_NoPiece => k_is)
    (case kc_NoPiece => k_is)
    (case xi_NoPiece => k_is)
    (case xt_NoPiece => k_is)
    (case xl_NoPiece => k_is)
    (case xc0_NoPiece => k_is)
    (case xk_NoPiece => k_is)
    (case xn_NoPiece => k_is)
    (case aC_NoLap => k_is)
    (case lC_NoLap => k_is)
    (case ga_NoLap => k_is)
    (case gh_NoLap => k_is)
    (case sa_NoLap => k_is)
    (case cl_NoLap => k_is)
    (case kc_NoLap => k_is)
    (case xi_NoLap => k_is)
    (case xt_NoLap => k_is)
    (case xl_NoLap => k_is)
    (case xc0_NoLap => k_is)
    (case xk_NoLap => k_is)
    (case xn_NoLap => k_is)
    (case aC_NoOrder => k_is)
    (case lC_NoOrder => k_is)
    (case ga_NoOrder => k_is)
    (case gh_NoOrder => k_is)
    (case sa_NoOrder => k_is)
    (case cl_NoOrder => k_is)
    (case kc_NoOrder => k_is)
    (case xq_NoOrder => k_exc)
    (case d1 => walk_at "fn")
    (case d2 => walk_at "fn")
    (case d3 => walk_at "fn")
    (case a4 => k_is)
    (case l4 => k_is)
    (case c4 => k_is)
    (case k4 => k_is)
    (case t4 => k_is)
    (case d5 => walk_at "fn")
    (case d6 => walk_at "fn")
    (case a7 => k_is)
    (case i7 => k_is)
    (case l7 => k_is)
    (case c7 => k_is)
    (case k7 => k_is)
    (case d8 => walk_at "fn")
    (case d9 => walk_at "fn")
    (case d10 => walk_at "fn")
    (case d11 => walk_at "fn")
    (case d12 => walk_at "fn")
    (case d13 => walk_at "fn")
    (case d14 => walk_at "fn")
    (case d15 => walk_at "fn")
    (case d16 => walk_at "fn")
    (case d17 => walk_at "fn")
    (case d18 => walk_at "fn")
    (case d19 => walk_at "fn")
    (case d20 => walk_at "fn")
    (case d21 => walk_at "fn")
    (case d22 => walk_at "fn")
    (case d23 => walk_at "fn")
    (case d24 => walk_at "fn")
    (case d25 => walk_at "fn")
    (case a26 => k_is)
    (case i26 => k_is)
    (case l26 => k_is)
    (case c26 => k_is)
    (case k26 => k_is)
    (case d27 => walk_at "fn")
    (case d28 => walk_at "fn")
    (case d29 => walk_at "fn")
    (case d30 => walk_at "fn")
    (case d31 => walk_at "fn")
    (case d32 => walk_at "fn")
    (case z1 => k_is)
    (case z2 => k_is)
    (case z3 => k_is)
    (case z4 => k_is)
    (case z5 => k_is)
    (case z6 => k_is)
    (case z7 => k_is)
    (case z8 => k_is)
    (case z9 => k_is)
    (case z10 => k_is)
    (case z11 => k_is)
    (case z12 => k_is)
    (case z13 => k_is)
    (case z14 => k_is)
    (case z15 => k_is)
    (case z16 => k_is)
    (case z17 => k_is)
    (case y1 => k_is)
    (case y2 => k_is)
