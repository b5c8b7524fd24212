import PyProof.Rows.All
import Wide.All
import OpenK.AllK
import Wide.FinOn
import Lean
import PyProof.EqAt
import PyProof.EqKinds
import PyProof.TupleCall
import KE.KSortTup
import PyProof.FString
import PyProof.StrBlock
import KE.KRevSl
import PyProof.StrLawsReplace
import PyProof.StrCalls6
import PySem.Challenge.RW_shortglue_k58_fits
set_option Elab.async false
set_option linter.all false
set_option maxRecDepth 100000
set_option maxHeartbeats 4000000
noncomputable section
namespace L2
open PySem PySem.W
def gv (tb:String->Option Builtin) (p:Program) (w:World) (n₀:Nat) (ann:Option Value):Nat->SharedT->Thread->Option SharedT
 | 0,_,_=>none
 | n + 1,s,t=>match through t with
  | true=>some s
  | false=>match stepOk n₀ ann t with
   | false=>none
   | true=>match stepT (denote tb) p w s t with
    | some (s',t')=>gv tb p w n₀ ann n s' t'
    | none=>none
theorem hJ {tb:String->Option Builtin}{p:Program}{w:World}{n₀:Nat}{ann:Option Value}:∀{n:Nat}{s s':SharedT}{t:Thread},gv tb p w n₀ ann n s t=some s'->topRun tb p w n₀ ann n s.abs t=some s'.abs
 | 0,_,_,_,h=>by cases h
 | n + 1,s,s',t,h=>by
  unfold gv at h
  unfold topRun
  cases he:through t with
  | true=>rw [he] at h;cases h;rfl
  | false =>
   rw [he] at h
   cases hk:stepOk n₀ ann t with
   | false=>rw [hk] at h;cases h
   | true =>
    rw [hk] at h
    cases hs:stepT (denote tb) p w s t with
    | none=>rw [hs] at h;cases h
    | some r=>obtain ⟨s₂,t₂⟩:=r;rw [hs] at h;rw [stepT_spec hs];exact hJ h
def nv:List Obj->Nat->BT->BT
 | [],_,t=>t
 | o::r,i,t=>nv r (i + 1) (t.ins i o)
def nZ (P:Params):BT:=nv (boot_heap P).objs.toList 0 .nil
theorem ma:∀P,absHeap (nZ P) (boot_heap P).objs.size (boot_heap P).life=boot_heap P:=fun P=>by kernel_rfl
theorem qu {p q:Program}{loose:List Str}{Xt:Shared->Bool}{α:Type}{Yf:Shared->α}{Ya:World->α}{N:Nat}{g0:Bool}{m₀:Nat}{ann:Option Value}
  (e:opening p=plainProg p.main.scope.names) (hN:Nat.ble 600 N=true) (f:∀s,fenceModules? p s=some s)
  (size:∀w:World,((boot_heap w.params).isNs mainGlobals && (Array.mk []:Array GenState).size == 0,(boot_heap w.params).objs.size,(boot_heap w.params).nsMap mainGlobals "__annotations__")=(true,m₀,ann))
  (run:∀(w:World) (os:OsState),(gv treeTable p w m₀ ann N ⟨nZ w.params,m₀,(boot_heap w.params).life,Array.mk [],boot_drawn,boot_toks,os⟩ (topStub p)).map (fun sT=>((staticsOk (importedModules p.main.body) (boot_heap w.params) sT.abs.heap && namesBound p sT.abs.heap && gensDone sT.abs && laidKept (boot_heap w.params) sT.abs.heap),openSeen q loose (importedModules p.main.body) Xt g0 sT.abs,Yf sT.abs))=some (true,openGood q loose,Ya w)):LeftO p q loose Xt Yf Ya N g0:=fun w=>by
 obtain ⟨⟨h,gs,d,k,os⟩,e,e'⟩:=Option.map_eq_some_iff.mp (boot_open e hN f w)
 obtain ⟨rfl,rfl,rfl,rfl⟩:h=boot_heap w.params/\gs=Array.mk []/\d=boot_drawn/\k=boot_toks:=by simpa using e'
 obtain ⟨z1,z2,z3⟩:_/\_/\_:=by simpa only [Prod.mk.injEq] using size w
 obtain ⟨sT,r,l⟩:=Option.map_eq_some_iff.mp (run w os)
 obtain ⟨l1,l2,l3⟩:_/\_/\_:=by simpa only [Prod.mk.injEq] using l
 have r:=hJ r
 rw [show SharedT.abs ⟨nZ w.params,m₀,(boot_heap w.params).life,Array.mk [],boot_drawn,boot_toks,os⟩=⟨boot_heap w.params,Array.mk [],boot_drawn,boot_toks,os⟩ by
  unfold SharedT.abs;dsimp only;rw [<- z2,ma]] at r
 have t:topFrom treeTable p w N ⟨boot_heap w.params,Array.mk [],boot_drawn,boot_toks,os⟩=some sT.abs:=by
  unfold topFrom
  dsimp only
  rw [z1,z2,z3,r]
  show (match staticsOk (importedModules p.main.body) (boot_heap w.params) sT.abs.heap && namesBound p sT.abs.heap && gensDone sT.abs && laidKept (boot_heap w.params) sT.abs.heap with | true=>_ | false=>_)=_
  rw [l1]
 unfold openEnds
 rw [e]
 show (topFrom treeTable p w N _).map _=_
 rw [t]
 exact congrArg some (Prod.ext l2 l3)
end L2
section
open PySem PySem.W PyProof.Rows
def n0:Program:=PySem.W.view PySem.Challenge.pw_shortglue_k58_fits [1,2,5,6,7,9,10,11,12,13,14,15,16,17,18,19,20]
local macro_rules | `(tactic| o_head $H)=>`(tactic| (refine holds_open (q:=n0) (loose:=[PySem.Str.ofString "is_text"]) (Xt:=fun s=>xlAt n0 [] s && recOk (RowW.records (OpenRow.toRowW (OpenLaw.row PySem.Challenge.rw_shortglue_k58_fits))) s) (XP:=XL n0 []) (Yf:=Hook.obs $H) (Ya:=Hook.val $H) (YP:=Hook.says $H) (N:=1174) ?hl (Hook.of $H) (Hook.keeps $H) (fun s e=>xl_of s (Bool.and_eq_true_iff.mp e).1) XL.keeps (by rfl) (by rfl) (by rfl) (fun s e=>recFacts_of (Bool.and_eq_true_iff.mp e).2) (by rfl) (by first | assumption | decide +kernel) (by decide +kernel) ⟨rfl,rfl,rfl,rfl,rfl,by decide +kernel⟩ ?hw ?hc;(case hl=>(refine L2.qu (m₀:=11) (ann:=some (.ref 6)) (by kernel_rfl) (by rfl) (fun s=>by kernel_rfl) (fun w=>by kernel_rfl) ?_;intro w os;kernel_rfl))))
set_option maxRecDepth 100000 in
set_option maxHeartbeats 0 in
open_top topHd for PySem.Challenge.rw_shortglue_k58_fits
end
-- CHANGE: your row's module here,as the last of these rows
namespace L2
open PySem PySem.Spec PyProof.Rows
abbrev Key:=Sum Int Str
def qv:Key->Value->Bool
 | .inl k,v=>Value.isInt k v
 | .inr x,v=>Value.isStrOf x v
def vc (w:World):Key->Int
 | .inl k=>hashInt k
 | .inr x=>hashStr w x
theorem aX:∀{k:Key}{v:Value},qv k v=true->(∃i t,k=Sum.inl i/\v=Value.int i t)\/(∃x t,k=Sum.inr x/\v=Value.str x t)
 | .inl i,v,h=>by
  obtain ⟨t,e⟩:=Value.isInt_shape (k:=i) (v:=v) h
  exact .inl ⟨i,t,rfl,e⟩
 | .inr x,v,h=>by
  obtain ⟨t,e⟩:=Value.isStrOf_shape (x:=x) (v:=v) h
  exact .inr ⟨x,t,rfl,e⟩
theorem qw (a b:Int):decide ((Sum.inl a:Key)=Sum.inl b)=(a == b):=by
 by_cases e:a=b
 .subst e;simp
 .have h:¬ (Sum.inl a:Key)=Sum.inl b:=fun q=>e (Sum.inl.inj q)
  rw [decide_eq_false h]
  exact (beq_eq_false_iff_ne.mpr e).symm
theorem qx (a b:Str):decide ((Sum.inr a:Key)=Sum.inr b)=decide (a=b):=by
 by_cases e:a=b
 .subst e;simp
 .have h:¬ (Sum.inr a:Key)=Sum.inr b:=fun q=>e (Sum.inr.inj q)
  rw [decide_eq_false h,decide_eq_false e]
theorem qy (a:Int) (b:Str):decide ((Sum.inl a:Key)=Sum.inr b)=false:=decide_eq_false (fun q=>nomatch q)
theorem qz (a:Str) (b:Int):decide ((Sum.inr a:Key)=Sum.inl b)=false:=decide_eq_false (fun q=>nomatch q)
def iT (prog:Program) (w:World):PySem.KeyKind prog w Key where
 is:=qv
 hash:=vc w
 inj:=fun v a b ha hb=>by
  rcases aX ha with ⟨i,t,rfl,rfl⟩ | ⟨x,t,rfl,rfl⟩
  .rcases aX hb with ⟨j,u,rfl,e⟩ | ⟨y,u,rfl,e⟩
   .injection e with e1 _;rw [e1]
   .exact nomatch e
  .rcases aX hb with ⟨j,u,rfl,e⟩ | ⟨y,u,rfl,e⟩
   .exact nomatch e
   .injection e with e1 _;rw [e1]
 byValue:=fun k v h=>by
  rcases aX h with ⟨i,t,rfl,rfl⟩ | ⟨x,t,rfl,rfl⟩ <;> rfl
 pyHash:=fun hv h=>by
  rcases aX hv with ⟨i,t,rfl,rfl⟩ | ⟨x,t,rfl,rfl⟩
  .exact wpAny_pyHash_int h
  .exact wpAny_pyHash_str h
 eqBool:=fun hu hv h=>by
  rcases aX hu with ⟨i,t,rfl,rfl⟩ | ⟨x,t,rfl,rfl⟩
  .rcases aX hv with ⟨j,u,rfl,rfl⟩ | ⟨y,u,rfl,rfl⟩
   .rw [qw] at h;exact wpAny_eqBool_int h
   .rw [qy] at h;exact SeqAt.EqAt.int_str i t y u _ _ _ _ h
  .rcases aX hv with ⟨j,u,rfl,rfl⟩ | ⟨y,u,rfl,rfl⟩
   .rw [qz] at h;exact SeqAt.EqAt.str_int x t j u _ _ _ _ h
   .rw [qx] at h;exact wpAny_eqBool_str h
 «strs»:=fun k x t v h=>by
  rcases aX h with ⟨i,u,rfl,e⟩ | ⟨y,u,rfl,e⟩
  .exact nomatch e
  .injection e with e1 _
   subst e1
   cases v <;> rfl
inductive V where
 | non | bl (b:Bool) | int (i:Int) | str (x:Str) | byt (b:Array UInt8) | flt (b:UInt64) | ref (a:Addr) | ty (n:String)
 deriving DecidableEq
def bK:V->Value->Prop
 | .non,u=>u=Value.none
 | .bl b,u=>u=Value.bool b
 | .int i,u=>∃t,u=Value.int i t
 | .str x,u=>∃t,u=Value.str x t
 | .byt b,u=>∃t,u=Value.bytes b t
 | .flt b,u=>∃t,u=Value.float b t
 | .ref a,u=>u=Value.ref a
 | .ty n,u=>u=Value.type n
abbrev aW:List V->List Value->Prop:=Paired bK
theorem aW.length {xs:List V}{us:List Value} (r:aW xs us):xs.length=us.length:=Paired.length r
theorem aW.get:∀{xs:List V}{us:List Value}{i:Nat}{x:V},aW xs us->xs[i]?=some x->∃u,us[i]?=some u/\bK x u
 | _,_,_,_,.nil,e=>by simp at e
 | _,_,0,_,.cons r _,e=>by simp at e;subst e;exact ⟨_,rfl,r⟩
 | _,_,i + 1,x,.cons _ t,e=>by
  obtain ⟨u,h1,h2⟩:=aW.get (i:=i) (x:=x) t (by simpa using e)
  exact ⟨u,by simpa using h1,h2⟩
theorem aW.set {x:V}{u:Value} (r:bK x u):∀{xs:List V}{us:List Value} (i:Nat),aW xs us->aW (xs.set i x) (us.set i u)
 | _,_,_,.nil=>.nil
 | _,_,0,.cons _ t=>.cons r t
 | _,_,i + 1,.cons q t=>.cons q (aW.set r i t)
theorem aW.append:∀{xs ys:List V}{us ws:List Value},aW xs us->aW ys ws->aW (xs++ys) (us++ws)
 | _,_,_,_,.nil,s=>s
 | _,_,_,_,.cons r t,s=>.cons r (aW.append t s)
theorem aW.take:∀{xs:List V}{us:List Value} (n:Nat),aW xs us->aW (xs.take n) (us.take n)
 | _,_,0,_=>.nil
 | _,_,_ + 1,.nil=>.nil
 | _,_,n + 1,.cons r t=>.cons r (aW.take n t)
theorem aW.drop:∀{xs:List V}{us:List Value} (n:Nat),aW xs us->aW (xs.drop n) (us.drop n)
 | _,_,0,r=>r
 | _,_,_ + 1,.nil=>.nil
 | _,_,n + 1,.cons _ t=>aW.drop n t
def sV:Option V->Option Value->Prop
 | some v,some u=>bK v u
 | none,none=>True
 | _,_=>False
def KV {κ:Type}:List (κ×V)->List (κ×Value)->Prop:=Paired fun (p:κ×V) (q:κ×Value)=>p.1=q.1/\bK p.2 q.2
def kV:Key->V
 | .inl i=>.int i
 | .inr x=>.str x
inductive HO where
 /-- a list -/
 | lst (xs:List V)
 /-- a tuple (never changes) -/
 | tup (xs:List V)
 /-- a dict whose keys are ints and texts;one whose keys are tuples of ints and texts (the empty one is both) -/
 | dK (kvs:List (Key×V)) | dT (kvs:List (List Key×V))
 /-- a set of ints: its members,its size -/
 | set (S:Int->Bool) (n:Nat)
 /-- an instance of the class at C,its dict at dx,its attributes -/
 | ins (C dx:Addr) (fs:List (Str×V))
 /-- the dict of the instance at x -/
 | own (x:Addr)
 /-- the dict of an exception -/
 | xd (fs:List (Str×V))
 /-- a bound method,f of x -/
 | met (f x:Addr)
 /-- a range object lo,lo + 1,.. below hi -/
 | rng (lo hi:Int)
 /-- a thing that is known to the object (the script;a dict while a loop walks it): read,never written while it is so -/
 | frz (o:Obj) (u:HO)
 /-- a code object's table -/
 | tbl (ps:Array Value)
 /-- any other thing,by what is true of its one object (a def of one's own: SetO a S n:=HO.ext fun h=>..) -/
 | ext (φ:Heap->Prop)
abbrev Hp:=Addr->Option HO
def upd (H:Hp) (a:Addr) (o:HO):Hp:=fun b=>if b=a then some o else H b
theorem aJ {H:Hp}{a:Addr}{o:HO}:upd H a o a=some o:=by unfold upd;rw [if_pos rfl]
theorem ao {H:Hp}{a b:Addr}{o:HO} (h:b≠a):upd H a o b=H b:=by unfold upd;rw [if_neg h]
theorem aO {H:Hp}{a b:Addr}{o:HO} (h:H a=some o) (h':H b=none):a≠b:=by
 intro e;subst e;rw [h] at h';cases h'
section
variable (P:Program) (w:World)
def br (H:Hp) (h:Heap) (a:Addr):HO->Prop
 | .lst xs=>xs.length<=sizeLine/\∃(its:List Value) (n:Nat),aW xs its/\h.get? a=some { cls:=.type "list",data:=.seq its.toArray n }
 | .tup xs=>xs.length<=sizeLine/\∃its:List Value,aW xs its/\IsTup h a its.toArray
 | .dK kvs=>kvs.length<=sizeLine/\(a == sysModules)=false/\∃vs,KV kvs vs/\h.DictOf (iT P w) a vs
 | .dT kvs=>kvs.length<=sizeLine/\(a == sysModules)=false/\∃xs:List (List Key×Addr×Value),
   Paired (fun (p:List Key×V) (q:List Key×Addr×Value)=>p.1=q.1/\H q.2.1=some (.tup (p.1.map kV))/\bK p.2 q.2.2) kvs xs /\
   ∃o es ep,h.get? a=some o/\o.ExactDict/\o.data=.dict es ep/\es.toList=xs.map (entryOfKey (tupleKind (iT P w)))/\(xs.map (·.1)).Nodup
 | .set S n=>h.SetOf (intKind P w) a S n
 | .ins C dx fs=>H dx=some (.own a)/\fs.length<=1000/\dx≠a/\h.get? a=some (PySem.W.instObj C dx) /\
   ∃mA,h.Ns1 dx mA/\(∀f,sV (fs.lookup f) (mA f))/\PySem.Within mA (fs.map (·.1))
 | .own _=>∃o,h.get? a=some o
 | .xd fs=>∃mA,h.Ns1 a mA/\∀f,sV (fs.lookup f) (mA f)
 | .rng lo hi=>∃t u v,h.get? a=some { cls:=.type "range",data:=.fields #[.int lo t,.int hi u,.int 1 v] }
 | .frz o u=>h.get? a=some o/\br H h a u
 | .tbl ps=>h.get? a=some { cls:=.none,data:=.fields ps }
 | .met f x=>h.get? a=some (PySem.W.methodObj (.ref f) (.ref x))
 | .ext φ=>φ h/\(∃o,h.get? a=some o)/\∀h1 h2:Heap,φ h1->(∀o,h1.get? a=some o->h2.get? a=some o)->φ h2
def HOk (H:Hp) (h:Heap):Prop:=∀a o,H a=some o->br P w H h a o
end
section
variable {P:Program}{w:World}{H H':Hp}{h h':Heap}{a:Addr}{o:HO}
theorem br.lt (x:br P w H h a o):a < h.objs.size:=by
 cases o with
 | lst xs=>obtain ⟨_,_,_,_,e⟩:=x;exact Heap.lt_size e
 | tup xs=>obtain ⟨_,_,_,p⟩:=x;exact p.lt
 | dK kvs=>obtain ⟨_,_,_,_,o,_,_,e,_⟩:=x;exact Heap.lt_size e
 | dT kvs=>obtain ⟨_,_,_,_,o,_,_,e,_⟩:=x;exact Heap.lt_size e
 | set S n=>obtain ⟨o,_,_,_,e,_⟩:=x;exact Heap.lt_size e
 | ins C dx fs=>obtain ⟨_,_,_,e,_⟩:=x;exact Heap.lt_size e
 | own y=>obtain ⟨_,e⟩:=x;exact Heap.lt_size e
 | xd fs=>obtain ⟨_,⟨_,_,_,e,_⟩,_⟩:=x;exact Heap.lt_size e
 | rng lo hi=>obtain ⟨_,_,_,e⟩:=x;exact Heap.lt_size e
 | frz ob u=>obtain ⟨e,_⟩:=x;exact Heap.lt_size e
 | tbl ps=>exact Heap.lt_size (show h.get? a=some _ from x)
 | met f y=>exact Heap.lt_size (show h.get? a=some _ from x)
 | ext φ=>obtain ⟨_,⟨_,e⟩,_⟩:=x;exact Heap.lt_size e
theorem Paired.mapP {α β:Type}{F G:α->β->Prop}:∀{l₁:List α}{l₂:List β},Paired F l₁ l₂->(∀a b,F a b->G a b)->Paired G l₁ l₂
 | _,_,.nil,_=>.nil
 | _,_,.cons r t,f=>.cons (f _ _ r) (Paired.mapP t f)
theorem br.stay (x:br P w H h a o) (k:∀b u,(b=a\/H b=some (.own a))->h.get? b=some u->h'.get? b=some u)
  (ho:∀b,H b=some (.own a)->H' b=some (.own a)) (ht:∀b xs,H b=some (.tup xs)->H' b=some (.tup xs)):br P w H' h' a o:=by
 induction o with
 | lst xs=>obtain ⟨z,its,n,r,e⟩:=x;exact ⟨z,its,n,r,k _ _ (.inl rfl) e⟩
 | tup xs=>obtain ⟨z,its,r,ob,e,c⟩:=x;exact ⟨z,its,r,ob,k _ _ (.inl rfl) e,c⟩
 | dK kvs=>obtain ⟨z,y,vs,r,ob,es,ep,e,c⟩:=x;exact ⟨z,y,vs,r,ob,es,ep,k _ _ (.inl rfl) e,c⟩
 | dT kvs =>
  obtain ⟨z,y,xs,r,ob,es,ep,e,c⟩:=x
  exact ⟨z,y,xs,Paired.mapP r fun p q z=>⟨z.1,ht _ _ z.2.1,z.2.2⟩,ob,es,ep,k _ _ (.inl rfl) e,c⟩
 | set S n=>obtain ⟨ob,es,ep,t,e,c⟩:=x;exact ⟨ob,es,ep,t,k _ _ (.inl rfl) e,c⟩
 | ins C dx fs =>
  obtain ⟨d,z,ne,e,mA,⟨od,es,ep,e2,c⟩,r⟩:=x
  exact ⟨ho _ d,z,ne,k _ _ (.inl rfl) e,mA,⟨od,es,ep,k _ _ (.inr d) e2,c⟩,r⟩
 | own y=>obtain ⟨ob,e⟩:=x;exact ⟨ob,k _ _ (.inl rfl) e⟩
 | xd fs=>obtain ⟨mA,⟨od,es,ep,e,c⟩,r⟩:=x;exact ⟨mA,⟨od,es,ep,k _ _ (.inl rfl) e,c⟩,r⟩
 | rng lo hi=>obtain ⟨t,u,v,e⟩:=x;exact ⟨t,u,v,k _ _ (.inl rfl) e⟩
 | frz ob u ih=>obtain ⟨e,q⟩:=x;exact ⟨k _ _ (.inl rfl) e,ih q⟩
 | tbl ps =>
  have e:h.get? a=some { cls:=.none,data:=.fields ps }:=x
  show h'.get? a=some { cls:=.none,data:=.fields ps }
  exact k a _ (.inl rfl) e
 | met f y =>
  have e:h.get? a=some (PySem.W.methodObj (.ref f) (.ref y)):=x
  show h'.get? a=some (PySem.W.methodObj (.ref f) (.ref y))
  exact k a _ (.inl rfl) e
 | ext φ=>obtain ⟨p,⟨o,e⟩,st⟩:=x;exact ⟨st _ _ p fun o q=>k _ _ (.inl rfl) q,⟨o,k _ _ (.inl rfl) e⟩,st⟩
theorem HOk.lt (x:HOk P w H h) (e:H a=some o):a < h.objs.size:=(x a o e).lt
theorem HOk.fresh (x:HOk P w H h) (e:h.objs.size<=a):H a=none:=by
 cases q:H a with
 | none=>rfl
 | some u=>exact absurd (Nat.lt_of_lt_of_le (x.lt q) e) (Nat.lt_irrefl _)
theorem HOk.kept (x:HOk P w H h) (k:∀b u,h.get? b=some u->h'.get? b=some u):HOk P w H h':=fun a o e =>
 (x a o e).stay (fun b u _ q=>k b u q) (fun _ q=>q) fun _ _ q=>q
theorem HOk.laid (x:HOk P w H h) (k:∀b u,h.get? b=some u->h'.get? b=some u) (hp:h.objs.size<=a) (new:br P w (upd H a o) h' a o):HOk P w (upd H a o) h':=fun b u e=>by
 have hn:=x.fresh hp
 by_cases hb:b=a
 .subst hb;rw [aJ] at e;cases e;exact new
 .rw [ao hb] at e
  exact (x b u e).stay (fun c v _ q=>k c v q) (fun c q=>by rw [ao (aO q hn)];exact q) fun c xs q=>by rw [ao (aO q hn)];exact q
end
def Rd (H:Hp) (a:Addr) (u:HO):Prop:=H a=some u\/∃o,H a=some (.frz o u)
theorem Rd.ok {P:Program}{w:World}{H:Hp}{h:Heap}{a:Addr}{u:HO} (r:Rd H a u) (x:HOk P w H h):br P w H h a u:=by
 rcases r with r | ⟨o,r⟩
 .exact x a u r
 .obtain ⟨_,q⟩:=x a _ r
  exact q
def Mut:Option HO->Prop
 | some (.lst _)=>True
 | some (.dK _)=>True
 | some (.dT _)=>True
 | some (.set _ _)=>True
 | some (.ins _ _ _)=>True
 | some (.ext _)=>True
 | _=>False
section
variable {P:Program}{w:World}{H:Hp}{h h':Heap}{x e:Addr}{o':HO}
theorem HOk.write (ok:HOk P w H h) (mu:Mut (H x)) (he:e=x\/H e=some (.own x)) (k:∀b u,b≠e->h.get? b=some u->h'.get? b=some u) (heo:∃u,h'.get? e=some u)
  (new:br P w (upd H x o') h' x o'):HOk P w (upd H x o') h':=fun b u q=>by
 have nown:∀c y,H c=some (.own y)->c≠x:=fun c y r z=>by subst z;rw [r] at mu;exact mu
 have ntup:∀c xs,H c=some (.tup xs)->c≠x:=fun c xs r z=>by subst z;rw [r] at mu;exact mu
 by_cases hb:b=x
 .subst hb;rw [aJ] at q;cases q;exact new
 .rw [ao hb] at q
  by_cases hbe:b=e
  .have q':H b=some (.own x):=by
    rcases he with z | z
    .exact absurd (hbe.trans z) hb
    .rw [hbe];exact z
   rw [q] at q';cases q'
   obtain ⟨v,hv⟩:=heo
   exact ⟨v,by rw [hbe];exact hv⟩
  .refine (ok b u q).stay (fun c v hc r=>k c v ?_ r) (fun c r=>by rw [ao (nown c b r)];exact r) fun c xs r=>by rw [ao (ntup c xs r)];exact r
   rcases hc with rfl | hc
   .exact hbe
   .rintro rfl
    rcases he with z | z
    .exact nown c b hc z
    .rw [hc] at z;cases z;exact hb rfl
end
structure Un (fs ex:List Addr) (H H':Hp) (h h':Heap):Prop where
 keep:∀b o,h.get? b=some o->H b=none->b∉fs->b∉ex->h'.get? b=some o
 slot:∀b o,h.get? b=some o->H b=none->b∈fs->b∉ex->∃sl,h'.get? b=some { o with slots:=sl }
 free:∀b o,h.get? b=some o->H b=none->b∉ex->H' b=none
 there:∀b o,h.get? b=some o->b∉ex->∃o',h'.get? b=some o'
 tups:∀b xs,H b=some (.tup xs)->H' b=some (.tup xs)
 frzs:∀b o u,H b=some (.frz o u)->H' b=some (.frz o u)
 tbls:∀b ps,H b=some (.tbl ps)->∃more,H' b=some (.tbl (ps++more))
section
variable {fs fs' ex ex':List Addr}{H H1 H2:Hp}{h h1 h2 h':Heap}{a x e:Addr}{o:HO}
theorem Un.any (u:Un fs ex H H1 h h1) {b:Addr}{ob:Obj} (q:h.get? b=some ob) (n:H b=none) (hx:b∉ex):∃sl,h1.get? b=some { ob with slots:=sl }:=by
 by_cases hb:b∈fs
 .exact u.slot b ob q n hb hx
 .exact ⟨ob.slots,u.keep b ob q n hb hx⟩
theorem Un.kept (k:∀b u,h.get? b=some u->h'.get? b=some u):Un fs ex H H h h' :=
 ⟨fun b ob q _ _ _=>k b ob q,fun b ob q _ _ _=>⟨ob.slots,k b ob q⟩,fun _ _ _ n _=>n,fun b ob q _=>⟨ob,k b ob q⟩,fun _ _ q=>q,fun _ _ _ q=>q,fun _ ps q=>⟨#[],by rw [q];simp⟩⟩
theorem Un.refl:Un fs ex H H h h:=Un.kept fun _ _ q=>q
theorem Un.laid (k:∀b u,h.get? b=some u->h'.get? b=some u) (hp:h.objs.size<=a) (hn:H a=none):Un fs ex H (upd H a o) h h' where
 keep:=fun b u q _ _ _=>k b u q
 slot:=fun b u q _ _ _=>⟨u.slots,k b u q⟩
 free:=fun b u q n _=>by rw [ao (Nat.ne_of_lt (Nat.lt_of_lt_of_le (Heap.lt_size q) hp))];exact n
 there:=fun b u q _=>⟨u,k b u q⟩
 tups:=fun b xs q=>by rw [ao (aO q hn)];exact q
 frzs:=fun b u xs q=>by rw [ao (aO q hn)];exact q
 tbls:=fun b ps q=>⟨#[],by rw [ao (aO q hn),q];simp⟩
theorem Un.write (mu:Mut (H x)) (he:e=x\/H e=some (.own x)) (k:∀b u,b≠e->h.get? b=some u->h'.get? b=some u) (heo:∃u,h'.get? e=some u):Un fs ex H (upd H x o) h h':=by
 have hx:∀b,H b=none->b≠x:=fun b n z=>by subst z;rw [n] at mu;exact mu
 have hb:∀b,H b=none->b≠e:=fun b n z=>by
  subst z
  rcases he with r | r
  .exact hx b n r
  .rw [n] at r;cases r
 have hm:∀b u,H b=some u->¬ Mut (some u)->b≠x:=fun b u q nm z=>by subst z;rw [q] at mu;exact nm mu
 refine ⟨fun b u q n _ _=>k b u (hb b n) q,fun b u q n _ _=>⟨u.slots,k b u (hb b n) q⟩,fun b u q n _=>by rw [ao (hx b n)];exact n,fun b u q _=>?_,
  fun b xs q=>by rw [ao (hm b _ q fun z=>z)];exact q,fun b u xs q=>by rw [ao (hm b _ q fun z=>z)];exact q,fun b ps q=>⟨#[],by rw [ao (hm b _ q fun z=>z),q];simp⟩⟩
 by_cases hbe:b=e
 .subst hbe;exact heo
 .exact ⟨u,k b u hbe q⟩
end
def trk (h:Heap) (H:Hp):List Addr:=(List.range h.objs.size).filter fun a=>(H a).isSome
def md (h:Heap) (H:Hp):Heap:=PySem.W.hideAll h (trk h H)
theorem kB (h:Heap) (H:Hp):(md h H).objs.size=h.objs.size:=PySem.W.hideAll_size _ _
theorem me {h:Heap}{H:Hp}{b:Addr}{o:Obj} (e:h.get? b=some o) (n:H b=none):(md h H).get? b=some o :=
 PySem.W.hideAll_get _ e fun hm=>by
  have q:(H b).isSome=true:=(List.mem_filter.mp hm).2
  rw [n] at q;simp at q
theorem n5 {h:Heap}{H:Hp}{b:Addr}{o:Obj} (e:(md h H).get? b=some o):h.get? b=some o/\H b=none:=by
 have e':h.get? b=some o:=PySem.W.of_hideAll (trk h H) e
 refine ⟨e',?_⟩
 cases q:H b with
 | none=>rfl
 | some x =>
  have hm:b∈trk h H:=List.mem_filter.mpr ⟨List.mem_range.mpr (Heap.lt_size e'),by simp [q]⟩
  have z:(md h H).get? b=none:=PySem.W.hideAll_none (trk h H) hm
  rw [z] at e;cases e
structure Mod (K:PySem.W.Frag) (mg:Str->Option Value) (base:Heap):Prop where
 kin:K.In base
 glob:base.Ns mainGlobals mg
 blt:∃mb,base.Ns builtinsNs mb/\∀x:Str,x≠"__name__"->mb x=bootBuiltins x
 nolimit:base.NoLimit
structure Cx where
 prog:Program
 w:World
 K:PySem.W.Frag
 mg:Str->Option Value
 base:Heap
 A:Around
 N:List Str
 s₀:Shared
 H₀:Hp
 env:Env
 outer:List Env
 stack:List Env
 ex:List Addr
 fn:Str->Bool
 calm:Bool
 pn:List (Addr×Obj)
 xe:Value->Shared->Prop
def frs (l:List Env):List Addr:=l.filterMap (·.frame)
abbrev Cx.fs (X:Cx):List Addr:=frs X.outer
def Vis (sc:Scope) (x:Str):Prop:=sc.names.lookup x=some .local\/sc.names.lookup x=some .cell\/sc.names.lookup x=some .free
def Loc (sc:Scope) (x:Str):Prop:=sc.names.lookup x=some .local\/sc.names.lookup x=some .cell
def vd (env:Env) (h:Heap) (m:Str->Option Value) (x:Str) (u:Value):Prop :=
 (env.kindOf x=some .local/\m x=some u)\/((env.kindOf x=some .cell\/env.kindOf x=some .free)/\∃c,env.cells.lookup x=some c/\h.IsCell c (some u))
structure Cx.Ok (X:Cx):Prop where
 mod:Mod X.K X.mg X.base
 kind:X.env.scope.kind=.function
 glob:X.env.globals=mainGlobals
 blt:X.env.builtins=builtinsNs
 above:X.s₀.heap.objs.size<=X.env.locals
 inj:∀x y c,X.env.cells.lookup x=some c->X.env.cells.lookup y=some c->x=y
 has:∀x,(X.env.kindOf x=some .cell\/X.env.kindOf x=some .free)->∃c,X.env.cells.lookup x=some c
 cab:∀x c,X.fn x=true->X.env.cells.lookup x=some c->X.s₀.heap.objs.size<=c
 hd:X.calm=true->X.A.handled=none
 frames:X.A.frames=some X.stack
 stk:X.stack=X.outer\/(X.stack=X.env::X.outer/\X.env.frame=some X.env.locals)
 exf:∀b∈X.ex,b≠X.env.locals/\∀x c,X.env.cells.lookup x=some c->c≠b
 bs:∀b o,X.base.get? b=some o->X.s₀.heap.get? b=some o/\X.H₀ b=none
 bsz:X.base.objs.size<=X.s₀.heap.objs.size
 noex:∀b o,X.base.get? b=some o->b∉X.ex
 exfs:∀b∈X.ex,b∉X.fs
 funs:X.s₀.heap.FunFrames X.base X.outer
 frf:∀b∈X.fs,X.H₀ b=none
structure Inv (X:Cx) (pins:List (Addr×Obj)) (σ:List (Option V)) (H:Hp) (s:Shared):Prop where
 ok:X.Ok
 os:s.os=X.s₀.os
 bare:AllBare s.gens
 base:Un X.fs X.ex X.H₀ H X.s₀.heap s.heap
 loc:∃m,s.heap.Ns X.env.locals m/\∀(i:Nat) (x:Str) (v:V),X.N[i]?=some x->σ[i]?=some (some v)->Vis X.env.scope x->∃u,bK v u/\vd X.env s.heap m x u
 cell:∀x c,X.env.cells.lookup x=some c->∃v,s.heap.IsCell c v
 free:H X.env.locals=none
 freeC:∀x c,X.env.cells.lookup x=some c->H c=none
 pin:∀p∈X.pn++pins,s.heap.get? p.1=some p.2/\H p.1=none/\p.1≠X.env.locals/\p.1∉X.fs/\∀v,p.2.data≠.cell v
 hok:HOk X.prog X.w H s.heap
 len:σ.length=X.N.length
section
variable {X:Cx}{pins:List (Addr×Obj)}{σ:List (Option V)}{H H':Hp}{s:Shared}{h':Heap}
theorem Cx.Ok.nofr (ok:X.Ok) {b:Addr}{o:Obj} (e:X.base.get? b=some o):b∉X.fs:=fun hb=>by
 have:=(ok.funs.mem hb).1
 rw [e] at this;cases this
theorem Inv.bs (I:Inv X pins σ H s):∀b o,X.base.get? b=some o->s.heap.get? b=some o/\H b=none:=fun b o e =>
 ⟨I.base.keep b o (I.ok.bs b o e).1 (I.ok.bs b o e).2 (I.ok.nofr e) (I.ok.noex b o e),I.base.free b o (I.ok.bs b o e).1 (I.ok.bs b o e).2 (I.ok.noex b o e)⟩
theorem Inv.bk (I:Inv X pins σ H s):∀b o,X.base.get? b=some o->s.heap.get? b=some o:=fun b o e=>(I.bs b o e).1
theorem Inv.mod (I:Inv X pins σ H s):Mod X.K X.mg X.base:=I.ok.mod
theorem Inv.kIn (I:Inv X pins σ H s):X.K.In s.heap:=I.ok.mod.kin.keeps I.bk
theorem Inv.lt (I:Inv X pins σ H s):X.env.locals < s.heap.objs.size:=let ⟨_,hn,_⟩:=I.loc;hn.lt
theorem Inv.sz (I:Inv X pins σ H s):X.s₀.heap.objs.size<=s.heap.objs.size:=Nat.le_trans I.ok.above (Nat.le_of_lt I.lt)
theorem Inv.nofs (I:Inv X pins σ H s) {a:Addr} (h:s.heap.objs.size<=a):a∉X.fs:=fun hb=>by
 obtain ⟨_,o,ho,_⟩:=I.ok.funs.mem hb
 exact absurd (Nat.lt_of_lt_of_le (Heap.lt_size ho) (Nat.le_trans I.sz h)) (Nat.lt_irrefl _)
theorem Inv.cne (I:Inv X pins σ H s):∀x c,X.env.cells.lookup x=some c->c≠X.env.locals:=fun x c e z=>by
 obtain ⟨v,o,ho,hd⟩:=I.cell x c e
 obtain ⟨m,⟨o',es,ep,ho',hd',_⟩,_⟩:=I.loc
 rw [z,ho'] at ho;cases ho;rw [hd'] at hd;cases hd
theorem Inv.funs (I:Inv X pins σ H s):s.heap.FunFrames X.base X.outer:=by
 have all:∀(l:List Env),(∀b∈frs l,b∈X.fs)->X.s₀.heap.FunFrames X.base l->s.heap.FunFrames X.base l:=by
  intro l
  induction l with
  | nil=>intro _ _;trivial
  | cons env r ih =>
   intro hs hl
   obtain ⟨hk,⟨L,o,hf,hn,ho,hd⟩,hr⟩:=hl
   have hL:L∈X.fs:=hs L (by unfold frs;rw [List.filterMap_cons,hf];exact List.mem_cons_self)
   obtain ⟨sl,e⟩:=I.base.slot L o ho (I.ok.frf L hL) hL fun z=>I.ok.exfs L z hL
   exact ⟨hk,⟨L,_,hf,hn,e,hd⟩,ih (fun b hb=>hs b (by unfold frs;rw [List.filterMap_cons,hf];exact List.mem_cons_of_mem _ hb)) hr⟩
 exact all X.outer (fun _ hb=>hb) I.ok.funs
theorem Inv.stack (I:Inv X pins σ H s):s.heap.FunFrames X.base X.stack:=by
 rcases I.ok.stk with e | ⟨e,hf⟩
 .rw [e];exact I.funs
 .rw [e]
  obtain ⟨m,hn,_⟩:=I.loc
  refine .cons (by rw [I.ok.kind];decide) hf hn ?_ I.funs
  exact Heap.get?_none_of_le (Nat.le_trans I.ok.bsz I.ok.above)
theorem Inv.stkSub (I:Inv X pins σ H s):∀b∈frs X.stack,b∈X.env.locals::X.fs:=fun b hb=>by
 rcases I.ok.stk with e | ⟨e,hf⟩
 .rw [e] at hb;exact List.mem_cons_of_mem _ hb
 .rw [e] at hb
  unfold frs at hb
  rw [List.filterMap_cons,hf] at hb
  exact hb
theorem Inv.stkFree (I:Inv X pins σ H s):∀b∈frs X.stack,H b=none:=fun b hb=>by
 rcases List.mem_cons.mp (I.stkSub b hb) with e | hb
 .rw [e];exact I.free
 .obtain ⟨_,o,ho,_⟩:=I.ok.funs.mem hb
  exact I.base.free b o ho (I.ok.frf b hb) fun z=>I.ok.exfs b z hb
theorem Inv.step {g':Array GenState}{t':Nat}{d':Drawn}{ch:List Addr} (I:Inv X pins σ H s)
  (hch:∀b∈ch,(b∈X.ex\/X.s₀.heap.objs.size<=b)/\b≠X.env.locals/\(∀x c,X.env.cells.lookup x=some c->c≠b)/\∀p∈X.pn++pins,p.1≠b)
  (keep:∀b o,b≠X.env.locals->b∉X.fs->b∉ch->s.heap.get? b=some o->H b=none->h'.get? b=some o)
  (slot:∀b o,b≠X.env.locals->b∈X.fs->b∉ch->s.heap.get? b=some o->H b=none->∃sl,h'.get? b=some { o with slots:=sl }) (free:∀b o,b∉ch->s.heap.get? b=some o->H b=none->H' b=none)
  (there:∀b o,b∉ch->s.heap.get? b=some o->∃o',h'.get? b=some o')
  (tups:∀b xs,H b=some (.tup xs)->H' b=some (.tup xs)) (frzs:∀b o u,H b=some (.frz o u)->H' b=some (.frz o u)) (tbls:∀b ps,H b=some (.tbl ps)->∃more,H' b=some (.tbl (ps++more)))
  (ns:∀m,s.heap.Ns X.env.locals m->h'.Ns X.env.locals m) (hok:HOk X.prog X.w H' h') (hg:AllBare g') :
  Inv X pins σ H' { s with heap:=h',gens:=g',drawn:=d',toks:=t' }:=by
 have neL:∀b o,X.s₀.heap.get? b=some o->b≠X.env.locals:=fun b o e=>Nat.ne_of_lt (Nat.lt_of_lt_of_le (Heap.lt_size e) I.ok.above)
 have neC:∀b o,X.s₀.heap.get? b=some o->b∉X.ex->b∉ch:=fun b o e hx hb=>by
  rcases (hch b hb).1 with z | z
  .exact hx z
  .exact absurd (Nat.lt_of_lt_of_le (Heap.lt_size e) z) (Nat.lt_irrefl _)
 have cellK:∀x c,X.env.cells.lookup x=some c->∀v,s.heap.IsCell c v->h'.IsCell c v:=fun x c e v ⟨o,ho,hd⟩=>by
  have nch:c∉ch:=fun z=>(hch c z).2.2.1 x c e rfl
  by_cases hc:c∈X.fs
  .obtain ⟨sl,q⟩:=slot c o (I.cne x c e) hc nch ho (I.freeC x c e)
   exact ⟨_,q,hd⟩
  .exact ⟨o,keep c o (I.cne x c e) hc nch ho (I.freeC x c e),hd⟩
 refine ⟨I.ok,I.os,hg,⟨fun b o e n hb hx=>?_,fun b o e n hb hx=>?_,fun b o e n hx=>?_,fun b o e hx=>?_,fun b xs e=>tups b xs (I.base.tups b xs e),fun b o xs e=>frzs b o xs (I.base.frzs b o xs e),fun b ps e=>?_⟩,?_,fun x c e=>?_,?_,fun x c e=>?_,fun p hp=>?_,hok,I.len⟩
 .exact keep b o (neL b o e) hb (neC b o e hx) (I.base.keep b o e n hb hx) (I.base.free b o e n hx)
 .obtain ⟨sl,e1⟩:=I.base.slot b o e n hb hx
  obtain ⟨sl',e2⟩:=slot b _ (neL b o e) hb (neC b o e hx) e1 (I.base.free b o e n hx)
  exact ⟨sl',e2⟩
 .obtain ⟨o',e1⟩:=I.base.there b o e hx
  exact free b o' (neC b o e hx) e1 (I.base.free b o e n hx)
 .obtain ⟨o',e1⟩:=I.base.there b o e hx
  exact there b o' (neC b o e hx) e1
 .obtain ⟨m1,e1⟩:=I.base.tbls b ps e
  obtain ⟨m2,e2⟩:=tbls b _ e1
  exact ⟨m1++m2,by rw [e2,Array.append_assoc]⟩
 .obtain ⟨m,hn,hl⟩:=I.loc
  refine ⟨m,ns m hn,fun i x v e1 e2 e3=>?_⟩
  obtain ⟨u,r,l⟩:=hl i x v e1 e2 e3
  refine ⟨u,r,?_⟩
  rcases l with l | ⟨k,c,e,z⟩
  .exact .inl l
  .exact .inr ⟨k,c,e,cellK x c e _ z⟩
 .obtain ⟨v,z⟩:=I.cell x c e
  exact ⟨v,cellK x c e v z⟩
 .obtain ⟨m,⟨o,_,_,ho,_⟩,_⟩:=I.loc
  exact free _ o (fun z=>(hch _ z).2.1 rfl) ho I.free
 .obtain ⟨v,o,ho,hd⟩:=I.cell x c e
  exact free c o (fun z=>(hch c z).2.2.1 x c e rfl) ho (I.freeC x c e)
 .obtain ⟨e,n,ne,nf,d⟩:=I.pin p hp
  have nch:p.1∉ch:=fun z=>(hch p.1 z).2.2.2 p hp rfl
  exact ⟨keep p.1 p.2 ne nf nch e n,free p.1 p.2 nch e n,ne,nf,d⟩
theorem Inv.un {t':Nat} (I:Inv X pins σ H s) (u:Un X.fs [] H H' s.heap h') (hok:HOk X.prog X.w H' h'):Inv X pins σ H' { s with heap:=h',toks:=t' }:=by
 obtain ⟨m,⟨o,es,ep,ho,r⟩,_⟩:=id I.loc
 obtain ⟨sl,hL⟩:=u.any ho I.free (by simp)
 exact I.step (g':=s.gens) (d':=s.drawn) (ch:=[]) (fun _ z=>nomatch z) (fun b o _ hb _ e n=>u.keep b o e n hb (by simp)) (fun b o _ hb _ e n=>u.slot b o e n hb (by simp)) (fun b o _ e n=>u.free b o e n (by simp)) (fun b o _ e=>u.there b o e (by simp)) u.tups u.frzs u.tbls (fun m' hm=>by
  obtain ⟨o',es',ep',ho',r'⟩:=hm
  rw [ho] at ho';cases ho'
  exact ⟨_,es',ep',hL,r'⟩) hok I.bare
theorem Inv.call {g':Array GenState}{t':Nat}{d':Drawn}{ch:List Addr} (I:Inv X pins σ H s) (u:Un (frs X.stack) ch H H' s.heap h') (hok:HOk X.prog X.w H' h') (hg:AllBare g')
  (hch:∀b∈ch,(b∈X.ex\/X.s₀.heap.objs.size<=b)/\b≠X.env.locals/\(∀x c,X.env.cells.lookup x=some c->c≠b)/\∀p∈X.pn++pins,p.1≠b) :
  Inv X pins σ H' { s with heap:=h',gens:=g',drawn:=d',toks:=t' }:=by
 obtain ⟨m,⟨o,es,ep,ho,r⟩,_⟩:=id I.loc
 obtain ⟨sl,hL⟩:=u.any ho I.free fun z=>(hch _ z).2.1 rfl
 exact I.step (ch:=ch) hch (fun b o hL hb hc e n=>u.keep b o e n (fun z=>(List.mem_cons.mp (I.stkSub b z)).elim hL hb) hc) (fun b o _ _ hc e n=>u.any e n hc) (fun b o hc e n=>u.free b o e n hc) (fun b o hc e=>u.there b o e hc) u.tups u.frzs u.tbls (fun m' hm=>by
  obtain ⟨o',es',ep',ho',r'⟩:=hm
  rw [ho] at ho';cases ho'
  exact ⟨_,es',ep',hL,r'⟩) hok hg
theorem Inv.turned {t':Nat}{it:Addr} (I:Inv X pins σ H s) (k:∀b o,b≠it->s.heap.get? b=some o->h'.get? b=some o) (hn:H it=none) (hL:it≠X.env.locals)
  (h1:it∈X.ex\/X.s₀.heap.objs.size<=it) (h2:∀x c,X.env.cells.lookup x=some c->c≠it) (h3:∀p∈X.pn++pins,p.1≠it):Inv X pins σ H { s with heap:=h',toks:=t' }:=by
 have nit:∀b u,H b=some u->b≠it:=fun b u e z=>by rw [z,hn] at e;cases e
 refine I.step (g':=s.gens) (d':=s.drawn) (ch:=[it]) (fun b hb=>?_) (fun b o _ _ hc e _=>k b o (fun z=>hc (by simp [z])) e) (fun b o _ _ hc e _=>⟨o.slots,k b o (fun z=>hc (by simp [z])) e⟩) (fun _ _ _ _ n=>n)
  (fun b o hc e=>⟨o,k b o (fun z=>hc (by simp [z])) e⟩) (fun _ _ e=>e) (fun _ _ _ e=>e) (fun b ps e=>⟨#[],by rw [e];simp⟩) (fun m hm=>?_) (fun b u e=>?_) I.bare
 .have e:b=it:=by simpa using hb
  subst e
  exact ⟨h1,hL,h2,h3⟩
 .obtain ⟨o,es,ep,ho,r⟩:=hm
  exact ⟨o,es,ep,k _ o (Ne.symm hL) ho,r⟩
 .refine (I.hok b u e).stay (fun c v hc q=>k c v ?_ q) (fun _ q=>q) fun _ _ q=>q
  rcases hc with z | z
  .rw [z];exact nit b u e
  .exact nit c _ z
theorem Inv.tok (I:Inv X pins σ H s) (t:Nat):Inv X pins σ H { s with toks:=t }:=I.un (h':=s.heap) (t':=t) Un.refl I.hok
theorem Inv.kept {t':Nat} (I:Inv X pins σ H s) (k:∀b u,s.heap.get? b=some u->h'.get? b=some u):Inv X pins σ H { s with heap:=h',toks:=t' }:=I.un (Un.kept k) (I.hok.kept k)
theorem Inv.laid {a:Addr}{o:HO}{t':Nat} (I:Inv X pins σ H s) (k:∀b u,s.heap.get? b=some u->h'.get? b=some u) (hp:s.heap.objs.size<=a) (new:br X.prog X.w (upd H a o) h' a o) :
  Inv X pins σ (upd H a o) { s with heap:=h',toks:=t' }:=I.un (Un.laid k hp (I.hok.fresh hp)) (I.hok.laid k hp new)
theorem Inv.write {x e:Addr}{o:HO}{t':Nat} (I:Inv X pins σ H s) (mu:Mut (H x)) (he:e=x\/H e=some (.own x)) (k:∀b u,b≠e->s.heap.get? b=some u->h'.get? b=some u) (heo:∃u,h'.get? e=some u)
  (new:br X.prog X.w (upd H x o) h' x o):Inv X pins σ (upd H x o) { s with heap:=h',toks:=t' }:=I.un (Un.write mu he k heo) (I.hok.write mu he k heo new)
theorem Inv.pins_of {pins':List (Addr×Obj)} (I:Inv X pins σ H s) (h:∀p∈pins',s.heap.get? p.1=some p.2/\H p.1=none/\p.1≠X.env.locals/\p.1∉X.fs/\∀v,p.2.data≠.cell v):Inv X pins' σ H s :=
 ⟨I.ok,I.os,I.bare,I.base,I.loc,I.cell,I.free,I.freeC,fun p hp=>(List.mem_append.mp hp).elim (fun z=>I.pin p (List.mem_append_left _ z)) (h p),I.hok,I.len⟩
theorem jy {N:List Str} (hN:N.Nodup) {i j:Nat}{x:Str} (a:N[i]?=some x) (b:N[j]?=some x):i=j:=by
 obtain ⟨h1,e1⟩:=List.getElem?_eq_some_iff.mp a
 obtain ⟨h2,e2⟩:=List.getElem?_eq_some_iff.mp b
 exact (List.getElem_inj hN).mp (e1.trans e2.symm)
theorem kC {M:Model}{A:Around}{E:Value->Shared->Prop}{i:Nat}{x:Str}{v:V}{u:Value}{Q:Unit->Shared->Prop} (I:Inv X pins σ H s) (hN:X.N.Nodup) (hi:X.N[i]?=some x) (hx:Loc X.env.scope x) (r:bK v u)
  (h:∀s',Inv X pins (σ.set i (some v)) H s'->(∃a,Heap.SameBut a s.heap s'.heap/\(a=X.env.locals\/X.env.cells.lookup x=some a))->Q () s') (hf:X.fn x=true\/X.env.scope.names.lookup x=some .local:=by first | exact .inl rfl | exact .inr rfl | assumption):wpAny M A (storeName X.env x u) Q E s:=by
 obtain ⟨m,hn,hl⟩:=id I.loc
 have hcls:(X.env.scope.kind == .class || (X.env.scope.kind == .module && X.env.locals != X.env.globals))=false:=by rw [I.ok.kind];rfl
 have hiσ:i < σ.length:=by rw [I.len];exact (List.getElem?_eq_some_iff.mp hi).1
 have cne:=I.cne
 have tracked:∀{a:Addr}{h':Heap},(∃o,s.heap.get? a=some o/\H a=none)->Heap.SameBut a s.heap h'->HOk X.prog X.w H h':=fun {a h'} ha hs b ob e=>by
  obtain ⟨_,_,hfree⟩:=ha
  refine (I.hok b ob e).stay (fun c w' hc q=>(hs.2 c ?_).trans q) (fun _ q=>q) fun _ _ q=>q
  rintro rfl
  rcases hc with rfl | hc
  .rw [hfree] at e;cases e
  .rw [hfree] at hc;cases hc
 rcases hx with hk | hk
 .refine wpAny_storeName_local hk hn (fun h' hn' hs=>?_) hcls
  obtain ⟨oL,_,_,hoL,_⟩:=id hn
  refine h _ ⟨I.ok,I.os,I.bare,⟨fun b o e n hb hx=>?_,fun b o e n hb hx=>?_,I.base.free,fun b o e hx=>?_,I.base.tups,I.base.frzs,I.base.tbls⟩,⟨_,hn',fun j y v' e1 e2 e3=>?_⟩,fun y c e=>?_,I.free,I.freeC,fun p hp=>?_,tracked ⟨oL,hoL,I.free⟩ hs,by simpa using I.len⟩ ⟨_,hs,.inl rfl⟩
  .exact (hs.2 b (Nat.ne_of_lt (Nat.lt_of_lt_of_le (Heap.lt_size e) I.ok.above))).trans (I.base.keep b o e n hb hx)
  .obtain ⟨sl,e1⟩:=I.base.slot b o e n hb hx
   exact ⟨sl,(hs.2 b (Nat.ne_of_lt (Nat.lt_of_lt_of_le (Heap.lt_size e) I.ok.above))).trans e1⟩
  .obtain ⟨o',e1⟩:=I.base.there b o e hx
   exact ⟨o',(hs.2 b (Nat.ne_of_lt (Nat.lt_of_lt_of_le (Heap.lt_size e) I.ok.above))).trans e1⟩
  .by_cases hj:j=i
   .subst hj
    rw [hi] at e1;cases e1
    rw [List.getElem?_set_self hiσ] at e2
    cases e2
    exact ⟨u,r,.inl ⟨hk,by simp⟩⟩
   .rw [List.getElem?_set_ne (Ne.symm hj)] at e2
    obtain ⟨u',r',q⟩:=hl j y v' e1 e2 e3
    refine ⟨u',r',?_⟩
    rcases q with ⟨k,e⟩ | ⟨k,c,e,z⟩
    .refine .inl ⟨k,?_⟩
     have:y≠x:=fun e=>hj (jy hN e1 (e ▸ hi))
     simp [this,e]
    .exact .inr ⟨k,c,e,z.sameBut hs (cne y c e)⟩
  .obtain ⟨w',z⟩:=I.cell y c e
   exact ⟨w',z.sameBut hs (cne y c e)⟩
  .obtain ⟨e,n,ne,nf,d⟩:=I.pin p hp
   exact ⟨(hs.2 p.1 ne).trans e,n,ne,nf,d⟩
 .have hfn:X.fn x=true:=by
   rcases hf with z | z
   .exact z
   .rw [z] at hk;cases hk
  obtain ⟨c,hc⟩:=I.ok.has x (.inl hk)
  obtain ⟨w',z⟩:=I.cell x c hc
  refine wpAny_storeName_cell I.ok.kind hk hc z (fun h' hc' hs=>?_)
  obtain ⟨oc,hoc,hocd⟩:=id z
  refine h { s with heap:=h' } ⟨I.ok,I.os,I.bare,⟨fun b o e n hb hx=>?_,fun b o e n hb hx=>?_,I.base.free,fun b o e hx=>?_,I.base.tups,I.base.frzs,I.base.tbls⟩,⟨m,hn.sameBut hs (Ne.symm (cne x c hc)),fun j y v' e1 e2 e3=>?_⟩,fun y c' e=>?_,I.free,I.freeC,fun p hp=>?_,tracked ⟨oc,hoc,I.freeC x c hc⟩ hs,by simpa using I.len⟩ ⟨c,hs,.inr hc⟩
  .exact (hs.2 b (Nat.ne_of_lt (Nat.lt_of_lt_of_le (Heap.lt_size e) (I.ok.cab x c hfn hc)))).trans (I.base.keep b o e n hb hx)
  .obtain ⟨sl,e1⟩:=I.base.slot b o e n hb hx
   exact ⟨sl,(hs.2 b (Nat.ne_of_lt (Nat.lt_of_lt_of_le (Heap.lt_size e) (I.ok.cab x c hfn hc)))).trans e1⟩
  .obtain ⟨o',e1⟩:=I.base.there b o e hx
   exact ⟨o',(hs.2 b (Nat.ne_of_lt (Nat.lt_of_lt_of_le (Heap.lt_size e) (I.ok.cab x c hfn hc)))).trans e1⟩
  .by_cases hj:j=i
   .subst hj
    rw [hi] at e1;cases e1
    rw [List.getElem?_set_self hiσ] at e2
    cases e2
    exact ⟨u,r,.inr ⟨.inl hk,c,hc,hc'⟩⟩
   .rw [List.getElem?_set_ne (Ne.symm hj)] at e2
    obtain ⟨u',r',q⟩:=hl j y v' e1 e2 e3
    refine ⟨u',r',?_⟩
    rcases q with q | ⟨k,c',e,z'⟩
    .exact .inl q
    .refine .inr ⟨k,c',e,z'.sameBut hs ?_⟩
     rintro rfl
     exact hj (jy hN e1 (I.ok.inj _ _ _ e hc ▸ hi))
  .by_cases hcc:c'=c
   .subst hcc;exact ⟨_,hc'⟩
   .obtain ⟨w2,z2⟩:=I.cell y c' e
    exact ⟨w2,z2.sameBut hs hcc⟩
  .obtain ⟨e,n,ne,nf,d⟩:=I.pin p hp
   refine ⟨(hs.2 p.1 ?_).trans e,n,ne,nf,d⟩
   intro q
   rw [q,hoc] at e
   have q':oc=p.2:=Option.some.inj e
   exact d w' (by rw [<- q'];exact hocd)
theorem gx {M:Model}{A:Around}{E:Value->Shared->Prop}{i:Nat}{x:Str}{v:V}{u:Value}{Q:Unit->Shared->Prop} (I:Inv X pins σ H s) (hN:X.N.Nodup) (hi:X.N[i]?=some x) (hx:Loc X.env.scope x) (r:bK v u)
  (h:∀s',Inv X pins (σ.set i (some v)) H s'->Q () s') (hf:X.fn x=true\/X.env.scope.names.lookup x=some .local:=by first | exact .inl rfl | exact .inr rfl | assumption):wpAny M A (storeName X.env x u) Q E s :=
 kC I hN hi hx r (fun s' I' _=>h s' I') hf
theorem Inv.call' {s':Shared}{ch:List Addr} (I:Inv X pins σ H s) (ho:s'.os=s.os) (u:Un (frs X.stack) ch H H' s.heap s'.heap) (hok:HOk X.prog X.w H' s'.heap) (hg:AllBare s'.gens)
  (hch:∀b∈ch,(b∈X.ex\/X.s₀.heap.objs.size<=b)/\b≠X.env.locals/\(∀x c,X.env.cells.lookup x=some c->c≠b)/\∀p∈X.pn++pins,p.1≠b):Inv X pins σ H' s':=by
 obtain ⟨h',g',d',t',o'⟩:=s'
 have e:o'=s.os:=ho
 subst e
 exact I.call (g':=g') (t':=t') (d':=d') u hok hg hch
end
abbrev XK:=Value->Option Addr->Hp->Prop
abbrev St:=List (Option V)
abbrev VK:=V->Hp->Prop
abbrev TE:=St->Hp->VK->Prop
abbrev TT:=St->Hp->(Bool->Hp->Prop)->Prop
abbrev TA:=St->Hp->(List V->Hp->Prop)->Prop
structure ny where
 nx:St->Hp->Prop
 rt:VK
 bk:St->Hp->Prop:=fun _ _=>False
 ct:St->Hp->Prop:=fun _ _=>False
abbrev TS:=ny->St->Hp->Prop
def EP (X:Cx) (pins:List (Addr×Obj)) (σ:St) (Q:VK) (u:Value) (s':Shared):Prop:=∃v H',Inv X pins σ H' s'/\bK v u/\Q v H'
def TP (X:Cx) (pins:List (Addr×Obj)) (σ:St) (Q:Bool->Hp->Prop) (b:Bool) (s':Shared):Prop:=∃H',Inv X pins σ H' s'/\Q b H'
def AP (X:Cx) (pins:List (Addr×Obj)) (σ:St) (Q:List V->Hp->Prop) (us:List Value) (s':Shared):Prop:=∃vs H',Inv X pins σ H' s'/\aW vs us/\Q vs H'
def SP (X:Cx) (pins:List (Addr×Obj)) (D:ny) (f:Flow) (s':Shared):Prop :=
 match f with
 | .next=>∃σ' H',Inv X pins σ' H' s'/\D.nx σ' H'
 | .brk=>∃σ' H',Inv X pins σ' H' s'/\D.bk σ' H'
 | .cont=>∃σ' H',Inv X pins σ' H' s'/\D.ct σ' H'
 | .ret u=>∃v σ' H',Inv X pins σ' H' s'/\bK v u/\D.rt v H'
def PE (X:Cx) (e:Expr) (t:TE):Prop :=
 ∀(pins:List (Addr×Obj)) (s:Shared) (σ:St) (H:Hp) (Q:VK),Inv X pins σ H s->t σ H Q->wpAny (model X.prog X.w) X.A (eval e X.env) (EP X pins σ Q) X.xe s
def PT (X:Cx) (e:Expr) (t:TT):Prop :=
 ∀(pins:List (Addr×Obj)) (s:Shared) (σ:St) (H:Hp) (Q:Bool->Hp->Prop),Inv X pins σ H s->t σ H Q->wpAny (model X.prog X.w) X.A (isTrue e X.env (eval e X.env)) (TP X pins σ Q) X.xe s
def PW (X:Cx) (e:Expr) (t:TT):Prop :=
 ∀(whole:Sem Value) (pins:List (Addr×Obj)) (s:Shared) (σ:St) (H:Hp) (Q:Bool->Hp->Prop),Inv X pins σ H s->t σ H Q->wpAny (model X.prog X.w) X.A (isTrue e X.env whole) (TP X pins σ Q) X.xe s
theorem PW.pt {X:Cx}{e:Expr}{t:TT} (h:PW X e t):PT X e t:=h _
def PA (X:Cx) (es:List Expr) (t:TA):Prop :=
 ∀(pos:Pos) (pins:List (Addr×Obj)) (s:Shared) (σ:St) (H:Hp) (Q:List V->Hp->Prop),Inv X pins σ H s->t σ H Q->wpAny (model X.prog X.w) X.A (spliced (backTo pos (starEach es X.env))) (AP X pins σ Q) X.xe s
def PS (X:Cx) (st:Stmt) (t:TS):Prop :=
 ∀(pins:List (Addr×Obj)) (s:Shared) (σ:St) (H:Hp) (D:ny),Inv X pins σ H s->t D σ H->wpAny (model X.prog X.w) X.A (exec st X.env) (SP X pins D) X.xe s
def PSs (X:Cx) (st:List Stmt) (t:TS):Prop :=
 ∀(pins:List (Addr×Obj)) (s:Shared) (σ:St) (H:Hp) (D:ny),Inv X pins σ H s->t D σ H->wpAny (model X.prog X.w) X.A (execs st X.env) (SP X pins D) X.xe s
theorem thn {α:Type}{t:Sem α}{Q Q':α->Shared->Prop}{M:Model}{A:Around}{E:Value->Shared->Prop}{s:Shared} (h:wpAny M A t Q E s) (hQ:∀a s,Q a s->Q' a s):wpAny M A t Q' E s:=wpAny_mono h hQ fun _ _ x=>x
section
variable {X:Cx}
def eE (i:Nat):TE:=fun σ H Q=>∃v,σ[i]?=some (some v)/\Q v H
def tC (v:V):TE:=fun _ H Q=>Q v H
theorem qA {i:Nat}{x:Str}{pos:Pos} (hN:X.N[i]?=some x) (hv:Vis X.env.scope x) (hd:(x == ("__debug__":Str))=false:=by decide) (hcd:(x == ("__classdict__":Str))=false:=by decide):PE X (.Name x pos) (eE i):=by
 intro pins s σ H Q I h
 obtain ⟨v,e,h⟩:=h
 obtain ⟨m,hn,hl⟩:=I.loc
 obtain ⟨u,r,l⟩:=hl i x v hN e hv
 have fin:EP X pins σ Q u s:=⟨v,H,I,r,h⟩
 rcases l with ⟨hk,hm⟩ | ⟨hk,c,hc,hcell⟩
 .exact wpAny_Name (wpAny_loadName_local I.ok.kind hk hn hm fin) hd
 .rcases hk with hk | hk
  .exact wpAny_Name (wpAny_loadName_cell I.ok.kind hk hc hcell fin) hd
  .exact wpAny_Name (wpAny_loadName_free I.ok.kind hk hc hcell fin hcd) hd
theorem aj {i j pos}:PE X (.Constant (.int i) j pos) (tC (.int i)):=fun _ _ _ H _ I h=>wpAny_Constant_int ⟨.int i,H,I.tok _,⟨_,rfl⟩,h⟩
theorem dy {b j pos}:PE X (.Constant (.bool b) j pos) (tC (.bl b)):=fun _ _ _ H _ I h=>Constant_bool ⟨.bl b,H,I,rfl,h⟩
theorem qB {j pos}:PE X (.Constant .none j pos) (tC .non):=fun _ _ _ H _ I h=>Constant_none ⟨.non,H,I,rfl,h⟩
theorem qC {x j pos}:PE X (.Constant (.str x) j pos) (tC (.str x)):=fun _ _ _ H _ I h=>Calls.Constant_str ⟨.str x,H,I.tok _,⟨_,rfl⟩,h⟩
def Gl (X:Cx) (x:Str):Prop:=X.env.kindOf x=some .globalImplicit
theorem iU {E:Value->Shared->Prop}{pins:List (Addr×Obj)}{s:Shared}{σ:St}{H:Hp}{x:Str}{u:Value}{pos:Pos}{Q:Value->Shared->Prop} (I:Inv X pins σ H s) (hg:Gl X x) (hm:X.mg x=some u) (h:Q u s)
  (hd:(x == ("__debug__":Str))=false:=by decide):wpAny (model X.prog X.w) X.A (eval (.Name x pos) X.env) Q E s :=
 Calls.Name_function_global I.ok.kind hg (Calls.loadGlobal_global (by rw [I.ok.glob];exact I.mod.glob.keeps I.bk) hm h) hd
theorem dG {E:Value->Shared->Prop}{pins:List (Addr×Obj)}{s:Shared}{σ:St}{H:Hp}{x:Str}{u:Value}{pos:Pos}{Q:Value->Shared->Prop} (I:Inv X pins σ H s) (hg:Gl X x) (hm:X.mg x=none) (hv:bootBuiltins x=some u) (h:Q u s)
  (hn:x≠"__name__":=by decide) (hd:(x == ("__debug__":Str))=false:=by decide):wpAny (model X.prog X.w) X.A (eval (.Name x pos) X.env) Q E s:=by
 obtain ⟨mb,h1,h2⟩:=I.mod.blt
 exact Calls.Name_function_global I.ok.kind hg (Calls.loadGlobal_builtin (by rw [I.ok.glob];exact I.mod.glob.keeps I.bk) hm (by rw [I.ok.blt];exact h1.keeps I.bk) ((h2 x hn).trans hv) h) hd
theorem n6 {x:Str}{v:V}{u:Value}{pos:Pos} (hg:Gl X x) (hm:X.mg x=some u) (r:bK v u) (hd:(x == ("__debug__":Str))=false:=by decide):PE X (.Name x pos) (tC v) :=
 fun _ _ _ H _ I h=>iU I hg hm ⟨v,H,I,r,h⟩ hd
theorem dU {x:Str}{v:V}{u:Value}{pos:Pos} (hg:Gl X x) (hm:X.mg x=none) (hv:bootBuiltins x=some u) (r:bK v u) (hn:x≠"__name__":=by decide) (hd:(x == ("__debug__":Str))=false:=by decide):PE X (.Name x pos) (tC v) :=
 fun _ _ _ H _ I h=>dG I hg hm hv ⟨v,H,I,r,h⟩ hn hd
variable {a b:Expr}{ta tb:TE}{pos:Pos}
def tB (t:TE):TT:=fun σ H Q=>t σ H fun x H1=>∃c,x=.bl c/\Q c H1
theorem qD {e:Expr}{t:TE} (h:PE X e t) (he:∀whole,isTrue e X.env whole=(do let v <- whole;standAt e.pos;holding [v] (truthy v)):=by intro _;rfl):PT X e (tB t):=by
 intro pins s σ H Q I hw
 refine isTrue_plain (thn (h pins s σ H _ I hw) fun v s1 ⟨x,H1,I1,r1,q1⟩=>?_) (he _)
 obtain ⟨d,rfl,q⟩:=q1
 cases r1
 exact wpAny_truthy_bool ⟨H1,I1,q⟩
variable {tA tB':TT}{rest:List Expr}
def uv (t u:TT):TT:=fun σ H Q=>t σ H fun c H1=>if c=true then u σ H1 Q else Q false H1
def tOr (t u:TT):TT:=fun σ H Q=>t σ H fun c H1=>if c=true then Q true H1 else u σ H1 Q
def sW (t:TT):TT:=fun σ H Q=>t σ H fun c H1=>Q (!c) H1
theorem iV (ha:PT X a tA):PW X (.BoolOp .And [a] pos) tA:=by
 intro wh pins s σ H Q I h
 refine isTrue_and (thn (ha pins s σ H Q I h) fun c s1 e=>?_)
 cases c with
 | true=>exact isTrue_and_nil e
 | false=>exact e
theorem kE (ha:PT X a tA):PW X (.BoolOp .Or [a] pos) tA:=by
 intro wh pins s σ H Q I h
 refine isTrue_or (thn (ha pins s σ H Q I h) fun c s1 e=>?_)
 cases c with
 | false=>exact isTrue_or_nil e
 | true=>exact e
theorem kF (ha:PT X a tA) (hb:PW X (.BoolOp .And (b::rest) pos) tB'):PW X (.BoolOp .And (a::b::rest) pos) (uv tA tB'):=by
 intro wh pins s σ H Q I h
 refine isTrue_and (thn (ha pins s σ H _ I h) fun c s1 ⟨H1,I1,q1⟩=>?_)
 cases c with
 | true=>exact hb wh pins s1 σ H1 Q I1 q1
 | false=>exact ⟨H1,I1,q1⟩
theorem mf (ha:PT X a tA) (hb:PW X (.BoolOp .Or (b::rest) pos) tB'):PW X (.BoolOp .Or (a::b::rest) pos) (tOr tA tB'):=by
 intro wh pins s σ H Q I h
 refine isTrue_or (thn (ha pins s σ H _ I h) fun c s1 ⟨H1,I1,q1⟩=>?_)
 cases c with
 | true=>exact ⟨H1,I1,q1⟩
 | false=>exact hb wh pins s1 σ H1 Q I1 q1
theorem fT (ha:PT X a tA):PT X (.UnaryOp .Not a pos) (sW tA):=by
 intro pins s σ H Q I h
 exact isTrue_not (ha pins s σ H (fun c H1=>Q (!c) H1) I h)
def n8 (ta tb:TE):TE:=fun σ H Q=>ta σ H fun x H1=>∃c,x=.bl c/\if c=true then tb σ H1 Q else Q (.bl false) H1
def qE (ta:TE):TE:=fun σ H Q=>ta σ H fun x H1=>∃c,x=.bl c/\Q (.bl (!c)) H1
theorem nA {op}{t:TE} (h:PE X a t):PE X (.BoolOp op [a] pos) t:=fun pins s σ H Q I hw=>BoolOp_one (h pins s σ H Q I hw)
theorem nB (ha:PE X a ta) (hb:PE X (.BoolOp .And (b::rest) pos) tb):PE X (.BoolOp .And (a::b::rest) pos) (n8 ta tb):=by
 intro pins s σ H Q I h
 refine BoolOp_and (thn (ha pins s σ H _ I h) fun v s1 ⟨x,H1,I1,r1,q1⟩=>?_)
 obtain ⟨c,rfl,q1⟩:=q1
 cases r1
 refine wpAny_truthy_bool ?_
 cases c with
 | true=>exact hb pins s1 σ H1 Q I1 q1
 | false=>exact ⟨.bl false,H1,I1,rfl,q1⟩
theorem qF (ha:PE X a ta):PE X (.UnaryOp .Not a pos) (qE ta):=by
 intro pins s σ H Q I h
 refine UnaryOp_ (thn (ha pins s σ H _ I h) fun v s1 ⟨x,H1,I1,r1,q1⟩=>?_)
 obtain ⟨c,rfl,q1⟩:=q1
 cases r1
 exact not_of (wpAny_truthy_bool ⟨.bl (!c),H1,I1,rfl,q1⟩)
end
def SqL (K:PySem.W.Frag) (H:Hp) (a:Addr) (xs:List V):Prop :=
 Rd H a (.lst xs) \/
  ∃(o:Obj) (its:Array Value) (n:Nat),K.lookup a=some o/\o.cls=.type "list"/\o.dict=none/\o.data=.seq its n/\its.size<=sizeLine/\aW xs its.toList
def SqT (K:PySem.W.Frag) (H:Hp) (a:Addr) (xs:List V):Prop :=
 Rd H a (.tup xs) \/
  ∃(o:Obj) (its:Array Value) (n:Nat),K.lookup a=some o/\o.cls=.type "tuple"/\o.data=.seq its n/\its.size<=sizeLine/\aW xs its.toList
def ve:Value->Option V
 | .none=>some .non
 | .bool b=>some (.bl b)
 | .int i _=>some (.int i)
 | .str x _=>some (.str x)
 | .bytes b _=>some (.byt b)
 | .float b _=>some (.flt b)
 | .ref a=>some (.ref a)
 | .type n=>some (.ty n)
 | _=>none
theorem bK.abs {x:V}{u:Value} (r:bK x u):ve u=some x:=by
 cases x with
 | non=>cases r;rfl
 | bl _=>cases r;rfl
 | int _=>obtain ⟨t,rfl⟩:=r;rfl
 | str _=>obtain ⟨t,rfl⟩:=r;rfl
 | byt _=>obtain ⟨t,rfl⟩:=r;rfl
 | flt _=>obtain ⟨t,rfl⟩:=r;rfl
 | ref _=>cases r;rfl
 | ty _=>cases r;rfl
theorem bK.inj {x y:V}{u:Value} (r:bK x u) (q:bK y u):x=y:=Option.some.inj (r.abs.symm.trans q.abs)
theorem aW.inj:∀{xs ys:List V}{us:List Value},aW xs us->aW ys us->xs=ys
 | _,_,_,.nil,.nil=>rfl
 | _,_,_,.cons r t,.cons r' t'=>by rw [r.inj r',aW.inj t t']
section
variable {X:Cx}{pins:List (Addr×Obj)}{σ:St}{H:Hp}{s:Shared}{a:Addr}{xs ys:List V}
theorem SqL.of {K:PySem.W.Frag} (h:H a=some (.lst xs)):SqL K H a xs:=.inl (.inl h)
theorem SqT.of {K:PySem.W.Frag} (h:H a=some (.tup xs)):SqT K H a xs:=.inl (.inl h)
theorem Inv.list (I:Inv X pins σ H s) (h:SqL X.K H a xs):∃its:List Value,aW xs its/\PlainL s.heap a its.toArray/\xs.length<=sizeLine:=by
 rcases h with h | ⟨o,its,n,hk,hc,hd,hs,hz,r⟩
 .obtain ⟨z,its,n,r,e⟩:=h.ok I.hok
  exact ⟨its,r,⟨_,n,e,rfl,rfl,rfl⟩,z⟩
 .refine ⟨its.toList,r,⟨o,n,I.kIn a o hk,hc,hd,by simpa using hs⟩,?_⟩
  have e:=r.length
  simp only [Array.length_toList] at e
  omega
theorem Inv.tuple (I:Inv X pins σ H s) (h:SqT X.K H a xs):∃its:List Value,aW xs its/\IsTup s.heap a its.toArray/\xs.length<=sizeLine:=by
 rcases h with h | ⟨o,its,n,hk,hc,hs,hz,r⟩
 .obtain ⟨z,its,r,p⟩:=h.ok I.hok
  exact ⟨its,r,p,z⟩
 .refine ⟨its.toList,r,⟨o,I.kIn a o hk,hc,n,by simpa using hs⟩,?_⟩
  have e:=r.length
  simp only [Array.length_toList] at e
  omega
theorem Inv.list_inj (I:Inv X pins σ H s) (h:SqL X.K H a xs) (h':SqL X.K H a ys):xs=ys:=by
 obtain ⟨its,r,⟨o,n,e,_,_,d⟩,_⟩:=I.list h
 obtain ⟨its',r',⟨o',n',e',_,_,d'⟩,_⟩:=I.list h'
 rw [e] at e';cases e'
 rw [d] at d'
 injection d' with d1 _
 have:its=its':=by simpa using congrArg Array.toList d1
 subst this
 exact r.inj r'
theorem Inv.tuple_inj (I:Inv X pins σ H s) (h:SqT X.K H a xs) (h':SqT X.K H a ys):xs=ys:=by
 obtain ⟨its,r,⟨o,e,_,n,d⟩,_⟩:=I.tuple h
 obtain ⟨its',r',⟨o',e',_,n',d'⟩,_⟩:=I.tuple h'
 rw [e] at e';cases e'
 rw [d] at d'
 injection d' with d1 _
 have:its=its':=by simpa using congrArg Array.toList d1
 subst this
 exact r.inj r'
end
abbrev Cx.wish (X:Cx) (E:Value->Shared->Prop):Cx:={ X with xe:=E }
abbrev Cx.nox (X:Cx):Cx:=X.wish fun _ _=>False
theorem Cx.Ok.wish {X:Cx} (ok:X.Ok) (E:Value->Shared->Prop):(X.wish E).Ok :=
 ⟨ok.mod,ok.kind,ok.glob,ok.blt,ok.above,ok.inj,ok.has,ok.cab,ok.hd,ok.frames,ok.stk,ok.exf,ok.bs,ok.bsz,ok.noex,ok.exfs,ok.funs,ok.frf⟩
theorem Cx.Ok.unwish {X:Cx}{E:Value->Shared->Prop} (ok:(X.wish E).Ok):X.Ok :=
 ⟨ok.mod,ok.kind,ok.glob,ok.blt,ok.above,ok.inj,ok.has,ok.cab,ok.hd,ok.frames,ok.stk,ok.exf,ok.bs,ok.bsz,ok.noex,ok.exfs,ok.funs,ok.frf⟩
section
variable {X:Cx}{pins:List (Addr×Obj)}{σ:St}{H:Hp}{s:Shared}{E:Value->Shared->Prop}
theorem Inv.wish (I:Inv X pins σ H s) (E:Value->Shared->Prop):Inv (X.wish E) pins σ H s:=⟨I.ok.wish E,I.os,I.bare,I.base,I.loc,I.cell,I.free,I.freeC,I.pin,I.hok,I.len⟩
theorem Inv.unwish (I:Inv (X.wish E) pins σ H s):Inv X pins σ H s:=⟨I.ok.unwish,I.os,I.bare,I.base,I.loc,I.cell,I.free,I.freeC,I.pin,I.hok,I.len⟩
theorem SP.unwish {D:ny}{f:Flow}{s':Shared} (h:SP (X.wish E) pins D f s'):SP X pins D f s':=by
 cases f with
 | next=>obtain ⟨σ',H',I,q⟩:=h;exact ⟨σ',H',I.unwish,q⟩
 | brk=>obtain ⟨σ',H',I,q⟩:=h;exact ⟨σ',H',I.unwish,q⟩
 | cont=>obtain ⟨σ',H',I,q⟩:=h;exact ⟨σ',H',I.unwish,q⟩
 | ret u=>obtain ⟨v,σ',H',I,r,q⟩:=h;exact ⟨v,σ',H',I.unwish,r,q⟩
theorem PSs.nox {st:List Stmt}{t:TS} (h:PSs X.nox st t):PSs X st t:=fun pins s σ H D I hw =>
 wpAny_mono (h pins s σ H D (I.wish _) hw) (fun _ _ q=>q.unwish) fun _ _ z=>False.elim z
end
section
variable {X:Cx}{st:Stmt}{rest:List Stmt}{t u:TS}{e:Expr}{te:TE}{pos:Pos}
def qG:TS:=fun D σ H=>D.nx σ H
def uw (t u:TS):TS:=fun D σ H=>t { D with nx:=u D } σ H
theorem cb:PSs X [] qG:=fun _ _ σ H _ I h=>wpAny_execs_nil ⟨σ,H,I,h⟩
theorem al (h1:PS X st t) (h2:PSs X rest u):PSs X (st::rest) (uw t u):=by
 intro pins s σ H D I h
 refine wpAny_execs_cons (thn (h1 pins s σ H { D with nx:=u D } I h) fun f s1 q=>?_)
 cases f with
 | next =>
  obtain ⟨σ',H',I',q⟩:=q
  exact h2 pins s1 σ' H' D I' q
 | ret v=>exact q
 | brk=>exact q
 | cont=>exact q
theorem aA (h1:PS X st t):PSs X [st] t:=by
 intro pins s σ H D I h
 refine wpAny_execs_cons (thn (h1 pins s σ H D I h) fun f s1 q=>?_)
 cases f with
 | next=>exact wpAny_execs_nil q
 | ret v=>exact q
 | brk=>exact q
 | cont=>exact q
theorem Inv.quiet {pins:List (Addr×Obj)}{σ:St}{H:Hp}{s:Shared} (I:Inv X pins σ H s):interactive X.env=false:=by simp [interactive,I.ok.kind]
def qH (te:TE):TS:=fun D σ H=>te σ H fun _ H1=>D.nx σ H1
theorem gy (he:PE X e te) (hs:swapsWith e none pos.line X.env=pure false:=by rfl):PS X (.Expr e pos) (qH te):=by
 intro pins s σ H D I h
 exact wpAny_Expr_any (thn (he pins s σ H _ I h) fun v s1 ⟨x,H1,I1,r1,q1⟩=>⟨σ,H1,I1,q1⟩) I.quiet hs
def sX (te:TE):TS:=fun D σ H=>te σ H D.rt
theorem bd (he:PE X e te):PS X (.Return (some e) pos) (sX te):=by
 intro pins s σ H D I h
 exact wpAny_Return_some (thn (he pins s σ H _ I h) fun v s1 ⟨x,H1,I1,r1,q1⟩=>⟨x,σ,H1,I1,r1,q1⟩)
def uz (c:TT) (t u:TS):TS:=fun D σ H=>c σ H fun b H1=>if b=true then t D σ H1 else u D σ H1
theorem fK {c:Expr}{a b:List Stmt}{tc:TT} (hc:PT X c tc) (ha:PSs X a t) (hb:PSs X b u):PS X (.If c a b pos) (uz tc t u):=by
 intro pins s σ H D I h
 refine wpAny_If (thn (hc pins s σ H _ I h) fun d s1 ⟨H1,I1,q1⟩=>?_)
 cases d with
 | true=>exact ha pins s1 σ H1 D I1 q1
 | false=>exact hb pins s1 σ H1 D I1 q1
end
abbrev TG:=V->St->Hp->(St->Hp->Prop)->Prop
abbrev TGs:=List V->St->Hp->(St->Hp->Prop)->Prop
def PG (X:Cx) (target:Expr) (t:TG):Prop :=
 ∀(pins:List (Addr×Obj)) (s:Shared) (σ:St) (H:Hp) (v:V) (u:Value) (Q:St->Hp->Prop),Inv X pins σ H s->bK v u->t v σ H Q ->
  wpAny (model X.prog X.w) X.A (assign target X.env u) (fun _ s'=>∃σ' H',Inv X pins σ' H' s'/\Q σ' H') X.xe s
def PGs (X:Cx) (ts:List Expr) (t:TGs):Prop :=
 ∀(pins:List (Addr×Obj)) (s:Shared) (σ:St) (H:Hp) (vs:List V) (us:List Value) (Q:St->Hp->Prop),Inv X pins σ H s->aW vs us->t vs σ H Q ->
  wpAny (model X.prog X.w) X.A (assignInOrder ((assignEach ts X.env).map (·.2)) us) (fun _ s'=>∃σ' H',Inv X pins σ' H' s'/\Q σ' H') X.xe s
abbrev sY:=V->V->V->Hp->(Hp->Prop)->Prop
def uA (X:Cx) (t:sY):Prop :=
 ∀(pins:List (Addr×Obj)) (s:Shared) (σ:St) (H:Hp) (o i v:V) (ov iv u:Value) (Q:Hp->Prop),Inv X pins σ H s->bK o ov->bK i iv->bK v u->t o i v H Q ->
  wpAny (model X.prog X.w) X.A (setItem ov iv u) (fun _ s'=>∃H',Inv X pins σ H' s'/\Q H') X.xe s
section
variable {X:Cx}{pos:Pos}
def fL (i:Nat):TG:=fun v σ H Q=>Q (σ.set i (some v)) H
theorem bv {i:Nat}{x:Str} (hN:X.N.Nodup) (hi:X.N[i]?=some x) (hx:Loc X.env.scope x) (hf:X.fn x=true\/X.env.scope.names.lookup x=some .local:=by first | exact .inl rfl | exact .inr rfl | assumption):PG X (.Name x pos) (fL i):=by
 intro pins s σ H v u Q I r h
 exact wpAny_assign_Name (gx I hN hi hx r (fun s' I'=>⟨_,H,I',h⟩) hf)
def uB:TGs:=fun vs σ H Q=>vs=[]/\Q σ H
def qI (t:TG) (u:TGs):TGs:=fun vs σ H Q=>∃v r,vs=v::r/\t v σ H fun σ' H'=>u r σ' H' Q
theorem n9:PGs X [] uB:=by
 intro pins s σ H vs us Q I r h
 obtain ⟨e,h⟩:=h
 subst e
 cases r
 exact assignInOrder_nil ⟨σ,H,I,h⟩
theorem jA {e:Expr}{es:List Expr}{t:TG}{u:TGs} (h1:PG X e t) (h2:PGs X es u)
  (hs:(assignEach (e::es) X.env).map (·.2)=assign e X.env::(assignEach es X.env).map (·.2):=by rfl):PGs X (e::es) (qI t u):=by
 intro pins s σ H vs us Q I r h
 obtain ⟨v,vr,e1,h⟩:=h
 subst e1
 cases r with
 | cons r rr =>
  rw [hs]
  refine assignInOrder_cons (thn (h1 pins s σ H _ _ _ I r h) fun _ s1 ⟨σ1,H1,I1,q1⟩=>?_)
  exact h2 pins s1 σ1 H1 _ _ Q I1 rr q1
def vf (K:PySem.W.Frag) (n:Nat) (t:TGs):TG:=fun v σ H Q=>∃a xs,v=.ref a/\SqT K H a xs/\xs.length=n/\t xs σ H Q
theorem qJ {es:List Expr}{k:Nat}{t:TGs}{n:Nat} (hc:X.calm=true) (h:PGs X es t)
  (hn:(assignEach es X.env).length=n:=by rfl) (hst:(assignEach es X.env).findIdx? (·.1)=none:=by rfl):PG X (.Tuple es k pos) (vf X.K n t):=by
 intro pins s σ H v u Q I r hw
 obtain ⟨a,xs,e1,hq,hl,hw⟩:=hw
 subst e1
 cases r
 obtain ⟨its,rv,ht,hz⟩:=I.tuple hq
 refine assign_Tuple_tuple (I.ok.hd hc) ht (by simp [hn,<- hl,rv.length]) hst fun h' hx=>?_
 have I1:Inv X pins σ H { s with heap:=h' }:=I.kept (t':=s.toks) fun b o e=>hx b o (Nat.ne_of_lt (Heap.lt_size e)) e
 exact h pins _ σ H xs _ Q I1 (by simpa using rv) hw
def uC (to ti:TE) (t:sY):TG:=fun v σ H Q=>to σ H fun o H1=>ti σ H1 fun i H2=>t o i v H2 fun H3=>Q σ H3
theorem qK {o i:Expr}{to ti:TE}{t:sY} (ho:PE X o to) (hi:PE X i ti) (hs:uA X t)
  (ha:∀v,assign (.Subscript o i pos) X.env v=(do
   let ov <- holding [v] (eval o X.env)
   let iv <- holding [v,ov] (eval i X.env)
   standAt pos
   holding [v,ov,iv] (setItem ov iv v)
   release [v,ov,iv] []):=by intro _;rfl):PG X (.Subscript o i pos) (uC to ti t):=by
 intro pins s σ H v u Q I r h
 rw [ha]
 refine wpAny_bind (wpAny_holding (thn (ho pins s σ H _ I h) fun ov s1 ⟨x,H1,I1,r1,q1⟩=>?_))
 refine wpAny_bind (wpAny_holding (thn (hi pins s1 σ H1 _ I1 q1) fun iv s2 ⟨y,H2,I2,r2,q2⟩=>?_))
 refine wpAny_bind (wpAny_standAt (wpAny_bind (wpAny_holding (thn (hs pins s2 σ H2 x y v ov iv u _ I2 r1 r2 r q2) fun _ s3 ⟨H3,I3,q3⟩=>?_))))
 exact wpAny_release ⟨σ,H3,I3,q3⟩
def p8 (te:TE) (g:TG):TS:=fun D σ H=>te σ H fun x H1=>g x σ H1 D.nx
theorem qL {tg e:Expr}{te:TE}{g:TG} (he:PE X e te) (hg:PG X tg g) (hs:swapsWithSole [tg] e pos.line X.env=pure false:=by rfl) (hw:swappedStores [tg] e X.env=pure none:=by rfl)
  (h1:(assignEach [tg] X.env).map (·.2)=[assign tg X.env]:=by rfl):PS X (.Assign [tg] e pos) (p8 te g):=by
 intro pins s σ H D I h
 refine wpAny_Assign_stores (thn (he pins s σ H _ I h) fun v s1 ⟨x,H1,I1,r1,q1⟩=>?_) hs hw
 rw [h1]
 exact thn (hg pins s1 σ H1 x v _ I1 r1 q1) fun _ s2 q=>q
theorem bn {i:Nat}{x:Str}{e:Expr}{te:TE}{pos':Pos} (hN:X.N.Nodup) (hi:X.N[i]?=some x) (hx:Loc X.env.scope x) (he:PE X e te) (hs:swapsWith e (some (.Name x pos')) pos.line X.env=pure false:=by rfl) (hf:X.fn x=true\/X.env.scope.names.lookup x=some .local:=by first | exact .inl rfl | exact .inr rfl | assumption) :
  PS X (.Assign [.Name x pos'] e pos) (p8 te (fL i)):=by
 intro pins s σ H D I h
 refine wpAny_Assign_Name (thn (he pins s σ H _ I h) fun v s1 ⟨y,H1,I1,r1,q1⟩=>?_) hs
 exact gx I1 hN hi hx r1 (fun s2 I2=>⟨_,H1,I2,q1⟩) hf
end
section
variable {X:Cx}{pos:Pos}
def nC (c:TT) (tb:TS):TS:=fun D σ H=>∃W:Nat->St->Hp->Prop,(∃m,W m σ H)/\∀m σ H,W m σ H ->
 c σ H fun b H1=>if b=true then ∃N:St->Hp->Prop,(∀σ' H',N σ' H'->∃m',m' < m/\W m' σ' H')/\tb { D with nx:=N,ct:=N,bk:=D.nx } σ H1 else D.nx σ H1
theorem mh {c:Expr}{body:List Stmt}{tc:TT}{tb:TS} (hp:PassesOwn (model X.prog X.w) X.A X.env X.xe) (hc:PT X c tc) (hb:PSs X body tb):PS X (.While c body [] pos) (nC tc tb):=by
 intro pins s σ H D I h
 obtain ⟨W,⟨m0,w0⟩,turn⟩:=h
 refine wpAny_While (codeAny_whileLoop (fun n s'=>∃σ' H',Inv X pins σ' H' s'/\W n σ' H') ?_ m0 ⟨σ,H,I,w0⟩)
 rintro n s1 ⟨σ1,H1,I1,w1⟩
 refine wpAny_passesOwn hp (thn (hc pins s1 σ1 H1 _ I1 (turn n σ1 H1 w1)) fun b s2 ⟨H2,I2,q2⟩=>?_)
 cases b with
 | true =>
  obtain ⟨N,hN,q2⟩:=q2
  rw [if_pos rfl]
  refine wpAny_passesOwn hp (thn (hb pins s2 σ1 H2 _ I2 q2) fun f s3 q3=>?_)
  cases f with
  | next =>
   obtain ⟨σ3,H3,I3,n3⟩:=q3
   obtain ⟨m',hm,w3⟩:=hN σ3 H3 n3
   exact ⟨m',hm,σ3,H3,I3,w3⟩
  | cont =>
   obtain ⟨σ3,H3,I3,n3⟩:=q3
   obtain ⟨m',hm,w3⟩:=hN σ3 H3 n3
   exact ⟨m',hm,σ3,H3,I3,w3⟩
  | brk=>exact q3
  | ret v=>exact q3
 | false =>
  rw [if_neg Bool.false_ne_true]
  exact wpAny_execs_nil ⟨σ1,H2,I2,q2⟩
end
structure It where
 go:Nat->Hp->Prop
 yld:Nat->Hp->V->Hp->Prop
 stop:Nat->Hp->Prop
def j1 (X:Cx) (pins:List (Addr×Obj)) (H:Hp) (b:Addr):Prop :=
 H b=none/\b≠X.env.locals/\b∉X.fs/\(b∈X.ex\/X.s₀.heap.objs.size<=b)/\(∀x c,X.env.cells.lookup x=some c->c≠b)/\∀p∈X.pn++pins,p.1≠b
theorem Inv.fpOk {X:Cx}{pins:List (Addr×Obj)}{σ:St}{H H':Hp}{s:Shared}{b:Addr} (I:Inv X pins σ H s) (hb:s.heap.objs.size<=b) (hn:H' b=none):j1 X pins H' b:=by
 refine ⟨hn,Nat.ne_of_gt (Nat.lt_of_lt_of_le I.lt hb),I.nofs hb,.inr (Nat.le_trans I.sz hb),fun x c e z=>?_,fun p hp z=>?_⟩
 .obtain ⟨v,q⟩:=I.cell x c e
  exact absurd (Nat.lt_of_lt_of_le q.lt (by rw [z];exact hb)) (Nat.lt_irrefl _)
 .exact absurd (Nat.lt_of_lt_of_le (Heap.lt_size (I.pin p hp).1) (by rw [z];exact hb)) (Nat.lt_irrefl _)
structure oa (P:Program) (w:World) (K:PySem.W.Frag) (tg:Expr) (J:It) (fp:List Addr) (it:Addr) (tn:Nat->Heap->Prop):Prop where
 mem:it∈fp
 obj:∀i h,tn i h->∀b∈fp,∃o,h.get? b=some o/\∀v,o.data≠.cell v
 keep:∀i h h',tn i h->(∀b∈fp,∀o,h.get? b=some o->h'.get? b=some o)->tn i h'
 item:∀(X:Cx),X.prog=P->X.w=w->X.K=K->X.calm=true->∀(i:Nat) (pins:List (Addr×Obj)) (s:Shared) (σ:St) (H:Hp) (E:Value->Shared->Prop),Inv X pins σ H s->(∀b∈fp,j1 X pins H b)->tn i s.heap->J.go i H ->
  wpAny (model P w) X.A (pyNext (.ref it)) (fun r s1=>∃u,r=some u /\
   wpAny (model P w) X.A (letOwnedTupleGo tg (.ref it) u) (fun _ s2=>∃x H',Inv X pins σ H' s2/\bK x u/\J.yld i H x H'/\tn (i + 1) s2.heap/\∀b∈fp,H' b=none) E s1) E s
 done:∀(X:Cx),X.prog=P->X.w=w->X.K=K->X.calm=true->∀(i:Nat) (pins:List (Addr×Obj)) (s:Shared) (σ:St) (H:Hp) (E:Value->Shared->Prop),Inv X pins σ H s->(∀b∈fp,j1 X pins H b)->tn i s.heap->J.stop i H ->
  wpAny (model P w) X.A (pyNext (.ref it)) (fun r s1=>r=none/\Inv X pins σ H s1) E s
 self:∀(A:Around) (i:Nat) (s:Shared) (Q:Value->Shared->Prop) (E:Value->Shared->Prop),tn i s.heap->Q (.ref it) s->wpAny (model P w) A (pyIter (.ref it)) Q E s
abbrev TI:=St->Hp->(It->Hp->Prop)->Prop
def PIE (X:Cx) (pins:List (Addr×Obj)) (σ:St) (tg:Expr) (R:It->Hp->Prop) (itv:Value) (s2:Shared):Prop :=
 ∃(it:Addr) (fp:List Addr) (tn:Nat->Heap->Prop) (J:It) (H':Hp),itv=.ref it/\Inv X pins σ H' s2/\oa X.prog X.w X.K tg J fp it tn/\tn 0 s2.heap/\(∀b∈fp,j1 X pins H' b)/\R J H'
def PI (X:Cx) (tg iter:Expr) (wi:TI):Prop :=
 ∀(pins:List (Addr×Obj)) (s:Shared) (σ:St) (H:Hp) (R:It->Hp->Prop),Inv X pins σ H s->wi σ H R ->
  wpAny (model X.prog X.w) X.A (eval iter X.env) (fun v s1=>wpAny (model X.prog X.w) X.A (pyIter v) (PIE X pins σ tg R) X.xe s1) X.xe s
theorem og {M:Model}{A:Around}{E:Value->Shared->Prop}{s:Shared}{tg:Expr}{it:Addr}{u:Value}{o:Obj}{n:String}{vs:Array Value}{Q:Unit->Shared->Prop} (ho:s.heap.get? it=some o) (hc:o.cls=.type n) (hd:o.data=.fields vs)
    (hn:["enumerate","zip","dict_itemiterator","dict_reverseitemiterator","odict_iterator","itertools.zip_longest","itertools.pairwise"].contains n=false) (hQ:Q () s):wpAny M A (letOwnedTupleGo tg (.ref it) u) Q E s:=by
  unfold letOwnedTupleGo
  cases tg <;> first
    | exact wpAny_pure hQ
    | (cases u <;> first
        | exact wpAny_pure hQ
        | (refine wpAny_bind (wpAny_load ho ?_)
           rw [hc,hd]
           show wpAny M A (if (["enumerate","zip","dict_itemiterator","dict_reverseitemiterator","odict_iterator","itertools.zip_longest","itertools.pairwise"].contains n && vs[0]? == some (rawInt _))=true then _ else _) Q E s
           rw [if_neg (by intro h;rw [hn,Bool.false_and] at h;cases h)]
           exact wpAny_pure hQ))
def Itl (K:PySem.W.Frag) (a:Addr):It :=
 ⟨fun i H=>∃xs x,SqL K H a xs/\xs[i]?=some x,fun i H x H'=>H'=H/\∀xs,SqL K H a xs->xs[i]?=some x,fun i H=>∃xs,SqL K H a xs/\xs.length<=i⟩
def Itt (K:PySem.W.Frag) (a:Addr):It :=
 ⟨fun i H=>∃xs x,SqT K H a xs/\xs[i]?=some x,fun i H x H'=>H'=H/\∀xs,SqT K H a xs->xs[i]?=some x,fun i H=>∃xs,SqT K H a xs/\xs.length<=i⟩
def Itr (lo:Int) (n:Nat):It:=⟨fun i _=>i < n,fun i H x H'=>H'=H/\x=.int (lo + i),fun i _=>n<=i⟩
theorem kG {P:Program}{w:World}{K:PySem.W.Frag}{tg:Expr} (a it:Addr):oa P w K tg (Itl K a) [it] it (fun i h=>h.IsListIter it a i) where
 mem:=by simp
 obj:=fun i h st b hb=>by
  have e:b=it:=by simpa using hb
  subst e
  obtain ⟨o,e,c,d⟩:=st
  exact ⟨o,e,fun v z=>by rw [d] at z;cases z⟩
 keep:=fun i h h' st k=>st.at fun o e=>k it (by simp) o e
 item:=by
  intro X hP hw hK hc i pins s σ H E I hf st hg
  subst hP hw hK
  obtain ⟨xs,x,hq,hx⟩:=hg
  obtain ⟨its,rv,p,hz⟩:=I.list hq
  obtain ⟨u,hu,ru⟩:=rv.get hx
  obtain ⟨f0,f1,f2,f3,f4,f5⟩:=hf it (by simp)
  refine wpAny_pyNext_list_item st p.isList (x:=u) (by simpa using hu) fun h' st' sb=>?_
  have I1:Inv X pins σ H { s with heap:=h' }:=I.turned (t':=s.toks) (fun b o hb e=>(sb.2 b hb).trans e) f0 f1 f3 f4 f5
  obtain ⟨o,e,c,d⟩:=id st'
  exact ⟨u,rfl,og (s:={ s with heap:=h' }) e c d (by decide) ⟨x,H,I1,ru,⟨rfl,fun ys hy=>by rw [I.list_inj hy hq];exact hx⟩,st',fun b hb=>(hf b hb).1⟩⟩
 done:=by
  intro X hP hw hK hc i pins s σ H E I hf st hg
  subst hP hw hK
  obtain ⟨xs,hq,hx⟩:=hg
  obtain ⟨its,rv,p,hz⟩:=I.list hq
  obtain ⟨f0,f1,f2,f3,f4,f5⟩:=hf it (by simp)
  have hl:=rv.length
  exact wpAny_pyNext_list_end (I.ok.hd hc) st p.isList (by simp;omega) fun h' eb=>⟨rfl,I.turned (t':=s.toks) (fun b o hb e=>eb b o hb e) f0 f1 f3 f4 f5⟩
 self:=fun _ _ _ _ _ st h=>wpAny_pyIter_listiter st h
theorem j2 {P:Program}{w:World}{K:PySem.W.Frag}{tg:Expr} (a it:Addr):oa P w K tg (Itt K a) [it] it (fun i h=>h.IsTupleIter it a i) where
 mem:=by simp
 obj:=fun i h st b hb=>by
  have e:b=it:=by simpa using hb
  subst e
  obtain ⟨o,e,c,d⟩:=st
  exact ⟨o,e,fun v z=>by rw [d] at z;cases z⟩
 keep:=fun i h h' st k=>st.at fun o e=>k it (by simp) o e
 item:=by
  intro X hP hw hK hc i pins s σ H E I hf st hg
  subst hP hw hK
  obtain ⟨xs,x,hq,hx⟩:=hg
  obtain ⟨its,rv,p,hz⟩:=I.tuple hq
  obtain ⟨u,hu,ru⟩:=rv.get hx
  obtain ⟨f0,f1,f2,f3,f4,f5⟩:=hf it (by simp)
  refine wpAny_pyNext_tuple_item st (show s.heap.IsTuple a its.toArray from p) (x:=u) (by simpa using hu) fun h' st' sb=>?_
  have I1:Inv X pins σ H { s with heap:=h' }:=I.turned (t':=s.toks) (fun b o hb e=>(sb.2 b hb).trans e) f0 f1 f3 f4 f5
  obtain ⟨o,e,c,d⟩:=id st'
  exact ⟨u,rfl,og (s:={ s with heap:=h' }) e c d (by decide) ⟨x,H,I1,ru,⟨rfl,fun ys hy=>by rw [I.tuple_inj hy hq];exact hx⟩,st',fun b hb=>(hf b hb).1⟩⟩
 done:=by
  intro X hP hw hK hc i pins s σ H E I hf st hg
  subst hP hw hK
  obtain ⟨xs,hq,hx⟩:=hg
  obtain ⟨its,rv,p,hz⟩:=I.tuple hq
  obtain ⟨f0,f1,f2,f3,f4,f5⟩:=hf it (by simp)
  have hl:=rv.length
  exact wpAny_pyNext_tuple_end (I.ok.hd hc) st (show s.heap.IsTuple a its.toArray from p) (by simp;omega) fun h' eb=>⟨rfl,I.turned (t':=s.toks) (fun b o hb e=>eb b o hb e) f0 f1 f3 f4 f5⟩
 self:=fun _ _ _ _ _ st h=>wpAny_pyIter_tupleiter st h
theorem j3 {P:Program}{w:World}{K:PySem.W.Frag}{tg:Expr} (it:Addr) (lo:Int) (n:Nat):oa P w K tg (Itr lo n) [it] it (fun i h=>IsRangeIter h it (lo + (i:Nat) * 1) ((n:Int) - (i:Nat)) 1) where
 mem:=by simp
 obj:=fun i h st b hb=>by
  have e:b=it:=by simpa using hb
  subst e
  exact ⟨_,st,fun v z=>by
   have z':Data.fields _=Data.cell v:=z
   cases z'⟩
 keep:=fun i h h' st k=>k it (by simp) _ st
 item:=by
  intro X hP hw hK hc i pins s σ H E I hf st hg
  subst hP hw hK
  obtain ⟨f0,f1,f2,f3,f4,f5⟩:=hf it (by simp)
  have W:=Walks.range (prog:=X.prog) (w:=X.w) (I.ok.hd hc) it lo 1 n
  refine W.item i s _ _ hg st fun v h' tk hv st' kk=>?_
  obtain ⟨t,rfl⟩:=hv
  have I1:Inv X pins σ H { s with heap:=h',toks:=tk }:=I.turned (fun b o hb e=>kk b o (by simpa using hb) e) f0 f1 f3 f4 f5
  refine ⟨_,rfl,og (s:={ s with heap:=h',toks:=tk }) (n:="range_iterator") st' rfl rfl (by decide) ⟨.int (lo + i),H,I1,⟨t,?_⟩,⟨rfl,rfl⟩,st',fun b hb=>(hf b hb).1⟩⟩
  rw [Int.mul_one]
 done:=by
  intro X hP hw hK hc i pins s σ H E I hf st hg
  subst hP hw hK
  obtain ⟨f0,f1,f2,f3,f4,f5⟩:=hf it (by simp)
  exact wpAny_pyNext_range_end (I.ok.hd hc) st (by have:n<=i:=hg;omega) fun h' eb=>⟨rfl,I.turned (t':=s.toks) (fun b o hb e=>eb b o hb e) f0 f1 f3 f4 f5⟩
 self:=fun _ _ _ _ _ st h=>wpAny_pyIter_rangeiter st h
section
variable {X:Cx}{tg:Expr}
theorem jB {pins:List (Addr×Obj)}{σ:St}{H:Hp}{s:Shared}{R:It->Hp->Prop}{E:Value->Shared->Prop}{lo hi:Int}{t u v:Tok}{tk:Nat} (I:Inv X pins σ H s) (h1:-(2 ^ 62)<=lo) (h2:lo < 2 ^ 62) (h3:-(2 ^ 62)<=hi) (h4:hi < 2 ^ 62)
  (q:R (Itr lo (hi - lo).toNat) H):wpAny (model X.prog X.w) X.A (pyIter (.ref s.heap.objs.size)) (PIE X pins σ tg R) E { s with heap:=s.heap.push { cls:=.type "range",data:=.fields #[.int lo t,.int hi u,.int 1 v] },toks:=tk }:=by
 refine wpAny_pyIter_range (IsRange.new ..) (small_one h1 h2 h3 h4) ?_
 have I1:Inv X pins σ H { s with heap:=s.heap.push { cls:=.type "range",data:=.fields #[.int lo t,.int hi u,.int 1 v] },toks:=tk }:=I.kept fun b o e=>Heap.get?_push_of_some _ e
 refine ⟨(s.heap.push { cls:=.type "range",data:=.fields #[.int lo t,.int hi u,.int 1 v] }).objs.size,[(s.heap.push { cls:=.type "range",data:=.fields #[.int lo t,.int hi u,.int 1 v] }).objs.size],_,_,H,rfl,
  I1.kept (t':=tk) fun b o e=>Heap.get?_push_of_some _ e,j3 _ lo (hi - lo).toNat,?_,fun b hb=>?_,q⟩
 .have e1:lo + ((0:Nat):Int) * 1=lo:=by simp
  have e2:(((hi - lo).toNat:Nat):Int) - ((0:Nat):Int)=Builtin.Range.rangeSize lo hi 1:=by rw [rangeSize_one];split <;> omega
  show IsRangeIter _ _ (lo + ((0:Nat):Int) * 1) ((((hi - lo).toNat:Nat):Int) - ((0:Nat):Int)) 1
  rw [e1,e2]
  exact Heap.get?_push_size _ rfl
 .have e:b=(s.heap.push { cls:=.type "range",data:=.fields #[.int lo t,.int hi u,.int 1 v] }).objs.size:=by simpa using hb
  subst e
  exact I1.fpOk (Nat.le_refl _) (I1.hok.fresh (Nat.le_refl _))
def oh (ta:TA):TI:=fun σ H R=>ta σ H fun vs H1=>∃j:Int,vs=[.int j]/\-(2 ^ 62)<=j/\j < 2 ^ 62/\R (Itr 0 j.toNat) H1
def oi (ta:TA):TI:=fun σ H R=>ta σ H fun vs H1=>∃i j:Int,vs=[.int i,.int j]/\(-(2 ^ 62)<=i/\i < 2 ^ 62/\-(2 ^ 62)<=j/\j < 2 ^ 62)/\R (Itr i (j - i).toNat) H1
theorem dH {a:Expr}{ta:TA}{p pos:Pos} (hg:Gl X "range") (hm:X.mg "range"=none) (ha:PA X [a] ta) (hs:starEach [a] X.env=[(false,eval a X.env)]:=by rfl):PI X tg (.Call (.Name "range" p) [a] [] pos) (oh ta):=by
 intro pins s σ H R I h
 refine Call_ (dG I hg hm boot_range (PyProof.Rows.callWith_type1 (thn (ha pos pins s σ H _ I h) fun us s1 ⟨vs,H1,I1,r1,q1⟩=>?_) hs rfl))
 obtain ⟨j,e,q1,q2,q⟩:=q1
 subst e
 cases r1 with
 | cons r rr =>
  cases rr
  obtain ⟨t,rfl⟩:=r
  exact call_range_1 (jB I1 (by omega) (by omega) q1 q2 (by simpa using q))
theorem kH {a b:Expr}{ta:TA}{p pos:Pos} (hg:Gl X "range") (hm:X.mg "range"=none) (ha:PA X [a,b] ta) (hs:starEach [a,b] X.env=[(false,eval a X.env),(false,eval b X.env)]:=by rfl) (hs2:starEach [b] X.env=[(false,eval b X.env)]:=by rfl) :
  PI X tg (.Call (.Name "range" p) [a,b] [] pos) (oi ta):=by
 intro pins s σ H R I h
 refine Call_ (dG I hg hm boot_range (PyProof.Rows.callWith_type1 (thn (ha pos pins s σ H _ I h) fun us s1 ⟨vs,H1,I1,r1,q1⟩=>?_) (by rw [hs,hs2]) (by rw [hs2];rfl)))
 obtain ⟨i,j,e,⟨q1,q2,q3,q4⟩,q⟩:=q1
 subst e
 cases r1 with
 | cons r rr =>
  cases rr with
  | cons r' rr =>
   cases rr
   obtain ⟨t,rfl⟩:=r
   obtain ⟨t',rfl⟩:=r'
   exact call_range_2 (jB I1 q1 q2 q3 q4 q)
def uD (wi:TI) (g:TG) (tb:TS):TS:=fun D σ H=>wi σ H fun J H1=>∃W:Nat->Nat->St->Hp->Prop,(∃m,W 0 m σ H1)/\∀i m σ H,W i m σ H ->
 (J.stop i H/\D.nx σ H)\/(J.go i H/\∃N:St->Hp->Prop,(∀σ' H',N σ' H'->∃m',m' < m/\W (i + 1) m' σ' H')/\∀x H',J.yld i H x H'->g x σ H' fun σ2 H2=>tb { D with nx:=N,ct:=N,bk:=D.nx } σ2 H2)
def hX (fp:List Addr) (h:Heap):List (Addr×Obj):=fp.filterMap fun b=>(h.get? b).map fun o=>(b,o)
theorem c9 {fp:List Addr}{h:Heap}{b:Addr}{o:Obj} (hb:b∈fp) (e:h.get? b=some o):(b,o)∈hX fp h:=List.mem_filterMap.mpr ⟨b,hb,by rw [e];rfl⟩
theorem kI {fp:List Addr}{h:Heap}{p:Addr×Obj} (hp:p∈hX fp h):p.1∈fp/\h.get? p.1=some p.2:=by
 obtain ⟨b,hb,e⟩:=List.mem_filterMap.mp hp
 cases q:h.get? b with
 | none=>rw [q] at e;cases e
 | some o =>
  rw [q] at e
  have e':(b,o)=p:=Option.some.inj e
  subst e'
  exact ⟨hb,q⟩
theorem Inv.pinned {pins:List (Addr×Obj)}{σ:St}{H:Hp}{s:Shared}{fp:List Addr} (I:Inv X pins σ H s) (hf:∀b∈fp,j1 X pins H b) (ho:∀b∈fp,∃o,s.heap.get? b=some o/\∀v,o.data≠.cell v):Inv X (pins++hX fp s.heap) σ H s :=
 I.pins_of fun p hp=>(List.mem_append.mp hp).elim (fun z=>I.pin p (List.mem_append_right _ z)) fun z=>by
  obtain ⟨hb,e⟩:=kI z
  obtain ⟨f0,f1,f2,_⟩:=hf p.1 hb
  obtain ⟨o,e',d⟩:=ho p.1 hb
  rw [e] at e';cases e'
  exact ⟨e,f0,f1,f2,d⟩
theorem Inv.unpinned {pins pl:List (Addr×Obj)}{σ:St}{H:Hp}{s:Shared} (I:Inv X (pins++pl) σ H s):Inv X pins σ H s:=I.pins_of fun p hp=>I.pin p (List.mem_append_right _ (List.mem_append_left _ hp))
theorem eF {iter:Expr}{body:List Stmt}{wi:TI}{g:TG}{tb:TS}{pos:Pos} (hp:PassesOwn (model X.prog X.w) X.A X.env X.xe) (hc:X.calm=true) (hi:PI X tg iter wi) (hg:PG X tg g) (hb:PSs X body tb)
  (hs:∀x,foldedSetIterable iter X.env x=pure x:=by intro _;rfl):PS X (.For tg iter body [] pos) (uD wi g tb):=by
 intro pins s σ H D I h
 refine wpAny_For (thn (hi pins s σ H _ I h) fun v s1 h1=>thn h1 fun itv s2 h2=>?_) hs
 obtain ⟨it,fp,tn,J,H2,e,I2,T,st2,f2,W,⟨m0,w0⟩,turn⟩:=h2
 subst e
 -- what stays true of the iterator's objects through the loop
 have stat:∀{H':Hp},(∀b∈fp,H' b=none)->∀b∈fp,j1 X pins H' b:=fun hn b hb=>⟨hn b hb,(f2 b hb).2⟩
 refine codeAny_forLoop_any (fun n s'=>∃i σ' H',Inv X pins σ' H' s'/\tn i s'.heap/\(∀b∈fp,H' b=none)/\W i n σ' H') ?_ m0 ⟨0,σ,H2,I2,st2,fun b hb=>(f2 b hb).1,w0⟩
 rintro n s3 ⟨i,σ3,H3,I3,st3,fr3,w3⟩
 rcases turn i n σ3 H3 w3 with ⟨stop,qn⟩ | ⟨go,N,hN,step⟩
 .refine wpAny_passesOwn hp (thn (T.done X rfl rfl rfl hc i pins s3 σ3 H3 X.xe I3 (stat fr3) st3 stop) fun r s4 ⟨hr,I4⟩=>?_)
  subst hr
  exact wpAny_execs_nil ⟨σ3,H3,I4,qn⟩
 .refine wpAny_passesOwn hp (thn (T.item X rfl rfl rfl hc i pins s3 σ3 H3 X.xe I3 (stat fr3) st3 go) fun r s4 ⟨u,hr,h4⟩=>?_)
  subst hr
  refine wpAny_passesOwn hp (thn h4 fun _ s5 ⟨x,H5,I5,r5,y5,st5,fr5⟩=>?_)
  have I5':=I5.pinned (stat fr5) (T.obj _ _ st5)
  refine wpAny_passesOwn hp (thn (hg _ s5 σ3 H5 x u _ I5' r5 (step x H5 y5)) fun _ s6 ⟨σ6,H6,I6,q6⟩=>?_)
  refine wpAny_passesOwn hp (thn (hb _ s6 σ6 H6 _ I6 q6) fun f s7 q7=>?_)
  have again:∀{σ7:St}{H7:Hp},Inv X (pins++hX fp s5.heap) σ7 H7 s7->N σ7 H7->∃m,m < n/\∃i σ' H',Inv X pins σ' H' s7/\tn i s7.heap/\(∀b∈fp,H' b=none)/\W i m σ' H':=fun {σ7 H7} I7 n7=>by
   obtain ⟨m',hm,w7⟩:=hN σ7 H7 n7
   refine ⟨m',hm,i + 1,σ7,H7,I7.unpinned,T.keep _ _ _ st5 fun b hb o e=>(I7.pin (b,o) (List.mem_append_right _ (List.mem_append_right _ (c9 hb e)))).1,fun b hb=>?_,w7⟩
   obtain ⟨o,e,d⟩:=T.obj _ _ st5 b hb
   exact (I7.pin (b,o) (List.mem_append_right _ (List.mem_append_right _ (c9 hb e)))).2.1
  cases f with
  | next=>obtain ⟨σ7,H7,I7,n7⟩:=q7;exact again I7 n7
  | cont=>obtain ⟨σ7,H7,I7,n7⟩:=q7;exact again I7 n7
  | brk=>obtain ⟨σ7,H7,I7,q7⟩:=q7;exact ⟨σ7,H7,I7.unpinned,q7⟩
  | ret v=>obtain ⟨x7,σ7,H7,I7,r7,q7⟩:=q7;exact ⟨x7,σ7,H7,I7.unpinned,r7,q7⟩
end
abbrev R2:=V->V->Hp->VK->Prop
def OpR (X:Cx) (f:Value->Value->Sem Value) (r:R2):Prop :=
 ∀(pins:List (Addr×Obj)) (s:Shared) (σ:St) (H:Hp) (x y:V) (v u:Value) (Q:VK),Inv X pins σ H s->bK x v->bK y u->r x y H Q ->
  wpAny (model X.prog X.w) X.A (f v u) (EP X pins σ Q) X.xe s
def UnR (X:Cx) (f:Value->Sem Value) (r:V->Hp->VK->Prop):Prop :=
 ∀(pins:List (Addr×Obj)) (s:Shared) (σ:St) (H:Hp) (x:V) (v:Value) (Q:VK),Inv X pins σ H s->bK x v->r x H Q ->
  wpAny (model X.prog X.w) X.A (f v) (EP X pins σ Q) X.xe s
def bw (X:Cx) (f:Value) (r:List V->Hp->VK->Prop):Prop :=
 ∀(pins:List (Addr×Obj)) (s:Shared) (σ:St) (H:Hp) (xs:List V) (us:List Value) (Q:VK),Inv X pins σ H s->aW xs us->r xs H Q ->
  wpAny (model X.prog X.w) X.A (call f us) (EP X pins σ Q) X.xe s
def tOp (r:R2) (ta tb:TE):TE:=fun σ H Q=>ta σ H fun x H1=>tb σ H1 fun y H2=>r x y H2 Q
def tUn (r:V->Hp->VK->Prop) (ta:TE):TE:=fun σ H Q=>ta σ H fun x H1=>r x H1 Q
def rI (C:Int->Int->Prop) (g:Int->Int->V):R2:=fun x y H Q=>∃i j,x=.int i/\y=.int j/\C i j/\Q (g i j) H
def rI0 (g:Int->Int->V):R2:=fun x y H Q=>∃i j,x=.int i/\y=.int j/\Q (g i j) H
def rU (g:Int->V):V->Hp->VK->Prop:=fun x H Q=>∃i,x=.int i/\Q (g i) H
section
variable {X:Cx}{a b c:Expr}{ta tb tc:TE}{pos:Pos}
theorem sZ (ha:PE X a ta) (hb:PE X b tb) {pins:List (Addr×Obj)}{s:Shared}{σ:St}{H:Hp}{R:V->V->Hp->Prop} (I:Inv X pins σ H s)
  (h:ta σ H fun x H1=>tb σ H1 fun y H2=>R x y H2) {Q:Value->Shared->Prop}{f:Value->Value->Sem Value}
  (hf:∀v u s2 x y H2,Inv X pins σ H2 s2->bK x v->bK y u->R x y H2->wpAny (model X.prog X.w) X.A (f v u) Q X.xe s2) :
  wpAny (model X.prog X.w) X.A (eval a X.env) (fun v s₁=>wpAny (model X.prog X.w) X.A (eval b X.env) (fun u s₂=>wpAny (model X.prog X.w) X.A (f v u) Q X.xe s₂) X.xe s₁) X.xe s:=by
 refine thn (ha pins s σ H _ I h) fun v s1 ⟨x,H1,I1,r1,q1⟩=>?_
 refine thn (hb pins s1 σ H1 _ I1 q1) fun u s2 ⟨y,H2,I2,r2,q2⟩=>?_
 exact hf v u s2 x y H2 I2 r1 r2 q2
theorem ay {op:Operator}{r:R2} (ho:OpR X (binaryOp op) r) (ha:PE X a ta) (hb:PE X b tb):PE X (.BinOp a op b pos) (tOp r ta tb):=by
 intro pins s σ H Q I h
 exact wpAny_BinOp (sZ ha hb I h fun v u s2 x y H2 I2 rx ry q=>ho pins s2 σ H2 x y v u Q I2 rx ry q)
theorem oj {op:UnaryOp}{r:V->Hp->VK->Prop} (ho:UnR X (unaryOp op) r) (ha:PE X a ta):PE X (.UnaryOp op a pos) (tUn r ta):=by
 intro pins s σ H Q I h
 exact UnaryOp_ (thn (ha pins s σ H _ I h) fun v s1 ⟨x,H1,I1,r1,q1⟩=>ho pins s1 σ H1 x v Q I1 r1 q1)
theorem opI {f:Value->Value->Sem Value}{C:Int->Int->Prop}{g:Int->Int->Int}
  (rule:∀(i j:Int) (t u:Tok) (s:Shared) (Q:Value->Shared->Prop) (E:Value->Shared->Prop),C i j->Q (.int (g i j) s.toks) { s with toks:=s.toks + 1 }->wpAny (model X.prog X.w) X.A (f (.int i t) (.int j u)) Q E s) :
  OpR X f (rI C fun i j=>.int (g i j)):=by
 intro pins s σ H x y v u Q I rx ry h
 obtain ⟨i,j,rfl,rfl,hc,q⟩:=h
 obtain ⟨t,rfl⟩:=rx
 obtain ⟨t',rfl⟩:=ry
 exact rule i j t t' s _ _ hc ⟨.int (g i j),H,I.tok _,⟨_,rfl⟩,q⟩
theorem uE {f:Value->Value->Sem Value}{g:Int->Int->Int}
  (rule:∀(i j:Int) (t u:Tok) (s:Shared) (Q:Value->Shared->Prop) (E:Value->Shared->Prop),Q (.int (g i j) s.toks) { s with toks:=s.toks + 1 }->wpAny (model X.prog X.w) X.A (f (.int i t) (.int j u)) Q E s) :
  OpR X f (rI0 fun i j=>.int (g i j)):=by
 intro pins s σ H x y v u Q I rx ry h
 obtain ⟨i,j,rfl,rfl,q⟩:=h
 obtain ⟨t,rfl⟩:=rx
 obtain ⟨t',rfl⟩:=ry
 exact rule i j t t' s _ _ ⟨.int (g i j),H,I.tok _,⟨_,rfl⟩,q⟩
theorem qa {f:Value->Value->Sem Value}{g:Int->Int->Bool}
  (rule:∀(i j:Int) (t u:Tok) (s:Shared) (Q:Value->Shared->Prop) (E:Value->Shared->Prop),Q (.bool (g i j)) s->wpAny (model X.prog X.w) X.A (f (.int i t) (.int j u)) Q E s) :
  OpR X f (rI0 fun i j=>.bl (g i j)):=by
 intro pins s σ H x y v u Q I rx ry h
 obtain ⟨i,j,rfl,rfl,q⟩:=h
 obtain ⟨t,rfl⟩:=rx
 obtain ⟨t',rfl⟩:=ry
 exact rule i j t t' s _ _ ⟨.bl (g i j),H,I,rfl,q⟩
def tf (i j:Int):Prop:=0 < j/\j < 1073741824
def tj (i j:Int):Prop:=0<=j/\j<=1000000/\i.natAbs < 2 ^ 64
def sM (i j:Int):Prop:=(-(2 ^ 64) < i/\i < 2 ^ 64)\/(-(2 ^ 64) < j/\j < 2 ^ 64)
theorem sM.ok {i j:Int} (h:sM i j):IntMulOk i j:=by
 rcases h with ⟨h1,h2⟩ | ⟨h1,h2⟩
 .exact .of_left (intBits_le_64 h1 h2)
 .exact .of_right (intBits_le_64 h1 h2)
theorem qM:OpR X (binaryOp .Add) (rI0 fun i j=>.int (i + j)):=uE fun _ _ _ _ _ _ _ q=>add_int q
theorem qN:OpR X (binaryOp .Sub) (rI0 fun i j=>.int (i - j)):=uE fun _ _ _ _ _ _ _ q=>sub_int q
theorem qO:OpR X (binaryOp .Mult) (rI sM fun i j=>.int (i * j)):=opI fun _ _ _ _ _ _ _ hc q=>mul_int q hc.ok
theorem om:OpR X (binaryOp .FloorDiv) (rI tf fun i j=>.int (i / j)):=opI fun i j _ _ _ _ _ hc q=>by
 have h1:(0:Int) < j:=hc.1
 have h2:j < 1073741824:=hc.2
 exact floordiv_int (by omega) (by rw [Int.fdiv_eq_ediv_of_nonneg i (by omega)];exact q) (.inl (PyProof.noPylong_small (by omega)))
theorem qP:OpR X (binaryOp .Mod) (rI (fun _ j=>0 < j) fun i j=>.int (i % j)):=opI fun i j _ _ _ _ _ hc q=>by
 have h1:(0:Int) < j:=hc
 exact mod_int' (by omega) (by rw [Int.fmod_eq_emod_of_nonneg i (by omega)];exact q)
theorem qQ:OpR X (binaryOp .Pow) (rI tj fun i j=>.int (i ^ j.toNat)):=opI fun _ _ _ _ _ _ _ hc q=>pow_int_small hc.1 hc.2.1 hc.2.2 q
theorem unI {f:Value->Sem Value}{g:Int->Int}
  (rule:∀(i:Int) (t:Tok) (s:Shared) (Q:Value->Shared->Prop) (E:Value->Shared->Prop),Q (.int (g i) s.toks) { s with toks:=s.toks + 1 }->wpAny (model X.prog X.w) X.A (f (.int i t)) Q E s) :
  UnR X f (rU fun i=>.int (g i)):=by
 intro pins s σ H x v Q I rx h
 obtain ⟨i,rfl,q⟩:=h
 obtain ⟨t,rfl⟩:=rx
 exact rule i t s _ _ ⟨.int (g i),H,I.tok _,⟨_,rfl⟩,q⟩
theorem kJ:UnR X (unaryOp .USub) (rU fun i=>.int (-i)):=unI fun _ _ _ _ _ q=>neg_int q
end
def uF:V->V->Bool
 | .non,.non=>true | .non,.int _=>true | .int _,.non=>true | .non,.bl _=>true | .bl _,.non=>true | .non,.str _=>true | .str _,.non=>true
 | .int _,.int _=>true | .bl _,.bl _=>true | .str _,.str _=>true | .byt _,.byt _=>true
 | .int _,.str _=>true | .str _,.int _=>true | .bl _,.str _=>true | .str _,.bl _=>true
 | _,_=>false
def rEq:R2:=fun x y H Q=>uF x y=true/\Q (.bl (decide (x=y))) H
def rNe:R2:=fun x y H Q=>uF x y=true/\Q (.bl (!decide (x=y))) H
theorem kK {i j:Int}:decide (V.int i=V.int j)=(i == j):=by
 rw [Bool.eq_iff_iff]
 simp
theorem nE {i j:Bool}:decide (V.bl i=V.bl j)=(i == j):=by
 rw [Bool.eq_iff_iff]
 simp
theorem kL {i j:Str}:decide (V.str i=V.str j)=(i == j):=by
 rw [Bool.eq_iff_iff]
 simp
theorem kM {i j:Array UInt8}:decide (V.byt i=V.byt j)=(i.toList == j.toList):=by
 rw [Bool.eq_iff_iff]
 cases i
 cases j
 simp
section
variable {X:Cx}{a b c:Expr}{ta tb tc:TE}{pos:Pos}
theorem aM {pins:List (Addr×Obj)}{σ:St}{H:Hp}{s:Shared}{Q:VK}{k k':Bool} (I:Inv X pins σ H s) (q:Q (.bl k) H) (e:k=k'):EP X pins σ Q (.bool k') s:=by
 subst e
 exact ⟨.bl k,H,I,rfl,q⟩
theorem tm:OpR X (compareOp .Eq) rEq:=by
 intro pins s σ H x y v u Q I rx ry h
 obtain ⟨hs,q⟩:=h
 cases x with
 | non =>
  cases rx
  cases y with
  | non=>cases ry;exact PySem.EqNone.eq_none_none (aM I q (by simp))
  | bl j=>cases ry;exact PySem.EqNone.eq_none_bool (aM I q (by simp))
  | int j=>obtain ⟨t',rfl⟩:=ry;exact PySem.EqNone.eq_none_int (aM I q (by simp))
  | str j=>obtain ⟨t',rfl⟩:=ry;exact PySem.EqNone.eq_none_str (aM I q (by simp))
  | _=>exact absurd (show false=true from hs) Bool.false_ne_true
 | bl i =>
  cases rx
  cases y with
  | non=>cases ry;exact PySem.EqNone.eq_bool_none (aM I q (by simp))
  | bl j=>cases ry;exact eq_bool (aM I q nE)
  | str j=>obtain ⟨t',rfl⟩:=ry;exact PySem.EqMixed.eq_bool_str (aM I q (by simp))
  | _=>exact absurd (show false=true from hs) Bool.false_ne_true
 | int i =>
  obtain ⟨t,rfl⟩:=rx
  cases y with
  | non=>cases ry;exact PySem.EqNone.eq_int_none (aM I q (by simp))
  | int j=>obtain ⟨t',rfl⟩:=ry;exact eq_int (aM I q kK)
  | str j=>obtain ⟨t',rfl⟩:=ry;exact PySem.EqMixed.eq_int_str (aM I q (by simp))
  | _=>exact absurd (show false=true from hs) Bool.false_ne_true
 | str i =>
  obtain ⟨t,rfl⟩:=rx
  cases y with
  | non=>cases ry;exact PySem.EqNone.eq_str_none (aM I q (by simp))
  | bl j=>cases ry;exact PySem.EqMixed.eq_str_bool (aM I q (by simp))
  | int j=>obtain ⟨t',rfl⟩:=ry;exact PySem.EqMixed.eq_str_int (aM I q (by simp))
  | str j=>obtain ⟨t',rfl⟩:=ry;exact eq_str (aM I q kL)
  | _=>exact absurd (show false=true from hs) Bool.false_ne_true
 | byt i =>
  obtain ⟨t,rfl⟩:=rx
  cases y with
  | byt j=>obtain ⟨t',rfl⟩:=ry;exact PySem.W.eq_bytes (aM I q kM)
  | _=>exact absurd (show false=true from hs) Bool.false_ne_true
 | _=>cases y <;> exact absurd (show false=true from hs) Bool.false_ne_true
theorem tq:OpR X (compareOp .NotEq) rNe:=by
 intro pins s σ H x y v u Q I rx ry h
 obtain ⟨hs,q⟩:=h
 cases x with
 | non =>
  cases rx
  cases y with
  | non=>cases ry;exact PySem.EqNone.ne_none_none (aM I q (by simp))
  | bl j=>cases ry;exact PySem.EqNone.ne_none_bool (aM I q (by simp))
  | int j=>obtain ⟨t',rfl⟩:=ry;exact PySem.EqNone.ne_none_int (aM I q (by simp))
  | str j=>obtain ⟨t',rfl⟩:=ry;exact PySem.EqNone.ne_none_str (aM I q (by simp))
  | _=>exact absurd (show false=true from hs) Bool.false_ne_true
 | bl i =>
  cases rx
  cases y with
  | non=>cases ry;exact PySem.EqNone.ne_bool_none (aM I q (by simp))
  | bl j=>cases ry;exact ne_bool (aM I q (congrArg not nE))
  | str j=>obtain ⟨t',rfl⟩:=ry;exact PySem.EqMixed.ne_bool_str (aM I q (by simp))
  | _=>exact absurd (show false=true from hs) Bool.false_ne_true
 | int i =>
  obtain ⟨t,rfl⟩:=rx
  cases y with
  | non=>cases ry;exact PySem.EqNone.ne_int_none (aM I q (by simp))
  | int j=>obtain ⟨t',rfl⟩:=ry;exact ne_int (aM I q (congrArg not kK))
  | str j=>obtain ⟨t',rfl⟩:=ry;exact PySem.EqMixed.ne_int_str (aM I q (by simp))
  | _=>exact absurd (show false=true from hs) Bool.false_ne_true
 | str i =>
  obtain ⟨t,rfl⟩:=rx
  cases y with
  | non=>cases ry;exact PySem.EqNone.ne_str_none (aM I q (by simp))
  | bl j=>cases ry;exact PySem.EqMixed.ne_str_bool (aM I q (by simp))
  | int j=>obtain ⟨t',rfl⟩:=ry;exact PySem.EqMixed.ne_str_int (aM I q (by simp))
  | str j=>obtain ⟨t',rfl⟩:=ry;exact ne_str (aM I q (congrArg not kL))
  | _=>exact absurd (show false=true from hs) Bool.false_ne_true
 | byt i =>
  obtain ⟨t,rfl⟩:=rx
  cases y with
  | byt j=>obtain ⟨t',rfl⟩:=ry;exact PySem.W.ne_bytes (aM I q (congrArg not kM))
  | _=>exact absurd (show false=true from hs) Bool.false_ne_true
 | _=>cases y <;> exact absurd (show false=true from hs) Bool.false_ne_true
theorem tu:OpR X (compareOp .Lt) (rI0 fun i j=>.bl (decide (i < j))):=qa fun _ _ _ _ _ _ _ q=>lt_int q
theorem tw:OpR X (compareOp .LtE) (rI0 fun i j=>.bl (decide (i<=j))):=qa fun _ _ _ _ _ _ _ q=>le_int q
theorem tz:OpR X (compareOp .Gt) (rI0 fun i j=>.bl (decide (j < i))):=qa fun _ _ _ _ _ _ _ q=>gt_int q
theorem tD:OpR X (compareOp .GtE) (rI0 fun i j=>.bl (decide (j<=i))):=qa fun _ _ _ _ _ _ _ q=>ge_int q
theorem kN:OpR X (compareOp .Lt) (fun x y H Q=>∃i j,x=.str i/\y=.str j/\Q (.bl (decide (i.cps.toList < j.cps.toList))) H):=by
 intro pins s σ H x y v u Q I rx ry h
 obtain ⟨i,j,rfl,rfl,q⟩:=h
 obtain ⟨t,rfl⟩:=rx
 obtain ⟨t',rfl⟩:=ry
 exact lt_str (aM I q rfl)
theorem oq:OpR X (compareOp .IsNot) (fun x y H Q=>y=.non/\Q (.bl (!decide (x=.non))) H):=by
 intro pins s σ H x y v u Q I rx ry h
 obtain ⟨rfl,q⟩:=h
 cases ry
 refine isnot_none_gen (aM I q ?_)
 cases x <;> first
  | (cases rx;rfl)
  | (obtain ⟨t,rfl⟩:=rx;rfl)
theorem OpR.or {f:Value->Value->Sem Value}{r r':R2} (h:OpR X f r) (h':OpR X f r'):OpR X f (fun x y H Q=>r x y H Q\/r' x y H Q):=by
 intro pins s σ H x y v u Q I rx ry q
 rcases q with q | q
 .exact h pins s σ H x y v u Q I rx ry q
 .exact h' pins s σ H x y v u Q I rx ry q
theorem bG (b:Expr) {op:CmpOp} (h:op≠.In:=by decide) (h2:op≠.NotIn:=by decide):behindInMarks op b=false:=by
 have e1:(op == CmpOp.In)=false:=by cases op <;> first | rfl | exact absurd rfl h
 have e2:(op == CmpOp.NotIn)=false:=by cases op <;> first | rfl | exact absurd rfl h2
 cases b <;> simp [behindInMarks,e1,e2]
theorem e6 {op:CmpOp}{r:R2} (ho:OpR X (compareOp op) r) (ha:PE X a ta) (hb:PE X b tb) (hm:behindInMarks op b=false):PE X (.Compare a [op] [b] pos) (tOp r ta tb):=by
 intro pins s σ H Q I h
 exact wpAny_Compare1 (sZ ha hb I h fun v u s2 x y H2 I2 rx ry q=>ho pins s2 σ H2 x y v u Q I2 rx ry q) hm
def ot (t:TE):TT:=fun σ H Q=>t σ H fun x H'=>∃k,x=.bl k/\Q k H'
theorem bA {op:CmpOp}{r:R2} (ho:OpR X (compareOp op) r) (ha:PE X a ta) (hb:PE X b tb) (hm:behindInMarks op b=false):PT X (.Compare a [op] [b] pos) (ot (tOp r ta tb)):=by
 intro pins s σ H Q I h
 refine wpAny_isTrue_Compare1 (thn (ha pins s σ H _ I h) fun v s1 ⟨x,H1,I1,r1,q1⟩=>thn (hb pins s1 σ H1 _ I1 q1) fun u s2 ⟨y,H2,I2,r2,q2⟩ =>
  thn (ho pins s2 σ H2 x y v u _ I2 r1 r2 q2) fun c s3 ⟨z,H3,I3,r3,k,e,q3⟩=>?_) hm
 subst e
 cases r3
 exact wpAny_truthy_bool ⟨H3,I3,q3⟩
def jC (r r':R2) (ta tb tc:TE):TE:=fun σ H Q=>ta σ H fun x H1=>tb σ H1 fun y H2=>r x y H2 fun z H3=>∃k,z=.bl k /\
 (if k=true then tc σ H3 fun w' H4=>r' y w' H4 Q else Q (.bl false) H3)
theorem mj {op op':CmpOp}{r r':R2} (ho:OpR X (compareOp op) r) (ho':OpR X (compareOp op') r') (ha:PE X a ta) (hb:PE X b tb) (hc:PE X c tc)
  (hm:lastMarks [op,op'] [b,c]=false:=by with_unfolding_all rfl):PE X (.Compare a [op,op'] [b,c] pos) (jC r r' ta tb tc):=by
 intro pins s σ H Q I h
 refine Compare_chain (thn (ha pins s σ H _ I h) fun v s1 ⟨x,H1,I1,r1,q1⟩=>chain_link (thn (hb pins s1 σ H1 _ I1 q1) fun u s2 ⟨y,H2,I2,r2,q2⟩ =>
  thn (ho pins s2 σ H2 x y v u _ I2 r1 r2 q2) fun d s3 ⟨z,H3,I3,r3,k,e,q3⟩=>?_)) hm
 subst e
 cases r3
 refine wpAny_truthy_bool ?_
 cases k with
 | false=>exact ite_ff ⟨.bl false,H3,I3,rfl,q3⟩
 | true=>exact ite_tt (chain_last (thn (hc pins s3 σ H3 _ I3 q3) fun w' s4 ⟨z',H4,I4,r4,q4⟩=>ho' pins s4 σ H4 y z' u w' Q I4 r2 r4 q4))
theorem jD {op op':CmpOp}{r r':R2} (ho:OpR X (compareOp op) r) (ho':OpR X (compareOp op') r') (ha:PE X a ta) (hb:PE X b tb) (hc:PE X c tc)
  (hm:lastMarks [op,op'] [b,c]=false:=by with_unfolding_all rfl):PT X (.Compare a [op,op'] [b,c] pos) (ot (jC r r' ta tb tc)):=by
 intro pins s σ H Q I h
 refine isTrue_chain (thn (ha pins s σ H _ I h) fun v s1 ⟨x,H1,I1,r1,q1⟩=>test_link (thn (hb pins s1 σ H1 _ I1 q1) fun u s2 ⟨y,H2,I2,r2,q2⟩ =>
  thn (ho pins s2 σ H2 x y v u _ I2 r1 r2 q2) fun d s3 ⟨z,H3,I3,r3,k,e,q3⟩=>?_)) hm
 subst e
 cases r3
 refine wpAny_truthy_bool ?_
 cases k with
 | false =>
  obtain ⟨k',e',q'⟩:=q3
  cases e'
  exact ite_ff ⟨H3,I3,q'⟩
 | true =>
  refine ite_tt (test_last (thn (hc pins s3 σ H3 _ I3 q3) fun w' s4 ⟨z',H4,I4,r4,q4⟩=>thn (ho' pins s4 σ H4 y z' u w' _ I4 r2 r4 q4) fun d' s5 ⟨z2,H5,I5,r5,k2,e2,q5⟩=>?_))
  subst e2
  cases r5
  exact wpAny_truthy_bool ⟨H5,I5,q5⟩
theorem fU:(sizeLine:Nat) < 2 ^ 63:=by rw [sizeLine_eq];decide
theorem j4:OpR X (binaryOp .Add) (fun x y H Q=>∃i j,x=.str i/\y=.str j/\i.length + j.length<=sizeLine/\Q (.str (i++j)) H):=by
 intro pins s σ H x y v u Q I rx ry h
 obtain ⟨i,j,rfl,rfl,hz,q⟩:=h
 obtain ⟨t,rfl⟩:=rx
 obtain ⟨t',rfl⟩:=ry
 exact add_str (fun t' tk=>⟨.str (i++j),H,I.tok _,⟨_,rfl⟩,q⟩) hz
theorem gB {x:V}{us:List Value} (r:aW [x] us):∃u,us=[u]/\bK x u:=by
 cases r with
 | cons r1 r2=>cases r2;exact ⟨_,rfl,r1⟩
theorem tE {x y:V}{us:List Value} (r:aW [x,y] us):∃u w',us=[u,w']/\bK x u/\bK y w':=by
 cases r with
 | cons r1 r2 =>
  cases r2 with
  | cons r3 r4=>cases r4;exact ⟨_,_,rfl,r1,r3⟩
end
structure tF (h:Heap) (x dx C:Addr) (mA:Str->Option Value):Prop where
 obj:h.get? x=some (PySem.W.instObj C dx)
 ns:h.Ns1 dx mA
 ne:dx≠x
theorem kO {h:Heap}{dx:Addr}{mA:Str->Option Value} (n:h.Ns1 dx mA):∃od,h.get? dx=some od/\∀name,PySem.W.lookIn name od=some (mA name):=by
 obtain ⟨o,es,ep,ho,hd,hk,_,hm⟩:=n
 refine ⟨o,ho,fun name=>?_⟩
 have e:=hm name
 unfold nsFind findBy at e
 rw [<- Array.find?_toList] at e
 unfold PySem.W.lookIn
 rw [hd]
 dsimp only
 split
 .rename_i y q
  rw [q] at e
  exact congrArg some e
 .rename_i q
  rw [q] at e
  have a:es.toList.any (·.refKey)=false:=by
   rw [List.any_eq_false]
   intro y hy
   obtain ⟨z,t,hkey⟩:=hk y (Array.mem_toList_iff.mp hy)
   simp [DictEntry.refKey,hkey]
  have a':¬ es.toList.any (·.refKey)=true:=by rw [a];exact Bool.false_ne_true
  rw [if_neg a']
  exact congrArg some e
theorem tF.look {h:Heap}{x dx C:Addr}{mA:Str->Option Value} (I:tF h x dx C mA):∃od,PySem.W.InstAt h x (PySem.W.instObj C dx) C (some od)/\∀name,PySem.W.lookIn name od=some (mA name) :=
 let ⟨od,ho,hl⟩:=kO I.ns
 ⟨od,⟨I.obj,rfl,rfl,ho⟩,hl⟩
section
variable {P:Program}{w:World}{H H':Hp}{h h':Heap}{a C dx:Addr}{fs fs':List (Str×V)}
theorem ou (hok:HOk P w H h) (e:H a=some (.ins C dx fs)):∃mA,tF h a dx C mA/\(∀f,sV (fs.lookup f) (mA f))/\PySem.Within mA (fs.map (·.1))/\fs.length<=1000/\H dx=some (.own a):=by
 obtain ⟨d,z,ne,ob,mA,n,r,q⟩:=(show br P w H h a (.ins C dx fs) from hok a _ e)
 exact ⟨mA,⟨ob,n,ne⟩,r,q,z,d⟩
end
structure Cls (K:PySem.W.Frag) (C:Addr):Prop where
 pg:PySem.W.plainGet K C Str.empty=true
 hd:PySem.W.hasDictIn K C=true
 po:PySem.W.plainOver K C=true
 sa:PySem.W.findIn K (.ref C) "__setattr__"=some (some (.builtin "object.__setattr__"))
theorem Cls.get {K:PySem.W.Frag}{C:Addr} (c:Cls K C) (f:Str):PySem.W.plainGet K C f=true:=c.pg
section
variable {X:Cx}{pins:List (Addr×Obj)}{σ:St}{H:Hp}{s:Shared}{A:Around}{E:Value->Shared->Prop}{Q:Value->Shared->Prop}{c:Value}{b:Bool}
inductive iW (K:PySem.W.Frag) (H:Hp):V->Value->Prop where
 | non:iW K H .non (.type "NoneType")
 | bl (x:Bool):iW K H (.bl x) (.type "bool")
 | int (i:Int):iW K H (.int i) (.type "int")
 | str (x:Str):iW K H (.str x) (.type "str")
 | flt (x:UInt64):iW K H (.flt x) (.type "float")
 | lst {a:Addr}{xs:List V} (e:H a=some (.lst xs)):iW K H (.ref a) (.type "list")
 | frz {a:Addr}{o:Obj}{xs:List V} (e:H a=some (.frz o (.lst xs))):iW K H (.ref a) (.type "list")
 | tup {a:Addr}{xs:List V} (e:H a=some (.tup xs)):iW K H (.ref a) (.type "tuple")
 | dK {a:Addr}{kvs:List (Key×V)} (e:H a=some (.dK kvs)):iW K H (.ref a) (.type "dict")
 | dT {a:Addr}{kvs:List (List Key×V)} (e:H a=some (.dT kvs)):iW K H (.ref a) (.type "dict")
 | ins {a C dx:Addr}{fs:List (Str×V)} (e:H a=some (.ins C dx fs)) (cl:Cls K C) (ha:PySem.W.findIn K (.ref C) "__class__"=some (some (.builtin "object.__class__")))
   (hn:PySem.W.specialIn K (.builtin "object.__class__") "__get__"=some (some (.builtin "getset_descriptor.__get__"))) (htk:PySem.W.takesIn K (.builtin "object.__class__")=some true)
   (hm:PySem.W.mroIn K C (.type "object")=some true):iW K H (.ref a) (.ref C)
theorem kP {x:V}{u t:Value} (I:Inv X pins σ H s) (rx:bK x u) (ty:iW X.K H x t) (e:PySem.W.kitOne X.K t c=some b) (h:∀tk,Q (.bool b) { s with toks:=tk }) :
  wpAny (model X.prog X.w) A (call (.builtin "isinstance") [u,c]) Q E s:=by
 cases ty with
 | non=>cases (show u=Value.none from rx);exact PySem.W.kia_one PySem.W.kitx_none I.kIn True.intro e (fun z=>nomatch z) h
 | bl y=>cases (show u=Value.bool y from rx);exact PySem.W.kia_one PySem.W.kitx_bool I.kIn True.intro e (fun z=>nomatch z) h
 | int i=>obtain ⟨t,q⟩:=(show ∃t,u=Value.int i t from rx);cases q;exact PySem.W.kia_one PySem.W.kitx_int I.kIn True.intro e (fun z=>nomatch z) h
 | str y=>obtain ⟨t,q⟩:=(show ∃t,u=Value.str y t from rx);cases q;exact PySem.W.kia_one PySem.W.kitx_str I.kIn True.intro e (fun z=>nomatch z) h
 | flt y=>obtain ⟨t,q⟩:=(show ∃t,u=Value.float y t from rx);cases q;exact PySem.W.kia_one PySem.W.kitx_float I.kIn True.intro e (fun z=>nomatch z) h
 | @lst a xs ea =>
  cases (show u=Value.ref a from rx)
  obtain ⟨_,_,n,_,h1⟩:=(show br X.prog X.w H s.heap a (.lst xs) from I.hok a _ ea)
  exact PySem.W.kia_one PySem.W.kitx_list I.kIn ⟨_,h1,rfl⟩ e (fun z=>nomatch z) h
 | @frz a ob xs ea =>
  cases (show u=Value.ref a from rx)
  obtain ⟨_,_,_,n,_,h1⟩:=(show br X.prog X.w H s.heap a (.frz ob (.lst xs)) from I.hok a _ ea)
  exact PySem.W.kia_one PySem.W.kitx_list I.kIn ⟨_,h1,rfl⟩ e (fun z=>nomatch z) h
 | @tup a xs ea =>
  cases (show u=Value.ref a from rx)
  obtain ⟨_,_,_,p⟩:=(show br X.prog X.w H s.heap a (.tup xs) from I.hok a _ ea)
  obtain ⟨o,h1,h2,_⟩:=p
  exact PySem.W.kia_one PySem.W.kitx_tuple I.kIn ⟨o,h1,h2⟩ e (fun z=>nomatch z) h
 | @dK a kvs ea =>
  cases (show u=Value.ref a from rx)
  obtain ⟨_,_,vs,_,p⟩:=(show br X.prog X.w H s.heap a (.dK kvs) from I.hok a _ ea)
  obtain ⟨o,es,ep,h1,h2,_⟩:=p
  exact PySem.W.kia_one PySem.W.kitx_dict I.kIn ⟨o,h1,h2.1⟩ e (fun z=>nomatch z) h
 | @dT a kvs ea =>
  cases (show u=Value.ref a from rx)
  obtain ⟨_,_,xs,_,o,es,ep,h1,h2,_⟩:=(show br X.prog X.w H s.heap a (.dT kvs) from I.hok a _ ea)
  exact PySem.W.kia_one PySem.W.kitx_dict I.kIn ⟨o,h1,h2.1⟩ e (fun z=>nomatch z) h
 | @ins a C dx fs ea cl ha hn htk hm =>
  cases (show u=Value.ref a from rx)
  obtain ⟨mA,O,_⟩:=ou I.hok ea
  obtain ⟨od,J,_⟩:=O.look
  exact PySem.W.kia_one (PySem.W.kitx_own (cl.get _) cl.hd ha hn htk hm) I.kIn J e (fun z=>nomatch z) h
end
structure eP (k:Nat) (A:Around):Prop where
 hd:A.handled=none
 dp:A.depth + 3 * k + 5 < recursionLimit
 un:A.units + 16 * k + 200 < cLine
theorem eP.mono {j k:Nat}{A:Around} (r:eP k A) (h:j<=k):eP j A:=⟨r.hd,by have:=r.dp;omega,by have:=r.un;omega⟩
theorem eP.deeper {k:Nat}{A:Around} (r:eP (k + 1) A) (env:Env):eP k (A.deeper env) :=
 ⟨r.hd,by have:=r.dp;show A.depth + 1 + 3 * k + 5 < _;omega,by have:=r.un;show A.units + 3 + 16 * k + 200 < _;omega⟩
theorem eP.depth {k:Nat}{A:Around} (r:eP k A):A.depth < recursionLimit:=by have:=r.dp;omega
theorem eP.units {k:Nat}{A:Around} (r:eP k A):A.units + 64 < cLine:=by have:=r.un;omega
def jE:TA:=fun _ H Q=>Q [] H
def bL (ta:TE) (tr:TA):TA:=fun σ H Q=>ta σ H fun x H1=>tr σ H1 fun xs H2=>Q (x::xs) H2
section
variable {X:Cx}{e:Expr}{es:List Expr}{te:TE}{t:TA}{pos:Pos}
theorem ai:PA X [] jE:=fun _ _ _ _ H Q I h=>Calls.spliced_nil ⟨[],H,I,.nil,h⟩
theorem oy (ha:PE X e te) (hr:PA X es t) (hs:starEach (e::es) X.env=(false,eval e X.env)::starEach es X.env:=by rfl):PA X (e::es) (bL te t):=by
 intro pos pins s σ H Q I h
 rw [hs]
 show wpAny _ _ (spliced ((false,eval e X.env)::backTo pos (starEach es X.env))) _ _ s
 refine Calls.spliced_cons (thn (ha pins s σ H _ I h) fun u s1 ⟨x,H1,I1,r1,q1⟩=>?_)
 exact thn (hr pos pins s1 σ H1 _ I1 q1) fun us s2 ⟨xs,H2,I2,r2,q2⟩=>⟨x::xs,H2,I2,.cons r1 r2,q2⟩
def uG (t:TA):TE:=fun σ H Q=>t σ H fun xs H1=>xs.length<=sizeLine/\∀p,H1 p=none->Q (.ref p) (upd H1 p (.tup xs))
def uH (t:TA):TE:=fun σ H Q=>t σ H fun xs H1=>xs.length<=sizeLine/\∀p,H1 p=none->Q (.ref p) (upd H1 p (.lst xs))
theorem qR {x1} (h:PA X es t):PE X (.Tuple es x1 pos) (uG t):=by
 intro pins s σ H Q I hq
 refine wpAny_Tuple_spliced (thn (h pos pins s σ H _ I hq) fun us s1 ⟨xs,H1,I1,r,z,q⟩=>⟨by rw [<- r.length];exact z,?_⟩)
 have hf:H1 s1.heap.objs.size=none:=I1.hok.fresh (Nat.le_refl _)
 refine ⟨.ref s1.heap.objs.size,upd H1 s1.heap.objs.size (.tup xs),I1.laid (t':=s1.toks) (fun b u e=>Heap.get?_push_of_some _ e) (Nat.le_refl _) ?_,rfl,q _ hf⟩
 exact ⟨z,us,r,⟨_,Heap.get?_push_size _ rfl,rfl,_,rfl⟩⟩
theorem cm (h:PA X es t):PE X (.List es pos) (uH t):=by
 intro pins s σ H Q I hq
 refine wpAny_List_spliced (thn (h pos pins s σ H _ I hq) fun us s1 ⟨xs,H1,I1,r,z,q⟩=>⟨by rw [<- r.length];exact z,?_⟩)
 have hf:H1 s1.heap.objs.size=none:=I1.hok.fresh (Nat.le_refl _)
 refine ⟨.ref s1.heap.objs.size,upd H1 s1.heap.objs.size (.lst xs),I1.laid (t':=s1.toks) (fun b u e=>Heap.get?_push_of_some _ e) (Nat.le_refl _) ?_,rfl,q _ hf⟩
 exact ⟨z,us,0,r,Heap.get?_push_size _ rfl⟩
end
abbrev Sp:=List V->Hp->VK->XK->Prop
abbrev CXT:=List Env->Hp->Shared->XK->Value->Shared->Prop
structure sN (P:Program) (w:World) (K:PySem.W.Frag) (mg:Str->Option Value) (base:Heap) (A:Around) (outer:List Env) (s:Shared) (H:Hp):Prop where
 frames:A.frames=some outer
 mod:Mod K mg base
 bs:∀b o,base.get? b=some o->s.heap.get? b=some o/\H b=none
 bsz:base.objs.size<=s.heap.objs.size
 funs:s.heap.FunFrames base outer
 frf:∀b∈frs outer,H b=none
 hok:HOk P w H s.heap
 bare:AllBare s.gens
def CE (outer:List Env) (P:Program) (w:World) (H:Hp) (s:Shared) (Q:VK) (u:Value) (s':Shared):Prop :=
 ∃v H',s'.os=s.os/\AllBare s'.gens/\Un (frs outer) [] H H' s.heap s'.heap/\HOk P w H' s'.heap/\bK v u/\Q v H'
def CR (CX:CXT) (outer:List Env) (P:Program) (w:World) (H:Hp) (s:Shared) (Q:VK) (E:XK) (r:Result) (s':Shared):Prop :=
 match r with
 | .ok (.ret u)=>CE outer P w H s Q u s'
 | .ok _=>False
 | .error e=>CX outer H s E e s'
structure iX (P:Program) (w:World) (K:PySem.W.Frag) (mg:Str->Option Value) (base:Heap) (CX:CXT) (k:Nat) (f:Addr) (fd:FuncData) (ps:List Str) (sp:Sp):Prop where
 len:∀vs H Q E,sp vs H Q E->vs.length=ps.length
 run:∀(A:Around) (outer:List Env) (s:Shared) (H:Hp) (args:Args) (us:List Value) (vs:List V) (Q:VK) (E:XK),eP k A->sN P w K mg base A outer s H->BindsTo s fd args (ps.zip us)->aW vs us->sp vs H Q E ->
  codeAny (model P w) A (.call (.ref f) args) (CR CX outer P w H s Q E) s
theorem iX.imp {P:Program}{w:World}{K:PySem.W.Frag}{mg:Str->Option Value}{base:Heap}{CX:CXT}{k:Nat}{f:Addr}{fd:FuncData}{ps:List Str}{sp sp':Sp} (F:iX P w K mg base CX k f fd ps sp)
  (h:∀vs H Q E,sp' vs H Q E->sp vs H Q E):iX P w K mg base CX k f fd ps sp' :=
 ⟨fun vs H Q E q=>F.len vs H Q E (h _ _ _ _ q),fun A outer s H args us vs Q E hr he hb hv hs=>F.run A outer s H args us vs Q E hr he hb hv (h _ _ _ _ hs)⟩
section
variable {X:Cx}{pins:List (Addr×Obj)}{σ:St}{H:Hp}{s s':Shared}
theorem Inv.env0 (I:Inv X pins σ H s):sN X.prog X.w X.K X.mg X.base X.A X.stack s H :=
 ⟨I.ok.frames,I.ok.mod,I.bs,Nat.le_trans I.ok.bsz I.sz,I.stack,I.stkFree,I.hok,I.bare⟩
theorem Inv.after {Q:VK}{u:Value} (I:Inv X pins σ H s) (h:CE X.stack X.prog X.w H s Q u s'):EP X pins σ Q u s':=by
 obtain ⟨v,H',os,bare,un,hok,r,q⟩:=h
 obtain ⟨hh,g,d,t,os'⟩:=s'
 obtain rfl:os'=s.os:=os
 exact ⟨v,H',I.call (h':=hh) (g':=g) (d':=d) (t':=t) (ch:=[]) un hok bare (fun b z=>absurd z (by simp)),r,q⟩
end
def fM (sp:Sp) (dvs:List V) (E:XK) (t:TA):TE:=fun σ H Q=>t σ H fun vs H1=>sp (vs++dvs) H1 Q E
def iY (K:PySem.W.Frag) (fd:FuncData) (ps:List Str) (ds:List Value):Prop :=
 ∀(s:Shared) (us:List Value),K.In s.heap->(us++ds).length=ps.length->BindsTo s fd ⟨us,[]⟩ (ps.zip (us++ds))
theorem iY.all {K:PySem.W.Frag}{fd:FuncData}{ps:List Str} (h:∀us:List Value,us.length=ps.length->bindArgs fd ⟨us,[]⟩=pure (ps.zip us)):iY K fd ps []:=fun s us _ hl=>by
 rw [List.append_nil] at hl ⊢
 exact .of_eq (h us hl)
def kQ (CX:CXT) (X:Cx) (E:XK):Prop:=∀(pins:List (Addr×Obj)) (σ:St) (H:Hp) (s:Shared) (e:Value) (s':Shared),Inv X pins σ H s->CX X.stack H s E e s'->X.xe e s'
section
variable {X:Cx}{CX:CXT}{k:Nat}{f C:Addr}{fd:FuncData}{ps:List Str}{sp:Sp}{dvs:List V}{ds:List Value}{E:XK}{x m:Str}{p pos apos:Pos}{e o:Expr}{es:List Expr}{ta:TE}{t:TA}
theorem nF {pins:List (Addr×Obj)}{σ:St}{H:Hp}{s:Shared}{Q:VK}{us:List Value}{vs:List V} (F:iX X.prog X.w X.K X.mg X.base CX k f fd ps sp) (hr:eP k X.A) (hb:iY X.K fd ps ds) (hd:aW dvs ds) (hx:kQ CX X E)
  (I:Inv X pins σ H s) (r:aW vs us) (h:sp (vs++dvs) H Q E):wpAny (model X.prog X.w) X.A (call (.ref f) us) (EP X pins σ Q) X.xe s:=by
 have r2:aW (vs++dvs) (us++ds):=r.append hd
 have hl:(us++ds).length=ps.length:=by rw [<- r2.length];exact F.len _ _ _ _ h
 refine wpAny_call (codeAny_mono (F.run X.A X.stack s H ⟨us,[]⟩ (us++ds) (vs++dvs) Q E hr I.env0 (hb s us I.kIn hl) r2 h) fun r s' hq=>?_)
 cases r with
 | error e=>exact hx pins σ H s e s' I hq
 | ok fl =>
  cases fl with
  | ret u=>exact I.after hq
  | next=>exact False.elim hq
  | brk=>exact False.elim hq
  | cont=>exact False.elim hq
theorem oz (F:iX X.prog X.w X.K X.mg X.base CX k f fd ps sp) (hr:eP k X.A) (hg:Gl X x) (hm:X.mg x=some (.ref f)) (hk:PySem.W.keepIn X.K (.ref f)=true) (hb:iY X.K fd ps ds) (hd:aW dvs ds) (hx:kQ CX X E)
  (ha:PA X (e::es) t) (hdb:(x == ("__debug__":Str))=false:=by decide) (he:starEach (e::es) X.env=(false,eval e X.env)::starEach es X.env:=by rfl) (hpl:(backTo pos (starEach es X.env)).any (·.1)=false:=by rfl) :
  PE X (.Call (.Name x p) (e::es) [] pos) (fM sp dvs E t):=by
 intro pins s σ H Q I h
 refine wpAny_Call_Name_kw (iU I hg hm ?_ hdb)
 refine PySem.W.callWith_K (h₀:=X.base) I.ok.mod.kin hk (thn (ha pos pins s σ H _ I h) fun us s1 ⟨vs,H1,I1,r,q⟩=>⟨I1.kIn,?_⟩) he hpl
 exact nF F hr hb hd hx I1 r q
end
structure aS (N P:List Str) (sc:Scope):Prop where
 kind:sc.kind=.function
 co:sc.isCoroutine=false
 gen:sc.isGenerator=false
 nd:N.Nodup
 pre:N.take P.length=P
 par:∀x∈P,sc.names.lookup x=some .local\/sc.names.lookup x=some .cell
 nofree:∀y∈sc.names,y.2≠.free
theorem hZ {kindOf:Str->Option NameKind}{x:Str}:∀{binds:List (Str×Value)}{m:Str->Option Value},(∀v,(x,v)∉binds)->bindL kindOf binds m x=m x
 | [],_,_=>rfl
 | (n,v)::r,m,h=>by
  unfold bindL
  rw [hZ fun w hw=>h w (List.mem_cons_of_mem _ hw)]
  split
  .have:x≠n:=by rintro rfl;exact h v List.mem_cons_self
   simp [this]
  .rfl
theorem h7 {kindOf:Str->Option NameKind}{x:Str}:∀{binds:List (Str×Value)}{m:Str->Option Value},(∀v,(x,v)∉binds)->bindC kindOf binds m x=m x
 | [],_,_=>rfl
 | (n,v)::r,m,h=>by
  unfold bindC
  rw [h7 fun w hw=>h w (List.mem_cons_of_mem _ hw)]
  split
  .rfl
  .have:x≠n:=by rintro rfl;exact h v List.mem_cons_self
   simp [this]
theorem h8 {kindOf:Str->Option NameKind}{x:Str}{v:Value}:∀{P:List Str}{vs:List Value}{i:Nat}{m:Str->Option Value},P.Nodup->P[i]?=some x->vs[i]?=some v->kindOf x=some .local ->
  bindL kindOf (P.zip vs) m x=some v
 | [],_,_,_,_,h,_,_=>by simp at h
 | _::_,[],_,_,_,_,h,_=>by simp at h
 | p::P,w::vs,0,m,nd,h1,h2,hk=>by
  simp at h1 h2;subst h1;subst h2
  show bindL kindOf ((p,w)::P.zip vs) m p=_
  unfold bindL
  rw [hZ fun v hv=>(List.nodup_cons.mp nd).1 (List.of_mem_zip hv).1,if_pos hk]
  simp
 | p::P,w::vs,i + 1,m,nd,h1,h2,hk=>by
  show bindL kindOf ((p,w)::P.zip vs) m x=_
  unfold bindL
  exact h8 (i:=i) (List.nodup_cons.mp nd).2 (by simpa using h1) (by simpa using h2) hk
theorem h9 {kindOf:Str->Option NameKind}{x:Str}{v:Value}:∀{P:List Str}{vs:List Value}{i:Nat}{m:Str->Option Value},P.Nodup->P[i]?=some x->vs[i]?=some v->kindOf x≠some .local ->
  bindC kindOf (P.zip vs) m x=some v
 | [],_,_,_,_,h,_,_=>by simp at h
 | _::_,[],_,_,_,_,h,_=>by simp at h
 | p::P,w::vs,0,m,nd,h1,h2,hk=>by
  simp at h1 h2;subst h1;subst h2
  show bindC kindOf ((p,w)::P.zip vs) m p=_
  unfold bindC
  rw [h7 fun v hv=>(List.nodup_cons.mp nd).1 (List.of_mem_zip hv).1,if_neg hk]
  simp
 | p::P,w::vs,i + 1,m,nd,h1,h2,hk=>by
  show bindC kindOf ((p,w)::P.zip vs) m x=_
  unfold bindC
  exact h9 (i:=i) (List.nodup_cons.mp nd).2 (by simpa using h1) (by simpa using h2) hk
def start (N:List Str) (vs:List V):St:=vs.map some++List.replicate (N.length - vs.length) none
def kR (CX:CXT) (P:Program) (w:World) (K:PySem.W.Frag) (mg:Str->Option Value) (base:Heap) (N:List Str) (qual:Str) (scope:Scope) (f:Addr) (cd:Value) (A:Around) (outer:List Env) (s:Shared) (H:Hp) (E:XK):Cx where
 prog:=P
 w:=w
 K:=K
 mg:=mg
 base:=base
 A:=A.deeper (envOfC qual scope s.heap.objs.size f cd)
 N:=N
 s₀:=s
 H₀:=H
 env:=envOfC qual scope s.heap.objs.size f cd
 outer:=outer
 stack:=envOfC qual scope s.heap.objs.size f cd::outer
 ex:=[]
 calm:=true
 fn:=fun _=>true
 pn:=[]
 xe:=fun e s'=>wpAny (model P w) (A.deeper (envOfC qual scope s.heap.objs.size f cd)) (leaving (envOfC qual scope s.heap.objs.size f cd) e) (fun _ s''=>CX outer H s E e s'') (fun e' s''=>CX outer H s E e' s'') s'
theorem jF {sc:Scope}{n:Nat}{x:Str} (h:sc.names.lookup x=some .cell):∃c,(cellsFrom n sc.names []).lookup x=some c:=by
 have q:=PySem.W.cellsFrom_some sc.names n [] (.inl h)
 exact Option.isSome_iff_exists.mp q
theorem ia {CX:CXT}{P:Program}{w:World}{K:PySem.W.Frag}{mg:Str->Option Value}{base:Heap}{N ps:List Str}{qual:Str}{scope:Scope}{f:Addr}{cd:Value}{A:Around}{outer:List Env}{s s1:Shared}{H:Hp}{E:XK}{us:List Value}{vs:List V}
  (S:aS N ps scope) (hd:A.handled=none) (e0:sN P w K mg base A outer s H) (hl:vs.length=ps.length) (r:aW vs us)
  (x:InCallC s s.heap.objs.size (bindL (envOfC qual scope s.heap.objs.size f cd).kindOf (ps.zip us) fun _=>none) (cellsFrom (s.heap.objs.size + 1) scope.names []) (bindC (envOfC qual scope s.heap.objs.size f cd).kindOf (ps.zip us) fun _=>none) s1) :
  Inv (kR CX P w K mg base N qual scope f cd A outer s H E) [] (start N vs) H s1:=by
 have hpl:ps.length<=N.length:=by have:=congrArg List.length S.pre;rw [List.length_take] at this;omega
 obtain ⟨h1,tk,rfl,hk⟩:=x.done
 have noA:∀b:Addr,b∉(kR CX P w K mg base N qual scope f cd A outer s H E).ex:=fun b z=>absurd (show b∈([]:List Addr) from z) (by simp)
 refine ⟨⟨e0.mod,S.kind,rfl,rfl,Nat.le_refl _,fun y z c h1 h2=>?_,fun y hy=>?_,fun y c _ h=>?_,fun _=>hd,Around.frames_deeper e0.frames,.inr ⟨rfl,rfl⟩,fun b z=>absurd z (noA b),e0.bs,e0.bsz,fun b _ _=>noA b,fun b z=>absurd z (noA b),e0.funs,e0.frf⟩,
  rfl,e0.bare,Un.kept hk,⟨_,x.toInCall.ns,fun i y v h1 h2 h3=>?_⟩,fun y c h=>⟨_,x.cell y c h⟩,e0.hok.fresh (Nat.le_refl _),fun y c h=>?_,fun p hp=>absurd (show p∈([]:List (Addr×Obj)) from hp) (by simp),e0.hok.kept hk,?_⟩
 .exact name_of_addr x.apart (PySem.mem_of_lookup h1) (PySem.mem_of_lookup h2)
 .have hy:scope.names.lookup y=some .cell\/scope.names.lookup y=some .free:=hy
  rcases hy with hy | hy
  .exact jF hy
  .exact absurd rfl (S.nofree _ (PySem.mem_of_lookup hy))
 .exact Nat.le_of_lt (x.above y c (PySem.mem_of_lookup h))
 .have hi:i < vs.length:=by
   unfold start at h2
   by_cases hi:i < vs.length
   .exact hi
   .rw [List.getElem?_append_right (by simpa using hi)] at h2
    rw [List.getElem?_replicate] at h2
    split at h2 <;> cases h2
  have ha:vs[i]?=some v:=by
   unfold start at h2
   rw [List.getElem?_append_left (by simpa using hi),List.getElem?_map] at h2
   cases e:vs[i]? with
   | none=>rw [e] at h2;cases h2
   | some a=>rw [e] at h2;cases h2;rfl
  obtain ⟨u,hu,rv⟩:=r.get ha
  have hp:ps[i]?=some y:=by
   rw [<- S.pre,List.getElem?_take_of_lt (by omega)];exact h1
  have ndP:ps.Nodup:=by rw [<- S.pre];exact S.nd.sublist (List.take_sublist _ _)
  refine ⟨u,rv,?_⟩
  rcases S.par y (List.mem_of_getElem? hp) with k | k
  .exact .inl ⟨k,h8 ndP hp hu k⟩
  .obtain ⟨c,e⟩:=jF (n:=s.heap.objs.size + 1) k
   refine .inr ⟨.inl k,c,e,?_⟩
   have q:=x.cell y c e
   rw [h9 ndP hp hu (by show scope.names.lookup y≠_;rw [k];decide)] at q
   exact q
 .exact e0.hok.fresh (Nat.le_of_lt (x.above y c (PySem.mem_of_lookup h)))
 .unfold start
  show _=N.length
  rw [List.length_append,List.length_map,List.length_replicate]
  omega
theorem qS {CX:CXT}{P:Program}{w:World}{K:PySem.W.Frag}{mg:Str->Option Value}{base:Heap}{k:Nat}{f:Addr}{name qual:Str}{params:Arguments}{body:List Stmt}{scope:Scope}{dV kV doc pm cdv ct oc:Value}{an od:Option Addr}
  {osl:Array (Option Value)}{N ps:List Str}{sp:Sp} (lk:K.lookup f=some ⟨oc,od,.func (PySem.W.fnOf name qual params body scope dV kV doc pm an cdv ct),osl⟩) (hcd:PySem.W.codeIn K cdv qual=true) (S:aS N ps scope)
  (len:∀vs H Q E,sp vs H Q E->vs.length=ps.length)
  (hbody:∀(A:Around) (outer:List Env) (s:Shared) (H:Hp) (vs:List V) (Q:VK) (E:XK),eP k (A.deeper (envOfC qual scope s.heap.objs.size f cdv))->sp vs H Q E ->
   ∃t,PSs (kR CX P w K mg base N qual scope f cdv A outer s H E) body t/\t { nx:=fun _ H'=>Q .non H',rt:=Q } (start N vs) H) :
  iX P w K mg base CX (k + 1) f (PySem.W.fnOf name qual params body scope dV kV doc pm an cdv ct) ps sp:=by
 refine ⟨len,fun A outer s H args us vs Q E hr e0 hb r hsp=>?_⟩
 have hl:=len _ _ _ _ hsp
 have KX:K.In s.heap:=e0.mod.kin.keeps fun b o e=>(e0.bs b o e).1
 have lim:s.heap.NoLimit:=e0.mod.nolimit.keeps fun b o e=>(e0.bs b o e).1
 have hkind:∀y∈ps.zip us,scope.names.lookup y.1=some .local\/(scope.names.lookup y.1=some .cell/\((cellsFrom (s.heap.objs.size + 1) scope.names []).lookup y.1).isSome=true):=fun ⟨n,v⟩ hy=>by
  rcases S.par n (List.of_mem_zip hy).1 with q | q
  .exact .inl q
  .exact .inr ⟨q,PySem.W.cellsFrom_some _ _ _ (.inl q)⟩
 refine codeAny_call_function hr.depth (KX _ _ lk) rfl S.co S.gen rfl (PySem.W.codeRec_of KX hcd) (hb _ _ _ _ ?_)
 refine wpAny_newFunctionEnv_cells S.kind hkind fun env he s1 x=>?_
 subst he
 refine ⟨lim.keeps x.toInCall.keep,codeAny_func ?_⟩
 obtain ⟨t,ht,hq⟩:=hbody A outer s H vs Q E (hr.deeper _) hsp
 have I:Inv (kR CX P w K mg base N qual scope f cdv A outer s H E) [] (start N vs) H s1:=ia S hr.hd e0 hl r x
 refine wpAny_mono (ht [] s1 (start N vs) H _ I hq) (fun fl s' hs=>?_) fun e s' hs=>hs
 have fin:∀{σ':St}{H':Hp}{v:V}{u:Value},Inv (kR CX P w K mg base N qual scope f cdv A outer s H E) [] σ' H' s'->bK v u->Q v H'->CE outer P w H s Q u s' :=
  fun {σ' H' v u} J rv q=>⟨v,H',J.os,J.bare,J.base,J.hok,rv,q⟩
 cases fl with
 | ret u =>
  obtain ⟨v,σ',H',J,rv,q⟩:=hs
  exact fin J rv q
 | next =>
  obtain ⟨σ',H',J,q⟩:=hs
  exact fin (v:=V.non) (u:=Value.none) J rfl q
 | brk =>
  obtain ⟨_,_,_,q⟩:=hs
  exact False.elim q
 | cont =>
  obtain ⟨_,_,_,q⟩:=hs
  exact False.elim q
section
variable {X:Cx}{x:Str}{p pos:Pos}{e:Expr}{es:List Expr}{t:TA}{id T:String}{r:List V->Hp->VK->Prop}
def tCB (r:List V->Hp->VK->Prop) (t:TA):TE:=fun σ H Q=>t σ H fun vs H1=>r vs H1 Q
theorem ml (hc:bw X (.builtin id) r) (hg:Gl X x) (hm:X.mg x=none) (hv:bootBuiltins x=some (.builtin id)) (ha:PA X (e::es) t) (hn:x≠"__name__":=by decide) (hdb:(x == ("__debug__":Str))=false:=by decide)
  (he:starEach (e::es) X.env=(false,eval e X.env)::starEach es X.env:=by rfl) (hpl:(backTo pos (starEach es X.env)).any (·.1)=false:=by rfl):PE X (.Call (.Name x p) (e::es) [] pos) (tCB r t):=by
 intro pins s σ H Q I h
 refine wpAny_Call_Name_kw (dG I hg hm hv ?_ hn hdb)
 exact PyProof.Rows.callWith_builtin1 (thn (ha pos pins s σ H _ I h) fun us s1 ⟨vs,H1,I1,r1,q1⟩=>hc pins s1 σ H1 vs us Q I1 r1 q1) he hpl
theorem kS (hc:bw X (.type T) r) (hg:Gl X x) (hm:X.mg x=none) (hv:bootBuiltins x=some (.type T)) (ha:PA X (e::es) t) (hn:x≠"__name__":=by decide) (hdb:(x == ("__debug__":Str))=false:=by decide)
  (he:starEach (e::es) X.env=(false,eval e X.env)::starEach es X.env:=by rfl) (hpl:(backTo pos (starEach es X.env)).any (·.1)=false:=by rfl):PE X (.Call (.Name x p) (e::es) [] pos) (tCB r t):=by
 intro pins s σ H Q I h
 refine wpAny_Call_Name_kw (dG I hg hm hv ?_ hn hdb)
 exact PyProof.Rows.callWith_type1 (thn (ha pos pins s σ H _ I h) fun us s1 ⟨vs,H1,I1,r1,q1⟩=>hc pins s1 σ H1 vs us Q I1 r1 q1) he hpl
end
end L2
namespace HT
open PySem PyProof.Rows
section
open PySem.SeqAt
open PySem.AutoSeq1 (wpAny_loadPart')
open PySem.MeetsSeq PySem.MeetsSeq2 PySem.MeetsSeq3
end
section
variable {prog:Program}{w:World}{A:Around}{E:Value->Shared->Prop}{s:Shared}
theorem cat_tup {t b:Addr}{vs ws:List Value}{Q:Value->Shared->Prop} (ht:IsTup s.heap t vs.toArray) (hb:IsTup s.heap b ws.toArray) (hv:vs≠[])
  (h1:ws=[]->Q (.ref t) s) (h2:ws≠[]->Q (.ref s.heap.objs.size) { s with heap:=s.heap.push { cls:=.type "tuple",data:=.seq (vs++ws).toArray } })
  (hsz:vs.length + ws.length<=sizeLine):wpAny (model prog w) A (binaryOp .Add (.ref t) (.ref b)) Q E s:=by
 obtain ⟨⟨cls,dd,data,sl⟩,ho,hc,n,hd⟩:=id ht
 obtain ⟨⟨cls2,dd2,data2,sl2⟩,ho2,hc2,n2,hd2⟩:=id hb
 simp only at hc hd hc2 hd2
 subst hc hd hc2 hd2
 have e:vs.toArray++ws.toArray=(vs++ws).toArray:=by simp
 by_cases hw:ws=[]
 .exact concat_meets ⟨_,ho,rfl⟩ ⟨_,ho2,rfl⟩ noFill_tuple_add seq_tuple_add PySem.F.slot_tuple_add PySem.F.entry_tuple_add (PySem.F.args_tuple_add_2 _ _)
   (tuple_addW1 t b vs.toArray ws.toArray n n2 dd dd2 sl sl2 (by simpa using hv) (by simp [hw])) ⟨ho,ho2,h1 hw⟩
 .refine concat_meets ⟨_,ho,rfl⟩ ⟨_,ho2,rfl⟩ noFill_tuple_add seq_tuple_add PySem.F.slot_tuple_add PySem.F.entry_tuple_add (PySem.F.args_tuple_add_2 _ _)
   (tuple_addW2 t b vs.toArray ws.toArray n n2 dd dd2 sl sl2 (by simpa using hv) (by simpa using hw) (by rw [List.size_toArray,List.size_toArray];exact hsz)) ⟨ho,ho2,?_⟩
  rw [e]
  exact h2 hw
def sIx (n d:Nat):Option Int->Nat
 | none=>d
 | some v=>if v < 0 then (v + (n:Int)).toNat else min v.toNat n
theorem sIx_nat (n d k:Nat):sIx n d (some (k:Int))=min k n:=by
 show (if (k:Int) < 0 then ((k:Int) + (n:Int)).toNat else min (k:Int).toNat n)=min k n
 rw [if_neg (by omega),Int.toNat_natCast]
theorem sIx_le (n d:Nat) (hd:d<=n) (o:Option Int):sIx n d o<=n:=by
 cases o with
 | none=>exact hd
 | some v =>
  show (if v < 0 then (v + (n:Int)).toNat else min v.toNat n)<=n
  by_cases hv:v < 0
  .rw [if_pos hv];omega
  .rw [if_neg hv];exact Nat.min_le_right _ _
theorem clip_eq (v:Int) (n d:Nat):(if v < 0 then max (v + (n:Int)) 0 else min v (n:Int))=((sIx n d (some v):Nat):Int):=by
 show (if v < 0 then max (v + (n:Int)) 0 else min v (n:Int))=(((if v < 0 then (v + (n:Int)).toNat else min v.toNat n):Nat):Int)
 by_cases hv:v < 0
 .simp only [if_pos hv];omega
 .simp only [if_neg hv];omega
theorem j5 (lo hi:Option Int) (n:Nat):Builtin.Slice.sliceAdjust lo hi 1 (n:Int)=(((sIx n 0 lo:Nat):Int),((sIx n n hi:Nat):Int)):=by
 have h1:¬ ((1:Int) < 0):=by omega
 unfold Builtin.Slice.sliceAdjust
 simp only [h1,if_false]
 refine Prod.ext ?_ ?_
 .cases lo with
  | none=>rfl
  | some v=>exact clip_eq v n 0
 .cases hi with
  | none=>rfl
  | some v=>exact clip_eq v n n
theorem j6 (i j:Nat):Builtin.Slice.slicePlaces (i:Int) (j:Int) 1=j - i:=by
 unfold Builtin.Slice.slicePlaces
 have h1:(1:Int) > 0:=by omega
 simp only [h1,if_true,Int.ediv_one]
 split <;> omega
theorem fV {v:Value}{o:Option Int}{Q:Option Int->Shared->Prop} (p:IsPart v o) (h:Q o s):wpAny (model prog w) A (Builtin.Slice.slicePartIndex v) Q E s:=by
 cases p with
 | none=>exact slicePart_none h
 | int i t=>exact slicePart_int h
theorem cI {sl:Addr}{vl vu:Value}{lo hi:Option Int}{n:Nat}{Q:Int×Int×Nat->Shared->Prop} (hs:s.heap.IsSliceOf sl vl vu .none) (pl:IsPart vl lo) (pu:IsPart vu hi)
  (h:Q (((sIx n 0 lo:Nat):Int),1,sIx n n hi - sIx n 0 lo) s):wpAny (model prog w) A (Builtin.Slice.sliceApplied (.ref sl) (pure (n:Int))) Q E s:=by
 obtain ⟨os,hos,hcs,hds⟩:=id hs
 unfold Builtin.Slice.sliceApplied Builtin.Slice.sliceFields
 refine wpAny_bind (wpAny_bind (wpAny_field hos hds (x:=vl) rfl (wpAny_bind (wpAny_field hos hds (x:=vu) rfl (wpAny_bind (wpAny_field hos hds (x:=.none) rfl (wpAny_pure ?_)))))))
 refine wpAny_bind (slicePart_none ?_)
 show wpAny _ _ (if ((1:Int) == 0)=true then _ else _) _ _ s
 rw [if_neg (by decide)]
 refine wpAny_bind (fV pl (wpAny_bind (fV pu (wpAny_bind (wpAny_pure ?_)))))
 show wpAny _ _ (match Builtin.Slice.sliceAdjust lo hi 1 (n:Int) with | (lo,hi)=>pure (lo,(1:Int),Builtin.Slice.slicePlaces lo hi 1)) _ _ s
 rw [j5 lo hi n]
 show wpAny _ _ (pure (((sIx n 0 lo:Nat):Int),(1:Int),Builtin.Slice.slicePlaces ((sIx n 0 lo:Nat):Int) ((sIx n n hi:Nat):Int) 1)) _ _ s
 rw [j6]
 exact wpAny_pure h
theorem mm (xs:Array Value) (i k:Nat):((List.range k).filterMap fun (m:Nat)=>xs[((i:Int) + (m:Int) * 1).toNat]?).toArray=((xs.toList.drop i).take k).toArray:=by
 have e:(fun (m:Nat)=>xs[((i:Int) + (m:Int) * 1).toNat]?)=fun m=>xs[i + m]?:=by
  funext m
  have:((i:Int) + (m:Int) * 1).toNat=i + m:=by omega
  rw [this]
 rw [e]
 have:=pick_run xs i k
 rw [List.filterMap_map] at this
 have e2:((fun x=>xs[x]?) ∘ fun x=>i + x)=fun m=>xs[i + m]?:=rfl
 rw [e2] at this
 rw [this]
theorem getItem_tuple_cut {t sl:Addr}{items:Array Value}{vl vu:Value}{lo hi:Option Int}{Q:Value->Shared->Prop} (ht:IsTup s.heap t items) (hs:s.heap.IsSliceOf sl vl vu .none) (pl:IsPart vl lo) (pu:IsPart vu hi)
  (hw:¬ (sIx items.size 0 lo=0/\sIx items.size items.size hi=items.size))
  (h:Q (.ref s.heap.objs.size) { s with heap:=s.heap.push { cls:=.type "tuple",data:=.seq ((items.toList.drop (sIx items.size 0 lo)).take (sIx items.size items.size hi - sIx items.size 0 lo)).toArray } })
  (hsz:items.size<=sizeLine):wpAny (model prog w) A (getItem (.ref t) (.ref sl)) Q E s:=by
 have htake:sizeOk (.seq ((items.toList.drop (sIx items.size 0 lo)).take (sIx items.size items.size hi - sIx items.size 0 lo)).toArray):=by
  show ((items.toList.drop (sIx items.size 0 lo)).take (sIx items.size items.size hi - sIx items.size 0 lo)).toArray.size<=sizeLine
  rw [List.size_toArray,List.length_take,List.length_drop,Array.length_toList]
  omega
 have hj:sIx items.size items.size hi<=items.size:=sIx_le _ _ (Nat.le_refl _) hi
 obtain ⟨os,hos,hcs,hds⟩:=id hs
 have hTs:s.TypeIs (.ref sl) "slice":=⟨os,hos,hcs⟩
 unfold getItem
 try with_reducible refine wpAny_holding ?_
 first | refine wpAny_bind (wpAny_pure ?_) | skip
 refine wpAny_bind (wpAny_sequenceKey ht.typeIs (by decide) ?_)
 refine wpAny_bind (wpAny_callSpecial?_slot (name:=Str.ofString "__getitem__") ht.typeIs PyProof.Rows.slot_tuple_getitem
  (wpAny_call_entry PyProof.Rows.slot_tuple_getitem ht.typeIs entry_tuple_getitem ?_ (args_tuple_getitem _ _)))
 show wpAny _ _ (Builtin.Tuple.tupleItemsOf (.ref t) >>= _) _ _ s
 refine wpAny_bind (tupleItemsOf_ ht ?_)
 refine wpAny_bind (wpAny_typeOf hTs ?_)
 rw [if_pos (by decide)]
 refine wpAny_bind (cI hs pl pu ?_)
 have hno:¬ ((((sIx items.size 0 lo:Nat):Int) == 0 && (1:Int) == 1 && (sIx items.size items.size hi - sIx items.size 0 lo) == items.size)=true):=by
  intro q
  rw [Bool.and_eq_true,Bool.and_eq_true] at q
  have q1:((sIx items.size 0 lo:Nat):Int)=0:=eq_of_beq q.1.1
  have q2:sIx items.size items.size hi - sIx items.size 0 lo=items.size:=eq_of_beq q.2
  exact hw ⟨by omega,by omega⟩
 show wpAny _ _ (if (((sIx items.size 0 lo:Nat):Int) == 0 && (1:Int) == 1 && (sIx items.size items.size hi - sIx items.size 0 lo) == items.size)=true then _ else _) _ _ s
 rw [if_neg hno,mm]
 first
  | exact wpAny_bind (m:=Builtin.Tuple.tupleExact _) (wpAny_newObj_type (wpAny_pure ⟨_,rfl,wpAny_pure h⟩) htake)
  | exact wpAny_bind (m:=Builtin.Tuple.tupleExact _) (wpAny_newObj_type (wpAny_bind (wpAny_pure (wpAny_pure ⟨_,rfl,wpAny_pure h⟩))) htake)
  | exact wpAny_bind (wpAny_bind (m:=Builtin.Tuple.tupleExact _) (wpAny_newObj_type (wpAny_pure (wpAny_pure ⟨_,rfl,wpAny_pure h⟩)) htake))
  | exact wpAny_bind (wpAny_bind (m:=Builtin.Tuple.tupleExact _) (wpAny_newObj_type (wpAny_pure ⟨_,rfl,wpAny_pure h⟩) htake))
end
end HT
namespace L2
open PySem PySem.Spec PyProof.Rows
abbrev TO:=St->Hp->(Option Int->Hp->Prop)->Prop
def PO (X:Cx) (e:Option Expr) (t:TO):Prop :=
 ∀(pins:List (Addr×Obj)) (s:Shared) (σ:St) (H:Hp) (Q:Option Int->Hp->Prop),Inv X pins σ H s->t σ H Q ->
  wpAny (model X.prog X.w) X.A (evalPart e X.env) (fun u s'=>∃o H',Inv X pins σ H' s'/\IsPart u o/\Q o H') X.xe s
def kT:TO:=fun _ H Q=>Q none H
def qT (t:TE):TO:=fun σ H Q=>t σ H fun x H1=>∃i,x=.int i/\Q (some i) H1
section
variable {X:Cx}{e:Expr}{te:TE}{lo hi:Option Expr}{tl th:TO}{pos p2:Pos}
theorem iZ:PO X none kT:=by
 intro pins s σ H Q I h
 rw [evalPart_none]
 exact wpAny_pure ⟨none,H,I,.none,h⟩
theorem cv (h:PE X e te):PO X (some e) (qT te):=by
 intro pins s σ H Q I hw
 rw [evalPart_some]
 refine thn (h pins s σ H _ I hw) fun u s1 ⟨x,H1,I1,r1,q1⟩=>?_
 obtain ⟨i,rfl,q⟩:=q1
 obtain ⟨t,rfl⟩:=r1
 exact ⟨some i,H1,I1,.int i t,q⟩
def SlR (X:Cx) (r:V->Option Int->Option Int->Hp->VK->Prop):Prop :=
 ∀(pins:List (Addr×Obj)) (s:Shared) (σ:St) (H:Hp) (x:V) (v vl vu:Value) (lo hi:Option Int) (sl:Addr) (Q:VK),Inv X pins σ H s->bK x v->s.heap.IsSliceOf sl vl vu .none->IsPart vl lo->IsPart vu hi->r x lo hi H Q ->
  ∃T id,typeLookup (.type T) "__getitem__"=pure (some (.builtin id))/\s.TypeIs v T/\wpAny (model X.prog X.w) X.A (getItem v (.ref sl)) (EP X pins σ Q) X.xe s
theorem SlR.or {r r':V->Option Int->Option Int->Hp->VK->Prop} (h:SlR X r) (h':SlR X r'):SlR X (fun x lo hi H Q=>r x lo hi H Q\/r' x lo hi H Q):=by
 intro pins s σ H x v vl vu lo hi sl Q I rx hs pl pu q
 rcases q with q | q
 .exact h pins s σ H x v vl vu lo hi sl Q I rx hs pl pu q
 .exact h' pins s σ H x v vl vu lo hi sl Q I rx hs pl pu q
def tSl (r:V->Option Int->Option Int->Hp->VK->Prop) (te:TE) (tl th:TO):TE:=fun σ H Q=>te σ H fun x H1=>tl σ H1 fun l H2=>th σ H2 fun u H3=>r x l u H3 Q
theorem de {r:V->Option Int->Option Int->Hp->VK->Prop} (hr:SlR X r) (he:PE X e te) (hl:PO X lo tl) (hu:PO X hi th):PE X (.Subscript e (.Slice lo hi none p2) pos) (tSl r te tl th):=by
 intro pins s σ H Q I h
 refine Subscript_ (thn (he pins s σ H _ I h) fun v s1 ⟨x,H1,I1,r1,q1⟩=>?_)
 refine wpAny_Slice (thn (hl pins s1 σ H1 _ I1 q1) fun vl s2 ⟨l,H2,I2,pl,q2⟩=>thn (hu pins s2 σ H2 _ I2 q2) fun vu s3 ⟨u,H3,I3,pu,q3⟩=>?_)
 rw [evalPart_none]
 refine wpAny_pure ?_
 have I4:Inv X pins σ H3 { s3 with heap:=s3.heap.push { cls:=.type "slice",data:=.fields #[vl,vu,.none] } }:=I3.kept (t':=s3.toks) fun b ob q=>Heap.get?_push_of_some _ q
 obtain ⟨T,id,hT,ht,hg⟩:=hr pins { s3 with heap:=s3.heap.push { cls:=.type "slice",data:=.fields #[vl,vu,.none] } } σ H3 x v vl vu l u s3.heap.objs.size Q I4 r1 (Heap.IsSliceOf.new ..) pl pu q3
 show wpAny (model X.prog X.w) X.A (subscriptTail e (.Slice lo hi none p2) v (.ref s3.heap.objs.size)) (EP X pins σ Q) X.xe { s3 with heap:=s3.heap.push { cls:=.type "slice",data:=.fields #[vl,vu,.none] } }
 exact tail_any (ops:=[.ref s3.heap.objs.size,v]) ht hT hg (by with_unfolding_all rfl)
def oA (xs:List V) (lo hi:Option Int):List V:=(xs.drop (HT.sIx xs.length 0 lo)).take (HT.sIx xs.length xs.length hi - HT.sIx xs.length 0 lo)
theorem e7 (xs:List V) (lo hi:Option Int):(oA xs lo hi).length<=xs.length:=by
 unfold oA
 rw [List.length_take,List.length_drop]
 omega
def uI (K:PySem.W.Frag):V->Option Int->Option Int->Hp->VK->Prop:=fun x lo hi H Q=>∃a xs,x=.ref a/\SqT K H a xs /\
 ¬ (HT.sIx xs.length 0 lo=0/\HT.sIx xs.length xs.length hi=xs.length)/\∀p,H p=none->Q (.ref p) (upd H p (.tup (oA xs lo hi)))
theorem qU:SlR X (uI X.K):=by
 intro pins s σ H x v vl vu lo hi sl Q I rx hs pl pu h
 obtain ⟨a,xs,rfl,hx,hw,q⟩:=h
 cases rx
 obtain ⟨its,r,ht,hz⟩:=I.tuple hx
 have hlen:its.toArray.size=xs.length:=by rw [List.size_toArray];exact r.length.symm
 refine ⟨"tuple",_,PyProof.Rows.slot_tuple_getitem.lookup,ht.typeIs,?_⟩
 refine HT.getItem_tuple_cut ht hs pl pu (by rw [hlen];exact hw) ?_ (by rw [hlen];exact hz)
 rw [hlen]
 refine ⟨.ref s.heap.objs.size,_,I.laid (t':=s.toks) (o:=.tup (oA xs lo hi)) (fun b ob q=>Heap.get?_push_of_some _ q) (Nat.le_refl _) ?_,rfl,q _ (I.hok.fresh (Nat.le_refl _))⟩
 exact ⟨Nat.le_trans (e7 xs lo hi) hz,_,(r.drop (HT.sIx xs.length 0 lo)).take (HT.sIx xs.length xs.length hi - HT.sIx xs.length 0 lo),IsTup.new _ _⟩
def qV (K:PySem.W.Frag):R2:=fun x y H Q=>∃a b xs ys,x=.ref a/\y=.ref b/\SqT K H a xs/\SqT K H b ys/\xs≠[]/\xs.length + ys.length<=sizeLine /\
 (ys=[]->Q (.ref a) H)/\(ys≠[]->∀p,H p=none->Q (.ref p) (upd H p (.tup (xs++ys))))
theorem aW.nil_iff {xs:List V}{us:List Value} (r:aW xs us):us=[] ↔ xs=[]:=by
 cases r with
 | nil=>simp
 | cons _ _=>simp
theorem oB:OpR X (binaryOp .Add) (qV X.K):=by
 intro pins s σ H x y v u Q I rx ry h
 obtain ⟨a,b,xs,ys,rfl,rfl,ha,hb,hx,hz,q1,q2⟩:=h
 cases rx
 cases ry
 obtain ⟨its,r1,p1,_⟩:=I.tuple ha
 obtain ⟨its2,r2,p2,_⟩:=I.tuple hb
 refine HT.cat_tup p1 p2 (fun z=>hx (r1.nil_iff.mp z)) (fun z=>⟨.ref a,H,I,rfl,q1 (r2.nil_iff.mp z)⟩) (fun z=>?_) (by rw [<- r1.length,<- r2.length];exact hz)
 refine ⟨.ref s.heap.objs.size,_,I.laid (t':=s.toks) (o:=.tup (xs++ys)) (fun b ob q=>Heap.get?_push_of_some _ q) (Nat.le_refl _) ?_,rfl,q2 (fun w=>z (r2.nil_iff.mpr w)) _ (I.hok.fresh (Nat.le_refl _))⟩
 exact ⟨by rw [List.length_append];exact hz,_,r1.append r2,IsTup.new _ _⟩
end
def ixN (n:Nat) (i:Int):Option Nat:=if 0<=i then (if i < n then some i.toNat else none) else if -(n:Int)<=i then some (i + n).toNat else none
def atI {α:Type} (xs:List α) (i:Int):Option α:=(ixN xs.length i).bind fun j=>xs[j]?
theorem kU {n:Nat}{i:Int}{j:Nat} (h:ixN n i=some j):seqIndex? i n=some j/\j < n/\-(n:Int)<=i/\i < n:=by
 unfold ixN at h
 by_cases h0:0<=i
 .rw [if_pos h0] at h
  by_cases h1:i < n
  .rw [if_pos h1] at h
   have e:i.toNat=j:=Option.some.inj h
   exact ⟨by rw [seqIndex_of h0 h1,e],by omega,by omega,h1⟩
  .rw [if_neg h1] at h;cases h
 .rw [if_neg h0] at h
  by_cases h1:-(n:Int)<=i
  .rw [if_pos h1] at h
   have e:(i + n).toNat=j:=Option.some.inj h
   exact ⟨by rw [seqIndex_neg (by omega) h1,e],by omega,h1,by omega⟩
  .rw [if_neg h1] at h;cases h
theorem i3 {α:Type}{xs:List α}{i:Int}{v:α} (h:atI xs i=some v):∃j,seqIndex? i xs.length=some j/\xs[j]?=some v/\j < xs.length/\-(xs.length:Int)<=i/\i < xs.length:=by
 unfold atI at h
 cases e:ixN xs.length i with
 | none=>rw [e] at h;cases h
 | some j =>
  rw [e] at h
  obtain ⟨h1,h2,h3,h4⟩:=kU e
  exact ⟨j,h1,h,h2,h3,h4⟩
theorem oD {α:Type}{xs:List α}{j:Nat}{v:α} (h:xs[j]?=some v):atI xs (j:Int)=some v:=by
 have hj:j < xs.length:=(List.getElem?_eq_some_iff.mp h).1
 have e:ixN xs.length (j:Int)=some j:=by
  unfold ixN
  rw [if_pos (by omega),if_pos (by omega)];simp
 unfold atI;rw [e];exact h
def oE (b:Expr):Prop:=∀o i,subscripted b false o i=operate [o,i] (getItem o i)
def IxR (X:Cx) (r:R2):Prop :=
 ∀(value slice:Expr) (pins:List (Addr×Obj)) (s:Shared) (σ:St) (H:Hp) (x y:V) (v u:Value) (Q:VK),Inv X pins σ H s->bK x v->bK y u->r x y H Q ->
  subscripted slice false v u=operate [v,u] (getItem v u)->wpAny (model X.prog X.w) X.A (subscriptTail value slice v u) (EP X pins σ Q) X.xe s
def MtR (X:Cx) (id:String) (r:V->List V->Hp->VK->Prop):Prop :=
 ∀(pins:List (Addr×Obj)) (s:Shared) (σ:St) (H:Hp) (x:V) (xs:List V) (v:Value) (us:List Value) (Q:VK),Inv X pins σ H s->bK x v->aW xs us->r x xs H Q ->
  wpAny (model X.prog X.w) X.A (call (.builtin id) (v::us)) (EP X pins σ Q) X.xe s
section
variable {X:Cx}{a b:Expr}{ta tb:TE}{pos:Pos}
theorem IxR.or {r r':R2} (h:IxR X r) (h':IxR X r'):IxR X (fun x y H Q=>r x y H Q\/r' x y H Q):=by
 intro value slice pins s σ H x y v u Q I rx ry q hs
 rcases q with q | q
 .exact h value slice pins s σ H x y v u Q I rx ry q hs
 .exact h' value slice pins s σ H x y v u Q I rx ry q hs
theorem dW {r:R2} (hr:IxR X r) (ha:PE X a ta) (hb:PE X b tb) (hs:oE b):PE X (.Subscript a b pos) (tOp r ta tb):=by
 intro pins s σ H Q I h
 exact Subscript_ (sZ ha hb I h fun v u s2 x y H2 I2 rx ry q=>hr a b pins s2 σ H2 x y v u Q I2 rx ry q (hs _ _))
def uJ (K:PySem.W.Frag):R2:=fun x y H Q=>∃p xs i v,x=.ref p/\y=.int i/\SqL K H p xs/\atI xs i=some v/\Q v H
def uK (K:PySem.W.Frag):R2:=fun x y H Q=>∃p xs i v,x=.ref p/\y=.int i/\SqT K H p xs/\atI xs i=some v/\Q v H
def vg:R2:=fun x y H Q=>∃z i c,x=.str z/\y=.int i/\z.length<=sizeLine/\atI z.cps.toList i=some c/\Q (.str ⟨#[c]⟩) H
theorem oF:IxR X (uJ X.K):=by
 intro value slice pins s σ H x y v u Q I rx ry h hs
 obtain ⟨p,xs,i,z,rfl,rfl,hq,he,q⟩:=h
 cases rx
 obtain ⟨t,rfl⟩:=ry
 obtain ⟨its,r,pl,hz⟩:=I.list hq
 obtain ⟨j,h1,h2,h3,h4,h5⟩:=i3 he
 obtain ⟨w,ew,rw'⟩:=r.get h2
 have hl:=r.length
 have hn:=fU
 have fin:EP X pins σ Q w s:=⟨z,H,I,rw',q⟩
 by_cases h0:0<=i
 .have hj:i.toNat=j:=by
   rw [seqIndex_of h0 h5] at h1
   exact Option.some.inj h1
  exact item_listR pl.isList h0 (by omega) (by rw [hj];simpa using ew) fin hs
 .have hj:(i + (its.toArray.size:Int)).toNat=j:=by
   rw [seqIndex_neg (by omega) h4] at h1
   rw [List.size_toArray,<- hl]
   exact Option.some.inj h1
  exact subscriptTail_builtinR (x:=w) pl.isList.typeIs slot_list_getitem.lookup
   (wpAny_getItem_list_neg (Q:=fun r s'=>r=w/\EP X pins σ Q r s') pl.isList (by omega) (by rw [List.size_toArray] <;> omega) (by omega) (by rw [hj];simpa using ew) ⟨rfl,fin⟩) hs
theorem qW:IxR X (uK X.K):=by
 intro value slice pins s σ H x y v u Q I rx ry h hs
 obtain ⟨p,xs,i,z,rfl,rfl,hq,he,q⟩:=h
 cases rx
 obtain ⟨t,rfl⟩:=ry
 obtain ⟨its,r,pl,hz⟩:=I.tuple hq
 obtain ⟨j,h1,h2,h3,h4,h5⟩:=i3 he
 obtain ⟨w,ew,rw'⟩:=r.get h2
 have hl:=r.length
 have hn:=fU
 have fin:EP X pins σ Q w s:=⟨z,H,I,rw',q⟩
 exact subscriptTail_builtinR (x:=w) pl.typeIs slot_tuple_getitem.lookup
  (getItem_tuple (j:=j) (Q:=fun r s'=>r=w/\EP X pins σ Q r s') pl (by omega) (by omega) (by rw [List.size_toArray,<- hl];exact h1) (by simpa using ew) ⟨rfl,fin⟩) hs
theorem qX:IxR X vg:=by
 intro value slice pins s σ H x y v u Q I rx ry h hs
 obtain ⟨z,i,c,rfl,rfl,hz,he,q⟩:=h
 obtain ⟨t,rfl⟩:=rx
 obtain ⟨t',rfl⟩:=ry
 obtain ⟨j,h1,h2,h3,h4,h5⟩:=i3 he
 have hl:z.cps.toList.length=z.length:=by simp [Str.length]
 rw [hl] at h1 h4 h5
 have hn:=fU
 exact tail_any (typeIs_str s z t) slot_str_getitem.lookup (getItem_str (c:=c) (by
  have e1:decide (i < -(2 ^ 63:Int))=false:=decide_eq_false (by omega)
  have e2:decide (i >= 2 ^ 63)=false:=decide_eq_false (by omega)
  rw [e1,e2,Bool.or_false]) (by rw [h1];simpa using h2) ⟨.str ⟨#[c]⟩,H,I.tok _,⟨_,rfl⟩,q⟩) hs
theorem j7 (its:List Value) (n j:Nat) (u:Value):Obj.mapSeq (·.setIfInBounds j u) { cls:=.type "list",data:=.seq its.toArray n }={ cls:=.type "list",data:=.seq (its.set j u).toArray n }:=by
 simp [Obj.mapSeq]
theorem Inv.lst {pins:List (Addr×Obj)}{σ:St}{H:Hp}{s:Shared}{p:Addr}{xs:List V} (I:Inv X pins σ H s) (h:H p=some (.lst xs)) :
  ∃(its:List Value) (n:Nat),aW xs its/\s.heap.get? p=some { cls:=.type "list",data:=.seq its.toArray n }/\xs.length<=sizeLine:=by
 obtain ⟨z,its,n,r,e⟩:=I.hok p _ h
 exact ⟨its,n,r,e,z⟩
theorem Inv.lstUpd {pins:List (Addr×Obj)}{σ:St}{H:Hp}{s:Shared}{p:Addr}{xs ys:List V}{its its':List Value}{n n':Nat}{f:Obj->Obj} (I:Inv X pins σ H s) (h:H p=some (.lst xs))
  (ho:s.heap.get? p=some { cls:=.type "list",data:=.seq its.toArray n }) (hf:f { cls:=.type "list",data:=.seq its.toArray n }={ cls:=.type "list",data:=.seq its'.toArray n' }) (r:aW ys its') (hz:ys.length<=sizeLine) (t:Nat) :
  Inv X pins σ (upd H p (.lst ys)) { s with heap:=s.heap.update p f,toks:=t }:=by
 have e:(s.heap.update p f).get? p=some { cls:=.type "list",data:=.seq its'.toArray n' }:=by
  rw [Heap.get?_update_self f ho (by rw [hf] <;> rfl),hf]
 refine I.write (x:=p) (e:=p) (by rw [h];trivial) (.inl rfl) (fun b u hb q=>(Heap.get?_update_other _ _ (Ne.symm hb)).trans q) ⟨_,e⟩ ?_
 exact ⟨hz,its',n',r,e⟩
def qY:V->V->V->Hp->(Hp->Prop)->Prop:=fun o i v H Q=>∃p xs k j,o=.ref p/\i=.int k/\H p=some (.lst xs)/\ixN xs.length k=some j/\Q (upd H p (.lst (xs.set j v)))
theorem mn:uA X qY:=by
 intro pins s σ H o i v ov iv u Q I ro ri rv h
 obtain ⟨p,xs,k,j,rfl,rfl,hp,hj,q⟩:=h
 cases ro
 obtain ⟨t,rfl⟩:=ri
 obtain ⟨its,n,r,ho,hz⟩:=I.lst hp
 obtain ⟨h1,h2,h3,h4⟩:=kU hj
 have hl:=r.length
 have hn:=fU
 have I':Inv X pins σ (upd H p (.lst (xs.set j v))) { s with heap:=s.heap.update p (Obj.mapSeq (·.setIfInBounds j u)) } :=
  I.lstUpd hp ho (j7 its n j u) (r.set rv j) (by rw [List.length_set];exact hz) s.toks
 by_cases h0:0<=k
 .have hk:k.toNat=j:=by
   rw [seqIndex_of h0 h4] at h1
   exact Option.some.inj h1
  exact PySem.W.ki_setAt ho h0 (by omega) (by rw [List.size_toArray,<- hl];exact h4) (by rw [hk];exact ⟨_,I',q⟩)
 .have hk:(k + (its.toArray.size:Int)).toNat=j:=by
   rw [seqIndex_neg (by omega) h3] at h1
   rw [List.size_toArray,<- hl]
   exact Option.some.inj h1
  exact PySem.W.ki_setBack ho (by omega) (by rw [List.size_toArray,<- hl];exact h3) (by omega) (by rw [hk];exact ⟨_,I',q⟩)
theorem ib (lo hi:Option Int) (n:Nat):(sliceBounds lo hi none n).1=((HT.sIx n 0 lo:Nat):Int)/\(sliceBounds lo hi none n).2.1=((HT.sIx n n hi:Nat):Int)/\(sliceBounds lo hi none n).2.2=1:=by
 refine ⟨?_,?_,rfl⟩
 .cases lo with
  | none=>simp [sliceBounds,HT.sIx]
  | some i =>
   simp only [sliceBounds,HT.sIx,Option.getD_none,show (1:Int) > 0 by decide,if_true]
   by_cases h:i < 0
   .simp only [h,if_true] <;> omega
   .simp only [h,if_false] <;> omega
 .cases hi with
  | none=>simp [sliceBounds,HT.sIx]
  | some i =>
   simp only [sliceBounds,HT.sIx,Option.getD_none,show (1:Int) > 0 by decide,if_true]
   by_cases h:i < 0
   .simp only [h,if_true] <;> omega
   .simp only [h,if_false] <;> omega
theorem gC (its:List Value) (lo hi:Option Int):slicePick its.toArray lo hi none=((its.drop (HT.sIx its.length 0 lo)).take (HT.sIx its.length its.length hi - HT.sIx its.length 0 lo)).toArray:=by
 obtain ⟨h1,h2,h3⟩:=ib lo hi its.toArray.size
 unfold slicePick
 rw [h1,h2,h3]
 simp only [sliceRange_one,pick_run,List.size_toArray] <;> rfl
def uL (K:PySem.W.Frag):V->Option Int->Option Int->Hp->VK->Prop:=fun x lo hi H Q=>∃a xs,x=.ref a/\SqL K H a xs/\∀p,H p=none->Q (.ref p) (upd H p (.lst (oA xs lo hi)))
theorem oG:SlR X (uL X.K):=by
 intro pins s σ H x v vl vu lo hi sl Q I rx hs pl pu h
 obtain ⟨a,xs,rfl,hx,q⟩:=h
 cases rx
 obtain ⟨its,r,ht,hz⟩:=I.list hx
 have hlen:=r.length
 refine ⟨"list",_,slot_list_getitem.lookup,ht.isList.typeIs,?_⟩
 refine wpAny_getItem_list_slice ht.isList hs pl pu .none (by simp) ?_ (by rw [List.size_toArray] <;> omega)
 rw [gC,<- hlen]
 refine ⟨.ref s.heap.objs.size,_,I.laid (t':=s.toks) (o:=.lst (oA xs lo hi)) (fun b ob q=>Heap.get?_push_of_some _ q) (Nat.le_refl _) ?_,rfl,q _ (I.hok.fresh (Nat.le_refl _))⟩
 exact ⟨Nat.le_trans (e7 xs lo hi) hz,_,0,(r.drop (HT.sIx xs.length 0 lo)).take (HT.sIx xs.length xs.length hi - HT.sIx xs.length 0 lo),Heap.get?_push_size _ rfl⟩
def fN:V->Bool
 | .non=>true
 | .bl _=>true
 | .int _=>true
 | .str _=>true
 | _=>false
def eqV:V->V->Bool
 | .non,.non=>true
 | .bl a,.bl b=>a == b
 | .bl a,.int b=>(if a then 1 else 0) == b
 | .int a,.bl b=>a == (if b then 1 else 0)
 | .int a,.int b=>a == b
 | .str a,.str b=>a == b
 | _,_=>false
theorem qZ {A:Around}{s:Shared}{y x:V}{u v:Value} (ry:bK y u) (rx:bK x v) (fy:fN y=true) (fx:fN x=true):SeqAt.EqAt A s u v (eqV y x):=by
 cases y with
 | non =>
  cases ry
  cases x with
  | non=>cases rx;exact SeqAt.EqAt.same _
  | bl b=>cases rx;exact SeqAt.EqAt.none_bool b
  | int b=>obtain ⟨t,rfl⟩:=rx;exact SeqAt.EqAt.none_int b t
  | str b=>obtain ⟨t,rfl⟩:=rx;exact SeqAt.EqAt.none_str b t
  | _=>exact absurd (show false=true from fx) Bool.false_ne_true
 | bl a =>
  cases ry
  cases x with
  | non=>cases rx;exact SeqAt.EqAt.bool_none a
  | bl b=>cases rx;exact SeqAt.EqAt.bool_bool a b
  | int b=>obtain ⟨t,rfl⟩:=rx;exact SeqAt.EqAt.bool_int a b t
  | str b=>obtain ⟨t,rfl⟩:=rx;exact SeqAt.EqAt.bool_str a b t
  | _=>exact absurd (show false=true from fx) Bool.false_ne_true
 | int a =>
  obtain ⟨t',rfl⟩:=ry
  cases x with
  | non=>cases rx;exact SeqAt.EqAt.int_none a t'
  | bl b=>cases rx;exact SeqAt.EqAt.int_bool a t' b
  | int b=>obtain ⟨t,rfl⟩:=rx;exact SeqAt.EqAt.int_int a t' b t
  | str b=>obtain ⟨t,rfl⟩:=rx;exact SeqAt.EqAt.int_str a t' b t
  | _=>exact absurd (show false=true from fx) Bool.false_ne_true
 | str a =>
  obtain ⟨t',rfl⟩:=ry
  cases x with
  | non=>cases rx;exact SeqAt.EqAt.str_none a t'
  | bl b=>cases rx;exact SeqAt.EqAt.str_bool a t' b
  | int b=>obtain ⟨t,rfl⟩:=rx;exact SeqAt.EqAt.str_int a t' b t
  | str b=>obtain ⟨t,rfl⟩:=rx;exact SeqAt.EqAt.str_str a t' b t
  | _=>exact absurd (show false=true from fx) Bool.false_ne_true
 | _=>exact absurd (show false=true from fy) Bool.false_ne_true
def eqU (x:V) (u:Value):Bool:=match u with
 | .none=>eqV .non x
 | .bool b=>eqV (.bl b) x
 | .int i _=>eqV (.int i) x
 | .str z _=>eqV (.str z) x
 | _=>false
theorem nG {x y:V}{u:Value} (r:bK y u) (f:fN y=true):eqU x u=eqV y x:=by
 cases y with
 | non=>cases r;rfl
 | bl b=>cases r;rfl
 | int i=>obtain ⟨t,rfl⟩:=r;rfl
 | str z=>obtain ⟨t,rfl⟩:=r;rfl
 | _=>exact absurd (show false=true from f) Bool.false_ne_true
theorem i4 {x:V}:∀{xs:List V}{us:List Value},aW xs us->xs.all fN=true->us.any (eqU x)=xs.any fun y=>eqV y x
 | _,_,.nil,_=>rfl
 | y::xs,u::us,.cons r t,f=>by
  rw [List.all_cons,Bool.and_eq_true] at f
  rw [List.any_cons,List.any_cons,nG r f.1,i4 t f.2]
theorem gD {A:Around}{s:Shared}{x:V}{v:Value} (rx:bK x v) (fx:fN x=true):∀{xs:List V}{us:List Value},aW xs us->xs.all fN=true->∀u∈us,SeqAt.EqAt A s u v (eqU x u)
 | _,_,.nil,_=>fun u hu=>by cases hu
 | y::xs,u::us,.cons r t,f=>fun u' hu=>by
  rw [List.all_cons,Bool.and_eq_true] at f
  rcases List.mem_cons.mp hu with rfl | hu
  .rw [nG r f.1];exact qZ r rx f.1 fx
  .exact gD rx fx t f.2 u' hu
def inV (x:V) (xs:List V):Bool:=xs.any fun y=>eqV y x
def rIn (K:PySem.W.Frag) (neg:Bool):R2:=fun x y H Q=>∃p xs,y=.ref p/\(SqL K H p xs\/SqT K H p xs)/\fN x=true/\xs.all fN=true/\Q (.bl (if neg then !inV x xs else inV x xs)) H
theorem kW:OpR X (compareOp .In) (rIn X.K false):=by
 intro pins s σ H x y v u Q I rx ry h
 obtain ⟨p,xs,rfl,hq,fx,fs,q⟩:=h
 cases ry
 rcases hq with hq | hq
 .obtain ⟨its,r,pl,hz⟩:=I.list hq
  refine SeqAt.in_listAt (eqU x) pl.isList (fun w hw=>gD rx fx r fs w (by simpa using hw)) ⟨.bl _,H,I,rfl,?_⟩
  rw [show its.toArray.any (eqU x)=its.any (eqU x) by simp,i4 r fs]
  exact q
 .obtain ⟨its,r,pl,hz⟩:=I.tuple hq
  refine SeqAt.in_tupleAt (eqU x) pl (fun w hw=>gD rx fx r fs w (by simpa using hw)) ⟨.bl _,H,I,rfl,?_⟩
  rw [show its.toArray.any (eqU x)=its.any (eqU x) by simp,i4 r fs]
  exact q
theorem eG:bw X (.builtin "len") (fun xs H Q=>∃p ys,xs=[.ref p]/\(SqL X.K H p ys\/SqT X.K H p ys)/\Q (.int ys.length) H):=by
 intro pins s σ H xs us Q I r h
 obtain ⟨p,ys,rfl,hq,q⟩:=h
 obtain ⟨u,rfl,rx⟩:=gB r
 cases rx
 have hn:=fU
 rcases hq with hq | hq
 .obtain ⟨its,r',pl,hz⟩:=I.list hq
  have hlen:=r'.length
  exact Calls.call_len_list pl.isList (by simp only [List.size_toArray] <;> omega) ⟨.int ys.length,H,I.tok _,⟨s.toks + 1,by rw [List.size_toArray,hlen]⟩,q⟩
 .obtain ⟨its,r',pl,hz⟩:=I.tuple hq
  have hlen:=r'.length
  exact len_tuple pl (by simp only [List.size_toArray] <;> omega) ⟨.int ys.length,H,I.tok _,⟨s.toks + 1,by rw [List.size_toArray,hlen]⟩,q⟩
theorem ic:bw X (.builtin "len") (fun xs H Q=>∃z,xs=[.str z]/\z.length<=sizeLine/\Q (.int z.length) H):=by
 intro pins s σ H xs us Q I r h
 obtain ⟨z,rfl,hz,q⟩:=h
 obtain ⟨u,rfl,t,rfl⟩:=gB r
 have hn:=fU
 exact len_str (by omega) ⟨.int z.length,H,I.tok _,⟨_,rfl⟩,q⟩
theorem bw.or {f:Value}{r r':List V->Hp->VK->Prop} (h:bw X f r) (h':bw X f r'):bw X f (fun xs H Q=>r xs H Q\/r' xs H Q):=by
 intro pins s σ H xs us Q I rs q
 rcases q with q | q
 .exact h pins s σ H xs us Q I rs q
 .exact h' pins s σ H xs us Q I rs q
theorem ie:bw X (.type "list") (fun xs H Q=>∃p ys,xs=[.ref p]/\(SqL X.K H p ys\/SqT X.K H p ys)/\∀l,H l=none->Q (.ref l) (upd H l (.lst ys))):=by
 intro pins s σ H xs us Q I r h
 obtain ⟨p,ys,rfl,hq,q⟩:=h
 obtain ⟨u,rfl,rx⟩:=gB r
 cases rx
 have fin:∀(its:List Value),aW ys its->ys.length<=sizeLine->∀(h':Heap) (c':Nat),(∀b o',s.heap.get? b=some o'->h'.get? b=some o') ->
   h'.get? s.heap.objs.size=some { cls:=.type "list",dict:=none,data:=.seq its.toArray c',slots:=#[] }->EP X pins σ Q (.ref s.heap.objs.size) { s with heap:=h' }:=fun its r' hz h' c' kp e =>
  ⟨.ref s.heap.objs.size,_,I.laid (t':=s.toks) kp (Nat.le_refl _) (show br X.prog X.w _ h' _ (.lst ys) from ⟨hz,its,c',r',e⟩),rfl,q _ (I.hok.fresh (Nat.le_refl _))⟩
 rcases hq with hq | hq
 .obtain ⟨its,r',pl,hz⟩:=I.list hq
  have hlen:=r'.length
  obtain ⟨o,ho,hc,n,hd⟩:=pl.isList
  exact call_list_seq p (.inl rfl) ho hc hd (fun h' c' kp e=>fin its r' hz h' c' kp e) (by simp only [List.size_toArray] <;> omega)
 .obtain ⟨its,r',pl,hz⟩:=I.tuple hq
  have hlen:=r'.length
  obtain ⟨o,ho,hc,n,hd⟩:=pl
  exact call_list_seq p (.inr rfl) ho hc hd (fun h' c' kp e=>fin its r' hz h' c' kp e) (by simp only [List.size_toArray] <;> omega)
theorem gE:bw X (.type "tuple") (fun xs H Q=>∃p ys,xs=[.ref p]/\((SqL X.K H p ys/\∀l,H l=none->Q (.ref l) (upd H l (.tup ys)))\/(SqT X.K H p ys/\Q (.ref p) H))):=by
 intro pins s σ H xs us Q I r h
 obtain ⟨p,ys,rfl,h⟩:=h
 obtain ⟨u,rfl,rx⟩:=gB r
 cases rx
 rcases h with ⟨hq,q⟩ | ⟨hq,q⟩
 .obtain ⟨its,r',pl,hz⟩:=I.list hq
  have hlen:=r'.length
  refine call_tuple_list pl.isList (fun h' kp=>?_) (by simp only [List.size_toArray] <;> omega)
  have I1:Inv X pins σ H { s with heap:=h' }:=I.kept (t':=s.toks) kp
  have I2:Inv X pins σ (upd H h'.objs.size (.tup ys)) { s with heap:=h'.push { cls:=.type "tuple",data:=.seq its.toArray } } :=
   I1.laid (t':=s.toks) (fun b o e=>Heap.get?_push_of_some _ e) (Nat.le_refl _) (show br X.prog X.w _ _ _ (.tup ys) from ⟨hz,its,r',IsTup.new _ _⟩)
  exact ⟨.ref h'.objs.size,_,I2,rfl,q _ (I1.hok.fresh (Nat.le_refl _))⟩
 .obtain ⟨its,r',pl,hz⟩:=I.tuple hq
  exact call_tuple_same pl ⟨.ref p,H,I,rfl,q⟩
def tyV (K:PySem.W.Frag) (T:String) (x:V) (H:Hp):Prop:=match x with
 | .str _=>T="str"
 | .int _=>T="int"
 | .ref p=>(T="list"/\∃xs,SqL K H p xs)\/(T="tuple"/\∃o,K.lookup p=some o/\o.cls=.type "tuple"/\o.dict=none) \/
   (T="dict"/\((∃kvs,H p=some (.dK kvs))\/∃kvs,H p=some (.dT kvs)))\/(T="set"/\∃S n,H p=some (.set S n))
 | _=>False
theorem kX {pins:List (Addr×Obj)}{σ:St}{H:Hp}{s:Shared}{T:String}{x:V}{v:Value} (I:Inv X pins σ H s) (r:bK x v) (ty:tyV X.K T x H) :
  s.TypeIs v T/\∀a,v=.ref a->∃ob,s.heap.get? a=some ob/\ob.dict=none:=by
 cases x with
 | str z =>
  obtain ⟨t,rfl⟩:=r
  cases (show T="str" from ty)
  exact ⟨typeIs_str s z t,fun _ e=>nomatch e⟩
 | int i =>
  obtain ⟨t,rfl⟩:=r
  cases (show T="int" from ty)
  exact ⟨typeIs_int s i t,fun _ e=>nomatch e⟩
 | ref p =>
  cases r
  rcases ty with ⟨rfl,xs,hq⟩ | ⟨rfl,o,hk,hc,hd⟩ | ⟨rfl,hk⟩ | ⟨rfl,S,n,hk⟩
  .obtain ⟨its,_,pl,_⟩:=I.list hq
   refine ⟨pl.isList.typeIs,fun a e=>?_⟩
   cases e
   obtain ⟨o,n,e,c,hd,_⟩:=pl
   exact ⟨o,e,hd⟩
  .refine ⟨⟨o,I.kIn p o hk,hc⟩,fun a e=>?_⟩
   cases e
   exact ⟨o,I.kIn _ o hk,hd⟩
  .have z:∃o,s.heap.get? p=some o/\o.ExactDict:=by
    rcases hk with ⟨kvs,hk⟩ | ⟨kvs,hk⟩
    .obtain ⟨_,_,_,_,o,_,_,e,ex,_⟩:=I.hok p _ hk
     exact ⟨o,e,ex⟩
    .obtain ⟨_,_,_,_,o,_,_,e,ex,_⟩:=I.hok p _ hk
     exact ⟨o,e,ex⟩
   obtain ⟨o,e,ex⟩:=z
   refine ⟨⟨o,e,ex.1⟩,fun a e2=>?_⟩
   cases e2
   exact ⟨o,e,ex.2.1⟩
  .obtain ⟨o,_,_,_,e,ex,_⟩:=I.hok p _ hk
   refine ⟨⟨o,e,ex.1⟩,fun a e2=>?_⟩
   cases e2
   exact ⟨o,e,ex.2.1⟩
 | _=>exact False.elim ty
def uM (K:PySem.W.Frag) (T:String) (r:V->List V->Hp->VK->Prop) (to:TE):TE:=fun σ H Q=>to σ H fun x H1=>tyV K T x H1/\r x [] H1 Q
def tBM (K:PySem.W.Frag) (T:String) (r:V->List V->Hp->VK->Prop) (to:TE) (t:TA):TE:=fun σ H Q=>to σ H fun x H1=>tyV K T x H1/\t σ H1 fun xs H2=>r x xs H2 Q
variable {o e:Expr}{es:List Expr}{to:TE}{t:TA}{name:Str}{apos cpos:Pos}{T id:String}{r:V->List V->Hp->VK->Prop}
theorem q0 (pa:PlainAttrs T) (slot:Slot T name id) (hty:typeOf (.builtin id)=pure (.type "method_descriptor")) (hm:MtR X id r) (ho:PE X o to)
  (hbase:attributeBase o name X.env (eval o X.env)=eval o X.env:=by rfl) (hline:(apos.endLine == cpos.line)=true:=by rfl):PE X (.Call (.Attribute o name apos) [] [] cpos) (uM X.K T r to):=by
 intro pins s σ H Q I h
 refine wpAny_Call_method0_late hbase hline (thn (ho pins s σ H _ I h) fun v s1 ⟨x,H1,I1,r1,ty,q1⟩=>?_)
 obtain ⟨h1,h2⟩:=kX I1 r1 ty
 exact ⟨T,id,pa,slot,hty,h1,h2,Calls.callWith_builtin rfl (PySem.evalArgs_none (hm pins s1 σ H1 x [] v [] Q I1 r1 .nil q1))⟩
theorem tG (pa:PlainAttrs T) (slot:Slot T name id) (hty:typeOf (.builtin id)=pure (.type "method_descriptor")) (hm:MtR X id r) (ho:PE X o to) (ha:PA X (e::es) t)
  (hbase:attributeBase o name X.env (eval o X.env)=eval o X.env:=by rfl)
  (hfew:((backTo cpos (starEach (e::es) X.env)).all (fun x=>!x.1) && (backToKw cpos (keywordEach [] X.env)).all (fun x=>x.1.isSome)
   && decide ((e::es).length + ([]:List Keyword).length + (if ([]:List Keyword).isEmpty then 0 else 1) < 30))=true:=by rfl)
  (hline:(apos.endLine == cpos.line)=true:=by rfl) (hs:starEach (e::es) X.env=(false,eval e X.env)::starEach es X.env:=by rfl) (hplain:(backTo cpos (starEach es X.env)).any (·.1)=false:=by rfl) :
  PE X (.Call (.Attribute o name apos) (e::es) [] cpos) (tBM X.K T r to t):=by
 intro pins s σ H Q I h
 refine wpAny_Call_method_late hbase hfew hline rfl (thn (ho pins s σ H _ I h) fun v s1 ⟨x,H1,I1,r1,ty,q1⟩=>?_)
 obtain ⟨h1,h2⟩:=kX I1 r1 ty
 refine ⟨T,id,pa,slot,hty,h1,h2,?_⟩
 have hA:=ha cpos pins s1 σ H1 _ I1 q1
 rw [hs] at hA ⊢
 refine Calls.callWith_builtin (by show (false || (backTo cpos (starEach es X.env)).any (·.1))=false;rw [hplain] <;> rfl) (Calls.evalArgs_plain ?_)
 exact thn hA fun us s2 ⟨vs,H2,I2,r2,q2⟩=>hm pins s2 σ H2 x vs v us Q I2 r1 r2 q2
end
def MtM (X:Cx) (id:String) (r:V->List V->Hp->VK->Prop):Prop :=
 ∀(pins:List (Addr×Obj)) (s:Shared) (σ:St) (H:Hp) (x:V) (xs:List V) (v:Value) (us:List Value) (Q:VK),Inv X pins σ H s->bK x v->aW xs us->r x xs H Q ->
  wpAny (model X.prog X.w) X.A (call (.builtin id) (v::us)) (EP X pins σ Q) X.xe s
theorem aW.one:∀{x:V}{us:List Value},aW [x] us->∃u,us=[u]/\bK x u
 | _,_,.cons r .nil=>⟨_,rfl,r⟩
theorem aW.zero:∀{us:List Value},aW [] us->us=[]
 | _,.nil=>rfl
theorem aW.dropLast {xs:List V}{us:List Value} (h:aW xs us):aW xs.dropLast us.dropLast:=by
 induction h with
 | nil=>exact .nil
 | cons r t ih =>
  cases t with
  | nil=>exact .nil
  | cons q t'=>exact .cons r ih
theorem aW.reverse {xs:List V}{us:List Value} (h:aW xs us):aW xs.reverse us.reverse:=by
 induction h with
 | nil=>exact .nil
 | cons r t ih=>rw [List.reverse_cons,List.reverse_cons];exact aW.append ih (.cons r .nil)
theorem aW.rep {xs:List V}{us:List Value} (h:aW xs us):∀k:Nat,aW (List.replicate k xs).flatten (List.replicate k us).flatten
 | 0=>.nil
 | k + 1=>by
  rw [List.replicate_succ,List.replicate_succ,List.flatten_cons,List.flatten_cons]
  exact aW.append h (aW.rep h k)
theorem j8 {α:Type} (l:List α):l.eraseIdx (l.length - 1)=l.dropLast:=by
 induction l with
 | nil=>rfl
 | cons a r ih =>
  cases r with
  | nil=>rfl
  | cons b r =>
   have e:(a::b::r).length - 1=((b::r).length - 1) + 1:=by
    have h1:(a::b::r).length=r.length + 2:=rfl
    have h2:(b::r).length=r.length + 1:=rfl
    omega
   rw [e,List.eraseIdx_cons_succ,ih]
   all_goals rfl
theorem ig (its:List Value):∀(k:Nat) (acc:List Value),
  List.foldl (fun x1 x2=>x1++x2) acc.toArray (List.replicate k its.toArray)=(acc++(List.replicate k its).flatten).toArray
 | 0,acc=>by simp
 | k + 1,acc=>by
  have e:acc.toArray++its.toArray=(acc++its).toArray:=by simp
  have e2:(acc++its)++(List.replicate k its).flatten=acc++(List.replicate (k + 1) its).flatten:=by
   rw [List.replicate_succ,List.flatten_cons,List.append_assoc]
  rw [<- e2,<- ig its k (acc++its),<- e,List.replicate_succ,List.foldl_cons]
section
variable {X:Cx}{pins:List (Addr×Obj)}{σ:St}{H:Hp}{s:Shared}{l b:Addr}{xs ys zs:List V}
theorem Inv.lset {its its':List Value}{n:Nat}{f:Array Value->Array Value}{t':Nat} (I:Inv X pins σ H s) (hH:H l=some (.lst xs))
  (e:s.heap.get? l=some { cls:=.type "list",data:=.seq its.toArray n }) (hf:f its.toArray=its'.toArray) (hv:aW ys its') (hz:ys.length<=sizeLine) :
  Inv X pins σ (upd H l (.lst ys)) { s with heap:=s.heap.update l (Obj.mapSeq f),toks:=t' }:=by
 have q:=PySem.IsL.update e f
 rw [hf] at q
 refine I.write (x:=l) (e:=l) (by rw [hH];exact trivial) (.inl rfl) (fun b' u hb hu=>(Heap.get?_update_other s.heap (Obj.mapSeq f) (Ne.symm hb)).trans hu) ⟨_,q⟩ ?_
 exact ⟨hz,its',_,hv,q⟩
theorem Inv.lnew {its:List Value}{t':Nat} (I:Inv X pins σ H s) (hv:aW ys its) (hz:ys.length<=sizeLine) :
  Inv X pins σ (upd H s.heap.objs.size (.lst ys)) { s with heap:=s.heap.push { cls:=.type "list",data:=.seq its.toArray },toks:=t' } :=
 I.laid (fun _ _ q=>Heap.get?_push_of_some _ q) (Nat.le_refl _) ⟨hz,its,0,hv,Heap.get?_push_size _ rfl⟩
theorem Inv.fresh (I:Inv X pins σ H s):H s.heap.objs.size=none:=I.hok.fresh (Nat.le_refl _)
theorem Inv.lstM (I:Inv X pins σ H s) (hH:H l=some (.lst xs)):xs.length<=sizeLine/\∃(its:List Value) (n:Nat),aW xs its/\xs.length=its.length/\s.heap.get? l=some { cls:=.type "list",data:=.seq its.toArray n }:=by
 obtain ⟨z,its,n,r,e⟩:=I.hok l _ hH
 exact ⟨z,its,n,r,r.length,e⟩
theorem mq {n:Nat} (h:n<=sizeLine):Builtin.List.listTooLong n=false:=by
 unfold Builtin.List.listTooLong
 exact decide_eq_false (by omega)
end
section
variable {X:Cx}
def kY:V->List V->Hp->VK->Prop:=fun x vs H Q=>∃l xs y,x=.ref l/\vs=[y]/\H l=some (.lst xs)/\xs.length < sizeLine/\Q .non (upd H l (.lst (xs++[y])))
theorem cT:MtM X "list.append" kY:=by
 intro pins s σ H x vs v us Q I rx rv h
 obtain ⟨l,xs,y,rfl,rfl,hH,hz,q⟩:=h
 cases rx
 obtain ⟨u,rfl,ru⟩:=rv.one
 obtain ⟨z,its,n,r,hl,e⟩:=I.lstM hH
 refine call_meets F.slot_list_append ⟨_,e,rfl⟩ F.entry_list_append (F.args_list_append_2 _ _) (PySem.list_append l its.toArray n u (by rw [List.size_toArray];omega)) ⟨e,?_⟩
 refine ⟨.non,_,I.lset (its':=its++[u]) hH e (by simp) (r.append (.cons ru .nil)) ?_,rfl,q⟩
 rw [List.length_append,List.length_singleton]
 omega
def uN:V->List V->Hp->VK->Prop:=fun x vs H Q=>∃l xs y,x=.ref l/\vs=[]/\H l=some (.lst xs)/\xs[xs.length - 1]?=some y/\Q y (upd H l (.lst xs.dropLast))
theorem rc:MtM X "list.pop" uN:=by
 intro pins s σ H x vs v us Q I rx rv h
 obtain ⟨l,xs,y,rfl,rfl,hH,hy,q⟩:=h
 cases rx
 have hus:=rv.zero
 subst hus
 obtain ⟨z,its,n,r,hl,e⟩:=I.lstM hH
 obtain ⟨u,hu,ru⟩:=r.get hy
 have hy':its.toArray[its.toArray.size - 1]?=some u:=by
  show its.toArray[its.length - 1]?=some u
  rw [<- Array.getElem?_toList,<- hl]
  exact hu
 refine call_meets F.slot_list_pop ⟨_,e,rfl⟩ F.entry_list_pop (F.args_list_pop_1 _) (MeetsSeq.list_pop_last l its.toArray n u hy' (by rw [List.size_toArray];omega)) ⟨e,?_⟩
 refine ⟨y,_,I.lset (its':=its.dropLast) hH e ?_ r.dropLast ?_,ru,q⟩
 .show its.toArray.eraseIdxIfInBounds (its.toArray.size - 1)=its.dropLast.toArray
  rw [List.size_toArray,List.eraseIdxIfInBounds_toArray,j8]
 .rw [List.length_dropLast]
  omega
def uO:R2:=fun x y H Q=>∃l k xs,x=.ref l/\y=.int k/\H l=some (.lst xs)/\-(2 ^ 63)<=k/\k < 2 ^ 63/\xs.length * k.toNat<=sizeLine /\
 ∀p,H p=none->Q (.ref p) (upd H p (.lst (List.replicate k.toNat xs).flatten))
theorem oH {α:Type} (xs:List α) (k:Nat):(List.replicate k xs).flatten.length=k * xs.length:=by
 induction k with
 | zero=>simp
 | succ k ih=>rw [List.replicate_succ,List.flatten_cons,List.length_append,ih,Nat.succ_mul,Nat.add_comm]
theorem rd:OpR X (binaryOp .Mult) uO:=by
 intro pins s σ H x y v u Q I rx ry h
 obtain ⟨l,k,xs,rfl,rfl,hH,h1,h2,hz,q⟩:=h
 cases rx
 obtain ⟨t,rfl⟩:=ry
 obtain ⟨z,its,n,r,hl,e⟩:=I.lstM hH
 have hlen:its.toArray.size * k.toNat<=sizeLine:=by rw [List.size_toArray,<- hl];exact hz
 have hcap:¬ its.toArray.size * k.toNat > (2 ^ 63 - 1) / 8:=by
  have:(sizeLine:Nat)<=(2 ^ 63 - 1) / 8:=by decide
  omega
 have hfit:¬ (!Builtin.List.listFitsIndex k)=true:=by
  rw [fitsIndex_both h1 h2]
  exact Bool.false_ne_true
 have hlong:¬ Builtin.List.listTooLong (its.toArray.size * k.toNat)=true:=by
  rw [mq hlen]
  exact Bool.false_ne_true
 have hnew:List.foldl (fun x1 x2=>x1++x2) #[] (List.replicate (if its.toArray.isEmpty=true then 0 else k.toNat) its.toArray)=(List.replicate k.toNat its).flatten.toArray:=by
  have f0:∀m:Nat,List.foldl (fun x1 x2=>x1++x2) #[] (List.replicate m its.toArray)=(List.replicate m its).flatten.toArray:=fun m=>by
   have:=ig its m []
   rw [List.nil_append] at this
   exact this
  rw [f0]
  cases its with
  | nil=>simp
  | cons a r'=>rw [if_neg (by simp)]
 refine wpAny_binaryOp_repeat_ref (T:="list") (U:="int") (by decide) ⟨_,e,rfl⟩ (fun s'=>typeIs_int s' k t) noFill_list_mul F.fills_int_mul F.slot_int_rmul repeat_list F.slot_int_index.lookup
  (call_meets F.slot_int_rmul (typeIs_int s k t) F.entry_int_rmul (F.args_int_rmul_2 _ _) (int___rmul___int_list k t l its.toArray n)
   ⟨e,rfl,⟨_,e,rfl⟩,call_meets F.slot_list_mul ⟨_,e,rfl⟩ F.entry_list_mul (F.args_list_mul_2 _ _) (AutoListH.list___mul___list_int_3 l its.toArray n k t hfit hcap hlong) ⟨e,?_⟩⟩)
 rw [hnew]
 exact ⟨.ref _,_,I.lnew (t':=s.toks) (r.rep k.toNat) (by rw [oH,Nat.mul_comm];exact hz),rfl,q _ I.fresh⟩
end
end L2
namespace Att
open PySem PySem.W PySem.Calls PyProof.Rows
theorem e8 {P:Params}{h:Heap}:∀(ns:List Int) (vs:List Value),WellAll P h vs (ns.map WData.int)->IntsAre vs ns:=by
 intro ns
 induction ns with
 | nil =>
  intro vs w
  rw [List.map_nil] at w
  cases w
  exact .nil
 | cons n ns ih =>
  intro vs w
  rw [List.map_cons] at w
  cases w with
  | cons a b =>
   cases a
   exact .cons _ _ (ih _ b)
theorem kZ {l:OpenLaw}{n:Nat} (hn:l.most=some n) {P:Params}{h:Heap}{args:List WData}{vals:List Value}
  (hpre:l.row.toRowW.claim.pre args=true) (hwl:WellAll P h vals args) :
  ∃a vs ns,vals=[Value.ref a]/\args=[WData.list (ns.map WData.int)]/\h.get? a=some { cls:=.type "list",data:=.seq vs.toArray }/\IntsAre vs ns/\ns.length<=n:=by
 have hsh:WShape.hasAll [] args [.list .int]=true:=(pre_splitW hpre).1
 have hc:l.pre.holds [] { args:=args }=true:=(pre_splitW hpre).2
 obtain ⟨d,r,rfl,h1,h2⟩:=hasAllW_cons hsh
 obtain rfl:=hasAllW_nil h2
 obtain ⟨xs,rfl,h3⟩:=hasW_list h1
 obtain ⟨ns,rfl⟩:=items_int h3
 have hlen:ns.length<=n:=by
  unfold OpenLaw.pre at hc
  have h4:(WTm.not (.lt (.lit (.int (n:Int))) (.len (.arg 0)))).holds [] { args:=[.list (ns.map .int)] }=true:=by
   have h4:=(holds_andW hc).1
   rw [hn] at h4
   exact h4
  have h5:=condW_of h4 (w_not (w_lt w_lit (w_len_list (w_arg rfl))))
  rw [List.length_map] at h5
  refine Nat.le_of_not_lt fun q=>?_
  have q':(n:Int) < ((ns.length:Nat):Int):=by omega
  first
   | (rw [decide_eq_true q'] at h5;exact absurd h5 (by decide))
   | (simp at h5;omega)
 cases hwl with
 | cons w1 w2 =>
  cases w2
  cases w1 with
  | list ho hall=>exact ⟨_,_,ns,rfl,rfl,ho,e8 ns _ hall,hlen⟩
theorem k6 (l:OpenLaw) (args:List WData):l.row.toRowW.claim.post args (.bool true) args=true :=
 postW_of (r:=l.row.toRowW) (X:=(true == true))
  (show WShape.has [] (.bool true) .bool=true by first | rfl | decide | simp [WShape.has,WShape.arms,WShape.armsAll])
  (show (WTm.eq .res (.lit (.bool true))).value [] { args:=args,res:=some (.bool true),after:=args }=some (.bool (true == true)) from w_eq_bool (w_res rfl) w_lit) rfl
theorem attach_call {l:OpenLaw}{n:Nat}{q:Program}{loose:List Str}{XP:(Str->Option Value)->Heap->Prop}{YP:World->Heap->Prop}{d:DefRec}
  (hn:l.most=some n) (hdf:d.params.defaults=[])
  (call:∀(w:World) (s₀ s₁:Shared) (mg mb:Str->Option Value) (fa:Addr) (o:Obj) (pm cd doc:Value) (a:Addr) (vs:List Value) (ns:List Int),
   Ground q loose [] XP w s₀ mg mb s₁.heap->YP w s₁.heap ->
   s₁.heap.get? fa=some o->o.data=.func (docDef d.name d.params d.body d.scope pm cd doc)->s₁.heap.CodeRec cd d.name->mg d.name=some (.ref fa) ->
   s₁.heap.get? a=some { cls:=.type "list",data:=.seq vs.toArray }->IntsAre vs ns->ns.length<=n->s₁.gens=#[] ->
   codeAny (model l.prog w) callerA (.call (.ref fa) ⟨[.ref a],[]⟩) (fun r s'=>r=.ok (.ret (.bool true))/\OldK s₁.heap s'.heap/\s'.os=s₁.os/\AllBare s'.gens) s₁) :
  WalkO q loose XP YP l.row.toRowW d [] (fun f vs=>PySem.call f vs):=by
 intro w s₀ s₁ mg mb G Y fa o pm cd doc dV kV ho hd hcd hD hmg hg args vals as hpre hlay hrd hwl hlo
 obtain rfl:dV=.none:=Dflts.none hD hdf
 obtain rfl:kV=.none:=Dflts.noKw hD
 obtain ⟨a,vs,ns,rfl,rfl,hobj,hints,hlen⟩:=kZ hn hpre hwl
 refine enter_call (codeAny_mono (call w s₀ s₁ mg mb fa o pm cd doc a vs ns G Y ho (fd_plain hd) hcd hmg hobj hints hlen hg) fun r s' hq=>?_)
 obtain ⟨rfl,h2,h3,h4⟩:=hq
 exact ⟨.inl ⟨.bool true,.bool true,[],rfl,fun _=>rfl,.bool true,k6 l _,fun _=>⟨List.Pairwise.nil,fun _ hm=>(nomatch hm)⟩⟩,h2,h3,h4⟩
end Att
namespace L2
open PySem PySem.Spec PyProof.Rows
theorem ii:∀{vs:List Value}{ns:List Int},IntsAre vs ns->aW (ns.map V.int) vs
 | _,_,.nil=>.nil
 | _,_,.cons n t h=>.cons ⟨t,rfl⟩ (ii h)
def tH (H:Hp):Prop:=∀b,H b=none\/∃o xs,H b=some (.frz o (.lst xs))
theorem mr {P:Program}{w:World}{K:PySem.W.Frag}{mg mb:Str->Option Value}{CX:CXT}{k:Nat}{fa a:Addr}{fd:FuncData}{x:Str}{sp:Sp}{s₁:Shared}{vs:List Value}{ns:List Int}
  (KX:K.In s₁.heap) (hns:s₁.heap.Ns mainGlobals mg) (hb:s₁.heap.Ns builtinsNs mb) (hbb:∀x:Str,x≠"__name__"->mb x=bootBuiltins x) (hlim:s₁.heap.NoLimit) (hg:s₁.gens=#[])
  (ha:s₁.heap.get? a=some { cls:=.type "list",data:=.seq vs.toArray }) (hi:IntsAre vs ns) (hl:ns.length<=sizeLine) (hr:eP k callerA)
  (F:∀base:Heap,K.In base->base.Ns mainGlobals mg->iX P w K mg base CX k fa fd [x] sp) (hbind:∀(s:Shared) (u:Value),BindsTo s fd ⟨[u],[]⟩ [(x,u)])
  (hsp:∀H:Hp,tH H->SqL K H a (ns.map V.int)->sp [.ref a] H (fun v _=>v=.bl true) fun _ _ _=>False)
  (hCX:∀H e s',CX [] H s₁ (fun _ _ _=>False) e s'->False) :
  codeAny (model P w) callerA (.call (.ref fa) ⟨[.ref a],[]⟩) (fun r s'=>r=.ok (.ret (.bool true))/\OldK s₁.heap s'.heap/\s'.os=s₁.os/\AllBare s'.gens) s₁:=by
 have rv:=ii hi
 have lenV:=hi.length
 -- from an abstract heap in which nothing but the script may be tracked
 have core:∀H:Hp,tH H->SqL K H a (ns.map V.int)->HOk P w H s₁.heap->(∀b,H b≠none->b=a)->(H a≠none->K.lookup a=none) ->
   codeAny (model P w) callerA (.call (.ref fa) ⟨[.ref a],[]⟩) (fun r s'=>r=.ok (.ret (.bool true))/\OldK s₁.heap s'.heap/\s'.os=s₁.os/\AllBare s'.gens) s₁:=by
  intro H hO hS hok hA hK
  have base_of:∀{b:Addr}{o:Obj},s₁.heap.get? b=some o->H b=none->(md s₁.heap H).get? b=some o:=fun e n=>me e n
  have noA:∀{b:Addr}{o:Obj}{es:Array DictEntry}{ep:Nat},s₁.heap.get? b=some o->o.data=.dict es ep->H b=none:=fun {b o es ep} e d=>by
   cases q:H b with
   | none=>rfl
   | some u =>
    have e':b=a:=hA b (by rw [q];simp)
    subst e'
    rw [ha] at e;cases e
    have d':Data.seq vs.toArray _=Data.dict es ep:=d
    cases d'
  have nsK:∀{b:Addr}{m:Str->Option Value},s₁.heap.Ns b m->(md s₁.heap H).Ns b m:=fun {b m} ⟨o,es,ep,e,d,r⟩=>⟨o,es,ep,base_of e (noA e d),d,r⟩
  have hKb:K.In (md s₁.heap H):=fun b o e=>base_of (KX b o e) (by
   cases q:H b with
   | none=>rfl
   | some u =>
    have e':b=a:=hA b (by rw [q];simp)
    subst e'
    rw [hK (by rw [q];simp)] at e;cases e)
  have hM:Mod K mg (md s₁.heap H):=⟨hKb,nsK hns,⟨mb,nsK hb,hbb⟩,let ⟨mc,h1,h2⟩:=hlim;⟨mc,nsK h1,h2⟩⟩
  have e0:sN P w K mg (md s₁.heap H) callerA [] s₁ H:=⟨rfl,hM,fun b o e=>n5 e,Nat.le_of_eq (kB _ _),trivial,fun b hb=>absurd (show b∈([]:List Addr) from hb) (by simp),hok,.of_eq hg⟩
  refine codeAny_mono ((F _ hKb (nsK hns)).run callerA [] s₁ H ⟨[.ref a],[]⟩ [.ref a] [.ref a] _ _ hr e0 (hbind s₁ (.ref a)) (.cons rfl .nil) (hsp H hO hS)) fun r s' h=>?_
  cases r with
  | error e=>exact (hCX H e s' h).elim
  | ok fl =>
   cases fl with
   | next=>exact False.elim h
   | brk=>exact False.elim h
   | cont=>exact False.elim h
   | ret u =>
    obtain ⟨v,H',os,bare,un,hok',r',q⟩:=h
    have q':v=.bl true:=q
    subst q'
    obtain rfl:u=Value.bool true:=r'
    refine ⟨rfl,OldK.of_keep fun b o e=>?_,os,bare⟩
    cases q:H b with
    | none=>exact un.keep b o e q (by intro z;exact absurd (show b∈([]:List Addr) from z) (by simp)) (by simp)
    | some u =>
     rcases hO b with z | ⟨ob,xs,z⟩
     .rw [q] at z;cases z
     .have z2:=un.frzs b ob _ z
      obtain ⟨e1,_⟩:=hok b _ z
      obtain ⟨e2,_⟩:=hok' b _ z2
      rw [e] at e1;cases e1
      exact e2
 cases hk:K.lookup a with
 | some o =>
  -- the script is one of the module's own objects
  have e:=KX a o hk
  rw [ha] at e
  cases e
  refine core (fun _=>none) (fun _=>.inl rfl) (.inr ⟨_,vs.toArray,_,hk,rfl,rfl,rfl,by rw [List.size_toArray,lenV];exact hl,by simpa using rv⟩) (fun b u z=>by have z':(none:Option HO)=some u:=z;cases z') (fun b z=>absurd rfl z) fun z=>absurd rfl z
 | none =>
  refine core (fun b=>if b=a then some (.frz { cls:=.type "list",data:=.seq vs.toArray } (.lst (ns.map V.int))) else none) (fun b=>?_) (.inl (.inr ⟨{ cls:=.type "list",data:=.seq vs.toArray },if_pos rfl⟩)) (fun b u z=>?_) (fun b z=>?_) fun _=>hk
  .by_cases hb:b=a
   .exact .inr ⟨_,_,if_pos hb⟩
   .exact .inl (if_neg hb)
  .by_cases hb:b=a
   .have z':=(if_pos hb).symm.trans z
    cases z'
    subst hb
    exact ⟨ha,by rw [List.length_map];exact hl,vs,_,rv,ha⟩
   .have z':=(if_neg hb).symm.trans z
    cases z'
  .by_cases hb:b=a
   .exact hb
   .exact absurd (if_neg hb) z
theorem oI {l:PySem.W.OpenLaw}{n k:Nat}{q:Program}{loose:List Str}{XP:(Str->Option Value)->Heap->Prop}{YP:World->Heap->Prop}{d:DefRec}{K:Params->PySem.W.Frag}{CX:World->CXT}{sp:World->Sp}{x:Str}
  (hn:l.most=some n) (hn2:n<=sizeLine) (hdf:d.params.defaults=[]) (hr:eP k callerA)
  (hY:∀(w:World) (h:Heap),YP w h->(K w.params).In h)
  (F:∀(w:World) (mg:Str->Option Value) (fa:Addr) (h:Heap),(K w.params).In h->h.Ns mainGlobals mg->mg d.name=some (.ref fa) ->
   ∃fd:FuncData,(∀(s:Shared) (u:Value),BindsTo s fd ⟨[u],[]⟩ [(x,u)]) /\
    ∀base:Heap,(K w.params).In base->base.Ns mainGlobals mg->iX l.prog w (K w.params) mg base (CX w) k fa fd [x] (sp w))
  (hsp:∀(w:World) (H:Hp) (a:Addr) (ns:List Int),ns.length<=n->tH H->SqL (K w.params) H a (ns.map V.int)->sp w [.ref a] H (fun v _=>v=.bl true) fun _ _ _=>False)
  (hCX:∀(w:World) (H:Hp) (s:Shared) (e:Value) (s':Shared),CX w [] H s (fun _ _ _=>False) e s'->False) :
  PySem.W.WalkO q loose XP YP l.row.toRowW d [] (fun f vs=>PySem.call f vs):=by
 refine Att.attach_call hn hdf fun w s₀ s₁ mg mb fa o pm cd doc a vs ns G Y ho hd hcd hmg hobj hints hlen hg=>?_
 have KX:=hY w _ Y
 obtain ⟨fd,hb,hF⟩:=F w mg fa _ KX G.T.g hmg
 exact mr KX G.T.g G.T.b G.T.builtins G.T.nolimit hg hobj hints (Nat.le_trans hlen hn2) hr hF hb (fun H hO hS=>hsp w H a ns hlen hO hS) fun H e s'=>hCX w H s₁ e s'
def bB (s:Stmt):Arguments:=match s with
 | .FunctionDef _ a _ _ _ _ _ _ _ _=>a
 | _=>{ posonlyargs:=[],args:=[],vararg:=none,kwonlyargs:=[],kw_defaults:=[],kwarg:=none,defaults:=[] }
def a8 (s:Stmt):List Stmt:=match s with
 | .FunctionDef _ _ b _ _ _ _ _ _ _=>b
 | _=>[]
def ah (s:Stmt):Scope:=match s with
 | .FunctionDef _ _ _ _ _ _ sc _ _ _=>sc
 | _=>{ kind:=.function,names:=[],isGenerator:=false,isCoroutine:=false }
abbrev CX0:CXT:=fun _ _ _ _ _ _=>False
abbrev E0:XK:=fun _ _ _=>False
theorem re {X:Cx}:kQ CX0 X E0:=fun _ _ _ _ _ _ _ h=>h.elim
structure Fun (K:PySem.W.Frag) (x qual:Str) (st:Stmt) (f:Addr) (fd:FuncData):Prop where
 ex:∃(oc:Value) (od:Option Addr) (kV doc pm:Value) (an:Option Addr) (cdv ct:Value) (osl:Array (Option Value)),
  fd=PySem.W.fnOf x qual (bB st) (a8 st) (ah st) .none kV doc pm an cdv ct/\K.lookup f=some ⟨oc,od,.func fd,osl⟩/\PySem.W.codeIn K cdv qual=true
 kp:PySem.W.keepIn K (.ref f)=true
section
variable {P:Program}{w:World}{K:PySem.W.Frag}{mg:Str->Option Value}{base:Heap}
theorem Fun.ok {x qual:Str}{st:Stmt}{f:Addr}{fd:FuncData}{N ps:List Str}{k:Nat}{sp:Sp} (F:Fun K x qual st f fd) (S:aS N ps (ah st)) (len:∀vs H Q E,sp vs H Q E->vs.length=ps.length)
  (hbody:∀(cdv:Value) (A:Around) (outer:List Env) (s:Shared) (H:Hp) (vs:List V) (Q:VK) (E:XK),eP k (A.deeper (envOfC qual (ah st) s.heap.objs.size f cdv))->sp vs H Q E ->
   ∃t,PSs (kR CX0 P w K mg base N qual (ah st) f cdv A outer s H E).nox (a8 st) t/\t { nx:=fun _ H'=>Q .non H',rt:=Q } (start N vs) H):iX P w K mg base CX0 (k + 1) f fd ps sp:=by
 obtain ⟨oc,od,kV,doc,pm,an,cdv,ct,osl,rfl,lk,hcd⟩:=F.ex
 refine qS lk hcd S len fun A outer s H vs Q E hr hsp=>?_
 obtain ⟨t,h,q⟩:=hbody cdv A outer s H vs Q E hr hsp
 exact ⟨t,h.nox,q⟩
theorem Fun.binds {x qual:Str}{st:Stmt}{f:Addr}{fd:FuncData}{ps:List Str} (F:Fun K x qual st f fd)
  (h:∀(kV doc pm:Value) (an:Option Addr) (cdv ct:Value) (us:List Value),us.length=ps.length->bindArgs (PySem.W.fnOf x qual (bB st) (a8 st) (ah st) .none kV doc pm an cdv ct) ⟨us,[]⟩=pure (ps.zip us)):iY K fd ps []:=by
 obtain ⟨oc,od,kV,doc,pm,an,cdv,ct,osl,rfl,lk,hcd⟩:=F.ex
 exact .all (h kV doc pm an cdv ct)
theorem rf {x qual:Str}{st:Stmt}{f:Addr}{oc:Value}{od an:Option Addr}{osl:Array (Option Value)}{kV doc pm cdv ct:Value} (l:K.lookup f=some ⟨oc,od,.func (PySem.W.fnOf x qual (bB st) (a8 st) (ah st) .none kV doc pm an cdv ct),osl⟩)
  (c:PySem.W.codeIn K cdv qual=true) (k:PySem.W.keepIn K (.ref f)=true):Fun K x qual st f (PySem.W.fnOf x qual (bB st) (a8 st) (ah st) .none kV doc pm an cdv ct):=⟨⟨oc,od,kV,doc,pm,an,cdv,ct,osl,rfl,l,c⟩,k⟩
end
section
variable {X:Cx}
theorem pv (i:Nat) {x:Str}{pos:Pos} (hN:X.N[i]?=some x:=by rfl) (hv:Vis X.env.scope x:=by first | exact Or.inl rfl | exact Or.inr (Or.inl rfl) | exact Or.inr (Or.inr rfl)) (hd:(x == ("__debug__":Str))=false:=by decide)
  (hcd:(x == ("__classdict__":Str))=false:=by decide):PE X (.Name x pos) (eE i):=qA hN hv hd hcd
end
def S (l:List Nat):Str:=⟨l.toArray⟩
theorem dq (l:List Nat):(S l).length=l.length:=by simp [S,Str.length]
theorem tI (a b:List Nat):S a++S b=S (a++b):=by
 show (⟨a.toArray++b.toArray⟩:Str)=⟨(a++b).toArray⟩
 rw [List.append_toArray]
theorem rg {a b:List Nat} (h:S a=S b):a=b:=by
 have h':=congrArg (fun x:Str=>x.cps.toList) h
 simpa [S] using h'
theorem vh {a b:List Nat} (h:a≠b):S a≠S b:=fun e=>h (rg e)
theorem rh {a b:List Nat}:V.str (S a)=V.str (S b) ↔ a=b:=⟨fun h=>rg (V.str.inj h),fun h=>by rw [h]⟩
theorem rj (a b:List Nat):decide (V.str (S a)=V.str (S b))=decide (a=b):=by
 by_cases h:a=b
 .rw [decide_eq_true h,decide_eq_true (rh.mpr h)]
 .rw [decide_eq_false h,decide_eq_false (fun z=>h (rh.mp z))]
def dr {α:Type} (xs:List α) (lo hi:Option Int):List α:=(xs.drop (HT.sIx xs.length 0 lo)).take (HT.sIx xs.length xs.length hi - HT.sIx xs.length 0 lo)
theorem cf {α:Type} (xs:List α) (lo hi:Option Int):(dr xs lo hi).length<=xs.length:=by
 unfold dr
 rw [List.length_take,List.length_drop]
 omega
theorem k7 (xs:List V) (lo hi:Option Int):oA xs lo hi=dr xs lo hi:=rfl
theorem rk (lo hi:Option Int) (n:Nat):Builtin.Str.strSliceIndices lo hi 1 n=(List.range (HT.sIx n n hi - HT.sIx n 0 lo)).map (fun k=>HT.sIx n 0 lo + k):=by
 have key:∀(o:Option Int) (d:Nat),d<=n->(match o with | none=>(d:Int) | some i=>max 0 (min (if i < 0 then i + (n:Int) else i) (n:Int)))=((HT.sIx n d o:Nat):Int):=by
  intro o d hd
  cases o with
  | none=>rfl
  | some i =>
   show max 0 (min (if i < 0 then i + (n:Int) else i) (n:Int))=_
   rw [<- HT.clip_eq i n d]
   by_cases h:i < 0
   .rw [if_pos h,if_pos h];omega
   .rw [if_neg h,if_neg h];omega
 have k1:=key lo 0 (Nat.zero_le _)
 have k2:=key hi n (Nat.le_refl _)
 unfold Builtin.Str.strSliceIndices
 simp only [show (1:Int) > 0 by decide,if_true]
 refine Eq.trans (congrArg (fun a=>sliceRange a _ 1) k1) (Eq.trans (congrArg (fun b=>sliceRange _ b 1) k2) ?_)
 unfold sliceRange
 simp only [show (1:Int) > 0 by decide,if_true]
 generalize HT.sIx n 0 lo=a
 generalize HT.sIx n n hi=b
 have ec:(if (a:Int) < (b:Int) then ((b:Int) - (a:Int) + 1 - 1) / 1 else 0).toNat=b - a:=by
  split <;> omega
 rw [ec]
 apply List.map_congr_left
 intro k _
 omega
theorem k8 {α:Type} (l:List α) (a m:Nat):((List.range m).map (fun k=>a + k)).filterMap (fun i=>l[i]?)=(l.drop a).take m:=by
 induction m generalizing a with
 | zero=>simp
 | succ m ih =>
  rw [List.range_succ_eq_map,List.map_cons,List.map_map,List.filterMap_cons]
  have e:((fun k=>a + k) ∘ Nat.succ)=fun k=>(a + 1) + k:=by funext k;simp;omega
  rw [e,ih (a + 1)]
  cases h:l[a + 0]? with
  | none =>
   have hl:l.length<=a:=by simpa using List.getElem?_eq_none_iff.mp h
   rw [List.drop_eq_nil_of_le hl,List.drop_eq_nil_of_le (by omega)];simp
  | some v =>
   have hl:a < l.length:=by simpa using (List.getElem?_eq_some_iff.mp h).1
   have hv:l[a]=v:=by simpa using (List.getElem?_eq_some_iff.mp h).2
   rw [List.drop_eq_getElem_cons hl,hv];rfl
theorem oJ (l:List Nat) (lo hi:Option Int):Txt.slice (S l) lo hi=S (dr l lo hi):=by
 have e1:(Builtin.Str.strSliceIndices lo hi 1 (S l).length).filterMap ((S l).cps[·]?)=dr l lo hi:=by
  rw [rk,dq]
  have e:(fun i:Nat=>(S l).cps[i]?)=fun i:Nat=>l[i]?:=by funext i;simp [S]
  rw [e]
  exact k8 l _ _
 unfold Txt.slice
 split
 .rename_i h
  have h2:(Builtin.Str.strSliceIndices lo hi 1 (S l).length).length=(S l).length:=by simpa using h
  rw [rk,dq,List.length_map,List.length_range] at h2
  have a0:=HT.sIx_le l.length 0 (Nat.zero_le _) lo
  have b0:=HT.sIx_le l.length l.length (Nat.le_refl _) hi
  unfold dr
  by_cases hz:l.length=0
  .have:l=[]:=List.length_eq_zero_iff.mp hz
   subst this;simp
  .have ha:HT.sIx l.length 0 lo=0:=by omega
   have hb:HT.sIx l.length l.length hi=l.length:=by omega
   rw [ha,hb]
   simp
 .rw [e1];rfl
theorem k9 {α:Type} (l:List α) (k:Nat):dr l none (some (k:Int))=l.take k:=by
 unfold dr
 rw [HT.sIx_nat]
 show (l.drop 0).take (min k l.length - 0)=l.take k
 rw [List.drop_zero,Nat.sub_zero]
 by_cases h:k<=l.length
 .rw [Nat.min_eq_left h]
 .rw [Nat.min_eq_right (by omega),List.take_of_length_le (Nat.le_refl _),List.take_of_length_le (by omega)]
theorem lf {α:Type} (l:List α) (i j:Nat):dr l (some (i:Int)) (some (j:Int))=(l.drop i).take (j - i):=by
 unfold dr
 rw [HT.sIx_nat,HT.sIx_nat]
 by_cases h:i<=l.length
 .rw [Nat.min_eq_left h]
  by_cases h2:j<=l.length
  .rw [Nat.min_eq_left h2]
  .rw [Nat.min_eq_right (by omega),List.take_of_length_le (by rw [List.length_drop];omega),List.take_of_length_le (by rw [List.length_drop];omega)]
 .have e:min i l.length=l.length:=Nat.min_eq_right (by omega)
  rw [e,List.drop_eq_nil_of_le (Nat.le_refl _),List.drop_eq_nil_of_le (by omega),List.take_nil,List.take_nil]
section
variable {X:Cx}
def uP:V->Option Int->Option Int->Hp->VK->Prop:=fun x lo hi H Q=>∃l,x=.str (S l)/\l.length<=sizeLine/\Q (.str (S (dr l lo hi))) H
theorem rm:SlR X uP:=by
 intro pins s σ H x v vl vu lo hi sl Q I rx hs pl pu h
 obtain ⟨l,rfl,hz,q⟩:=h
 obtain ⟨t,rfl⟩:=rx
 refine ⟨"str",_,slot_str_getitem.lookup,typeIs_str s _ t,?_⟩
 obtain ⟨l',hl',el⟩:∃l':Option (Int×Tok),vl=partValue l'/\l'.map (·.1)=lo:=by
  cases pl with
  | none=>exact ⟨none,rfl,rfl⟩
  | int i t=>exact ⟨some (i,t),rfl,rfl⟩
 obtain ⟨u',hu',eu⟩:∃l':Option (Int×Tok),vu=partValue l'/\l'.map (·.1)=hi:=by
  cases pu with
  | none=>exact ⟨none,rfl,rfl⟩
  | int i t=>exact ⟨some (i,t),rfl,rfl⟩
 subst hl' hu'
 refine wpAny_getItem_str_slice (l:=l') (u:=u') (st:=none) hs rfl ?_
 have hm:∀t' k,EP X pins σ Q (.str (Txt.slice (S l) lo hi) t') { s with toks:=k }:=fun t' k=>⟨.str (S (dr l lo hi)),H,I.tok _,⟨t',by rw [oJ]⟩,q⟩
 have hlen:(Txt.slice (S l) lo hi).length<=sizeLine:=Nat.le_trans (Txt.slice_le _ _ _) (by rw [dq];exact hz)
 subst el eu
 exact post_val_or_str ⟨hlen,hm⟩
def hG {α:Type} (l:List α) (n:Int):List α:=(List.replicate n.toNat l).flatten
theorem lg (k:Nat) (l acc:List Nat):(List.replicate k l.toArray).foldl (·++·) acc.toArray=(acc++(List.replicate k l).flatten).toArray:=by
 induction k generalizing acc with
 | zero=>simp
 | succ k ih =>
  rw [List.replicate_succ,List.foldl_cons,List.append_toArray,ih (acc++l),List.replicate_succ,List.flatten_cons,List.append_assoc]
theorem tJ (l:List Nat) (n:Int):Txt.mul (S l) n=S (hG l n):=by
 unfold Txt.mul hG
 by_cases h:n < 1
 .rw [if_pos h]
  have:n.toNat=0:=by omega
  rw [this];rfl
 .rw [if_neg h]
  split
  .rename_i h2
   rw [dq] at h2
   simp only [Bool.or_eq_true,beq_iff_eq] at h2
   rcases h2 with h2 | h2
   .subst h2;simp [S]
   .have:l=[]:=List.length_eq_zero_iff.mp h2
    subst this;simp [S]
  .have e:=lg n.toNat l []
   show (⟨_⟩:Str)=_
   have e':(List.replicate n.toNat (S l).cps).foldl (·++·) #[]=((List.replicate n.toNat l).flatten).toArray:=by
    simpa [S] using e
   rw [e'];rfl
theorem bC {α:Type} (l:List α) (n:Int):(hG l n).length=n.toNat * l.length:=by
 unfold hG
 rw [List.length_flatten,List.map_replicate,List.sum_replicate_nat]
theorem j9:OpR X (binaryOp .Mult) (fun x y H Q=>∃l n,x=.str (S l)/\y=.int n/\-1000000<=n/\n<=1000000/\n.toNat * l.length<=sizeLine/\Q (.str (S (hG l n))) H):=by
 intro pins s σ H x y v u Q I rx ry h
 obtain ⟨l,n,rfl,rfl,h1,h2,hz,q⟩:=h
 obtain ⟨t,rfl⟩:=rx
 obtain ⟨t',rfl⟩:=ry
 have hs:sizeLine=16777216:=sizeLine_eq
 have hz':n.toNat * l.length<=16777216:=by rw [<- hs];exact hz
 refine SB.mul ⟨?_,fun hn hc=>?_,fun hn hc=>?_⟩ fun t' k=>⟨.str (S (hG l n)),H,I.tok _,⟨t',by rw [tJ]⟩,q⟩
 .rw [decide_eq_false (by omega),decide_eq_false (by omega)];rfl
 .rw [dq]
  intro hgt
  have hl:l.length<=16777216:=by
   have:1 * l.length<=n.toNat * l.length:=Nat.mul_le_mul_right _ (by omega)
   omega
  have hdiv:(2 ^ 63 - 1:Int) / 1000000<=(2 ^ 63 - 1) / n:=by
   apply Int.le_ediv_of_mul_le (by omega)
   have:=Int.mul_le_mul_of_nonneg_left h2 (show (0:Int)<=(2 ^ 63 - 1) / 1000000 by decide)
   have e2:((2 ^ 63 - 1:Int) / 1000000) * 1000000<=2 ^ 63 - 1:=by decide
   omega
  have e3:(2 ^ 63 - 1:Int) / 1000000=9223372036854:=by decide
  omega
 .rw [dq]
  have:l.length * n.toNat<=16777216:=by rw [Nat.mul_comm];exact hz'
  exact decide_eq_false (by omega)
theorem lh:OpR X (compareOp .LtE) (fun x y H Q=>∃i j,x=.str i/\y=.str j/\Q (.bl (!decide (j.cps.toList < i.cps.toList))) H):=by
 intro pins s σ H x y v u Q I rx ry h
 obtain ⟨i,j,rfl,rfl,q⟩:=h
 obtain ⟨t,rfl⟩:=rx
 obtain ⟨t',rfl⟩:=ry
 exact PySem.P.le_str ⟨.bl _,H,I,rfl,q⟩
end
def Its (xs:List V):It:=⟨fun i _=>i < xs.length,fun i H x H'=>H'=H/\xs[i]?=some x,fun i _=>xs.length=i⟩
theorem li {M:Model}{A:Around}{E:Value->Shared->Prop}{s:Shared}{tg:Expr}{it:Addr}{u:Value}{Q:Unit->Shared->Prop} (hu:∀a,u≠.ref a) (hQ:Q () s):wpAny M A (letOwnedTupleGo tg (.ref it) u) Q E s:=by
 unfold letOwnedTupleGo
 cases tg <;> first
  | exact wpAny_pure hQ
  | (cases u <;> first
    | exact wpAny_pure hQ
    | exact absurd rfl (hu _))
theorem ik {P:Program}{w:World}{K:PySem.W.Frag}{tg:Expr}{it:Addr}{xs:List V}{n:Nat}{Pt:Nat->Value->Prop}{St:Nat->Heap->Prop}
  (W:∀A:Around,A.handled=none->Walks P w A it [it] [it] n Pt St) (hn:xs.length=n)
  (hv:∀i v,i < n->Pt i v->∃x,xs[i]?=some x/\bK x v) (hsc:∀i v,Pt i v->∀a,v≠.ref a)
  (hobj:∀i h,St i h->∃o,h.get? it=some o/\∀v,o.data≠.cell v)
  (hfr:∀i h h',St i h->(∀b∈[it],∀o,h.get? b=some o->h'.get? b=some o)->St i h')
  (hself:∀(A:Around) (i:Nat) (s:Shared) (Q:Value->Shared->Prop) (E:Value->Shared->Prop),St i s.heap->Q (.ref it) s->wpAny (model P w) A (pyIter (.ref it)) Q E s) :
  oa P w K tg (Its xs) [it] it St where
 mem:=by simp
 obj:=fun i h st b hb=>by
  have e:b=it:=by simpa using hb
  subst e
  exact hobj i h st
 keep:=fun i h h' st k=>hfr i h h' st k
 item:=by
  intro X hP hw hK hc i pins s σ H E I hf st hg
  subst hP hw hK
  obtain ⟨f0,f1,f2,f3,f4,f5⟩:=hf it (by simp)
  refine (W X.A (I.ok.hd hc)).item i s _ _ (by rw [<- hn];exact hg) st fun v h' tk hp st' kk=>?_
  obtain ⟨x,hx,rx⟩:=hv i v (by rw [<- hn];exact hg) hp
  have I1:Inv X pins σ H { s with heap:=h',toks:=tk }:=I.turned (fun b o hb e=>kk b o (by simpa using hb) e) f0 f1 f3 f4 f5
  exact ⟨v,rfl,li (s:={ s with heap:=h',toks:=tk }) (hsc i v hp) ⟨x,H,I1,rx,⟨rfl,hx⟩,st',fun b hb=>(hf b hb).1⟩⟩
 done:=by
  intro X hP hw hK hc i pins s σ H E I hf st hg
  subst hP hw hK
  obtain ⟨f0,f1,f2,f3,f4,f5⟩:=hf it (by simp)
  have e:n=i:=hn.symm.trans hg
  subst e
  exact (W X.A (I.ok.hd hc)).done s _ _ st fun h' tk kk=>⟨rfl,I.turned (fun b o hb e=>kk b o (by simpa using hb) e) f0 f1 f3 f4 f5⟩
 self:=hself
section
variable {X:Cx}{tg:Expr}
def bf (l:List Nat):List V:=l.map fun c=>V.str (S [c])
theorem cp {l:List Nat}{i:Nat}{x:V} (h:(bf l)[i]?=some x):∃c,l[i]?=some c/\x=.str (S [c]):=by
 unfold bf at h
 rw [List.getElem?_map] at h
 cases e:l[i]? with
 | none=>rw [e] at h;cases h
 | some c=>rw [e] at h;exact ⟨c,rfl,(Option.some.inj h).symm⟩
theorem bh (l:List Nat):(bf l).length=l.length:=List.length_map _
end
section
variable {X:Cx}
theorem i5:bw X (.builtin "isinstance") (fun xs H Q=>∃x n t b,xs=[x,.ty n]/\iW X.K H x t/\PySem.W.kitOne X.K t (.type n)=some b/\Q (.bl b) H):=by
 intro pins s σ H xs us Q I r h
 obtain ⟨x,n,t,b,rfl,ty,e,q⟩:=h
 obtain ⟨u,w',rfl,rx,ry⟩:=tE r
 cases (show w'=Value.type n from ry)
 exact kP I rx ty e fun tk=>⟨.bl b,H,I.tok _,rfl,q⟩
mutual
inductive DV (K:PySem.W.Frag) (H:Hp):V->PyData->Prop
 | non:DV K H .non .none
 | bl (b:Bool):DV K H (.bl b) (.bool b)
 | int (i:Int):DV K H (.int i) (.int i)
 | str (x:Str):DV K H (.str x) (.str x)
 | lst {a:Addr}{xs:List V}{ds:List PyData}:SqL K H a xs->DVs K H xs ds->DV K H (.ref a) (.list ds)
 | tup {a:Addr}{xs:List V}{ds:List PyData}:SqT K H a xs->DVs K H xs ds->DV K H (.ref a) (.tuple ds)
inductive DVs (K:PySem.W.Frag) (H:Hp):List V->List PyData->Prop
 | nil:DVs K H [] []
 | cons {x:V}{d:PyData}{xs:List V}{ds:List PyData}:DV K H x d->DVs K H xs ds->DVs K H (x::xs) (d::ds)
end
mutual
theorem DV.reads {pins:List (Addr×Obj)}{σ:St}{H:Hp}{s:Shared} (I:Inv X pins σ H s):∀{x:V}{d:PyData}{u:Value},DV X.K H x d->bK x u->∃as,Reads s.heap u d as
 | _,_,u,.non,r=>by cases (show u=Value.none from r);exact ⟨_,.none⟩
 | _,_,u,.bl b,r=>by cases (show u=Value.bool b from r);exact ⟨_,.bool b⟩
 | _,_,u,.int i,r=>by obtain ⟨t,e⟩:=(show ∃t,u=Value.int i t from r);subst e;exact ⟨_,.int i t⟩
 | _,_,u,.str x,r=>by obtain ⟨t,e⟩:=(show ∃t,u=Value.str x t from r);subst e;exact ⟨_,.str x t⟩
 | _,_,u,.lst (a:=a) hq hs,r=>by
  cases (show u=Value.ref a from r)
  obtain ⟨its,rv,pl,_⟩:=I.list hq
  obtain ⟨o,ho,hc,n,hd⟩:=pl.isList
  obtain ⟨as,ra⟩:=DVs.reads I hs rv
  exact ⟨_,.list ho hc hd ra⟩
 | _,_,u,.tup (a:=a) hq hs,r=>by
  cases (show u=Value.ref a from r)
  obtain ⟨its,rv,pl,_⟩:=I.tuple hq
  obtain ⟨o,ho,hc,n,hd⟩:=pl
  obtain ⟨as,ra⟩:=DVs.reads I hs rv
  exact ⟨_,.tuple ho hc hd ra⟩
theorem DVs.reads {pins:List (Addr×Obj)}{σ:St}{H:Hp}{s:Shared} (I:Inv X pins σ H s):∀{xs:List V}{ds:List PyData}{us:List Value},DVs X.K H xs ds->aW xs us->∃as,ReadsAll s.heap us ds as
 | _,_,_,.nil,.nil=>⟨_,.nil⟩
 | _,_,_,.cons h hs,.cons r rs=>by
  obtain ⟨as,ra⟩:=DV.reads I h r
  obtain ⟨bs,rb⟩:=DVs.reads I hs rs
  exact ⟨_,.cons ra rb⟩
end
def tK (K:PySem.W.Frag) (neg:Bool):R2:=fun x y H Q=>∃da db,DV K H x da/\DV K H y db/\SeqAt.shaped da=true/\SeqAt.shaped db=true/\Q (.bl (if neg then !PyData.eqv da db else PyData.eqv da db)) H
theorem rn (hu:X.A.units + 64 < cLine):OpR X (compareOp .Eq) (tK X.K false):=by
 intro pins s σ H x y v u Q I rx ry h
 obtain ⟨da,db,ha,hb,sa,sb,q⟩:=h
 obtain ⟨as,ra⟩:=DV.reads I ha rx
 obtain ⟨bs,rb⟩:=DV.reads I hb ry
 exact eq_dataH ra rb sa sb hu ⟨.bl _,H,I,rfl,q⟩
theorem rp (hu:X.A.units + 64 < cLine):OpR X (compareOp .NotEq) (tK X.K true):=by
 intro pins s σ H x y v u Q I rx ry h
 obtain ⟨da,db,ha,hb,sa,sb,q⟩:=h
 obtain ⟨as,ra⟩:=DV.reads I ha rx
 obtain ⟨bs,rb⟩:=DV.reads I hb ry
 exact ne_dataH ra rb sa sb hu ⟨.bl _,H,I,rfl,q⟩
theorem DVs.ints {K:PySem.W.Frag}{H:Hp}:∀ns:List Int,DVs K H (ns.map V.int) (ns.map PyData.int)
 | []=>.nil
 | n::ns=>.cons (.int n) (DVs.ints ns)
theorem e9:∀ns ms:List Int,PyData.eqvAll (ns.map PyData.int) (ms.map PyData.int)=decide (ns=ms)
 | [],[]=>by simp [PyData.eqvAll]
 | [],_::_=>by simp [PyData.eqvAll]
 | _::_,[]=>by simp [PyData.eqvAll]
 | a::r,b::t=>by
  simp only [List.map_cons,PyData.eqvAll,PyData.eqv,e9 r t]
  by_cases h:a=b <;> by_cases h':r=t <;> simp [h,h']
end
section
variable {X:Cx}{a b:Expr}{ta tb:TE}{pos:Pos}
theorem aB {x:Str}{l:List Nat}{j:Nat} (h:x=S l):PE X (.Constant (.str x) j pos) (tC (.str (S l))):=by
 subst h
 exact qC
theorem lj:bw X (.builtin "len") (fun xs H Q=>∃l,xs=[.str (S l)]/\l.length<=sizeLine/\Q (.int l.length) H):=by
 intro pins s σ H xs us Q I r h
 obtain ⟨l,rfl,hz,q⟩:=h
 exact ic pins s σ H _ us Q I r ⟨S l,rfl,by rw [dq];exact hz,by rw [dq];exact q⟩
def rq:R2:=fun x y H Q=>∃l i c,x=.str (S l)/\y=.int i/\l.length<=sizeLine/\atI l i=some c/\Q (.str (S [c])) H
theorem oK:IxR X rq:=by
 intro value slice pins s σ H x y v u Q I rx ry q hs
 obtain ⟨l,i,c,rfl,rfl,hz,ha,q⟩:=q
 exact qX value slice pins s σ H _ _ v u Q I rx ry ⟨S l,i,c,rfl,rfl,by rw [dq];exact hz,ha,q⟩ hs
theorem oM:OpR X (binaryOp .Add) (fun x y H Q=>∃i j,x=.str (S i)/\y=.str (S j)/\i.length + j.length<=sizeLine/\Q (.str (S (i++j))) H):=by
 intro pins s σ H x y v u Q I rx ry h
 obtain ⟨i,j,rfl,rfl,hz,q⟩:=h
 exact j4 pins s σ H _ _ v u Q I rx ry ⟨S i,S j,rfl,rfl,by rw [dq,dq];exact hz,by rw [tI];exact q⟩
theorem rz:OpR X (compareOp .Eq) (fun x y H Q=>∃i j,x=.str (S i)/\y=.str (S j)/\Q (.bl (decide (i=j))) H):=by
 intro pins s σ H x y v u Q I rx ry h
 obtain ⟨i,j,rfl,rfl,q⟩:=h
 exact tm pins s σ H _ _ v u Q I rx ry ⟨rfl,by rw [rj];exact q⟩
theorem rA:OpR X (compareOp .NotEq) (fun x y H Q=>∃i j,x=.str (S i)/\y=.str (S j)/\Q (.bl (!decide (i=j))) H):=by
 intro pins s σ H x y v u Q I rx ry h
 obtain ⟨i,j,rfl,rfl,q⟩:=h
 exact tq pins s σ H _ _ v u Q I rx ry ⟨rfl,by rw [rj];exact q⟩
theorem rB:OpR X (compareOp .Eq) (rI0 fun i j=>.bl (decide (i=j))):=qa fun _ _ _ _ _ _ _ q=>eq_int (by rw [Bool.beq_eq_decide_eq];exact q)
theorem rC:OpR X (compareOp .NotEq) (rI0 fun i j=>.bl (!decide (i=j))):=qa fun _ _ _ _ _ _ _ q=>ne_int (by rw [bne,Bool.beq_eq_decide_eq];exact q)
theorem ll:bw X (.builtin "len") (fun xs H Q=>∃p ys,xs=[.ref p]/\SqL X.K H p ys/\Q (.int ys.length) H):=by
 intro pins s σ H xs us Q I r h
 obtain ⟨p,ys,e,hq,q⟩:=h
 exact eG pins s σ H xs us Q I r ⟨p,ys,e,.inl hq,q⟩
theorem lm:bw X (.builtin "len") (fun xs H Q=>∃p ys,xs=[.ref p]/\SqT X.K H p ys/\Q (.int ys.length) H):=by
 intro pins s σ H xs us Q I r h
 obtain ⟨p,ys,e,hq,q⟩:=h
 exact eG pins s σ H xs us Q I r ⟨p,ys,e,.inr hq,q⟩
end
structure Cal (P:Program) (w:World) (K:PySem.W.Frag) (mg:Str->Option Value) (base:Heap) (k:Nat) (x:Str) (ps:List Str) (sp:Sp):Prop where
 ex:∃(f:Addr) (fd:FuncData),iX P w K mg base CX0 k f fd ps sp/\iY K fd ps []/\PySem.W.keepIn K (.ref f)=true/\mg x=some (.ref f)/\∃oc od osl,K.lookup f=some ⟨oc,od,.func fd,osl⟩
structure bW (K:PySem.W.Frag) (mg:Str->Option Value) (x:Str) (st:Stmt):Prop where
 ex:∃(f:Addr) (fd:FuncData),Fun K x x st f fd/\mg x=some (.ref f)
section
variable {P:Program}{w:World}{K:PySem.W.Frag}{mg:Str->Option Value}{base:Heap}{x:Str}{st:Stmt}{N ps:List Str}{k:Nat}{sp:Sp}
theorem bW.ok (D:bW K mg x st) (S:aS N ps (ah st))
  (hb:∀(kV doc pm:Value) (an:Option Addr) (cdv ct:Value) (us:List Value),us.length=ps.length->bindArgs (PySem.W.fnOf x x (bB st) (a8 st) (ah st) .none kV doc pm an cdv ct) ⟨us,[]⟩=pure (ps.zip us))
  (len:∀vs H Q E,sp vs H Q E->vs.length=ps.length)
  (hbody:∀(f:Addr) (cdv:Value) (A:Around) (outer:List Env) (s:Shared) (H:Hp) (vs:List V) (Q:VK) (E:XK),eP k (A.deeper (envOfC x (ah st) s.heap.objs.size f cdv))->sp vs H Q E ->
   ∃t,PSs (kR CX0 P w K mg base N x (ah st) f cdv A outer s H E).nox (a8 st) t/\t { nx:=fun _ H'=>Q .non H',rt:=Q } (start N vs) H):Cal P w K mg base (k + 1) x ps sp:=by
 obtain ⟨f,fd,F,hm⟩:=D.ex
 have lk:∃oc od osl,K.lookup f=some ⟨oc,od,.func fd,osl⟩:=by
  obtain ⟨oc,od,kV,doc,pm,an,cdv,ct,osl,rfl,lk,hcd⟩:=F.ex
  exact ⟨oc,od,osl,lk⟩
 exact ⟨f,fd,F.ok S len fun cdv A outer s H vs Q E hr h=>hbody f cdv A outer s H vs Q E hr h,F.binds hb,F.kp,hm,lk⟩
theorem bW.mk' {K:PySem.W.Frag}{h:Heap}{mg:Str->Option Value}{x:Str}{st:Stmt}{f:Addr}{oc:Value}{od an:Option Addr}{osl:Array (Option Value)}{kV doc pm cdv ct:Value} (X:K.In h) (G:h.Ns mainGlobals mg)
  (a:PySem.W.nsIn K mainGlobals x=some (some (.ref f))) (l:K.lookup f=some ⟨oc,od,.func (PySem.W.fnOf x x (bB st) (a8 st) (ah st) .none kV doc pm an cdv ct),osl⟩)
  (c:PySem.W.codeIn K cdv x=true) (k:PySem.W.keepIn K (.ref f)=true):bW K mg x st:=⟨f,_,rf (st:=st) l c k,PySem.W.mg_of X G a⟩
end
section
variable {X:Cx}{k:Nat}{x:Str}{ps:List Str}{sp:Sp}{p pos:Pos}{e:Expr}{es:List Expr}{t:TA}
theorem rD (C:Cal X.prog X.w X.K X.mg X.base k x ps sp) (hr:eP k X.A) (ha:PA X (e::es) t) (hg:Gl X x:=by rfl) (hdb:(x == ("__debug__":Str))=false:=by decide) (he:starEach (e::es) X.env=(false,eval e X.env)::starEach es X.env:=by rfl)
  (hpl:(backTo pos (starEach es X.env)).any (·.1)=false:=by rfl):PE X (.Call (.Name x p) (e::es) [] pos) (fM sp [] E0 t):=by
 obtain ⟨f,fd,F,hb,hk,hm,_⟩:=C.ex
 exact oz F hr hg hm hk hb .nil re ha hdb he hpl
end
def ka (K:PySem.W.Frag):Sp:=fun vs H Q _=>∃(a:Addr) (ns:List Int),vs=[.ref a]/\SqL K H a (ns.map V.int)/\ns.length<=63/\∀H',Q (.bl true) H'
theorem rE {P:Program}{w:World}{K:PySem.W.Frag}{mg:Str->Option Value}{fa:Addr}{st:Stmt}{k:Nat}{x:Str} (hfa:mg "law"=some (.ref fa)) (D:bW K mg "law" st)
  (hbind:∀(kV doc pm:Value) (an:Option Addr) (cdv ct:Value) (s:Shared) (v:Value),BindsTo s (PySem.W.fnOf "law" "law" (bB st) (a8 st) (ah st) .none kV doc pm an cdv ct) ⟨[v],[]⟩ [(x,v)])
  (h:∀base:Heap,Cal P w K mg base k "law" [x] (ka K)) :
  ∃fd:FuncData,(∀(s:Shared) (v:Value),BindsTo s fd ⟨[v],[]⟩ [(x,v)])/\∀base:Heap,K.In base->base.Ns mainGlobals mg->iX P w K mg base CX0 k fa fd [x] (ka K):=by
 obtain ⟨f,fd,F,hm⟩:=D.ex
 have e:=hfa.symm.trans hm
 cases e
 obtain ⟨oc,od,kV,doc,pm,an,cdv,ct,osl,rfl,lk,hcd⟩:=F.ex
 refine ⟨_,fun s v=>hbind kV doc pm an cdv ct s v,fun base kb nb=>?_⟩
 obtain ⟨f',fd',F',_,_,hm',oc',od',osl',lk'⟩:=(h base).ex
 have e:=hfa.symm.trans hm'
 cases e
 rw [lk] at lk'
 cases lk'
 exact F'
theorem rF {l:PySem.W.OpenLaw}{q:Program}{loose:List Str}{XP:(Str->Option Value)->Heap->Prop}{YP:World->Heap->Prop}{d:DefRec}{K:Params->PySem.W.Frag}{k:Nat}{x:Str} (hn:l.most=some 63) (hdf:d.params.defaults=[]) (hr:eP k callerA)
  (hY:∀(w:World) (h:Heap),YP w h->(K w.params).In h)
  (F:∀(w:World) (mg:Str->Option Value) (fa:Addr) (h:Heap),(K w.params).In h->h.Ns mainGlobals mg->mg d.name=some (.ref fa) ->
   ∃fd:FuncData,(∀(s:Shared) (u:Value),BindsTo s fd ⟨[u],[]⟩ [(x,u)])/\∀base:Heap,(K w.params).In base->base.Ns mainGlobals mg->iX l.prog w (K w.params) mg base CX0 k fa fd [x] (ka (K w.params))) :
  PySem.W.WalkO q loose XP YP l.row.toRowW d [] (fun f vs=>PySem.call f vs) :=
 oI (n:=63) (k:=k) (x:=x) (CX:=fun _=>CX0) (sp:=fun w=>ka (K w.params)) hn (by decide) hdf hr hY F (fun _ _ a ns hl _ hS=>⟨a,ns,rfl,hS,hl,fun _=>rfl⟩) fun _ _ _ _ _ z=>z
theorem oN {α β:Type}{f:α->β}{xs:List α}{i:Int}{v:α} (h:atI xs i=some v):atI (xs.map f) i=some (f v):=by
 unfold atI at h ⊢
 rw [List.length_map]
 cases e:ixN xs.length i with
 | none=>rw [e] at h;cases h
 | some j =>
  rw [e] at h
  show (xs.map f)[j]?=some (f v)
  have h':xs[j]?=some v:=h
  rw [List.getElem?_map,h'];rfl
theorem fb {α:Type}{xs:List α}{i:Int}{j:Nat}{v:α} (h:xs[j]?=some v) (e:i=(j:Int)):atI xs i=some v:=by subst e;exact oD h
theorem sz (n:Nat) (h:n<=1000000):n<=sizeLine:=by rw [sizeLine_eq];omega
theorem mw {ns:List Int}{i:Nat}{x:V} (h:(ns.map V.int)[i]?=some x):∃z,ns[i]?=some z/\x=.int z:=by
 rw [List.getElem?_map] at h
 cases e:ns[i]? with
 | none=>rw [e] at h;cases h
 | some z=>rw [e] at h;exact ⟨z,rfl,(Option.some.inj h).symm⟩
section
variable {X:Cx}{st:Stmt}{t:TS}
def rG (t:TS):TS:=fun D σ H=>∃J:St->Hp->Prop,t { D with nx:=J } σ H/\∀σ' H',J σ' H'->D.nx σ' H'
theorem oO (h:PS X st t):PS X st (rG t):=by
 intro pins s σ H D I q
 obtain ⟨J,q1,q2⟩:=q
 refine thn (h pins s σ H _ I q1) fun f s' r=>?_
 cases f with
 | next=>obtain ⟨σ',H',I',r'⟩:=r;exact ⟨σ',H',I',q2 σ' H' r'⟩
 | brk=>exact r
 | cont=>exact r
 | ret u=>exact r
end
theorem mx {α β:Type} (f:α->β) (xs:List α) (lo hi:Option Int):dr (xs.map f) lo hi=(dr xs lo hi).map f:=by
 unfold dr
 rw [List.length_map,List.map_take,List.map_drop]
theorem bS {x:Str}{c:Addr}:∀(names:List (Str×NameKind)) (n:Nat) (acc:List (Str×Addr)),(cellsFrom n names acc).lookup x=some c->(n<=c/\(x,NameKind.cell)∈names)\/acc.lookup x=some c
 | [],n,acc,h=>.inr h
 | (y,k)::r,n,acc,h=>by
  unfold cellsFrom at h
  split at h
  .rename_i hk
   have hk':k=.cell:=by simpa using hk
   subst hk'
   rcases bS r (n + 1) ((y,n)::acc) h with ⟨h1,h2⟩ | h1
   .exact .inl ⟨by omega,List.mem_cons_of_mem _ h2⟩
   .rw [List.lookup_cons] at h1
    cases e:x == y with
    | true =>
     rw [e] at h1
     have:n=c:=Option.some.inj h1
     have ex:x=y:=by simpa using e
     subst ex
     exact .inl ⟨by omega,List.mem_cons_self⟩
    | false=>rw [e] at h1;exact .inr h1
  .rcases bS r n acc h with ⟨h1,h2⟩ | h1
   .exact .inl ⟨h1,List.mem_cons_of_mem _ h2⟩
   .exact .inr h1
theorem cw {x:Str}:∀(names:List (Str×NameKind)) (n:Nat) (acc:List (Str×Addr)),(x,NameKind.cell)∉names->(cellsFrom n names acc).lookup x=acc.lookup x
 | [],_,_,_=>rfl
 | (y,k)::r,n,acc,h=>by
  unfold cellsFrom
  split
  .rename_i hk
   have hk':k=.cell:=by simpa using hk
   subst hk'
   rw [cw r (n + 1) _ (fun z=>h (List.mem_cons_of_mem _ z)),List.lookup_cons]
   have:(x == y)=false:=by
    rw [beq_eq_false_iff_ne]
    intro e;subst e;exact h List.mem_cons_self
   rw [this]
  .exact cw r n acc (fun z=>h (List.mem_cons_of_mem _ z))
theorem cA {x y:Str}{c:Addr}:∀(names:List (Str×NameKind)) (n:Nat) (acc:List (Str×Addr)),(∀z d,acc.lookup z=some d->d < n) ->
  (cellsFrom n names acc).lookup x=some c->(cellsFrom n names acc).lookup y=some c->n<=c->x=y
 | [],n,acc,ha,h1,h2,hc=>absurd (ha x c h1) (Nat.not_lt.mpr hc)
 | (z,k)::r,n,acc,ha,h1,h2,hc=>by
  unfold cellsFrom at h1 h2
  split at h1
  .rename_i hk
   rw [if_pos hk] at h2
   have ha':∀w d,((z,n)::acc).lookup w=some d->d < n + 1:=fun w d e=>by
    rw [List.lookup_cons] at e
    cases q:w == z with
    | true=>rw [q] at e;cases e;exact Nat.lt_succ_self _
    | false=>rw [q] at e;exact Nat.lt_succ_of_lt (ha w d e)
   by_cases hcn:n + 1<=c
   .exact cA r (n + 1) _ ha' h1 h2 hcn
   .have e:c=n:=Nat.le_antisymm (Nat.not_lt.mp hcn) hc
    subst e
    have key:∀w:Str,(cellsFrom (c + 1) r ((z,c)::acc)).lookup w=some c->w=z:=fun w hw=>by
     rcases bS r (c + 1) _ hw with ⟨q,_⟩ | q
     .exact absurd q (Nat.not_succ_le_self _)
     .rw [List.lookup_cons] at q
      cases q2:w == z with
      | true=>simpa using q2
      | false=>rw [q2] at q;exact absurd (ha w c q) (Nat.lt_irrefl _)
    rw [key x h1,key y h2]
  .rename_i hk
   rw [if_neg hk] at h2
   exact cA r n acc ha h1 h2 hc
def dI (env:Env):List (Str×NameKind)->List (Str×Addr)->List (Str×Addr)
 | [],acc=>acc
 | (n,k)::r,acc=>if (k == .free)=true then dI env r ((n,(env.cells.lookup n).getD 0)::acc) else dI env r acc
theorem cB {env:Env}{x:Str}{c:Addr}:∀(names:List (Str×NameKind)) (acc:List (Str×Addr)),(dI env names acc).lookup x=some c->((x,NameKind.free)∈names/\c=(env.cells.lookup x).getD 0)\/acc.lookup x=some c
 | [],acc,h=>.inr h
 | (y,k)::r,acc,h=>by
  unfold dI at h
  split at h
  .rename_i hk
   have hk':k=.free:=by simpa using hk
   subst hk'
   rcases cB r _ h with ⟨h1,h2⟩ | h1
   .exact .inl ⟨List.mem_cons_of_mem _ h1,h2⟩
   .rw [List.lookup_cons] at h1
    cases e:x == y with
    | true =>
     rw [e] at h1
     have ex:x=y:=by simpa using e
     subst ex
     exact .inl ⟨List.mem_cons_self,(Option.some.inj h1).symm⟩
    | false=>rw [e] at h1;exact .inr h1
  .rcases cB r acc h with ⟨h1,h2⟩ | h1
   .exact .inl ⟨List.mem_cons_of_mem _ h1,h2⟩
   .exact .inr h1
theorem dJ {env:Env}{x:Str}:∀(names:List (Str×NameKind)) (acc:List (Str×Addr)),((x,NameKind.free)∈names\/(acc.lookup x).isSome=true)->((dI env names acc).lookup x).isSome=true
 | [],acc,h=>h.elim (fun z=>nomatch z) id
 | (y,k)::r,acc,h=>by
  unfold dI
  split
  .rename_i hk
   refine dJ r _ ?_
   by_cases e:(x == y)=true
   .exact .inr (by rw [List.lookup_cons,e];rfl)
   .rcases h with h | h
    .rcases List.mem_cons.mp h with z | z
     .cases z;exact absurd (by simp) e
     .exact .inl z
    .exact .inr (by rw [List.lookup_cons];rw [Bool.not_eq_true] at e;rw [e];exact h)
  .rename_i hk
   refine dJ r acc ?_
   rcases h with h | h
   .rcases List.mem_cons.mp h with z | z
    .cases z;exact absurd rfl hk
    .exact .inl z
   .exact .inr h
theorem eQ {scope:Scope}{env:Env} (h:∀x∈scope.names,x.2=.free->∃c,env.cells.lookup x.1=some c):closureFor scope env=pure (dI env scope.names []):=by
 unfold closureFor
 have key:∀(names:List (Str×NameKind)) (acc:List (Str×Addr)),(∀x∈names,x.2=.free->∃c,env.cells.lookup x.1=some c) ->
   (forIn names acc fun (x:Str×NameKind) (r:List (Str×Addr))=>(if (x.2 == NameKind.free)=true then do let y <- cellOf env x.1;pure (ForInStep.yield ((x.1,y)::r)) else pure (ForInStep.yield r):Sem _))=pure (dI env names acc):=by
  intro names
  induction names with
  | nil=>intro acc _;rfl
  | cons p r ih =>
   intro acc hp
   obtain ⟨n,k⟩:=p
   rw [List.forIn_cons]
   have hr:∀x∈r,x.2=.free->∃c,env.cells.lookup x.1=some c:=fun x hx=>hp x (List.mem_cons_of_mem _ hx)
   unfold dI
   by_cases hk:(k == NameKind.free)=true
   .obtain ⟨c,hc⟩:=hp (n,k) List.mem_cons_self (by simpa using hk)
    have hc':env.cells.lookup n=some c:=hc
    have e1:cellOf env n=pure c:=by unfold cellOf;rw [hc']
    simp only [hk,if_true]
    rw [e1,hc']
    simp only [pure_bind]
    exact ih _ hr
   .rw [if_neg hk,if_neg hk]
    simp only [pure_bind]
    exact ih _ hr
 have e:=key scope.names [] h
 have e2:∀(m:Sem (List (Str×Addr))),(m >>= fun r=>pure r)=m:=fun m=>bind_pure m
 rw [<- e]
 first
  | rfl
  | exact (e2 _)
def ln (scope:Scope) (C:Addr) (env:Env):Env :=
 { scope:=relabel scope env,locals:=C,globals:=env.globals,cells:=cellsFrom (C + 1) scope.names (dI env scope.names []),qual:=env.qual,func:=none,code:=env.code,frame:=env.frame,builtins:=env.builtins }
def bo (X:Cx) (N':List Str) (scope:Scope) (s:Shared) (H:Hp) (fp:List Addr) (pins:List (Addr×Obj)):Cx :=
 { X with N:=N',s₀:=s,H₀:=H,env:=ln scope s.heap.objs.size X.env,outer:=X.stack,stack:=X.stack,ex:=fp,fn:=fun x=>decide ((x,NameKind.cell)∈scope.names),pn:=X.pn++pins,xe:=fun _ _=>False }
def gF (sc0:Scope) (N:List Str) (scope:Scope) (N':List Str) (ix:List (Option Nat)):Bool :=
 decide (scope.kind=.function) && scope.names.all (fun y=>(!decide (y.2=.local) || decide (scope.names.lookup y.1=some .local)) &&
  (!decide (y.2=.free) || ((decide (sc0.names.lookup y.1=some .cell) || decide (sc0.names.lookup y.1=some .free)) && !decide ((y.1,NameKind.cell)∈scope.names)))) &&
 decide (N'.length=ix.length) && (N'.zip ix).all (fun p=>match p.2 with | none=>true | some j=>decide (N[j]?=some p.1) && decide (scope.names.lookup p.1=some .free))
structure lp (env:Env) (N:List Str) (scope:Scope) (N':List Str) (ix:List (Option Nat)):Prop where
 kind:scope.kind=.function
 loc:∀y∈scope.names,y.2=.local->scope.names.lookup y.1=some .local
 free:∀y∈scope.names,y.2=.free->(env.kindOf y.1=some .cell\/env.kindOf y.1=some .free)/\(y.1,NameKind.cell)∉scope.names
 len:N'.length=ix.length
 slot:∀(i:Nat) (x:Str) (j:Nat),N'[i]?=some x->ix[i]?=some (some j)->N[j]?=some x/\scope.names.lookup x=some .free
theorem il {env:Env}{N:List Str}{scope:Scope}{N':List Str}{ix:List (Option Nat)} (h:gF env.scope N scope N' ix=true):lp env N scope N' ix:=by
 unfold gF at h
 simp only [Bool.and_eq_true,decide_eq_true_eq,List.all_eq_true] at h
 obtain ⟨⟨⟨h1,h2⟩,h3⟩,h4⟩:=h
 refine ⟨h1,fun y hy e=>?_,fun y hy e=>?_,h3,fun i x j e1 e2=>?_⟩
 .have:=(h2 y hy).1
  rw [e] at this
  simpa using this
 .have:=(h2 y hy).2
  rw [e] at this
  simpa [Env.kindOf] using this
 .have hm:(x,some j)∈N'.zip ix:=by
   refine List.mem_of_getElem? (i:=i) ?_
   rw [List.getElem?_zip_eq_some]
   exact ⟨e1,e2⟩
  have:=h4 _ hm
  simpa using this
def rlf (env:Env) (p:Str×NameKind):Str×NameKind:=match p with | (n,k)=>if (k == NameKind.free && env.scope.kind == .function && env.kindOf n == some .cell) then (n,.cell) else (n,k)
theorem lq (env:Env) (n:Str) (k:NameKind):∃k',rlf env (n,k)=(n,k')/\(k'=k\/(k=.free/\k'=.cell)):=by
 unfold rlf
 by_cases c:(k == NameKind.free && env.scope.kind == .function && env.kindOf n == some .cell)=true
 .refine ⟨.cell,if_pos c,.inr ⟨?_,rfl⟩⟩
  simp only [Bool.and_eq_true,beq_iff_eq] at c
  exact c.1.1
 .exact ⟨k,if_neg c,.inl rfl⟩
theorem jG {env:Env}:∀{names:List (Str×NameKind)}{x:Str},names.lookup x=some .free->(names.map (rlf env)).lookup x=some .cell\/(names.map (rlf env)).lookup x=some .free
 | [],_,h=>by simp at h
 | (n,k)::r,x,h=>by
  have ih:=@jG env r x
  obtain ⟨k',e,hk'⟩:=lq env n k
  rw [List.map_cons,e]
  cases hx:x == n with
  | true =>
   simp only [List.lookup_cons,hx] at h ⊢
   have hk:k=.free:=Option.some.inj h
   rcases hk' with z | z
   .right;rw [z,hk]
   .left;rw [z.2]
  | false =>
   simp only [List.lookup_cons,hx] at h ⊢
   exact ih h
theorem gG {env:Env}:∀{names:List (Str×NameKind)}{x:Str}{k':NameKind},(names.map (rlf env)).lookup x=some k'->k'=.cell\/k'=.free->names.lookup x=some .cell\/names.lookup x=some .free
 | [],_,_,h,_=>by simp at h
 | (n,k)::r,x,k',h,hk'=>by
  have ih:=@gG env r x k'
  obtain ⟨k2,e,hk2⟩:=lq env n k
  rw [List.map_cons,e] at h
  cases hx:x == n with
  | true =>
   simp only [List.lookup_cons,hx] at h ⊢
   have:k2=k':=Option.some.inj h
   subst this
   rcases hk2 with z | z
   .rw [<- z]
    rcases hk' with q | q
    .left;rw [q]
    .right;rw [q]
   .right;rw [z.1]
  | false =>
   simp only [List.lookup_cons,hx] at h ⊢
   exact ih h hk'
theorem im {x:Str}{c:Addr}:∀(names:List (Str×NameKind)) (n:Nat) (acc:List (Str×Addr)),(cellsFrom n names acc).lookup x=some c->(x,c)∈cellsFrom n names []\/acc.lookup x=some c:=by
 have app:∀(names:List (Str×NameKind)) (n:Nat) (acc:List (Str×Addr)),cellsFrom n names acc=cellsFrom n names []++acc:=by
  intro names
  induction names with
  | nil=>intro n acc;rfl
  | cons p r ih =>
   intro n acc
   obtain ⟨y,k⟩:=p
   unfold cellsFrom
   split
   .rw [ih (n + 1) ((y,n)::acc),ih (n + 1) [(y,n)],List.append_assoc];rfl
   .exact ih n acc
 intro names n acc h
 rw [app] at h
 rw [List.lookup_append] at h
 cases e:(cellsFrom n names []).lookup x with
 | some d =>
  rw [e] at h
  have:d=c:=by simpa using h
  subst this
  exact .inl (mem_of_lookup e)
 | none=>rw [e] at h;exact .inr (by simpa using h)
def lr (ix:List (Option Nat)) (σ:St):St:=ix.map fun o=>match o with
 | none=>none
 | some j=>match σ[j]? with
  | some v=>v
  | none=>none
section
variable {X:Cx}{pins:List (Addr×Obj)}{σ:St}{H:Hp}{s:Shared}
theorem my {N':List Str}{ix:List (Option Nat)}{scope:Scope}{fp:List Addr} (ok:lp X.env X.N scope N' ix) (I:Inv X pins σ H s) (hf:∀b∈fp,j1 X pins H b) (hfl:∀b∈fp,b < s.heap.objs.size) :
  Inv (bo X N' scope s H fp pins) [] (lr ix σ) H { s with heap:=pushCells (s.heap.push { cls:=.type "dict",data:=.dict #[] }) scope.names }:=by
 have hk4:∀b o,s.heap.get? b=some o->(pushCells (s.heap.push { cls:=.type "dict",data:=.dict #[] }) scope.names).get? b=some o:=fun b o e=>pushCells_keeps _ _ b o (Heap.get?_push_of_some _ e)
 have hclo:∀x c,(dI X.env scope.names []).lookup x=some c->X.env.cells.lookup x=some c:=fun x c e=>by
  rcases cB scope.names [] e with ⟨h1,h2⟩ | h1
  .obtain ⟨d,hd⟩:=I.ok.has x (ok.free _ h1 rfl).1
   rw [hd] at h2 ⊢
   rw [h2];rfl
  .cases h1
 have hcl:∀x c,X.env.cells.lookup x=some c->c < s.heap.objs.size:=fun x c e=>by
  obtain ⟨v,q⟩:=I.cell x c e
  exact q.lt
 have own:=cellsFrom_ok scope.names (s.heap.push { cls:=.type "dict",data:=.dict #[] }) (s.heap.objs.size + 1) [] ⟨fun _ _ hm=>(nomatch hm),List.Pairwise.nil⟩ (by rw [Heap.size_push];exact Nat.le_refl _)
 rw [Heap.size_push] at own
 have cases:∀x c,(cellsFrom (s.heap.objs.size + 1) scope.names (dI X.env scope.names [])).lookup x=some c ->
   ((pushCells (s.heap.push { cls:=.type "dict",data:=.dict #[] }) scope.names).IsCell c none/\s.heap.objs.size + 1<=c)\/X.env.cells.lookup x=some c:=fun x c e=>by
  rcases im _ _ _ e with h | h
  .exact .inl (own.empty x c h)
  .exact .inr (hclo x c h)
 have fs':∀b,b∈frs X.stack->b < s.heap.objs.size:=fun b hb=>by
  rcases List.mem_cons.mp (I.stkSub b hb) with z | z
  .rw [z];exact I.lt
  .by_cases q:b < s.heap.objs.size
   .exact q
   .exact absurd z (I.nofs (Nat.not_lt.mp q))
 have cix:(bo X N' scope s H fp pins).Ok:=by
  refine ⟨I.ok.mod,ok.kind,I.ok.glob,I.ok.blt,Nat.le_refl _,fun x y c h1 h2=>?_,fun x hx=>?_,fun x c hx e=>?_,I.ok.hd,I.ok.frames,.inl rfl,fun b hb=>⟨Nat.ne_of_lt (hfl b hb),fun x c e=>?_⟩,fun b o e=>I.bs b o e,Nat.le_trans I.ok.bsz I.sz,fun b o e hb=>?_,fun b hb=>?_,I.stack,I.stkFree⟩
  .rcases cases x c h1 with ⟨_,z⟩ | z
   .exact cA scope.names _ _ (fun w d e=>Nat.lt_succ_of_lt (hcl w d (hclo w d e))) h1 h2 z
   .rcases cases y c h2 with ⟨_,z2⟩ | z2
    .exact absurd (hcl x c z) (Nat.not_lt.mpr (Nat.le_of_succ_le z2))
    .exact I.ok.inj x y c z z2
  .have hx':scope.names.lookup x=some .cell\/scope.names.lookup x=some .free:=by
    rcases hx with z | z
    .exact gG (env:=X.env) z (.inl rfl)
    .exact gG (env:=X.env) z (.inr rfl)
   rcases hx' with z | z
   .exact Option.isSome_iff_exists.mp (PySem.W.cellsFrom_some scope.names _ _ (.inl z))
   .exact Option.isSome_iff_exists.mp (PySem.W.cellsFrom_some scope.names _ _ (.inr (dJ _ _ (.inl (mem_of_lookup z)))))
  .have hx':(x,NameKind.cell)∈scope.names:=of_decide_eq_true hx
   rcases cases x c e with ⟨_,z⟩ | z
   .exact Nat.le_of_succ_le z
   .rcases im _ _ _ e with h | h
    .exact Nat.le_of_succ_le (own.empty x c h).2
    .rcases cB scope.names [] h with ⟨h1,_⟩ | h1
     .exact absurd hx' (ok.free _ h1 rfl).2
     .cases h1
  .intro z
   rcases cases x c e with ⟨_,z2⟩ | z2
   .rw [z] at z2;exact absurd (hfl b hb) (Nat.not_lt.mpr (Nat.le_of_succ_le z2))
   .exact (hf b hb).2.2.2.2.1 x c z2 z
  .rcases (hf b hb).2.2.2.1 with z | z
   .exact I.ok.noex b o e z
   .exact absurd (Heap.lt_size (I.ok.bs b o e).1) (Nat.not_lt.mpr z)
  .intro z
   rcases List.mem_cons.mp (I.stkSub b z) with q | q
   .exact (hf b hb).2.1 q
   .exact (hf b hb).2.2.1 q
 refine ⟨cix,rfl,I.bare,Un.kept hk4,⟨fun _=>none,?_,fun i x v e1 e2 e3=>?_⟩,fun x c e=>?_,I.hok.fresh (Nat.le_refl _),fun x c e=>?_,fun p hp=>?_,I.hok.kept hk4,?_⟩
 .exact (Heap.Ns.new s.heap (.type "dict")).keeps (pushCells_keeps _ _)
 .have e2':∃j,ix[i]?=some (some j)/\σ[j]?=some (some v):=by
   unfold lr at e2
   rw [List.getElem?_map] at e2
   cases q:ix[i]? with
   | none=>rw [q] at e2;cases e2
   | some o =>
    rw [q] at e2
    cases o with
    | none=>cases (Option.some.inj e2)
    | some j =>
     refine ⟨j,rfl,?_⟩
     have e2'':(match σ[j]? with | some v=>v | none=>none)=some v:=Option.some.inj e2
     cases r:σ[j]? with
     | none=>rw [r] at e2'';cases e2''
     | some w=>rw [r] at e2'';exact congrArg some e2''
  obtain ⟨j,hj,hv⟩:=e2'
  obtain ⟨hN,hfr⟩:=ok.slot i x j e1 hj
  have hk:=(ok.free _ (mem_of_lookup hfr) rfl).1
  have hvis:Vis X.env.scope x:=by
   rcases hk with z | z
   .exact .inr (.inl z)
   .exact .inr (.inr z)
  obtain ⟨m,hn,hl⟩:=I.loc
  obtain ⟨u,ru,lk⟩:=hl j x v hN hv hvis
  refine ⟨u,ru,.inr ⟨?_,?_⟩⟩
  .exact jG (env:=X.env) hfr
  .rcases lk with ⟨z,_⟩ | ⟨_,c,hc,hcell⟩
   .rcases hk with q | q
    .rw [z] at q;cases q
    .rw [z] at q;cases q
   .refine ⟨c,?_,hcell.keeps hk4⟩
    show (cellsFrom (s.heap.objs.size + 1) scope.names (dI X.env scope.names [])).lookup x=some c
    rw [cw scope.names _ _ (ok.free _ (mem_of_lookup hfr) rfl).2]
    obtain ⟨d,hd⟩:=Option.isSome_iff_exists.mp (dJ (env:=X.env) scope.names [] (.inl (mem_of_lookup hfr)))
    rw [hd,<- hclo x d hd,hc]
 .rcases cases x c e with ⟨z,_⟩ | z
  .exact ⟨none,z⟩
  .obtain ⟨v,q⟩:=I.cell x c z
   exact ⟨v,q.keeps hk4⟩
 .rcases cases x c e with ⟨_,z⟩ | z
  .exact I.hok.fresh (Nat.le_of_succ_le z)
  .exact I.freeC x c z
 .have hp':p∈X.pn++pins:=by simpa [bo] using hp
  obtain ⟨q1,q2,q3,q4,q5⟩:=I.pin p hp'
  refine ⟨hk4 _ _ q1,q2,Nat.ne_of_lt (Heap.lt_size q1),fun z=>?_,q5⟩
  rcases List.mem_cons.mp (I.stkSub p.1 z) with q | q
  .exact q3 q
  .exact q4 q
 .unfold lr
  rw [List.length_map]
  exact ok.len.symm
end
section
variable {M:Model}{A:Around}{E:Value->Shared->Prop}{s:Shared}
theorem dz {scope:Scope}{globals:Addr}{cl:List (Str×Addr)}{qual:Str}{func:Option Addr}{code:Value}{env:Env}{Q:Env->Shared->Prop}
  (hQ:Q { scope:=scope,locals:=s.heap.objs.size,globals:=globals,cells:=cellsFrom (s.heap.objs.size + 1) scope.names cl,qual:=qual,func:=func,code:=env.code,frame:=env.frame,builtins:=env.builtins }
   { s with heap:=pushCells (s.heap.push { cls:=.type "dict",data:=.dict #[] }) scope.names }) :
  wpAny M A (newFunctionEnv scope globals cl [] qual func code (some env)) Q E s:=by
 simp only [newFunctionEnv,Option.isSome_some,if_true]
 refine wpAny_bind (wpAny_alloc ?_)
 refine wpAny_bind (wpAny_layCells _ (fun name kind cells=>by cases hkc:kind == NameKind.cell <;> simp [hkc]) _ _ _ _ ?_)
 rw [show ({ s with heap:=s.heap.push { cls:=.type "dict",data:=.dict #[] } }:Shared).heap.objs.size=s.heap.objs.size + 1 from Heap.size_push ..]
 simp only [List.forIn_nil]
 exact wpAny_bind (wpAny_pure (wpAny_pure hQ))
end
section
variable {prog:Program}{w:World}{A:Around}{R:Result->Shared->Prop}{s:Shared}
theorem io {elt target iter:Expr}{ifs:List Expr}{scope:Scope}{pos:Pos}{it acc:Value}{env:Env} (I:Nat->Shared->Prop)
  (turn:∀n s,I n s->wpAny (model prog w) A (pyNext it) (fun r s₁=>match r with
   | none=>R (.ok .next) s₁
   | some v=>wpAny (model prog w) A (letOwnedTupleGo target it v) (fun _ s₂=>wpAny (model prog w) A (assign target env v) (fun _ s₃ =>
     wpAny (model prog w) A (forIn ifs true fun c r=>if r=true then do let ok <- isTrue c env (eval c env);pure (ForInStep.yield ok) else pure (ForInStep.yield r)) (fun ok s₄ =>
      if ok=true then wpAny (model prog w) A (eval elt env) (fun x s₅ =>
       wpAny (model prog w) A (call (.builtin "list.append") [acc,x]) (fun _ s₆=>∃m,m < n/\I m s₆) (fun _ _=>False) s₅) (fun _ _=>False) s₄
      else ∃m,m < n/\I m s₄) (fun _ _=>False) s₃) (fun _ _=>False) s₂) (fun _ _=>False) s₁) (fun _ _=>False) s)
  (n:Nat) (h:I n s) :
  codeAny (model prog w) A (.compLoop (.ListComp elt [⟨target,iter,ifs,0⟩] scope pos) 0 it acc env) R s:=by
 refine codeAny_loop rfl I (fun n s hI=>?_) n h
 show wpAny _ A ((compTurn (.ListComp elt [⟨target,iter,ifs,0⟩] scope pos) 0 it acc env).onRaise (fun x=>do noteFrame x env;theTreesLotGoes x)) _ _ s
 refine wpAny_noted ?_
 rw [compTurn_list]
 refine wpAny_bind (wpAny_standAt (wpAny_bind (wpAny_mono (turn n s hI) (fun r s₁ h₁=>?_) fun _ _ h'=>h'.elim)))
 cases r with
 | none=>exact wpAny_pure h₁
 | some v =>
  refine wpAny_bind (wpAny_mono h₁ (fun _ s₂ h₂=>?_) fun _ _ h'=>h'.elim)
  refine wpAny_bind (wpAny_mono h₂ (fun _ s₃ h₃=>wpAny_bind (wpAny_mono h₃ (fun ok s₄ h₄=>?_) fun _ _ h'=>h'.elim)) fun _ _ h'=>h'.elim)
  cases ok with
  | false=>exact wpAny_pure ⟨rfl,h₄⟩
  | true =>
   exact wpAny_bind (wpAny_bind (wpAny_mono h₄ (fun x s₅ h₅=>wpAny_bind (wpAny_mono h₅ (fun _ s₆ h₆=>wpAny_pure (wpAny_pure ⟨rfl,h₆⟩)) fun _ _ h'=>h'.elim)) fun _ _ h'=>h'.elim))
end
def PIf (X:Cx) (ifs:List Expr) (t:TT):Prop :=
 ∀(pins:List (Addr×Obj)) (s:Shared) (σ:St) (H:Hp) (Q:Bool->Hp->Prop),Inv X pins σ H s->t σ H Q ->
  wpAny (model X.prog X.w) X.A (forIn ifs true fun c r=>if r=true then do let ok <- isTrue c X.env (eval c X.env);pure (ForInStep.yield ok) else pure (ForInStep.yield r)) (TP X pins σ Q) X.xe s
def sO:TT:=fun _ H Q=>Q true H
section
variable {X:Cx}
theorem lu:PIf X [] sO:=fun _ _ _ H _ I h=>wpAny_tests_nil ⟨H,I,h⟩
theorem i6 {c:Expr}{t:TT} (h:PT X c t):PIf X [c] t:=fun pins s σ H Q I q=>wpAny_tests_one (h pins s σ H Q I q)
end
def mB (ix:List (Option Nat)) (wi:TI) (g:TG) (tts:TT) (te:TE):TE:=fun σ H Q=>wi σ H fun J H1=>∀D,H1 D=none->∃W:Nat->Nat->St->Hp->Prop,(∃m,W 0 m (lr ix σ) (upd H1 D (.lst [])))/\∀i m τ H2,W i m τ H2 ->
 (J.stop i H2/\Q (.ref D) H2)\/(J.go i H2/\∀x H3,J.yld i H2 x H3->g x τ H3 fun τ2 H4=>tts τ2 H4 fun ok H5=>if ok=true then te τ2 H5 fun v H6=>∃ys,H6 D=some (.lst ys)/\ys.length < sizeLine/\∃m',m' < m/\W (i + 1) m' τ2 (upd H6 D (.lst (ys++[v])))
  else ∃m',m' < m/\W (i + 1) m' τ2 H5)
section
variable {X:Cx}{tg iter elt:Expr}{ifs:List Expr}{scope:Scope}{N':List Str}{ix:List (Option Nat)}{wi:TI}{g:TG}{tts:TT}{te:TE}
theorem ip {use:Option (Value->Sem Unit)}{Qf:Value->Shared->Prop}{pos p':Pos}{pins:List (Addr×Obj)}{σ:St}{H:Hp}{s:Shared}{Q:VK} (hc:X.calm=true) (ok:lp X.env X.N scope N' ix) (hi:PI X tg iter wi)
  (blk:∀s H fp pn,PG (bo X N' scope s H fp pn) tg g/\PIf (bo X N' scope s H fp pn) ifs tts/\PE (bo X N' scope s H fp pn) elt te)
  (hs:∀x,foldedSetIterable iter X.env x=pure x) (I:Inv X pins σ H s) (hw:mB ix wi g tts te σ H Q)
  (fin:∀D C H' s',Inv X pins σ H' s'->Q (.ref D) H'->(∃m,s'.heap.Ns C m)->H' C=none->X.s₀.heap.objs.size<=C->C≠X.env.locals->(∀x c,X.env.cells.lookup x=some c->c≠C)->C∉X.fs->(∀p∈X.pn++pins,p.1≠C) ->
   compPost (model X.prog X.w) X.A X.xe use Qf (.ref D) C (.ok .next) s') :
  wpAny (model X.prog X.w) X.A (comprehension (.ListComp elt [⟨tg,iter,ifs,0⟩] scope pos) scope X.env p' (newList []) false (eval iter X.env) use) Qf X.xe s:=by
 have hclos:closureFor scope X.env=pure (dI X.env scope.names []):=eQ fun y hy e=>I.ok.has y.1 (ok.free y hy e).1
 refine wpAny_comprehension_free (use:=use) rfl hs hclos ok.kind ok.loc (thn (hi pins s σ H _ I hw) fun v s1 h1=>thn h1 fun itv s2 h2=>?_)
 obtain ⟨it,fp,tn,J,H2,e,I2,T,st2,f2,hW⟩:=h2
 subst e
 obtain ⟨W,⟨m0,w0⟩,turn⟩:=hW s2.heap.objs.size (I2.hok.fresh (Nat.le_refl _))
 have hfl:∀b∈fp,b < s2.heap.objs.size:=fun b hb=>by
  obtain ⟨o,e,_⟩:=T.obj 0 _ st2 b hb
  exact Heap.lt_size e
 refine wpAny_newObj_type ?_
 have I3:Inv X pins σ (upd H2 s2.heap.objs.size (.lst [])) { s2 with heap:=s2.heap.push { cls:=.type "list",dict:=none,data:=.seq ([]:List Value).toArray } } :=
  I2.laid (t':=s2.toks) (fun b o e=>Heap.get?_push_of_some _ e) (Nat.le_refl _) (show br X.prog X.w _ _ _ (.lst []) from ⟨Nat.zero_le _,[],0,.nil,Heap.get?_push_size _ rfl⟩)
 have st3:tn 0 (s2.heap.push { cls:=.type "list",dict:=none,data:=.seq ([]:List Value).toArray }):=T.keep 0 _ _ st2 fun b _ o e=>Heap.get?_push_of_some _ e
 have f3:∀b∈fp,j1 X pins (upd H2 s2.heap.objs.size (.lst [])) b:=fun b hb=>⟨by rw [ao (Nat.ne_of_lt (hfl b hb))];exact (f2 b hb).1,(f2 b hb).2⟩
 have hfl3:∀b∈fp,b < (s2.heap.push { cls:=.type "list",dict:=none,data:=.seq ([]:List Value).toArray }).objs.size:=fun b hb=>by rw [Heap.size_push];exact Nat.lt_succ_of_lt (hfl b hb)
 generalize hs3:({ s2 with heap:=s2.heap.push { cls:=.type "list",dict:=none,data:=.seq ([]:List Value).toArray } }:Shared)=s3 at I3 ⊢
 have eh3:s3.heap=s2.heap.push { cls:=.type "list",dict:=none,data:=.seq ([]:List Value).toArray }:=by rw [<- hs3]
 rw [<- eh3] at st3 hfl3
 generalize hH3:upd H2 s2.heap.objs.size (.lst [])=H3 at I3 f3 w0
 generalize hD:s2.heap.objs.size=D at *
 refine dz ?_
 have I4:=my ok I3 f3 hfl3
 obtain ⟨hg,ht,he⟩:=blk s3 H3 fp pins
 have st4:tn 0 (pushCells (s3.heap.push { cls:=.type "dict",data:=.dict #[] }) scope.names):=T.keep 0 _ _ st3 fun b _ o e=>pushCells_keeps _ _ b o (Heap.get?_push_of_some _ e)
 have stat:∀{H':Hp},(∀b∈fp,H' b=none)->∀b∈fp,j1 (bo X N' scope s3 H3 fp pins) [] H' b:=fun hn b hb=>by
  refine ⟨hn b hb,Nat.ne_of_lt (hfl3 b hb),I4.ok.exfs b hb,.inl hb,(I4.ok.exf b hb).2,fun p hp=>?_⟩
  have hp':p∈X.pn++pins:=by simpa [bo] using hp
  exact (f2 b hb).2.2.2.2.2 p hp'
 have loop:∀(s4:Shared),Inv (bo X N' scope s3 H3 fp pins) [] (lr ix σ) H3 s4->tn 0 s4.heap ->
   codeAny (model X.prog X.w) X.A (.compLoop (.ListComp elt [⟨tg,iter,ifs,0⟩] scope pos) 0 (.ref it) (.ref D) (ln scope s3.heap.objs.size X.env)) (compPost (model X.prog X.w) X.A X.xe use Qf (.ref D) s3.heap.objs.size) s4:=by
  intro s4 I4 st4
  refine io (fun n s'=>∃i τ H',Inv (bo X N' scope s3 H3 fp pins) [] τ H' s'/\tn i s'.heap/\(∀b∈fp,H' b=none)/\W i n τ H') ?_ m0 ⟨0,_,H3,I4,st4,fun b hb=>(f3 b hb).1,w0⟩
  rintro n s5 ⟨i,τ,H5,I5,st5,fr5,w5⟩
  rcases turn i n τ H5 w5 with ⟨stop,qn⟩ | ⟨go,step⟩
  .refine thn (T.done (bo X N' scope s3 H3 fp pins) rfl rfl rfl hc i [] s5 τ H5 (fun _ _=>False) I5 (stat fr5) st5 stop) fun r s6 ⟨hr,I6⟩=>?_
   subst hr
   have I7:Inv X pins σ H5 s6:=I3.call' (ch:=fp) I6.os I6.base I6.hok I6.bare fun b hb=>⟨(f2 b hb).2.2.2.1,(f2 b hb).2.1,(f2 b hb).2.2.2.2.1,(f2 b hb).2.2.2.2.2⟩
   obtain ⟨m6,hn6,_⟩:=I6.loc
   refine fin D s3.heap.objs.size H5 s6 I7 qn ⟨m6,hn6⟩ I6.free ?_ ?_ ?_ ?_ ?_
   .exact I3.sz
   .exact Nat.ne_of_gt I3.lt
   .intro x c e z
    obtain ⟨v,q⟩:=I3.cell x c e
    have:=q.lt
    rw [z] at this
    exact Nat.lt_irrefl _ this
   .exact I3.nofs (Nat.le_refl _)
   .intro p hp z
    have:=Heap.lt_size (I3.pin p hp).1
    rw [z] at this
    exact Nat.lt_irrefl _ this
  .refine thn (T.item (bo X N' scope s3 H3 fp pins) rfl rfl rfl hc i [] s5 τ H5 (fun _ _=>False) I5 (stat fr5) st5 go) fun r s6 ⟨u,hr,h6⟩=>?_
   subst hr
   refine thn h6 fun _ s7 ⟨x,H7,I7,r7,y7,st7,fr7⟩=>?_
   have I7':=I7.pinned (stat fr7) (T.obj _ _ st7)
   have again:∀{s8:Shared}{τ8:St}{H8:Hp},Inv (bo X N' scope s3 H3 fp pins) ([]++hX fp s7.heap) τ8 H8 s8->(∃m',m' < n/\W (i + 1) m' τ8 H8) ->
     ∃m,m < n/\∃i τ H',Inv (bo X N' scope s3 H3 fp pins) [] τ H' s8/\tn i s8.heap/\(∀b∈fp,H' b=none)/\W i m τ H':=fun {s8 τ8 H8} I8 ⟨m',hm,w8⟩=>by
    refine ⟨m',hm,i + 1,τ8,H8,I8.unpinned,T.keep _ _ _ st7 fun b hb o e=>(I8.pin (b,o) (List.mem_append_right _ (List.mem_append_right _ (c9 hb e)))).1,fun b hb=>?_,w8⟩
    obtain ⟨o,e,d⟩:=T.obj _ _ st7 b hb
    exact (I8.pin (b,o) (List.mem_append_right _ (List.mem_append_right _ (c9 hb e)))).2.1
   refine thn (hg _ s7 τ H7 x u _ I7' r7 (step x H7 y7)) fun _ s8 ⟨τ8,H8,I8,q8⟩=>?_
   refine thn (ht _ s8 τ8 H8 _ I8 q8) fun okb s9 ⟨H9,I9,q9⟩=>?_
   cases okb with
   | false =>
    rw [if_neg Bool.false_ne_true] at q9
    rw [if_neg Bool.false_ne_true]
    exact again I9 q9
   | true =>
    rw [if_pos rfl] at q9
    rw [if_pos rfl]
    refine thn (he _ s9 τ8 H9 _ I9 q9) fun v10 s10 ⟨x10,H10,I10,r10,q10⟩=>?_
    obtain ⟨ys,hD10,hz,m',hm,w10⟩:=q10
    refine thn (cT (X:=bo X N' scope s3 H3 fp pins) _ s10 τ8 H10 (.ref D) [x10] (.ref D) [v10] (fun _ H'=>∃m',m' < n/\W (i + 1) m' τ8 H') I10 rfl (.cons r10 .nil) ⟨D,ys,x10,rfl,rfl,hD10,hz,m',hm,w10⟩) fun _ s11 ⟨_,H11,I11,_,q11⟩=>?_
    exact again I11 q11
 exact codeAny_compStart_list (loop _ I4 st4) (T.self X.A 0 _ _ _ st4 (loop _ I4 st4))
theorem i7 {pos:Pos} (N':List Str) (ix:List (Option Nat)) (hc:X.calm=true) (hi:PI X tg iter wi)
  (blk:∀s H fp pn,PG (bo X N' scope s H fp pn) tg g/\PIf (bo X N' scope s H fp pn) ifs tts/\PE (bo X N' scope s H fp pn) elt te)
  (chk:gF X.env.scope X.N scope N' ix=true) (hs:∀x,foldedSetIterable iter X.env x=pure x:=by intro _;rfl) :
  PE X (.ListComp elt [⟨tg,iter,ifs,0⟩] scope pos) (mB ix wi g tts te):=by
 intro pins s σ H Q I hw
 rw [eval_ListComp]
 refine ip (use:=none) hc (il chk) hi blk hs I hw fun D C H' s' I' q hm hn h1 h2 h3 h4 h5=>?_
 obtain ⟨m,hm⟩:=hm
 refine ⟨m,hm,fun h' sb=>⟨.ref D,H',?_,rfl,q⟩⟩
 exact I'.turned (t':=s'.toks) (fun b o hb e=>(sb.2 b hb).trans e) hn h2 (.inr h1) h3 h5
end
section
variable {X:Cx}{tg iter elt:Expr}{ifs:List Expr}{scope:Scope}{N':List Str}{ix:List (Option Nat)}{wi:TI}{g:TG}{tts:TT}{te:TE}
theorem lv {i:Nat}{x:Str}{pos pos' cpos:Pos} (N':List Str) (ix:List (Option Nat)) (hN:X.N.Nodup) (hi:X.N[i]?=some x) (hx:Loc X.env.scope x) (hc:X.calm=true) (hit:PI X tg iter wi)
  (blk:∀s H fp pn,PG (bo X N' scope s H fp pn) tg g/\PIf (bo X N' scope s H fp pn) ifs tts/\PE (bo X N' scope s H fp pn) elt te)
  (chk:gF X.env.scope X.N scope N' ix=true) (hsw:swapsWith (.ListComp elt [⟨tg,iter,ifs,0⟩] scope cpos) (some (.Name x pos')) pos.line X.env=pure true:=by rfl)
  (hs:∀x,foldedSetIterable iter X.env x=pure x:=by intro _;rfl) (hf:X.fn x=true\/X.env.scope.names.lookup x=some .local:=by first | exact .inl rfl | exact .inr rfl | assumption) :
  PS X (.Assign [.Name x pos'] (.ListComp elt [⟨tg,iter,ifs,0⟩] scope cpos) pos) (p8 (mB ix wi g tts te) (fL i)):=by
 intro pins s σ H D I hw
 rw [exec_Assign_Name_used _ _ _ _ hsw]
 refine wpAny_bind (wpAny_standAt (wpAny_bind ?_))
 show wpAny _ X.A (do let _ <- comprehension (.ListComp elt [⟨tg,iter,ifs,0⟩] scope cpos) scope X.env _ (newList []) false (eval iter X.env) (some (assign (.Name x pos') X.env))) _ _ s
 refine wpAny_bind (thn (ip (use:=some (assign (.Name x pos') X.env)) (Qf:=fun _ s'=>SP X pins D .next s') hc (il chk) hit blk hs I hw fun D' C H' s' I' q hm hn h1 h2 h3 h4 h5=>?_) fun _ s' q=>wpAny_pure (wpAny_pure q))
 obtain ⟨m,oC,es,ep,hoC,hdC,hrC⟩:=hm
 have Ip:Inv X (pins++[(C,oC)]) σ H' s':=I'.pins_of fun p hp=>(List.mem_append.mp hp).elim (fun z=>I'.pin p (List.mem_append_right _ z)) fun z=>by
  have e:p=(C,oC):=by simpa using z
  subst e
  exact ⟨hoC,hn,h2,h4,fun v z=>by rw [hdC] at z;cases z⟩
 refine wpAny_assign_Name (gx (v:=.ref D') Ip hN hi hx rfl (fun s2 I2=>?_) hf)
 have hC2:s2.heap.get? C=some oC:=(I2.pin (C,oC) (by simp)).1
 have I2':Inv X pins (σ.set i (some (.ref D'))) H' s2:=I2.pins_of fun p hp=>I2.pin p (List.mem_append_right _ (List.mem_append_left _ hp))
 refine ⟨m,⟨oC,es,ep,hC2,hdC,hrC⟩,fun h' sb=>⟨_,H',?_,q⟩⟩
 exact I2'.turned (t':=s2.toks) (fun b o hb e=>(sb.2 b hb).trans e) hn h2 (.inr h1) h3 h5
end
def nH (p:Addr) (a b c:Int):HO:=.ext fun h=>∃t u v,IsRange h p a b c t u v
def i8 (a c:Int) (n:Nat):List V:=(List.range n).map fun (k:Nat)=>V.int (a + k * c)
theorem kc {a c:Int}{n:Nat}{acc:Array Value} (h:ItemsOf (fun i v=>∃t,v=.int (a + i * c) t) acc n):aW (i8 a c n) acc.toList:=by
 obtain ⟨hn,hi⟩:=h
 have key:∀(m:Nat) (us:List Value) (f:Nat->Int),us.length=m->(∀i u,us[i]?=some u->∃t,u=Value.int (f i) t)->aW ((List.range m).map fun k=>V.int (f k)) us:=by
  intro m
  induction m with
  | zero=>intro us f hl _;rw [List.length_eq_zero_iff] at hl;subst hl;exact .nil
  | succ m ih =>
   intro us f hl hu
   cases us with
   | nil=>simp at hl
   | cons u r =>
    rw [List.range_succ_eq_map,List.map_cons,List.map_map]
    refine .cons (hu 0 u rfl) (ih r (fun k=>f (k + 1)) (by simpa using hl) fun i v e=>hu (i + 1) v (by simpa using e))
 refine key n acc.toList (fun k=>a + k * c) (by simpa using hn) fun i u e=>?_
 exact hi i u (by simpa using e)
theorem lw (a c:Int) (n:Nat):(i8 a c n).length=n:=by simp [i8]
section
variable {X:Cx}
theorem mC {pins:List (Addr×Obj)}{σ:St}{H:Hp}{s:Shared}{a b c:Int}{t u v:Tok}{tk:Nat} (I:Inv X pins σ H s) :
  Inv X pins σ (upd H s.heap.objs.size (nH s.heap.objs.size a b c)) { s with heap:=s.heap.push { cls:=.type "range",data:=.fields #[.int a t,.int b u,.int c v] },toks:=tk }:=by
 refine I.laid (fun b o e=>Heap.get?_push_of_some _ e) (Nat.le_refl _) ⟨⟨t,u,v,IsRange.new ..⟩,⟨_,Heap.get?_push_size _ rfl⟩,fun h1 h2 ⟨t,u,v,z⟩ k=>⟨t,u,v,k _ z⟩⟩
theorem lx {a b:Expr}{ta:TA}{p pos:Pos} (hg:Gl X "range") (hm:X.mg "range"=none) (ha:PA X [a,b] ta) (hs:starEach [a,b] X.env=[(false,eval a X.env),(false,eval b X.env)]:=by rfl) (hs2:starEach [b] X.env=[(false,eval b X.env)]:=by rfl) :
  PE X (.Call (.Name "range" p) [a,b] [] pos) (fun σ H Q=>ta σ H fun vs H1=>∃i j:Int,vs=[.int i,.int j]/\∀p,H1 p=none->Q (.ref p) (upd H1 p (nH p i j 1))):=by
 intro pins s σ H Q I h
 refine Call_ (dG I hg hm boot_range (PyProof.Rows.callWith_type1 (thn (ha pos pins s σ H _ I h) fun us s1 ⟨vs,H1,I1,r1,q1⟩=>?_) (by rw [hs,hs2]) (by rw [hs2];rfl)))
 obtain ⟨i,j,e,q⟩:=q1
 subst e
 cases r1 with
 | cons r rr =>
  cases rr with
  | cons r' rr =>
   cases rr
   obtain ⟨t,rfl⟩:=r
   obtain ⟨t',rfl⟩:=r'
   exact call_range_2 ⟨.ref s1.heap.objs.size,_,mC I1,rfl,q _ (I1.hok.fresh (Nat.le_refl _))⟩
def tM (K:PySem.W.Frag) (mk:List V->HO):List V->Hp->VK->Prop:=fun xs H Q=>∃p a b c n,xs=[.ref p]/\H p=some (nH p a b c)/\Builtin.Range.small a b c=true/\Builtin.Range.rangeSize a b c=((n:Nat):Int)/\n<=1000000/\∀l,H l=none->Q (.ref l) (upd H l (mk (i8 a c n)))
theorem kd (hc:X.calm=true):bw X (.type "list") (tM X.K .lst):=by
 intro pins s σ H xs us Q I r h
 obtain ⟨p,a,b,c,n,rfl,hp,hsm,hsz,hn,q⟩:=h
 obtain ⟨u,rfl,rx⟩:=gB r
 cases rx
 obtain ⟨⟨t,u,v,hr⟩,_,_⟩:=(show br X.prog X.w H s.heap p (nH p a b c) from I.hok p _ hp)
 have hs:sizeLine=16777216:=sizeLine_eq
 refine call_list_range (I.ok.hd hc) hr hsm hsz (by omega) fun h' tk acc c' hk e hacc=>?_
 exact ⟨.ref s.heap.objs.size,_,I.laid (t':=tk) hk (Nat.le_refl _) (show br X.prog X.w _ h' _ (.lst (i8 a c n)) from ⟨by rw [lw];omega,acc.toList,c',kc hacc,by simpa using e⟩),rfl,q _ (I.hok.fresh (Nat.le_refl _))⟩
end
theorem ly:typeLookup (.type "list_reverseiterator") "__len__"=pure none:=by rw [typeLookup_type,builtinLookup_eq_fast];kernel_rfl
theorem mD:typeLookup (.type "list_reverseiterator") "__length_hint__"=pure (some (.builtin "list_reverseiterator.__length_hint__")):=by rw [typeLookup_type,builtinLookup_eq_fast];kernel_rfl
section
variable {prog:Program}{w:World}{A:Around}{E:Value->Shared->Prop}{s:Shared}{I l:Addr}{items:Array Value}
theorem mE {Q:Bool->Shared->Prop}{i:Int} (hit:s.heap.IsRevIter I l i) (h:Q false s):wpAny (model prog w) A (Builtin.List.listLengthHint (.ref I)) Q E s:=by
 unfold Builtin.List.listLengthHint
 refine wpAny_bind (wpAny_specialOf hit.typeIs ly ?_)
 show wpAny _ A (specialOf (Value.ref I) (Str.ofString "__length_hint__") >>= _) _ _ _
 refine wpAny_bind (wpAny_specialOf hit.typeIs mD ?_)
 (generalize hid:("list_reverseiterator.__length_hint__":String)=id0;(fail_if_success (clear hid id0));wp_delta;rw [show splitId id0=some ("list_reverseiterator","__length_hint__") from by subst hid;decide +kernel];subst hid)
 refine wpAny_bind (wpAny_isInstance (b:=true) hit.typeIs (by rw [isSubtype_type];kernel_rfl) ?_)
 exact wpAny_pure h
theorem ke {R:Result->Shared->Prop} (hh:A.handled=none) (hit:s.heap.IsRevIter I l ((items.size:Int) - 1)) (hl:s.heap.IsList l items) (hlI:l≠I) (hsz:items.size<=sizeLine) (Sx:Addr) (res:Value) (c₀:Nat)
  (hS:s.heap.get? Sx=some { cls:=.type "list",data:=.seq #[] c₀ }) (hSI:Sx≠I) (hSl:Sx≠l)
  (hR:∀h' tk acc' c',(∀b o,b≠Sx->b≠I->s.heap.get? b=some o->h'.get? b=some o)->h'.get? Sx=some { cls:=.type "list",dict:=none,data:=.seq acc' c',slots:=#[] } ->
   ItemsOf (fun i v=>items[items.size - 1 - i]?=some v) acc' items.size->R (.ok (.ret res)) { s with heap:=h',toks:=tk }) :
  wpAny (model prog w) A.in1 (Builtin.List.listExtendWith (.ref Sx) (.ref I) res)
   (fun fin s'=>match fin with | .done f=>R (.ok f) s' | .again c'=>c'.quiet=true/\codeAny (model prog w) A c' R s') (fun e s'=>R (.error e) s') s:=by
 have hSf:Sx∉[I,l]:=fun hm=>by
  rcases List.mem_cons.mp hm with e | e
  .exact hSI e
  .exact hSl (List.mem_singleton.mp e)
 have W:=(Walks.listRev (prog:=prog) (w:=w) (A:=A.in1) hh I l hlI items).toS
 unfold Builtin.List.listExtendWith
 refine wpAny_bind (wpAny_typeOf (T:="list_reverseiterator") hit.typeIs ?_)
 have h1:Builtin.List.listSameRef (.ref Sx) (.ref I)=false:=by simp [Builtin.List.listSameRef,hSI]
 have h2:(Value.type "list_reverseiterator" == Value.type "list")=false:=by decide
 have h3:(Value.type "list_reverseiterator" == Value.type "tuple")=false:=by decide
 simp only [h1,h2,h3,Bool.or_false,Bool.false_eq_true,if_false]
 refine wpAny_bind (wpAny_pyIter_revIter hit ?_)
 refine wpAny_bind (wpAny_holding (mE hit ?_))
 refine wpAny_ite_split (fun hab=>absurd hab (by decide)) (fun _=>?_)
 refine wpAny_pure ⟨plainId_quiet F.plain_extend_loop _,codeAny_extend_loopS W hsz Sx hSf res items.size 0 _ #[] c₀ rfl (Nat.zero_le _) ⟨Nat.zero_le _,by simpa using hit,hl⟩ hS (ItemsOf.nil _) fun s' acc' c' hm hS' hacc=>?_⟩
 rw [Moved.eq_with hm]
 refine hR s'.heap s'.toks acc' c' (fun b o hb hbI e=>hm.heap b o (fun hmem=>?_) e) hS' hacc
 rcases List.mem_cons.mp hmem with e' | hmem
 .exact hb e'
 .exact hbI (List.mem_singleton.mp hmem)
theorem gH {R:Result->Shared->Prop} (hh:A.handled=none) (hit:s.heap.IsRevIter I l ((items.size:Int) - 1)) (hl:s.heap.IsList l items) (hlI:l≠I) (hsz:items.size<=sizeLine) (Sx:Addr)
  (hS:s.heap.get? Sx=some { cls:=.type "list",data:=.seq #[] }) (hSI:Sx≠I) (hSl:Sx≠l)
  (hR:∀h' tk acc' c',(∀b o,b≠Sx->b≠I->s.heap.get? b=some o->h'.get? b=some o)->h'.get? Sx=some { cls:=.type "list",dict:=none,data:=.seq acc' c',slots:=#[] } ->
   ItemsOf (fun i v=>items[items.size - 1 - i]?=some v) acc' items.size->R (.ok (.ret .none)) { s with heap:=h',toks:=tk }) :
  wpAny (model prog w) A.in1 (Builtin.«list.__init__» ⟨[.ref Sx,.ref I],[]⟩)
   (fun fin s'=>match fin with | .done f=>R (.ok f) s' | .again c'=>c'.quiet=true/\codeAny (model prog w) A c' R s') (fun e s'=>R (.error e) s') s:=by
 show wpAny _ _ (do let old <- Builtin.List.listItems (.ref Sx);Builtin.List.listUpdate (.ref Sx) (fun _=>#[]);letGo old.toList.reverse;Builtin.List.listExtendWith (.ref Sx) (.ref I) .none) _ _ s
 refine wpAny_bind ?_
 unfold Builtin.List.listItems
 refine wpAny_bind (wpAny_seqItems hS rfl (wpAny_pure ?_))
 show wpAny _ _ (updateSeq Sx (fun _=>#[]) >>= fun _=>letGo (#[]:Array Value).toList.reverse >>= fun _=>Builtin.List.listExtendWith (.ref Sx) (.ref I) .none) _ _ s
 refine wpAny_bind (wpAny_updateSeq hS rfl ?_)
 have hS₂:=Heap.get?_update_self (Obj.mapSeq (fun _=>(#[]:Array Value))) hS rfl
 have oth:∀b o,b≠Sx->s.heap.get? b=some o->(s.heap.update Sx (Obj.mapSeq (fun _=>(#[]:Array Value)))).get? b=some o :=
  fun b o hb e=>(Heap.get?_update_other _ _ (Ne.symm hb)).trans e
 refine wpAny_bind (wpAny_letGo ?_)
 refine ke hh (hit.at fun o e=>oth I o (Ne.symm hSI) e) (hl.at fun o e=>oth l o (Ne.symm hSl) e) hlI hsz Sx .none _ hS₂ hSI hSl fun h' tk acc' c' hk hS' hacc=>?_
 exact hR h' tk acc' c' (fun b o hb hbI e=>hk b o hb hbI (oth b o hb e)) hS' hacc
theorem gI {Q:Value->Shared->Prop} (hh:A.handled=none) (hit:s.heap.IsRevIter I l ((items.size:Int) - 1)) (hl:s.heap.IsList l items) (hlI:l≠I) (hsz:items.size<=sizeLine)
  (hQ:∀h' tk acc' c',(∀b o,b≠I->s.heap.get? b=some o->h'.get? b=some o) ->
   h'.get? s.heap.objs.size=some { cls:=.type "list",dict:=none,data:=.seq acc' c',slots:=#[] }->ItemsOf (fun i v=>items[items.size - 1 - i]?=some v) acc' items.size->Q (.ref s.heap.objs.size) { s with heap:=h',toks:=tk }) :
  wpAny (model prog w) A (call (.type "list") [.ref I]) Q E s:=by
 refine callType_codes (Q₁:=fun obj s₁=>obj=.ref s.heap.objs.size/\s₁={ s with heap:=s.heap.push { cls:=.type "list",data:=.seq #[] } }) F.called_list (F.typeCall_list_1 _) F.entry_list_init
  (code_list_new _ ⟨rfl,rfl⟩) fun obj s₁ h₁=>?_
 obtain ⟨rfl,rfl⟩:=h₁
 have hS:(s.heap.push { cls:=.type "list",data:=.seq #[] }).get? s.heap.objs.size=some { cls:=.type "list",data:=.seq #[] }:=Heap.get?_push_size _ rfl
 have hSI:s.heap.objs.size≠I:=by
  obtain ⟨o,ho,_⟩:=hit
  exact Nat.ne_of_gt (Heap.lt_size ho)
 have hSl:s.heap.objs.size≠l:=by
  obtain ⟨o,ho,_⟩:=hl
  exact Nat.ne_of_gt (Heap.lt_size ho)
 refine ⟨⟨_,hS,rfl⟩,F.args_list_init_2 _ _,gH (A:=A.in1) hh (hit.at fun o e=>Heap.get?_push_of_some _ e) (hl.push _) hlI hsz _ hS hSI hSl fun h' tk acc' c' hk hS' hacc=>?_⟩
 exact ⟨rfl,hQ h' tk acc' c' (fun b o hb e=>hk b o (Nat.ne_of_lt (Heap.lt_size e)) hb (Heap.get?_push_of_some _ e)) hS' hacc⟩
end
theorem mF {xs:List V}{its:List Value} (r:aW xs its) {acc:Array Value} (h:ItemsOf (fun i v=>its.toArray[its.toArray.size - 1 - i]?=some v) acc its.toArray.size):aW xs.reverse acc.toList:=by
 have e:acc.toList=its.reverse:=by
  obtain ⟨hn,hi⟩:=h
  apply List.ext_getElem?
  intro i
  by_cases hil:i < its.length
  .have hia:i < acc.size:=by rw [hn];simpa using hil
   have:=hi i acc[i] (by simp)
   rw [List.getElem?_reverse hil]
   have e1:acc.toList[i]?=some acc[i]:=by simp
   rw [e1,<- this]
   simp
  .have hna:acc.toList.length=its.length:=by simpa using hn
   rw [List.getElem?_eq_none (by omega),List.getElem?_eq_none (by rw [List.length_reverse];omega)]
 rw [e]
 exact r.reverse
section
variable {X:Cx}{e:Expr}{te:TE}{p p1 p2 pos:Pos}
theorem kf (hc:X.calm=true) (he:PE X e te) (hg1:Gl X "list") (hm1:X.mg "list"=none) (hg2:Gl X "reversed") (hm2:X.mg "reversed"=none)
  (hs:starEach [.Call (.Name "reversed" p1) [e] [] p2] X.env=[(false,eval (.Call (.Name "reversed" p1) [e] [] p2) X.env)]:=by rfl) (hs2:starEach [e] X.env=[(false,eval e X.env)]:=by rfl) :
  PE X (.Call (.Name "list" p) [.Call (.Name "reversed" p1) [e] [] p2] [] pos) (fun σ H Q=>te σ H fun x H1=>∃a xs,x=.ref a/\SqL X.K H1 a xs/\∀l,H1 l=none->Q (.ref l) (upd H1 l (.lst xs.reverse))):=by
 intro pins s σ H Q I h
 refine Call_ (dG I hg1 hm1 boot_list (PyProof.Rows.callWith_type1 ?_ hs rfl))
 rw [hs]
 show wpAny _ _ (spliced ((false,eval (.Call (.Name "reversed" p1) [e] [] p2) X.env)::backTo pos [])) _ _ s
 refine Calls.spliced_cons ?_
 refine Call_ (dG I hg2 hm2 boot_reversed (PyProof.Rows.callWith_type1 ?_ hs2 rfl))
 rw [hs2]
 show wpAny _ _ (spliced ((false,eval e X.env)::backTo p2 [])) _ _ s
 refine Calls.spliced_cons (thn (he pins s σ H _ I h) fun u s1 ⟨x,H1,I1,r1,q1⟩=>Calls.spliced_nil ?_)
 obtain ⟨a,xs,rfl,hS,q⟩:=q1
 cases r1
 obtain ⟨its,rv,pl,hz⟩:=I1.list hS
 have hlen:=rv.length
 refine call_reversed_list pl.isList ?_
 refine Calls.spliced_nil ?_
 have hal:a < s1.heap.objs.size:=by
  obtain ⟨o,ho,_⟩:=pl.isList
  exact Heap.lt_size ho
 have I2:Inv X pins σ H1 { s1 with heap:=s1.heap.push (revObj a ((its.toArray.size:Int) - 1)) }:=I1.kept (t':=s1.toks) fun b o e=>Heap.get?_push_of_some _ e
 refine gI (I1.ok.hd hc) (I:=s1.heap.objs.size) (l:=a) (items:=its.toArray) ⟨_,Heap.get?_push_size _ rfl,rfl,rfl⟩ (pl.isList.push _) (Nat.ne_of_lt hal) (by rw [List.size_toArray];omega) fun h' tk acc' c' hk eL hacc=>?_
 have hfI:=I1.fpOk (H':=H1) (Nat.le_refl s1.heap.objs.size) (I1.hok.fresh (Nat.le_refl _))
 obtain ⟨f0,f1,f2,f3,f4,f5⟩:=hfI
 have hLn:H1 (s1.heap.push (revObj a ((its.toArray.size:Int) - 1))).objs.size=none:=I2.hok.fresh (Nat.le_refl _)
 have hLlt:∀b o,(s1.heap.push (revObj a ((its.toArray.size:Int) - 1))).get? b=some o->b≠(s1.heap.push (revObj a ((its.toArray.size:Int) - 1))).objs.size:=fun b o e=>Nat.ne_of_lt (Heap.lt_size e)
 have nit:∀b u,H1 b=some u->b≠s1.heap.objs.size:=fun b u e z=>by rw [z,f0] at e;cases e
 have neL:∀b u,H1 b=some u->b≠(s1.heap.push (revObj a ((its.toArray.size:Int) - 1))).objs.size:=fun b u e z=>by rw [z,hLn] at e;cases e
 have hokT:HOk X.prog X.w H1 h':=fun b u e=>by
  refine (I2.hok b u e).stay (fun c v hc q=>hk c v ?_ q) (fun _ q=>q) fun _ _ q=>q
  rcases hc with z | z
  .rw [z];exact nit b u e
  .exact nit c _ z
 refine ⟨.ref _,upd H1 (s1.heap.push (revObj a ((its.toArray.size:Int) - 1))).objs.size (.lst xs.reverse),?_,rfl,q _ hLn⟩
 refine I2.step (g':=s1.gens) (d':=s1.drawn) (t':=tk) (ch:=[s1.heap.objs.size]) (fun b hb=>?_) (fun b o _ _ hc e _=>hk b o (fun z=>hc (by simp [z])) e) (fun b o _ _ hc e _=>⟨o.slots,hk b o (fun z=>hc (by simp [z])) e⟩)
  (fun b o _ e n=>by rw [ao (hLlt b o e)];exact n) (fun b o hc e=>⟨o,hk b o (fun z=>hc (by simp [z])) e⟩) (fun b ys e=>by rw [ao (neL b _ e)];exact e) (fun b o u e=>by rw [ao (neL b _ e)];exact e)
  (fun b ps e=>⟨#[],by rw [ao (neL b _ e),e];simp⟩) (fun m hm=>?_) ?_ I2.bare
 .have e:b=s1.heap.objs.size:=by simpa using hb
  subst e
  exact ⟨f3,f1,f4,f5⟩
 .obtain ⟨o,es,ep,ho,r⟩:=hm
  exact ⟨o,es,ep,hk _ o (Ne.symm f1) ho,r⟩
 .intro b u e
  by_cases hb:b=(s1.heap.push (revObj a ((its.toArray.size:Int) - 1))).objs.size
  .subst hb
   rw [aJ] at e
   cases e
   exact ⟨by rw [List.length_reverse];exact hz,acc'.toList,c',mF rv hacc,by simpa using eL⟩
  .rw [ao hb] at e
   refine (hokT b u e).stay (fun c v _ q=>q) (fun c q=>?_) fun c ys q=>?_
   .rw [ao (neL c _ q)];exact q
   .rw [ao (neL c _ q)];exact q
end
def cU (k:Bool) (h:Heap) (a:Addr) (its:Array Value):Prop:=∃o,h.get? a=some o/\o.cls=.type (cond k "tuple" "list")/\∃n,o.data=.seq its n
def bz (k:Bool) (h:Heap) (it a:Addr) (i:Nat):Prop:=∃o,h.get? it=some o/\o.cls=.type (cond k "tuple_iterator" "list_iterator")/\o.data=.fields #[.ref a,.int i 0]
theorem cU.mv {k:Bool}{h h':Heap}{a:Addr}{its:Array Value} (r:cU k h a its) (f:∀o,h.get? a=some o->h'.get? a=some o):cU k h' a its:=let ⟨o,e,q⟩:=r;⟨o,f o e,q⟩
theorem bz.mv {k:Bool}{h h':Heap}{it a:Addr}{i:Nat} (r:bz k h it a i) (f:∀o,h.get? it=some o->h'.get? it=some o):bz k h' it a i:=let ⟨o,e,q⟩:=r;⟨o,f o e,q⟩
section
variable {P:Program}{w:World}{A:Around}{E:Value->Shared->Prop}{s:Shared}{k:Bool}{it a:Addr}{i:Nat}{its:Array Value}
theorem iq {x:Value}{Q:Value->Shared->Prop} (W:s.heap.IsTupleIter it a i) (R:s.heap.IsTuple a its) (hx:its[i]?=some x)
  (hQ:∀h',h'.IsTupleIter it a (i + 1)->Heap.SameBut it s.heap h'->Q x { s with heap:=h' }):wpAny (model P w) A (Builtin.SmallTypes.nextOf (.ref it)) Q E s:=by
 have hT:=W.typeIs
 obtain ⟨o,ho,c,d⟩:=W
 obtain ⟨ol,hol,_,nl,dl⟩:=R
 unfold Builtin.SmallTypes.nextOf
 refine wpAny_bind (wpAny_callSpecial?_slot (name:=Str.ofString "__next__") hT F.slot_tuple_iterator_next (wpAny_call_entry F.slot_tuple_iterator_next hT F.entry_tuple_iterator_next ?_ (F.args_tuple_iterator_next_1 _)))
 refine wpAny_bind (m:=field (.ref it) 0) (wpAny_field ho d (x:=.ref a) rfl ?_)
 have nn:¬ ((Value.ref a == Value.none)=true):=Bool.false_ne_true
 show wpAny _ _ (if (Value.ref a == Value.none)=true then _ else _) _ _ s
 rw [if_neg nn]
 refine wpAny_bind (m:=field (.ref it) 1) (wpAny_field ho d (x:=.int i 0) rfl ?_)
 refine wpAny_bind (m:=seqItems? (.ref a)) (wpAny_seqItems hol dl ?_)
 simp only [Int.toNat_natCast,hx]
 exact wpAny_bind (wpAny_setField ho d (by simp) (wpAny_pure ⟨x,rfl,wpAny_pure (hQ _ ⟨_,Heap.get?_update_self _ ho (Obj.isFreed_of_fields (Obj.data_mapFields d _)),(Obj.cls_mapFields ..).trans c,by rw [Obj.data_mapFields d];simp [rawInt]⟩ (Heap.SameBut.update ..))⟩))
theorem i9 {Q:Value->Shared->Prop} (hh:A.handled=none) (W:s.heap.IsTupleIter it a i) (R:s.heap.IsTuple a its) (hx:its[i]?=none)
  (hE:∀h' e,Heap.ExtBut it s.heap h'->(∃o,h'.get? e=some o/\o.cls=.type "StopIteration")->E (.ref e) { s with heap:=h' }):wpAny (model P w) A (Builtin.SmallTypes.nextOf (.ref it)) Q E s:=by
 have hT:=W.typeIs
 obtain ⟨o,ho,c,d⟩:=W
 obtain ⟨ol,hol,_,nl,dl⟩:=R
 unfold Builtin.SmallTypes.nextOf
 refine wpAny_bind (wpAny_callSpecial?_slot (name:=Str.ofString "__next__") hT F.slot_tuple_iterator_next (wpAny_call_entry F.slot_tuple_iterator_next hT F.entry_tuple_iterator_next ?_ (F.args_tuple_iterator_next_1 _)))
 refine wpAny_bind (m:=field (.ref it) 0) (wpAny_field ho d (x:=.ref a) rfl ?_)
 have nn:¬ ((Value.ref a == Value.none)=true):=Bool.false_ne_true
 show wpAny _ _ (if (Value.ref a == Value.none)=true then _ else _) _ _ s
 rw [if_neg nn]
 refine wpAny_bind (m:=field (.ref it) 1) (wpAny_field ho d (x:=.int i 0) rfl ?_)
 refine wpAny_bind (m:=seqItems? (.ref a)) (wpAny_seqItems hol dl ?_)
 simp only [Int.toNat_natCast,hx]
 refine wpAny_bind (wpAny_rule (wpAny_bind (wpAny_setField ho d (by simp) (wpAny_bind (m:=newExc (.type "StopIteration") []) ?_))))
 simp only [newExc,newTuple]
 refine wpAny_bind (wpAny_newObj_type (wpAny_bind (m:=firstArgMember _ _) (wpAny_of_eq (a:=Value.none) (by first | rfl | (simp only [firstArgMember];rfl)) (wpAny_newObj_type ?_ (by size_fits)))) (by size_fits))
 simp only [raiseNew]
 refine wpAny_bind (wpAny_handled ?_)
 first | rw [show A.in1.handled=none from hh] | rw [hh]
 exact wpAny_bind (wpAny_pure (wpAny_throw (hE _ _ (((Heap.SameBut.update ..).extBut.push _).push _) ⟨_,Heap.get?_push_size _ rfl,rfl⟩)))
theorem cW {x:Value}{Q:Value->Shared->Prop} (W:bz k s.heap it a i) (R:cU k s.heap a its) (hx:its[i]?=some x)
  (hQ:∀h',bz k h' it a (i + 1)->Heap.SameBut it s.heap h'->Q x { s with heap:=h' }):wpAny (model P w) A (Builtin.SmallTypes.nextOf (.ref it)) Q E s:=by
 cases k with
 | false=>exact wpAny_nextOf_list_item W R hx hQ
 | true=>exact iq W R hx hQ
theorem fc {Q:Value->Shared->Prop} (hh:A.handled=none) (W:bz k s.heap it a i) (R:cU k s.heap a its) (hx:its[i]?=none)
  (hE:∀h' e,Heap.ExtBut it s.heap h'->(∃o,h'.get? e=some o/\o.cls=.type "StopIteration")->E (.ref e) { s with heap:=h' }):wpAny (model P w) A (Builtin.SmallTypes.nextOf (.ref it)) Q E s:=by
 cases k with
 | false=>exact wpAny_nextOf_list_end hh W R hx hE
 | true=>exact i9 hh W R hx hE
end
structure ZA (z U V i j:Addr):Prop where
 Uz:U≠z
 Vz:V≠z
 iz:i≠z
 jz:j≠z
 UV:U≠V
 Ui:U≠i
 Uj:U≠j
 Vi:V≠i
 Vj:V≠j
 ij:i≠j
section
variable {P:Program}{w:World}{A:Around}{E:Value->Shared->Prop}{s:Shared}{k l:Bool}{z U V i j a c:Addr}{n:Nat}{xs ys:Array Value}{x y u v:Value}
theorem oP {Q:Value->Shared->Prop} (D:ZA z U V i j) (az:a≠z) (cz:c≠z) (ci:c≠i) (cV:c≠V) (hz:IsZip s.heap z U V .none) (hU:IsPair s.heap U (.ref i) (.ref j)) (hV:IsPair s.heap V u v)
  (W1:bz k s.heap i a n) (W2:bz l s.heap j c n) (R1:cU k s.heap a xs) (R2:cU l s.heap c ys) (hx:xs[n]?=some x) (hy:ys[n]?=some y)
  (hQ:∀h',IsZip h' z U V (rawInt s.heap.objs.size)->IsPair h' V x y->bz k h' i a (n + 1)->bz l h' j c (n + 1)->IsPair h' s.heap.objs.size x y->h'.objs.size=s.heap.objs.size + 1 ->
   (∀b o,b≠z->b≠V->b≠i->b≠j->s.heap.get? b=some o->h'.get? b=some o)->Q (.ref s.heap.objs.size) { s with heap:=h' }) :
  wpAny (model P w) A (Builtin.«zip.__next__» ⟨[.ref z],[]⟩) (fun f s'=>∃r,f=.done (.ret r)/\Q r s') E s:=by
 refine wpAny_bind (m:=field (.ref z) 2) (wpAny_field hz rfl (x:=.bool false) rfl (wpAny_bind (m:=field (.ref z) 3) (wpAny_field hz rfl (x:=.ref U) rfl (wpAny_bind (wpAny_seqItems hU rfl ?_)))))
 refine wpAny_bind (m:=Builtin.SmallTypes.ownedTupleIsFree (.ref z)) ?_
 unfold Builtin.SmallTypes.ownedTupleIsFree
 refine wpAny_bind (wpAny_field hz rfl (x:=.none) rfl (wpAny_pure ?_))
 simp only [if_true]
 refine wpAny_bind (wpAny_rule (wpAny_bind (wpAny_field hz rfl (x:=.ref V) rfl (wpAny_bind (wpAny_setField_rec hz (by simp) fun g1 z1 b1=>wpAny_bind ?_)))))
 replace z1:IsZip g1 z U V .ellipsis:=z1
 simp only [List.zipIdx_cons,List.zipIdx_nil,List.forIn_cons,List.forIn_nil]
 have e1:=b1.extBut
 refine wpAny_bind (wpAny_bind (wpAny_onRaise (wpAny_bind (m:=Builtin.SmallTypes.nextOf (.ref i)) (cW (W1.mv fun o e=>e1 _ o D.iz e) (R1.mv fun o e=>e1 _ o az e) hx fun g2 w1 b2=>wpAny_pure ?_))))
 have e2:=b2.extBut
 have v2:IsPair g2 V u v:=e2 _ _ D.Vi (e1 _ _ D.Vz hV)
 refine wpAny_bind (wpAny_seqItems v2 rfl (wpAny_bind (wpAny_updateSeq_pair v2 fun g3 v3 b3=>wpAny_bind (wpAny_letGo (wpAny_pure ?_)))))
 replace v3:IsPair g3 V x v:=v3
 have e3:=b3.extBut
 refine wpAny_bind (wpAny_bind (wpAny_onRaise (wpAny_bind (m:=Builtin.SmallTypes.nextOf (.ref j)) (cW (W2.mv fun o e=>e3 _ o D.Vj.symm (e2 _ o D.ij.symm (e1 _ o D.jz e))) (R2.mv fun o e=>e3 _ o cV (e2 _ o ci (e1 _ o cz e))) hy fun g4 w2 b4=>wpAny_pure ?_))))
 have e4:=b4.extBut
 have v4:IsPair g4 V x v:=e4 _ _ D.Vj v3
 refine wpAny_bind (wpAny_seqItems v4 rfl (wpAny_bind (wpAny_updateSeq_pair v4 fun g5 v5 b5=>wpAny_bind (wpAny_letGo (wpAny_pure (wpAny_pure ?_))))))
 replace v5:IsPair g5 V x y:=v5
 have e5:=b5.extBut
 refine wpAny_bind (wpAny_seqItems v5 rfl (wpAny_bind (wpAny_newTuple ?_)))
 have sz:g5.objs.size=s.heap.objs.size:=by rw [b5.1,b4.1,b3.1,b2.1,b1.1]
 have z5:IsZip g5 z U V .ellipsis:=e5 _ _ D.Vz.symm (e4 _ _ D.jz.symm (e3 _ _ D.Vz.symm (e2 _ _ D.iz.symm z1)))
 have k5:∀b o,b≠z->b≠V->b≠i->b≠j->s.heap.get? b=some o->g5.get? b=some o:=fun b o q1 q2 q3 q4 e=>e5 _ _ q2 (e4 _ _ q4 (e3 _ _ q2 (e2 _ _ q3 (e1 _ _ q1 e))))
 have w15:bz k g5 i a (n + 1):=w1.mv fun o e=>e5 _ o D.Vi.symm (e4 _ o D.ij (e3 _ o D.Vi.symm e))
 have w25:bz l g5 j c (n + 1):=w2.mv fun o e=>e5 _ o D.Vj.symm e
 have zlt:z < g5.objs.size:=Heap.lt_size z5
 refine wpAny_bind (m:=Builtin.SmallTypes.ownedTupleHandOut (.ref z) (.ref g5.objs.size)) ?_
 unfold Builtin.SmallTypes.ownedTupleHandOut
 have z6:IsZip (g5.push { cls:=.type "tuple",data:=.seq #[x,y] }) z U V .ellipsis:=Heap.get?_push_of_some _ z5
 refine wpAny_bind (wpAny_setField_rec z6 (by simp) fun g7 z7 b7=>?_)
 replace z7:IsZip g7 z U V (rawInt g5.objs.size):=z7
 refine wpAny_setField_rec z7 (by simp) fun g8 z8 b8=>?_
 replace z8:IsZip g8 z U V (rawInt g5.objs.size):=z8
 have up:∀b o,b≠z->g5.get? b=some o->g8.get? b=some o:=fun b o q e=>b8.extBut _ _ q (b7.extBut _ _ q (Heap.get?_push_of_some _ e))
 have t8:IsPair g8 g5.objs.size x y:=b8.extBut _ _ (Nat.ne_of_gt zlt) (b7.extBut _ _ (Nat.ne_of_gt zlt) (Heap.get?_push_size _ rfl))
 have s8:g8.objs.size=g5.objs.size + 1:=by rw [b8.1,b7.1,Heap.size_push]
 rw [sz] at z8 t8 s8
 refine wpAny_pure ⟨_,rfl,?_⟩
 show Q (.ref g5.objs.size) _
 rw [sz]
 exact hQ g8 z8 (up _ _ D.Vz v5) (w15.mv fun o e=>up _ o D.iz e) (w25.mv fun o e=>up _ o D.jz e) t8 s8 fun b o q1 q2 q3 q4 e=>up b o q1 (k5 b o q1 q2 q3 q4 e)
theorem rH {Q:Fin->Shared->Prop} (hh:A.handled=none) (D:ZA z U V i j) (az:a≠z) (cz:c≠z) (ci:c≠i) (cV:c≠V) (hz:IsZip s.heap z U V .none) (hU:IsPair s.heap U (.ref i) (.ref j)) (hV:IsPair s.heap V u v)
  (W1:bz k s.heap i a n) (W2:bz l s.heap j c n) (R1:cU k s.heap a xs) (R2:cU l s.heap c ys) (hend:xs[n]?=none\/ys[n]?=none)
  (hE:∀h' e,(∀b o,b≠z->b≠V->b≠i->b≠j->s.heap.get? b=some o->h'.get? b=some o)->(∃o,h'.get? e=some o/\o.cls=.type "StopIteration")->E (.ref e) { s with heap:=h' }) :
  wpAny (model P w) A (Builtin.«zip.__next__» ⟨[.ref z],[]⟩) Q E s:=by
 refine wpAny_bind (m:=field (.ref z) 2) (wpAny_field hz rfl (x:=.bool false) rfl (wpAny_bind (m:=field (.ref z) 3) (wpAny_field hz rfl (x:=.ref U) rfl (wpAny_bind (wpAny_seqItems hU rfl ?_)))))
 refine wpAny_bind (m:=Builtin.SmallTypes.ownedTupleIsFree (.ref z)) ?_
 unfold Builtin.SmallTypes.ownedTupleIsFree
 refine wpAny_bind (wpAny_field hz rfl (x:=.none) rfl (wpAny_pure ?_))
 simp only [if_true]
 refine wpAny_bind (wpAny_rule (wpAny_bind (wpAny_field hz rfl (x:=.ref V) rfl (wpAny_bind (wpAny_setField_rec hz (by simp) fun g1 z1 b1=>wpAny_bind ?_)))))
 replace z1:IsZip g1 z U V .ellipsis:=z1
 simp only [List.zipIdx_cons,List.zipIdx_nil,List.forIn_cons,List.forIn_nil]
 have e1:=b1.extBut
 cases hx:xs[n]? with
 | none =>
  refine wpAny_bind (wpAny_bind (wpAny_onRaise (wpAny_bind (m:=Builtin.SmallTypes.nextOf (.ref i)) (fc hh (W1.mv fun o e=>e1 _ o D.iz e) (R1.mv fun o e=>e1 _ o az e) hx fun g2 e b2 he=>?_))))
  obtain ⟨oe,ge,ce⟩:=he
  have z2:IsZip g2 z U V .ellipsis:=b2 _ _ D.iz.symm z1
  have ez:e≠z:=fun q=>by subst q;rw [z2] at ge;cases ge;simp at ce
  exact wpAny_setField_rec z2 (by simp) fun g3 _ b3=>hE g3 e (fun b o q1 _ q3 _ q=>b3.extBut _ _ q1 (b2 _ _ q3 (e1 _ _ q1 q))) ⟨oe,b3.extBut _ _ ez ge,ce⟩
 | some x =>
  have hy:ys[n]?=none:=by
   rcases hend with q | q
   .rw [hx] at q;cases q
   .exact q
  refine wpAny_bind (wpAny_bind (wpAny_onRaise (wpAny_bind (m:=Builtin.SmallTypes.nextOf (.ref i)) (cW (W1.mv fun o e=>e1 _ o D.iz e) (R1.mv fun o e=>e1 _ o az e) hx fun g2 w1 b2=>wpAny_pure ?_))))
  have e2:=b2.extBut
  have v2:IsPair g2 V u v:=e2 _ _ D.Vi (e1 _ _ D.Vz hV)
  refine wpAny_bind (wpAny_seqItems v2 rfl (wpAny_bind (wpAny_updateSeq_pair v2 fun g3 v3 b3=>wpAny_bind (wpAny_letGo (wpAny_pure ?_)))))
  have e3:=b3.extBut
  refine wpAny_bind (wpAny_bind (wpAny_onRaise (wpAny_bind (m:=Builtin.SmallTypes.nextOf (.ref j)) (fc hh (W2.mv fun o e=>e3 _ o D.Vj.symm (e2 _ o D.ij.symm (e1 _ o D.jz e))) (R2.mv fun o e=>e3 _ o cV (e2 _ o ci (e1 _ o cz e))) hy fun g4 e b4 he=>?_))))
  obtain ⟨oe,ge,ce⟩:=he
  have z4:IsZip g4 z U V .ellipsis:=b4 _ _ D.jz.symm (e3 _ _ D.Vz.symm (e2 _ _ D.iz.symm z1))
  have ez:e≠z:=fun q=>by subst q;rw [z4] at ge;cases ge;simp at ce
  exact wpAny_setField_rec z4 (by simp) fun g5 _ b5=>hE g5 e (fun b o q1 q2 q3 q4 q=>b5.extBut _ _ q1 (b4 _ _ q4 (e3 _ _ q2 (e2 _ _ q3 (e1 _ _ q1 q))))) ⟨oe,b5.extBut _ _ ez ge,ce⟩
end
def Sq (k:Bool) (K:PySem.W.Frag) (H:Hp) (a:Addr) (xs:List V):Prop:=cond k (SqT K H a xs) (SqL K H a xs)
section
variable {X:Cx}{pins:List (Addr×Obj)}{σ:St}{H:Hp}{s:Shared}{k l:Bool}{a b c:Addr}{xs ys:List V}
theorem Inv.row (I:Inv X pins σ H s) (h:Sq k X.K H a xs):∃its:List Value,aW xs its/\cU k s.heap a its.toArray/\xs.length<=sizeLine:=by
 cases k with
 | false=>obtain ⟨its,r,p,z⟩:=I.list h;exact ⟨its,r,p.isList,z⟩
 | true=>obtain ⟨its,r,p,z⟩:=I.tuple h;exact ⟨its,r,p,z⟩
theorem Inv.row_inj (I:Inv X pins σ H s) (h:Sq k X.K H a xs) (h':Sq k X.K H a ys):xs=ys:=by
 cases k with
 | false=>exact I.list_inj h h'
 | true=>exact I.tuple_inj h h'
theorem lz {u:HO} (r:Rd H a u):∃v,H a=some v:=by
 rcases r with r | ⟨o,r⟩ <;> exact ⟨_,r⟩
theorem Inv.row_ne (I:Inv X pins σ H s) (h:Sq k X.K H a xs) (f:j1 X pins H b):a≠b:=by
 have kk:∀o,X.K.lookup a=some o->a≠b:=fun o e z=>by
  have e1:=I.ok.mod.kin a o e
  rcases f.2.2.2.1 with q | q
  .exact I.ok.noex a o e1 (z ▸ q)
  .exact absurd (Nat.lt_of_lt_of_le (Heap.lt_size (I.ok.bs a o e1).1) (z ▸ q)) (Nat.lt_irrefl _)
 have hh:∀u,H a=some u->a≠b:=fun u e z=>by rw [z,f.1] at e;cases e
 cases k with
 | false =>
  rcases h with r | ⟨o,its,n,e,_⟩
  .obtain ⟨v,e⟩:=lz r;exact hh v e
  .exact kk o e
 | true =>
  rcases h with r | ⟨o,its,n,e,_⟩
  .obtain ⟨v,e⟩:=lz r;exact hh v e
  .exact kk o e
theorem Inv.yielded {h':Heap}{T:Addr}{zs:List V}{t':Nat}{ch:List Addr} (I:Inv X pins σ H s) (hf:∀b∈ch,j1 X pins H b) (hT:s.heap.objs.size<=T)
  (kp:∀b o,b∉ch->s.heap.get? b=some o->h'.get? b=some o) (new:br X.prog X.w (upd H T (.tup zs)) h' T (.tup zs)):Inv X pins σ (upd H T (.tup zs)) { s with heap:=h',toks:=t' }:=by
 have hn:H T=none:=I.hok.fresh hT
 have nT:∀b u,H b=some u->b≠T:=fun b u e z=>by rw [z,hn] at e;cases e
 have oT:∀b o,s.heap.get? b=some o->b≠T:=fun b o e z=>absurd (Nat.lt_of_lt_of_le (Heap.lt_size e) (z ▸ hT)) (Nat.lt_irrefl _)
 have nc:∀b u,H b=some u->b∉ch:=fun b u e z=>by rw [(hf b z).1] at e;cases e
 refine I.step (g':=s.gens) (d':=s.drawn) (ch:=ch) (fun b hb=>⟨(hf b hb).2.2.2.1,(hf b hb).2.1,(hf b hb).2.2.2.2.1,(hf b hb).2.2.2.2.2⟩) (fun b o _ _ hc e _=>kp b o hc e) (fun b o _ _ hc e _=>⟨o.slots,kp b o hc e⟩)
  (fun b o _ e n=>by rw [ao (oT b o e)];exact n) (fun b o hc e=>⟨o,kp b o hc e⟩) (fun b xs e=>by rw [ao (nT b _ e)];exact e) (fun b o u e=>by rw [ao (nT b _ e)];exact e)
  (fun b ps e=>⟨#[],by rw [ao (nT b _ e),e];simp⟩) (fun m hm=>?_) (fun b u e=>?_) I.bare
 .obtain ⟨o,es,ep,ho,r⟩:=hm
  exact ⟨o,es,ep,kp _ o (fun z=>(hf _ z).2.1 rfl) ho,r⟩
 .by_cases hb:b=T
  .subst hb;rw [aJ] at e;cases e;exact new
  .rw [ao hb] at e
   refine (I.hok b u e).stay (fun c v hc q=>kp c v ?_ q) (fun c q=>by rw [ao (nT c _ q)];exact q) fun c xs q=>by rw [ao (nT c _ q)];exact q
   rcases hc with z | z
   .rw [z];exact nc b u e
   .exact nc c _ z
end
def Itz (k l:Bool) (K:PySem.W.Frag) (a c:Addr):It :=
  ⟨fun i H=>∃xs ys x y,Sq k K H a xs/\Sq l K H c ys/\xs[i]?=some x/\ys[i]?=some y,
   fun i H p H'=>∃T x y,H T=none/\p=.ref T/\(∀xs,Sq k K H a xs->xs[i]?=some x)/\(∀ys,Sq l K H c ys->ys[i]?=some y)/\H'=upd H T (.tup [x,y]),
   fun i H=>∃xs ys,Sq k K H a xs/\Sq l K H c ys/\(xs.length<=i\/ys.length<=i)⟩
theorem mG {P:Program}{w:World}{K:PySem.W.Frag}{es:List Expr}{ct:Nat}{tp:Pos}{k l:Bool}{a c z U V i j:Addr} (D:ZA z U V i j) :
  oa P w K (.Tuple es ct tp) (Itz k l K a c) [z,U,V,i,j] z (fun n h=>IsZip h z U V .none/\IsPair h U (.ref i) (.ref j)/\(∃u v,IsPair h V u v)/\bz k h i a n/\bz l h j c n) where
 mem:=by simp
 obj:=fun n h st b hb=>by
  obtain ⟨hz,hU,⟨u,v,hV⟩,⟨o1,g1,c1,d1⟩,⟨o2,g2,c2,d2⟩⟩:=st
  simp only [List.mem_cons,List.not_mem_nil,or_false] at hb
  rcases hb with rfl | rfl | rfl | rfl | rfl
  .exact ⟨_,hz,fun v q=>by cases q⟩
  .exact ⟨_,hU,fun v q=>by cases q⟩
  .exact ⟨_,hV,fun v q=>by cases q⟩
  .exact ⟨_,g1,fun v q=>by rw [d1] at q;cases q⟩
  .exact ⟨_,g2,fun v q=>by rw [d2] at q;cases q⟩
 keep:=fun n h h' st kk=>by
  obtain ⟨hz,hU,⟨u,v,hV⟩,w1,w2⟩:=st
  exact ⟨kk z (by simp) _ hz,kk U (by simp) _ hU,⟨u,v,kk V (by simp) _ hV⟩,w1.mv fun o e=>kk i (by simp) o e,w2.mv fun o e=>kk j (by simp) o e⟩
 item:=by
  intro X hP hw hK hc n pins s σ H E I hf st hg
  subst hP hw hK
  obtain ⟨xs,ys,x,y,q1,q2,hx,hy⟩:=hg
  obtain ⟨hz,hU,⟨u,v,hV⟩,w1,w2⟩:=st
  obtain ⟨its,rv,p,_⟩:=I.row q1
  obtain ⟨jts,rv',p',_⟩:=I.row q2
  obtain ⟨ux,hux,rx⟩:=rv.get hx
  obtain ⟨uy,huy,ry⟩:=rv'.get hy
  have hT:s.TypeIs (.ref z) "zip":=⟨_,hz,rfl⟩
  have nz:=I.row_ne q1 (hf z (by simp))
  have mz:=I.row_ne q2 (hf z (by simp))
  have mi:=I.row_ne q2 (hf i (by simp))
  have mV:=I.row_ne q2 (hf V (by simp))
  unfold pyNext
  refine wpAny_bind (wpAny_attempt (wpAny_callSpecial?_slot (name:=Str.ofString "__next__") hT F.slot_zip_next (wpAny_call_entry F.slot_zip_next hT F.entry_zip_next
   (oP (x:=ux) (y:=uy) D nz mz mi mV hz hU hV w1 w2 p p' (by simpa using hux) (by simpa using huy) fun h' a1 a2 a3 a4 a5 a6 a7=>wpAny_pure ?_) (F.args_zip_next_1 _))))
  refine ⟨_,rfl,wpAny_letOwnedTupleGo_zip a1 fun g gz gs=>?_⟩
  have lt:∀{b o},s.heap.get? b=some o->s.heap.objs.size≠b:=fun e=>Nat.ne_of_gt (Heap.lt_size e)
  have kp:∀b o,b∉[z,V,i,j]->s.heap.get? b=some o->g.get? b=some o:=fun b o hb e=>by
   simp only [List.mem_cons,List.not_mem_nil,or_false,not_or] at hb
   exact gs.extBut _ _ hb.1 (a7 b o hb.1 hb.2.1 hb.2.2.1 hb.2.2.2 e)
  have I2:Inv X pins σ (upd H s.heap.objs.size (.tup [x,y])) { s with heap:=g,toks:=s.toks }:=I.yielded (ch:=[z,V,i,j]) (fun b hb=>hf b (by
   simp only [List.mem_cons,List.not_mem_nil,or_false] at hb ⊢
   rcases hb with q | q | q | q <;> simp [q])) (Nat.le_refl _) kp ⟨by show 2<=sizeLine;decide,[ux,uy],.cons rx (.cons ry .nil),_,gs.extBut _ _ (lt hz) a5,rfl,_,rfl⟩
  refine ⟨.ref s.heap.objs.size,_,I2,rfl,⟨_,x,y,I.hok.fresh (Nat.le_refl _),rfl,fun xs' q=>by rw [I.row_inj q q1];exact hx,fun ys' q=>by rw [I.row_inj q q2];exact hy,rfl⟩,
   ⟨gz,gs.extBut _ _ D.Uz (a7 _ _ D.Uz D.UV D.Ui D.Uj hU),⟨_,_,gs.extBut _ _ D.Vz a2⟩,a3.mv fun o e=>gs.extBut _ o D.iz e,a4.mv fun o e=>gs.extBut _ o D.jz e⟩,fun b hb=>?_⟩
  rw [ao ?_]
  .exact (hf b hb).1
  .intro q
   subst q
   simp only [List.mem_cons,List.not_mem_nil,or_false] at hb
   obtain ⟨o1,g1,_⟩:=w1
   obtain ⟨o2,g2,_⟩:=w2
   rcases hb with q | q | q | q | q
   .exact lt hz q
   .exact lt hU q
   .exact lt hV q
   .exact lt g1 q
   .exact lt g2 q
 done:=by
  intro X hP hw hK hc n pins s σ H E I hf st hg
  subst hP hw hK
  obtain ⟨xs,ys,q1,q2,hend⟩:=hg
  obtain ⟨hz,hU,⟨u,v,hV⟩,w1,w2⟩:=st
  obtain ⟨its,rv,p,_⟩:=I.row q1
  obtain ⟨jts,rv',p',_⟩:=I.row q2
  have e1:=rv.length
  have e2:=rv'.length
  have hT:s.TypeIs (.ref z) "zip":=⟨_,hz,rfl⟩
  unfold pyNext
  refine wpAny_bind (wpAny_attempt (wpAny_callSpecial?_slot (name:=Str.ofString "__next__") hT F.slot_zip_next (wpAny_call_entry F.slot_zip_next hT F.entry_zip_next
   (rH (I.ok.hd hc) D (I.row_ne q1 (hf z (by simp))) (I.row_ne q2 (hf z (by simp))) (I.row_ne q2 (hf i (by simp))) (I.row_ne q2 (hf V (by simp))) hz hU hV w1 w2 p p' ?_ fun h' e hk he=>?_) (F.args_zip_next_1 _))))
  .rcases hend with q | q
   .exact .inl (by simp;omega)
   .exact .inr (by simp;omega)
  .obtain ⟨o,ho,hcl⟩:=he
   refine wpAny_bind (wpAny_isInstance (T:="StopIteration") (b:=true) ⟨o,ho,hcl⟩ isSubtype_stop (wpAny_pure ⟨rfl,?_⟩))
   exact I.step (g':=s.gens) (d':=s.drawn) (t':=s.toks) (ch:=[z,V,i,j]) (fun b hb=>by
     have q:=hf b (by
      simp only [List.mem_cons,List.not_mem_nil,or_false] at hb ⊢
      rcases hb with q | q | q | q <;> simp [q])
     exact ⟨q.2.2.2.1,q.2.1,q.2.2.2.2.1,q.2.2.2.2.2⟩) (fun b o _ _ hc e _=>by
     simp only [List.mem_cons,List.not_mem_nil,or_false,not_or] at hc
     exact hk b o hc.1 hc.2.1 hc.2.2.1 hc.2.2.2 e) (fun b o _ _ hc e _=>⟨o.slots,by
     simp only [List.mem_cons,List.not_mem_nil,or_false,not_or] at hc
     exact hk b o hc.1 hc.2.1 hc.2.2.1 hc.2.2.2 e⟩) (fun _ _ _ _ q=>q) (fun b o hc e=>⟨o,by
     simp only [List.mem_cons,List.not_mem_nil,or_false,not_or] at hc
     exact hk b o hc.1 hc.2.1 hc.2.2.1 hc.2.2.2 e⟩) (fun _ _ e=>e) (fun _ _ _ e=>e) (fun b ps e=>⟨#[],by rw [e];simp⟩) (fun m hm=>by
     obtain ⟨o,es,ep,ho,r⟩:=hm
     exact ⟨o,es,ep,hk _ o (hf z (by simp)).2.1.symm (hf V (by simp)).2.1.symm (hf i (by simp)).2.1.symm (hf j (by simp)).2.1.symm ho,r⟩) (fun b u e=>by
     have nn:∀b u,H b=some u->b≠z/\b≠V/\b≠i/\b≠j:=fun b u e=>⟨fun q=>(by rw [q,(hf z (by simp)).1] at e;cases e),fun q=>(by rw [q,(hf V (by simp)).1] at e;cases e),fun q=>(by rw [q,(hf i (by simp)).1] at e;cases e),fun q=>(by rw [q,(hf j (by simp)).1] at e;cases e)⟩
     refine (I.hok b u e).stay (fun c v hc q=>?_) (fun _ q=>q) fun _ _ q=>q
     have n4:c≠z/\c≠V/\c≠i/\c≠j:=by
      rcases hc with q | q
      .rw [q];exact nn b u e
      .exact nn c _ q
     exact hk c v n4.1 n4.2.1 n4.2.2.1 n4.2.2.2 q) I.bare
 self:=fun _ _ _ _ _ st h=>wpAny_pyIter_zip st.1 h
theorem rJ (n:Nat):ZA (n + 4) (n + 2) (n + 3) n (n + 1):=by
 refine ⟨?_,?_,?_,?_,?_,?_,?_,?_,?_,?_⟩ <;> (intro h;have h2:@Eq Nat _ _:=h;omega)
section
variable {P:Program}{w:World}{A:Around}{E:Value->Shared->Prop}{s:Shared}{k l:Bool}
abbrev kg (k:Bool) (a:Addr):Obj:={ cls:=.type (cond k "tuple_iterator" "list_iterator"),data:=.fields #[.ref a,.int 0 0] }
theorem fW {a:Addr}{its:Array Value}{Q:Value->Shared->Prop} (R:cU k s.heap a its) (hQ:Q (.ref s.heap.objs.size) { s with heap:=s.heap.push (kg k a) }):wpAny (model P w) A (pyIter (.ref a)) Q E s:=by
 cases k with
 | false=>exact wpAny_pyIter_list R hQ
 | true=>exact wpAny_pyIter_tuple R hQ
abbrev zg1 (h:Heap) (k:Bool) (a:Addr):Heap:=h.push (kg k a)
abbrev zg2 (h:Heap) (k l:Bool) (a c:Addr):Heap:=(zg1 h k a).push (kg l c)
abbrev zg3 (h:Heap) (k l:Bool) (a c:Addr):Heap:=(zg2 h k l a c).push { cls:=.type "tuple",data:=.seq #[.ref h.objs.size,.ref (zg1 h k a).objs.size] }
abbrev zg4 (h:Heap) (k l:Bool) (a c:Addr):Heap:=(zg3 h k l a c).push { cls:=.type "tuple",data:=.seq #[.none,.none] }
abbrev zg5 (h:Heap) (k l:Bool) (a c:Addr):Heap:=(zg4 h k l a c).push { cls:=.type "zip",data:=.fields #[.none,.bool false,.bool false,.ref (zg2 h k l a c).objs.size,.ref (zg3 h k l a c).objs.size] }
theorem oQ (k l:Bool) (a c:Addr) (xs ys:Array Value):Meets (Builtin.«zip.__new__» ⟨[.type "zip",.ref a,.ref c],[]⟩) (fun _ R s=>cU k s.heap a xs/\cU l s.heap c ys /\
   R (.ok (.ret (.ref (zg4 s.heap k l a c).objs.size))) { s with heap:=zg5 s.heap k l a c }) :=
 .of_wp fun prog w A R s h=>by
  obtain ⟨hp,g,d,tk,os⟩:=s
  obtain ⟨r1,r2,h⟩:=h
  have hsub:=sub_zip
  have R1:cU k (Shared.heap ⟨hp,g,d,tk,os⟩) a xs:=r1
  have R2:cU l (Shared.heap ⟨hp.push (kg k a),g,d,tk,os⟩) c ys:=r2.mv fun o e=>Heap.get?_push_of_some _ e
  wp_walk using fW R1,fW R2
  exact ⟨_,rfl,h⟩
theorem oR {a c:Addr}{xs ys:Array Value}{Q:Value->Shared->Prop} (r1:cU k s.heap a xs) (r2:cU l s.heap c ys)
  (h:∀h',IsZip h' (s.heap.objs.size + 4) (s.heap.objs.size + 2) (s.heap.objs.size + 3) .none->IsPair h' (s.heap.objs.size + 2) (.ref s.heap.objs.size) (.ref (s.heap.objs.size + 1)) ->
   IsPair h' (s.heap.objs.size + 3) .none .none->bz k h' s.heap.objs.size a 0->bz l h' (s.heap.objs.size + 1) c 0->(∀b o,s.heap.get? b=some o->h'.get? b=some o)->Q (.ref (s.heap.objs.size + 4)) { s with heap:=h' }) :
  wpAny (model P w) A (call (.type "zip") [.ref a,.ref c]) Q E s:=by
 refine callType_new F.called_zip (by decide) (F.typeCall_zip_2 _ _) (F.newCall_zip_2 _ _) (fun obj=>F.args_object_init_3 obj _ _) F.entry_zip_new (oQ k l a c xs ys) ⟨r1,r2,?_⟩
 have z1:(zg1 s.heap k a).objs.size=s.heap.objs.size + 1:=Heap.size_push ..
 have z2:(zg2 s.heap k l a c).objs.size=s.heap.objs.size + 2:=by rw [Heap.size_push,z1]
 have z3:(zg3 s.heap k l a c).objs.size=s.heap.objs.size + 3:=by rw [Heap.size_push,z2]
 have z4:(zg4 s.heap k l a c).objs.size=s.heap.objs.size + 4:=by rw [Heap.size_push,z3]
 have m4:∀b o,(zg4 s.heap k l a c).get? b=some o->(zg5 s.heap k l a c).get? b=some o:=fun b o e=>Heap.get?_push_of_some _ e
 have m3:∀b o,(zg3 s.heap k l a c).get? b=some o->(zg5 s.heap k l a c).get? b=some o:=fun b o e=>m4 b o (Heap.get?_push_of_some _ e)
 have m2:∀b o,(zg2 s.heap k l a c).get? b=some o->(zg5 s.heap k l a c).get? b=some o:=fun b o e=>m3 b o (Heap.get?_push_of_some _ e)
 have m1:∀b o,(zg1 s.heap k a).get? b=some o->(zg5 s.heap k l a c).get? b=some o:=fun b o e=>m2 b o (Heap.get?_push_of_some _ e)
 have g5:(zg5 s.heap k l a c).get? (zg4 s.heap k l a c).objs.size=some _:=Heap.get?_push_size _ rfl
 have g4:=m4 _ _ (Heap.get?_push_size (zg3 s.heap k l a c) (o:={ cls:=.type "tuple",data:=.seq #[.none,.none] }) rfl)
 have g3:=m3 _ _ (Heap.get?_push_size (zg2 s.heap k l a c) (o:={ cls:=.type "tuple",data:=.seq #[.ref s.heap.objs.size,.ref (zg1 s.heap k a).objs.size] }) rfl)
 have g2:=m2 _ _ (Heap.get?_push_size (zg1 s.heap k a) (o:=kg l c) rfl)
 have g1:=m1 _ _ (Heap.get?_push_size s.heap (o:=kg k a) rfl)
 show _/\_
 rw [z2,z3,z4] at g5
 rw [z1,z2] at g3
 rw [z3] at g4
 rw [z1] at g2
 rw [z4]
 exact ⟨⟨_,g5,rfl⟩,h _ g5 g3 g4 ⟨_,g1,rfl,rfl⟩ ⟨_,g2,rfl,rfl⟩ fun b o e=>m1 b o (Heap.get?_push_of_some _ e)⟩
end
def stA (a b:List Nat) (i:Nat):Bool:=decide (i + b.length<=a.length/\(a.drop i).take b.length=b)
def fnd (a b:List Nat) (lo:Nat):Int:=match (List.range' lo (a.length + 1 - lo)).find? (stA a b) with | some k=>(k:Int) | none=>-1
theorem ir (s sub:Str) (hi:Nat):∀(l:List Nat) (st:Array Nat×Nat),st.fst.size=1->(forIn l st (StrLaws.occBody s sub hi 1)).run.fst=st.fst
 | [],_,_=>rfl
 | x::l,st,h=>by
  rw [List.forIn_cons]
  unfold StrLaws.occBody
  rw [if_neg (fun z=>by have:=z.1.1.1;omega)]
  exact ir s sub hi l (st.fst,st.snd) h
theorem iu (s sub:Str) (hi:Nat) (p:Nat->Bool) (hp:∀i,p i=true ↔ (i + sub.length<=hi/\Builtin.Str.subAt s sub i=true)):∀(l:List Nat) (free:Nat),(∀i∈l,free<=i) ->
  (forIn l ((#[]:Array Nat),free) (StrLaws.occBody s sub hi 1)).run.fst=(match l.find? p with | some k=>#[k] | none=>#[])
 | [],_,_=>rfl
 | x::l,free,hf=>by
  rw [List.forIn_cons,List.find?_cons]
  unfold StrLaws.occBody
  have hx:free<=x:=hf x (List.mem_cons_self ..)
  cases c:p x with
  | true =>
   have hc:=(hp x).mp c
   rw [if_pos ⟨⟨⟨by simp,hx⟩,hc.1⟩,hc.2⟩]
   exact ir s sub hi l (#[x],x + sub.length) rfl
  | false =>
   rw [if_neg (fun z=>by
    have:=(hp x).mpr ⟨z.1.2,z.2⟩
    rw [c] at this;cases this)]
   exact iu s sub hi p hp l free fun i h=>hf i (List.mem_cons_of_mem _ h)
theorem oS (a b:List Nat) (i:Nat):Builtin.Str.subAt (S a) (S b) i=decide ((a.drop i).take b.length=b):=by
 unfold Builtin.Str.subAt
 rw [dq]
 have e1:((S a).cps.extract i (i + b.length))=((a.drop i).take b.length).toArray:=by
  show a.toArray.extract _ _=_
  rw [List.extract_toArray,List.extract_eq_take_drop]
  congr 2
  omega
 rw [e1]
 show (((a.drop i).take b.length).toArray == b.toArray)=_
 by_cases h:(a.drop i).take b.length=b
 .rw [decide_eq_true h,h];simp
 .rw [decide_eq_false h,beq_eq_false_iff_ne]
  intro z
  exact h (by simpa using congrArg Array.toList z)
theorem oU (a b:List Nat) (lo:Nat):(match Builtin.Str.occurrences (S a) (S b) lo (S a).length 1 with | k::_=>(k:Int) | []=>-1)=fnd a b lo:=by
 rw [StrLaws.occ_eq,dq,iu (S a) (S b) a.length (stA a b) (fun i=>?_) _ lo (fun i hi=>(List.mem_range'_1.mp hi).1)]
 .unfold fnd
  cases (List.range' lo (a.length + 1 - lo)).find? (stA a b) <;> rfl
 .unfold stA
  rw [oS,dq]
  simp
section
variable {X:Cx}{tg:Expr}
def Itk (k:Bool) (K:PySem.W.Frag) (a:Addr):It:=cond k (Itt K a) (Itl K a)
def rK (K:PySem.W.Frag):R2:=fun x y H Q=>∃l b xs zs,x=.ref l/\y=.ref b/\SqL K H l xs/\SqL K H b zs/\xs.length + zs.length<=sizeLine/\∀p,H p=none->Q (.ref p) (upd H p (.lst (xs++zs)))
theorem oV:OpR X (binaryOp .Add) (rK X.K):=by
 intro pins s σ H x y v u Q I rx ry h
 obtain ⟨l,b,xs,zs,rfl,rfl,hH,hB,hz,q⟩:=h
 cases rx
 cases ry
 obtain ⟨its,r,pl,hl⟩:=I.list hH
 obtain ⟨its2,r2,pl2,hl2⟩:=I.list hB
 obtain ⟨⟨cls,dd,data,sl⟩,ho,hc,n,hd⟩:=pl.isList
 obtain ⟨⟨cls2,dd2,data2,sl2⟩,ho2,hc2,n2,hd2⟩:=pl2.isList
 simp only at hc hd hc2 hd2
 subst hc hd hc2 hd2
 have n1:=r.length
 have n2':=r2.length
 have ea:its.toArray++its2.toArray=(its++its2).toArray:=by simp
 have fin:EP X pins σ Q (.ref s.heap.objs.size) { s with heap:=s.heap.push { cls:=.type "list",data:=.seq (its.toArray++its2.toArray) } }:=by
  rw [ea]
  exact ⟨.ref _,_,I.lnew (t':=s.toks) (r.append r2) (by rw [List.length_append];omega),rfl,q _ I.fresh⟩
 exact concat_meets ⟨_,ho,rfl⟩ ⟨_,ho2,rfl⟩ noFill_list_add seq_list_add PySem.F.slot_list_add PySem.F.entry_list_add (PySem.F.args_list_add_2 _ _) (list_addW l b its.toArray its2.toArray n n2 dd dd2 sl sl2 (by simp;omega)) ⟨ho,ho2,fin⟩
end
def lA (n:Nat) (d:PyData):Prop:=d.canLay0=true/\d.depth<=n
theorem lA.shaped {n:Nat}{d:PyData} (h:lA n d) (hn:n<=64):SeqAt.shaped d=true:=by
 unfold SeqAt.shaped
 rw [h.1,decide_eq_true (Nat.le_trans h.2 hn)];rfl
theorem lB {n:Nat}:∀{ds:List PyData},(∀d∈ds,lA n d)->PyData.canLayAll0 ds=true/\PyData.depthAll ds<=n
 | [],_=>⟨rfl,Nat.zero_le _⟩
 | d::ds,h=>by
  obtain ⟨a,b⟩:=lB (ds:=ds) fun x hx=>h x (List.mem_cons_of_mem _ hx)
  obtain ⟨c,e⟩:=h d List.mem_cons_self
  simp only [PyData.canLayAll0,PyData.depthAll,a,c]
  exact ⟨rfl,Nat.max_le.mpr ⟨e,b⟩⟩
theorem lA.list {n:Nat}{ds:List PyData} (h:∀d∈ds,lA n d):lA (n + 1) (.list ds):=by
 obtain ⟨a,b⟩:=lB h
 exact ⟨by simp only [PyData.canLay0];exact a,by simp only [PyData.depth];omega⟩
theorem lA.int (i:Int):lA 0 (.int i):=⟨by simp [PyData.canLay0],by simp [PyData.depth]⟩
def Lts (l:List Nat):Prop:=∀c∈l,97<=c/\c<=122
theorem Lts.take {a:List Nat} (x:Lts a) (n:Nat):Lts (a.take n):=fun c h=>x c (List.mem_of_mem_take h)
theorem Lts.drop {a:List Nat} (x:Lts a) (n:Nat):Lts (a.drop n):=fun c h=>x c (List.mem_of_mem_drop h)
theorem Lts.cut {a:List Nat} (x:Lts a) (lo hi:Option Int):Lts (dr a lo hi):=(x.drop _).take _
theorem Lts.rep {a:List Nat} (x:Lts a) (n:Int):Lts (hG a n):=fun c h=>by
 unfold hG at h
 obtain ⟨l,h1,h2⟩:=List.mem_flatten.mp h
 rw [List.eq_of_mem_replicate h1] at h2
 exact x c h2
theorem lC (ns:List Int):∀d∈ns.map PyData.int,lA 0 d:=fun d hd=>by
 obtain ⟨i,_,rfl⟩:=List.mem_map.mp hd
 exact lA.int i
section
variable {κ:Type} [DecidableEq κ]
theorem KV.length {kvs:List (κ×V)}{vs:List (κ×Value)} (r:KV kvs vs):kvs.length=vs.length:=Paired.length r
end
section
variable {P:Program}{w:World}{H:Hp}{h:Heap}{a:Addr}
theorem tN {u:HO} (ok:HOk P w H h) (e:Rd H a u):br P w H h a u:=e.ok ok
theorem tO {kvs:List (Key×V)} (ok:HOk P w H h) (e:Rd H a (.dK kvs)):kvs.length<=sizeLine/\(a == sysModules)=false/\∃vs,KV kvs vs/\h.DictOf (iT P w) a vs :=
 show br P w H h a (.dK kvs) from tN ok e
end
section
variable {X:Cx}{pins:List (Addr×Obj)}{σ:St}{H:Hp}{s:Shared}{a:Addr}{y v:V}{u r:Value}{o:Option V}{A:Around}{E:Value->Shared->Prop}
theorem Inv.big (I:Inv X pins σ H s):sysModules < s.heap.objs.size:=by
 have h:mainGlobals < s.heap.objs.size:=(I.mod.glob.keeps I.bk).lt
 exact Nat.lt_trans (by decide) h
end
section
variable {X:Cx}{pins:List (Addr×Obj)}{σ:St}{H:Hp}{s:Shared}{a:Addr}{kvs:List (Key×V)}{k:Key}{u:Value}{A:Around}{E:Value->Shared->Prop}
theorem tP {Q:Value->Shared->Prop} (I:Inv X pins σ H s) (e:Rd H a (.dK kvs)) (h:∀t s',Inv X pins σ H s'->Q (.int kvs.length t) s'):wpAny (model X.prog X.w) A (call (.builtin "len") [.ref a]) Q E s:=by
 obtain ⟨z,hd,vs,rel,dd⟩:=tO I.hok e
 refine call_len_dict hd dd (by rw [<- rel.length];rw [sizeLine_eq] at z;omega) ?_
 rw [<- rel.length]
 exact h _ _ (I.tok _)
end
theorem mH {P:Program}{w:World}{H:Hp} (h:Heap) (hb:sysModules < h.objs.size):br P w H (h.push { cls:=.type "dict",data:=.dict #[] }) h.objs.size (.dK []) :=
 ⟨Nat.zero_le _,beq_eq_false_iff_ne.mpr (Ne.symm (Nat.ne_of_lt hb)),[],.nil,Heap.DictOf.new h⟩
def nI:TE:=fun _ H Q=>∀p,H p=none->Q (.ref p) (upd H p (.dK []))
section
variable {X:Cx}{pos:Pos}
theorem mI:PE X (.Dict [] [] pos) nI:=fun pins s σ H Q I h =>
 wpAny_Dict_empty ⟨.ref s.heap.objs.size,_,I.laid (a:=s.heap.objs.size) (o:=.dK []) (t':=s.toks) (fun _ _ q=>Heap.get?_push_of_some _ q) (Nat.le_refl _) (mH s.heap I.big),rfl,h _ (I.hok.fresh (Nat.le_refl _))⟩
end
section
variable {X:Cx}
theorem mJ {x:Str}{i:Int}{pos:Pos} (hg:Gl X x) (h:∃t,X.mg x=some (.int i t)) (hd:(x == ("__debug__":Str))=false:=by decide):PE X (.Name x pos) (tC (.int i)):=by
 obtain ⟨t,e⟩:=h
 exact n6 (u:=.int i t) hg e ⟨t,rfl⟩ hd
end
structure sP (P:Program) (w:World) (K:PySem.W.Frag) (mg:Str->Option Value) (base:Heap) (k:Nat) (x:Str) (ps:List Str) (dvs:List V) (sp:Sp):Prop where
 ex:∃(f:Addr) (fd:FuncData),iX P w K mg base CX0 k f fd ps sp/\(∀n,n<=dvs.length->∃ds,aW (dvs.drop n) ds/\iY K fd ps ds)/\PySem.W.keepIn K (.ref f)=true/\mg x=some (.ref f)
structure jH (K:PySem.W.Frag) (mg:Str->Option Value) (x:Str) (st:Stmt) (dvs:List V):Prop where
 ex:∃(f dT:Addr) (oc:Value) (od an dd:Option Addr) (kV doc pm cdv ct:Value) (osl sl:Array (Option Value)) (items:List Value) (n:Nat),
  K.lookup f=some ⟨oc,od,.func (PySem.W.fnOf x x (bB st) (a8 st) (ah st) (.ref dT) kV doc pm an cdv ct),osl⟩/\PySem.W.codeIn K cdv x=true/\PySem.W.keepIn K (.ref f)=true/\mg x=some (.ref f) /\
  K.lookup dT=some ⟨.type "tuple",dd,.seq items.toArray n,sl⟩/\aW dvs items
section
variable {P:Program}{w:World}{K:PySem.W.Frag}{mg:Str->Option Value}{base:Heap}{x:Str}{st:Stmt}{N ps:List Str}{k:Nat}{sp:Sp}{dvs:List V}
theorem jH.ok (D:jH K mg x st dvs) (S:aS N ps (ah st))
  (hb:∀(dT:Addr) (kV doc pm:Value) (an:Option Addr) (cdv ct:Value) (items:List Value) (us:List Value) (n:Nat),items.length=dvs.length->n<=dvs.length->(us++items.drop n).length=ps.length ->
   ∃k,bindArgs (PySem.W.fnOf x x (bB st) (a8 st) (ah st) (.ref dT) kV doc pm an cdv ct) ⟨us,[]⟩=seqItems? (.ref dT) >>= k/\k (some items.toArray)=pure (ps.zip (us++items.drop n)))
  (len:∀vs H Q E,sp vs H Q E->vs.length=ps.length)
  (hbody:∀(f:Addr) (cdv:Value) (A:Around) (outer:List Env) (s:Shared) (H:Hp) (vs:List V) (Q:VK) (E:XK),eP k (A.deeper (envOfC x (ah st) s.heap.objs.size f cdv))->sp vs H Q E ->
   ∃t,PSs (kR CX0 P w K mg base N x (ah st) f cdv A outer s H E).nox (a8 st) t/\t { nx:=fun _ H'=>Q .non H',rt:=Q } (start N vs) H):sP P w K mg base (k + 1) x ps dvs sp:=by
 obtain ⟨f,dT,oc,od,an,dd,kV,doc,pm,cdv,ct,osl,sl,items,n,lk,hcd,kp,hm,lt,rv⟩:=D.ex
 have hl:=rv.length
 refine ⟨f,_,qS lk hcd S len fun A outer s H vs Q E hr hsp=>?_,fun j hj=>⟨items.drop j,rv.drop j,fun s us X hlen=>?_⟩,kp,hm⟩
 .obtain ⟨t,h,q⟩:=hbody f cdv A outer s H vs Q E hr hsp
  exact ⟨t,h.nox,q⟩
 .obtain ⟨k,h1,h2⟩:=hb dT kV doc pm an cdv ct items us j hl.symm hj hlen
  exact BindsTo.of_defaults rfl (X dT _ lt) rfl h1 h2
end
section
variable {X:Cx}{k:Nat}{x:Str}{ps:List Str}{sp:Sp}{p pos:Pos}{e:Expr}{es:List Expr}{t:TA}{dvs:List V}
theorem lD:OpR X (compareOp .IsNot) (fun x y H Q=>∃b c,x=.bl b/\y=.bl c/\Q (.bl (!decide (b=c))) H):=by
 intro pins s σ H x y v u Q I rx ry h
 obtain ⟨b,c,rfl,rfl,q⟩:=h
 cases (show v=Value.bool b from rx)
 cases (show u=Value.bool c from ry)
 cases b <;> cases c <;> exact wpAny_pure (aM I q (by first | rfl | decide))
theorem gJ (bs:List Bool):(List.range bs.length).all (fun i=>bs.getD i false)=bs.all id:=by
 induction bs with
 | nil=>rfl
 | cons b bs ih=>rw [List.length_cons,List.range_succ_eq_map,List.all_cons,List.all_map,List.all_cons,<- ih];rfl
theorem oW {bs:List Bool}{its:List Value} (r:aW (bs.map V.bl) its) {i:Nat}{v:Value} (h:its.toArray[i]?=some v):v=.bool (bs.getD i false):=by
 have h':its[i]?=some v:=by simpa using h
 have hl:=r.length
 rw [List.length_map] at hl
 have hi:i < bs.length:=by have:=(List.getElem?_eq_some_iff.mp h').1;omega
 obtain ⟨u,e1,e2⟩:=r.get (i:=i) (x:=V.bl bs[i]) (by rw [List.getElem?_map,List.getElem?_eq_getElem hi];rfl)
 rw [h'] at e1
 cases e1
 rw [show v=Value.bool bs[i] from e2,List.getD_eq_getElem?_getD,List.getElem?_eq_getElem hi];rfl
theorem mK (hc:X.calm=true):bw X (.builtin "all") (fun xs H Q=>∃(p:Addr) (bs:List Bool),xs=[.ref p]/\SqL X.K H p (bs.map V.bl)/\Q (.bl (bs.all id)) H):=by
 intro pins s σ H xs us Q I r h
 obtain ⟨p,bs,rfl,hS,q⟩:=h
 obtain ⟨u,rfl,ru⟩:=gB r
 cases (show u=Value.ref p from ru)
 obtain ⟨its,rv,pl,hz⟩:=I.list hS
 have hl:=rv.length
 rw [List.length_map] at hl
 have hps:p < s.heap.objs.size:=let ⟨o,ho,_⟩:=pl.isList;Heap.lt_size ho
 obtain ⟨f0,f1,f2,f3,f4,f5⟩:=I.fpOk (H':=H) (Nat.le_refl s.heap.objs.size) (I.hok.fresh (Nat.le_refl _))
 refine call_all_walk (wpAny_pyIter_list pl.isList ⟨s.heap.objs.size,_,_,its.toArray.size,_,_,fun i=>bs.getD i false,rfl,Walks.list (by exact I.ok.hd hc) s.heap.objs.size p (Nat.ne_of_lt hps) its.toArray,⟨⟨_,Heap.get?_push_size _ rfl,rfl,rfl⟩,pl.isList.push _⟩,fun i v s Q E hP hQ=>?_,fun h' tk hk=>?_⟩)
 .rw [oW rv hP];exact wpAny_truthy_bool hQ
 .have I1:Inv X pins σ H { s with heap:=s.heap.push { cls:=.type "list_iterator",data:=.fields #[.ref p,.int 0 0] } }:=I.kept (t':=s.toks) fun b o e=>Heap.get?_push_of_some _ e
  have I2:=I1.turned (h':=h') (t':=tk) (it:=s.heap.objs.size) (fun b o hb e=>hk b o (by simpa using hb) e) f0 f1 f3 f4 f5
  refine ⟨.bl (bs.all id),H,I2,?_,q⟩
  show Value.bool _=Value.bool _
  rw [List.size_toArray,<- hl,gJ]
end
section
variable {X:Cx}{o e f:Expr}{apos cpos:Pos}{td ty tx:TE}
theorem lE:bw X (.builtin "len") (fun xs H Q=>∃p kvs,xs=[.ref p]/\Rd H p (.dK kvs)/\Q (.int kvs.length) H):=by
 intro pins s σ H xs us Q I r h
 obtain ⟨p,kvs,rfl,hd,q⟩:=h
 obtain ⟨u,rfl,ru⟩:=gB r
 cases (show u=Value.ref p from ru)
 exact tP I hd fun t s' I'=>⟨.int kvs.length,H,I',⟨t,rfl⟩,q⟩
end
def ja (K:PySem.W.Frag) (x:Str):Addr:=match PySem.W.nsIn K mainGlobals x with
 | some (some (.ref C))=>C
 | _=>0
section
variable {X:Cx}{es:List Expr}{ct:Nat}{tp:Pos}
def tQ (K:PySem.W.Frag) (ta:TA):TI:=fun σ H R=>ta σ H fun vs H1=>∃k l a c,vs=[.ref a,.ref c]/\(∃xs ys,Sq k K H1 a xs/\Sq l K H1 c ys)/\R (Itz k l K a c) H1
end
section
variable {X:Cx}{e:Expr}{ta:TE}{f:Str}{pos:Pos}
def tR (K:PySem.W.Frag):List V->Hp->VK->Prop:=fun xs H Q=>∃p ys,xs=[.ref p]/\SqL K H p ys/\Q (.int ys.length) H
def tS (K:PySem.W.Frag):List V->Hp->VK->Prop:=fun xs H Q=>∃p ys,xs=[.ref p]/\SqT K H p ys/\Q (.int ys.length) H
def uQ (K:PySem.W.Frag):List V->Hp->VK->Prop:=fun xs H Q=>∃x n t b,xs=[x,.ty n]/\iW K H x t/\PySem.W.kitOne K t (.type n)=some b/\Q (.bl b) H
def lF (K:PySem.W.Frag):List V->Hp->VK->Prop:=fun xs H Q=>∃p ys,xs=[.ref p]/\(SqL K H p ys\/SqT K H p ys)/\∀l,H l=none->Q (.ref l) (upd H l (.lst ys))
end
section
variable {X:Cx}{o e:Expr}{es:List Expr}{to:TE}{t:TA}{name:Str}{apos cpos:Pos}{T id:String}{r:V->List V->Hp->VK->Prop}
theorem jI (K:PySem.W.Frag) (eK:X.K=K) (pa:PlainAttrs T) (slot:Slot T name id) (hty:typeOf (.builtin id)=pure (.type "method_descriptor")) (hm:MtR X id r) (ho:PE X o to) (ha:PA X (e::es) t)
  (hbase:attributeBase o name X.env (eval o X.env)=eval o X.env:=by rfl)
  (hfew:((backTo cpos (starEach (e::es) X.env)).all (fun x=>!x.1) && (backToKw cpos (keywordEach [] X.env)).all (fun x=>x.1.isSome)
   && decide ((e::es).length + ([]:List Keyword).length + (if ([]:List Keyword).isEmpty then 0 else 1) < 30))=true:=by rfl)
  (hline:(apos.endLine == cpos.line)=true:=by rfl) (hs:starEach (e::es) X.env=(false,eval e X.env)::starEach es X.env:=by rfl) (hplain:(backTo cpos (starEach es X.env)).any (·.1)=false:=by rfl) :
  PE X (.Call (.Attribute o name apos) (e::es) [] cpos) (tBM K T r to t):=eK ▸ tG pa slot hty hm ho ha hbase hfew hline hs hplain
end
def eH (c:Bool) (A B:Prop):Prop:=match c with | true=>A | false=>B
theorem uR {c:Bool}{A B:Prop} (h1:c=true->A) (h2:c=false->B):eH c A B:=by
 cases c with
 | true=>exact h1 rfl
 | false=>exact h2 rfl
theorem gK {p:Prop} [Decidable p] {A B:Prop} (h1:p->A) (h2:¬ p->B):eH (decide p) A B:=uR (fun h=>h1 (of_decide_eq_true h)) (fun h=>h2 (of_decide_eq_false h))
theorem gL {p:Prop} [Decidable p] {A B:Prop} (h1:¬ p->A) (h2:p->B):eH (!decide p) A B:=uR (fun h=>h1 fun z=>by rw [decide_eq_true z] at h;cases h) (fun h=>h2 (by
 by_cases z:p
 .exact z
 .rw [decide_eq_false z] at h;cases h))
theorem tT {p:Prop} [Decidable p] {A B:Prop} (h:p) (hA:A):eH (decide p) A B:=gK (fun _=>hA) (fun z=>absurd h z)
theorem tU {p:Prop} [Decidable p] {A B:Prop} (h:¬ p) (hB:B):eH (decide p) A B:=gK (fun z=>absurd z h) (fun _=>hB)
theorem rL {p:Prop} [Decidable p] {A B:Prop} (h:¬ p) (hA:A):eH (!decide p) A B:=gL (fun _=>hA) (fun z=>absurd z h)
theorem jJ {p:Prop} [Decidable p] {A B:Prop} (h:p) (hB:B):eH (!decide p) A B:=gL (fun z=>absurd h z) (fun _=>hB)
theorem vi {c:Bool}{A B:Prop} (h:c=true) (hA:A):eH c A B:=by subst h;exact hA
theorem vj {c:Bool}{A B:Prop} (h:c=false) (hB:B):eH c A B:=by subst h;exact hB
theorem tV {c:Bool}{A B:Prop} (h:c=false) (hA:A):eH (!c) A B:=by subst h;exact hA
theorem tW {c:Bool}{A B:Prop} (h:c=true) (hB:B):eH (!c) A B:=by subst h;exact hB
inductive D where
 | non | bl (b:Bool) | int (i:Int) | str (l:List Nat) | ty (n:String)
 | lst (ds:List D) | tup (ds:List D) | scr (ns:List Int) | dic (ks:List Key) (ds:List D) | obj (c:Str) (ns:List Str) (ds:List D) | exc (c:Str) (ns:List Str) (ds:List D)
def XAt (x C:Addr) (dd:Option Addr) (new:Bool) (h:Heap):Prop:=∃o vs,h.get? x=some o/\o.cls=.ref C/\o.dict=dd/\o.data=.fields vs/\1 < vs.size/\(new=true->vs[1]?=some .none)
def cQ (A:Addr->Prop) (a:Addr):Addr->Prop:=fun b=>A b\/b=a
def qb (K:PySem.W.Frag) (O:Addr->Prop) (H:Hp) (a:Addr) (xs:List V):Prop :=
 (¬ O a/\Rd H a (.lst xs))\/∃(o:Obj) (its:Array Value) (n:Nat),K.lookup a=some o/\o.cls=.type "list"/\o.dict=none/\o.data=.seq its n/\its.size<=sizeLine/\aW xs its.toList
theorem qb.sq {K:PySem.W.Frag}{O:Addr->Prop}{H:Hp}{a:Addr}{xs:List V} (h:qb K O H a xs):SqL K H a xs:=h.elim (fun z=>.inl z.2) .inr
def aD (O:Addr->Prop) (H:Hp) (O':Addr->Prop) (H':Hp):Prop:=∀b o,¬ O b->H b=some o->¬ O' b/\H' b=some o
theorem Rd.keeps {O O':Addr->Prop}{H H':Hp}{a:Addr}{u:HO} (k:aD O H O' H') (n:¬ O a) (r:Rd H a u):¬ O' a/\Rd H' a u:=by
 rcases r with e | ⟨o,e⟩
 .exact ⟨(k _ _ n e).1,.inl (k _ _ n e).2⟩
 .exact ⟨(k _ _ n e).1,.inr ⟨o,(k _ _ n e).2⟩⟩
theorem qb.keeps {K:PySem.W.Frag}{O O':Addr->Prop}{H H':Hp}{a:Addr}{xs:List V} (k:aD O H O' H') (h:qb K O H a xs):qb K O' H' a xs:=by
 rcases h with ⟨n,r⟩ | r
 .exact .inl (r.keeps k n)
 .exact .inr r
mutual
inductive FV (K:PySem.W.Frag) (O:Addr->Prop) (H:Hp):V->D->Prop
 | non:FV K O H .non .non
 | bl (b:Bool):FV K O H (.bl b) (.bl b)
 | int (i:Int):FV K O H (.int i) (.int i)
 | str (l:List Nat):l.length<=1000000->FV K O H (.str (S l)) (.str l)
 | ty (n:String):FV K O H (.ty n) (.ty n)
 | scr {a:Addr}{ns:List Int}:qb K O H a (ns.map V.int)->FV K O H (.ref a) (.scr ns)
 | lst {a:Addr}{xs:List V}{ds:List D}:¬ O a->H a=some (.lst xs)->FVs K O H xs ds->FV K O H (.ref a) (.lst ds)
 | tup {a:Addr}{xs:List V}{ds:List D}:¬ O a->H a=some (.tup xs)->FVs K O H xs ds->FV K O H (.ref a) (.tup ds)
 | dic {a:Addr}{kvs:List (Key×V)}{ks:List Key}{ds:List D}:¬ O a->H a=some (.dK kvs)->kvs.map Prod.fst=ks->FVs K O H (kvs.map Prod.snd) ds->FV K O H (.ref a) (.dic ks ds)
 | obj {a dx:Addr}{c:Str}{fs:List (Str×V)}{ns:List Str}{ds:List D}:¬ O a->H a=some (.ins (ja K c) dx fs)->fs.map Prod.fst=ns->FVs K O H (fs.map Prod.snd) ds->FV K O H (.ref a) (.obj c ns ds)
 | exc0 {a:Addr}{c:Str}{new:Bool}:¬ O a->H a=some (.ext (XAt a (ja K c) none new))->FV K O H (.ref a) (.exc c [] [])
 | exc1 {a dx:Addr}{c:Str}{new:Bool}{fs:List (Str×V)}{ns:List Str}{ds:List D}:¬ O a->¬ O dx->H a=some (.ext (XAt a (ja K c) (some dx) new))->H dx=some (.xd fs)->fs.map Prod.fst=ns->FVs K O H (fs.map Prod.snd) ds->FV K O H (.ref a) (.exc c ns ds)
inductive FVs (K:PySem.W.Frag) (O:Addr->Prop) (H:Hp):List V->List D->Prop
 | nil:FVs K O H [] []
 | cons {x:V}{d:D}{xs:List V}{ds:List D}:FV K O H x d->FVs K O H xs ds->FVs K O H (x::xs) (d::ds)
end
section
variable {K:PySem.W.Frag}{O O':Addr->Prop}{H H':Hp}
mutual
theorem FV.keeps (k:aD O H O' H'):∀{v:V}{d:D},FV K O H v d->FV K O' H' v d
 | _,_,.non=>.non
 | _,_,.bl b=>.bl b
 | _,_,.int i=>.int i
 | _,_,.str l h=>.str l h
 | _,_,.ty n=>.ty n
 | _,_,.scr s=>.scr (s.keeps k)
 | _,_,.lst n e f=>.lst (k _ _ n e).1 (k _ _ n e).2 (FVs.keeps k f)
 | _,_,.tup n e f=>.tup (k _ _ n e).1 (k _ _ n e).2 (FVs.keeps k f)
 | _,_,.dic n e m f=>.dic (k _ _ n e).1 (k _ _ n e).2 m (FVs.keeps k f)
 | _,_,.obj n e m f=>.obj (k _ _ n e).1 (k _ _ n e).2 m (FVs.keeps k f)
 | _,_,.exc0 n e=>.exc0 (k _ _ n e).1 (k _ _ n e).2
 | _,_,.exc1 n n2 e e2 m f=>.exc1 (k _ _ n e).1 (k _ _ n2 e2).1 (k _ _ n e).2 (k _ _ n2 e2).2 m (FVs.keeps k f)
theorem FVs.keeps (k:aD O H O' H'):∀{vs:List V}{ds:List D},FVs K O H vs ds->FVs K O' H' vs ds
 | _,_,.nil=>.nil
 | _,_,.cons a b=>.cons (FV.keeps k a) (FVs.keeps k b)
end
theorem FVs.length:∀{vs:List V}{ds:List D},FVs K O H vs ds->vs.length=ds.length
 | _,_,.nil=>rfl
 | _,_,.cons _ b=>by rw [List.length_cons,List.length_cons,b.length]
theorem FVs.get:∀{vs:List V}{ds:List D}{i:Nat}{v:V},FVs K O H vs ds->vs[i]?=some v->∃d,ds[i]?=some d/\FV K O H v d
 | _,_,0,_,.cons a _,e=>by simp at e;subst e;exact ⟨_,rfl,a⟩
 | _,_,i + 1,v,.cons _ b,e=>by
  obtain ⟨d,h1,h2⟩:=b.get (i:=i) (v:=v) (by simpa using e)
  exact ⟨d,by simpa using h1,h2⟩
theorem FVs.getD:∀{vs:List V}{ds:List D}{i:Nat}{d:D},FVs K O H vs ds->ds[i]?=some d->∃v,vs[i]?=some v/\FV K O H v d
 | _,_,0,_,.cons a _,e=>by simp at e;subst e;exact ⟨_,rfl,a⟩
 | _,_,i + 1,v,.cons _ b,e=>by
  obtain ⟨d,h1,h2⟩:=b.getD (i:=i) (d:=v) (by simpa using e)
  exact ⟨d,by simpa using h1,h2⟩
theorem FVs.append:∀{vs ws:List V}{ds es:List D},FVs K O H vs ds->FVs K O H ws es->FVs K O H (vs++ws) (ds++es)
 | _,_,_,_,.nil,s=>s
 | _,_,_,_,.cons a b,s=>.cons a (b.append s)
theorem FVs.set {v:V}{d:D} (f:FV K O H v d):∀{vs:List V}{ds:List D} (i:Nat),FVs K O H vs ds->FVs K O H (vs.set i v) (ds.set i d)
 | _,_,_,.nil=>.nil
 | _,_,0,.cons _ t=>.cons f t
 | _,_,i + 1,.cons q t=>.cons q (FVs.set f i t)
theorem FVs.take:∀{vs:List V}{ds:List D} (n:Nat),FVs K O H vs ds->FVs K O H (vs.take n) (ds.take n)
 | _,_,0,_=>.nil
 | _,_,_ + 1,.nil=>.nil
 | _,_,n + 1,.cons r t=>.cons r (t.take n)
theorem FVs.drop:∀{vs:List V}{ds:List D} (n:Nat),FVs K O H vs ds->FVs K O H (vs.drop n) (ds.drop n)
 | _,_,0,r=>r
 | _,_,_ + 1,.nil=>.nil
 | _,_,n + 1,.cons _ t=>t.drop n
theorem FVs.reverse:∀{vs:List V}{ds:List D},FVs K O H vs ds->FVs K O H vs.reverse ds.reverse
 | _,_,.nil=>.nil
 | _,_,.cons r t=>by rw [List.reverse_cons,List.reverse_cons];exact t.reverse.append (.cons r .nil)
theorem FVs.of_ints:∀ns:List Int,FVs K O H (ns.map V.int) (ns.map D.int)
 | []=>.nil
 | n::r=>.cons (.int n) (FVs.of_ints r)
theorem FVs.bls:∀{vs:List V}{bs:List Bool},FVs K O H vs (bs.map D.bl)->vs=bs.map V.bl
 | _,[],.nil=>rfl
 | _,n::r,h=>by
  cases h with
  | cons a b=>cases a;rw [FVs.bls b];rfl
end
inductive PV where
 | dat (d:D) | own (ds:List D) | ins (c:Str) (ns:List Str) (ds:List D)
def PV.isOwn:PV->Bool
 | .dat _=>false
 | _=>true
def PV.d:PV->D
 | .dat d=>d
 | .own ds=>.lst ds
 | .ins c ns ds=>.obj c ns ds
abbrev PSt:=List (Option PV)
def Wr (ρ:PSt) (σ:St) (b:Addr):Prop:=∃(i:Nat) (p:PV),ρ[i]?=some (some p)/\p.isOwn=true/\σ[i]?=some (some (.ref b))
def OO (A:Addr->Prop) (ρ:PSt) (σ:St) (b:Addr):Prop:=A b\/Wr ρ σ b
def RS (K:PySem.W.Frag) (O:Addr->Prop) (H:Hp):PV->V->Prop
 | .dat d,v=>FV K O H v d
 | .own ds,v=>∃a xs,v=.ref a/\H a=some (.lst xs)/\FVs K O H xs ds
 | .ins c ns ds,v=>∃a dx fs,v=.ref a/\H a=some (.ins (ja K c) dx fs)/\fs.map Prod.fst=ns/\FVs K O H (fs.map Prod.snd) ds
structure Rel (K:PySem.W.Frag) (A:Addr->Prop) (ρ:PSt) (σ:St) (H:Hp):Prop where
 len:ρ.length=σ.length
 get:∀(i:Nat) (p:PV),ρ[i]?=some (some p)->∃v,σ[i]?=some (some v)/\RS K (OO A ρ σ) H p v
 dj:∀(i j:Nat) (p q:PV) (v:V),ρ[i]?=some (some p)->ρ[j]?=some (some q)->p.isOwn=true->q.isOwn=true->σ[i]?=some (some v)->σ[j]?=some (some v)->i=j
 dom:∀b,A b->H b≠none
 sep:∀b,A b->¬ Wr ρ σ b
structure Fr (ρ:PSt) (σ:St) (H:Hp) (ρ':PSt) (H':Hp):Prop where
 kp:∀b o,¬ Wr ρ σ b->H b=some o->H' b=some o
 dm:∀b,H b≠none->H' b≠none
 ow:∀b,Wr ρ' σ b->Wr ρ σ b
theorem Fr.refl (ρ:PSt) (σ:St) (H:Hp):Fr ρ σ H ρ H:=⟨fun _ _ _ h=>h,fun _ h=>h,fun _ h=>h⟩
theorem Fr.trans {ρ ρ1 ρ2:PSt}{σ:St}{H H1 H2:Hp} (a:Fr ρ σ H ρ1 H1) (b:Fr ρ1 σ H1 ρ2 H2):Fr ρ σ H ρ2 H2 :=
 ⟨fun c o n h=>b.kp c o (fun z=>n (a.ow c z)) (a.kp c o n h),fun c h=>b.dm c (a.dm c h),fun c h=>a.ow c (b.ow c h)⟩
theorem Fr.keeps {ρ ρ':PSt}{σ:St}{H H':Hp}{A:Addr->Prop} (f:Fr ρ σ H ρ' H'):aD (OO A ρ σ) H (OO A ρ' σ) H':=fun b o n h =>
 ⟨fun z=>z.elim (fun z=>n (.inl z)) (fun z=>n (.inr (f.ow b z))),f.kp b o (fun z=>n (.inr z)) h⟩
theorem Fr.new {ρ:PSt}{σ:St}{H:Hp}{p:Addr}{o:HO} (h:H p=none):Fr ρ σ H ρ (upd H p o) :=
 ⟨fun b u _ e=>by rw [ao (aO e h)];exact e,fun b e=>by
  by_cases z:b=p
  .rw [z,aJ];exact nofun
  .rw [ao z];exact e,fun _ h=>h⟩
theorem aD.fresh {O:Addr->Prop}{H:Hp}{p:Addr}{o:HO} (h:H p=none):aD O H (cQ O p) (upd H p o):=fun b u n e =>
 ⟨fun z=>z.elim n (fun z=>by rw [z,h] at e;cases e),by rw [ao (aO e h)];exact e⟩
theorem aD.less {O O':Addr->Prop}{H:Hp} (h:∀b,O' b->O b):aD O H O' H:=fun b o n e=>⟨fun z=>n (h b z),e⟩
theorem RS.keeps {K:PySem.W.Frag}{O O':Addr->Prop}{H H':Hp}{p:PV}{v:V} (k:aD O H O' H') (w:p.isOwn=true->∀a,v=.ref a->H' a=H a) (h:RS K O H p v):RS K O' H' p v:=by
 cases p with
 | dat d=>exact FV.keeps k h
 | own ds =>
  obtain ⟨a,xs,e,g,f⟩:=h
  exact ⟨a,xs,e,by rw [w rfl a e];exact g,f.keeps k⟩
 | ins c ns ds =>
  obtain ⟨a,dx,fs,e,g,m,f⟩:=h
  exact ⟨a,dx,fs,e,by rw [w rfl a e];exact g,m,f.keeps k⟩
theorem RS.ref {K:PySem.W.Frag}{O:Addr->Prop}{H:Hp}{p:PV}{v:V} (h:RS K O H p v) (o:p.isOwn=true):∃a u,v=.ref a/\H a=some u:=by
 cases p with
 | dat d=>cases o
 | own ds=>obtain ⟨a,xs,e,g,f⟩:=h;exact ⟨a,_,e,g⟩
 | ins c ns ds=>obtain ⟨a,dx,fs,e,g,m,f⟩:=h;exact ⟨a,_,e,g⟩
theorem Rel.wr {K:PySem.W.Frag}{A:Addr->Prop}{ρ:PSt}{σ:St}{H:Hp} (R:Rel K A ρ σ H) {b:Addr} (h:Wr ρ σ b):H b≠none:=by
 obtain ⟨i,p,e,o,s⟩:=h
 obtain ⟨v,s',r⟩:=R.get i p e
 rw [s] at s';cases s'
 obtain ⟨a,u,e1,e2⟩:=r.ref o
 cases e1
 rw [e2];exact nofun
theorem Rel.oo {K:PySem.W.Frag}{A:Addr->Prop}{ρ:PSt}{σ:St}{H:Hp} (R:Rel K A ρ σ H) {b:Addr} (h:H b=none):¬ OO A ρ σ b:=fun z=>z.elim (fun z=>R.dom b z h) (fun z=>R.wr z h)
theorem Rel.grow {K:PySem.W.Frag}{A:Addr->Prop}{ρ:PSt}{σ:St}{H:Hp} (R:Rel K A ρ σ H) {p:Addr}{o:HO} (h:H p=none):Rel K A ρ σ (upd H p o):=by
 have k:aD (OO A ρ σ) H (OO A ρ σ) (upd H p o):=Fr.keeps (Fr.new h)
 refine ⟨R.len,fun i q e=>?_,R.dj,fun b z=>(Fr.new (ρ:=ρ) (σ:=σ) h).dm b (R.dom b z),R.sep⟩
 obtain ⟨v,s,r⟩:=R.get i q e
 refine ⟨v,s,r.keeps k fun ow a ea=>?_⟩
 obtain ⟨a',u,e1,e2⟩:=r.ref ow
 rw [ea] at e1;cases e1
 rw [ao (aO e2 h)]
theorem Rel.less {K:PySem.W.Frag}{A A':Addr->Prop}{ρ:PSt}{σ:St}{H:Hp} (R:Rel K A ρ σ H) (h:∀b,A' b->A b):Rel K A' ρ σ H:=by
 refine ⟨R.len,fun i q e=>?_,R.dj,fun b z=>R.dom b (h b z),fun b z=>R.sep b (h b z)⟩
 obtain ⟨v,s,r⟩:=R.get i q e
 exact ⟨v,s,r.keeps (aD.less fun b z=>z.imp (h b) id) fun _ _ _=>rfl⟩
theorem Rel.write {K:PySem.W.Frag}{A:Addr->Prop}{ρ:PSt}{σ:St}{H:Hp} (R:Rel K A ρ σ H) {i:Nat}{p q:PV}{a:Addr}{o:HO} (e:ρ[i]?=some (some p)) (ow:p.isOwn=true) (ow':q.isOwn=true) (es:σ[i]?=some (some (.ref a)))
  (new:RS K (OO A ρ σ) (upd H a o) q (.ref a)):Rel K A (ρ.set i (some q)) σ (upd H a o)/\Fr ρ σ H (ρ.set i (some q)) (upd H a o):=by
 have hi:i < ρ.length:=(List.getElem?_eq_some_iff.mp e).1
 have wa:Wr ρ σ a:=⟨i,p,e,ow,es⟩
 have weq:∀b,Wr (ρ.set i (some q)) σ b ↔ Wr ρ σ b:=fun b=>by
  constructor
  .rintro ⟨j,r,e1,o1,s1⟩
   by_cases z:i=j
   .subst z;exact ⟨i,p,e,ow,s1⟩
   .rw [List.getElem?_set_ne z] at e1;exact ⟨j,r,e1,o1,s1⟩
  .rintro ⟨j,r,e1,o1,s1⟩
   by_cases z:i=j
   .subst z;exact ⟨i,q,List.getElem?_set_self hi,ow',s1⟩
   .exact ⟨j,r,by rw [List.getElem?_set_ne z];exact e1,o1,s1⟩
 have oeq:OO A (ρ.set i (some q)) σ=OO A ρ σ:=funext fun b=>propext (or_congr Iff.rfl (weq b))
 have kp:∀b u,¬ Wr ρ σ b->H b=some u->upd H a o b=some u:=fun b u n h=>by rw [ao (fun z=>n (by rw [z];exact wa))];exact h
 have k:aD (OO A ρ σ) H (OO A ρ σ) (upd H a o):=fun b u n h=>⟨n,kp b u (fun z=>n (.inr z)) h⟩
 have dm:∀b,H b≠none->upd H a o b≠none:=fun b n=>by
  by_cases z:b=a
  .rw [z,aJ];exact nofun
  .rw [ao z];exact n
 refine ⟨⟨by rw [List.length_set];exact R.len,fun j r e1=>?_,fun j l p1 q1 v e1 e2 o1 o2 s1 s2=>?_,fun b z=>dm b (R.dom b z),fun b z w=>R.sep b z ((weq b).mp w)⟩,⟨kp,dm,fun b w=>(weq b).mp w⟩⟩
 .rw [oeq]
  by_cases z:i=j
  .subst z
   rw [List.getElem?_set_self hi] at e1
   cases e1
   exact ⟨_,es,new⟩
  .rw [List.getElem?_set_ne z] at e1
   obtain ⟨v,s,rr⟩:=R.get j r e1
   refine ⟨v,s,rr.keeps k fun ow2 b eb=>?_⟩
   rw [ao]
   intro zz
   subst zz
   rw [eb] at s
   exact z (R.dj i j p r _ e e1 ow ow2 es s)
 .have ex:∀(m:Nat) (x:PV),(ρ.set i (some q))[m]?=some (some x)->x.isOwn=true->∃y:PV,ρ[m]?=some (some y)/\y.isOwn=true:=fun m x em ox=>by
   by_cases z:i=m
   .subst z;exact ⟨p,e,ow⟩
   .rw [List.getElem?_set_ne z] at em;exact ⟨x,em,ox⟩
  obtain ⟨y1,h1,h2⟩:=ex j p1 e1 o1
  obtain ⟨y2,h3,h4⟩:=ex l q1 e2 o2
  exact R.dj j l y1 y2 v h1 h3 h2 h4 s1 s2
theorem Rel.frz {K:PySem.W.Frag}{A:Addr->Prop}{ρ:PSt}{σ:St}{H:Hp} (R:Rel K A ρ σ H) {i:Nat}{p:PV} (e:ρ[i]?=some (some p)) :
  Rel K A (ρ.set i (some (.dat p.d))) σ H/\Fr ρ σ H (ρ.set i (some (.dat p.d))) H:=by
 have hi:i < ρ.length:=(List.getElem?_eq_some_iff.mp e).1
 have ex:∀(m:Nat) (x:PV),(ρ.set i (some (.dat p.d)))[m]?=some (some x)->x.isOwn=true->m≠i/\ρ[m]?=some (some x):=fun m x em ox=>by
  by_cases z:i=m
  .subst z;rw [List.getElem?_set_self hi] at em;cases em;cases ox
  .rw [List.getElem?_set_ne z] at em;exact ⟨fun q=>z q.symm,em⟩
 have ow:∀b,Wr (ρ.set i (some (.dat p.d))) σ b->Wr ρ σ b:=fun b ⟨j,r,e1,o1,s1⟩=>⟨j,r,(ex j r e1 o1).2,o1,s1⟩
 have k:aD (OO A ρ σ) H (OO A (ρ.set i (some (.dat p.d))) σ) H:=aD.less fun b z=>z.imp id (ow b)
 refine ⟨⟨by rw [List.length_set];exact R.len,fun j r e1=>?_,fun j l p1 q1 v e1 e2 o1 o2 s1 s2=>R.dj j l p1 q1 v (ex j p1 e1 o1).2 (ex l q1 e2 o2).2 o1 o2 s1 s2,R.dom,fun b z w=>R.sep b z (ow b w)⟩,⟨fun _ _ _ h=>h,fun _ h=>h,ow⟩⟩
 by_cases z:i=j
 .subst z
  rw [List.getElem?_set_self hi] at e1
  cases e1
  obtain ⟨v,s,r⟩:=R.get i p e
  refine ⟨v,s,?_⟩
  have na:∀a,v=.ref a->p.isOwn=true->¬ OO A (ρ.set i (some (.dat p.d))) σ a:=fun a ea oo z=>by
   subst ea
   rcases z with z | ⟨j,r,e1,o1,s1⟩
   .exact R.sep a z ⟨i,p,e,oo,s⟩
   .obtain ⟨n1,n2⟩:=ex j r e1 o1
    exact n1 (R.dj j i r p _ n2 e o1 oo s1 s)
  cases p with
  | dat d=>exact FV.keeps k r
  | own ds =>
   obtain ⟨a,xs,rfl,g,f⟩:=r
   exact .lst (na a rfl rfl) g (f.keeps k)
  | ins c ns ds =>
   obtain ⟨a,dx,fs,rfl,g,m,f⟩:=r
   exact .obj (na a rfl rfl) g m (f.keeps k)
 .rw [List.getElem?_set_ne z] at e1
  obtain ⟨v,s,r⟩:=R.get j _ e1
  exact ⟨v,s,r.keeps k fun _ _ _=>rfl⟩
abbrev PKt:=PV->PSt->Prop
abbrev PTE:=PSt->PKt->Prop
abbrev PTT:=PSt->(Bool->PSt->Prop)->Prop
inductive AV where
 | v (d:D) | sl (i:Nat)
abbrev PA1:=PSt->(AV->PSt->Prop)->Prop
abbrev PTA:=PSt->(List AV->PSt->Prop)->Prop
def Out (K:PySem.W.Frag) (A:Addr->Prop) (ρ:PSt) (σ:St) (H0 H:Hp):PV->V->Prop
 | .dat d,v=>Rel K A ρ σ H/\FV K (OO A ρ σ) H v d
 | .own ds,v=>∃a xs,v=.ref a/\¬ A a/\H0 a=none/\H a=some (.lst xs)/\Rel K (cQ A a) ρ σ H/\FVs K (OO (cQ A a) ρ σ) H xs ds
 | .ins c ns ds,v=>∃a dx fs,v=.ref a/\¬ A a/\H0 a=none/\H a=some (.ins (ja K c) dx fs)/\fs.map Prod.fst=ns/\Rel K (cQ A a) ρ σ H/\FVs K (OO (cQ A a) ρ σ) H (fs.map Prod.snd) ds
def LE (K:PySem.W.Frag) (te:TE) (pe:PTE):Prop:=∀(A:Addr->Prop) (ρ:PSt) (σ:St) (H:Hp) (Q:PKt) (Q':VK),Rel K A ρ σ H->pe ρ Q ->
 (∀v H' p ρ',Q p ρ'->Fr ρ σ H ρ' H'->Out K A ρ' σ H H' p v->Q' v H')->te σ H Q'
def LT (K:PySem.W.Frag) (tt:TT) (pt:PTT):Prop:=∀(A:Addr->Prop) (ρ:PSt) (σ:St) (H:Hp) (Q:Bool->PSt->Prop) (Q':Bool->Hp->Prop),Rel K A ρ σ H->pt ρ Q ->
 (∀b H' ρ',Q b ρ'->Fr ρ σ H ρ' H'->Rel K A ρ' σ H'->Q' b H')->tt σ H Q'
def AOk (K:PySem.W.Frag) (O:Addr->Prop) (σ:St) (H:Hp):AV->V->Prop
 | .v d,v=>FV K O H v d
 | .sl i,v=>σ[i]?=some (some v)
def LA1 (K:PySem.W.Frag) (te:TE) (pa:PA1):Prop:=∀(A:Addr->Prop) (ρ:PSt) (σ:St) (H:Hp) (Q:AV->PSt->Prop) (Q':VK),Rel K A ρ σ H->pa ρ Q ->
 (∀v H' av ρ',Q av ρ'->Fr ρ σ H ρ' H'->Rel K A ρ' σ H'->AOk K (OO A ρ' σ) σ H' av v->Q' v H')->te σ H Q'
inductive oX (K:PySem.W.Frag) (O:Addr->Prop) (σ:St) (H:Hp):List AV->List V->Prop
 | nil:oX K O σ H [] []
 | cons {a:AV}{v:V}{as:List AV}{vs:List V}:AOk K O σ H a v->oX K O σ H as vs->oX K O σ H (a::as) (v::vs)
def LAs (K:PySem.W.Frag) (ta:TA) (pa:PTA):Prop:=∀(A:Addr->Prop) (ρ:PSt) (σ:St) (H:Hp) (Q:List AV->PSt->Prop) (Q':List V->Hp->Prop),Rel K A ρ σ H->pa ρ Q ->
 (∀vs H' as ρ',Q as ρ'->Fr ρ σ H ρ' H'->Rel K A ρ' σ H'->oX K (OO A ρ' σ) σ H' as vs->Q' vs H')->ta σ H Q'
section
variable {K:PySem.W.Frag}{A O O':Addr->Prop}{ρ ρ':PSt}{σ:St}{H H' H0:Hp}
theorem AOk.keeps {a:AV}{v:V} (k:aD O H O' H') (h:AOk K O σ H a v):AOk K O' σ H' a v:=by
 cases a with
 | v d=>exact FV.keeps k h
 | sl i=>exact h
theorem Out.frz {p:PV}{v:V} (h:Out K A ρ σ H0 H p v):Rel K A ρ σ H/\FV K (OO A ρ σ) H v p.d:=by
 cases p with
 | dat d=>exact h
 | own ds =>
  obtain ⟨a,xs,rfl,na,_,e,R,f⟩:=h
  refine ⟨R.less fun b z=>.inl z,.lst (fun z=>?_) e (f.keeps (aD.less fun b z=>z.imp .inl id))⟩
  exact z.elim na (fun z=>R.sep a (.inr rfl) z)
 | ins c ns ds =>
  obtain ⟨a,dx,fs,rfl,na,_,e,m,R,f⟩:=h
  refine ⟨R.less fun b z=>.inl z,.obj (fun z=>?_) e m (f.keeps (aD.less fun b z=>z.imp .inl id))⟩
  exact z.elim na (fun z=>R.sep a (.inr rfl) z)
theorem Out.h0 {p:PV}{v:V}{H1:Hp} (h:Out K A ρ σ H0 H p v) (dm:∀b,H1 b≠none->H0 b≠none):Out K A ρ σ H1 H p v:=by
 have k:∀a,H0 a=none->H1 a=none:=fun a e=>by
  cases z:H1 a with
  | none=>rfl
  | some o=>exact absurd e (dm a (by rw [z];exact nofun))
 cases p with
 | dat d=>exact h
 | own ds=>obtain ⟨a,xs,e1,na,e2,r⟩:=h;exact ⟨a,xs,e1,na,k a e2,r⟩
 | ins c ns ds=>obtain ⟨a,dx,fs,e1,na,e2,r⟩:=h;exact ⟨a,dx,fs,e1,na,k a e2,r⟩
def Gr (H H':Hp):Prop:=∀b o,H b=some o->H' b=some o
theorem Gr.fr (g:Gr H H'):Fr ρ σ H ρ H':=⟨fun b o _ h=>g b o h,fun b h=>by
 cases e:H b with
 | none=>exact absurd e h
 | some o=>rw [g b o e];exact nofun,fun _ h=>h⟩
theorem Gr.new {p:Addr}{o:HO} (h:H p=none):Gr H (upd H p o):=fun b u e=>by rw [ao (aO e h)];exact e
theorem Gr.refl (H:Hp):Gr H H:=fun _ _ h=>h
theorem Rel.gr (R:Rel K A ρ σ H) (g:Gr H H'):Rel K A ρ σ H':=by
 refine ⟨R.len,fun i q e=>?_,R.dj,fun b z=>(g.fr (ρ:=ρ) (σ:=σ)).dm b (R.dom b z),R.sep⟩
 obtain ⟨v,s,r⟩:=R.get i q e
 refine ⟨v,s,r.keeps (g.fr (ρ:=ρ) (σ:=σ)).keeps fun ow a ea=>?_⟩
 obtain ⟨a',u,e1,e2⟩:=r.ref ow
 rw [ea] at e1;cases e1
 rw [e2];exact g _ _ e2
theorem Rel.grA (R:Rel K A ρ σ H) (g:Gr H H') {p:Addr} (h:H p=none) (h':H' p≠none):Rel K (cQ A p) ρ σ H':=by
 have k:aD (OO A ρ σ) H (OO (cQ A p) ρ σ) H':=fun b u n e=>by
  refine ⟨fun z=>?_,g _ _ e⟩
  rcases z with (z | z) | z
  .exact n (.inl z)
  .rw [z,h] at e;cases e
  .exact n (.inr z)
 refine ⟨R.len,fun i q e=>?_,R.dj,fun b z=>?_,fun b z w=>?_⟩
 .obtain ⟨v,s,r⟩:=R.get i q e
  refine ⟨v,s,r.keeps k fun ow a ea=>?_⟩
  obtain ⟨a',u,e1,e2⟩:=r.ref ow
  rw [ea] at e1;cases e1
  rw [e2];exact g _ _ e2
 .rcases z with z | z
  .exact (g.fr (ρ:=ρ) (σ:=σ)).dm b (R.dom b z)
  .rw [z];exact h'
 .rcases z with z | z
  .exact R.sep b z w
  .exact R.wr w (by rw [z];exact h)
def iR (K:PySem.W.Frag) (O:Addr->Prop) (H0 H:Hp):PV->V->Prop
 | .dat d,v=>FV K O H v d
 | .own ds,v=>∃a xs,v=.ref a/\H0 a=none/\H a=some (.lst xs)/\FVs K (cQ O a) H xs ds
 | .ins c ns ds,v=>∃a dx fs,v=.ref a/\H0 a=none/\H a=some (.ins (ja K c) dx fs)/\fs.map Prod.fst=ns/\FVs K (cQ O a) H (fs.map Prod.snd) ds
theorem iR.out {p:PV}{v:V} (R:Rel K A ρ σ H) (g:Gr H H') (h:iR K (OO A ρ σ) H H' p v):Out K A ρ σ H H' p v:=by
 cases p with
 | dat d=>exact ⟨R.gr g,h⟩
 | own ds =>
  obtain ⟨a,xs,rfl,e0,e,f⟩:=h
  refine ⟨a,xs,rfl,fun z=>R.dom a z e0,e0,e,R.grA g e0 (by rw [e];exact nofun),f.keeps (aD.less fun b z=>?_)⟩
  rcases z with (z | z) | z
  .exact .inl (.inl z)
  .exact .inr z
  .exact .inl (.inr z)
 | ins c ns ds =>
  obtain ⟨a,dx,fs,rfl,e0,e,m,f⟩:=h
  refine ⟨a,dx,fs,rfl,fun z=>R.dom a z e0,e0,e,m,R.grA g e0 (by rw [e];exact nofun),f.keeps (aD.less fun b z=>?_)⟩
  rcases z with (z | z) | z
  .exact .inl (.inl z)
  .exact .inr z
  .exact .inl (.inr z)
def FVc (K:PySem.W.Frag) (O:Addr->Prop) (H:Hp) (v:V) (d:D):Prop:=FV K O H v d\/(∃a xs ds,v=.ref a/\d=.lst ds/\H a=some (.lst xs)/\FVs K O H xs ds) \/
 ∃a dx c fs ns ds,v=.ref a/\d=.obj c ns ds/\H a=some (.ins (ja K c) dx fs)/\fs.map Prod.fst=ns/\FVs K O H (fs.map Prod.snd) ds
def cont (ρ:PSt):AV->Option D
 | .v d=>some d
 | .sl i=>match ρ[i]? with | some (some p)=>some p.d | _=>none
theorem Rel.cont {av:AV}{v:V}{d:D} (R:Rel K A ρ σ H) (h:AOk K (OO A ρ σ) σ H av v) (e:L2.cont ρ av=some d):FVc K (OO A ρ σ) H v d:=by
 cases av with
 | v d'=>cases e;exact .inl h
 | sl i =>
  have h:σ[i]?=some (some v):=h
  simp only [L2.cont] at e
  split at e
  .rename_i p ep
   cases e
   obtain ⟨v',s,r⟩:=R.get i p ep
   rw [h] at s;cases s
   cases p with
   | dat d=>exact .inl r
   | own ds=>obtain ⟨a,xs,e1,e2,f⟩:=r;exact .inr (.inl ⟨a,xs,ds,e1,rfl,e2,f⟩)
   | ins c ns ds=>obtain ⟨a,dx,fs,e1,e2,m,f⟩:=r;exact .inr (.inr ⟨a,dx,c,fs,ns,ds,e1,rfl,e2,m,f⟩)
  .cases e
theorem FVc.lst {v:V}{ds:List D} (h:FVc K O H v (.lst ds)):∃a xs,v=.ref a/\H a=some (.lst xs)/\FVs K O H xs ds:=by
 rcases h with h | ⟨a,xs,ds',e1,e2,e3,f⟩ | ⟨a,dx,c,fs,ns,ds',e1,e2,_⟩
 .cases h with
  | lst n s f=>exact ⟨_,_,rfl,s,f⟩
 .cases e2;exact ⟨a,xs,e1,e3,f⟩
 .cases e2
theorem FVc.fv {v:V}{d:D} (h:FVc K O H v d) (n:∀ds,d≠.lst ds) (n':∀c ns ds,d≠.obj c ns ds):FV K O H v d:=by
 rcases h with h | ⟨a,xs,ds',e1,e2,e3,f⟩ | ⟨a,dx,c,fs,ns,ds',e1,e2,_⟩
 .exact h
 .exact absurd e2 (n _)
 .exact absurd e2 (n' _ _ _)
theorem FVc.tup {v:V}{ds:List D} (h:FVc K O H v (.tup ds)):∃a xs,v=.ref a/\¬ O a/\H a=some (.tup xs)/\FVs K O H xs ds:=by
 cases h.fv nofun nofun with
 | tup n s f=>exact ⟨_,_,rfl,n,s,f⟩
theorem FVc.scr {v:V}{ns:List Int} (h:FVc K O H v (.scr ns)):∃a,v=.ref a/\SqL K H a (ns.map V.int):=by
 cases h.fv nofun nofun with
 | scr s=>exact ⟨_,rfl,s.sq⟩
theorem FVc.int {v:V}{i:Int} (h:FVc K O H v (.int i)):v=.int i:=by cases h.fv nofun nofun;rfl
theorem FVc.bl {v:V}{i:Bool} (h:FVc K O H v (.bl i)):v=.bl i:=by cases h.fv nofun nofun;rfl
theorem FVc.str {v:V}{i:List Nat} (h:FVc K O H v (.str i)):v=.str (S i)/\i.length<=1000000:=by
 cases h.fv nofun nofun with
 | str _ z=>exact ⟨rfl,z⟩
theorem FVc.non {v:V} (h:FVc K O H v .non):v=.non:=by cases h.fv nofun nofun;rfl
end
def pC (d:D):PTE:=fun ρ Q=>Q (.dat d) ρ
def cJ (i:Nat):PTE:=fun ρ Q=>match ρ[i]? with
 | some (some (.dat d))=>Q (.dat d) ρ
 | some (some (.own ds))=>Q (.dat (.lst ds)) (ρ.set i (some (.dat (.lst ds))))
 | some (some (.ins c ns ds))=>Q (.dat (.obj c ns ds)) (ρ.set i (some (.dat (.obj c ns ds))))
 | _=>False
def pSl (i:Nat):PA1:=fun ρ Q=>match ρ[i]? with
 | some (some (.dat d))=>Q (.v d) ρ
 | some (some (.own _))=>Q (.sl i) ρ
 | some (some (.ins _ _ _))=>Q (.sl i) ρ
 | _=>False
def pFz (pe:PTE):PA1:=fun ρ Q=>pe ρ fun p ρ1=>Q (.v p.d) ρ1
def ar:PTA:=fun ρ Q=>Q [] ρ
def af (pa:PA1) (pr:PTA):PTA:=fun ρ Q=>pa ρ fun a ρ1=>pr ρ1 fun as ρ2=>Q (a::as) ρ2
section
variable {K:PySem.W.Frag}{ta tb tc:TE}{pa pb pc:PA1}{pe pe':PTE}{tr:TA}{pr:PTA}
theorem sQ {v:V}{d:D} (h:∀O H,FV K O H v d):LE K (tC v) (pC d):=fun A ρ σ H Q Q' R q k=>k v H (.dat d) ρ q (Fr.refl _ _ _) ⟨R,h _ _⟩
theorem le_int {i:Int}:LE K (tC (.int i)) (pC (.int i)):=sQ fun _ _=>.int i
theorem dA {i:Bool}:LE K (tC (.bl i)) (pC (.bl i)):=sQ fun _ _=>.bl i
theorem rM:LE K (tC .non) (pC .non):=sQ fun _ _=>.non
theorem le_str {l:List Nat} (h:l.length<=1000000:=by decide):LE K (tC (.str (S l))) (pC (.str l)):=sQ fun _ _=>.str l h
theorem aI {i:Nat}:LE K (eE i) (cJ i):=by
 intro A ρ σ H Q Q' R q k
 unfold cJ at q
 split at q
 .rename_i d e
  obtain ⟨v,s,r⟩:=R.get i _ e
  exact ⟨v,s,k v H (.dat d) ρ q (Fr.refl _ _ _) ⟨R,r⟩⟩
 .rename_i ds e
  obtain ⟨R',f⟩:=R.frz e
  obtain ⟨v,s,r⟩:=R'.get i _ (List.getElem?_set_self (List.getElem?_eq_some_iff.mp e).1)
  exact ⟨v,s,k v H (.dat (.lst ds)) _ q f ⟨R',r⟩⟩
 .rename_i c ns ds e
  obtain ⟨R',f⟩:=R.frz e
  obtain ⟨v,s,r⟩:=R'.get i _ (List.getElem?_set_self (List.getElem?_eq_some_iff.mp e).1)
  exact ⟨v,s,k v H (.dat (.obj c ns ds)) _ q f ⟨R',r⟩⟩
 .exact q.elim
theorem am {i:Nat}:LA1 K (eE i) (pSl i):=by
 intro A ρ σ H Q Q' R q k
 unfold pSl at q
 split at q
 .rename_i d e
  obtain ⟨v,s,r⟩:=R.get i _ e
  exact ⟨v,s,k v H _ ρ q (Fr.refl _ _ _) R r⟩
 .rename_i e
  obtain ⟨v,s,r⟩:=R.get i _ e
  exact ⟨v,s,k v H _ ρ q (Fr.refl _ _ _) R s⟩
 .rename_i e
  obtain ⟨v,s,r⟩:=R.get i _ e
  exact ⟨v,s,k v H _ ρ q (Fr.refl _ _ _) R s⟩
 .exact q.elim
theorem ae (h:LE K ta pe):LA1 K ta (pFz pe):=fun A ρ σ H Q Q' R q k=>h A ρ σ H _ Q' R q fun v H' p ρ' q f o=>k v H' _ ρ' q f o.frz.1 o.frz.2
theorem ag:LAs K jE ar:=fun A ρ σ H Q Q' R q k=>k [] H [] ρ q (Fr.refl _ _ _) R .nil
theorem ac (h:LA1 K ta pa) (hr:LAs K tr pr):LAs K (bL ta tr) (af pa pr):=fun A ρ σ H Q Q' R q k =>
 h A ρ σ H _ _ R q fun v H1 a ρ1 q1 f1 R1 o1=>hr A ρ1 σ H1 _ _ R1 q1 fun vs H2 as ρ2 q2 f2 R2 o2=>k _ H2 _ ρ2 q2 (f1.trans f2) R2 (.cons (o1.keeps f2.keeps) o2)
def LO (K:PySem.W.Frag) (r:R2) (f:D->D->(PV->Prop)->Prop):Prop:=∀(O:Addr->Prop) (H:Hp) (x y:V) (a b:D) (Q:PV->Prop) (Q':VK),(∀b,O b->H b≠none)->FVc K O H x a->FVc K O H y b->f a b Q ->
 (∀v H' p,Q p->Gr H H'->iR K O H H' p v->Q' v H')->r x y H Q'
def op2 (f:D->D->(PV->Prop)->Prop) (ρ:PSt) (x y:AV) (Q:PKt):Prop:=match cont ρ x,cont ρ y with
 | some a,some b=>f a b fun p=>Q p ρ
 | _,_=>False
def pOp (f:D->D->(PV->Prop)->Prop) (pa pb:PA1):PTE:=fun ρ Q=>pa ρ fun x ρ1=>pb ρ1 fun y ρ2=>op2 f ρ2 x y Q
theorem Rel.dom2 {A:Addr->Prop}{ρ:PSt}{σ:St}{H:Hp} (R:Rel K A ρ σ H):∀b,OO A ρ σ b->H b≠none:=fun b z=>z.elim (R.dom b) R.wr
theorem ak {r:R2}{f:D->D->(PV->Prop)->Prop} (o:LO K r f) (ha:LA1 K ta pa) (hb:LA1 K tb pb):LE K (tOp r ta tb) (pOp f pa pb):=fun A ρ σ H Q Q' R q k =>
 ha A ρ σ H _ _ R q fun v H1 a ρ1 q1 f1 R1 o1=>hb A ρ1 σ H1 _ _ R1 q1 fun w H2 b ρ2 q2 f2 R2 o2=>by
  unfold op2 at q2
  split at q2
  .rename_i da db e1 e2
   exact o _ H2 v w da db _ _ R2.dom2 (R2.cont (o1.keeps f2.keeps) e1) (R2.cont o2 e2) q2 fun z H3 p q3 g ov=>k z H3 p ρ2 q3 ((f1.trans f2).trans g.fr) ((ov.out R2 g).h0 fun b z=>f2.dm b (f1.dm b z))
  .exact q2.elim
def LU (K:PySem.W.Frag) (r:V->Hp->VK->Prop) (f:D->(PV->Prop)->Prop):Prop:=∀(O:Addr->Prop) (H:Hp) (x:V) (a:D) (Q:PV->Prop) (Q':VK),(∀b,O b->H b≠none)->FVc K O H x a->f a Q ->
 (∀v H' p,Q p->Gr H H'->iR K O H H' p v->Q' v H')->r x H Q'
def op1 (f:D->(PV->Prop)->Prop) (ρ:PSt) (x:AV) (Q:PKt):Prop:=match cont ρ x with
 | some a=>f a fun p=>Q p ρ
 | _=>False
def pUn (f:D->(PV->Prop)->Prop) (pa:PA1):PTE:=fun ρ Q=>pa ρ fun x ρ1=>op1 f ρ1 x Q
theorem oY {r:V->Hp->VK->Prop}{f:D->(PV->Prop)->Prop} (o:LU K r f) (ha:LA1 K ta pa):LE K (tUn r ta) (pUn f pa):=fun A ρ σ H Q Q' R q k =>
 ha A ρ σ H _ _ R q fun v H1 a ρ1 q1 f1 R1 o1=>by
  unfold op1 at q1
  split at q1
  .rename_i da e1
   exact o _ H1 v da _ _ R1.dom2 (R1.cont o1 e1) q1 fun z H3 p q3 g ov=>k z H3 p ρ1 q3 (f1.trans g.fr) ((ov.out R1 g).h0 fun b z=>f1.dm b z)
  .exact q1.elim
inductive qc (K:PySem.W.Frag) (O:Addr->Prop) (H:Hp):List V->List D->Prop
 | nil:qc K O H [] []
 | cons {x:V}{d:D}{xs:List V}{ds:List D}:FVc K O H x d->qc K O H xs ds->qc K O H (x::xs) (d::ds)
def conts (ρ:PSt):List AV->Option (List D)
 | []=>some []
 | a::r=>match cont ρ a,conts ρ r with
  | some d,some ds=>some (d::ds)
  | _,_=>none
theorem Rel.conts {A:Addr->Prop}{ρ:PSt}{σ:St}{H:Hp} (R:Rel K A ρ σ H):∀{as:List AV}{vs:List V}{ds:List D},oX K (OO A ρ σ) σ H as vs->L2.conts ρ as=some ds->qc K (OO A ρ σ) H vs ds
 | _,_,_,.nil,e=>by cases e;exact .nil
 | _,_,_,.cons a b,e=>by
  unfold L2.conts at e
  split at e
  .rename_i e1 e2
   cases e
   exact .cons (R.cont a e1) (R.conts b e2)
  .cases e
def LC (K:PySem.W.Frag) (r:List V->Hp->VK->Prop) (f:List D->(PV->Prop)->Prop):Prop:=∀(O:Addr->Prop) (H:Hp) (xs:List V) (as:List D) (Q:PV->Prop) (Q':VK),(∀b,O b->H b≠none)->qc K O H xs as->f as Q ->
 (∀v H' p,Q p->Gr H H'->iR K O H H' p v->Q' v H')->r xs H Q'
def opN (f:List D->(PV->Prop)->Prop) (ρ:PSt) (as:List AV) (Q:PKt):Prop:=match conts ρ as with
 | some ds=>f ds fun p=>Q p ρ
 | _=>False
def pCB (f:List D->(PV->Prop)->Prop) (pr:PTA):PTE:=fun ρ Q=>pr ρ fun as ρ1=>opN f ρ1 as Q
theorem bM {r:List V->Hp->VK->Prop}{f:List D->(PV->Prop)->Prop} (o:LC K r f) (ha:LAs K tr pr):LE K (tCB r tr) (pCB f pr):=fun A ρ σ H Q Q' R q k =>
 ha A ρ σ H _ _ R q fun vs H1 as ρ1 q1 f1 R1 o1=>by
  unfold opN at q1
  split at q1
  .rename_i ds e1
   exact o _ H1 vs ds _ _ R1.dom2 (R1.conts o1 e1) q1 fun z H3 p q3 g ov=>k z H3 p ρ1 q3 (f1.trans g.fr) ((ov.out R1 g).h0 fun b z=>f1.dm b z)
  .exact q1.elim
def avD:List AV->Option (List D)
 | []=>some []
 | .v d::r=>match avD r with | some ds=>some (d::ds) | none=>none
 | .sl _::_=>none
theorem oX.avD {O:Addr->Prop}{σ:St}{H:Hp}:∀{as:List AV}{vs:List V}{ds:List D},oX K O σ H as vs->L2.avD as=some ds->FVs K O H vs ds
 | _,_,_,.nil,e=>by cases e;exact .nil
 | .v d::r,_,_,.cons a b,e=>by
  simp only [L2.avD] at e
  split at e
  .rename_i e1;cases e;exact .cons a (b.avD e1)
  .cases e
 | .sl i::r,_,_,.cons a b,e=>by cases e
def jK (pr:PTA):PTE:=fun ρ Q=>pr ρ fun as ρ1=>match avD as with
 | some ds=>ds.length<=1000000/\Q (.own ds) ρ1
 | _=>False
def uS (pr:PTA):PTE:=fun ρ Q=>pr ρ fun as ρ1=>match avD as with
 | some ds=>ds.length<=1000000/\Q (.dat (.tup ds)) ρ1
 | _=>False
theorem cq (ha:LAs K tr pr):LE K (uH tr) (jK pr):=fun A ρ σ H Q Q' R q k =>
 ha A ρ σ H _ _ R q fun vs H1 as ρ1 q1 f1 R1 o1=>by
  split at q1
  .rename_i ds e1
   have fs:=o1.avD e1
   refine ⟨sz _ (by rw [fs.length];exact q1.1),fun p hp=>k _ _ (.own ds) ρ1 q1.2 (f1.trans (Fr.new hp)) ?_⟩
   have g:Gr H1 (upd H1 p (.lst vs)):=Gr.new hp
   exact (iR.out (p:=.own ds) R1 g ⟨p,vs,rfl,hp,aJ,fs.keeps (aD.fresh hp)⟩).h0 fun b z=>f1.dm b z
  .exact q1.elim
theorem rN (ha:LAs K tr pr):LE K (uG tr) (uS pr):=fun A ρ σ H Q Q' R q k =>
 ha A ρ σ H _ _ R q fun vs H1 as ρ1 q1 f1 R1 o1=>by
  split at q1
  .rename_i ds e1
   have fs:=o1.avD e1
   refine ⟨sz _ (by rw [fs.length];exact q1.1),fun p hp=>k _ _ (.dat (.tup ds)) ρ1 q1.2 (f1.trans (Fr.new hp)) ⟨R1.grow hp,?_⟩⟩
   exact .tup (R1.oo hp) aJ (fs.keeps (Fr.new hp).keeps)
  .exact q1.elim
def pB (pe:PTE):PTT:=fun ρ Q=>pe ρ fun p ρ1=>match p with
 | .dat (.bl b)=>Q b ρ1
 | _=>False
theorem oZ (h:LE K ta pe):LT K (tB ta) (pB pe):=fun A ρ σ H Q Q' R q k=>h A ρ σ H _ _ R q fun v H1 p ρ1 q1 f1 o1=>by
 split at q1
 .rename_i b
  obtain ⟨R1,f⟩:=o1
  cases f
  exact ⟨b,rfl,k b H1 ρ1 q1 f1 R1⟩
 .exact q1.elim
theorem jb (h:LE K ta pe):LT K (ot ta) (pB pe):=oZ h
def sR (a b:PTT):PTT:=fun ρ Q=>a ρ fun c ρ1=>eH c (b ρ1 Q) (Q false ρ1)
def pOr (a b:PTT):PTT:=fun ρ Q=>a ρ fun c ρ1=>eH c (Q true ρ1) (b ρ1 Q)
def o0 (a:PTT):PTT:=fun ρ Q=>a ρ fun c ρ1=>Q (!c) ρ1
variable {tta ttb:TT}{pta ptb:PTT}
theorem lG (ha:LT K tta pta) (hb:LT K ttb ptb):LT K (uv tta ttb) (sR pta ptb):=fun A ρ σ H Q Q' R q k=>ha A ρ σ H _ _ R q fun c H1 ρ1 q1 f1 R1=>by
 cases c with
 | true=>exact hb A ρ1 σ H1 _ _ R1 q1 fun b H2 ρ2 q2 f2 R2=>k b H2 ρ2 q2 (f1.trans f2) R2
 | false=>exact k false H1 ρ1 q1 f1 R1
theorem mL (ha:LT K tta pta) (hb:LT K ttb ptb):LT K (tOr tta ttb) (pOr pta ptb):=fun A ρ σ H Q Q' R q k=>ha A ρ σ H _ _ R q fun c H1 ρ1 q1 f1 R1=>by
 cases c with
 | false=>exact hb A ρ1 σ H1 _ _ R1 q1 fun b H2 ρ2 q2 f2 R2=>k b H2 ρ2 q2 (f1.trans f2) R2
 | true=>exact k true H1 ρ1 q1 f1 R1
theorem fX (ha:LT K tta pta):LT K (sW tta) (o0 pta):=fun A ρ σ H Q Q' R q k=>ha A ρ σ H _ _ R q fun c H1 ρ1 q1 f1 R1=>k _ H1 ρ1 q1 f1 R1
def mM (a b:PTE):PTE:=fun ρ Q=>a ρ fun p ρ1=>match p with
 | .dat (.bl c)=>eH c (b ρ1 Q) (Q (.dat (.bl false)) ρ1)
 | _=>False
def rO (a:PTE):PTE:=fun ρ Q=>a ρ fun p ρ1=>match p with
 | .dat (.bl c)=>Q (.dat (.bl (!c))) ρ1
 | _=>False
theorem lH (ha:LE K ta pe) (hb:LE K tb pe'):LE K (n8 ta tb) (mM pe pe'):=fun A ρ σ H Q Q' R q k=>ha A ρ σ H _ _ R q fun v H1 p ρ1 q1 f1 o1=>by
 split at q1
 .rename_i c
  obtain ⟨R1,f⟩:=o1
  cases f
  refine ⟨c,rfl,?_⟩
  cases c with
  | true=>exact hb A ρ1 σ H1 _ _ R1 q1 fun b H2 p2 ρ2 q2 f2 o2=>k b H2 p2 ρ2 q2 (f1.trans f2) (o2.h0 fun b z=>f1.dm b z)
  | false=>exact k _ H1 _ ρ1 q1 f1 ⟨R1,.bl false⟩
 .exact q1.elim
theorem rP (ha:LE K ta pe):LE K (qE ta) (rO pe):=fun A ρ σ H Q Q' R q k=>ha A ρ σ H _ _ R q fun v H1 p ρ1 q1 f1 o1=>by
 split at q1
 .rename_i c
  obtain ⟨R1,f⟩:=o1
  cases f
  exact ⟨c,rfl,k _ H1 _ ρ1 q1 f1 ⟨R1,.bl (!c)⟩⟩
 .exact q1.elim
end
abbrev F2:=D->D->(PV->Prop)->Prop
def fI0 (g:Int->Int->D):F2
 | .int i,.int j,Q=>Q (.dat (g i j))
 | _,_,_=>False
def fI (C:Int->Int->Prop) (g:Int->Int->D):F2
 | .int i,.int j,Q=>C i j/\Q (.dat (g i j))
 | _,_,_=>False
section
variable {K:PySem.W.Frag}{X:Cx}
theorem o5 {g:Int->Int->V}{g':Int->Int->D} (h:∀i j O H,FV K O H (g i j) (g' i j)):LO K (rI0 g) (fI0 g'):=by
 intro O H x y a b Q Q' dom fx fy q k
 unfold fI0 at q
 split at q
 .rename_i i j;exact ⟨i,j,fx.int,fy.int,k _ H _ q (Gr.refl _) (h i j _ _)⟩
 .exact q.elim
theorem sS {C:Int->Int->Prop}{g:Int->Int->V}{g':Int->Int->D} (h:∀i j O H,FV K O H (g i j) (g' i j)):LO K (rI C g) (fI C g'):=by
 intro O H x y a b Q Q' dom fx fy q k
 unfold fI at q
 split at q
 .rename_i i j;exact ⟨i,j,fx.int,fy.int,q.1,k _ H _ q.2 (Gr.refl _) (h i j _ _)⟩
 .exact q.elim
theorem cj {O:Addr->Prop}{H:Hp}{xs:List V}{ds:List D}{p:Addr} (hp:H p=none) (f:FVs K O H xs ds):iR K O H (upd H p (.lst xs)) (.own ds) (.ref p) :=
 ⟨p,xs,rfl,hp,aJ,f.keeps (aD.fresh hp)⟩
theorem fe {O:Addr->Prop}{H:Hp}{xs:List V}{ds:List D}{p:Addr} (dom:∀b,O b->H b≠none) (hp:H p=none) (f:FVs K O H xs ds):iR K O H (upd H p (.tup xs)) (.dat (.tup ds)) (.ref p) :=
 .tup (fun z=>dom p z hp) aJ (f.keeps fun b o n e=>⟨n,by rw [ao (aO e hp)];exact e⟩)
def tX:R2:=fun x y H Q=>∃i j,x=.str (S i)/\y=.str (S j)/\i.length + j.length<=sizeLine/\Q (.str (S (i++j))) H
def o7 (K:PySem.W.Frag):R2:=fun x y H Q=>rI0 (fun i j=>.int (i + j)) x y H Q\/tX x y H Q\/rK K x y H Q\/qV K x y H Q
theorem tY (K:PySem.W.Frag) (e:X.K=K):OpR X (binaryOp .Add) (o7 K):=by
 subst e
 exact OpR.or qM (OpR.or oM (OpR.or oV oB))
def tZ:F2
 | .int i,.int j,Q=>Q (.dat (.int (i + j)))
 | .str a,.str b,Q=>a.length + b.length<=1000000/\Q (.dat (.str (a++b)))
 | .lst a,.lst b,Q=>a.length + b.length<=1000000/\Q (.own (a++b))
 | .scr a,.lst b,Q=>a.length + b.length<=1000000/\Q (.own (a.map .int++b))
 | .tup a,.tup b,Q=>a≠[]/\a.length + b.length<=1000000/\Q (.dat (.tup (a++b)))
 | _,_,_=>False
theorem nJ:LO K (o7 K) tZ:=by
 intro O H x y a b Q Q' dom fx fy q k
 unfold tZ at q
 split at q
 .rename_i i j;exact .inl ⟨i,j,fx.int,fy.int,k _ H _ q (Gr.refl _) (.int _)⟩
 .rename_i i j;exact .inr (.inl ⟨i,j,fx.str.1,fy.str.1,sz _ q.1,k _ H _ q.2 (Gr.refl _) (.str _ (by rw [List.length_append];exact q.1))⟩)
 .rename_i i j
  obtain ⟨a,xs,rfl,e1,f1⟩:=fx.lst
  obtain ⟨b,ys,rfl,e2,f2⟩:=fy.lst
  exact .inr (.inr (.inl ⟨a,b,xs,ys,rfl,rfl,SqL.of e1,SqL.of e2,sz _ (by rw [f1.length,f2.length];exact q.1),fun p hp=>k _ _ _ q.2 (Gr.new hp) (cj hp (f1.append f2))⟩))
 .rename_i i j
  obtain ⟨a,rfl,e1⟩:=fx.scr
  obtain ⟨b,ys,rfl,e2,f2⟩:=fy.lst
  exact .inr (.inr (.inl ⟨a,b,_,ys,rfl,rfl,e1,SqL.of e2,sz _ (by rw [List.length_map,f2.length];exact q.1),fun p hp=>k _ _ _ q.2 (Gr.new hp) (cj hp ((FVs.of_ints i).append f2))⟩))
 .rename_i i j
  obtain ⟨a,xs,rfl,n1,e1,f1⟩:=fx.tup
  obtain ⟨b,ys,rfl,n2,e2,f2⟩:=fy.tup
  have l1:=f1.length
  have l2:=f2.length
  refine .inr (.inr (.inr ⟨a,b,xs,ys,rfl,rfl,SqT.of e1,SqT.of e2,fun z=>q.1 ?_,sz _ (by rw [l1,l2];exact q.2.1),fun z=>?_,fun _ p hp=>k _ _ _ q.2.2 (Gr.new hp) (fe dom hp (f1.append f2))⟩))
  .exact List.length_eq_zero_iff.mp (by rw [<- l1,z];rfl)
  .have:j=[]:=List.length_eq_zero_iff.mp (by rw [<- l2,z];rfl)
   subst this
   exact k _ H _ q.2.2 (Gr.refl _) (by rw [List.append_nil];exact .tup n1 e1 f1)
 .exact q.elim
theorem rQ:LO K (rI0 fun i j=>.int (i - j)) (fI0 fun i j=>.int (i - j)):=o5 fun _ _ _ _=>.int _
theorem bX:LO K (rI (fun _ j=>0 < j) fun i j=>.int (i % j)) (fI (fun _ j=>0 < j) fun i j=>.int (i % j)):=sS fun _ _ _ _=>.int _
theorem dX:LO K (rI tf fun i j=>.int (i / j)) (fI (fun _ j=>0 < j/\j < 1073741824) fun i j=>.int (i / j)):=sS fun _ _ _ _=>.int _
theorem fY:LO K (rI tj fun i j=>.int (i ^ j.toNat)) (fI (fun i j=>0<=j/\j<=1000000/\i.natAbs < 2 ^ 64) fun i j=>.int (i ^ j.toNat)):=sS fun _ _ _ _=>.int _
def t0:R2:=fun x y H Q=>∃l n,x=.str (S l)/\y=.int n/\-1000000<=n/\n<=1000000/\n.toNat * l.length<=sizeLine/\Q (.str (S (hG l n))) H
def o8:R2:=fun x y H Q=>rI sM (fun i j=>.int (i * j)) x y H Q\/t0 x y H Q\/uO x y H Q
theorem eR:OpR X (binaryOp .Mult) o8:=OpR.or qO (OpR.or j9 rd)
def jL:F2
 | .int i,.int j,Q=>((-(2 ^ 64) < i/\i < 2 ^ 64)\/(-(2 ^ 64) < j/\j < 2 ^ 64))/\Q (.dat (.int (i * j)))
 | .str a,.int n,Q=>(-1000000<=n/\n<=1000000/\n.toNat * a.length<=1000000)/\Q (.dat (.str (hG a n)))
 | .lst a,.int n,Q=>(-1000000<=n/\n<=1000000/\a.length * n.toNat<=1000000)/\Q (.own (hG a n))
 | _,_,_=>False
theorem FVs.rep {O:Addr->Prop}{H:Hp}{xs:List V}{ds:List D} (f:FVs K O H xs ds):∀n,FVs K O H (List.replicate n xs).flatten (List.replicate n ds).flatten
 | 0=>.nil
 | n + 1=>by rw [List.replicate_succ,List.replicate_succ,List.flatten_cons,List.flatten_cons];exact f.append (f.rep n)
theorem cK:LO K o8 jL:=by
 intro O H x y a b Q Q' dom fx fy q k
 unfold jL at q
 split at q
 .rename_i i j;exact .inl ⟨i,j,fx.int,fy.int,q.1,k _ H _ q.2 (Gr.refl _) (.int _)⟩
 .rename_i i j;exact .inr (.inl ⟨i,j,fx.str.1,fy.int,q.1.1,q.1.2.1,sz _ q.1.2.2,k _ H _ q.2 (Gr.refl _) (.str _ (by rw [bC];exact q.1.2.2))⟩)
 .rename_i i j
  obtain ⟨a,xs,rfl,e1,f1⟩:=fx.lst
  exact .inr (.inr ⟨a,j,xs,rfl,fy.int,e1,by omega,by omega,sz _ (by rw [f1.length];exact q.1.2.2),fun p hp=>k _ _ _ q.2 (Gr.new hp) (cj hp (f1.rep _))⟩)
 .exact q.elim
def uT:R2:=fun x y H Q=>rI0 (fun i j=>.bl (decide (i < j))) x y H Q\/∃i j,x=.str i/\y=.str j/\Q (.bl (decide (i.cps.toList < j.cps.toList))) H
def sU:R2:=fun x y H Q=>rI0 (fun i j=>.bl (decide (i<=j))) x y H Q\/∃i j,x=.str i/\y=.str j/\Q (.bl (!decide (j.cps.toList < i.cps.toList))) H
theorem uU:OpR X (compareOp .Lt) uT:=OpR.or tu kN
theorem qd:OpR X (compareOp .LtE) sU:=OpR.or tw lh
def fLt:F2
 | .int i,.int j,Q=>Q (.dat (.bl (decide (i < j))))
 | .str i,.str j,Q=>Q (.dat (.bl (decide (i < j))))
 | _,_,_=>False
def fLe:F2
 | .int i,.int j,Q=>Q (.dat (.bl (decide (i<=j))))
 | .str i,.str j,Q=>Q (.dat (.bl (!decide (j < i))))
 | _,_,_=>False
theorem rR:LO K uT fLt:=by
 intro O H x y a b Q Q' dom fx fy q k
 unfold fLt at q
 split at q
 .rename_i i j;exact .inl ⟨i,j,fx.int,fy.int,k _ H _ q (Gr.refl _) (.bl _)⟩
 .rename_i i j;exact .inr ⟨_,_,fx.str.1,fy.str.1,k _ H _ q (Gr.refl _) (.bl _)⟩
 .exact q.elim
theorem kh:LO K sU fLe:=by
 intro O H x y a b Q Q' dom fx fy q k
 unfold fLe at q
 split at q
 .rename_i i j;exact .inl ⟨i,j,fx.int,fy.int,k _ H _ q (Gr.refl _) (.bl _)⟩
 .rename_i i j;exact .inr ⟨_,_,fx.str.1,fy.str.1,k _ H _ q (Gr.refl _) (.bl _)⟩
 .exact q.elim
theorem rS:LO K (rI0 fun i j=>.bl (decide (j < i))) (fI0 fun i j=>.bl (decide (j < i))):=o5 fun _ _ _ _=>.bl _
theorem t3:LO K (rI0 fun i j=>.bl (decide (j<=i))) (fI0 fun i j=>.bl (decide (j<=i))):=o5 fun _ _ _ _=>.bl _
mutual
def D.py:D->PyData
 | .non=>.none | .bl b=>.bool b | .int i=>.int i | .str l=>.str (S l) | .ty _=>.none
 | .lst ds=>.list (D.pys ds) | .tup ds=>.tuple (D.pys ds) | .scr ns=>.list (ns.map .int) | .dic _ _=>.none | .obj _ _ _=>.none | .exc _ _ _=>.none
def D.pys:List D->List PyData
 | []=>[]
 | d::r=>d.py::D.pys r
end
mutual
def D.plain:D->Bool
 | .non=>true | .bl _=>true | .int _=>true | .str _=>true | .ty _=>false
 | .lst ds=>D.plains ds | .tup ds=>D.plains ds | .scr _=>true | .dic _ _=>false | .obj _ _ _=>false | .exc _ _ _=>false
def D.plains:List D->Bool
 | []=>true
 | d::r=>d.plain && D.plains r
end
mutual
theorem FV.dv {O:Addr->Prop}{H:Hp}:∀{v:V}{d:D},FV K O H v d->d.plain=true->DV K H v d.py
 | _,_,.non,_=>.non
 | _,_,.bl b,_=>.bl b
 | _,_,.int i,_=>.int i
 | _,_,.str l h,_=>.str (S l)
 | _,_,.ty n,p=>nomatch p
 | _,_,.scr s,_=>.lst s.sq (DVs.ints _)
 | _,_,.lst n e f,p=>.lst (SqL.of e) (FVs.dvs f p)
 | _,_,.tup n e f,p=>.tup (SqT.of e) (FVs.dvs f p)
 | _,_,.dic _ _ _ _,p=>nomatch p
 | _,_,.obj _ _ _ _,p=>nomatch p
 | _,_,.exc0 _ _,p=>nomatch p
 | _,_,.exc1 _ _ _ _ _ _,p=>nomatch p
theorem FVs.dvs {O:Addr->Prop}{H:Hp}:∀{vs:List V}{ds:List D},FVs K O H vs ds->D.plains ds=true->DVs K H vs (D.pys ds)
 | _,_,.nil,_=>.nil
 | _,_,.cons a b,p=>by
  have p:(_ && _)=true:=p
  rw [Bool.and_eq_true] at p
  exact .cons (FV.dv a p.1) (FVs.dvs b p.2)
end
theorem FVc.dv {O:Addr->Prop}{H:Hp}{v:V}{d:D} (h:FVc K O H v d) (p:d.plain=true):DV K H v d.py:=by
 rcases h with h | ⟨a,xs,ds',rfl,rfl,e3,f⟩ | ⟨a,dx,c,fs,ns,ds',e1,rfl,_⟩
 .exact h.dv p
 .exact .lst (SqL.of e3) (f.dvs p)
 .cases p
def rT (K:PySem.W.Frag) (neg:Bool):R2:=fun x y H Q=>rI0 (fun i j=>.bl (if neg then !decide (i=j) else decide (i=j))) x y H Q\/(∃i j,x=.str (S i)/\y=.str (S j)/\Q (.bl (if neg then !decide (i=j) else decide (i=j))) H)\/tK K neg x y H Q
theorem vk (K:PySem.W.Frag) (e:X.K=K) (hu:X.A.units + 64 < cLine):OpR X (compareOp .Eq) (rT K false):=by
 subst e
 exact OpR.or rB (OpR.or rz (rn hu))
theorem vm (K:PySem.W.Frag) (e:X.K=K) (hu:X.A.units + 64 < cLine):OpR X (compareOp .NotEq) (rT K true):=by
 subst e
 exact OpR.or rC (OpR.or rA (rp hu))
def nK (a b:D):Prop:=a.plain=true/\b.plain=true/\SeqAt.shaped a.py=true/\SeqAt.shaped b.py=true
def deq (a b:D):Bool:=PyData.eqv a.py b.py
def fEq:F2
 | .int i,.int j,Q=>Q (.dat (.bl (decide (i=j))))
 | .str i,.str j,Q=>Q (.dat (.bl (decide (i=j))))
 | a,b,Q=>nK a b/\Q (.dat (.bl (deq a b)))
def fNe:F2
 | .int i,.int j,Q=>Q (.dat (.bl (!decide (i=j))))
 | .str i,.str j,Q=>Q (.dat (.bl (!decide (i=j))))
 | a,b,Q=>nK a b/\Q (.dat (.bl (!deq a b)))
theorem t4:LO K (rT K false) fEq:=by
 intro O H x y a b Q Q' dom fx fy q k
 unfold fEq at q
 split at q
 .rename_i i j;exact .inl ⟨i,j,fx.int,fy.int,k _ H _ q (Gr.refl _) (.bl _)⟩
 .rename_i i j;exact .inr (.inl ⟨i,j,fx.str.1,fy.str.1,k _ H _ q (Gr.refl _) (.bl _)⟩)
 .exact .inr (.inr ⟨_,_,fx.dv q.1.1,fy.dv q.1.2.1,q.1.2.2.1,q.1.2.2.2,k _ H _ q.2 (Gr.refl _) (.bl _)⟩)
theorem t5:LO K (rT K true) fNe:=by
 intro O H x y a b Q Q' dom fx fy q k
 unfold fNe at q
 split at q
 .rename_i i j;exact .inl ⟨i,j,fx.int,fy.int,k _ H _ q (Gr.refl _) (.bl _)⟩
 .rename_i i j;exact .inr (.inl ⟨i,j,fx.str.1,fy.str.1,k _ H _ q (Gr.refl _) (.bl _)⟩)
 .exact .inr (.inr ⟨_,_,fx.dv q.1.1,fy.dv q.1.2.1,q.1.2.2.1,q.1.2.2.2,k _ H _ q.2 (Gr.refl _) (.bl _)⟩)
def uV (neg:Bool):R2:=fun x y H Q=>(∃b c,x=.bl b/\y=.bl c/\Q (.bl (if neg then !decide (b=c) else decide (b=c))) H)\/(y=.non/\Q (.bl (if neg then !decide (x=.non) else decide (x=.non))) H)
theorem lI:OpR X (compareOp .IsNot) (uV true):=OpR.or lD oq
def D.isNon:D->Bool
 | .non=>true
 | _=>false
theorem FVc.isNon {O:Addr->Prop}{H:Hp}{v:V}{d:D} (h:FVc K O H v d):decide (v=.non)=d.isNon:=by
 rcases h with h | ⟨a,xs,ds',rfl,rfl,e3,f⟩ | ⟨a,dx,c,fs,ns,ds',rfl,rfl,_⟩
 .cases h <;> rfl
 .rfl
 .rfl
def fIs (neg:Bool):F2
 | .bl b,.bl c,Q=>Q (.dat (.bl (if neg then !decide (b=c) else decide (b=c))))
 | a,.non,Q=>Q (.dat (.bl (if neg then !a.isNon else a.isNon)))
 | _,_,_=>False
theorem rV {neg:Bool}:LO K (uV neg) (fIs neg):=by
 intro O H x y a b Q Q' dom fx fy q k
 unfold fIs at q
 split at q
 .rename_i b c;exact .inl ⟨b,c,fx.bl,fy.bl,k _ H _ q (Gr.refl _) (.bl _)⟩
 .exact .inr ⟨fy.non,by rw [fx.isNon];exact k _ H _ q (Gr.refl _) (.bl _)⟩
 .exact q.elim
def D.fl:D->Bool
 | .non=>true | .bl _=>true | .int _=>true | .str _=>true
 | _=>false
def eqF:D->D->Bool
 | .non,.non=>true
 | .bl a,.bl b=>a == b
 | .bl a,.int b=>(if a then 1 else 0) == b
 | .int a,.bl b=>a == (if b then 1 else 0)
 | .int a,.int b=>a == b
 | .str a,.str b=>a == b
 | _,_=>false
def inD (x:D) (xs:List D):Bool:=xs.any fun y=>eqF y x
theorem FV.fl {O:Addr->Prop}{H:Hp}{v:V}{d:D} (h:FV K O H v d) (f:d.fl=true):fN v=true:=by cases h <;> first | rfl | cases f
theorem rW (a b:List Nat):(S a == S b)=(a == b):=by
 by_cases h:a=b
 .subst h;rw [beq_self_eq_true,beq_self_eq_true]
 .rw [beq_eq_false_iff_ne.mpr h,beq_eq_false_iff_ne.mpr (vh h)]
theorem FV.eqF {O:Addr->Prop}{H:Hp}{v w:V}{d e:D} (h:FV K O H v d) (f:d.fl=true) (h':FV K O H w e) (f':e.fl=true):eqV v w=L2.eqF d e:=by
 cases h <;> first | (cases f;done) | (cases h' <;> first | (cases f';done) | rfl | exact rW _ _)
theorem FVs.inD {O:Addr->Prop}{H:Hp}{v:V}{d:D} (h:FV K O H v d) (f:d.fl=true):∀{xs:List V}{ds:List D},FVs K O H xs ds->ds.all D.fl=true->xs.all fN=true/\inV v xs=L2.inD d ds
 | _,_,.nil,_=>⟨rfl,rfl⟩
 | _,_,.cons a b,g=>by
  rw [List.all_cons,Bool.and_eq_true] at g
  obtain ⟨i1,i2⟩:=b.inD h f g.2
  refine ⟨by rw [List.all_cons,a.fl g.1,i1];rfl,?_⟩
  unfold inV L2.inD at i2 ⊢
  rw [List.any_cons,List.any_cons,i2,a.eqF g.1 h f]
def fIn (neg:Bool):F2
 | a,.lst ds,Q=>(a.fl=true/\ds.all D.fl=true)/\Q (.dat (.bl (if neg then !inD a ds else inD a ds)))
 | a,.tup ds,Q=>(a.fl=true/\ds.all D.fl=true)/\Q (.dat (.bl (if neg then !inD a ds else inD a ds)))
 | _,_,_=>False
theorem FVc.fl {O:Addr->Prop}{H:Hp}{v:V}{d:D} (h:FVc K O H v d) (f:d.fl=true):FV K O H v d:=h.fv (fun _ z=>by rw [z] at f;cases f) (fun _ _ _ z=>by rw [z] at f;cases f)
theorem vn (K:PySem.W.Frag) (e:X.K=K):OpR X (compareOp .In) (rIn K false):=by subst e;exact kW
theorem rX {neg:Bool}:LO K (rIn K neg) (fIn neg):=by
 intro O H x y a b Q Q' dom fx fy q k
 unfold fIn at q
 split at q
 .obtain ⟨p,xs,rfl,e1,f1⟩:=fy.lst
  obtain ⟨g1,g2⟩:=f1.inD (fx.fl q.1.1) q.1.1 q.1.2
  exact ⟨p,xs,rfl,.inl (SqL.of e1),(fx.fl q.1.1).fl q.1.1,g1,by rw [g2];exact k _ H _ q.2 (Gr.refl _) (.bl _)⟩
 .obtain ⟨p,xs,rfl,n1,e1,f1⟩:=fy.tup
  obtain ⟨g1,g2⟩:=f1.inD (fx.fl q.1.1) q.1.1 q.1.2
  exact ⟨p,xs,rfl,.inr (SqT.of e1),(fx.fl q.1.1).fl q.1.1,g1,by rw [g2];exact k _ H _ q.2 (Gr.refl _) (.bl _)⟩
 .exact q.elim
def uW (K:PySem.W.Frag):R2:=fun x y H Q=>uJ K x y H Q\/uK K x y H Q\/rq x y H Q
theorem ki (K:PySem.W.Frag) (e:X.K=K):IxR X (uW K):=by
 subst e
 exact IxR.or oF (IxR.or qW oK)
def fIx:F2
 | .lst ds,.int i,Q=>∃d,atI ds i=some d/\Q (.dat d)
 | .tup ds,.int i,Q=>∃d,atI ds i=some d/\Q (.dat d)
 | .scr ns,.int i,Q=>∃d,atI ns i=some d/\Q (.dat (.int d))
 | .str l,.int i,Q=>∃c,atI l i=some c/\Q (.dat (.str [c]))
 | _,_,_=>False
theorem FVs.atI {O:Addr->Prop}{H:Hp}{vs:List V}{ds:List D}{i:Int}{d:D} (f:FVs K O H vs ds) (h:L2.atI ds i=some d):∃v,L2.atI vs i=some v/\FV K O H v d:=by
 unfold L2.atI at h ⊢
 rw [f.length]
 cases e:ixN ds.length i with
 | none=>rw [e] at h;cases h
 | some j=>rw [e] at h;exact f.getD h
theorem dY:LO K (uW K) fIx:=by
 intro O H x y a b Q Q' dom fx fy q k
 unfold fIx at q
 split at q
 .obtain ⟨d,hd,q⟩:=q
  obtain ⟨p,xs,rfl,e1,f1⟩:=fx.lst
  obtain ⟨v,hv,fv⟩:=f1.atI hd
  exact .inl ⟨p,xs,_,v,rfl,fy.int,SqL.of e1,hv,k _ H _ q (Gr.refl _) fv⟩
 .obtain ⟨d,hd,q⟩:=q
  obtain ⟨p,xs,rfl,n1,e1,f1⟩:=fx.tup
  obtain ⟨v,hv,fv⟩:=f1.atI hd
  exact .inr (.inl ⟨p,xs,_,v,rfl,fy.int,SqT.of e1,hv,k _ H _ q (Gr.refl _) fv⟩)
 .obtain ⟨d,hd,q⟩:=q
  obtain ⟨p,rfl,e1⟩:=fx.scr
  exact .inl ⟨p,_,_,_,rfl,fy.int,e1,oN hd,k _ H _ q (Gr.refl _) (.int d)⟩
 .obtain ⟨c,hc,q⟩:=q
  exact .inr (.inr ⟨_,_,c,fx.str.1,fy.int,sz _ fx.str.2,hc,k _ H _ q (Gr.refl _) (.str _ (by show 1<=1000000;decide))⟩)
 .exact q.elim
end
end L2
namespace L2
open PySem PySem.Spec PyProof.Rows _root_.HT
section
variable {prog:Program}{w:World}{A:Around}{E:Value->Shared->Prop}{s:Shared}
theorem dZ {t sl:Addr}{items:Array Value}{vl vu:Value}{lo hi:Option Int}{Q:Value->Shared->Prop} (ht:IsTup s.heap t items) (hs:s.heap.IsSliceOf sl vl vu .none) (pl:IsPart vl lo) (pu:IsPart vu hi)
  (hw:sIx items.size 0 lo=0/\sIx items.size items.size hi=items.size)
  (h:Q (.ref t) s):wpAny (model prog w) A (getItem (.ref t) (.ref sl)) Q E s:=by
 obtain ⟨os,hos,hcs,hds⟩:=id hs
 have hTs:s.TypeIs (.ref sl) "slice":=⟨os,hos,hcs⟩
 unfold getItem
 try with_reducible refine wpAny_holding ?_
 first | refine wpAny_bind (wpAny_pure ?_) | skip
 refine wpAny_bind (wpAny_sequenceKey ht.typeIs (by decide) ?_)
 refine wpAny_bind (wpAny_callSpecial?_slot (name:=Str.ofString "__getitem__") ht.typeIs PyProof.Rows.slot_tuple_getitem
  (wpAny_call_entry PyProof.Rows.slot_tuple_getitem ht.typeIs entry_tuple_getitem ?_ (args_tuple_getitem _ _)))
 show wpAny _ _ (Builtin.Tuple.tupleItemsOf (.ref t) >>= _) _ _ s
 refine wpAny_bind (tupleItemsOf_ ht ?_)
 refine wpAny_bind (wpAny_typeOf hTs ?_)
 rw [if_pos (by decide)]
 refine wpAny_bind (cI hs pl pu ?_)
 have hyes:(((sIx items.size 0 lo:Nat):Int) == 0 && (1:Int) == 1 && (sIx items.size items.size hi - sIx items.size 0 lo) == items.size)=true:=by
  rw [hw.1,hw.2,Nat.sub_zero];simp
 show wpAny _ _ (if (((sIx items.size 0 lo:Nat):Int) == 0 && (1:Int) == 1 && (sIx items.size items.size hi - sIx items.size 0 lo) == items.size)=true then _ else _) _ _ s
 rw [if_pos hyes]
 refine wpAny_bind (m:=Builtin.Tuple.tupleIsExact _) (wpAny_bind (wpAny_typeOf ht.typeIs (wpAny_pure ?_)))
 rw [if_pos (by decide)]
 first
  | exact wpAny_bind (m:=rule _) (wpAny_pure (wpAny_pure ⟨_,rfl,wpAny_pure h⟩))
  | exact wpAny_pure ⟨_,rfl,wpAny_pure h⟩
  | exact wpAny_bind (wpAny_rule (wpAny_pure ⟨_,rfl,wpAny_pure h⟩))
def rY (K:PySem.W.Frag):V->Option Int->Option Int->Hp->VK->Prop:=fun x lo hi H Q=>∃a xs,x=.ref a/\SqT K H a xs/\(sIx xs.length 0 lo=0/\sIx xs.length xs.length hi=xs.length)/\Q (.ref a) H
theorem o9 {X:Cx}:SlR X (rY X.K):=by
 intro pins s σ H x v vl vu lo hi sl Q I rx hs pl pu h
 obtain ⟨a,xs,rfl,hx,hw,q⟩:=h
 cases rx
 obtain ⟨its,r,ht,hz⟩:=I.tuple hx
 have hlen:its.toArray.size=xs.length:=by rw [List.size_toArray];exact r.length.symm
 refine ⟨"tuple",_,PyProof.Rows.slot_tuple_getitem.lookup,ht.typeIs,?_⟩
 exact dZ ht hs pl pu (by rw [hlen];exact hw) ⟨.ref a,H,I,rfl,q⟩
end
end L2
namespace L2
open PySem PySem.Spec PyProof.Rows
section
variable {K:PySem.W.Frag}{X:Cx}{ta tb tc to:TE}{pa pb pc:PA1}{pe:PTE}{tr:TA}{pr:PTA}
def jM (f f':F2) (pa pb pc:PA1):PTE:=fun ρ Q=>pa ρ fun x ρ1=>pb ρ1 fun y ρ2=>op2 f ρ2 x y fun p ρ3=>match p with
 | .dat (.bl k)=>eH k (pc ρ3 fun z ρ4=>op2 f' ρ4 y z Q) (Q (.dat (.bl false)) ρ3)
 | _=>False
theorem gM {r r':R2}{f f':F2} (o:LO K r f) (o':LO K r' f') (ha:LA1 K ta pa) (hb:LA1 K tb pb) (hc:LA1 K tc pc):LE K (jC r r' ta tb tc) (jM f f' pa pb pc):=fun A ρ σ H Q Q' R q k =>
 ha A ρ σ H _ _ R q fun v H1 a ρ1 q1 f1 R1 o1=>hb A ρ1 σ H1 _ _ R1 q1 fun w H2 b ρ2 q2 f2 R2 o2=>by
  unfold op2 at q2
  split at q2
  .rename_i da db e1 e2
   refine o _ H2 v w da db _ _ R2.dom2 (R2.cont (o1.keeps f2.keeps) e1) (R2.cont o2 e2) q2 fun z H3 p q3 g ov=>?_
   dsimp only at q3
   split at q3
   .rename_i c
    cases ov
    refine ⟨c,rfl,?_⟩
    have R3:=R2.gr g
    cases c with
    | true =>
     refine hc A ρ2 σ H3 _ _ R3 q3 fun u H4 cc ρ4 q4 f4 R4 o4=>?_
     try unfold op2 at q4
     split at q4
     .rename_i dc dd e3 e4
      have o2':AOk K (OO A ρ4 σ) σ H4 b w:=(o2.keeps (g.fr (ρ:=ρ2) (σ:=σ)).keeps).keeps f4.keeps
      exact o' _ H4 w u _ _ _ _ R4.dom2 (R4.cont o2' e3) (R4.cont o4 e4) q4 fun z H5 p q5 g5 ov=>k z H5 p ρ4 q5 ((((f1.trans f2).trans g.fr).trans f4).trans g5.fr) ((ov.out R4 g5).h0 fun b z=>f4.dm b ((g.fr (ρ:=ρ2) (σ:=σ)).dm b (f2.dm b (f1.dm b z))))
     .exact q4.elim
    | false=>exact k _ H3 _ ρ2 q3 ((f1.trans f2).trans g.fr) ⟨R3,.bl false⟩
   .exact q3.elim
  .exact q2.elim
abbrev PTO:=PSt->(Option Int->PSt->Prop)->Prop
def LPo (K:PySem.W.Frag) (t:TO) (p:PTO):Prop:=∀(A:Addr->Prop) (ρ:PSt) (σ:St) (H:Hp) (Q:Option Int->PSt->Prop) (Q':Option Int->Hp->Prop),Rel K A ρ σ H->p ρ Q ->
 (∀b H' ρ',Q b ρ'->Fr ρ σ H ρ' H'->Rel K A ρ' σ H'->Q' b H')->t σ H Q'
def jN:PTO:=fun ρ Q=>Q none ρ
def dt (pe:PTE):PTO:=fun ρ Q=>pe ρ fun p ρ1=>match p with
 | .dat (.int i)=>Q (some i) ρ1
 | _=>False
theorem gN:LPo K kT jN:=fun A ρ σ H Q Q' R q k=>k none H ρ q (Fr.refl _ _ _) R
theorem bN (h:LE K ta pe):LPo K (qT ta) (dt pe):=fun A ρ σ H Q Q' R q k=>h A ρ σ H _ _ R q fun v H1 p ρ1 q1 f1 o1=>by
 split at q1
 .rename_i i
  obtain ⟨R1,f⟩:=o1
  cases f
  exact ⟨i,rfl,k _ H1 ρ1 q1 f1 R1⟩
 .exact q1.elim
def t6 (K:PySem.W.Frag):V->Option Int->Option Int->Hp->VK->Prop:=fun x lo hi H Q=>uL K x lo hi H Q\/uP x lo hi H Q\/uI K x lo hi H Q\/rY K x lo hi H Q
theorem qe (K:PySem.W.Frag) (e:X.K=K):SlR X (t6 K):=by
 subst e
 exact SlR.or oG (SlR.or rm (SlR.or qU o9))
def fSl:D->Option Int->Option Int->(PV->Prop)->Prop
 | .lst ds,lo,hi,Q=>Q (.own (dr ds lo hi))
 | .scr ns,lo,hi,Q=>Q (.own ((dr ns lo hi).map .int))
 | .str l,lo,hi,Q=>Q (.dat (.str (dr l lo hi)))
 | .tup ds,lo,hi,Q=>Q (.dat (.tup (dr ds lo hi)))
 | _,_,_,_=>False
theorem FVs.cut {O:Addr->Prop}{H:Hp}{xs:List V}{ds:List D} (f:FVs K O H xs ds) (lo hi:Option Int):FVs K O H (dr xs lo hi) (dr ds lo hi):=by
 unfold dr
 rw [f.length]
 exact (f.drop _).take _
def ff (pa:PA1) (pl ph:PTO):PTE:=fun ρ Q=>pa ρ fun x ρ1=>pl ρ1 fun lo ρ2=>ph ρ2 fun hi ρ3=>match cont ρ3 x with
 | some d=>fSl d lo hi fun p=>Q p ρ3
 | _=>False
theorem pd {α:Type}{ds:List α}{lo hi:Option Int}{n:Nat} (h:n=ds.length) (hw:HT.sIx n 0 lo=0/\HT.sIx n n hi=n):dr ds lo hi=ds:=by
 subst h
 unfold dr
 rw [hw.1,hw.2,List.drop_zero,Nat.sub_zero,List.take_length]
theorem lsl {O:Addr->Prop}{H:Hp}{x:V}{d:D}{lo hi:Option Int}{Q:PV->Prop}{Q':VK} (dom:∀b,O b->H b≠none) (fx:FVc K O H x d) (q:fSl d lo hi Q) (k:∀v H' p,Q p->Gr H H'->iR K O H H' p v->Q' v H'):t6 K x lo hi H Q':=by
 unfold fSl at q
 split at q
 .obtain ⟨a,xs,rfl,e1,f1⟩:=fx.lst
  exact .inl ⟨a,xs,rfl,SqL.of e1,fun p hp=>k _ _ _ q (Gr.new hp) (cj hp (f1.cut _ _))⟩
 .obtain ⟨a,rfl,e1⟩:=fx.scr
  exact .inl ⟨a,_,rfl,e1,fun p hp=>k _ _ _ q (Gr.new hp) (cj hp (by rw [k7,mx];exact FVs.of_ints _))⟩
 .exact .inr (.inl ⟨_,fx.str.1,sz _ fx.str.2,k _ H _ q (Gr.refl _) (.str _ (Nat.le_trans (cf _ _ _) fx.str.2))⟩)
 .obtain ⟨a,xs,rfl,n1,e1,f1⟩:=fx.tup
  by_cases hw:HT.sIx xs.length 0 lo=0/\HT.sIx xs.length xs.length hi=xs.length
  .refine .inr (.inr (.inr ⟨a,xs,rfl,SqT.of e1,hw,k _ H _ q (Gr.refl _) ?_⟩))
   rw [pd f1.length hw]
   exact .tup n1 e1 f1
  .exact .inr (.inr (.inl ⟨a,xs,rfl,SqT.of e1,hw,fun p hp=>k _ _ _ q (Gr.new hp) (fe dom hp (f1.cut _ _))⟩))
 .exact q.elim
theorem df {tl th:TO}{pl ph:PTO} (ha:LA1 K ta pa) (hl:LPo K tl pl) (hh:LPo K th ph):LE K (tSl (t6 K) ta tl th) (ff pa pl ph):=fun A ρ σ H Q Q' R q k =>
 ha A ρ σ H _ _ R q fun v H1 a ρ1 q1 f1 R1 o1=>hl A ρ1 σ H1 _ _ R1 q1 fun lo H2 ρ2 q2 f2 R2=>hh A ρ2 σ H2 _ _ R2 q2 fun hi H3 ρ3 q3 f3 R3=>by
  split at q3
  .rename_i d e1
   exact lsl R3.dom2 (R3.cont (o1.keeps (f2.trans f3).keeps) e1) q3 fun z H4 p q4 g ov=>k z H4 p ρ3 q4 (((f1.trans f2).trans f3).trans g.fr) ((ov.out R3 g).h0 fun b z=>f3.dm b (f2.dm b (f1.dm b z)))
  .exact q3.elim
abbrev FN:=List D->(PV->Prop)->Prop
def mN (K:PySem.W.Frag):List V->Hp->VK->Prop:=fun xs H Q=>(∃l,xs=[.str (S l)]/\l.length<=sizeLine/\Q (.int l.length) H)\/tR K xs H Q\/tS K xs H Q\/∃p kvs,xs=[.ref p]/\Rd H p (.dK kvs)/\Q (.int kvs.length) H
theorem cX (K:PySem.W.Frag) (e:X.K=K):bw X (.builtin "len") (mN K):=by
 subst e
 exact bw.or lj (bw.or ll (bw.or lm lE))
def gO:FN
 | [.str l],Q=>Q (.dat (.int l.length))
 | [.lst l],Q=>Q (.dat (.int l.length))
 | [.tup l],Q=>Q (.dat (.int l.length))
 | [.scr l],Q=>Q (.dat (.int l.length))
 | [.dic ks _],Q=>Q (.dat (.int ks.length))
 | _,_=>False
theorem bH:LC K (mN K) gO:=by
 intro O H xs as Q Q' dom fs q k
 unfold gO at q
 split at q
 .cases fs with | cons a b=>cases b;rw [a.str.1];exact .inl ⟨_,rfl,sz _ a.str.2,k _ H _ q (Gr.refl _) (.int _)⟩
 .cases fs with
  | cons a b =>
   cases b
   obtain ⟨p,ys,rfl,e1,f1⟩:=a.lst
   exact .inr (.inl ⟨p,ys,rfl,SqL.of e1,by rw [f1.length];exact k _ H _ q (Gr.refl _) (.int _)⟩)
 .cases fs with
  | cons a b =>
   cases b
   obtain ⟨p,ys,rfl,n1,e1,f1⟩:=a.tup
   exact .inr (.inr (.inl ⟨p,ys,rfl,SqT.of e1,by rw [f1.length];exact k _ H _ q (Gr.refl _) (.int _)⟩))
 .cases fs with
  | cons a b =>
   cases b
   obtain ⟨p,rfl,e1⟩:=a.scr
   exact .inr (.inl ⟨p,_,rfl,e1,by rw [List.length_map];exact k _ H _ q (Gr.refl _) (.int _)⟩)
 .cases fs with
  | cons a b =>
   cases b
   cases a.fv nofun nofun with
   | dic n e m f=>subst m;exact .inr (.inr (.inr ⟨_,_,rfl,.inl e,k _ H _ q (Gr.refl _) (by rw [List.length_map];exact .int _)⟩))
 .exact q.elim
inductive Kd where
 | int | bool | str | list | tuple | dict
def Kd.nm:Kd->String
 | .int=>"int" | .bool=>"bool" | .str=>"str" | .list=>"list" | .tuple=>"tuple" | .dict=>"dict"
def isK:Kd->D->Bool
 | .int,.int _=>true
 | .int,.bl _=>true
 | .bool,.bl _=>true
 | .str,.str _=>true
 | .list,.lst _=>true
 | .tuple,.tup _=>true
 | .dict,.dic _ _=>true
 | _,_=>false
def D.sort:D->Bool
 | .obj _ _ _=>false
 | .exc _ _ _=>false
 | .scr _=>false
 | .ty _=>false
 | _=>true
theorem FVc.ty {O:Addr->Prop}{H:Hp}{v:V}{d:D} (h:FVc K O H v d) (s:d.sort=true):∃t,iW K H v t/\∀k:Kd,PySem.W.kitOne K t (.type k.nm)=some (isK k d):=by
 rcases h with h | ⟨a,xs,ds',rfl,rfl,e3,f⟩ | ⟨a,dx,c,fs,ns,ds',rfl,rfl,_⟩
 .cases h with
  | non=>exact ⟨_,.non,fun k=>by cases k <;> rfl⟩
  | bl b=>exact ⟨_,.bl b,fun k=>by cases k <;> rfl⟩
  | int i=>exact ⟨_,.int i,fun k=>by cases k <;> rfl⟩
  | str l h=>exact ⟨_,.str _,fun k=>by cases k <;> rfl⟩
  | ty n=>cases s
  | scr _=>cases s
  | lst n e f=>exact ⟨_,.lst e,fun k=>by cases k <;> rfl⟩
  | tup n e f=>exact ⟨_,.tup e,fun k=>by cases k <;> rfl⟩
  | dic n e m f=>exact ⟨_,.dK e,fun k=>by cases k <;> rfl⟩
  | obj _ _ _ _=>cases s
  | exc0 _ _=>cases s
  | exc1 _ _ _ _ _ _=>cases s
 .exact ⟨_,.lst e3,fun k=>by cases k <;> rfl⟩
 .cases s
theorem kj (K:PySem.W.Frag) (e:X.K=K):bw X (.builtin "isinstance") (uQ K):=by subst e;exact i5
def pf (k:Kd) (pa:PA1):PTE:=fun ρ Q=>pa ρ fun x ρ1=>match cont ρ1 x with
 | some d=>eH d.sort (Q (.dat (.bl (isK k d))) ρ1) False
 | _=>False
theorem fZ (k:Kd) (ha:LA1 K ta pa):LE K (tCB (uQ K) (bL ta (bL (tC (.ty k.nm)) jE))) (pf k pa):=fun A ρ σ H Q Q' R q kk =>
 ha A ρ σ H _ _ R q fun v H1 a ρ1 q1 f1 R1 o1=>by
  split at q1
  .rename_i d e1
   cases hs:d.sort with
   | false=>rw [hs] at q1;exact q1.elim
   | true =>
    rw [hs] at q1
    obtain ⟨t,ty,hk⟩:=(R1.cont o1 e1).ty hs
    exact ⟨v,k.nm,t,isK k d,rfl,ty,hk k,kk _ H1 _ ρ1 q1 f1 ⟨R1,.bl _⟩⟩
  .exact q1.elim
end
structure rZ where
 nx:PSt->Prop
 rt:PV->PSt->Prop
 bk:PSt->Prop:=fun _=>False
 ct:PSt->Prop:=fun _=>False
abbrev PTS:=rZ->PSt->Prop
structure cS (fx:List (Nat×V)) (R:Addr->Prop) (H0:Hp) (ρ:PSt) (σ:St) (H:Hp):Prop where
 kp:∀b o,¬ R b->H0 b=some o->H b=some o
 dm:∀b,H0 b≠none->H b≠none
 ow:∀b,Wr ρ σ b->R b\/H0 b=none
 fx:∀p∈fx,σ[p.1]?=some (some p.2)
section
variable {K:PySem.W.Frag}{fx:List (Nat×V)}{A R:Addr->Prop}{H0 H H':Hp}{ρ ρ':PSt}{σ:St}
theorem cS.fr (F:cS fx R H0 ρ σ H) (f:Fr ρ σ H ρ' H'):cS fx R H0 ρ' σ H' :=
 ⟨fun b o n e=>f.kp b o (fun w=>(F.ow b w).elim n (fun z=>by rw [z] at e;cases e)) (F.kp b o n e),fun b z=>f.dm b (F.dm b z),fun b w=>F.ow b (f.ow b w),F.fx⟩
theorem cS.start (hfx:∀p∈fx,σ[p.1]?=some (some p.2)):cS fx (Wr ρ σ) H ρ σ H:=⟨fun _ _ _ h=>h,fun _ h=>h,fun _ h=>.inl h,hfx⟩
theorem cS.keepsR {ρ1:PSt}{σ1:St}{H1:Hp} (F:cS fx R H1 ρ σ H) (hR:∀b,R b->OO A ρ1 σ1 b):aD (OO A ρ1 σ1) H1 (OO A ρ σ) H:=fun b o n e=>by
 refine ⟨fun z=>?_,F.kp b o (fun z=>n (hR b z)) e⟩
 rcases z with z | z
 .exact n (.inl z)
 .rcases F.ow b z with z | z
  .exact n (hR b z)
  .rw [z] at e;cases e
theorem cS.keeps {ρ1:PSt}{σ1:St}{H1:Hp} (F:cS fx (Wr ρ1 σ1) H1 ρ σ H):aD (OO A ρ1 σ1) H1 (OO A ρ σ) H:=F.keepsR fun b z=>.inr z
theorem cS.trans {fx':List (Nat×V)}{ρ1:PSt}{σ1:St}{H1:Hp} (F:cS fx R H0 ρ1 σ1 H1) (G:cS fx' (Wr ρ1 σ1) H1 ρ σ H) (hfx:∀p∈fx,σ[p.1]?=some (some p.2)):cS fx R H0 ρ σ H:=by
 refine ⟨fun b o n e=>G.kp b o (fun w=>(F.ow b w).elim n (fun z=>by rw [z] at e;cases e)) (F.kp b o n e),fun b z=>G.dm b (F.dm b z),fun b w=>?_,hfx⟩
 rcases G.ow b w with z | z
 .exact F.ow b z
 .refine .inr ?_
  cases e:H0 b with
  | none=>rfl
  | some o=>exact absurd z (F.dm b (by rw [e];exact nofun))
theorem Out.put {p:PV}{v:V}{i:Nat} (h:Out K A ρ σ H0 H p v):Rel K A (ρ.set i (some p)) (σ.set i (some v)) H/\∀b,Wr (ρ.set i (some p)) (σ.set i (some v)) b->Wr ρ σ b\/H0 b=none:=by
 have get:∀(j:Nat) (q:PV),(ρ.set i (some p))[j]?=some (some q)->(j=i/\q=p/\i < ρ.length)\/(j≠i/\ρ[j]?=some (some q)):=fun j q e=>by
  by_cases z:i=j
  .subst z
   by_cases hi:i < ρ.length
   .rw [List.getElem?_set_self hi] at e;cases e;exact .inl ⟨rfl,rfl,hi⟩
   .rw [List.getElem?_eq_none (by rw [List.length_set];omega)] at e;cases e
  .rw [List.getElem?_set_ne z] at e;exact .inr ⟨fun q=>z q.symm,e⟩
 cases p with
 | dat d =>
  obtain ⟨R1,f⟩:=h
  have ow:∀b,Wr (ρ.set i (some (.dat d))) (σ.set i (some v)) b->Wr ρ σ b:=fun b ⟨j,r,e1,o1,s1⟩=>by
   rcases get j r e1 with ⟨_,rfl,_⟩ | ⟨n,e⟩
   .cases o1
   .rw [List.getElem?_set_ne (fun z=>n z.symm)] at s1;exact ⟨j,r,e,o1,s1⟩
  have k:aD (OO A ρ σ) H (OO A (ρ.set i (some (.dat d))) (σ.set i (some v))) H:=aD.less fun b z=>z.imp id (ow b)
  refine ⟨⟨by rw [List.length_set,List.length_set];exact R1.len,fun j r e1=>?_,fun j l p1 q1 v' e1 e2 o1 o2 s1 s2=>?_,R1.dom,fun b z w=>R1.sep b z (ow b w)⟩,fun b w=>.inl (ow b w)⟩
  .rcases get j r e1 with ⟨rfl,rfl,hi⟩ | ⟨n,e⟩
   .exact ⟨v,List.getElem?_set_self (by rw [<- R1.len];exact hi),f.keeps k⟩
   .obtain ⟨u,s,r'⟩:=R1.get j r e
    exact ⟨u,by rw [List.getElem?_set_ne (fun z=>n z.symm)];exact s,r'.keeps k fun _ _ _=>rfl⟩
  .rcases get j p1 e1 with ⟨_,rfl,_⟩ | ⟨n1,e1⟩
   .cases o1
   .rcases get l q1 e2 with ⟨_,rfl,_⟩ | ⟨n2,e2⟩
    .cases o2
    .rw [List.getElem?_set_ne (fun z=>n1 z.symm)] at s1
     rw [List.getElem?_set_ne (fun z=>n2 z.symm)] at s2
     exact R1.dj j l p1 q1 v' e1 e2 o1 o2 s1 s2
 | own ds =>
  obtain ⟨a,xs,rfl,na,hn,e0,R1,f⟩:=h
  have ow:∀b,Wr (ρ.set i (some (.own ds))) (σ.set i (some (.ref a))) b->Wr ρ σ b\/b=a:=fun b ⟨j,r,e1,o1,s1⟩=>by
   rcases get j r e1 with ⟨rfl,rfl,hi⟩ | ⟨n,e⟩
   .rw [List.getElem?_set_self (by rw [<- R1.len];exact hi)] at s1;cases s1;exact .inr rfl
   .rw [List.getElem?_set_ne (fun z=>n z.symm)] at s1;exact .inl ⟨j,r,e,o1,s1⟩
  have k:aD (OO (cQ A a) ρ σ) H (OO A (ρ.set i (some (.own ds))) (σ.set i (some (.ref a)))) H:=aD.less fun b z=>by
   rcases z with z | z
   .exact .inl (.inl z)
   .rcases ow b z with z | z
    .exact .inr z
    .exact .inl (.inr z)
  refine ⟨⟨by rw [List.length_set,List.length_set];exact R1.len,fun j r e1=>?_,fun j l p1 q1 v' e1 e2 o1 o2 s1 s2=>?_,fun b z=>R1.dom b (.inl z),fun b z w=>?_⟩,fun b w=>(ow b w).imp id fun z=>by rw [z];exact hn⟩
  .rcases get j r e1 with ⟨rfl,rfl,hi⟩ | ⟨n,e⟩
   .exact ⟨_,List.getElem?_set_self (by rw [<- R1.len];exact hi),a,xs,rfl,e0,f.keeps k⟩
   .obtain ⟨u,s,r'⟩:=R1.get j r e
    exact ⟨u,by rw [List.getElem?_set_ne (fun z=>n z.symm)];exact s,r'.keeps k fun _ _ _=>rfl⟩
  .rcases get j p1 e1 with ⟨rfl,rfl,hi⟩ | ⟨n1,e1'⟩
   .rw [List.getElem?_set_self (by rw [<- R1.len];exact hi)] at s1;cases s1
    rcases get l q1 e2 with ⟨rfl,rfl,_⟩ | ⟨n2,e2⟩
    .rfl
    .rw [List.getElem?_set_ne (fun z=>n2 z.symm)] at s2
     exact absurd ⟨l,q1,e2,o2,s2⟩ (R1.sep a (.inr rfl))
   .rw [List.getElem?_set_ne (fun z=>n1 z.symm)] at s1
    rcases get l q1 e2 with ⟨rfl,rfl,hi⟩ | ⟨n2,e2⟩
    .rw [List.getElem?_set_self (by rw [<- R1.len];exact hi)] at s2;cases s2
     exact absurd ⟨j,p1,e1',o1,s1⟩ (R1.sep a (.inr rfl))
    .rw [List.getElem?_set_ne (fun z=>n2 z.symm)] at s2
     exact R1.dj j l p1 q1 v' e1' e2 o1 o2 s1 s2
  .rcases ow b w with w | w
   .exact R1.sep b (.inl z) w
   .rw [w] at z;exact na z
 | ins c ns ds =>
  obtain ⟨a,dx,fs,rfl,na,hn,e0,m,R1,f⟩:=h
  have ow:∀b,Wr (ρ.set i (some (.ins c ns ds))) (σ.set i (some (.ref a))) b->Wr ρ σ b\/b=a:=fun b ⟨j,r,e1,o1,s1⟩=>by
   rcases get j r e1 with ⟨rfl,rfl,hi⟩ | ⟨n,e⟩
   .rw [List.getElem?_set_self (by rw [<- R1.len];exact hi)] at s1;cases s1;exact .inr rfl
   .rw [List.getElem?_set_ne (fun z=>n z.symm)] at s1;exact .inl ⟨j,r,e,o1,s1⟩
  have k:aD (OO (cQ A a) ρ σ) H (OO A (ρ.set i (some (.ins c ns ds))) (σ.set i (some (.ref a)))) H:=aD.less fun b z=>by
   rcases z with z | z
   .exact .inl (.inl z)
   .rcases ow b z with z | z
    .exact .inr z
    .exact .inl (.inr z)
  refine ⟨⟨by rw [List.length_set,List.length_set];exact R1.len,fun j r e1=>?_,fun j l p1 q1 v' e1 e2 o1 o2 s1 s2=>?_,fun b z=>R1.dom b (.inl z),fun b z w=>?_⟩,fun b w=>(ow b w).imp id fun z=>by rw [z];exact hn⟩
  .rcases get j r e1 with ⟨rfl,rfl,hi⟩ | ⟨n,e⟩
   .exact ⟨_,List.getElem?_set_self (by rw [<- R1.len];exact hi),a,dx,fs,rfl,e0,m,f.keeps k⟩
   .obtain ⟨u,s,r'⟩:=R1.get j r e
    exact ⟨u,by rw [List.getElem?_set_ne (fun z=>n z.symm)];exact s,r'.keeps k fun _ _ _=>rfl⟩
  .rcases get j p1 e1 with ⟨rfl,rfl,hi⟩ | ⟨n1,e1'⟩
   .rw [List.getElem?_set_self (by rw [<- R1.len];exact hi)] at s1;cases s1
    rcases get l q1 e2 with ⟨rfl,rfl,_⟩ | ⟨n2,e2⟩
    .rfl
    .rw [List.getElem?_set_ne (fun z=>n2 z.symm)] at s2
     exact absurd ⟨l,q1,e2,o2,s2⟩ (R1.sep a (.inr rfl))
   .rw [List.getElem?_set_ne (fun z=>n1 z.symm)] at s1
    rcases get l q1 e2 with ⟨rfl,rfl,hi⟩ | ⟨n2,e2⟩
    .rw [List.getElem?_set_self (by rw [<- R1.len];exact hi)] at s2;cases s2
     exact absurd ⟨j,p1,e1',o1,s1⟩ (R1.sep a (.inr rfl))
    .rw [List.getElem?_set_ne (fun z=>n2 z.symm)] at s2
     exact R1.dj j l p1 q1 v' e1' e2 o1 o2 s1 s2
  .rcases ow b w with w | w
   .exact R1.sep b (.inl z) w
   .rw [w] at z;exact na z
end
abbrev PTG:=PV->PSt->(PSt->Prop)->Prop
abbrev pj:=List D->PSt->(PSt->Prop)->Prop
def LG (K:PySem.W.Frag) (fs:List Nat) (g:TG) (pg:PTG):Prop:=∀(fx:List (Nat×V)) (A R:Addr->Prop) (H0:Hp) (ρ:PSt) (σ:St) (H:Hp) (p:PV) (v:V) (Q:PSt->Prop) (Q':St->Hp->Prop),fx.map Prod.fst=fs->cS fx R H0 ρ σ H->Out K A ρ σ H0 H p v->pg p ρ Q ->
 (∀ρ' σ' H',Q ρ'->Rel K A ρ' σ' H'->cS fx R H0 ρ' σ' H'->Q' σ' H')->g v σ H Q'
def LGs (K:PySem.W.Frag) (fs:List Nat) (g:TGs) (pg:pj):Prop:=∀(fx:List (Nat×V)) (A R:Addr->Prop) (H0:Hp) (ρ:PSt) (σ:St) (H:Hp) (ds:List D) (vs:List V) (Q:PSt->Prop) (Q':St->Hp->Prop),fx.map Prod.fst=fs->cS fx R H0 ρ σ H->Rel K A ρ σ H->FVs K (OO A ρ σ) H vs ds->pg ds ρ Q ->
 (∀ρ' σ',Q ρ'->Rel K A ρ' σ' H->cS fx R H0 ρ' σ' H->(∀b,Wr ρ' σ' b->Wr ρ σ b)->Q' σ' H)->g vs σ H Q'
def LGd (K:PySem.W.Frag) (fs:List Nat) (g:TG) (pg:PTG):Prop:=∀(fx:List (Nat×V)) (A R:Addr->Prop) (H0:Hp) (ρ:PSt) (σ:St) (H:Hp) (d:D) (v:V) (Q:PSt->Prop) (Q':St->Hp->Prop),fx.map Prod.fst=fs->cS fx R H0 ρ σ H->Rel K A ρ σ H->FV K (OO A ρ σ) H v d->pg (.dat d) ρ Q ->
 (∀ρ' σ',Q ρ'->Rel K A ρ' σ' H->cS fx R H0 ρ' σ' H->(∀b,Wr ρ' σ' b->Wr ρ σ b)->Q' σ' H)->g v σ H Q'
def aE (i:Nat):PTG:=fun p ρ Q=>Q (ρ.set i (some p))
def pq:pj:=fun ds ρ Q=>match ds with | []=>Q ρ | _=>False
def jO (g:PTG) (gs:pj):pj:=fun ds ρ Q=>match ds with | d::r=>g (.dat d) ρ fun ρ1=>gs r ρ1 Q | []=>False
section
variable {K:PySem.W.Frag}{fs:List Nat}
theorem cS.put {fx:List (Nat×V)}{R:Addr->Prop}{H0 H:Hp}{ρ:PSt}{σ:St}{i:Nat}{p:PV}{v:V} (hf:fx.map Prod.fst=fs) (hi:fs.contains i=false) (F:cS fx R H0 ρ σ H) (ow:∀b,Wr (ρ.set i (some p)) (σ.set i (some v)) b->Wr ρ σ b\/H0 b=none):cS fx R H0 (ρ.set i (some p)) (σ.set i (some v)) H :=
 ⟨F.kp,F.dm,fun b w=>(ow b w).elim (F.ow b) .inr,fun q hq=>by
  have:q.1≠i:=fun z=>by
   have h1:i∈fs:=by rw [<- hf,<- z];exact List.mem_map_of_mem hq
   rw [List.contains_iff_mem.mpr h1] at hi;cases hi
  rw [List.getElem?_set_ne (fun z=>this z.symm)];exact F.fx q hq⟩
theorem aP {i:Nat} (hi:fs.contains i=false):LG K fs (fL i) (aE i):=fun fx A R H0 ρ σ H p v Q Q' hf F o q k=>k _ _ _ q o.put.1 (F.put hf hi o.put.2)
theorem pw:LGs K fs uB pq:=fun fx A R H0 ρ σ H ds vs Q Q' hf F r fv q k=>by
 unfold pq at q
 split at q
 .cases fv;exact ⟨rfl,k _ _ q r F fun _ h=>h⟩
 .exact q.elim
theorem a9 {i:Nat} (hi:fs.contains i=false):LGd K fs (fL i) (aE i):=fun fx A R H0 ρ σ H d v Q Q' hf F r fv q k=>by
 have o:Out K A ρ σ H0 H (.dat d) v:=⟨r,fv⟩
 have ow:∀b,Wr (ρ.set i (some (.dat d))) (σ.set i (some v)) b->Wr ρ σ b:=fun b ⟨j,p,e1,o1,s1⟩=>by
  by_cases z:i=j
  .subst z
   by_cases hl:i < ρ.length
   .rw [List.getElem?_set_self hl] at e1;cases e1;cases o1
   .rw [List.getElem?_eq_none (by rw [List.length_set];omega)] at e1;cases e1
  .rw [List.getElem?_set_ne z] at e1 s1;exact ⟨j,p,e1,o1,s1⟩
 exact k _ _ q o.put.1 (F.put hf hi o.put.2) ow
theorem jP {g:TG}{pg:PTG}{gs:TGs}{pgs:pj} (hg:LGd K fs g pg) (h:LGs K fs gs pgs):LGs K fs (qI g gs) (jO pg pgs):=fun fx A R H0 ρ σ H ds vs Q Q' hf F r fv q k=>by
 unfold jO at q
 split at q
 .cases fv with
  | cons a b =>
   exact ⟨_,_,rfl,hg fx A R H0 ρ σ H _ _ _ _ hf F r a q fun ρ1 σ1 q1 r1 F1 w1=>h fx A R H0 ρ1 σ1 H _ _ _ _ hf F1 r1 (b.keeps (aD.less fun b z=>z.imp id (w1 b))) q1 fun ρ2 σ2 q2 r2 F2 w2=>k ρ2 σ2 q2 r2 F2 fun b z=>w1 b (w2 b z)⟩
 .exact q.elim
end
def LS (K:PySem.W.Frag) (fs:List Nat) (ts:TS) (ps:PTS):Prop:=∀(fx:List (Nat×V)) (A R:Addr->Prop) (H0:Hp) (ρ:PSt) (σ:St) (H:Hp) (D:rZ) (D':ny),fx.map Prod.fst=fs->Rel K A ρ σ H->cS fx R H0 ρ σ H->ps D ρ ->
 (∀ρ' σ' H',D.nx ρ'->Rel K A ρ' σ' H'->cS fx R H0 ρ' σ' H'->D'.nx σ' H') ->
 (∀v p ρ' σ' H',D.rt p ρ'->Out K A ρ' σ' H0 H' p v->cS fx R H0 ρ' σ' H'->D'.rt v H') ->
 (∀ρ' σ' H',D.bk ρ'->Rel K A ρ' σ' H'->cS fx R H0 ρ' σ' H'->D'.bk σ' H') ->
 (∀ρ' σ' H',D.ct ρ'->Rel K A ρ' σ' H'->cS fx R H0 ρ' σ' H'->D'.ct σ' H')->ts D' σ H
def cY:PTS:=fun D ρ=>D.nx ρ
def aZ (a b:PTS):PTS:=fun D ρ=>a { D with nx:=b D } ρ
def iw (pe:PTE):PTS:=fun D ρ=>pe ρ fun _ ρ1=>D.nx ρ1
def bI (pe:PTE):PTS:=fun D ρ=>pe ρ D.rt
def lJ (t:PTT) (a b:PTS):PTS:=fun D ρ=>t ρ fun c ρ1=>eH c (a D ρ1) (b D ρ1)
def bO (pe:PTE) (g:PTG):PTS:=fun D ρ=>pe ρ fun p ρ1=>g p ρ1 D.nx
def nL (a:PTS):PTS:=fun D ρ=>∃J:PSt->Prop,a { D with nx:=J } ρ/\∀ρ',J ρ'->D.nx ρ'
section
variable {K:PySem.W.Frag}{fs:List Nat}{ta tb:TS}{pa pb:PTS}{te:TE}{pe:PTE}{tt:TT}{pt:PTT}
theorem ck:LS K fs qG cY:=fun fx A R H0 ρ σ H D D' hf r F q k1 k2 k3 k4=>k1 _ _ _ q r F
theorem aH (ha:LS K fs ta pa) (hb:LS K fs tb pb):LS K fs (uw ta tb) (aZ pa pb):=fun fx A R H0 ρ σ H D D' hf r F q k1 k2 k3 k4 =>
 ha fx A R H0 ρ σ H _ _ hf r F q (fun ρ1 σ1 H1 q1 r1 F1=>hb fx A R H0 ρ1 σ1 H1 _ _ hf r1 F1 q1 k1 k2 k3 k4) k2 k3 k4
theorem gP (h:LE K te pe):LS K fs (qH te) (iw pe):=fun fx A R H0 ρ σ H D D' hf r F q k1 k2 k3 k4=>h A ρ σ H _ _ r q fun v H1 p ρ1 q1 f1 o1=>k1 _ _ _ q1 o1.frz.1 (F.fr f1)
theorem ba (h:LE K te pe):LS K fs (sX te) (bI pe):=fun fx A R H0 ρ σ H D D' hf r F q k1 k2 k3 k4=>h A ρ σ H _ _ r q fun v H1 p ρ1 q1 f1 o1=>k2 v p ρ1 σ H1 q1 (o1.h0 F.dm) (F.fr f1)
theorem fO (ht:LT K tt pt) (ha:LS K fs ta pa) (hb:LS K fs tb pb):LS K fs (uz tt ta tb) (lJ pt pa pb):=fun fx A R H0 ρ σ H D D' hf r F q k1 k2 k3 k4=>ht A ρ σ H _ _ r q fun c H1 ρ1 q1 f1 r1=>by
 cases c with
 | true=>exact ha fx A R H0 ρ1 σ H1 D D' hf r1 (F.fr f1) q1 k1 k2 k3 k4
 | false=>exact hb fx A R H0 ρ1 σ H1 D D' hf r1 (F.fr f1) q1 k1 k2 k3 k4
theorem bg {g:TG}{pg:PTG} (h:LE K te pe) (hg:LG K fs g pg):LS K fs (p8 te g) (bO pe pg):=fun fx A R H0 ρ σ H D D' hf r F q k1 k2 k3 k4=>h A ρ σ H _ _ r q fun v H1 p ρ1 q1 f1 o1 =>
 hg fx A R H0 ρ1 σ H1 p v _ _ hf (F.fr f1) (o1.h0 F.dm) q1 k1
theorem px (h:LS K fs ta pa):LS K fs (rG ta) (nL pa):=fun fx A R H0 ρ σ H D D' hf r F q k1 k2 k3 k4=>by
 obtain ⟨J,q1,q2⟩:=q
 refine ⟨fun σ' H'=>∃ρ',J ρ'/\Rel K A ρ' σ' H'/\cS fx R H0 ρ' σ' H',?_,fun σ' H' ⟨ρ',j,r',F'⟩=>k1 ρ' σ' H' (q2 ρ' j) r' F'⟩
 exact h fx A R H0 ρ σ H _ _ hf r F q1 (fun ρ' σ' H' j r' F'=>⟨ρ',j,r',F'⟩) k2 k3 k4
end
def qf (K:PySem.W.Frag) (tl:TE):TI:=fun σ H R=>tl σ H fun x H1=>(∃k a xs,x=.ref a/\Sq k K H1 a xs/\R (Itk k K a) H1)\/∃l,x=.str (S l)/\R (Its (bf l)) H1
section
variable {X:Cx}{tg:Expr}
theorem pz {l:Expr}{tl:TE} (hl:PE X l tl):PI X tg l (qf X.K tl):=by
 intro pins s σ H R I h
 refine thn (hl pins s σ H _ I h) fun v s1 ⟨x,H1,I1,r1,q1⟩=>?_
 have fin:∀b∈[s1.heap.objs.size],j1 X pins H1 b:=fun b hb=>by
  have e:b=s1.heap.objs.size:=by simpa using hb
  subst e
  exact I1.fpOk (Nat.le_refl _) (I1.hok.fresh (Nat.le_refl _))
 rcases q1 with ⟨k,a,xs,e,hq,q⟩ | ⟨l,e,q⟩
 .subst e
  cases r1
  cases k with
  | false =>
   obtain ⟨its,rv,p,hz⟩:=I1.list hq
   refine wpAny_pyIter_list p.isList ?_
   exact ⟨s1.heap.objs.size,[s1.heap.objs.size],_,_,H1,rfl,I1.kept (t':=s1.toks) fun b o e=>Heap.get?_push_of_some _ e,kG a _,⟨_,Heap.get?_push_size _ rfl,rfl,rfl⟩,fin,q⟩
  | true =>
   obtain ⟨its,rv,p,hz⟩:=I1.tuple hq
   refine wpAny_pyIter_tuple (show s1.heap.IsTuple a its.toArray from p) ?_
   exact ⟨s1.heap.objs.size,[s1.heap.objs.size],_,_,H1,rfl,I1.kept (t':=s1.toks) fun b o e=>Heap.get?_push_of_some _ e,j2 a _,⟨_,Heap.get?_push_size _ rfl,rfl,rfl⟩,fin,q⟩
 .subst e
  obtain ⟨t,rfl⟩:=r1
  have hv:∀i v,i < (S l).cps.size->SignAt (S l) i v->∃x,(bf l)[i]?=some x/\bK x v:=fun i v _ ⟨c,u,hc,e⟩=>by
   subst e
   have hc':l[i]?=some c:=by simpa [S] using hc
   exact ⟨.str (S [c]),by unfold bf;rw [List.getElem?_map,hc'];rfl,u,rfl⟩
  have hsc:∀i v,SignAt (S l) i v->∀a,v≠.ref a:=fun i v ⟨c,u,hc,e⟩ a z=>by subst e;cases z
  have hn:(bf l).length=(S l).cps.size:=by rw [bh];simp [S]
  have hobj:∀ty i (h:Heap),h.IsStrIter s1.heap.objs.size ty (S l) t i->∃o,h.get? s1.heap.objs.size=some o/\∀v,o.data≠.cell v:=fun ty i h ⟨o,ho,_,hd⟩=>⟨o,ho,fun v z=>by rw [hd] at z;cases z⟩
  have hfr:∀ty i (h h':Heap),h.IsStrIter s1.heap.objs.size ty (S l) t i->(∀b∈[s1.heap.objs.size],∀o,h.get? b=some o->h'.get? b=some o)->h'.IsStrIter s1.heap.objs.size ty (S l) t i:=fun ty i h h' ⟨o,ho,r⟩ k=>⟨o,k _ (by simp) o ho,r⟩
  cases ha:(S l).cps.all (· < 128)
  .refine wpAny_pyIter_wide ha ⟨s1.heap.objs.size,[s1.heap.objs.size],_,Its (bf l),H1,rfl,I1.kept (t':=s1.toks) fun b o e=>Heap.get?_push_of_some _ e,
    ik (fun A hA=>Walks.strWide hA _ (S l) t) hn hv hsc (hobj _) (hfr _) (fun A i s Q E st q=>wpAny_pyIter_striter_wide st q),⟨_,Heap.get?_push_size _ rfl,rfl,rfl⟩,fin,q⟩
  .refine wpAny_pyIter_ascii ha ⟨s1.heap.objs.size,[s1.heap.objs.size],_,Its (bf l),H1,rfl,I1.kept (t':=s1.toks) fun b o e=>Heap.get?_push_of_some _ e,
    ik (fun A hA=>Walks.strAscii hA _ (S l) t) hn hv hsc (hobj _) (hfr _) (fun A i s Q E st q=>wpAny_pyIter_striter_ascii st q),⟨_,Heap.get?_push_size _ rfl,rfl,rfl⟩,fin,q⟩
theorem fg (K:PySem.W.Frag) (e:X.K=K) {l:Expr}{tl:TE} (hl:PE X l tl):PI X tg l (qf K tl):=by subst e;exact pz hl
end
abbrev PTI:=PSt->(Nat->(Nat->D)->PSt->Prop)->Prop
def Wlk (K:PySem.W.Frag) (O:Addr->Prop) (H:Hp) (J:It) (n:Nat) (it:Nat->D):Prop:=∀(O':Addr->Prop) (H':Hp),aD O H O' H'->(∀b,O' b->H' b≠none) ->
 (∀k,k < n->J.go k H'/\∀x H'',J.yld k H' x H''->Gr H' H''/\FV K O' H'' x (it k))/\J.stop n H'
def LI (K:PySem.W.Frag) (wi:TI) (pi:PTI):Prop:=∀(A:Addr->Prop) (ρ:PSt) (σ:St) (H:Hp) (Q:Nat->(Nat->D)->PSt->Prop) (Q':It->Hp->Prop),Rel K A ρ σ H->pi ρ Q ->
 (∀J H' n it ρ',Q n it ρ'->Fr ρ σ H ρ' H'->Rel K A ρ' σ H'->Wlk K (OO A ρ' σ) H' J n it->Q' J H')->wi σ H Q'
def itD (ds:List D) (k:Nat):D:=ds.getD k .non
theorem pA {ds:List D}{k:Nat} (h:k < ds.length):ds[k]?=some (itD ds k):=by unfold itD;rw [List.getD_eq_getElem?_getD,List.getElem?_eq_getElem h];rfl
theorem lK {ds:List D}{k:Nat}{d:D} (h:ds[k]?=some d):itD ds k=d:=by unfold itD;rw [List.getD_eq_getElem?_getD,h];rfl
def uX:D->Option (Nat×(Nat->D))
 | .lst ds=>some (ds.length,itD ds)
 | .tup ds=>some (ds.length,itD ds)
 | .scr ns=>some (ns.length,fun k=>.int (ns.getD k 0))
 | .str l=>some (l.length,fun k=>.str [l.getD k 0])
 | _=>none
def iy (pe:PTE):PTI:=fun ρ Q=>pe ρ fun p ρ1=>match uX p.d with
 | some (n,it)=>Q n it ρ1
 | none=>False
section
variable {K:PySem.W.Frag}{te:TE}{pe:PTE}{ta:TA}{pa:PTA}
theorem FV.row {O:Addr->Prop}{H:Hp}{v:V}{d:D}{n:Nat}{it:Nat->D} (h:FV K O H v d) (e:uX d=some (n,it)) :
  (∃k a xs,v=.ref a/\xs.length=n/\(∀O' H',aD O H O' H'->Sq k K H' a xs/\∀j x,xs[j]?=some x->FV K O' H' x (it j)))\/∃l,v=.str (S l)/\l.length=n/\(∀k,it k=.str [l.getD k 0]):=by
 cases h with
 | lst nn e0 f =>
  cases e
  refine .inl ⟨false,_,_,rfl,f.length,fun O' H' k=>⟨SqL.of (k _ _ nn e0).2,fun j x hx=>?_⟩⟩
  obtain ⟨d,hd,fd⟩:=f.get hx
  rw [lK hd];exact fd.keeps k
 | tup nn e0 f =>
  cases e
  refine .inl ⟨true,_,_,rfl,f.length,fun O' H' k=>⟨SqT.of (k _ _ nn e0).2,fun j x hx=>?_⟩⟩
  obtain ⟨d,hd,fd⟩:=f.get hx
  rw [lK hd];exact fd.keeps k
 | scr s =>
  cases e
  refine .inl ⟨false,_,_,rfl,List.length_map _,fun O' H' k=>⟨(s.keeps k).sq,fun j x hx=>?_⟩⟩
  obtain ⟨z,hz,rfl⟩:=mw hx
  show FV K O' H' (V.int z) (D.int (List.getD _ j 0))
  rw [List.getD_eq_getElem?_getD,hz];exact .int z
 | str l hl=>cases e;exact .inr ⟨l,rfl,rfl,fun _=>rfl⟩
 | non=>cases e
 | bl b=>cases e
 | int i=>cases e
 | ty n=>cases e
 | dic _ _ _ _=>cases e
 | obj _ _ _ _=>cases e
 | exc0 _ _=>cases e
 | exc1 _ _ _ _ _ _=>cases e
theorem fh (h:LE K te pe):LI K (qf K te) (iy pe):=fun A ρ σ H Q Q' R q k=>h A ρ σ H _ _ R q fun v H1 p ρ1 q1 f1 o1=>by
 obtain ⟨R1,fv⟩:=o1.frz
 split at q1
 .rename_i n it e
  rcases fv.row e with ⟨b,a,xs,rfl,hl,hr⟩ | ⟨l,rfl,hl,hi⟩
  .refine .inl ⟨b,a,xs,rfl,(hr _ H1 (fun b o n h=>⟨n,h⟩)).1,k _ H1 n it ρ1 q1 f1 R1 fun O' H' kk dom=>?_⟩
   obtain ⟨sq,hx⟩:=hr O' H' kk
   cases b with
   | false =>
    refine ⟨fun j hj=>⟨⟨xs,_,sq,List.getElem?_eq_getElem (by rw [hl];exact hj)⟩,fun x H'' ⟨e,y⟩=>?_⟩,⟨xs,sq,by rw [hl];exact Nat.le_refl _⟩⟩
    subst e;exact ⟨Gr.refl _,hx j x (y xs sq)⟩
   | true =>
    refine ⟨fun j hj=>⟨⟨xs,_,sq,List.getElem?_eq_getElem (by rw [hl];exact hj)⟩,fun x H'' ⟨e,y⟩=>?_⟩,⟨xs,sq,by rw [hl];exact Nat.le_refl _⟩⟩
    subst e;exact ⟨Gr.refl _,hx j x (y xs sq)⟩
  .refine .inr ⟨l,rfl,k _ H1 n it ρ1 q1 f1 R1 fun O' H' kk dom=>?_⟩
   refine ⟨fun j hj=>⟨by show j < (bf l).length;rw [bh,hl];exact hj,fun x H'' ⟨e,y⟩=>?_⟩,by show (bf l).length=n;rw [bh,hl]⟩
   subst e
   obtain ⟨c,hc,rfl⟩:=cp y
   rw [hi,List.getD_eq_getElem?_getD,hc]
   exact ⟨Gr.refl _,.str _ (by show 1<=1000000;decide)⟩
 .exact q1.elim
def r0 (pa:PTA):PTI:=fun ρ Q=>pa ρ fun as ρ1=>match as with
 | [.v (.int j)]=>(-(2 ^ 60)<=j/\j < 2 ^ 60)/\Q j.toNat (fun k=>.int (k:Int)) ρ1
 | _=>False
def uY (pa:PTA):PTI:=fun ρ Q=>pa ρ fun as ρ1=>match as with
 | [.v (.int i),.v (.int j)]=>(-(2 ^ 60)<=i/\i < 2 ^ 60/\-(2 ^ 60)<=j/\j < 2 ^ 60)/\Q (j - i).toNat (fun k=>.int (i + (k:Int))) ρ1
 | _=>False
theorem r8 {O:Addr->Prop}{H:Hp}{lo:Int}{n:Nat}{it:Nat->D} (h:∀k:Nat,it k=.int (lo + k)):Wlk K O H (Itr lo n) n it:=fun O' H' _ _ =>
 ⟨fun j hj=>⟨hj,fun x H'' ⟨e,y⟩=>by subst e y;rw [h];exact ⟨Gr.refl _,.int _⟩⟩,Nat.le_refl _⟩
theorem mO (h:LAs K ta pa):LI K (oh ta) (r0 pa):=fun A ρ σ H Q Q' R q k=>h A ρ σ H _ _ R q fun vs H1 as ρ1 q1 f1 R1 o1=>by
 split at q1
 .rename_i j
  cases o1 with
  | cons a b =>
   cases b
   cases a
   exact ⟨j,rfl,by omega,by omega,k _ H1 _ _ ρ1 q1.2 f1 R1 (r8 fun k=>by rw [Int.zero_add])⟩
 .exact q1.elim
theorem t7 (h:LAs K ta pa):LI K (oi ta) (uY pa):=fun A ρ σ H Q Q' R q k=>h A ρ σ H _ _ R q fun vs H1 as ρ1 q1 f1 R1 o1=>by
 split at q1
 .rename_i i j
  cases o1 with
  | cons a b =>
   cases b with
   | cons c d =>
    cases d
    cases a
    cases c
    exact ⟨i,j,rfl,⟨by omega,by omega,by omega,by omega⟩,k _ H1 _ _ ρ1 q1.2 f1 R1 (r8 fun k=>rfl)⟩
 .exact q1.elim
def rowD:D->Option (List D)
 | .lst ds=>some ds
 | .tup ds=>some ds
 | .scr ns=>some (ns.map .int)
 | _=>none
theorem FV.rowD {O:Addr->Prop}{H:Hp}{v:V}{d:D}{ds:List D} (h:FV K O H v d) (e:L2.rowD d=some ds) :
  ∃k a xs,v=.ref a/\xs.length=ds.length/\(∀O' H',aD O H O' H'->Sq k K H' a xs/\FVs K O' H' xs ds):=by
 cases h with
 | lst nn e0 f=>cases e;exact ⟨false,_,_,rfl,f.length,fun O' H' k=>⟨SqL.of (k _ _ nn e0).2,f.keeps k⟩⟩
 | tup nn e0 f=>cases e;exact ⟨true,_,_,rfl,f.length,fun O' H' k=>⟨SqT.of (k _ _ nn e0).2,f.keeps k⟩⟩
 | scr s=>cases e;exact ⟨false,_,_,rfl,by rw [List.length_map,List.length_map],fun O' H' k=>⟨(s.keeps k).sq,FVs.of_ints _⟩⟩
 | str l hl=>cases e
 | non=>cases e
 | bl b=>cases e
 | int i=>cases e
 | ty n=>cases e
 | dic _ _ _ _=>cases e
 | obj _ _ _ _=>cases e
 | exc0 _ _=>cases e
 | exc1 _ _ _ _ _ _=>cases e
def t9 (pa:PTA):PTI:=fun ρ Q=>pa ρ fun as ρ1=>match as with
 | [.v a,.v b]=>(match rowD a,rowD b with
  | some xs,some ys=>Q (min xs.length ys.length) (fun k=>.tup [itD xs k,itD ys k]) ρ1
  | _,_=>False)
 | _=>False
theorem r9 (h:LAs K ta pa):LI K (tQ K ta) (t9 pa):=fun A ρ σ H Q Q' R q k=>h A ρ σ H _ _ R q fun vs H1 as ρ1 q1 f1 R1 o1=>by
 split at q1
 .rename_i da db
  cases o1 with
  | cons o1 o2 =>
   cases o2 with
   | cons o2 o3 =>
    cases o3
    split at q1
    .rename_i xs ys ex ey
     obtain ⟨b1,a1,us,rfl,l1,w1⟩:=FV.rowD (show FV K _ H1 _ da from o1) ex
     obtain ⟨b2,a2,ws,rfl,l2,w2⟩:=FV.rowD (show FV K _ H1 _ db from o2) ey
     have t1:=w1 _ H1 (fun b o n h=>⟨n,h⟩)
     have t2:=w2 _ H1 (fun b o n h=>⟨n,h⟩)
     refine ⟨b1,b2,a1,a2,rfl,⟨us,ws,t1.1,t2.1⟩,k _ H1 _ _ ρ1 q1 f1 R1 fun O' H' kk dom=>?_⟩
     obtain ⟨s1,g1⟩:=w1 O' H' kk
     obtain ⟨s2,g2⟩:=w2 O' H' kk
     refine ⟨fun j hj=>?_,⟨us,ws,s1,s2,by omega⟩⟩
     have h1:j < us.length:=by omega
     have h2:j < ws.length:=by omega
     refine ⟨⟨us,ws,_,_,s1,s2,List.getElem?_eq_getElem h1,List.getElem?_eq_getElem h2⟩,fun x H'' ⟨T,u,w,hT,e,y1,y2,e2⟩=>?_⟩
     subst e e2
     obtain ⟨d1,hd1,fd1⟩:=g1.get (y1 us s1)
     obtain ⟨d2,hd2,fd2⟩:=g2.get (y2 ws s2)
     have e1:itD xs j=d1:=by unfold itD;rw [List.getD_eq_getElem?_getD,hd1];rfl
     have e2:itD ys j=d2:=by unfold itD;rw [List.getD_eq_getElem?_getD,hd2];rfl
     rw [e1,e2]
     have kk2:aD O' H' O' (upd H' T (.tup [u,w])):=fun b o n e=>⟨n,by rw [ao (aO e hT)];exact e⟩
     exact ⟨Gr.new hT,.tup (fun z=>dom T z hT) aJ (.cons (fd1.keeps kk2) (.cons (fd2.keeps kk2) .nil))⟩
    .exact q1.elim
 .exact q1.elim
end
def gQ (pi:PTI) (g:PTG) (pb:PTS):PTS:=fun D ρ=>pi ρ fun n it ρ1=>∃I:Nat->PSt->Prop,I 0 ρ1/\(∀k ρ d,k < n->d=it k->I k ρ->g (.dat d) ρ fun ρ2=>pb { D with nx:=I (k + 1),ct:=I (k + 1),bk:=D.nx } ρ2)/\∀ρ,I n ρ->D.nx ρ
def lL (pt:PTT) (pb:PTS):PTS:=fun D ρ=>∃I:Nat->PSt->Prop,(∃m,I m ρ)/\∀m ρ,I m ρ->pt ρ fun b ρ1=>eH b (pb { D with nx:=fun ρ'=>∃m',m' < m/\I m' ρ',ct:=fun ρ'=>∃m',m' < m/\I m' ρ',bk:=D.nx } ρ1) (D.nx ρ1)
section
variable {K:PySem.W.Frag}{fs:List Nat}{wi:TI}{pi:PTI}{g:TG}{pg:PTG}{tb:TS}{pb:PTS}{tt:TT}{pt:PTT}
theorem eI (hi:LI K wi pi) (hg:LGd K fs g pg) (hb:LS K fs tb pb):LS K fs (uD wi g tb) (gQ pi pg pb):=fun fx A R H0 ρ σ H D D' hf r F q k1 k2 k3 k4=>hi A ρ σ H _ _ r q fun J H1 n it ρ1 q1 f1 r1 W=>by
 obtain ⟨I,i0,turn,after⟩:=q1
 have F1:=F.fr f1
 refine ⟨fun i m σ' H'=>i + m=n/\∃ρ',I i ρ'/\Rel K A ρ' σ' H'/\cS fx (Wr ρ1 σ) H1 ρ' σ' H',⟨n,Nat.zero_add n,ρ1,i0,r1,cS.start F1.fx⟩,fun i m σ' H' ⟨him,ρ',iv,r',F'⟩=>?_⟩
 obtain ⟨go,stop⟩:=W _ H' F'.keeps r'.dom2
 by_cases hk:i < n
 .obtain ⟨g1,g2⟩:=go i hk
  refine .inr ⟨g1,fun σ'' H''=>∃ρ'',I (i + 1) ρ''/\Rel K A ρ'' σ'' H''/\cS fx (Wr ρ1 σ) H1 ρ'' σ'' H'',fun σ'' H'' z=>⟨m - 1,by omega,by omega,z⟩,fun x H'' y=>?_⟩
  obtain ⟨gr,fv⟩:=g2 x H'' y
  refine hg fx A (Wr ρ1 σ) H1 ρ' σ' H'' _ x _ _ hf (F'.fr gr.fr) (r'.gr gr) fv (turn i ρ' _ hk rfl iv) fun ρ2 σ2 q2 r2 F2 _=>?_
  refine hb fx A (Wr ρ1 σ) H1 ρ2 σ2 H'' _ _ hf r2 F2 q2 (fun ρ3 σ3 H3 q3 r3 F3=>⟨ρ3,q3,r3,F3⟩) (fun v p ρ3 σ3 H3 q3 o3 F3=>k2 v p ρ3 σ3 H3 q3 (o3.h0 F1.dm) (F1.trans F3 F3.fx)) (fun ρ3 σ3 H3 q3 r3 F3=>k1 ρ3 σ3 H3 q3 r3 (F1.trans F3 F3.fx)) (fun ρ3 σ3 H3 q3 r3 F3=>⟨ρ3,q3,r3,F3⟩)
 .have e:i=n:=by omega
  subst e
  exact .inl ⟨stop,k1 ρ' σ' H' (after ρ' iv) r' (F1.trans F' F'.fx)⟩
theorem mP (ht:LT K tt pt) (hb:LS K fs tb pb):LS K fs (nC tt tb) (lL pt pb):=fun fx A R H0 ρ σ H D D' hf r F q k1 k2 k3 k4=>by
 obtain ⟨I,⟨m0,i0⟩,turn⟩:=q
 refine ⟨fun m σ' H'=>∃ρ',I m ρ'/\Rel K A ρ' σ' H'/\cS fx R H0 ρ' σ' H',⟨m0,ρ,i0,r,F⟩,fun m σ' H' ⟨ρ',iv,r',F'⟩=>?_⟩
 refine ht A ρ' σ' H' _ _ r' (turn m ρ' iv) fun b H1 ρ1 q1 f1 r1=>?_
 cases b with
 | true =>
  refine ⟨fun σ'' H''=>∃ρ'' m',m' < m/\I m' ρ''/\Rel K A ρ'' σ'' H''/\cS fx R H0 ρ'' σ'' H'',fun σ'' H'' ⟨ρ'',m',h1,h2⟩=>⟨m',h1,ρ'',h2⟩,?_⟩
  exact hb fx A R H0 ρ1 σ' H1 _ _ hf r1 (F'.fr f1) q1 (fun ρ3 σ3 H3 ⟨m',h1,h2⟩ r3 F3=>⟨ρ3,m',h1,h2,r3,F3⟩) k2 k1 (fun ρ3 σ3 H3 ⟨m',h1,h2⟩ r3 F3=>⟨ρ3,m',h1,h2,r3,F3⟩)
 | false=>exact k1 ρ1 σ' H1 q1 r1 (F'.fr f1)
end
def bc (ix:List (Option Nat)) (ρ:PSt):PSt:=ix.map fun o=>match o with
 | none=>none
 | some j=>match ρ[j]? with
  | some v=>v
  | none=>none
def cR:List (Option Nat)->PSt->PSt->PSt
 | some j::ix,ρ,t::τ=>cR ix (ρ.set j t) τ
 | none::ix,ρ,_::τ=>cR ix ρ τ
 | _,ρ,_=>ρ
def pD:List (Option Nat)->Bool
 | []=>true
 | none::r=>pD r
 | some j::r=>!r.contains (some j) && pD r
theorem gR:∀(ix:List (Option Nat)) (ρ τ:PSt),(cR ix ρ τ).length=ρ.length
 | [],ρ,τ=>by unfold cR;rfl
 | some j::ix,ρ,t::τ=>by show (cR ix (ρ.set j t) τ).length=_;rw [gR ix,List.length_set]
 | none::ix,ρ,t::τ=>by show (cR ix ρ τ).length=_;exact gR ix ρ τ
 | some j::ix,ρ,[]=>by unfold cR;rfl
 | none::ix,ρ,[]=>by unfold cR;rfl
theorem eY:∀(ix:List (Option Nat)) (ρ τ:PSt) (j:Nat),some j∉ix->(cR ix ρ τ)[j]?=ρ[j]?
 | [],ρ,τ,j,_=>by unfold cR;rfl
 | some i::ix,ρ,t::τ,j,h=>by
  show (cR ix (ρ.set i t) τ)[j]?=_
  rw [eY ix _ τ j (fun z=>h (List.mem_cons_of_mem _ z)),List.getElem?_set_ne (fun z=>h (by rw [z];exact List.mem_cons_self ..))]
 | none::ix,ρ,t::τ,j,h=>by show (cR ix ρ τ)[j]?=_;exact eY ix ρ τ j fun z=>h (List.mem_cons_of_mem _ z)
 | some i::ix,ρ,[],j,_=>by unfold cR;rfl
 | none::ix,ρ,[],j,_=>by unfold cR;rfl
theorem jc:∀(ix:List (Option Nat)) (ρ τ:PSt) (j k:Nat),pD ix=true->ix[k]?=some (some j)->k < τ.length->j < ρ.length->(cR ix ρ τ)[j]?=τ[k]?
 | some i::ix,ρ,t::τ,j,k,h,e,hk,hj=>by
  have h:(!ix.contains (some i) && pD ix)=true:=h
  rw [Bool.and_eq_true] at h
  show (cR ix (ρ.set i t) τ)[j]?=_
  cases k with
  | zero =>
   have e:some (some i)=some (some j):=e
   cases e
   have hn:some i∉ix:=fun z=>by
    have:=h.1
    rw [List.contains_iff_mem.mpr z] at this;cases this
   rw [eY ix _ τ i hn,List.getElem?_set_self hj];rfl
  | succ k =>
   have e:ix[k]?=some (some j):=by simpa using e
   rw [jc ix _ τ j k h.2 e (by simpa using hk) (by rw [List.length_set];exact hj)];simp
 | none::ix,ρ,t::τ,j,k,h,e,hk,hj=>by
  show (cR ix ρ τ)[j]?=_
  cases k with
  | zero=>cases e
  | succ k =>
   have e:ix[k]?=some (some j):=by simpa using e
   rw [jc ix _ τ j k h e (by simpa using hk) hj];simp
 | [],ρ,τ,j,k,h,e,hk,hj=>by simp at e
 | some i::ix,ρ,[],j,k,h,e,hk,hj=>absurd hk (Nat.not_lt_zero _)
 | none::ix,ρ,[],j,k,h,e,hk,hj=>absurd hk (Nat.not_lt_zero _)
theorem gS:∀{ix:List (Option Nat)}{k l j:Nat},pD ix=true->ix[k]?=some (some j)->ix[l]?=some (some j)->k=l
 | some i::ix,k,l,j,h,e1,e2=>by
  have h:(!ix.contains (some i) && pD ix)=true:=h
  rw [Bool.and_eq_true] at h
  have no:∀m,ix[m]?≠some (some i):=fun m z=>by
   have:=h.1
   rw [List.contains_iff_mem.mpr (List.mem_of_getElem? z)] at this;cases this
  cases k with
  | zero =>
   have e1:some (some i)=some (some j):=e1
   cases e1
   cases l with
   | zero=>rfl
   | succ l=>exact absurd (by simpa using e2) (no l)
  | succ k =>
   cases l with
   | zero =>
    have e2:some (some i)=some (some j):=e2
    cases e2
    exact absurd (by simpa using e1) (no k)
   | succ l=>rw [gS (k:=k) (l:=l) h.2 (by simpa using e1) (by simpa using e2)]
 | none::ix,k,l,j,h,e1,e2=>by
  cases k with
  | zero=>cases e1
  | succ k =>
   cases l with
   | zero=>cases e2
   | succ l=>rw [gS (ix:=ix) (k:=k) (l:=l) (j:=j) h (by simpa using e1) (by simpa using e2)]
 | [],k,l,j,h,e1,e2=>by simp at e1
theorem cZ {ix:List (Option Nat)}{ρ:PSt}{k:Nat}{p:PV} (h:(bc ix ρ)[k]?=some (some p)):∃j,ix[k]?=some (some j)/\ρ[j]?=some (some p):=by
 unfold bc at h
 rw [List.getElem?_map] at h
 cases e:ix[k]? with
 | none=>rw [e] at h;cases h
 | some o =>
  rw [e] at h
  cases o with
  | none=>cases h
  | some j =>
   refine ⟨j,rfl,?_⟩
   have h:some (match ρ[j]? with | some v=>v | none=>none)=some (some p):=h
   cases e2:ρ[j]? with
   | none=>rw [e2] at h;cases h
   | some v=>rw [e2] at h;exact h
theorem dh {ix:List (Option Nat)}{σ:St}{k j:Nat}{v:V} (h:ix[k]?=some (some j)) (e:σ[j]?=some (some v)):(lr ix σ)[k]?=some (some v):=by
 unfold lr
 rw [List.getElem?_map,h]
 show some (match σ[j]? with | some v=>v | none=>none)=some (some v)
 rw [e]
theorem Rel.amb {K:PySem.W.Frag}{A:Addr->Prop}{ρ:PSt}{σ:St}{H:Hp}{a:Addr}{o:HO} (R:Rel K A ρ σ H) (ha:A a):Rel K A ρ σ (upd H a o):=by
 have k:aD (OO A ρ σ) H (OO A ρ σ) (upd H a o):=fun b u n e=>⟨n,by rw [ao (fun z=>n (by rw [z];exact .inl ha))];exact e⟩
 refine ⟨R.len,fun i q e=>?_,R.dj,fun b z=>?_,R.sep⟩
 .obtain ⟨v,s,r⟩:=R.get i q e
  refine ⟨v,s,r.keeps k fun ow b eb=>?_⟩
  rw [ao]
  intro z
  subst z eb
  exact R.sep b ha ⟨i,q,e,ow,s⟩
 .by_cases z':b=a
  .rw [z',aJ];exact nofun
  .rw [ao z'];exact R.dom b z
def ua (ix:List (Option Nat)) (ρ:PSt):Bool:=ix.all fun o=>match o with | none=>true | some j=>(match ρ[j]? with | some (some _)=>true | _=>false)
structure gT (ix:List (Option Nat)) (ρ1:PSt) (n:Nat) (it:Nat->D) (g:PTG) (pt:PTT) (pe:PTE) (Q:PKt):Prop where
 ex:∃I:Nat->List D->PSt->Prop,I 0 [] (bc ix ρ1) /\
  (∀k ys τ d,k < n->d=it k->I k ys τ->g (.dat d) τ fun τ2=>pt τ2 fun ok τ3=>eH ok (pe τ3 fun p τ4=>I (k + 1) (ys++[p.d]) τ4) (I (k + 1) ys τ3))/\∀ys τ,I n ys τ->Q (.own ys) (cR ix ρ1 τ)
def kl (ix:List (Option Nat)) (pi:PTI) (g:PTG) (pt:PTT) (pe:PTE):PTE:=fun ρ Q=>pi ρ fun n it ρ1=>ua ix ρ1=true/\n<=1000000/\gT ix ρ1 n it g pt pe Q
def qg:PTT:=fun ρ Q=>Q true ρ
theorem nM {K:PySem.W.Frag}:LT K sO qg:=fun A ρ σ H Q Q' R q k=>k true H ρ q (Fr.refl _ _ _) R
def qh (ix:List (Option Nat)):List Nat:=(List.range ix.length).filter fun k=>(ix.getD k none).isSome
theorem fi {K:PySem.W.Frag}{ix:List (Option Nat)}{wi:TI}{pi:PTI}{g:TG}{pg:PTG}{tts:TT}{pt:PTT}{te:TE}{pe:PTE} (hix:pD ix=true) (hi:LI K wi pi) (hg:∀fs:List Nat,(∀k∈fs,k∈qh ix)->LGd K fs g pg) (ht:LT K tts pt) (he:LE K te pe) :
  LE K (mB ix wi g tts te) (kl ix pi pg pt pe):=fun A ρ σ H Q Q' R q k=>hi A ρ σ H _ _ R q fun J H1 n it ρ1 q1 f1 R1 W D hD=>by
 obtain ⟨hcap,hn,⟨I,i0,turn,after⟩⟩:=q1
 let τρ0:=bc ix ρ1
 let τσ0:=lr ix σ
 let Ai:Addr->Prop:=fun b=>A b\/b=D\/(Wr ρ1 σ b/\¬ Wr τρ0 τσ0 b)
 let H0':=upd H1 D (.lst [])
 have wsub:∀b,Wr τρ0 τσ0 b->Wr ρ1 σ b:=fun b ⟨m,p,e,o,s⟩=>by
  obtain ⟨j,h1,h2⟩:=cZ e
  obtain ⟨v,hv,_⟩:=R1.get j p h2
  have:=dh h1 hv
  rw [s] at this
  cases this
  exact ⟨j,p,h2,o,hv⟩
 have nD:¬ Wr ρ1 σ D:=fun z=>R1.wr z hD
 have oosub:∀b,OO Ai τρ0 τσ0 b->OO A ρ1 σ b\/b=D:=fun b z=>by
  rcases z with (z | z | z) | z
  .exact .inl (.inl z)
  .exact .inr z
  .exact .inl (.inr z.1)
  .exact .inl (.inr (wsub b z))
 have kD:aD (OO A ρ1 σ) H1 (OO Ai τρ0 τσ0) H0':=fun b o nn e=>by
  refine ⟨fun z=>?_,?_⟩
  .rcases oosub b z with z | z
   .exact nn z
   .rw [z,hD] at e;cases e
  .rw [show H0' b=H1 b from ao (aO e hD)];exact e
 have Ri:Rel K Ai τρ0 τσ0 H0':=by
  refine ⟨by show (bc ix ρ1).length=(lr ix σ).length;unfold bc lr;rw [List.length_map,List.length_map],fun m p e=>?_,fun m l p q v e1 e2 o1 o2 s1 s2=>?_,fun b z=>?_,fun b z w=>?_⟩
  .obtain ⟨j,h1,h2⟩:=cZ e
   obtain ⟨v,hv,r⟩:=R1.get j p h2
   refine ⟨v,dh h1 hv,r.keeps kD fun ow a ea=>?_⟩
   subst ea
   exact ao (fun z=>nD (by rw [<- z];exact ⟨j,p,h2,ow,hv⟩))
  .obtain ⟨j,h1,h2⟩:=cZ e1
   obtain ⟨j',h3,h4⟩:=cZ e2
   obtain ⟨v1,hv1,_⟩:=R1.get j p h2
   obtain ⟨v2,hv2,_⟩:=R1.get j' q h4
   have t1:=dh h1 hv1
   have t2:=dh h3 hv2
   rw [s1] at t1
   rw [s2] at t2
   cases t1
   cases t2
   have:=R1.dj j j' p q _ h2 h4 o1 o2 hv1 hv2
   subst this
   exact gS hix h1 h3
  .rcases z with z | z | z
   .intro e
    by_cases zz:b=D
    .exact R1.dom b z (by rw [zz];exact hD)
    .rw [show H0' b=H1 b from ao zz] at e;exact R1.dom b z e
   .rw [z];show upd H1 D _ D≠none;rw [aJ];exact nofun
   .intro e
    rw [show H0' b=H1 b from ao (fun zz=>nD (by rw [<- zz];exact z.1))] at e;exact R1.wr z.1 e
  .rcases z with z | z | z
   .exact R1.sep b z (wsub b w)
   .rw [z] at w;exact nD (wsub D w)
   .exact z.2 w
 let fxi:List (Nat×V):=(qh ix).filterMap fun m=>match (τσ0[m]?) with | some (some v)=>some (m,v) | _=>none
 have hfx:∀p∈fxi,τσ0[p.1]?=some (some p.2):=fun p hp=>by
  obtain ⟨m,hm,e⟩:=List.mem_filterMap.mp hp
  split at e
  .rename_i v ev;cases e;exact ev
  .cases e
 have hfs:∀m∈fxi.map Prod.fst,m∈qh ix:=fun m hm=>by
  obtain ⟨p,hp,rfl⟩:=List.mem_map.mp hm
  obtain ⟨m',hm',e⟩:=List.mem_filterMap.mp hp
  split at e
  .cases e;exact hm'
  .cases e
 have hgi:=hg (fxi.map Prod.fst) hfs
 have fxget:∀(m j:Nat) (v:V),ix[m]?=some (some j)->σ[j]?=some (some v)->(m,v)∈fxi:=fun m j v h1 h2=>by
  refine List.mem_filterMap.mpr ⟨m,?_,?_⟩
  .unfold qh
   refine List.mem_filter.mpr ⟨List.mem_range.mpr (List.getElem?_eq_some_iff.mp h1).1,?_⟩
   rw [List.getD_eq_getElem?_getD,h1];rfl
  .show (match (lr ix σ)[m]? with | some (some v)=>some (m,v) | _=>none)=_
   rw [dh h1 h2]
 let Rr:Addr->Prop:=fun b=>Wr τρ0 τσ0 b\/b=D
 have hRr:∀b,Rr b->OO Ai τρ0 τσ0 b:=fun b z=>z.elim (fun z=>.inr z) (fun z=>.inl (.inr (.inl z)))
 have F0:cS fxi Rr H0' τρ0 τσ0 H0':=⟨fun _ _ _ h=>h,fun _ h=>h,fun b w=>.inl (.inl w),hfx⟩
 refine ⟨fun i m τ H2=>i + m=n/\∃ys τρ xs,I i ys τρ/\ys.length<=i/\Rel K Ai τρ τ H2/\cS fxi Rr H0' τρ τ H2/\H2 D=some (.lst xs)/\FVs K (OO Ai τρ τ) H2 xs ys/\∀b,Wr τρ τ b->Wr τρ0 τσ0 b,
  ⟨n,Nat.zero_add n,[],τρ0,[],i0,Nat.le_refl _,Ri,F0,aJ,.nil,fun _ h=>h⟩,fun i m τ H2 ⟨him,ys,τρ,xs,iv,hy,r2,F2,eD,fD,hw⟩=>?_⟩
 have kk:aD (OO A ρ1 σ) H1 (OO Ai τρ τ) H2:=fun b o nn e=>(F2.keepsR hRr) b o (kD b o nn e).1 (kD b o nn e).2
 obtain ⟨go,stop⟩:=W _ H2 kk r2.dom2
 by_cases hk:i < n
 .obtain ⟨g1,g2⟩:=go i hk
  refine .inr ⟨g1,fun x H3 y=>?_⟩
  obtain ⟨gr,fv⟩:=g2 x H3 y
  have AiD:Ai D:=.inr (.inl rfl)
  refine hgi fxi Ai Rr H0' τρ τ H3 _ x _ _ rfl (F2.fr gr.fr) (r2.gr gr) fv (turn i ys τρ _ hk rfl iv) fun τρ2 τ2 q2 r3 F3 w3=>?_
  refine ht Ai τρ2 τ2 H3 _ _ r3 q2 fun ok H5 τρ3 q3 f5 r5=>?_
  have F5:=F3.fr f5
  have fD5:FVs K (OO Ai τρ3 τ2) H5 xs ys:=((fD.keeps (gr.fr (ρ:=τρ) (σ:=τ)).keeps).keeps (aD.less fun b z=>z.imp id (w3 b))).keeps f5.keeps
  have eD5:H5 D=some (.lst xs):=f5.kp D _ (r3.sep D AiD) (gr D _ eD)
  cases ok with
  | true =>
   refine he Ai τρ3 τ2 H5 _ _ r5 q3 fun v H6 p τρ4 q4 f6 o6=>?_
   obtain ⟨r6,fv6⟩:=o6.frz
   have F6:=F5.fr f6
   have eD6:H6 D=some (.lst xs):=f6.kp D _ (r5.sep D AiD) eD5
   have kw:aD (OO Ai τρ4 τ2) H6 (OO Ai τρ4 τ2) (upd H6 D (.lst (xs++[v]))):=fun b o nn e=>⟨nn,by rw [ao (fun z=>nn (by rw [z];exact .inl AiD))];exact e⟩
   refine ⟨xs,eD6,?_,m - 1,by omega,by omega,ys++[p.d],τρ4,xs++[v],q4,by rw [List.length_append];show _ + 1<=_;omega,r6.amb AiD,⟨fun b o nn e=>?_,fun b z=>?_,F6.ow,F6.fx⟩,aJ,((fD5.keeps f6.keeps).append (.cons fv6 .nil)).keeps kw,fun b z=>hw b (w3 b (f5.ow b (f6.ow b z)))⟩
   .have:xs.length=ys.length:=fD.length
    exact Nat.lt_of_lt_of_le (by omega:xs.length < 1000000) (sz _ (Nat.le_refl _))
   .rw [ao (fun z=>nn (.inr z))];exact F6.kp b o nn e
   .by_cases zz:b=D
    .rw [zz,aJ];exact nofun
    .rw [ao zz];exact F6.dm b z
  | false=>exact ⟨m - 1,by omega,by omega,ys,τρ3,xs,q3,by omega,r5,F5,eD5,fD5,fun b z=>hw b (w3 b (f5.ow b z))⟩
 .have e:i=n:=by omega
  subst e
  refine .inl ⟨stop,?_⟩
  have q':=after ys τρ iv
  have cap:∀(m j:Nat),ix[m]?=some (some j)->∃p v,ρ1[j]?=some (some p)/\σ[j]?=some (some v)/\τ[m]?=some (some v):=fun m j e=>by
   have h1:=List.all_eq_true.mp hcap _ (List.mem_of_getElem? e)
   have h1:(match ρ1[j]? with | some (some _)=>true | _=>false)=true:=h1
   split at h1
   .rename_i p ep
    obtain ⟨v,hv,_⟩:=R1.get j p ep
    exact ⟨p,v,ep,hv,F2.fx _ (fxget m j v e hv)⟩
   .cases h1
  have get':∀(j:Nat) (p:PV),(cR ix ρ1 τρ)[j]?=some (some p)->(∃m v,ix[m]?=some (some j)/\σ[j]?=some (some v)/\τ[m]?=some (some v)/\τρ[m]?=some (some p))\/(some j∉ix/\ρ1[j]?=some (some p)):=fun j p e=>by
   by_cases hj:some j∈ix
   .obtain ⟨m,hm,em⟩:=List.getElem_of_mem hj
    have em':ix[m]?=some (some j):=by rw [List.getElem?_eq_getElem hm,em]
    obtain ⟨p0,v,h1,h2,h3⟩:=cap m j em'
    rw [jc ix ρ1 τρ j m hix em' (by rw [r2.len];exact (List.getElem?_eq_some_iff.mp h3).1) (List.getElem?_eq_some_iff.mp h1).1] at e
    exact .inl ⟨m,v,em',h2,h3,e⟩
   .rw [eY ix ρ1 τρ j hj] at e
    exact .inr ⟨hj,e⟩
  have nocap:∀(j:Nat) (p:PV) (b:Addr),some j∉ix->ρ1[j]?=some (some p)->p.isOwn=true->σ[j]?=some (some (.ref b))->¬ Wr τρ0 τσ0 b:=fun j p b hj e o s ⟨m,q,e1,o1,s1⟩=>by
   obtain ⟨j',h1,h2⟩:=cZ e1
   obtain ⟨v,hv,_⟩:=R1.get j' q h2
   have:=dh h1 hv
   rw [s1] at this
   cases this
   have:=R1.dj j j' p q _ e h2 o o1 s hv
   subst this
   exact hj (List.mem_of_getElem? h1)
  have w':∀b,Wr (cR ix ρ1 τρ) σ b->Wr τρ τ b\/(Wr ρ1 σ b/\¬ Wr τρ0 τσ0 b):=fun b ⟨j,p,e,o,s⟩=>by
   rcases get' j p e with ⟨m,v,h1,h2,h3,h4⟩ | ⟨hj,h1⟩
   .rw [s] at h2;cases h2;exact .inl ⟨m,p,h4,o,h3⟩
   .exact .inr ⟨⟨j,p,h1,o,s⟩,nocap j p b hj h1 o s⟩
  have oo':∀b,OO (cQ A D) (cR ix ρ1 τρ) σ b->OO Ai τρ τ b:=fun b z=>by
   rcases z with (z | z) | z
   .exact .inl (.inl z)
   .exact .inl (.inr (.inl z))
   .rcases w' b z with z | z
    .exact .inr z
    .exact .inl (.inr (.inr z))
  have kp1:∀b o,¬ Wr τρ0 τσ0 b->b≠D->H1 b=some o->H2 b=some o:=fun b o n1 n2 e=>F2.kp b o (fun z=>z.elim n1 n2) (by rw [show H0' b=H1 b from ao n2];exact e)
  have k1:aD (OO A ρ1 σ) H1 (OO (cQ A D) (cR ix ρ1 τρ) σ) H2:=fun b o nn e=>⟨fun z=>(kk b o nn e).1 (oo' b z),(kk b o nn e).2⟩
  have AiD:Ai D:=.inr (.inl rfl)
  have R':Rel K (cQ A D) (cR ix ρ1 τρ) σ H2:=by
   refine ⟨by rw [gR];exact R1.len,fun j p e=>?_,fun j l p q v e1 e2 o1 o2 s1 s2=>?_,fun b z=>?_,fun b z w=>?_⟩
   .rcases get' j p e with ⟨m,v,h1,h2,h3,h4⟩ | ⟨hj,h1⟩
    .obtain ⟨v',hv',r⟩:=r2.get m p h4
     rw [h3] at hv';cases hv'
     exact ⟨v,h2,r.keeps (aD.less oo') fun _ _ _=>rfl⟩
    .obtain ⟨v,hv,r⟩:=R1.get j p h1
     refine ⟨v,hv,r.keeps k1 fun ow a ea=>?_⟩
     subst ea
     obtain ⟨a',u,e1,e2⟩:=r.ref ow
     cases e1
     rw [e2]
     exact kp1 a u (nocap j p a hj h1 ow hv) (fun z=>by rw [z,hD] at e2;cases e2) e2
   .rcases get' j p e1 with ⟨m,v1,h1,h2,h3,h4⟩ | ⟨hj,h1⟩
    .rw [s1] at h2;cases h2
     rcases get' l q e2 with ⟨m',v2,g1,g2,g3,g4⟩ | ⟨hl,g1⟩
     .rw [s2] at g2;cases g2
      have:=r2.dj m m' p q _ h4 g4 o1 o2 h3 g3
      subst this
      rw [h1] at g1;cases g1;rfl
     .exfalso
      obtain ⟨v',hv',r⟩:=r2.get m p h4
      rw [h3] at hv';cases hv'
      obtain ⟨a,u,ea,_⟩:=r.ref o1
      subst ea
      exact nocap l q a hl g1 o2 s2 (hw a ⟨m,p,h4,o1,h3⟩)
    .rcases get' l q e2 with ⟨m',v2,g1,g2,g3,g4⟩ | ⟨hl,g1⟩
     .rw [s2] at g2;cases g2
      exfalso
      obtain ⟨v',hv',r⟩:=r2.get m' q g4
      rw [g3] at hv';cases hv'
      obtain ⟨a,u,ea,_⟩:=r.ref o2
      subst ea
      exact nocap j p a hj h1 o1 s1 (hw a ⟨m',q,g4,o2,g3⟩)
     .exact R1.dj j l p q v h1 g1 o1 o2 s1 s2
   .rcases z with z | z
    .exact r2.dom b (.inl z)
    .rw [z,eD];exact nofun
   .rcases w' b w with w | w
    .rcases z with z | z
     .exact r2.sep b (.inl z) w
     .rw [z] at w;exact r2.sep D AiD w
    .rcases z with z | z
     .exact R1.sep b z w.1
     .rw [z] at w;exact nD w.1
  have f2:Fr ρ1 σ H1 (cR ix ρ1 τρ) H2:=by
   refine ⟨fun b o nn e=>kp1 b o (fun z=>nn (wsub b z)) (fun z=>by rw [z,hD] at e;cases e) e,fun b z=>F2.dm b ?_,fun b z=>?_⟩
   .intro e
    by_cases zz:b=D
    .exact z (by rw [zz];exact hD)
    .rw [show H0' b=H1 b from ao zz] at e;exact z e
   .rcases w' b z with z | z
    .exact wsub b (hw b z)
    .exact z.1
  have hD0:H D=none:=by
   cases e:H D with
   | none=>rfl
   | some o=>exact absurd hD (f1.dm D (by rw [e];exact nofun))
  exact k _ H2 (.own ys) _ q' (f1.trans f2) ⟨D,xs,rfl,fun z=>R1.dom D z hD,hD0,eD,R',fD.keeps (aD.less oo')⟩
section
variable {K:PySem.W.Frag}{A A':Addr->Prop}{ρ:PSt}{σ:St}{H H':Hp}
theorem Rel.step (R:Rel K A ρ σ H) {i:Nat}{p q:PV}{a:Addr} (e:ρ[i]?=some (some p)) (ow:p.isOwn=true) (ow':q.isOwn=true) (es:σ[i]?=some (some (.ref a)))
  (kp:∀b o,b≠a->H b=some o->H' b=some o) (ha:H' a≠none) (h1:∀b,A b->A' b) (h2:∀b,A' b->A b\/H b=none) (dom':∀b,A' b->H' b≠none)
  (new:RS K (OO A' ρ σ) H' q (.ref a)):Rel K A' (ρ.set i (some q)) σ H'/\Fr ρ σ H (ρ.set i (some q)) H':=by
 have hi:i < ρ.length:=(List.getElem?_eq_some_iff.mp e).1
 have wa:Wr ρ σ a:=⟨i,p,e,ow,es⟩
 have weq:∀b,Wr (ρ.set i (some q)) σ b ↔ Wr ρ σ b:=fun b=>by
  constructor
  .rintro ⟨j,r,e1,o1,s1⟩
   by_cases z:i=j
   .subst z;exact ⟨i,p,e,ow,s1⟩
   .rw [List.getElem?_set_ne z] at e1;exact ⟨j,r,e1,o1,s1⟩
  .rintro ⟨j,r,e1,o1,s1⟩
   by_cases z:i=j
   .subst z;exact ⟨i,q,List.getElem?_set_self hi,ow',s1⟩
   .exact ⟨j,r,by rw [List.getElem?_set_ne z];exact e1,o1,s1⟩
 have oeq:OO A' (ρ.set i (some q)) σ=OO A' ρ σ:=funext fun b=>propext (or_congr Iff.rfl (weq b))
 have kp1:∀b u,¬ Wr ρ σ b->H b=some u->H' b=some u:=fun b u n h=>kp b u (fun z=>n (by rw [z];exact wa)) h
 have k:aD (OO A ρ σ) H (OO A' ρ σ) H':=fun b u n h=>by
  refine ⟨fun z=>?_,kp1 b u (fun z=>n (.inr z)) h⟩
  rcases z with z | z
  .rcases h2 b z with z | z
   .exact n (.inl z)
   .rw [z] at h;cases h
  .exact n (.inr z)
 have dm:∀b,H b≠none->H' b≠none:=fun b n=>by
  by_cases z:b=a
  .rw [z];exact ha
  .cases eb:H b with
   | none=>exact absurd eb n
   | some o=>rw [kp b o z eb];exact nofun
 refine ⟨⟨by rw [List.length_set];exact R.len,fun j r e1=>?_,fun j l p1 q1 v e1 e2 o1 o2 s1 s2=>?_,dom',fun b z w=>?_⟩,⟨kp1,dm,fun b w=>(weq b).mp w⟩⟩
 .rw [oeq]
  by_cases z:i=j
  .subst z
   rw [List.getElem?_set_self hi] at e1
   cases e1
   exact ⟨_,es,new⟩
  .rw [List.getElem?_set_ne z] at e1
   obtain ⟨v,s,rr⟩:=R.get j r e1
   refine ⟨v,s,rr.keeps k fun ow2 b eb=>?_⟩
   obtain ⟨b',u,e3,e4⟩:=rr.ref ow2
   rw [eb] at e3;cases e3
   rw [e4]
   refine kp b u (fun zz=>?_) e4
   subst zz
   rw [eb] at s
   exact z (R.dj i j p r _ e e1 ow ow2 es s)
 .have ex:∀(m:Nat) (x:PV),(ρ.set i (some q))[m]?=some (some x)->x.isOwn=true->∃y:PV,ρ[m]?=some (some y)/\y.isOwn=true:=fun m x em ox=>by
   by_cases z:i=m
   .subst z;exact ⟨p,e,ow⟩
   .rw [List.getElem?_set_ne z] at em;exact ⟨x,em,ox⟩
  obtain ⟨y1,g1,g2⟩:=ex j p1 e1 o1
  obtain ⟨y2,g3,g4⟩:=ex l q1 e2 o2
  exact R.dj j l y1 y2 v g1 g3 g2 g4 s1 s2
 .rcases h2 b z with z | z
  .exact R.sep b z ((weq b).mp w)
  .exact R.wr ((weq b).mp w) z
theorem Rel.lstw (R:Rel K A ρ σ H) {i:Nat}{ds es:List D}{a:Addr}{ys:List V} (e:ρ[i]?=some (some (.own ds))) (es':σ[i]?=some (some (.ref a))) (f:FVs K (OO A ρ σ) H ys es) :
  Rel K A (ρ.set i (some (.own es))) σ (upd H a (.lst ys))/\Fr ρ σ H (ρ.set i (some (.own es))) (upd H a (.lst ys)):=by
 have wa:OO A ρ σ a:=.inr ⟨i,_,e,rfl,es'⟩
 exact R.write (q:=.own es) e rfl rfl es' ⟨a,ys,rfl,aJ,f.keeps fun b u n h=>⟨n,by rw [ao (fun z=>n (by rw [z];exact wa))];exact h⟩⟩
theorem Rel.ownAt (R:Rel K A ρ σ H) {i:Nat}{ds:List D} (e:ρ[i]?=some (some (.own ds))):∃a xs,σ[i]?=some (some (.ref a))/\H a=some (.lst xs)/\FVs K (OO A ρ σ) H xs ds:=by
 obtain ⟨v,s,a,xs,rfl,g,f⟩:=R.get i _ e
 exact ⟨a,xs,s,g,f⟩
end
def qi (i:Nat) (pe:PTE):PTE:=fun ρ Q=>match ρ[i]? with
 | some (some (.own _))=>pe ρ fun p ρ1=>(match ρ1[i]? with
  | some (some (.own ds))=>ds.length < 1000000/\Q (.dat .non) (ρ1.set i (some (.own (ds++[p.d]))))
  | _=>False)
 | _=>False
def ub (i:Nat):PTE:=fun ρ Q=>match ρ[i]? with
 | some (some (.own ds))=>∃d,ds[ds.length - 1]?=some d/\Q (.dat d) (ρ.set i (some (.own ds.dropLast)))
 | _=>False
def nN (i:Nat) (pe pk:PTE):PTS:=fun D ρ=>pe ρ fun p ρ1=>(match ρ1[i]? with
 | some (some (.own _))=>pk ρ1 fun kp ρ2=>(match ρ2[i]?,kp with
  | some (some (.own ds)),.dat (.int k)=>∃j,ixN ds.length k=some j/\D.nx (ρ2.set i (some (.own (ds.set j p.d))))
  | _,_=>False)
 | _=>False)
section
variable {K:PySem.W.Frag}{te tk:TE}{pe pk:PTE}{fs:List Nat}
theorem jQ {i:Nat} (h:LE K te pe):LE K (tBM K "list" kY (eE i) (bL te jE)) (qi i pe):=fun A ρ σ H Q Q' R q k=>by
 unfold qi at q
 split at q
 .rename_i ds0 e0
  obtain ⟨a0,xs0,s0,g0,f0⟩:=R.ownAt e0
  refine ⟨_,s0,.inl ⟨rfl,xs0,SqL.of g0⟩,h A ρ σ H _ _ R q fun v H1 p ρ1 q1 f1 o1=>?_⟩
  obtain ⟨R1,fv⟩:=o1.frz
  split at q1
  .rename_i ds e1
   obtain ⟨a,xs,s,g,f⟩:=R1.ownAt e1
   rw [s0] at s;cases s
   obtain ⟨R2,f2⟩:=R1.lstw e1 s0 (f.append (.cons fv .nil))
   exact ⟨a0,xs,v,rfl,rfl,g,Nat.lt_of_lt_of_le (by rw [f.length];exact q1.1) (sz _ (Nat.le_refl _)),k _ _ _ _ q1.2 (f1.trans f2) ⟨R2,.non⟩⟩
  .exact q1.elim
 .exact q.elim
theorem sd {i:Nat}:LE K (uM K "list" uN (eE i)) (ub i):=fun A ρ σ H Q Q' R q k=>by
 unfold ub at q
 split at q
 .rename_i ds e
  obtain ⟨d,hd,q⟩:=q
  obtain ⟨a,xs,s,g,f⟩:=R.ownAt e
  obtain ⟨v,hv,fv⟩:=f.getD hd
  obtain ⟨R2,f2⟩:=R.lstw (es:=ds.dropLast) (ys:=xs.dropLast) e s (by rw [List.dropLast_eq_take,List.dropLast_eq_take,f.length];exact f.take _)
  exact ⟨_,s,.inl ⟨rfl,xs,SqL.of g⟩,a,xs,v,rfl,rfl,g,by rw [f.length];exact hv,k _ _ _ _ q f2 ⟨R2,(fv.keeps f2.keeps)⟩⟩
 .exact q.elim
theorem pE {i:Nat} (h:LE K te pe) (hk:LE K tk pk):LS K fs (p8 te (uC (eE i) tk qY)) (nN i pe pk):=fun fx A R H0 ρ σ H D D' hf r F q k1 k2 k3 k4=>h A ρ σ H _ _ r q fun v H1 p ρ1 q1 f1 o1=>by
 obtain ⟨R1,fv⟩:=o1.frz
 split at q1
 .rename_i ds0 e0
  obtain ⟨a0,xs0,s0,g0,f0⟩:=R1.ownAt e0
  refine ⟨_,s0,hk A ρ1 σ H1 _ _ R1 q1 fun w H2 kp ρ2 q2 f2 o2=>?_⟩
  split at q2
  .rename_i ds j e2
   obtain ⟨n,hn,q2⟩:=q2
   obtain ⟨R2,fw⟩:=o2
   cases fw
   obtain ⟨a,xs,s,g,f⟩:=R2.ownAt e2
   rw [s0] at s;cases s
   obtain ⟨R3,f3⟩:=R2.lstw e2 s0 (FVs.set (fv.keeps f2.keeps) n f)
   exact ⟨a0,xs,j,n,rfl,rfl,g,by rw [f.length];exact hn,k1 _ _ _ q2 R3 (((F.fr f1).fr f2).fr f3)⟩
  .exact q2.elim
 .exact q1.elim
end
def spP (K:PySem.W.Frag) (c:FN):Sp:=fun vs H Q _=>∃(O:Addr->Prop) (ds:List D) (Qc:PV->Prop),(∀b,O b->H b≠none)/\FVs K O H vs ds/\c ds Qc/\∀r,Qc r->∀v H',Gr H H'->iR K O H H' r v->Q v H'
def bT (c:FN) (pr:PTA):PTE:=fun ρ Q=>pr ρ fun as ρ1=>match avD as with
 | some ds=>c ds fun r=>Q r ρ1
 | none=>False
theorem fj {N:List Str}{vs:List V}{i:Nat}{v:V} (h:vs[i]?=some v):(start N vs)[i]?=some (some v):=by
 unfold start
 rw [List.getElem?_append_left (by rw [List.length_map];exact (List.getElem?_eq_some_iff.mp h).1),List.getElem?_map,h];rfl
def bJ (n:Nat) (ps:List PV):PSt:=ps.map some++List.replicate (n - ps.length) none
theorem cr {n:Nat}{ps:List PV}{i:Nat}{p:PV} (h:(bJ n ps)[i]?=some (some p)):ps[i]?=some p:=by
 unfold bJ at h
 by_cases hi:i < ps.length
 .rw [List.getElem?_append_left (by rw [List.length_map];exact hi),List.getElem?_map] at h
  cases e:ps[i]? with
  | none=>rw [e] at h;cases h
  | some q=>rw [e] at h;cases h;rfl
 .rw [List.getElem?_append_right (by rw [List.length_map];omega)] at h
  have:=List.mem_of_getElem? h
  rw [List.mem_replicate] at this
  cases this.2
section
variable {K:PySem.W.Frag}{tr:TA}{pr:PTA}{ts:TS}{ps:PTS}
theorem bb {c:FN} (h:LAs K tr pr):LE K (fM (spP K c) [] E0 tr) (bT c pr):=fun A ρ σ H Q Q' R q k=>h A ρ σ H _ _ R q fun vs H1 as ρ1 q1 f1 R1 o1=>by
 split at q1
 .rename_i ds e
  rw [List.append_nil]
  exact ⟨OO A ρ1 σ,ds,_,R1.dom2,o1.avD e,q1,fun r qr v H' g ov=>k v H' r ρ1 qr (f1.trans g.fr) ((ov.out R1 g).h0 f1.dm)⟩
 .exact q1.elim
theorem Out.outV {O:Addr->Prop}{ρ:PSt}{σ:St}{H H':Hp}{p:PV}{v:V} (h:Out K O ρ σ H H' p v):iR K O H H' p v:=by
 cases p with
 | dat d=>exact h.2.keeps (aD.less fun b z=>.inl z)
 | own ds =>
  obtain ⟨a,xs,e1,na,e2,e3,R,f⟩:=h
  exact ⟨a,xs,e1,e2,e3,f.keeps (aD.less fun b z=>.inl z)⟩
 | ins c ns ds =>
  obtain ⟨a,dx,fs,e1,na,e2,e3,m,R,f⟩:=h
  exact ⟨a,dx,fs,e1,e2,e3,m,f.keeps (aD.less fun b z=>.inl z)⟩
theorem fnP {c:FN}{N:List Str} (hl:LS K [] ts ps) (hn:∀ds Q,c ds Q->ds.length<=N.length) (hc:∀ds Q,c ds Q->ps { nx:=fun _=>Q (.dat .non),rt:=fun p _=>Q p } (bJ N.length (ds.map .dat)))
  {vs:List V}{H:Hp}{Q:VK}{E:XK} (h:spP K c vs H Q E):ts { nx:=fun _ H'=>Q .non H',rt:=Q } (start N vs) H:=by
 obtain ⟨O,ds,Qc,dom,fv,hq,k⟩:=h
 have nw:∀(ρ:PSt) (b:Addr),ρ=bJ N.length (ds.map .dat)->¬ Wr ρ (start N vs) b:=fun ρ b e ⟨i,p,e1,o1,s1⟩=>by
  rw [e] at e1
  have:=cr e1
  rw [List.getElem?_map] at this
  cases e2:ds[i]? with
  | none=>rw [e2] at this;cases this
  | some d=>rw [e2] at this;cases this;cases o1
 have lenv:=fv.length
 have hle:=hn ds Qc hq
 have R0:Rel K O (bJ N.length (ds.map .dat)) (start N vs) H:=by
  refine ⟨?_,fun i p e=>?_,fun i j p q v e1 e2 o1 o2 s1 s2=>?_,dom,fun b _ w=>nw _ b rfl w⟩
  .unfold bJ start
   rw [List.length_append,List.length_append,List.length_map,List.length_map,List.length_map,List.length_replicate,List.length_replicate,lenv]
  .have:=cr e
   rw [List.getElem?_map] at this
   cases e2:ds[i]? with
   | none=>rw [e2] at this;cases this
   | some d =>
    rw [e2] at this;cases this
    obtain ⟨v,hv,f⟩:=fv.getD e2
    exact ⟨v,fj hv,f.keeps (aD.less fun b z=>z.elim id fun w=>absurd w (nw _ b rfl))⟩
  .have:=cr e1
   rw [List.getElem?_map] at this
   cases e3:ds[i]? with
   | none=>rw [e3] at this;cases this
   | some d=>rw [e3] at this;cases this;cases o1
 refine hl [] O (fun _=>False) H _ _ H _ _ rfl R0 ⟨fun _ _ _ h=>h,fun _ h=>h,fun b w=>absurd w (nw _ b rfl),fun p hp=>nomatch hp⟩ (hc ds Qc hq) (fun ρ' σ' H' q r F=>?_) (fun v p ρ' σ' H' q o F=>?_) (fun _ _ _ z=>z.elim) (fun _ _ _ z=>z.elim)
 .exact k _ q .non H' (fun b o e=>F.kp b o id e) .non
 .exact k _ q v H' (fun b o e=>F.kp b o id e) o.outV
abbrev FR:=PV->List D->(PV->PV->Prop)->Prop
def spR (K:PySem.W.Frag) (c:FR):Sp:=fun vs H Q _=>∃(A:Addr->Prop) (a:Addr) (p:PV) (ws:List V) (ds:List D) (Qc:PV->PV->Prop),vs=.ref a::ws/\p.isOwn=true/\(∀b,A b->H b≠none)/\¬ A a/\RS K (cQ A a) H p (.ref a)/\FVs K (cQ A a) H ws ds/\c p ds Qc /\
 ∀r p',Qc r p'->p'.isOwn=true->∀v H',(∀b o,b≠a->H b=some o->H' b=some o)->H' a≠none->RS K (cQ A a) H' p' (.ref a)->iR K (cQ A a) H H' r v->(∀a',v=.ref a'->r.isOwn=true->RS K (cQ (cQ A a) a') H' p' (.ref a))->Q v H'
def c5 (c:FR) (i:Nat) (pr:PTA):PTE:=fun ρ Q=>match ρ[i]? with
 | some (some _)=>pr ρ fun as ρ1=>(match ρ1[i]?,avD as with
  | some (some p),some ds=>p.isOwn=true/\c p ds fun r p'=>Q r (ρ1.set i (some p'))
  | _,_=>False)
 | _=>False
theorem bP {c:FR}{i:Nat} (h:LAs K tr pr):LE K (fM (spR K c) [] E0 (bL (eE i) tr)) (c5 c i pr):=fun A ρ σ H Q Q' R q k=>by
 unfold c5 at q
 split at q
 .rename_i p0 e0
  obtain ⟨v0,s0,_⟩:=R.get i p0 e0
  refine ⟨v0,s0,h A ρ σ H _ _ R q fun vs H1 as ρ1 q1 f1 R1 o1=>?_⟩
  split at q1
  .rename_i p ds e1 ed
   obtain ⟨ow,q1⟩:=q1
   obtain ⟨v1,s1,rs⟩:=R1.get i p e1
   rw [s0] at s1;cases s1
   obtain ⟨a,u,rfl,ea⟩:=rs.ref ow
   rw [List.append_nil]
   have wa:Wr ρ1 σ a:=⟨i,p,e1,ow,s0⟩
   have oeq:cQ (fun b=>(OO A ρ1 σ b)/\b≠a) a=OO A ρ1 σ:=funext fun b=>propext ⟨fun z=>z.elim (fun z=>z.1) (fun z=>by rw [z];exact .inr wa),fun z=>by
    by_cases e:b=a
    .exact .inr e
    .exact .inl ⟨z,e⟩⟩
   refine ⟨fun b=>(OO A ρ1 σ b)/\b≠a,a,p,vs,ds,_,rfl,ow,fun b z=>R1.dom2 b z.1,fun z=>z.2 rfl,by rw [oeq];exact rs,by rw [oeq];exact o1.avD ed,q1,fun r p' qr ow' v H' kp ha rs' ov hx=>?_⟩
   rw [oeq] at rs' ov hx
   have domA:∀b,A b->H' b≠none:=fun b z=>by
    have:b≠a:=fun e=>R1.sep b z (by rw [e];exact wa)
    cases eb:H1 b with
    | none=>exact absurd eb (R1.dom b z)
    | some o=>rw [kp b o this eb];exact nofun
   cases r with
   | dat d =>
    obtain ⟨R2,f2⟩:=R1.step (A':=A) e1 ow ow' s0 kp ha (fun _ h=>h) (fun _ h=>.inl h) domA rs'
    exact k v H' _ _ qr (f1.trans f2) ⟨R2,FV.keeps (aD.less fun b z=>z.imp id (f2.ow b)) ov⟩
   | own es =>
    obtain ⟨a',xs,rfl,n1,e2,f⟩:=ov
    have hx:=hx a' rfl rfl
    have na:a'≠a:=fun e=>by rw [e,ea] at n1;cases n1
    have oo2:∀b,OO (cQ A a') ρ1 σ b ↔ cQ (OO A ρ1 σ) a' b:=fun b=>⟨fun z=>by
     rcases z with (z | z) | z
     .exact .inl (.inl z)
     .exact .inr z
     .exact .inl (.inr z),fun z=>by
     rcases z with (z | z) | z
     .exact .inl (.inl z)
     .exact .inr z
     .exact .inl (.inr z)⟩
    have oo2':OO (cQ A a') ρ1 σ=cQ (OO A ρ1 σ) a':=funext fun b=>propext (oo2 b)
    obtain ⟨R2,f2⟩:=R1.step (A':=cQ A a') e1 ow ow' s0 kp ha (fun _ h=>.inl h) (fun b z=>z.imp id fun z=>by rw [z];exact n1) (fun b z=>z.elim (domA b) fun z=>by rw [z,e2];exact nofun) (by rw [oo2'];exact hx)
    .refine k _ H' (.own es) _ qr (f1.trans f2) ⟨a',xs,rfl,fun z=>R1.dom a' z n1,?_,e2,R2,f.keeps (aD.less fun b z=>?_)⟩
     .cases eb:H a' with
      | none=>rfl
      | some o=>exact absurd n1 (f1.dm a' (by rw [eb];exact nofun))
     .rw [<- oo2'];exact z.imp id (f2.ow b)
   | ins c ns es =>
    obtain ⟨a',dx,fs,rfl,n1,e2,m,f⟩:=ov
    have hx:=hx a' rfl rfl
    have oo2':OO (cQ A a') ρ1 σ=cQ (OO A ρ1 σ) a':=funext fun b=>propext ⟨fun z=>by
     rcases z with (z | z) | z
     .exact .inl (.inl z)
     .exact .inr z
     .exact .inl (.inr z),fun z=>by
     rcases z with (z | z) | z
     .exact .inl (.inl z)
     .exact .inr z
     .exact .inl (.inr z)⟩
    obtain ⟨R2,f2⟩:=R1.step (A':=cQ A a') e1 ow ow' s0 kp ha (fun _ h=>.inl h) (fun b z=>z.imp id fun z=>by rw [z];exact n1) (fun b z=>z.elim (domA b) fun z=>by rw [z,e2];exact nofun) (by rw [oo2'];exact hx)
    .refine k _ H' (.ins c ns es) _ qr (f1.trans f2) ⟨a',dx,fs,rfl,fun z=>R1.dom a' z n1,?_,e2,m,R2,f.keeps (aD.less fun b z=>?_)⟩
     .cases eb:H a' with
      | none=>rfl
      | some o=>exact absurd n1 (f1.dm a' (by rw [eb];exact nofun))
     .rw [<- oo2'];exact z.imp id (f2.ow b)
  .exact q1.elim
 .exact q.elim
def qj (Q:PV->PV->Prop) (r:PV) (ρ:PSt):Prop:=match ρ[0]? with
 | some (some p)=>p.isOwn=true/\Q r p
 | _=>False
theorem fnR {c:FR}{N:List Str} (hl:LS K [0] ts ps) (hn:∀p ds Q,c p ds Q->ds.length + 1<=N.length) (hc:∀p ds Q,p.isOwn=true->c p ds Q->ps { nx:=qj Q (.dat .non),rt:=qj Q } (bJ N.length (p::ds.map .dat)))
  {vs:List V}{H:Hp}{Q:VK}{E:XK} (h:spR K c vs H Q E):ts { nx:=fun _ H'=>Q .non H',rt:=Q } (start N vs) H:=by
 obtain ⟨A,a,p,ws,ds,Qc,rfl,ow,dom,na,rs,fv,hq,k⟩:=h
 have s0:(start N (V.ref a::ws))[0]?=some (some (.ref a)):=fj rfl
 have b0:(bJ N.length (p::ds.map .dat))[0]?=some (some p):=rfl
 have wr:∀b,Wr (bJ N.length (p::ds.map .dat)) (start N (.ref a::ws)) b->b=a:=fun b ⟨i,q,e1,o1,s1⟩=>by
  have:=cr e1
  cases i with
  | zero=>rw [s0] at s1;cases s1;rfl
  | succ i =>
   rw [List.getElem?_cons_succ,List.getElem?_map] at this
   cases e2:ds[i]? with
   | none=>rw [e2] at this;cases this
   | some d=>rw [e2] at this;cases this;cases o1
 have wa:Wr (bJ N.length (p::ds.map .dat)) (start N (.ref a::ws)) a:=⟨0,p,b0,ow,s0⟩
 have oeq:OO A (bJ N.length (p::ds.map .dat)) (start N (.ref a::ws))=cQ A a:=funext fun b=>propext ⟨fun z=>z.imp id (wr b),fun z=>z.imp id fun z=>by rw [z];exact wa⟩
 have lenv:=fv.length
 have hle:=hn p ds Qc hq
 have R0:Rel K A (bJ N.length (p::ds.map .dat)) (start N (.ref a::ws)) H:=by
  refine ⟨?_,fun i q e=>?_,fun i j q1 q2 v e1 e2 o1 o2 s1 s2=>?_,dom,fun b z w=>?_⟩
  .unfold bJ start
   simp only [List.length_append,List.length_map,List.length_replicate,List.length_cons,lenv]
  .have:=cr e
   rw [oeq]
   cases i with
   | zero=>cases this;exact ⟨_,s0,rs⟩
   | succ i =>
    rw [List.getElem?_cons_succ,List.getElem?_map] at this
    cases e2:ds[i]? with
    | none=>rw [e2] at this;cases this
    | some d =>
     rw [e2] at this;cases this
     obtain ⟨v,hv,f⟩:=fv.getD e2
     exact ⟨v,fj (by rw [List.getElem?_cons_succ];exact hv),f⟩
  .have own0:∀(i:Nat) (q:PV),(bJ N.length (p::ds.map .dat))[i]?=some (some q)->q.isOwn=true->i=0:=fun i q e o=>by
    have:=cr e
    cases i with
    | zero=>rfl
    | succ i =>
     rw [List.getElem?_cons_succ,List.getElem?_map] at this
     cases e2:ds[i]? with
     | none=>rw [e2] at this;cases this
     | some d=>rw [e2] at this;cases this;cases o
   rw [own0 i q1 e1 o1,own0 j q2 e2 o2]
  .rw [wr b w] at z;exact na z
 have fin:∀(v:V) (r:PV) (ρ':PSt) (σ':St) (H':Hp),qj Qc r ρ'->Out K A ρ' σ' H H' r v->cS [(0,.ref a)] (fun b=>b=a) H ρ' σ' H'->Q v H':=fun v r ρ' σ' H' q o F=>by
  unfold qj at q
  split at q
  .rename_i p' e'
   obtain ⟨ow',q⟩:=q
   have sa:=F.fx (0,.ref a) (List.mem_singleton.mpr rfl)
   have wa':Wr ρ' σ' a:=⟨0,p',e',ow',sa⟩
   have kpa:∀b o,b≠a->H b=some o->H' b=some o:=fun b o n e=>F.kp b o n e
   cases r with
   | dat d =>
    obtain ⟨R1,f1⟩:=o
    obtain ⟨v1,s1,rs1⟩:=R1.get 0 p' e'
    rw [sa] at s1;cases s1
    have less:∀b,cQ A a b->OO A ρ' σ' b:=fun b z=>z.imp id fun z=>by rw [z];exact wa'
    exact k _ p' q ow' v H' kpa (R1.wr wa') (rs1.keeps (aD.less less) fun _ _ _=>rfl) (f1.keeps (aD.less less)) (fun _ _ z=>nomatch z)
   | own es =>
    obtain ⟨a',xs,rfl,n1,n2,e3,R1,f1⟩:=o
    obtain ⟨v1,s1,rs1⟩:=R1.get 0 p' e'
    rw [sa] at s1;cases s1
    have less:∀b,cQ (cQ A a) a' b->OO (cQ A a') ρ' σ' b:=fun b z=>by
     rcases z with (z | z) | z
     .exact .inl (.inl z)
     .exact .inr (by rw [z];exact wa')
     .exact .inl (.inr z)
    exact k _ p' q ow' _ H' kpa (R1.wr wa') (rs1.keeps (aD.less fun b z=>less b (.inl z)) fun _ _ _=>rfl) ⟨a',xs,rfl,n2,e3,f1.keeps (aD.less less)⟩ (fun a'' e _=>by cases e;exact rs1.keeps (aD.less less) fun _ _ _=>rfl)
   | ins c ns es =>
    obtain ⟨a',dx,fs,rfl,n1,n2,e3,m,R1,f1⟩:=o
    obtain ⟨v1,s1,rs1⟩:=R1.get 0 p' e'
    rw [sa] at s1;cases s1
    have less:∀b,cQ (cQ A a) a' b->OO (cQ A a') ρ' σ' b:=fun b z=>by
     rcases z with (z | z) | z
     .exact .inl (.inl z)
     .exact .inr (by rw [z];exact wa')
     .exact .inl (.inr z)
    exact k _ p' q ow' _ H' kpa (R1.wr wa') (rs1.keeps (aD.less fun b z=>less b (.inl z)) fun _ _ _=>rfl) ⟨a',dx,fs,rfl,n2,e3,m,f1.keeps (aD.less less)⟩ (fun a'' e _=>by cases e;exact rs1.keeps (aD.less less) fun _ _ _=>rfl)
  .exact q.elim
 refine hl [(0,.ref a)] A (fun b=>b=a) H _ _ H _ _ rfl R0 ⟨fun _ _ _ h=>h,fun _ h=>h,fun b w=>.inl (wr b w),fun q hq=>by rw [List.mem_singleton.mp hq];exact s0⟩ (hc p ds Qc ow hq) (fun ρ' σ' H' q r F=>fin .non (.dat .non) ρ' σ' H' q ⟨r,.non⟩ F) (fun v p ρ' σ' H' q o F=>fin v p ρ' σ' H' q o F) (fun _ _ _ z=>z.elim) (fun _ _ _ z=>z.elim)
end
def uZ:FN:=fun as Q=>∃ns:List Int,as=[.scr ns]/\ns.length<=63/\Q (.dat (.bl true))
theorem pF {K:PySem.W.Frag}{vs:List V}{H:Hp}{Q:VK}{E:XK} (h:ka K vs H Q E):spP K uZ vs H Q E:=by
 obtain ⟨a,ns,rfl,hS,h63,q⟩:=h
 refine ⟨fun _=>False,[.scr ns],fun r=>r=.dat (.bl true),nofun,.cons (.scr ?_) .nil,⟨ns,rfl,h63,rfl⟩,fun r e v H' g o=>?_⟩
 .rcases hS with h | h
  .exact .inl ⟨id,h⟩
  .exact .inr h
 .subst e
  cases o
  exact q H'
section
variable {K:PySem.W.Frag}{X:Cx}
def u4 (K:PySem.W.Frag):List V->Hp->VK->Prop:=fun xs H Q=>∃(p:Addr) (bs:List Bool),xs=[.ref p]/\SqL K H p (bs.map V.bl)/\Q (.bl (bs.all id)) H
theorem uc (K:PySem.W.Frag) (e:X.K=K) (hc:X.calm=true):bw X (.builtin "all") (u4 K):=by subst e;exact mK hc
def ud:FN
 | [.lst ds],Q=>∃bs:List Bool,ds=bs.map .bl/\Q (.dat (.bl (bs.all id)))
 | _,_=>False
theorem se:LC K (u4 K) ud:=by
 intro O H xs as Q Q' dom fs q k
 unfold ud at q
 split at q
 .obtain ⟨ns,rfl,q⟩:=q
  cases fs with
  | cons a b =>
   cases b
   obtain ⟨p,ys,rfl,e1,f1⟩:=a.lst
   rw [f1.bls] at e1
   exact ⟨p,ns,rfl,SqL.of e1,k _ H _ q (Gr.refl _) (.bl _)⟩
 .exact q.elim
def sf (K:PySem.W.Frag):List V->Hp->VK->Prop:=fun xs H Q=>∃p ys,xs=[.ref p]/\((SqL K H p ys/\∀l,H l=none->Q (.ref l) (upd H l (.tup ys)))\/(SqT K H p ys/\Q (.ref p) H))
theorem pG (K:PySem.W.Frag) (e:X.K=K):bw X (.type "tuple") (sf K):=by subst e;exact gE
theorem nO (K:PySem.W.Frag) (e:X.K=K):bw X (.type "list") (lF K):=by subst e;exact ie
def lM:FN
 | [.lst ds],Q=>Q (.dat (.tup ds))
 | [.tup ds],Q=>Q (.dat (.tup ds))
 | [.scr ns],Q=>Q (.dat (.tup (ns.map .int)))
 | _,_=>False
def mQ:FN
 | [.lst ds],Q=>Q (.own ds)
 | [.tup ds],Q=>Q (.own ds)
 | [.scr ns],Q=>Q (.own (ns.map .int))
 | _,_=>False
theorem mR:LC K (sf K) lM:=by
 intro O H xs as Q Q' dom fs q k
 unfold lM at q
 split at q
 .cases fs with
  | cons a b =>
   cases b
   obtain ⟨p,ys,rfl,e1,f1⟩:=a.lst
   exact ⟨p,ys,rfl,.inl ⟨SqL.of e1,fun l hl=>k _ _ _ q (Gr.new hl) (fe dom hl f1)⟩⟩
 .cases fs with
  | cons a b =>
   cases b
   obtain ⟨p,ys,rfl,n1,e1,f1⟩:=a.tup
   exact ⟨p,ys,rfl,.inr ⟨SqT.of e1,k _ H _ q (Gr.refl _) (.tup n1 e1 f1)⟩⟩
 .cases fs with
  | cons a b =>
   cases b
   obtain ⟨p,rfl,e1⟩:=a.scr
   exact ⟨p,_,rfl,.inl ⟨e1,fun l hl=>k _ _ _ q (Gr.new hl) (fe dom hl (FVs.of_ints _))⟩⟩
 .exact q.elim
theorem lN:LC K (lF K) mQ:=by
 intro O H xs as Q Q' dom fs q k
 unfold mQ at q
 split at q
 .cases fs with
  | cons a b =>
   cases b
   obtain ⟨p,ys,rfl,e1,f1⟩:=a.lst
   exact ⟨p,ys,rfl,.inl (SqL.of e1),fun l hl=>k _ _ _ q (Gr.new hl) (cj hl f1)⟩
 .cases fs with
  | cons a b =>
   cases b
   obtain ⟨p,ys,rfl,n1,e1,f1⟩:=a.tup
   exact ⟨p,ys,rfl,.inr (SqT.of e1),fun l hl=>k _ _ _ q (Gr.new hl) (cj hl f1)⟩
 .cases fs with
  | cons a b =>
   cases b
   obtain ⟨p,rfl,e1⟩:=a.scr
   exact ⟨p,_,rfl,.inl e1,fun l hl=>k _ _ _ q (Gr.new hl) (cj hl (FVs.of_ints _))⟩
 .exact q.elim
variable {ta:TE}{pa:PA1}{tr:TA}{pr:PTA}{pe:PTE}
def qk (i:Int) (n:Nat):List D:=(List.range n).map fun (k:Nat)=>D.int (i + (k:Int))
def mkL (tup:Bool) (ds:List D):PV:=match tup with | true=>.dat (.tup ds) | false=>.own ds
def nP (tup:Bool) (pr:PTA):PTE:=fun ρ Q=>pr ρ fun as ρ1=>match as with
 | [.v (.int i),.v (.int j)]=>(-1000000<=i/\i<=j/\j<=1000000/\j - i<=1000000)/\Q (mkL tup (qk i (j - i).toNat)) ρ1
 | _=>False
theorem sg {O:Addr->Prop}{H:Hp} (i:Int) (n:Nat):FVs K O H (i8 i 1 n) (qk i n):=by
 have e:∀l:List Nat,FVs K O H (l.map fun (k:Nat)=>V.int (i + k * 1)) (l.map fun (k:Nat)=>D.int (i + (k:Int))):=fun l=>by
  induction l with
  | nil=>exact .nil
  | cons a r ih=>exact .cons (by show FV K O H (V.int (i + (a:Int) * 1)) (D.int (i + (a:Int)));rw [show i + (a:Int) * 1=i + (a:Int) by omega];exact .int _) ih
 exact e _
theorem f7 {i j:Int} (h:i<=j):Builtin.Range.rangeSize i j 1=(((j - i).toNat:Nat):Int):=by
 unfold Builtin.Range.rangeSize
 rw [if_pos (by decide)]
 simp only [Int.ediv_one]
 split <;> omega
theorem km {i j:Int} (h0:-1000000<=i) (h1:i<=j) (h2:j<=1000000):Builtin.Range.small i j 1=true:=by
 unfold Builtin.Range.small
 rw [f7 h1]
 simp only [Builtin.Range.rangeFitsLong,Bool.and_eq_true,Bool.or_eq_true,decide_eq_true_eq,beq_iff_eq,show (1:Int) > 0 by decide,if_true]
 omega
def mkO (tup:Bool):List V->HO:=match tup with | true=>.tup | false=>.lst
theorem sh {O:Addr->Prop}{H:Hp}{xs:List V}{ds:List D}{p:Addr} (tup:Bool) (dom:∀b,O b->H b≠none) (hp:H p=none) (f:FVs K O H xs ds):iR K O H (upd H p (mkO tup xs)) (mkL tup ds) (.ref p):=by
 cases tup with
 | true=>exact fe dom hp f
 | false=>exact cj hp f
theorem mS (tup:Bool) (h:LAs K tr pr):LE K (tCB (tM K (mkO tup)) (bL (fun σ H Q=>tr σ H fun vs H1=>∃i j:Int,vs=[.int i,.int j]/\∀p,H1 p=none->Q (.ref p) (upd H1 p (nH p i j 1))) jE)) (nP tup pr):=fun A ρ σ H Q Q' R q k=>h A ρ σ H _ _ R q fun vs H1 as ρ1 q1 f1 R1 o1=>by
 split at q1
 .rename_i i j
  cases o1 with
  | cons a b =>
   cases b with
   | cons c d =>
    cases d
    cases a
    cases c
    refine ⟨i,j,rfl,fun p hp=>⟨p,i,j,1,(j - i).toNat,rfl,aJ,km q1.1.1 q1.1.2.1 q1.1.2.2.1,f7 q1.1.2.1,by omega,fun l hl=>?_⟩⟩
    have g:Gr H1 (upd H1 p (nH p i j 1)):=Gr.new hp
    have R2:=R1.gr g
    have g2:Gr (upd H1 p (nH p i j 1)) (upd (upd H1 p (nH p i j 1)) l (mkO tup (i8 i 1 (j - i).toNat))):=Gr.new hl
    exact k _ _ _ ρ1 q1.2 (f1.trans (g.fr.trans g2.fr)) ((iR.out R2 g2 (sh tup R2.dom2 hl (sg i _))).h0 fun b z=>(g.fr (ρ:=ρ1) (σ:=σ)).dm b (f1.dm b z))
 .exact q1.elim
theorem si (K:PySem.W.Frag) (e:X.K=K) (hc:X.calm=true):bw X (.type "list") (tM K (mkO false)):=by subst e;exact kd hc
def jR (pa:PA1):PTE:=fun ρ Q=>pa ρ fun x ρ1=>match cont ρ1 x with
 | some (.lst ds)=>Q (.own ds.reverse) ρ1
 | _=>False
def jS (K:PySem.W.Frag) (te:TE):TE:=fun σ H Q=>te σ H fun x H1=>∃a xs,x=.ref a/\SqL K H1 a xs/\∀l,H1 l=none->Q (.ref l) (upd H1 l (.lst xs.reverse))
theorem jd {e:Expr}{te:TE}{p p1 p2 pos:Pos} (K:PySem.W.Frag) (eK:X.K=K) (hc:X.calm=true) (he:PE X e te) (hg1:Gl X "list") (hm1:X.mg "list"=none) (hg2:Gl X "reversed") (hm2:X.mg "reversed"=none)
  (hs:starEach [.Call (.Name "reversed" p1) [e] [] p2] X.env=[(false,eval (.Call (.Name "reversed" p1) [e] [] p2) X.env)]:=by rfl) (hs2:starEach [e] X.env=[(false,eval e X.env)]:=by rfl) :
  PE X (.Call (.Name "list" p) [.Call (.Name "reversed" p1) [e] [] p2] [] pos) (jS K te):=by subst eK;exact kf hc he hg1 hm1 hg2 hm2 hs hs2
theorem kn (h:LA1 K ta pa):LE K (jS K ta) (jR pa):=fun A ρ σ H Q Q' R q k=>h A ρ σ H _ _ R q fun v H1 a ρ1 q1 f1 R1 o1=>by
 split at q1
 .rename_i ds e
  obtain ⟨p,xs,rfl,e1,fs⟩:=(R1.cont o1 e).lst
  refine ⟨p,xs,rfl,SqL.of e1,fun l hl=>?_⟩
  have g:Gr H1 (upd H1 l (.lst xs.reverse)):=Gr.new hl
  exact k _ _ _ ρ1 q1 (f1.trans g.fr) ((iR.out (p:=.own ds.reverse) R1 g (cj hl fs.reverse)).h0 f1.dm)
 .exact q1.elim
abbrev FM:=List Nat->List D->(PV->Prop)->Prop
def LM (K:PySem.W.Frag) (r:V->List V->Hp->VK->Prop) (f:FM):Prop:=∀(O:Addr->Prop) (H:Hp) (l:List Nat) (xs:List V) (as:List D) (Q:PV->Prop) (Q':VK),(∀b,O b->H b≠none)->l.length<=1000000->qc K O H xs as->f l as Q ->
 (∀v H' p,Q p->Gr H H'->iR K O H H' p v->Q' v H')->r (.str (S l)) xs H Q'
def pSM (f:FM) (pe:PTE) (pr:PTA):PTE:=fun ρ Q=>pe ρ fun p ρ1=>match p with
 | .dat (.str l)=>pr ρ1 fun as ρ2=>(match conts ρ2 as with
  | some ds=>f l ds fun r=>Q r ρ2
  | none=>False)
 | _=>False
theorem ue {r:V->List V->Hp->VK->Prop}{f:FM} (o:LM K r f) (he:LE K ta pe) (hr:LAs K tr pr):LE K (tBM K "str" r ta tr) (pSM f pe pr):=fun A ρ σ H Q Q' R q k=>he A ρ σ H _ _ R q fun v H1 p ρ1 q1 f1 o1=>by
 split at q1
 .rename_i l
  obtain ⟨R1,fv⟩:=o1
  cases fv with
  | str _ hl =>
   refine ⟨rfl,hr A ρ1 σ H1 _ _ R1 q1 fun vs H2 as ρ2 q2 f2 R2 o2=>?_⟩
   split at q2
   .rename_i ds e
    exact o _ H2 l vs ds _ _ R2.dom2 hl (R2.conts o2 e) q2 fun z H3 p q3 g ov=>k z H3 p ρ2 q3 ((f1.trans f2).trans g.fr) ((ov.out R2 g).h0 fun b z=>f2.dm b (f1.dm b z))
   .exact q2.elim
 .exact q1.elim
end
abbrev uf:R2:=rI0 fun i j=>.int (i - j)
abbrev ug:R2:=rI (fun _ j=>0 < j) fun i j=>.int (i % j)
abbrev uh:R2:=rI tf fun i j=>.int (i / j)
abbrev sj:R2:=rI tj fun i j=>.int (i ^ j.toNat)
abbrev vo:R2:=rI0 fun i j=>.bl (decide (j < i))
abbrev u5:R2:=rI0 fun i j=>.bl (decide (j<=i))
abbrev sk:V->Hp->VK->Prop:=rU fun i=>.int (-i)
abbrev vp:F2:=fI0 fun i j=>.int (i - j)
abbrev jT:F2:=fI (fun _ j=>0 < j) fun i j=>.int (i % j)
abbrev ql:F2:=fI (fun _ j=>0 < j/\j < 1073741824) fun i j=>.int (i / j)
abbrev qm:F2:=fI (fun i j=>0<=j/\j<=1000000/\i.natAbs < 2 ^ 64) fun i j=>.int (i ^ j.toNat)
abbrev fGt:F2:=fI0 fun i j=>.bl (decide (j < i))
abbrev fGe:F2:=fI0 fun i j=>.bl (decide (j<=i))
def sm:D->(PV->Prop)->Prop
 | .int i,Q=>Q (.dat (.int (-i)))
 | _,_=>False
section
variable {K:PySem.W.Frag}{X:Cx}{ta:TE}{tr:TA}{pr:PTA}{ts:TS}{ps:PTS}
theorem ui:OpR X (binaryOp .Sub) uf:=qN
theorem dL:OpR X (binaryOp .Mod) ug:=qP
theorem f8:OpR X (binaryOp .FloorDiv) uh:=om
theorem ko:OpR X (binaryOp .Pow) sj:=qQ
theorem u6:OpR X (compareOp .Gt) vo:=tz
theorem vq:OpR X (compareOp .GtE) u5:=tD
theorem lO:LU K sk sm:=by
 intro O H x a Q Q' dom fx q k
 unfold sm at q
 split at q
 .rename_i i;exact ⟨i,fx.int,k _ H _ q (Gr.refl _) (.int _)⟩
 .exact q.elim
theorem sr {ix:List (Option Nat)}{fs:List Nat}{i:Nat} (h:∀k∈fs,k∈qh ix) (hi:(qh ix).contains i=false):fs.contains i=false:=by
 cases e:fs.contains i with
 | false=>rfl
 | true =>
  have:=h i (List.contains_iff_mem.mp e)
  rw [List.contains_iff_mem.mpr this] at hi;cases hi
def nQ (c:FN) (es:List D) (pr:PTA):PTE:=fun ρ Q=>pr ρ fun as ρ1=>match avD as with
 | some ds=>c (ds++es) fun r=>Q r ρ1
 | none=>False
theorem mT {c:FN}{vs0:List V}{ds:List D} (hd:∀{O:Addr->Prop}{H:Hp},FVs K O H vs0 ds) (h:LAs K tr pr):LE K (fM (spP K c) vs0 E0 tr) (nQ c ds pr):=fun A ρ σ H Q Q' R q k=>h A ρ σ H _ _ R q fun vs H1 as ρ1 q1 f1 R1 o1=>by
 split at q1
 .rename_i es e
  exact ⟨OO A ρ1 σ,_,_,R1.dom2,(o1.avD e).append hd,q1,fun r qr v H' g ov=>k v H' r ρ1 qr (f1.trans g.fr) ((ov.out R1 g).h0 f1.dm)⟩
 .exact q1.elim
theorem kA {c:FN}{n:Nat} (hn:∀ds Q,c ds Q->ds.length=n) {vs:List V}{H:Hp}{Q:VK}{E:XK} (h:spP K c vs H Q E):vs.length=n:=by
 obtain ⟨O,ds,Qc,_,f,hq,_⟩:=h
 rw [f.length];exact hn ds Qc hq
theorem uj {c:FR}{n:Nat} (hn:∀p ds Q,c p ds Q->ds.length + 1=n) {vs:List V}{H:Hp}{Q:VK}{E:XK} (h:spR K c vs H Q E):vs.length=n:=by
 obtain ⟨A,a,p,ws,ds,Qc,rfl,_,_,_,_,f,hq,_⟩:=h
 rw [List.length_cons,f.length];exact hn p ds Qc hq
abbrev eZ (pp:PTS) (n:Nat) (ds:List D) (Q:PV->Prop):Prop:=pp { nx:=fun _=>Q (.dat .non),rt:=fun p _=>Q p } (bJ n (ds.map .dat))
abbrev qo (pp:PTS) (n:Nat) (p:PV) (ds:List D) (Q:PV->PV->Prop):Prop:=pp { nx:=qj Q (.dat .non),rt:=qj Q } (bJ n (p::ds.map .dat))
end
end L2
namespace L2
theorem Cal.imp {P:PySem.Program}{w:PySem.World}{K:PySem.W.Frag}{mg:PySem.Str->Option PySem.Value}{base:PySem.Heap}{k:Nat}{x:PySem.Str}{ps:List PySem.Str}{sp sp':Sp} (C:Cal P w K mg base k x ps sp) (h:∀vs H Q E,sp' vs H Q E->sp vs H Q E):Cal P w K mg base k x ps sp':=by
 obtain ⟨f,fd,F,r⟩:=C.ex
 exact ⟨f,fd,F.imp h,r⟩
end L2
namespace L2
open PySem PySem.Spec PyProof.Rows
theorem cfm {ix:List (Option Nat)}{ρ1:PSt}{n:Nat}{it:Nat->D}{g:PTG}{pt:PTT}{pe:PTE}{Q:PKt} (T:PSt->Prop) (f:Nat->Option D) (h0:T (bc ix ρ1))
  (hs:∀k τ d,k < n->d=it k->T τ->∀(K1:D->PSt->Prop) (K2:PSt->Prop),(∀d τ',f k=some d->T τ'->K1 d τ')->(∀τ',f k=none->T τ'->K2 τ')->g (.dat d) τ fun τ2=>pt τ2 fun ok τ3=>eH ok (pe τ3 fun p τ4=>K1 p.d τ4) (K2 τ3))
  (hq:∀τ,T τ->Q (.own ((List.range n).filterMap f)) (cR ix ρ1 τ)) :
  gT ix ρ1 n it g pt pe Q:=by
 refine ⟨fun k ys τ=>ys=(List.range k).filterMap f/\T τ,⟨rfl,h0⟩,fun k ys τ dd hk ed ⟨e,t⟩=>?_,fun ys τ ⟨e,t⟩=>by rw [e];exact hq τ t⟩
 have r:(List.range (k + 1)).filterMap f=(List.range k).filterMap f++(f k).toList:=by
  rw [List.range_succ,List.filterMap_append]
  cases e:f k with
  | none=>rw [show [k].filterMap f=[] by simp [e]];rfl
  | some d=>rw [show [k].filterMap f=[d] by simp [e]];rfl
 refine hs k τ dd hk ed t (fun d τ'=>(ys++[d]=(List.range (k + 1)).filterMap f/\T τ')) (fun τ'=>(ys=(List.range (k + 1)).filterMap f/\T τ')) (fun d τ' h t'=>⟨?_,t'⟩) (fun τ' h t'=>⟨?_,t'⟩)
 .rw [r,e,h];rfl
 .rw [r,e,h];simp
theorem vt {ix:List (Option Nat)}{ρ1:PSt}{n:Nat}{it:Nat->D}{g:PTG}{pe:PTE}{Q:PKt} (T:PSt->Prop) (f:Nat->D) (h0:T (bc ix ρ1))
  (hs:∀k τ d,k < n->d=it k->T τ->∀K1:D->PSt->Prop,(∀τ',T τ'->K1 (f k) τ')->g (.dat d) τ fun τ2=>pe τ2 fun p τ4=>K1 p.d τ4)
  (hq:∀τ,T τ->Q (.own ((List.range n).map f)) (cR ix ρ1 τ)) :
  gT ix ρ1 n it g qg pe Q:=by
 refine cfm T (fun k=>some (f k)) h0 (fun k τ d hk ed t K1 K2 k1 k2=>?_) fun τ t=>?_
 .exact hs k τ d hk ed t K1 fun τ' t'=>k1 _ τ' rfl t'
 .have:(List.range n).filterMap (fun k=>some (f k))=(List.range n).map f:=by rw [<- List.filterMap_eq_map];rfl
  rw [this];exact hq τ t
theorem je {β:Type} (f:Nat->β) (l:List Nat):(List.range l.length).map (fun k=>f (l.getD k 0))=l.map f:=by
 apply List.ext_getElem?
 intro i
 rw [List.getElem?_map,List.getElem?_map]
 by_cases h:i < l.length
 .rw [List.getElem?_range h]
  show some (f (l.getD i 0))=_
  rw [List.getD_eq_getElem?_getD,List.getElem?_eq_getElem h];rfl
 .rw [List.getElem?_eq_none (by rw [List.length_range];omega),List.getElem?_eq_none (by omega)];rfl
def ltB (c:Nat):Bool:=decide (97<=c) && decide (c<=122)
def mU:D->Int->Int->Bool
 | .str l,a,b=>(decide (a<=(l.length:Int)) && decide ((l.length:Int)<=b)) && l.all ltB
 | _,_,_=>false
theorem di (l:List Nat) (a b:Int):mU (.str l) a b=((decide (a<=(l.length:Int)) && decide ((l.length:Int)<=b)) && l.all ltB):=rfl
def kq:D->Nat
 | .str l=>l.length
 | _=>0
theorem jf (i j:Nat):(!decide (([j]:List Nat) < [i]))=decide (i<=j):=by
 by_cases h:i<=j
 .rw [decide_eq_true h]
  have:¬ ([j]:List Nat) < [i]:=by
   rw [List.cons_lt_cons_iff]
   rintro (z | ⟨_,z⟩)
   .omega
   .exact absurd z (List.lt_irrefl _)
  rw [decide_eq_false this];rfl
 .rw [decide_eq_false h]
  have:([j]:List Nat) < [i]:=by
   rw [List.cons_lt_cons_iff];exact .inl (by omega)
  rw [decide_eq_true this];rfl
theorem gU:∀ns:List Int,D.pys (ns.map .int)=ns.map PyData.int
 | []=>rfl
 | n::r=>by rw [List.map_cons,List.map_cons,<- gU r];rfl
theorem f9:∀ns:List Int,D.plains (ns.map .int)=true
 | []=>rfl
 | n::r=>by rw [List.map_cons];show (true && D.plains (r.map .int))=true;rw [f9 r];rfl
def Sh (d:D):Prop:=d.plain=true/\SeqAt.shaped d.py=true
theorem nK.of {a b:D} (h:Sh a) (h':Sh b):nK a b:=⟨h.1,h'.1,h.2,h'.2⟩
theorem Sh.lstI (ns:List Int):Sh (.lst (ns.map .int)):=⟨f9 ns,by show SeqAt.shaped (.list (D.pys _))=true;rw [gU];exact (lA.list (lC ns)).shaped (by decide)⟩
section
variable {X:Cx}{K:PySem.W.Frag}
def ss:PTE:=fun ρ Q=>Q (.dat (.dic [] [])) ρ
theorem pH:LE K nI ss:=fun A ρ σ H Q Q' R q k=>fun p hp =>
 k _ _ (.dat (.dic [] [])) ρ q (Fr.new hp) ⟨R.grow hp,.dic (R.oo hp) aJ rfl .nil⟩
def lP (neg:Bool):R2:=fun x y H Q=>∃a b,x=.ref a/\y=.ref b/\H a=some (.dK [])/\H b=some (.dK [])/\Q (.bl (!neg)) H
theorem mW (hu:X.A.units + 64 < cLine):OpR X (compareOp .Eq) (lP false):=by
 intro pins s σ H x y v u Q I rx ry ⟨a,b,e1,e2,h1,h2,q⟩
 subst e1 e2
 cases rx
 cases ry
 obtain ⟨_,y1,vs,r1,p1⟩:=(show br X.prog X.w H s.heap a (.dK []) from I.hok a _ h1)
 obtain ⟨_,y2,ws,r2,p2⟩:=(show br X.prog X.w H s.heap b (.dK []) from I.hok b _ h2)
 cases r1
 cases r2
 exact PySem.W.keq_eq (r:=true) y1 y2 p1 p2 (by omega) (fun _=>.nil) ⟨.bl true,H,I,rfl,q⟩
theorem mX (hu:X.A.units + 64 < cLine):OpR X (compareOp .NotEq) (lP true):=by
 intro pins s σ H x y v u Q I rx ry ⟨a,b,e1,e2,h1,h2,q⟩
 subst e1 e2
 cases rx
 cases ry
 obtain ⟨_,y1,vs,r1,p1⟩:=(show br X.prog X.w H s.heap a (.dK []) from I.hok a _ h1)
 obtain ⟨_,y2,ws,r2,p2⟩:=(show br X.prog X.w H s.heap b (.dK []) from I.hok b _ h2)
 cases r1
 cases r2
 exact PySem.W.keq_ne (r:=true) y1 y2 p1 p2 (by omega) (fun _=>.nil) ⟨.bl false,H,I,rfl,q⟩
def mY (K:PySem.W.Frag) (neg:Bool):R2:=fun x y H Q=>rT K neg x y H Q\/lP neg x y H Q
theorem pI (K:PySem.W.Frag) (e:X.K=K) (hu:X.A.units + 64 < cLine):OpR X (compareOp .Eq) (mY K false):=OpR.or (vk K e hu) (mW hu)
theorem jg (K:PySem.W.Frag) (e:X.K=K) (hu:X.A.units + 64 < cLine):OpR X (compareOp .NotEq) (mY K true):=OpR.or (vm K e hu) (mX hu)
def su:F2
 | .dic [] [],.dic [] [],Q=>Q (.dat (.bl true))
 | a,b,Q=>fEq a b Q
def mZ:F2
 | .dic [] [],.dic [] [],Q=>Q (.dat (.bl false))
 | a,b,Q=>fNe a b Q
theorem FVc.dic0 {O:Addr->Prop}{H:Hp}{v:V} (h:FVc K O H v (.dic [] [])):∃a,v=.ref a/\H a=some (.dK []):=by
 cases h.fv nofun nofun with
 | dic n e m f =>
  rename_i a kvs
  cases kvs with
  | nil=>exact ⟨a,rfl,e⟩
  | cons x r=>cases m
theorem lQ:LO K (mY K false) su:=by
 intro O H x y a b Q Q' dom fx fy q k
 unfold su at q
 split at q
 .obtain ⟨a,rfl,e1⟩:=fx.dic0
  obtain ⟨b,rfl,e2⟩:=fy.dic0
  exact .inr ⟨a,b,rfl,rfl,e1,e2,k _ H _ q (Gr.refl _) (.bl _)⟩
 .exact .inl (t4 O H x y _ _ Q Q' dom fx fy q k)
theorem fk:LO K (mY K true) mZ:=by
 intro O H x y a b Q Q' dom fx fy q k
 unfold mZ at q
 split at q
 .obtain ⟨a,rfl,e1⟩:=fx.dic0
  obtain ⟨b,rfl,e2⟩:=fy.dic0
  exact .inr ⟨a,b,rfl,rfl,e1,e2,k _ H _ q (Gr.refl _) (.bl _)⟩
 .exact .inl (t5 O H x y _ _ Q Q' dom fx fy q k)
end
theorem lR {ds:List D}{k:Nat} (h:k < ds.length):itD ds k∈ds:=List.mem_of_getElem? (pA h)
abbrev SIt (h:Heap) (a:Addr) (x:Str) (t:Tok) (i:Nat):Prop:=h.IsStrIter a (strIterType x) x t i
theorem SIt.mv {h h':Heap}{a:Addr}{x:Str}{t:Tok}{i:Nat} (W:SIt h a x t i) (k:∀o,h.get? a=some o->h'.get? a=some o):SIt h' a x t i:=let ⟨o,ho,r⟩:=W;⟨o,k o ho,r⟩
section
variable {P:Program}{w:World}{A:Around}{E:Value->Shared->Prop}{s:Shared}{z U V i j:Addr}{n:Nat}{x y:Str}{t t':Tok}{cx cy:Nat}{u v:Value}
theorem c6 {Q:Value->Shared->Prop} (W:SIt s.heap i x t n) (hx:x.cps[n]?=some cx) (hQ:∀h',SIt h' i x t (n + 1)->Heap.SameBut i s.heap h'->Q (.str ⟨#[cx]⟩ s.toks) { s with heap:=h',toks:=s.toks + 1 }) :
  wpAny (model P w) A (Builtin.SmallTypes.nextOf (.ref i)) Q E s:=by
 unfold SIt strIterType at W hQ
 cases ha:x.cps.all (· < 128)
 .simp only [ha,Bool.false_eq_true,if_false] at W hQ
  exact wpAny_nextOf_wide_item W hx hQ
 .simp only [ha,if_true] at W hQ
  exact wpAny_nextOf_ascii_item W hx hQ
theorem fm {Q:Value->Shared->Prop} (hh:A.handled=none) (W:SIt s.heap i x t n) (hx:x.cps[n]?=none)
  (hE:∀h' e,Heap.ExtBut i s.heap h'->(∃o,h'.get? e=some o/\o.cls=.type "StopIteration")->E (.ref e) { s with heap:=h' }) :
  wpAny (model P w) A (Builtin.SmallTypes.nextOf (.ref i)) Q E s:=by
 unfold SIt strIterType at W
 cases ha:x.cps.all (· < 128)
 .simp only [ha,Bool.false_eq_true,if_false] at W
  exact wpAny_nextOf_wide_end hh W hx hE
 .simp only [ha,if_true] at W
  exact wpAny_nextOf_ascii_end hh W hx hE
theorem pJ {Q:Value->Shared->Prop} (D:ZA z U V i j) (hz:IsZip s.heap z U V .none) (hU:IsPair s.heap U (.ref i) (.ref j)) (hV:IsPair s.heap V u v)
  (W1:SIt s.heap i x t n) (W2:SIt s.heap j y t' n) (hx:x.cps[n]?=some cx) (hy:y.cps[n]?=some cy)
  (hQ:∀h',IsZip h' z U V (rawInt s.heap.objs.size)->IsPair h' V (.str ⟨#[cx]⟩ s.toks) (.str ⟨#[cy]⟩ (s.toks + 1))->SIt h' i x t (n + 1)->SIt h' j y t' (n + 1)->IsPair h' s.heap.objs.size (.str ⟨#[cx]⟩ s.toks) (.str ⟨#[cy]⟩ (s.toks + 1))->h'.objs.size=s.heap.objs.size + 1 ->
   (∀b o,b≠z->b≠V->b≠i->b≠j->s.heap.get? b=some o->h'.get? b=some o)->Q (.ref s.heap.objs.size) { s with heap:=h',toks:=s.toks + 1 + 1 }) :
  wpAny (model P w) A (Builtin.«zip.__next__» ⟨[.ref z],[]⟩) (fun f s'=>∃r,f=.done (.ret r)/\Q r s') E s:=by
 refine wpAny_bind (m:=field (.ref z) 2) (wpAny_field hz rfl (x:=.bool false) rfl (wpAny_bind (m:=field (.ref z) 3) (wpAny_field hz rfl (x:=.ref U) rfl (wpAny_bind (wpAny_seqItems hU rfl ?_)))))
 refine wpAny_bind (m:=Builtin.SmallTypes.ownedTupleIsFree (.ref z)) ?_
 unfold Builtin.SmallTypes.ownedTupleIsFree
 refine wpAny_bind (wpAny_field hz rfl (x:=.none) rfl (wpAny_pure ?_))
 simp only [if_true]
 refine wpAny_bind (wpAny_rule (wpAny_bind (wpAny_field hz rfl (x:=.ref V) rfl (wpAny_bind (wpAny_setField_rec hz (by simp) fun g1 z1 b1=>wpAny_bind ?_)))))
 replace z1:IsZip g1 z U V .ellipsis:=z1
 simp only [List.zipIdx_cons,List.zipIdx_nil,List.forIn_cons,List.forIn_nil]
 have e1:=b1.extBut
 refine wpAny_bind (wpAny_bind (wpAny_onRaise (wpAny_bind (m:=Builtin.SmallTypes.nextOf (.ref i)) (c6 (W1.mv fun o e=>e1 _ o D.iz e) hx fun g2 w1 b2=>wpAny_pure ?_))))
 have e2:=b2.extBut
 have v2:IsPair g2 V u v:=e2 _ _ D.Vi (e1 _ _ D.Vz hV)
 refine wpAny_bind (wpAny_seqItems v2 rfl (wpAny_bind (wpAny_updateSeq_pair v2 fun g3 v3 b3=>wpAny_bind (wpAny_letGo (wpAny_pure ?_)))))
 replace v3:IsPair g3 V (.str ⟨#[cx]⟩ s.toks) v:=v3
 have e3:=b3.extBut
 refine wpAny_bind (wpAny_bind (wpAny_onRaise (wpAny_bind (m:=Builtin.SmallTypes.nextOf (.ref j)) (c6 (W2.mv fun o e=>e3 _ o D.Vj.symm (e2 _ o D.ij.symm (e1 _ o D.jz e))) hy fun g4 w2 b4=>wpAny_pure ?_))))
 have e4:=b4.extBut
 have v4:IsPair g4 V (.str ⟨#[cx]⟩ s.toks) v:=e4 _ _ D.Vj v3
 refine wpAny_bind (wpAny_seqItems v4 rfl (wpAny_bind (wpAny_updateSeq_pair v4 fun g5 v5 b5=>wpAny_bind (wpAny_letGo (wpAny_pure (wpAny_pure ?_))))))
 replace v5:IsPair g5 V (.str ⟨#[cx]⟩ s.toks) (.str ⟨#[cy]⟩ (s.toks + 1)):=v5
 have e5:=b5.extBut
 refine wpAny_bind (wpAny_seqItems v5 rfl (wpAny_bind (wpAny_newTuple ?_)))
 have sz:g5.objs.size=s.heap.objs.size:=by rw [b5.1,b4.1,b3.1,b2.1,b1.1]
 have z5:IsZip g5 z U V .ellipsis:=e5 _ _ D.Vz.symm (e4 _ _ D.jz.symm (e3 _ _ D.Vz.symm (e2 _ _ D.iz.symm z1)))
 have k5:∀b o,b≠z->b≠V->b≠i->b≠j->s.heap.get? b=some o->g5.get? b=some o:=fun b o q1 q2 q3 q4 e=>e5 _ _ q2 (e4 _ _ q4 (e3 _ _ q2 (e2 _ _ q3 (e1 _ _ q1 e))))
 have w15:SIt g5 i x t (n + 1):=w1.mv fun o e=>e5 _ o D.Vi.symm (e4 _ o D.ij (e3 _ o D.Vi.symm e))
 have w25:SIt g5 j y t' (n + 1):=w2.mv fun o e=>e5 _ o D.Vj.symm e
 have zlt:z < g5.objs.size:=Heap.lt_size z5
 refine wpAny_bind (m:=Builtin.SmallTypes.ownedTupleHandOut (.ref z) (.ref g5.objs.size)) ?_
 unfold Builtin.SmallTypes.ownedTupleHandOut
 have z6:IsZip (g5.push { cls:=.type "tuple",data:=.seq #[(.str ⟨#[cx]⟩ s.toks),(.str ⟨#[cy]⟩ (s.toks + 1))] }) z U V .ellipsis:=Heap.get?_push_of_some _ z5
 refine wpAny_bind (wpAny_setField_rec z6 (by simp) fun g7 z7 b7=>?_)
 replace z7:IsZip g7 z U V (rawInt g5.objs.size):=z7
 refine wpAny_setField_rec z7 (by simp) fun g8 z8 b8=>?_
 replace z8:IsZip g8 z U V (rawInt g5.objs.size):=z8
 have up:∀b o,b≠z->g5.get? b=some o->g8.get? b=some o:=fun b o q e=>b8.extBut _ _ q (b7.extBut _ _ q (Heap.get?_push_of_some _ e))
 have t8:IsPair g8 g5.objs.size (.str ⟨#[cx]⟩ s.toks) (.str ⟨#[cy]⟩ (s.toks + 1)):=b8.extBut _ _ (Nat.ne_of_gt zlt) (b7.extBut _ _ (Nat.ne_of_gt zlt) (Heap.get?_push_size _ rfl))
 have s8:g8.objs.size=g5.objs.size + 1:=by rw [b8.1,b7.1,Heap.size_push]
 rw [sz] at z8 t8 s8
 refine wpAny_pure ⟨_,rfl,?_⟩
 show Q (.ref g5.objs.size) _
 rw [sz]
 exact hQ g8 z8 (up _ _ D.Vz v5) (w15.mv fun o e=>up _ o D.iz e) (w25.mv fun o e=>up _ o D.jz e) t8 s8 fun b o q1 q2 q3 q4 e=>up b o q1 (k5 b o q1 q2 q3 q4 e)
theorem sv {Q:Fin->Shared->Prop} (hh:A.handled=none) (D:ZA z U V i j) (hz:IsZip s.heap z U V .none) (hU:IsPair s.heap U (.ref i) (.ref j)) (hV:IsPair s.heap V u v)
  (W1:SIt s.heap i x t n) (W2:SIt s.heap j y t' n) (hend:x.cps[n]?=none\/y.cps[n]?=none)
  (hE:∀h' tk e,(∀b o,b≠z->b≠V->b≠i->b≠j->s.heap.get? b=some o->h'.get? b=some o)->(∃o,h'.get? e=some o/\o.cls=.type "StopIteration")->E (.ref e) { s with heap:=h',toks:=tk }) :
  wpAny (model P w) A (Builtin.«zip.__next__» ⟨[.ref z],[]⟩) Q E s:=by
 refine wpAny_bind (m:=field (.ref z) 2) (wpAny_field hz rfl (x:=.bool false) rfl (wpAny_bind (m:=field (.ref z) 3) (wpAny_field hz rfl (x:=.ref U) rfl (wpAny_bind (wpAny_seqItems hU rfl ?_)))))
 refine wpAny_bind (m:=Builtin.SmallTypes.ownedTupleIsFree (.ref z)) ?_
 unfold Builtin.SmallTypes.ownedTupleIsFree
 refine wpAny_bind (wpAny_field hz rfl (x:=.none) rfl (wpAny_pure ?_))
 simp only [if_true]
 refine wpAny_bind (wpAny_rule (wpAny_bind (wpAny_field hz rfl (x:=.ref V) rfl (wpAny_bind (wpAny_setField_rec hz (by simp) fun g1 z1 b1=>wpAny_bind ?_)))))
 replace z1:IsZip g1 z U V .ellipsis:=z1
 simp only [List.zipIdx_cons,List.zipIdx_nil,List.forIn_cons,List.forIn_nil]
 have e1:=b1.extBut
 cases hx:x.cps[n]? with
 | none =>
  refine wpAny_bind (wpAny_bind (wpAny_onRaise (wpAny_bind (m:=Builtin.SmallTypes.nextOf (.ref i)) (fm hh (W1.mv fun o e=>e1 _ o D.iz e) hx fun g2 e b2 he=>?_))))
  obtain ⟨oe,ge,ce⟩:=he
  have z2:IsZip g2 z U V .ellipsis:=b2 _ _ D.iz.symm z1
  have ez:e≠z:=fun q=>by subst q;rw [z2] at ge;cases ge;simp at ce
  exact wpAny_setField_rec z2 (by simp) fun g3 _ b3=>hE g3 _ e (fun b o q1 _ q3 _ q=>b3.extBut _ _ q1 (b2 _ _ q3 (e1 _ _ q1 q))) ⟨oe,b3.extBut _ _ ez ge,ce⟩
 | some cx =>
  have hy:y.cps[n]?=none:=by
   rcases hend with q | q
   .rw [hx] at q;cases q
   .exact q
  refine wpAny_bind (wpAny_bind (wpAny_onRaise (wpAny_bind (m:=Builtin.SmallTypes.nextOf (.ref i)) (c6 (W1.mv fun o e=>e1 _ o D.iz e) hx fun g2 w1 b2=>wpAny_pure ?_))))
  have e2:=b2.extBut
  have v2:IsPair g2 V u v:=e2 _ _ D.Vi (e1 _ _ D.Vz hV)
  refine wpAny_bind (wpAny_seqItems v2 rfl (wpAny_bind (wpAny_updateSeq_pair v2 fun g3 v3 b3=>wpAny_bind (wpAny_letGo (wpAny_pure ?_)))))
  have e3:=b3.extBut
  refine wpAny_bind (wpAny_bind (wpAny_onRaise (wpAny_bind (m:=Builtin.SmallTypes.nextOf (.ref j)) (fm hh (W2.mv fun o e=>e3 _ o D.Vj.symm (e2 _ o D.ij.symm (e1 _ o D.jz e))) hy fun g4 e b4 he=>?_))))
  obtain ⟨oe,ge,ce⟩:=he
  have z4:IsZip g4 z U V .ellipsis:=b4 _ _ D.jz.symm (e3 _ _ D.Vz.symm (e2 _ _ D.iz.symm z1))
  have ez:e≠z:=fun q=>by subst q;rw [z4] at ge;cases ge;simp at ce
  exact wpAny_setField_rec z4 (by simp) fun g5 _ b5=>hE g5 _ e (fun b o q1 q2 q3 q4 q=>b5.extBut _ _ q1 (b4 _ _ q4 (e3 _ _ q2 (e2 _ _ q3 (e1 _ _ q1 q))))) ⟨oe,b5.extBut _ _ ez ge,ce⟩
end
def uk (xs ys:List V):It :=
  ⟨fun i H=>∃x y,xs[i]?=some x/\ys[i]?=some y,
   fun i H p H'=>∃T x y,H T=none/\p=.ref T/\xs[i]?=some x/\ys[i]?=some y/\H'=upd H T (.tup [x,y]),
   fun i H=>xs.length<=i\/ys.length<=i⟩
theorem lS {P:Program}{w:World}{K:PySem.W.Frag}{es:List Expr}{ct:Nat}{tp:Pos}{z U V i j:Addr}{la lb:List Nat}{t t':Tok} (D:ZA z U V i j) :
  oa P w K (.Tuple es ct tp) (uk (bf la) (bf lb)) [z,U,V,i,j] z (fun n h=>IsZip h z U V .none/\IsPair h U (.ref i) (.ref j)/\(∃u v,IsPair h V u v)/\SIt h i (S la) t n/\SIt h j (S lb) t' n) where
 mem:=by simp
 obj:=fun n h st b hb=>by
  obtain ⟨hz,hU,⟨u,v,hV⟩,⟨o1,g1,c1,d1⟩,⟨o2,g2,c2,d2⟩⟩:=st
  simp only [List.mem_cons,List.not_mem_nil,or_false] at hb
  rcases hb with rfl | rfl | rfl | rfl | rfl
  .exact ⟨_,hz,fun v q=>by cases q⟩
  .exact ⟨_,hU,fun v q=>by cases q⟩
  .exact ⟨_,hV,fun v q=>by cases q⟩
  .exact ⟨_,g1,fun v q=>by rw [d1] at q;cases q⟩
  .exact ⟨_,g2,fun v q=>by rw [d2] at q;cases q⟩
 keep:=fun n h h' st kk=>by
  obtain ⟨hz,hU,⟨u,v,hV⟩,w1,w2⟩:=st
  exact ⟨kk z (by simp) _ hz,kk U (by simp) _ hU,⟨u,v,kk V (by simp) _ hV⟩,w1.mv fun o e=>kk i (by simp) o e,w2.mv fun o e=>kk j (by simp) o e⟩
 item:=by
  intro X hP hw hK hc n pins s σ H E I hf st hg
  subst hP hw hK
  obtain ⟨x,y,hx,hy⟩:=hg
  obtain ⟨hz,hU,⟨u,v,hV⟩,w1,w2⟩:=st
  obtain ⟨cx,hcx,rfl⟩:=cp hx
  obtain ⟨cy,hcy,rfl⟩:=cp hy
  have hT:s.TypeIs (.ref z) "zip":=⟨_,hz,rfl⟩
  unfold pyNext
  refine wpAny_bind (wpAny_attempt (wpAny_callSpecial?_slot (name:=Str.ofString "__next__") hT F.slot_zip_next (wpAny_call_entry F.slot_zip_next hT F.entry_zip_next
   (pJ (cx:=cx) (cy:=cy) D hz hU hV w1 w2 (by simpa [S] using hcx) (by simpa [S] using hcy) fun h' a1 a2 a3 a4 a5 a6 a7=>wpAny_pure ?_) (F.args_zip_next_1 _))))
  refine ⟨_,rfl,wpAny_letOwnedTupleGo_zip a1 fun g gz gs=>?_⟩
  have lt:∀{b o},s.heap.get? b=some o->s.heap.objs.size≠b:=fun e=>Nat.ne_of_gt (Heap.lt_size e)
  have kp:∀b o,b∉[z,V,i,j]->s.heap.get? b=some o->g.get? b=some o:=fun b o hb e=>by
   simp only [List.mem_cons,List.not_mem_nil,or_false,not_or] at hb
   exact gs.extBut _ _ hb.1 (a7 b o hb.1 hb.2.1 hb.2.2.1 hb.2.2.2 e)
  have I2:Inv X pins σ (upd H s.heap.objs.size (.tup [.str (S [cx]),.str (S [cy])])) { s with heap:=g,toks:=s.toks + 1 + 1 }:=I.yielded (ch:=[z,V,i,j]) (fun b hb=>hf b (by
   simp only [List.mem_cons,List.not_mem_nil,or_false] at hb ⊢
   rcases hb with q | q | q | q <;> simp [q])) (Nat.le_refl _) kp ⟨by show 2<=sizeLine;decide,[.str ⟨#[cx]⟩ s.toks,.str ⟨#[cy]⟩ (s.toks + 1)],.cons ⟨_,rfl⟩ (.cons ⟨_,rfl⟩ .nil),_,gs.extBut _ _ (lt hz) a5,rfl,_,rfl⟩
  refine ⟨.ref s.heap.objs.size,_,I2,rfl,⟨_,_,_,I.hok.fresh (Nat.le_refl _),rfl,hx,hy,rfl⟩,
   ⟨gz,gs.extBut _ _ D.Uz (a7 _ _ D.Uz D.UV D.Ui D.Uj hU),⟨_,_,gs.extBut _ _ D.Vz a2⟩,a3.mv fun o e=>gs.extBut _ o D.iz e,a4.mv fun o e=>gs.extBut _ o D.jz e⟩,fun b hb=>?_⟩
  rw [ao ?_]
  .exact (hf b hb).1
  .intro q
   subst q
   simp only [List.mem_cons,List.not_mem_nil,or_false] at hb
   obtain ⟨o1,g1,_⟩:=w1
   obtain ⟨o2,g2,_⟩:=w2
   rcases hb with q | q | q | q | q
   .exact lt hz q
   .exact lt hU q
   .exact lt hV q
   .exact lt g1 q
   .exact lt g2 q
 done:=by
  intro X hP hw hK hc n pins s σ H E I hf st hg
  subst hP hw hK
  have hend:(bf la).length<=n\/(bf lb).length<=n:=hg
  obtain ⟨hz,hU,⟨u,v,hV⟩,w1,w2⟩:=st
  rw [bh,bh] at hend
  have hT:s.TypeIs (.ref z) "zip":=⟨_,hz,rfl⟩
  unfold pyNext
  refine wpAny_bind (wpAny_attempt (wpAny_callSpecial?_slot (name:=Str.ofString "__next__") hT F.slot_zip_next (wpAny_call_entry F.slot_zip_next hT F.entry_zip_next
   (sv (I.ok.hd hc) D hz hU hV w1 w2 ?_ fun h' tk e hk he=>?_) (F.args_zip_next_1 _))))
  .rcases hend with q | q
   .exact .inl (by simp [S];omega)
   .exact .inr (by simp [S];omega)
  .obtain ⟨o,ho,hcl⟩:=he
   refine wpAny_bind (wpAny_isInstance (T:="StopIteration") (b:=true) ⟨o,ho,hcl⟩ isSubtype_stop (wpAny_pure ⟨rfl,?_⟩))
   exact I.step (g':=s.gens) (d':=s.drawn) (t':=tk) (ch:=[z,V,i,j]) (fun b hb=>by
     have q:=hf b (by
      simp only [List.mem_cons,List.not_mem_nil,or_false] at hb ⊢
      rcases hb with q | q | q | q <;> simp [q])
     exact ⟨q.2.2.2.1,q.2.1,q.2.2.2.2.1,q.2.2.2.2.2⟩) (fun b o _ _ hc e _=>by
     simp only [List.mem_cons,List.not_mem_nil,or_false,not_or] at hc
     exact hk b o hc.1 hc.2.1 hc.2.2.1 hc.2.2.2 e) (fun b o _ _ hc e _=>⟨o.slots,by
     simp only [List.mem_cons,List.not_mem_nil,or_false,not_or] at hc
     exact hk b o hc.1 hc.2.1 hc.2.2.1 hc.2.2.2 e⟩) (fun _ _ _ _ q=>q) (fun b o hc e=>⟨o,by
     simp only [List.mem_cons,List.not_mem_nil,or_false,not_or] at hc
     exact hk b o hc.1 hc.2.1 hc.2.2.1 hc.2.2.2 e⟩) (fun _ _ e=>e) (fun _ _ _ e=>e) (fun b ps e=>⟨#[],by rw [e];simp⟩) (fun m hm=>by
     obtain ⟨o,es,ep,ho,r⟩:=hm
     exact ⟨o,es,ep,hk _ o (hf z (by simp)).2.1.symm (hf V (by simp)).2.1.symm (hf i (by simp)).2.1.symm (hf j (by simp)).2.1.symm ho,r⟩) (fun b u e=>by
     have nn:∀b u,H b=some u->b≠z/\b≠V/\b≠i/\b≠j:=fun b u e=>⟨fun q=>(by rw [q,(hf z (by simp)).1] at e;cases e),fun q=>(by rw [q,(hf V (by simp)).1] at e;cases e),fun q=>(by rw [q,(hf i (by simp)).1] at e;cases e),fun q=>(by rw [q,(hf j (by simp)).1] at e;cases e)⟩
     refine (I.hok b u e).stay (fun c v hc q=>?_) (fun _ q=>q) fun _ _ q=>q
     have n4:c≠z/\c≠V/\c≠i/\c≠j:=by
      rcases hc with q | q
      .rw [q];exact nn b u e
      .exact nn c _ q
     exact hk c v n4.1 n4.2.1 n4.2.2.1 n4.2.2.2 q) I.bare
 self:=fun _ _ _ _ _ st h=>wpAny_pyIter_zip st.1 h
section
variable {P:Program}{w:World}{A:Around}{E:Value->Shared->Prop}{s:Shared}
abbrev kr (x:Str) (t:Tok):Obj:={ cls:=.type (strIterType x),data:=.fields #[.str x t,.int 0 0] }
theorem gc {x:Str}{t:Tok}{Q:Value->Shared->Prop} (hQ:Q (.ref s.heap.objs.size) { s with heap:=s.heap.push (kr x t) }):wpAny (model P w) A (pyIter (.str x t)) Q E s:=by
 unfold kr strIterType at hQ
 cases ha:x.cps.all (· < 128)
 .simp only [ha,Bool.false_eq_true,if_false] at hQ
  exact wpAny_pyIter_wide ha hQ
 .simp only [ha,if_true] at hQ
  exact wpAny_pyIter_ascii ha hQ
abbrev yg1 (h:Heap) (x:Str) (t:Tok):Heap:=h.push (kr x t)
abbrev yg2 (h:Heap) (x y:Str) (t u:Tok):Heap:=(yg1 h x t).push (kr y u)
abbrev yg3 (h:Heap) (x y:Str) (t u:Tok):Heap:=(yg2 h x y t u).push { cls:=.type "tuple",data:=.seq #[.ref h.objs.size,.ref (yg1 h x t).objs.size] }
abbrev yg4 (h:Heap) (x y:Str) (t u:Tok):Heap:=(yg3 h x y t u).push { cls:=.type "tuple",data:=.seq #[.none,.none] }
abbrev yg5 (h:Heap) (x y:Str) (t u:Tok):Heap:=(yg4 h x y t u).push { cls:=.type "zip",data:=.fields #[.none,.bool false,.bool false,.ref (yg2 h x y t u).objs.size,.ref (yg3 h x y t u).objs.size] }
theorem m5 (x y:Str) (t u:Tok):Meets (Builtin.«zip.__new__» ⟨[.type "zip",.str x t,.str y u],[]⟩) (fun _ R s =>
   R (.ok (.ret (.ref (yg4 s.heap x y t u).objs.size))) { s with heap:=yg5 s.heap x y t u }) :=
 .of_wp fun prog w A R s h=>by
  obtain ⟨hp,g,d,tk,os⟩:=s
  have hsub:=sub_zip
  wp_walk using gc (x:=x) (t:=t),gc (x:=y) (t:=u)
  exact ⟨_,rfl,h⟩
theorem m7 {x y:Str}{t u:Tok}{Q:Value->Shared->Prop}
  (h:∀h',IsZip h' (s.heap.objs.size + 4) (s.heap.objs.size + 2) (s.heap.objs.size + 3) .none->IsPair h' (s.heap.objs.size + 2) (.ref s.heap.objs.size) (.ref (s.heap.objs.size + 1)) ->
   IsPair h' (s.heap.objs.size + 3) .none .none->SIt h' s.heap.objs.size x t 0->SIt h' (s.heap.objs.size + 1) y u 0->(∀b o,s.heap.get? b=some o->h'.get? b=some o)->Q (.ref (s.heap.objs.size + 4)) { s with heap:=h' }) :
  wpAny (model P w) A (call (.type "zip") [.str x t,.str y u]) Q E s:=by
 refine callType_new F.called_zip (by decide) (F.typeCall_zip_2 _ _) (F.newCall_zip_2 _ _) (fun obj=>F.args_object_init_3 obj _ _) F.entry_zip_new (m5 x y t u) ?_
 have z1:(yg1 s.heap x t).objs.size=s.heap.objs.size + 1:=Heap.size_push ..
 have z2:(yg2 s.heap x y t u).objs.size=s.heap.objs.size + 2:=by rw [Heap.size_push,z1]
 have z3:(yg3 s.heap x y t u).objs.size=s.heap.objs.size + 3:=by rw [Heap.size_push,z2]
 have z4:(yg4 s.heap x y t u).objs.size=s.heap.objs.size + 4:=by rw [Heap.size_push,z3]
 have m4:∀b o,(yg4 s.heap x y t u).get? b=some o->(yg5 s.heap x y t u).get? b=some o:=fun b o e=>Heap.get?_push_of_some _ e
 have m3:∀b o,(yg3 s.heap x y t u).get? b=some o->(yg5 s.heap x y t u).get? b=some o:=fun b o e=>m4 b o (Heap.get?_push_of_some _ e)
 have m2:∀b o,(yg2 s.heap x y t u).get? b=some o->(yg5 s.heap x y t u).get? b=some o:=fun b o e=>m3 b o (Heap.get?_push_of_some _ e)
 have m1:∀b o,(yg1 s.heap x t).get? b=some o->(yg5 s.heap x y t u).get? b=some o:=fun b o e=>m2 b o (Heap.get?_push_of_some _ e)
 have g5:(yg5 s.heap x y t u).get? (yg4 s.heap x y t u).objs.size=some _:=Heap.get?_push_size _ rfl
 have g4:=m4 _ _ (Heap.get?_push_size (yg3 s.heap x y t u) (o:={ cls:=.type "tuple",data:=.seq #[.none,.none] }) rfl)
 have g3:=m3 _ _ (Heap.get?_push_size (yg2 s.heap x y t u) (o:={ cls:=.type "tuple",data:=.seq #[.ref s.heap.objs.size,.ref (yg1 s.heap x t).objs.size] }) rfl)
 have g2:=m2 _ _ (Heap.get?_push_size (yg1 s.heap x t) (o:=kr y u) rfl)
 have g1:=m1 _ _ (Heap.get?_push_size s.heap (o:=kr x t) rfl)
 show _/\_
 rw [z2,z3,z4] at g5
 rw [z1,z2] at g3
 rw [z3] at g4
 rw [z1] at g2
 rw [z4]
 exact ⟨⟨_,g5,rfl⟩,h _ g5 g3 g4 ⟨_,g1,rfl,rfl⟩ ⟨_,g2,rfl,rfl⟩ fun b o e=>m1 b o (Heap.get?_push_of_some _ e)⟩
end
section
variable {X:Cx}{es:List Expr}{ct:Nat}{tp:Pos}
def sw (K:PySem.W.Frag) (ta:TA):TI:=fun σ H R=>ta σ H fun vs H1=>(∃k l a c,vs=[.ref a,.ref c]/\(∃xs ys,Sq k K H1 a xs/\Sq l K H1 c ys)/\R (Itz k l K a c) H1)\/∃la lb,vs=[.str (S la),.str (S lb)]/\R (uk (bf la) (bf lb)) H1
theorem pK (K:PySem.W.Frag) (e:X.K=K) {a b:Expr}{ta:TA}{p pos:Pos} (hg:Gl X "zip") (hm:X.mg "zip"=none) (ha:PA X [a,b] ta)
  (hs:starEach [a,b] X.env=[(false,eval a X.env),(false,eval b X.env)]:=by rfl) (hs2:starEach [b] X.env=[(false,eval b X.env)]:=by rfl) :
  PI X (.Tuple es ct tp) (.Call (.Name "zip" p) [a,b] [] pos) (sw K ta):=by
 subst e
 intro pins s σ H R I h
 refine Call_ (dG I hg hm boot_zip (PyProof.Rows.callWith_type1 (thn (ha pos pins s σ H _ I h) fun us s1 ⟨vs,H1,I1,r1,q1⟩=>?_) (by rw [hs,hs2]) (by rw [hs2];rfl)))
 have fin:∀b∈[s1.heap.objs.size + 4,s1.heap.objs.size + 2,s1.heap.objs.size + 3,s1.heap.objs.size,s1.heap.objs.size + 1],j1 X pins H1 b:=fun b hb=>by
  have hle:s1.heap.objs.size<=b:=by
   simp only [List.mem_cons,List.not_mem_nil,or_false] at hb
   rcases hb with e | e | e | e | e
   .rw [e];exact Nat.le_add_right _ _
   .rw [e];exact Nat.le_add_right _ _
   .rw [e];exact Nat.le_add_right _ _
   .rw [e];exact Nat.le_refl _
   .rw [e];exact Nat.le_add_right _ _
  exact I1.fpOk hle (I1.hok.fresh hle)
 rcases q1 with ⟨k,l,a,c,e,⟨xs,ys,q1,q2⟩,q⟩ | ⟨la,lb,e,q⟩
 .subst e
  cases r1 with
  | cons r rr =>
   cases rr with
   | cons r' rr =>
    cases rr
    cases r
    cases r'
    obtain ⟨its,rv,p,_⟩:=I1.row q1
    obtain ⟨jts,rv',p',_⟩:=I1.row q2
    refine oR p p' fun h' g1 g2 g3 g4 g5 kk=>wpAny_pyIter_zip g1 ?_
    have I2:Inv X pins σ H1 { s1 with heap:=h',toks:=s1.toks }:=I1.kept kk
    exact ⟨s1.heap.objs.size + 4,[s1.heap.objs.size + 4,s1.heap.objs.size + 2,s1.heap.objs.size + 3,s1.heap.objs.size,s1.heap.objs.size + 1],_,_,H1,rfl,I2,mG (i:=s1.heap.objs.size) (j:=s1.heap.objs.size + 1)
     (rJ _),⟨g1,g2,⟨_,_,g3⟩,g4,g5⟩,fin,q⟩
 .subst e
  cases r1 with
  | cons r rr =>
   cases rr with
   | cons r' rr =>
    cases rr
    obtain ⟨t,rfl⟩:=r
    obtain ⟨u,rfl⟩:=r'
    refine m7 fun h' g1 g2 g3 g4 g5 kk=>wpAny_pyIter_zip g1 ?_
    have I2:Inv X pins σ H1 { s1 with heap:=h',toks:=s1.toks }:=I1.kept kk
    exact ⟨s1.heap.objs.size + 4,[s1.heap.objs.size + 4,s1.heap.objs.size + 2,s1.heap.objs.size + 3,s1.heap.objs.size,s1.heap.objs.size + 1],_,_,H1,rfl,I2,lS (i:=s1.heap.objs.size) (j:=s1.heap.objs.size + 1)
     (rJ _),⟨g1,g2,⟨_,_,g3⟩,g4,g5⟩,fin,q⟩
def nR (pa:PTA):PTI:=fun ρ Q=>pa ρ fun as ρ1=>match as with
 | [.v (.str x),.v (.str y)]=>Q (min x.length y.length) (fun k=>.tup [.str [x.getD k 0],.str [y.getD k 0]]) ρ1
 | [.v a,.v b]=>(match rowD a,rowD b with
  | some xs,some ys=>Q (min xs.length ys.length) (fun k=>.tup [itD xs k,itD ys k]) ρ1
  | _,_=>False)
 | _=>False
end
section
variable {K:PySem.W.Frag}{ta:TA}{pa:PTA}
theorem sx {O:Addr->Prop}{H:Hp}{x y:List Nat}:Wlk K O H (uk (bf x) (bf y)) (min x.length y.length) (fun k=>.tup [.str [x.getD k 0],.str [y.getD k 0]]):=fun O' H' kk dom=>by
 refine ⟨fun j hj=>?_,?_⟩
 .have h1:j < (bf x).length:=by rw [bh];omega
  have h2:j < (bf y).length:=by rw [bh];omega
  refine ⟨⟨_,_,List.getElem?_eq_getElem h1,List.getElem?_eq_getElem h2⟩,fun v H'' ⟨T,u,w,hT,e,y1,y2,e2⟩=>?_⟩
  subst e e2
  obtain ⟨c,hc,rfl⟩:=cp y1
  obtain ⟨d,hd,rfl⟩:=cp y2
  show Gr H' _/\FV K O' _ _ (.tup [.str [x.getD j 0],.str [y.getD j 0]])
  rw [List.getD_eq_getElem?_getD,List.getD_eq_getElem?_getD,hc,hd]
  exact ⟨Gr.new hT,.tup (fun z=>dom T z hT) aJ (.cons (.str _ (by show 1<=1000000;decide)) (.cons (.str _ (by show 1<=1000000;decide)) .nil))⟩
 .show (bf x).length<=_\/(bf y).length<=_
  rw [bh,bh];omega
theorem pL (h:LAs K ta pa):LI K (sw K ta) (nR pa):=fun A ρ σ H Q Q' R q k=>h A ρ σ H _ _ R q fun vs H1 as ρ1 q1 f1 R1 o1=>by
 split at q1
 .rename_i x y
  cases o1 with
  | cons o1 o2 =>
   cases o2 with
   | cons o2 o3 =>
    cases o3
    have f1':FV K _ H1 _ (.str x):=o1
    have f2':FV K _ H1 _ (.str y):=o2
    cases f1'
    cases f2'
    exact .inr ⟨x,y,rfl,k _ H1 _ _ ρ1 q1 f1 R1 sx⟩
 .rename_i da db hno
  have:=r9 (K:=K) (ta:=ta) (pa:=pa) h
  cases o1 with
  | cons o1 o2 =>
   cases o2 with
   | cons o2 o3 =>
    cases o3
    split at q1
    .rename_i xs ys ex ey
     obtain ⟨b1,a1,us,rfl,l1,w1⟩:=FV.rowD (show FV K _ H1 _ da from o1) ex
     obtain ⟨b2,a2,ws,rfl,l2,w2⟩:=FV.rowD (show FV K _ H1 _ db from o2) ey
     have t1:=w1 _ H1 (fun b o n h=>⟨n,h⟩)
     have t2:=w2 _ H1 (fun b o n h=>⟨n,h⟩)
     refine .inl ⟨b1,b2,a1,a2,rfl,⟨us,ws,t1.1,t2.1⟩,k _ H1 _ _ ρ1 q1 f1 R1 fun O' H' kk dom=>?_⟩
     obtain ⟨s1,g1⟩:=w1 O' H' kk
     obtain ⟨s2,g2⟩:=w2 O' H' kk
     refine ⟨fun j hj=>?_,⟨us,ws,s1,s2,by omega⟩⟩
     have h1:j < us.length:=by omega
     have h2:j < ws.length:=by omega
     refine ⟨⟨us,ws,_,_,s1,s2,List.getElem?_eq_getElem h1,List.getElem?_eq_getElem h2⟩,fun x H'' ⟨T,u,w,hT,e,y1,y2,e2⟩=>?_⟩
     subst e e2
     obtain ⟨d1,hd1,fd1⟩:=g1.get (y1 us s1)
     obtain ⟨d2,hd2,fd2⟩:=g2.get (y2 ws s2)
     have e1:itD xs j=d1:=by unfold itD;rw [List.getD_eq_getElem?_getD,hd1];rfl
     have e2:itD ys j=d2:=by unfold itD;rw [List.getD_eq_getElem?_getD,hd2];rfl
     rw [e1,e2]
     have kk2:aD O' H' O' (upd H' T (.tup [u,w])):=fun b o n e=>⟨n,by rw [ao (aO e hT)];exact e⟩
     exact ⟨Gr.new hT,.tup (fun z=>dom T z hT) aJ (.cons (fd1.keeps kk2) (.cons (fd2.keeps kk2) .nil))⟩
    .exact q1.elim
 .exact q1.elim
end
section
variable {X:Cx}{K:PySem.W.Frag}{te:TE}{pe:PTE}
def pM:List V->Hp->VK->Prop:=fun xs H Q=>(∃b,xs=[.bl b]/\Q (.int (if b then 1 else 0)) H)\/∃i,xs=[.int i]/\Q (.int i) H
theorem pN:bw X (.type "int") pM:=by
 intro pins s σ H xs us Q I r h
 rcases h with ⟨b,rfl,q⟩ | ⟨i,rfl,q⟩
 .obtain ⟨u,rfl,ru⟩:=gB r
  cases (show u=Value.bool b from ru)
  exact call_int_bool ⟨.int _,H,I.tok _,⟨_,rfl⟩,q⟩
 .obtain ⟨u,rfl,t,rfl⟩:=gB r
  exact call_int_int ⟨.int _,H,I,⟨_,rfl⟩,q⟩
def lT:FN
 | [.bl b],Q=>Q (.dat (.int (if b then 1 else 0)))
 | [.int i],Q=>Q (.dat (.int i))
 | _,_=>False
theorem lU:LC K pM lT:=by
 intro O H xs as Q Q' dom fs q k
 unfold lT at q
 split at q
 .cases fs with | cons a b=>cases b;rw [a.bl];exact .inl ⟨_,rfl,k _ H _ q (Gr.refl _) (.int _)⟩
 .cases fs with | cons a b=>cases b;rw [a.int];exact .inr ⟨_,rfl,k _ H _ q (Gr.refl _) (.int _)⟩
 .exact q.elim
end
section
variable {prog:Program}{w:World}{A:Around}{E:Value->Shared->Prop}{s:Shared}
theorem iA {it t:Addr}{items:Array Value} (hne:t≠it):∀(n i:Nat) (s:Shared) (Q:List Value->Shared->Prop),s.heap.IsListIter it t i->s.heap.IsList t items->i + n<=items.size ->
  (∀h',h'.IsListIter it t (i + n)->Heap.SameBut it s.heap h'->Q ((items.toList.drop i).take n) { s with heap:=h' })->wpAny (model prog w) A (draw (.ref it) n) Q E s
 | 0,i,s,Q,hit,_,_,hQ=>by
  show wpAny _ _ (pure []) Q E s
  exact wpAny_pure (by simpa using hQ s.heap hit (Heap.SameBut.refl ..))
 | n + 1,i,s,Q,hit,ht,hle,hQ=>by
  have hlt:i < items.size:=by omega
  show wpAny _ _ (pyNext (.ref it) >>= _) Q E s
  refine wpAny_bind (wpAny_pyNext_list_item hit ht (x:=items[i]) (by simp [hlt]) fun h₁ hit₁ hs₁=>?_)
  refine wpAny_bind (wpAny_holding (iA hne n (i + 1) _ _ hit₁ (ht.extBut hs₁.extBut hne) (by omega) fun h₂ hit₂ hs₂=>wpAny_pure ?_))
  have hd:items.toList.drop i=items[i]::items.toList.drop (i + 1):=by simp [List.drop_eq_getElem_cons,hlt]
  have:=hQ h₂ (by rw [show i + (n + 1)=i + 1 + n by omega];exact hit₂) (hs₁.trans hs₂)
  rw [hd,List.take_succ_cons] at this
  exact this
theorem eS {t:Addr}{items:Array Value}{Q:List Value->Shared->Prop} (hh:A.handled=none) (ht:s.heap.IsList t items)
  (hQ:∀h',Heap.ExtBut s.heap.objs.size s.heap h'->Q items.toList { s with heap:=h' }):wpAny (model prog w) A (unpackItems (.ref t) items.size none) Q E s:=by
 have hlt:t≠s.heap.objs.size:=by obtain ⟨o,ho,_⟩:=ht;exact Nat.ne_of_lt (Heap.lt_size ho)
 unfold unpackItems
 refine wpAny_bind ?_
 .unfold notIterableAtAll
  refine wpAny_bind (wpAny_specialOf ht.typeIs PySem.F.slot_list_iter.lookup ?_)
  refine wpAny_pure ?_
  simp only [Bool.false_eq_true,if_false]
  refine wpAny_bind (wpAny_holding (wpAny_pyIter_list ht ?_))
  refine wpAny_bind (wpAny_holding (iA hlt items.size 0 _ _ ⟨_,Heap.get?_push_size _ rfl,rfl,rfl⟩ (ht.push _) (by omega) fun h₁ hit₁ hs₁=>?_))
  have hall:List.take items.size (List.drop 0 items.toList)=items.toList:=by
   rw [List.drop_zero];exact List.take_of_length_le (by simp)
  rw [hall]
  rw [if_neg (by simp)]
  have ht₁:h₁.IsList t items:=(ht.push _).extBut hs₁.extBut hlt
  refine wpAny_bind (wpAny_holding (wpAny_pyNext_list_end hh hit₁ ht₁ (by simp) fun h₂ he₂=>?_))
  simp only [Option.isSome_none,Bool.false_eq_true,if_false]
  refine wpAny_pure (hQ h₂ fun b o hb e=>he₂ b o hb (hs₁.extBut b o hb (Heap.get?_push_of_some _ e)))
theorem d0 {env:Env}{elts:List Expr}{x1}{pos:Pos}{t:Addr}{items:Array Value}{Q:Unit->Shared->Prop} (hh:A.handled=none) (ht:s.heap.IsList t items)
  (hn:(assignEach elts env).length=items.size) (hstar:(assignEach elts env).findIdx? (·.1)=none)
  (h:∀h',Heap.ExtBut s.heap.objs.size s.heap h'->wpAny (model prog w) A (assignInOrder ((assignEach elts env).map (·.2)) items.toList) Q E { s with heap:=h' }) :
  wpAny (model prog w) A (assign (.Tuple elts x1 pos) env (.ref t)) Q E s:=by
 rw [assign_Tuple]
 refine wpAny_bind (wpAny_standAt ?_)
 unfold unpack
 rw [hn,hstar]
 exact wpAny_bind (wpAny_holding (eS hh ht h))
end
def u7 (K:PySem.W.Frag) (n:Nat) (t:TGs):TG:=fun v σ H Q=>∃b a xs,v=.ref a/\Sq b K H a xs/\xs.length=n/\t xs σ H Q
section
variable {X:Cx}
theorem sy (K:PySem.W.Frag) (eK:X.K=K) {es:List Expr}{k:Nat}{t:TGs}{n:Nat}{pos:Pos} (hc:X.calm=true) (h:PGs X es t)
  (hn:(assignEach es X.env).length=n:=by rfl) (hst:(assignEach es X.env).findIdx? (·.1)=none:=by rfl):PG X (.Tuple es k pos) (u7 K n t):=by
 subst eK
 intro pins s σ H v u Q I r hw
 obtain ⟨b,a,xs,e1,hq,hl,hw⟩:=hw
 cases b with
 | true=>exact qJ hc h hn hst pins s σ H v u Q I r ⟨a,xs,e1,hq,hl,hw⟩
 | false =>
  subst e1
  cases r
  obtain ⟨its,rv,ht,hz⟩:=I.list hq
  refine d0 (I.ok.hd hc) ht.isList (by simp [hn,<- hl,rv.length]) hst fun h' hx=>?_
  have I1:Inv X pins σ H { s with heap:=h' }:=I.kept (t':=s.toks) fun b o e=>hx b o (Nat.ne_of_lt (Heap.lt_size e)) e
  exact h pins _ σ H xs _ Q I1 (by simpa using rv) hw
def pO (n:Nat) (gs:pj):PTG:=fun p ρ Q=>match p with | .dat (.tup ds)=>ds.length=n/\gs ds ρ Q | .dat (.lst ds)=>ds.length=n/\gs ds ρ Q | .own ds=>ds.length=n/\gs ds ρ Q | _=>False
end
section
variable {K:PySem.W.Frag}{fs:List Nat}
theorem pP {n:Nat}{gs:TGs}{pgs:pj} (h:LGs K fs gs pgs):LGd K fs (u7 K n gs) (pO n pgs):=fun fx A R H0 ρ σ H d v Q Q' hf F r fv q k=>by
 unfold pO at q
 split at q
 .rename_i e
  cases e
  cases fv with
  | tup nn e f=>exact ⟨true,_,_,rfl,SqT.of e,by rw [f.length];exact q.1,h fx A R H0 ρ σ H _ _ Q Q' hf F r f q.2 k⟩
 .rename_i e
  cases e
  cases fv with
  | lst nn e f=>exact ⟨false,_,_,rfl,SqL.of e,by rw [f.length];exact q.1,h fx A R H0 ρ σ H _ _ Q Q' hf F r f q.2 k⟩
 .rename_i e
  cases e
 .exact q.elim
end
def qp (d:D) (xs:List D):Prop:=d=.lst xs\/d=.tup xs
theorem qp.lst (xs:List D):qp (.lst xs) xs:=.inl rfl
theorem qp.tup (xs:List D):qp (.tup xs) xs:=.inr rfl
def nSt:Expr->Bool
 | .Starred _ _=>false
 | _=>true
theorem dB {e:Expr}{es:List Expr}{env:Env} (h:nSt e=true):starEach (e::es) env=(false,eval e env)::starEach es env:=by
 cases e <;> first | rfl | cases h
theorem dM {env:Env}{pos:Pos}:∀{es:List Expr},es.all nSt=true->(backTo pos (starEach es env)).any (·.1)=false
 | [],_=>rfl
 | e::es,h=>by
  rw [List.all_cons,Bool.and_eq_true] at h
  rw [dB h.1]
  show (false || (backTo pos (starEach es env)).any (·.1))=false
  rw [dM h.2];rfl
section
variable {X:Cx}{k:Nat}{x:Str}{ps:List Str}{sp:Sp}{e:Expr}{es:List Expr}{te:TE}{t:TA}{p pos:Pos}{dvs:List V}{C:Addr}{id T:String}{r:List V->Hp->VK->Prop}
theorem paC (ha:PE X e te) (hr:PA X es t) (hn:nSt e=true:=by rfl):PA X (e::es) (bL te t):=oy ha hr (dB hn)
theorem aQ (C:Cal X.prog X.w X.K X.mg X.base k x ps sp) (hr:eP k X.A) (ha:PA X (e::es) t) (hg:Gl X x:=by rfl) (hdb:(x == ("__debug__":Str))=false:=by decide) (hn:nSt e=true:=by rfl) (hp:es.all nSt=true:=by rfl) :
  PE X (.Call (.Name x p) (e::es) [] pos) (fM sp [] E0 t):=rD C hr ha hg hdb (dB hn) (dM hp)
theorem aq (hc:bw X (.builtin id) r) (hg:Gl X x) (hm:X.mg x=none) (hv:bootBuiltins x=some (.builtin id)) (ha:PA X (e::es) t) (hnn:x≠"__name__":=by decide) (hdb:(x == ("__debug__":Str))=false:=by decide) (hn:nSt e=true:=by rfl) (hp:es.all nSt=true:=by rfl) :
  PE X (.Call (.Name x p) (e::es) [] pos) (tCB r t):=ml hc hg hm hv ha hnn hdb (dB hn) (dM hp)
theorem bD (hc:bw X (.type T) r) (hg:Gl X x) (hm:X.mg x=none) (hv:bootBuiltins x=some (.type T)) (ha:PA X (e::es) t) (hnn:x≠"__name__":=by decide) (hdb:(x == ("__debug__":Str))=false:=by decide) (hn:nSt e=true:=by rfl) (hp:es.all nSt=true:=by rfl) :
  PE X (.Call (.Name x p) (e::es) [] pos) (tCB r t):=kS hc hg hm hv ha hnn hdb (dB hn) (dM hp)
end
def plT:Expr->Bool
 | .Call _ _ _ _=>true
 | .Name _ _=>true
 | .Subscript _ _ _=>true
 | .Attribute _ _ _=>true
 | _=>false
theorem pQ {e:Expr}{env:Env} (h:plT e=true):∀whole,isTrue e env whole=(do let v <- whole;standAt e.pos;holding [v] (truthy v)):=by
 cases e <;> first | (intro _;rfl) | cases h
theorem ee {X:Cx}{e:Expr}{t:TE} (h:PE X e t) (hp:plT e=true:=by rfl):PT X e (tB t):=qD h (pQ hp)
def qq (a b:List Nat):Bool:=decide (0<=fnd b a 0)
def nD (k:Nat):D:=.int (k:Int)
theorem nS (k:Nat):∀ks:List Nat,inD (.int (k:Int)) (ks.map nD)=decide (k∈ks)
 | []=>by simp [inD]
 | v::r=>by
  have ih:=nS k r
  unfold inD at ih ⊢
  rw [List.map_cons,List.any_cons,ih]
  show (((v:Int) == (k:Int)) || decide (k∈r))=_
  by_cases h:v=k
  .subst h;simp
  .rw [show ((v:Int) == (k:Int))=false from beq_eq_false_iff_ne.mpr (by omega),Bool.false_or]
   by_cases h2:k∈r
   .rw [decide_eq_true h2,decide_eq_true (List.mem_cons_of_mem _ h2)]
   .rw [decide_eq_false h2,decide_eq_false (fun z=>(List.mem_cons.mp z).elim (fun e=>h e.symm) h2)]
theorem ul (ks:List Nat):(ks.map nD).all D.fl=true:=by rw [List.all_map];exact List.all_eq_true.mpr fun _ _=>rfl
theorem dN {α β:Type} (p:α->Bool) (g:α->β):∀l:List α,l.filterMap (fun a=>if p a=true then some (g a) else none)=(l.filter p).map g
 | []=>rfl
 | a::r=>by
  rw [List.filterMap_cons,List.filter_cons]
  cases h:p a with
  | true=>simp [dN p g r]
  | false=>simp [dN p g r]
theorem m8 (a b:List Int):deq (.lst (a.map .int)) (.lst (b.map .int))=decide (a=b):=by
 unfold deq
 show PyData.eqv (.list (D.pys _)) (.list (D.pys _))=_
 rw [gU,gU]
 simp only [PyData.eqv]
 exact e9 a b
open PySem.Builtin PySem.Builtin.ObjectAttr
open PySem.Builtin PySem.Builtin.ObjectAttr
open PySem.Builtin PySem.Builtin.ObjectAttr
open PySem.Builtin PySem.Builtin.ObjectAttr
theorem lV (d:D):(PV.dat d).d=d:=rfl
theorem lW (ds:List D):(PV.own ds).d=.lst ds:=rfl
theorem lX (c:Str) (ns:List Str) (ds:List D):(PV.ins c ns ds).d=.obj c ns ds:=rfl
theorem sA (ds:List D):mkL false ds=.own ds:=rfl
theorem sB (ds:List D):mkL true ds=.dat (.tup ds):=rfl
def pkm (ρ:PSt) (j:Nat):Option PV:=match ρ[j]? with
 | some v=>v
 | none=>none
theorem jU (v:Option PV) (r:PSt):pkm (v::r) 0=v:=rfl
theorem jV (v:Option PV) (r:PSt) (n:Nat):pkm (v::r) (n + 1)=pkm r n:=rfl
theorem iB (ρ:PSt):bc [] ρ=[]:=rfl
theorem gi (ix:List (Option Nat)) (ρ:PSt):bc (none::ix) ρ=none::bc ix ρ:=rfl
theorem gj (j:Nat) (ix:List (Option Nat)) (ρ:PSt):bc (some j::ix) ρ=pkm ρ j::bc ix ρ:=rfl
theorem iC (j:Nat) (ix:List (Option Nat)) (ρ:PSt) (t:Option PV) (τ:PSt):cR (some j::ix) ρ (t::τ)=cR ix (ρ.set j t) τ:=rfl
theorem iD (ix:List (Option Nat)) (ρ:PSt) (t:Option PV) (τ:PSt):cR (none::ix) ρ (t::τ)=cR ix ρ τ:=rfl
theorem jW (ρ τ:PSt):cR [] ρ τ=ρ:=rfl
theorem pR {α:Type}{e:α->D}{xs:List α}{k:Nat} (h:k < xs.length):itD (xs.map e) k=e xs[k]:=lK (by rw [List.getElem?_map,List.getElem?_eq_getElem h];rfl)
theorem lY {α β:Type} (f:α->β) (xs:List α) (g:Nat->β) (h:∀k (hk:k < xs.length),g k=f xs[k]):(List.range xs.length).map g=xs.map f:=by
 apply List.ext_getElem?
 intro i
 rw [List.getElem?_map,List.getElem?_map]
 by_cases hi:i < xs.length
 .rw [List.getElem?_range hi,List.getElem?_eq_getElem hi]
  exact congrArg some (h i hi)
 .rw [List.getElem?_eq_none (by rw [List.length_range];omega),List.getElem?_eq_none (by omega)];rfl
section
variable {α:Type}{e:α->D}{xs:List α}{ix:List (Option Nat)}{ρ1:PSt}{g:PTG}{pt:PTT}{pe:PTE}{Q:PKt}
theorem u8 (T:PSt->Prop) (f:α->Option D) (h0:T (bc ix ρ1))
  (hs:∀x∈xs,∀τ,T τ->∀(K1:D->PSt->Prop) (K2:PSt->Prop),(∀d τ',f x=some d->T τ'->K1 d τ')->(∀τ',f x=none->T τ'->K2 τ')->g (.dat (e x)) τ fun τ2=>pt τ2 fun ok τ3=>eH ok (pe τ3 fun p τ4=>K1 p.d τ4) (K2 τ3))
  (hq:∀τ,T τ->Q (.own (xs.filterMap f)) (cR ix ρ1 τ)):gT ix ρ1 (xs.map e).length (itD (xs.map e)) g pt pe Q:=by
 refine cfm T (fun k=>(xs[k]?).bind f) h0 (fun k τ d hk ed t K1 K2 k1 k2=>?_) fun τ t=>?_
 .rw [List.length_map] at hk
  rw [pR hk] at ed
  subst ed
  have eg:(xs[k]?).bind f=f xs[k]:=by rw [List.getElem?_eq_getElem hk];rfl
  rw [eg] at k1 k2
  exact hs _ (List.getElem_mem hk) τ t K1 K2 k1 k2
 .have e1:(List.range (xs.map e).length).filterMap (fun k=>(xs[k]?).bind f)=xs.filterMap f:=by
   rw [List.length_map]
   have h1:(List.range xs.length).map (fun k=>(xs[k]?).bind f)=xs.map f:=lY f xs _ fun k hk=>by rw [List.getElem?_eq_getElem hk];rfl
   have h2:∀l:List Nat,l.filterMap (fun k=>(xs[k]?).bind f)=(l.map fun k=>(xs[k]?).bind f).filterMap id:=fun l=>by rw [List.filterMap_map];rfl
   rw [h2,h1,List.filterMap_map];rfl
  rw [e1];exact hq τ t
theorem um (T:PSt->Prop) (f:α->D) (h0:T (bc ix ρ1))
  (hs:∀x∈xs,∀τ,T τ->∀K1:D->PSt->Prop,(∀τ',T τ'->K1 (f x) τ')->g (.dat (e x)) τ fun τ2=>pe τ2 fun p τ4=>K1 p.d τ4)
  (hq:∀τ,T τ->Q (.own (xs.map f)) (cR ix ρ1 τ)):gT ix ρ1 (xs.map e).length (itD (xs.map e)) g qg pe Q:=by
 refine u8 T (fun x=>some (f x)) h0 (fun x hx τ t K1 K2 k1 k2=>?_) fun τ t=>?_
 .exact hs x hx τ t K1 fun τ' t'=>k1 _ τ' rfl t'
 .rw [show xs.filterMap (fun x=>some (f x))=xs.map f by rw [<- List.filterMap_eq_map];rfl];exact hq τ t
theorem uo {β:Type} (p:α->Bool) (f:α->β):∀xs:List α,xs.filterMap (fun x=>if p x=true then some (f x) else none)=(xs.filter p).map f:=dN p f
theorem cfX (T:PSt->Prop) (p:α->Bool) (f:α->D) (h0:T (bc ix ρ1))
  (hs:∀x∈xs,∀τ,T τ->∀(K1:D->PSt->Prop) (K2:PSt->Prop),(∀τ',p x=true->T τ'->K1 (f x) τ')->(∀τ',p x=false->T τ'->K2 τ')->g (.dat (e x)) τ fun τ2=>pt τ2 fun ok τ3=>eH ok (pe τ3 fun p τ4=>K1 p.d τ4) (K2 τ3))
  (hq:∀τ,T τ->Q (.own ((xs.filter p).map f)) (cR ix ρ1 τ)):gT ix ρ1 (xs.map e).length (itD (xs.map e)) g pt pe Q:=by
 refine u8 T (fun x=>if p x=true then some (f x) else none) h0 (fun x hx τ t K1 K2 k1 k2=>hs x hx τ t K1 K2 (fun τ' h t'=>k1 _ τ' (by rw [if_pos h]) t') fun τ' h t'=>k2 τ' (by rw [if_neg (by rw [h];decide)]) t') fun τ t=>?_
 rw [uo];exact hq τ t
theorem cm1 (f:α->D)
  (hs:∀x∈xs,∀(v:Option PV) (K1:D->PSt->Prop),(∀v',K1 (f x) (v'::(bc ix ρ1).tail))->g (.dat (e x)) (v::(bc ix ρ1).tail) fun τ2=>pe τ2 fun p τ4=>K1 p.d τ4)
  (hq:∀v:Option PV,Q (.own (xs.map f)) (cR ix ρ1 (v::(bc ix ρ1).tail))) (hx:bc ix ρ1=none::(bc ix ρ1).tail:=by rfl):gT ix ρ1 (xs.map e).length (itD (xs.map e)) g qg pe Q:=by
 refine um (fun τ=>∃v,τ=v::(bc ix ρ1).tail) f ⟨none,hx⟩ ?_ ?_
 .rintro x hx τ ⟨v,rfl⟩ K1 k1
  exact hs x hx v K1 fun v'=>k1 _ ⟨v',rfl⟩
 .rintro τ ⟨v,rfl⟩
  exact hq v
theorem cf1 (p:α->Bool) (f:α->D)
  (hs:∀x∈xs,∀(v:Option PV) (K1:D->PSt->Prop) (K2:PSt->Prop),(∀v',p x=true->K1 (f x) (v'::(bc ix ρ1).tail))->(∀v',p x=false->K2 (v'::(bc ix ρ1).tail))->g (.dat (e x)) (v::(bc ix ρ1).tail) fun τ2=>pt τ2 fun ok τ3=>eH ok (pe τ3 fun p τ4=>K1 p.d τ4) (K2 τ3))
  (hq:∀v:Option PV,Q (.own ((xs.filter p).map f)) (cR ix ρ1 (v::(bc ix ρ1).tail))) (hx:bc ix ρ1=none::(bc ix ρ1).tail:=by rfl):gT ix ρ1 (xs.map e).length (itD (xs.map e)) g pt pe Q:=by
 refine cfX (fun τ=>∃v,τ=v::(bc ix ρ1).tail) p f ⟨none,hx⟩ ?_ ?_
 .rintro x hx τ ⟨v,rfl⟩ K1 K2 k1 k2
  exact hs x hx v K1 K2 (fun v' h=>k1 _ h ⟨v',rfl⟩) fun v' h=>k2 _ h ⟨v',rfl⟩
 .rintro τ ⟨v,rfl⟩
  exact hq v
end
theorem cfR {ix:List (Option Nat)}{ρ1:PSt}{g:PTG}{pt:PTT}{pe:PTE}{Q:PKt}{n:Nat}{it:Nat->D} (p:Nat->Bool) (f:Nat->D)
  (hs:∀k,k < n->∀(v:Option PV) (K1:D->PSt->Prop) (K2:PSt->Prop),(∀v',p k=true->K1 (f k) (v'::(bc ix ρ1).tail))->(∀v',p k=false->K2 (v'::(bc ix ρ1).tail))->g (.dat (it k)) (v::(bc ix ρ1).tail) fun τ2=>pt τ2 fun ok τ3=>eH ok (pe τ3 fun p τ4=>K1 p.d τ4) (K2 τ3))
  (hq:∀v:Option PV,Q (.own (((List.range n).filter p).map f)) (cR ix ρ1 (v::(bc ix ρ1).tail))) (hx:bc ix ρ1=none::(bc ix ρ1).tail:=by rfl):gT ix ρ1 n it g pt pe Q:=by
 refine cfm (fun τ=>∃v,τ=v::(bc ix ρ1).tail) (fun k=>if p k=true then some (f k) else none) ⟨none,hx⟩ ?_ ?_
 .rintro k τ d hk rfl ⟨v,rfl⟩ K1 K2 k1 k2
  exact hs k hk v K1 K2 (fun v' h=>k1 _ _ (by rw [if_pos h]) ⟨v',rfl⟩) fun v' h=>k2 _ (by rw [if_neg (by rw [h];decide)]) ⟨v',rfl⟩
 .rintro τ ⟨v,rfl⟩
  rw [dN]
  exact hq v
theorem vv {n i:Nat} (h:i < n):ixN n (i:Int)=some i:=by
 unfold ixN
 rw [if_pos (by omega),if_pos (by omega),Int.toNat_natCast]
theorem pS (a b:List Nat):(!(Builtin.Str.occurrences (S b) (S a) 0 (S b).length 1).isEmpty)=qq a b:=by
 have e:=oU b a 0
 unfold qq
 rw [<- e]
 cases Builtin.Str.occurrences (S b) (S a) 0 (S b).length 1 with
 | nil=>rfl
 | cons k r=>exact (decide_eq_true (by omega:(0:Int)<=(k:Int))).symm
section
variable {X:Cx}{K:PySem.W.Frag}
def u9 (neg:Bool):R2:=fun x y H Q=>∃a b,x=.str (S a)/\y=.str (S b)/\Q (.bl (if neg then !qq a b else qq a b)) H
theorem sC:OpR X (compareOp .In) (u9 false):=by
 intro pins s σ H x y v u Q I rx ry h
 obtain ⟨a,b,rfl,rfl,q⟩:=h
 obtain ⟨t,rfl⟩:=rx
 obtain ⟨t',rfl⟩:=ry
 exact P.in_str ⟨.bl _,H,I,rfl,by rw [pS];exact q⟩
def va (K:PySem.W.Frag) (neg:Bool):R2:=fun x y H Q=>rIn K neg x y H Q\/u9 neg x y H Q
theorem uq (K:PySem.W.Frag) (e:X.K=K):OpR X (compareOp .In) (va K false):=OpR.or (vn K e) sC
def ur (neg:Bool):F2
 | .str a,.str b,Q=>Q (.dat (.bl (if neg then !qq a b else qq a b)))
 | a,.lst ds,Q=>(a.fl=true/\ds.all D.fl=true)/\Q (.dat (.bl (if neg then !inD a ds else inD a ds)))
 | a,.tup ds,Q=>(a.fl=true/\ds.all D.fl=true)/\Q (.dat (.bl (if neg then !inD a ds else inD a ds)))
 | _,_,_=>False
theorem sD {neg:Bool}:LO K (va K neg) (ur neg):=by
 intro O H x y a b Q Q' dom fx fy q k
 unfold ur at q
 split at q
 .obtain ⟨rfl,_⟩:=fx.str
  obtain ⟨rfl,_⟩:=fy.str
  exact .inr ⟨_,_,rfl,rfl,k _ H _ q (Gr.refl _) (.bl _)⟩
 .exact .inl (rX O H x y _ _ Q Q' dom fx fy q k)
 .exact .inl (rX O H x y _ _ Q Q' dom fx fy q k)
 .exact q.elim
end
section
variable {X:Cx}{K:PySem.W.Frag}
def nU (K:PySem.W.Frag):R2:=fun x y H Q=>∃a b ys,x=.ref a/\y=.ref b/\SqT K H a []/\SqT K H b ys/\Q (.ref b) H
theorem m9:OpR X (binaryOp .Add) (nU X.K):=by
 intro pins s σ H x y v u Q I rx ry h
 obtain ⟨a,b,ys,rfl,rfl,ha,hb,q⟩:=h
 cases rx
 cases ry
 obtain ⟨its,r1,p1,_⟩:=I.tuple ha
 obtain ⟨its2,r2,p2,_⟩:=I.tuple hb
 have e0:its=[]:=r1.nil_iff.mpr rfl
 subst e0
 obtain ⟨⟨cls,dd,data,sl⟩,ho,hc,n,hd⟩:=id p1
 obtain ⟨⟨cls2,dd2,data2,sl2⟩,ho2,hc2,n2,hd2⟩:=id p2
 simp only at hc hd hc2 hd2
 subst hc hd hc2 hd2
 exact concat_meets ⟨_,ho,rfl⟩ ⟨_,ho2,rfl⟩ noFill_tuple_add seq_tuple_add PySem.F.slot_tuple_add PySem.F.entry_tuple_add (PySem.F.args_tuple_add_2 _ _) (tuple_addW0 a b _ _ n n2 dd dd2 sl sl2 rfl) ⟨ho,ho2,.ref b,H,I,rfl,q⟩
def pT (K:PySem.W.Frag):R2:=fun x y H Q=>o7 K x y H Q\/nU K x y H Q
theorem aT (K:PySem.W.Frag) (e:X.K=K):OpR X (binaryOp .Add) (pT K):=OpR.or (tY K e) (by subst e;exact m9)
def bt:F2
 | .tup a,.tup b,Q=>a.length + b.length<=1000000/\Q (.dat (.tup (a++b)))
 | a,b,Q=>tZ a b Q
theorem aF:LO K (pT K) bt:=by
 intro O H x y a b Q Q' dom fx fy q k
 unfold bt at q
 split at q
 .rename_i Q ds es
  cases ds with
  | cons d ds=>exact .inl (nJ O H x y _ _ _ Q' dom fx fy ⟨nofun,q⟩ k)
  | nil =>
   obtain ⟨p1,xs1,rfl,n1,e1,f1⟩:=fx.tup
   obtain ⟨p2,xs2,rfl,n2,e2,f2⟩:=fy.tup
   cases f1
   exact .inr ⟨p1,p2,xs2,rfl,rfl,SqT.of e1,SqT.of e2,k _ H _ q.2 (Gr.refl _) (.tup n2 e2 f2)⟩
 .exact .inl (nJ O H x y _ _ _ Q' dom fx fy q k)
end
section
variable {X:Cx}
def vb:Expr->Bool
 | .ListComp .. | .SetComp .. | .DictComp ..=>false
 | _=>true
theorem lZ {o i e:Expr}{p:Pos}{l:Nat}{env:Env} (h:vb e=true):swapsWithSole [.Subscript o i p] e l env=pure false:=by
 show swapsWith e (some (.Subscript o i p)) l env=pure false
 cases e <;> first | rfl | cases h
theorem jh {o i e:Expr}{p:Pos}{env:Env}:swappedStores [.Subscript o i p] e env=pure none:=rfl
theorem pU {o i e:Expr}{p:Pos}{te:TE}{g:TG}{pos:Pos} (he:PE X e te) (hg:PG X (.Subscript o i p) g) (hn:vb e=true:=by rfl):PS X (.Assign [.Subscript o i p] e pos) (p8 te g) :=
 qL he hg (lZ hn) jh rfl
end
def iS (K:PySem.W.Frag) (x:Str) (st:Stmt):Prop:=∃(f:Addr) (oc kV dc pm cd ct:Value) (od an:Option Addr) (sl:Array (Option Value)),PySem.W.nsIn K mainGlobals x=some (some (.ref f)) /\
 K.lookup f=some ⟨oc,od,.func (PySem.W.fnOf x x (bB st) (a8 st) (ah st) .none kV dc pm an cd ct),sl⟩/\PySem.W.codeIn K cd x=true/\PySem.W.keepIn K (.ref f)=true
theorem sE {K:PySem.W.Frag}{x:Str}{st:Stmt}{f:Addr}{oc kV dc pm cd ct:Value}{od an:Option Addr}{sl:Array (Option Value)} (a:PySem.W.nsIn K mainGlobals x=some (some (.ref f))) (l:K.lookup f=some ⟨oc,od,.func (PySem.W.fnOf x x (bB st) (a8 st) (ah st) .none kV dc pm an cd ct),sl⟩)
  (c:PySem.W.codeIn K cd x=true) (k:PySem.W.keepIn K (.ref f)=true):iS K x st:=⟨f,oc,kV,dc,pm,cd,ct,od,an,sl,a,l,c,k⟩
theorem bY {K:PySem.W.Frag}{h:Heap}{mg:Str->Option Value}{x:Str}{st:Stmt} (q:iS K x st) (X:K.In h) (G:h.Ns mainGlobals mg):bW K mg x st:=by
 obtain ⟨f,oc,kV,dc,pm,cd,ct,od,an,sl,a,l,c,k⟩:=q
 exact .mk' X G a l c k
section
variable {X:Cx}{K:PySem.W.Frag}
def ut (i j:Int):Prop:=0 < j/\j < 18446744073709551616
abbrev sF:=rI ut fun i j=>.int (i / j)
abbrev sG:F2:=fI (fun _ j=>0 < j/\j < 18446744073709551616) fun i j=>.int (i / j)
theorem sH {x y:Int} (h:y.natAbs < 18446744073709551616):Builtin.divisionGoesByPylong x y=false:=by
 refine PyProof.noPylong_of_log2 ?_
 by_cases h0:y.natAbs=0
 .rw [h0];decide +kernel
 .have h64:y.natAbs.log2 < 64:=(Nat.log2_lt h0).mpr h
  omega
theorem pV:OpR X (binaryOp .FloorDiv) sF:=opI fun i j _ _ _ _ _ hc q=>by
 have h1:(0:Int) < j:=hc.1
 have h2:j < 18446744073709551616:=hc.2
 exact floordiv_int (by omega) (by rw [Int.fdiv_eq_ediv_of_nonneg i (by omega)];exact q) (.inl (sH (by omega)))
theorem ng:LO K sF sG:=sS fun _ _ _ _=>.int _
end
def gW:FM
 | a,[.str [b],.str [c]],Q=>(b≠c/\a.length<=1000000)/\Q (.dat (.str (a.map fun x=>if x=b then c else x)))
 | _,_,_=>False
theorem l0 {b c:Nat}{l:List Nat} (h:b∉l):(l.map fun x=>if x=b then c else x)=l:=by
 have:∀x∈l,(if x=b then c else x)=id x:=fun x hx=>if_neg fun (e:x=b)=>h (by rw [<- e];exact hx)
 rw [List.map_congr_left this,List.map_id]
theorem l7 (b c:Nat):∀parts:List Str,(∀p∈parts,b∉p.cps.toList)->((Str.join ⟨#[b]⟩ parts).cps.toList.map fun x=>if x=b then c else x)=(Str.join ⟨#[c]⟩ parts).cps.toList
 | [],_=>rfl
 | [p],h=>l0 (h p (List.mem_singleton.mpr rfl))
 | p::q::r,h=>by
  have ih:=l7 b c (q::r) fun a ha=>h a (List.mem_cons_of_mem _ ha)
  show ((p++⟨#[b]⟩++Str.join ⟨#[b]⟩ (q::r)).cps.toList.map fun x=>if x=b then c else x)=(p++⟨#[c]⟩++Str.join ⟨#[c]⟩ (q::r)).cps.toList
  simp only [Str.cps_append,Array.toList_append,List.map_append]
  rw [ih,l0 (h p List.mem_cons_self)]
  simp
theorem iE (l:List Nat) (b c:Nat):Txt.replace (S l) (S [b]) (S [c])=S (l.map fun x=>if x=b then c else x):=by
 have e:(Txt.replace (S l) ⟨#[b]⟩ ⟨#[c]⟩).cps.toList=(S l).cps.toList.map fun x=>if x=b then c else x:=by
  rw [StrLaws.replace_one,<- l7 b c _ (StrLaws.split_free (S l) b),StrLaws.join_split]
 show Txt.replace (S l) ⟨#[b]⟩ ⟨#[c]⟩=_
 generalize Txt.replace (S l) ⟨#[b]⟩ ⟨#[c]⟩=z at e
 obtain ⟨a⟩:=z
 have e:a.toList=l.map fun x=>if x=b then c else x:=e
 show (⟨a⟩:Str)=⟨_⟩
 congr 1
 rw [<- e]
theorem ji {M:Model}{Γ:PySem.Ctx}{p:Pos}{t:Sem Fin}{fs:List Frame}{s s':Shared}{e:End} (h:Runs M Γ p t fs s e s'):s.toks<=s'.toks:=by
 induction h with
 | done | raise | yield=>exact Nat.le_refl _
 | again _ _ ih | rule _ ih | «at» _ ih | load _ _ ih | update _ _ ih | loadIfAlive _ ih | point _ ih | alloc _ ih | ask _ ih | choose _ _ ih | os _ ih | handled _ ih | genState _ _ ih | stack _ ih | thread _ ih | newGen _ ih=>exact ih
 | fresh _ ih=>exact Nat.le_trans (Nat.le_succ _) ih
 | call _ _ i1 i2=>exact Nat.le_trans i1 i2
 | callSusp _ ih=>exact ih
 | resumeFresh _ _ _ _ i1 i2=>exact Nat.le_trans i1 i2
 | resumeSuspended _ _ _ _ i1 i2=>exact Nat.le_trans i1 i2
 | resumeJustStarted _ _ _ ih=>exact ih
 | resumeThrowFresh _ _ ih=>exact ih
 | resumeRunning _ _ ih=>exact ih
 | resumeFinished _ _ ih=>exact ih
 | segRet _ _ i1 i2=>exact Nat.le_trans i1 i2
 | segGen _ _ i1 i2=>exact Nat.le_trans i1 i2
 | segSuspOut _ _ ih=>exact ih
 | segSuspGen _ _ _ _ i1 i2=>exact Nat.le_trans i1 i2
theorem nh {M:Model}{Γ:PySem.Ctx}{p:Pos}{g:Nat}{r:Resume}{s s':Shared}{res:GenResult} (h:Wakes M Γ p g r s res s'):s.toks<=s'.toks:=by
 unfold Wakes at h
 split at h
 .exact h.elim
 .split at h
  .obtain ⟨e,s1,h1,_,_,rfl⟩:=h;have z:=ji h1;exact z
  .rw [h.2];exact Nat.le_refl _
  .rw [h.2];exact Nat.le_refl _
 .obtain ⟨e,s1,h1,_,_,rfl⟩:=h;have z:=ji h1;exact z
 .rw [h.2];exact Nat.le_refl _
 .rw [h.2];exact Nat.le_refl _
theorem nV {α:Type}{M:Model}{Γ:PySem.Ctx}{Q:α->Pos->Shared->Prop}{E:Value->Pos->Shared->Prop} (n:Nat) (t:Sem α) :
  ∀(p:Pos) (s:Shared),n<=s.toks->Sem.wp M Γ t (fun a p s'=>n<=s'.toks->Q a p s') (fun a p s'=>n<=s'.toks->E a p s') p s->Sem.wp M Γ t Q E p s:=by
 induction t with
 | pure x=>exact fun p s l h=>h l
 | raise v=>exact fun p s l h=>h l
 | unsupported | finish | yield | fork | await | register=>exact fun _ _ _ h=>h
 | rule _ k ih | «at» _ k ih | loadIfAlive _ k ih | point _ k ih | ask k ih | handled _ k ih | stack k ih | thread k ih=>exact fun p s l h=>ih _ _ _ l h
 | alloc _ k ih | os _ _ k ih | newGen _ k ih=>exact fun p s l h=>ih _ _ _ l h
 | fresh k ih=>exact fun p s l h=>ih _ _ _ (Nat.le_trans l (Nat.le_succ _)) h
 | load a _ k ih | genState a k ih=>exact fun p s l ⟨o,ho,h⟩=>⟨o,ho,ih _ _ _ l h⟩
 | update a _ f k ih | choose _ _ k ih=>exact fun p s l ⟨ha,h⟩=>⟨ha,ih _ _ _ l h⟩
 | call c h g l k ih=>exact fun p s l ⟨r,s',hr,h⟩=>⟨r,s',hr,ih _ _ _ (Nat.le_trans l (ji hr)) h⟩
 | resume g r l k ih=>exact fun p s l ⟨res,s',hw,h⟩=>⟨res,s',hw,ih _ _ _ (Nat.le_trans l (nh hw)) h⟩
theorem ni {α:Type}{M:Model}{A:Around}{t:Sem α}{Q:α->Shared->Prop}{E:Value->Shared->Prop}{s:Shared}
  (h:wpAny M A t (fun a s'=>s.toks<=s'.toks->Q a s') (fun a s'=>s.toks<=s'.toks->E a s') s):wpAny M A t Q E s :=
 fun Γ p hΓ=>nV s.toks t p s (Nat.le_refl _) (h Γ p hΓ)
theorem thT {α:Type}{M:Model}{A:Around}{t:Sem α}{Q Q':α->Shared->Prop}{E:Value->Shared->Prop}{s:Shared} (h:wpAny M A t Q E s) (k:∀a s',s.toks<=s'.toks->Q a s'->Q' a s'):wpAny M A t Q' E s :=
 ni (wpAny_mono h (fun a s' q l=>k a s' l q) fun _ _ q _=>q)
theorem tkK {α:Type}{M:Model}{Γ:PySem.Ctx}{t:Sem α}{Q Q1:α->Pos->Shared->Prop}{E:Value->Pos->Shared->Prop}{p:Pos}{s:Shared} (hl:0 < s.toks) (h:Sem.wp M Γ t Q1 E p s) (k:∀a p s',0 < s'.toks->Q1 a p s'->Q a p s'):Sem.wp M Γ t Q E p s :=
 nV 1 t p s hl (Sem.wp_mono M Γ t (fun a p s' q l=>k a p s' l q) (fun e p s' (q:E e p s') (_:1<=s'.toks)=>q) p s h)
theorem uu {β:Type}{M:Model}{Γ:PySem.Ctx}{n:Str}{f:Value->Sem β}{Q Q1:β->Pos->Shared->Prop}{E:Value->Pos->Shared->Prop}{p:Pos}{s:Shared} (h:Sem.wp M Γ (mkText n >>= f) Q1 E p s) (k:∀a p s',0 < s'.toks->Q1 a p s'->Q a p s'):Sem.wp M Γ (mkText n >>= f) Q E p s:=by
 rw [Sem.wp_bind'] at h ⊢
 have h:Sem.wp M Γ (f (.str n s.toks)) Q1 E p { s with toks:=s.toks + 1 }:=h
 show Sem.wp M Γ (f (.str n s.toks)) Q E p { s with toks:=s.toks + 1 }
 exact tkK (Nat.succ_pos _) h k
theorem nj {M:Model}{Γ:PySem.Ctx}{env:Env}{n:Str}{v:Value}{Q:Unit->Pos->Shared->Prop}{E:Value->Pos->Shared->Prop}{p:Pos}{s:Shared} (hk:env.scope.kind=.function) (hl:env.kindOf n=some .local)
  (h:Sem.wp M Γ (storeName env n v) (fun a p' s'=>0 < s'.toks->Q a p' s') E p s):Sem.wp M Γ (storeName env n v) Q E p s:=by
 rw [storeName_local hl (by rw [hk];rfl)] at h ⊢
 unfold nsSet at h ⊢
 rw [Sem.wp_bind'] at h ⊢
 refine Sem.wp_mono M Γ _ (fun a p1 s1 h1=>?_) (fun _ _ _ q=>q) p s h
 exact uu h1 fun a p s l q=>q l
theorem sI {M:Model}{A:Around}{scope:Scope}{gl bl:Addr}{n:Str}{v:Value}{r:List (Str×Value)}{qual:Str}{func:Option Addr}{code:Value}{Q:Env->Shared->Prop}{E:Value->Shared->Prop}{s:Shared}
  (hk:scope.kind=.function) (hl:scope.names.lookup n=some .local) (h:wpAny M A (newFunctionEnv scope gl [] ((n,v)::r) qual func code none bl) (fun e s'=>0 < s'.toks->Q e s') E s) :
  wpAny M A (newFunctionEnv scope gl [] ((n,v)::r) qual func code none bl) Q E s:=by
 intro Γ p hΓ
 have h:=h Γ p hΓ
 unfold newFunctionEnv at h ⊢
 rw [Sem.wp_bind'] at h ⊢
 refine Sem.wp_mono M Γ _ (fun a p1 s1 h1=>?_) (fun _ _ _ q=>q) p s h
 rw [Sem.wp_bind'] at h1 ⊢
 refine Sem.wp_mono M Γ _ (fun c p2 s2 h2=>?_) (fun _ _ _ q=>q) p1 s1 h1
 dsimp only at h2 ⊢
 rw [Sem.wp_bind',List.forIn_cons,Sem.wp_bind',Sem.wp_bind'] at h2 ⊢
 refine nj (env:={ scope,locals:=a,globals:=gl,cells:=c,qual,func,code,frame:=some a,builtins:=bl }) hk hl (Sem.wp_mono M Γ _ (fun x p3 s3 h3 l=>?_) (fun _ _ _ q=>q) p2 s2 h2)
 exact tkK l h3 fun y p4 s4 l4 h4=>tkK l4 h4 fun z p5 s5 l5 h5=>tkK l5 h5 fun _ _ _ l6 q=>q l6
def PET (X:Cx) (e:Expr) (t:TE):Prop :=
 ∀(pins:List (Addr×Obj)) (s:Shared) (σ:St) (H:Hp) (Q:VK),Inv X pins σ H s->0 < s.toks->t σ H Q->wpAny (model X.prog X.w) X.A (eval e X.env) (EP X pins σ Q) X.xe s
def PAT (X:Cx) (es:List Expr) (t:TA):Prop :=
 ∀(pos:Pos) (pins:List (Addr×Obj)) (s:Shared) (σ:St) (H:Hp) (Q:List V->Hp->Prop),Inv X pins σ H s->0 < s.toks->t σ H Q->wpAny (model X.prog X.w) X.A (spliced (backTo pos (starEach es X.env))) (AP X pins σ Q) X.xe s
def PST (X:Cx) (st:Stmt) (t:TS):Prop :=
 ∀(pins:List (Addr×Obj)) (s:Shared) (σ:St) (H:Hp) (D:ny),Inv X pins σ H s->0 < s.toks->t D σ H->wpAny (model X.prog X.w) X.A (exec st X.env) (SP X pins D) X.xe s
def qs (X:Cx) (st:List Stmt) (t:TS):Prop :=
 ∀(pins:List (Addr×Obj)) (s:Shared) (σ:St) (H:Hp) (D:ny),Inv X pins σ H s->0 < s.toks->t D σ H->wpAny (model X.prog X.w) X.A (execs st X.env) (SP X pins D) X.xe s
section
variable {X:Cx}
theorem qs.nox {st:List Stmt}{t:TS} (h:qs X.nox st t):qs X st t:=fun pins s σ H D I k hw =>
 wpAny_mono (h pins s σ H D (I.wish _) k hw) (fun _ _ q=>q.unwish) fun _ _ z=>z.elim
theorem nk {st:Stmt}{t:TS} (h1:PST X st t):qs X [st] t:=by
 intro pins s σ H D I k h
 refine wpAny_execs_cons (thn (h1 pins s σ H D I k h) fun f s1 q=>?_)
 cases f with
 | next=>exact wpAny_execs_nil q
 | ret v=>exact q
 | brk=>exact q
 | cont=>exact q
theorem pW {e:Expr}{te:TE}{pos:Pos} (he:PET X e te):PST X (.Return (some e) pos) (sX te):=fun pins s σ H D I k h =>
 wpAny_Return_some (thn (he pins s σ H _ I k h) fun v s1 ⟨x,H1,I1,r1,q1⟩=>⟨x,σ,H1,I1,r1,q1⟩)
theorem pX {a:Expr}{pos:Pos}{op}{t:TE} (h:PET X a t):PET X (.BoolOp op [a] pos) t:=fun pins s σ H Q I k hw=>BoolOp_one (h pins s σ H Q I k hw)
theorem pY {a b:Expr}{rest:List Expr}{pos:Pos}{ta tb:TE} (ha:PE X a ta) (hb:PET X (.BoolOp .And (b::rest) pos) tb):PET X (.BoolOp .And (a::b::rest) pos) (n8 ta tb):=by
 intro pins s σ H Q I k h
 refine BoolOp_and (thT (ha pins s σ H _ I h) fun v s1 l ⟨x,H1,I1,r1,q1⟩=>?_)
 obtain ⟨c,rfl,q1⟩:=q1
 cases r1
 refine wpAny_truthy_bool ?_
 cases c with
 | true=>exact hb pins s1 σ H1 Q I1 (Nat.lt_of_lt_of_le k l) q1
 | false=>exact ⟨.bl false,H1,I1,rfl,q1⟩
theorem paT {e:Expr}{es:List Expr}{te:TE}{t:TA} (ha:PET X e te) (hr:PA X es t) (hn:nSt e=true:=by rfl):PAT X (e::es) (bL te t):=by
 intro pos pins s σ H Q I k h
 rw [dB hn]
 show wpAny _ _ (spliced ((false,eval e X.env)::backTo pos (starEach es X.env))) _ _ s
 refine Calls.spliced_cons (thn (ha pins s σ H _ I k h) fun u s1 ⟨x,H1,I1,r1,q1⟩=>?_)
 exact thn (hr pos pins s1 σ H1 _ I1 q1) fun us s2 ⟨xs,H2,I2,r2,q2⟩=>⟨x::xs,H2,I2,.cons r1 r2,q2⟩
theorem nq {k:Nat}{x:Str}{ps:List Str}{dvs:List V}{sp:Sp}{e:Expr}{es:List Expr}{t:TA}{p pos:Pos} (j:Nat) (C:sP X.prog X.w X.K X.mg X.base k x ps dvs sp) (hr:eP k X.A) (hj:j<=dvs.length) (ha:PAT X (e::es) t) (hg:Gl X x:=by rfl) (hdb:(x == ("__debug__":Str))=false:=by decide) (hn:nSt e=true:=by rfl) (hp:es.all nSt=true:=by rfl) :
  PET X (.Call (.Name x p) (e::es) [] pos) (fM sp (dvs.drop j) E0 t):=by
 obtain ⟨f,fd,F,hb,hk,hm⟩:=C.ex
 obtain ⟨ds,rv,hb⟩:=hb j hj
 intro pins s σ H Q I z h
 refine wpAny_Call_Name_kw (iU I hg hm ?_ hdb)
 refine PySem.W.callWith_K (h₀:=X.base) I.ok.mod.kin hk (thn (ha pos pins s σ H _ I z h) fun us s1 ⟨vs,H1,I1,r,q⟩=>⟨I1.kIn,?_⟩) (dB hn) (dM hp)
 exact nF F hr hb rv re I1 r q
def jX:V->List V->Hp->VK->Prop:=fun x xs H Q=>∃a b c,x=.str (S a)/\xs=[.str (S [b]),.str (S [c])]/\b≠c/\a.length<=1000000/\Q (.str (S (a.map fun x=>if x=b then c else x))) H
theorem kt {K:PySem.W.Frag}:LM K jX gW:=by
 intro O H l xs as Q Q' dom hl fs q k
 unfold gW at q
 split at q
 .cases fs with
  | cons a b =>
   cases b with
   | cons b n =>
    cases n
    rw [a.str.1,b.str.1]
    exact ⟨_,_,_,rfl,rfl,q.1.1,q.1.2,k _ H _ q.2 (Gr.refl _) (.str _ (by rw [List.length_map];exact hl))⟩
 .exact q.elim
theorem jj (K:PySem.W.Frag) (eK:X.K=K) {o:Expr}{to:TE}{a b:Str}{la lb:List Nat}{i j:Nat}{p1 p2 apos cpos:Pos} (e1:a=S la) (e2:b=S lb) (ho:PE X o to)
  (hbase:attributeBase o "replace" X.env (eval o X.env)=eval o X.env:=by rfl) (hline:(apos.endLine == cpos.line)=true:=by rfl) :
  PET X (.Call (.Attribute o "replace" apos) [.Constant (.str a) i p1,.Constant (.str b) j p2] [] cpos) (tBM K "str" jX to (bL (tC (.str (S la))) (bL (tC (.str (S lb))) jE))):=by
 subst eK e1 e2
 intro pins s σ H Q I k h
 refine wpAny_Call_method_late hbase (by rfl) hline rfl (thT (ho pins s σ H _ I h) fun v s1 l ⟨x,H1,I1,r1,ty,q1⟩=>?_)
 obtain ⟨h1,h2⟩:=kX I1 r1 ty
 refine ⟨"str","str.replace",PySem.F.plainAttrs_str,PySem.F.slot_str_replace,PySem.F.type_str_replace,h1,h2,?_⟩
 refine Calls.callWith_builtin (by rfl) (Calls.evalArgs_plain ?_)
 refine Calls.spliced_cons (Calls.Constant_str (k:=i) (pos:=p1) ?_)
 show wpAny _ _ (spliced ((false,eval (.Constant (.str (S lb)) j p2) X.env)::[])) _ _ _
 refine Calls.spliced_cons (Calls.Constant_str (k:=j) (pos:=p2) (Calls.spliced_nil ?_))
 obtain ⟨aa,b,c,rfl,e,hne,hz,q⟩:=q1
 obtain ⟨t,rfl⟩:=r1
 have e1:S la=S [b]:=V.str.inj (List.cons.inj e).1
 have e2:S lb=S [c]:=V.str.inj (List.cons.inj (List.cons.inj e).2).1
 rw [e1,e2]
 refine SC.replace (Nat.ne_of_gt (Nat.lt_of_lt_of_le k l)) (Nat.succ_ne_zero _) (Nat.ne_of_lt (Nat.lt_succ_self _)) ?_ ?_ fun t' m=>?_
 .cases hq:(S [b] == S [c])
  .rfl
  .exact absurd (List.cons.inj (congrArg (fun z:Str=>z.cps.toList) (eq_of_beq hq))).1 hne
 .have z1:(S [c]).length=1:=dq _
  have z2:(S aa).length=aa.length:=dq _
  rw [z1,z2];omega
 .rw [iE]
  exact ⟨.str _,H1,I1.tok _,⟨_,rfl⟩,q⟩
end
section
variable {P:Program}{w:World}{K:PySem.W.Frag}{mg:Str->Option Value}{base:Heap}{x:Str}{st:Stmt}{N ps:List Str}{k:Nat}{sp:Sp}
theorem Fun.okT {n:Str}{f:Addr}{fd:FuncData} (F:Fun K x x st f fd) (S:aS N (n::ps) (ah st)) (hn:(ah st).names.lookup n=some .local) (len:∀vs H Q E,sp vs H Q E->vs.length=(n::ps).length)
  (hbody:∀(cdv:Value) (A:Around) (outer:List Env) (s:Shared) (H:Hp) (vs:List V) (Q:VK) (E:XK),eP k (A.deeper (envOfC x (ah st) s.heap.objs.size f cdv))->sp vs H Q E ->
   ∃t,qs (kR CX0 P w K mg base N x (ah st) f cdv A outer s H E).nox (a8 st) t/\t { nx:=fun _ H'=>Q .non H',rt:=Q } (start N vs) H):iX P w K mg base CX0 (k + 1) f fd (n::ps) sp:=by
 obtain ⟨oc,od,kV,doc,pm,an,cdv,ct,osl,rfl,lk,hcd⟩:=F.ex
 refine ⟨len,fun A outer s H args us vs Q E hr e0 hb r hsp=>?_⟩
 have hl:=len _ _ _ _ hsp
 have KX:K.In s.heap:=e0.mod.kin.keeps fun b o e=>(e0.bs b o e).1
 have lim:s.heap.NoLimit:=e0.mod.nolimit.keeps fun b o e=>(e0.bs b o e).1
 obtain ⟨u0,us,rfl⟩:∃u0 us',us=u0::us':=by
  cases us with
  | nil=>have:=r.length;rw [hl] at this;cases this
  | cons a b=>exact ⟨a,b,rfl⟩
 have hkind:∀y∈(n::ps).zip (u0::us),(ah st).names.lookup y.1=some .local\/((ah st).names.lookup y.1=some .cell/\((cellsFrom (s.heap.objs.size + 1) (ah st).names []).lookup y.1).isSome=true):=fun ⟨n,v⟩ hy=>by
  rcases S.par n (List.of_mem_zip hy).1 with q | q
  .exact .inl q
  .exact .inr ⟨q,PySem.W.cellsFrom_some _ _ _ (.inl q)⟩
 refine codeAny_call_function hr.depth (KX _ _ lk) rfl S.co S.gen rfl (PySem.W.codeRec_of KX hcd) (hb _ _ _ _ ?_)
 refine sI S.kind hn (wpAny_newFunctionEnv_cells S.kind hkind fun env he s1 x0 htk=>?_)
 subst he
 refine ⟨lim.keeps x0.toInCall.keep,codeAny_func ?_⟩
 obtain ⟨t,ht,hq⟩:=hbody cdv A outer s H vs Q E (hr.deeper _) hsp
 have I:=ia (CX:=CX0) (E:=E) S hr.hd e0 hl r x0
 refine wpAny_mono (ht.nox [] s1 (start N vs) H _ I htk hq) (fun fl s' hs=>?_) fun e s' hs=>hs
 have fin:∀{σ':St}{H':Hp}{v:V}{u:Value},Inv (kR CX0 P w K mg base N x (ah st) f cdv A outer s H E) [] σ' H' s'->bK v u->Q v H'->CE outer P w H s Q u s' :=
  fun {σ' H' v u} J rv q=>⟨v,H',J.os,J.bare,J.base,J.hok,rv,q⟩
 cases fl with
 | ret u =>
  obtain ⟨v,σ',H',J,rv,q⟩:=hs
  exact fin J rv q
 | next =>
  obtain ⟨σ',H',J,q⟩:=hs
  exact fin (v:=V.non) (u:=Value.none) J rfl q
 | brk =>
  obtain ⟨_,_,_,q⟩:=hs
  exact False.elim q
 | cont =>
  obtain ⟨_,_,_,q⟩:=hs
  exact False.elim q
theorem bW.okT {n:Str} (D:bW K mg x st) (S:aS N (n::ps) (ah st))
  (hb:∀(kV doc pm:Value) (an:Option Addr) (cdv ct:Value) (us:List Value),us.length=(n::ps).length->bindArgs (PySem.W.fnOf x x (bB st) (a8 st) (ah st) .none kV doc pm an cdv ct) ⟨us,[]⟩=pure ((n::ps).zip us))
  (len:∀vs H Q E,sp vs H Q E->vs.length=(n::ps).length)
  (hbody:∀(f:Addr) (cdv:Value) (A:Around) (outer:List Env) (s:Shared) (H:Hp) (vs:List V) (Q:VK) (E:XK),eP k (A.deeper (envOfC x (ah st) s.heap.objs.size f cdv))->sp vs H Q E ->
   ∃t,qs (kR CX0 P w K mg base N x (ah st) f cdv A outer s H E).nox (a8 st) t/\t { nx:=fun _ H'=>Q .non H',rt:=Q } (start N vs) H) (hn:(ah st).names.lookup n=some .local:=by rfl):Cal P w K mg base (k + 1) x (n::ps) sp:=by
 obtain ⟨f,fd,F,hm⟩:=D.ex
 have lk:∃oc od osl,K.lookup f=some ⟨oc,od,.func fd,osl⟩:=by
  obtain ⟨oc,od,kV,doc,pm,an,cdv,ct,osl,rfl,lk,hcd⟩:=F.ex
  exact ⟨oc,od,osl,lk⟩
 exact ⟨f,fd,F.okT S hn len fun cdv A outer s H vs Q E hr h=>hbody f cdv A outer s H vs Q E hr h,F.binds hb,F.kp,hm,lk⟩
end
end L2
namespace K58
open PySem PySem.Spec PyProof.Rows L2
def top (i:Nat):Stmt:=PySem.Challenge.pw_shortglue_k58_fits.main.body.getD i (.Pass ⟨0,0,0,0⟩)
abbrev cu:Stmt:=top 3
abbrev dC:Stmt:=top 5
abbrev fo:Stmt:=top 6
abbrev bU:Stmt:=top 7
abbrev eh:Stmt:=top 9
abbrev ei:Stmt:=top 10
abbrev dD:Stmt:=top 11
abbrev cC:Stmt:=top 13
abbrev ej:Stmt:=top 14
abbrev c7:Stmt:=top 15
abbrev c8:Stmt:=top 16
abbrev ek:Stmt:=top 17
abbrev bV:Stmt:=top 18
abbrev eo:Stmt:=top 19
abbrev nr:Stmt:=top 20
theorem ku:aS ["thing","least","most"] ["thing","least","most"] (ah cu):=⟨rfl,rfl,rfl,by decide +kernel,rfl,by decide +kernel,by decide +kernel⟩
theorem iF:aS ["thing"] ["thing"] (ah dC):=⟨rfl,rfl,rfl,by decide +kernel,rfl,by decide +kernel,by decide +kernel⟩
theorem et:aS ["text","gapped","place","sign","own"] ["text","gapped","place"] (ah fo):=⟨rfl,rfl,rfl,by decide +kernel,rfl,by decide +kernel,by decide +kernel⟩
theorem eT:aS ["text","gapped"] ["text","gapped"] (ah bU):=⟨rfl,rfl,rfl,by decide +kernel,rfl,by decide +kernel,by decide +kernel⟩
theorem bu:aS ["_law_cells","_law_many","_law_own","_law_row","_law_deck_here","_law_k","_law_at","_law_one"] ["_law_cells","_law_many"] (ah eh):=⟨rfl,rfl,rfl,by decide +kernel,rfl,by decide +kernel,by decide +kernel⟩
theorem jk:aS ["_law_deck_here"] ["_law_deck_here"] (ah ei):=⟨rfl,rfl,rfl,by decide +kernel,rfl,by decide +kernel,by decide +kernel⟩
theorem iG:aS ["_law_found"] ["_law_found"] (ah dD):=⟨rfl,rfl,rfl,by decide +kernel,rfl,by decide +kernel,by decide +kernel⟩
theorem bE:aS ["_law_number","_law_letters","_law_most","_law_found"] ["_law_number","_law_letters","_law_most"] (ah cC):=⟨rfl,rfl,rfl,by decide +kernel,rfl,by decide +kernel,by decide +kernel⟩
theorem dE:aS ["_law_deck_here","_law_many","_law_letters"] ["_law_deck_here"] (ah ej):=⟨rfl,rfl,rfl,by decide +kernel,rfl,by decide +kernel,by decide +kernel⟩
theorem bi:aS ["_law_piece","_law_number","_law_found","_law_sign"] ["_law_piece","_law_number"] (ah c7):=⟨rfl,rfl,rfl,by decide +kernel,rfl,by decide +kernel,by decide +kernel⟩
theorem bx:aS ["_law_deck_here","_law_text_here","_law_found","_law_k","_law_number","_law_at"] ["_law_deck_here","_law_text_here"] (ah c8):=⟨rfl,rfl,rfl,by decide +kernel,rfl,by decide +kernel,by decide +kernel⟩
theorem fq:aS ["_law_text_here","_law_piece","_law_place","_law_k"] ["_law_text_here","_law_piece","_law_place"] (ah ek):=⟨rfl,rfl,rfl,by decide +kernel,rfl,by decide +kernel,by decide +kernel⟩
theorem cL:aS ["_law_piece","_law_found"] ["_law_piece"] (ah bV):=⟨rfl,rfl,rfl,by decide +kernel,rfl,by decide +kernel,by decide +kernel⟩
theorem jl:aS ["_law_found","_law_due"] ["_law_found","_law_due"] (ah eo):=⟨rfl,rfl,rfl,by decide +kernel,rfl,by decide +kernel,by decide +kernel⟩
theorem dO:aS ["_law_script","_law_deck_here","_law_text_here","_law_pieces_here","_law_piece","_law_here","_law_place","_law_told_here","_law_thing"] ["_law_script"] (ah nr):=⟨rfl,rfl,rfl,by decide +kernel,rfl,by decide +kernel,by decide +kernel⟩
structure Txt (mg:Str->Option Value):Prop where
 b_all:mg "all"=none
 b_bool:mg "bool"=none
 b_int:mg "int"=none
 b_isinstance:mg "isinstance"=none
 b_len:mg "len"=none
 b_list:mg "list"=none
 b_range:mg "range"=none
 b_reversed:mg "reversed"=none
 b_str:mg "str"=none
 b_tuple:mg "tuple"=none
 b_zip:mg "zip"=none
 g_MOST_SIGNS:∃t,mg "MOST_SIGNS"=some (.int 60 t)
local macro_rules | `(tactic| walk_at "s")=>`(tactic| first | (with_reducible omega) | (with_reducible assumption) | (with_reducible rfl) | exact Nat.le_of_ble_eq_true rfl | (simp only [List.length_cons,List.length_nil,List.length_append,List.length_map];(with_reducible omega)) | assumption | rfl | (refine ⟨?_,?_⟩ <;> first | (with_reducible omega) | (with_reducible assumption) | (with_reducible rfl) | exact Nat.le_of_ble_eq_true rfl | assumption | rfl | (refine ⟨?_,?_⟩ <;> first | (with_reducible omega) | (with_reducible assumption) | (with_reducible rfl) | exact Nat.le_of_ble_eq_true rfl | assumption | rfl | (refine ⟨?_,?_⟩ <;> first | (with_reducible omega) | (with_reducible assumption) | (with_reducible rfl) | exact Nat.le_of_ble_eq_true rfl | assumption | rfl | fail) | fail) | fail) | omega | fail)
local macro_rules | `(tactic| walk_at "r")=>`(tactic| ((try dsimp only [List.set_cons_zero,List.set_cons_succ,lV,lW,lX,sA,sB,iB,gi,gj,jU,jV,List.tail_cons,iC,iD,jW]);(conv=>whnf);(repeat (first | ((with_reducible refine And.intro ?_ ?_);(next=>walk_at "s");(conv=>whnf)) | ((with_reducible refine (show Exists _ from ?_));(first | (refine ⟨_,rfl,?_⟩) | (refine ⟨_,qp.lst _,?_⟩) | (refine ⟨_,qp.tup _,?_⟩));(conv=>whnf)) | ((refine (show eH _ _ _ from ?_));(first | (with_reducible refine vi (by assumption) ?_) | (with_reducible refine vj (by assumption) ?_) | (with_reducible refine tV (by assumption) ?_) | (with_reducible refine tW (by assumption) ?_) | ((with_reducible refine tT ?_ ?_);(next=>(first | (with_reducible rfl) | (with_reducible assumption) | (with_reducible omega)))) | ((with_reducible refine tU ?_ ?_);(next=>(first | (with_reducible rfl) | (with_reducible assumption) | (with_reducible omega)))) | ((with_reducible refine rL ?_ ?_);(next=>(first | (with_reducible rfl) | (with_reducible assumption) | (with_reducible omega)))) | ((with_reducible refine jJ ?_ ?_);(next=>(first | (with_reducible rfl) | (with_reducible assumption) | (with_reducible omega)))));(conv=>whnf))));(try refine (show eH _ _ _ from ?_));(try dsimp only [List.set_cons_zero,List.set_cons_succ,lV,lW,lX,sA,sB,iB,gi,gj,jU,jV,List.tail_cons,iC,iD,jW])))
def gk:Nat:=3
def bj:FN
 | [d,.int a,.int b],Q=>d.sort=true/\kq d<=1000000/\Q (.dat (.bl (mU d a b)))
 | _,_=>False
def eJ:Nat:=1
def eA (l:List Nat):List Nat:=l.map fun c=>if c=63 then 97 else c
def qt:D->Bool
 | .str l=>mU (.str (eA l)) 1 60
 | _=>false
theorem bZ {l:List Nat} (c:Nat) (hc:c∈l) (h:decide (97<=c/\c<=122)=false) (h63:decide (c=63)=false):qt (.str l)=false:=by
 show mU (.str (eA l)) 1 60=false
 rw [di]
 have hm:c∈eA l:=List.mem_map.mpr ⟨c,hc,if_neg (of_decide_eq_false h63)⟩
 have:(eA l).all ltB=false:=by
  cases e:(eA l).all ltB with
  | false=>rfl
  | true =>
   have z:=List.all_eq_true.mp e c hm
   unfold ltB at z
   rw [Bool.and_eq_true] at z
   exact absurd ⟨of_decide_eq_true z.1,of_decide_eq_true z.2⟩ (of_decide_eq_false h)
 rw [this,Bool.and_false]
theorem iH {l:List Nat} (h:60 < l.length):qt (.str l)=false:=by
 show mU (.str (eA l)) 1 60=false
 have:(eA l).length=l.length:=List.length_map _
 rw [di,this,decide_eq_false (show ¬ ((l.length:Int)<=60) by omega),Bool.and_false,Bool.false_and]
theorem nt {l:List Nat} (h0:0 < l.length) (h1:l.length<=60) (g:∀c∈l,(97<=c/\c<=122)\/c=63):qt (.str l)=true:=by
 show mU (.str (eA l)) 1 60=true
 have:(eA l).length=l.length:=List.length_map _
 rw [di,this,decide_eq_true (show (1:Int)<=l.length by omega),decide_eq_true (show (l.length:Int)<=60 by omega),Bool.and_self,Bool.true_and]
 refine List.all_eq_true.mpr fun c hc=>?_
 obtain ⟨x,hx,rfl⟩:=List.mem_map.mp hc
 unfold ltB
 by_cases e:x=63
 .rw [if_pos e];rfl
 .rw [if_neg e,Bool.and_eq_true]
  have:=(g x hx).resolve_right e
  exact ⟨decide_eq_true this.1,decide_eq_true this.2⟩
def aG:FN
 | [d],Q=>(d.sort=true/\kq d<=1000)/\Q (.dat (.bl (qt d)))
 | _,_=>False
def gm:Nat:=5
def nW (t g:List Nat) (n k:Nat):Prop:=g.getD k 0=63\/g.getD k 0=t.getD (n + k) 0
def dF (t g:List Nat) (p:Int):Bool:=decide ((0<=p/\p<=(t.length:Int) - (g.length:Int))/\∀k,k < g.length->(g.getD k 0=63\/g.getD k 0=t.getD (p.toNat + k) 0))
theorem jY {t g:List Nat}{n:Nat} (h1:(n:Int)<=(t.length:Int) - (g.length:Int)) (h2:∀k,k < g.length->nW t g n k):dF t g (n:Int)=true:=decide_eq_true ⟨⟨by omega,h1⟩,h2⟩
theorem l8 {t g:List Nat}{n k:Nat} (hk:k < g.length) (h:¬ nW t g n k):dF t g (n:Int)=false:=decide_eq_false fun z=>h (z.2 k hk)
theorem b6 {t g:List Nat}{p:Int} (h:¬ (0<=p/\p<=(t.length:Int) - (g.length:Int))):dF t g p=false:=decide_eq_false fun z=>h z.1
theorem nu {t:List Nat}{n m k:Nat} (h:k < m):((t.drop n).take m).getD k 0=t.getD (n + k) 0:=by
 rw [List.getD_eq_getElem?_getD,List.getD_eq_getElem?_getD,List.getElem?_take_of_lt h,List.getElem?_drop]
def aL:FN
 | [.str t,.str g,.int p],Q=>(t.length<=10000/\g.length<=10000)/\Q (.dat (.bl (dF t g p)))
 | _,_=>False
def cM:Nat:=2
def aw:FN
 | [.str t,.str g],Q=>(t.length<=10000/\g.length<=10000)/\Q (.dat (.tup (((List.range t.length).filter fun k:Nat=>dF t g (k:Int)).map nD)))
 | _,_=>False
def ft:Nat:=8
def Dk (zs:List Int):Prop:=∀x∈zs,0<=x/\x < 1000000000000000000
def aU:FN
 | [.scr ns,.int mo],Q=>(ns.length<=64/\0<=mo/\mo<=2000)/\∀zs:List Int,Dk zs->zs.length=mo.toNat->Q (.own (zs.map .int))
 | _,_=>False
def fu:Nat:=1
def au:FR
 | .own ds,[],Q=>∃zs:List Int,ds=zs.map .int/\(Dk zs/\0 < zs.length/\zs.length<=100000)/\∀(z:Int) (ys:List Int),0<=z->z < 1000000000000000000->Dk ys->ys.length + 1=zs.length->Q (.dat (.int z)) (.own (ys.map .int))
 | _,_,_=>False
def eM:Nat:=1
def aK:FN
 | [.int z],Q=>Q (.dat (.bl true))
 | _,_=>False
def du:Nat:=4
def ap:FN
 | [.int z,.str ls,.int mo],Q=>(0<=z/\0 < ls.length/\ls.length<=26/\0<=mo/\mo<=100)/\∀w:List Nat,(w.length:Int)<=mo->(∀c∈w,c∈ls)->(0 < z->0 < mo->0 < w.length)->Q (.dat (.str w))
 | _,_=>False
def fz:Nat:=3
def aY:FR
 | .own ds,[],Q=>∃zs:List Int,ds=zs.map .int/\(Dk zs/\3<=zs.length/\zs.length<=10000)/\∀(t:List Nat) (ys:List Int),t.length<=20->Lts t->Dk ys->ys.length + 3=zs.length->Q (.dat (.str t)) (.own (ys.map .int))
 | _,_,_=>False
def dP:Nat:=4
def Gc (w:List Nat):Prop:=∀c∈w,(97<=c/\c<=122)\/c=63
theorem Gc.nil:Gc []:=fun c hc=>nomatch hc
theorem Gc.app {a b:List Nat} (h:Gc a) (k:Gc b):Gc (a++b):=fun c hc=>(List.mem_append.mp hc).elim (h c) (k c)
theorem Gc.one {c:Nat} (h:(97<=c/\c<=122)\/c=63):Gc [c]:=fun d hd=>by rw [List.mem_singleton.mp hd];exact h
theorem Gc.take {a:List Nat} (h:Gc a) (n:Nat):Gc (a.take n):=fun c hc=>h c (List.mem_of_mem_take hc)
theorem Gc.of {a:List Nat} (h:Lts a):Gc a:=fun c hc=>.inl (h c hc)
theorem Gc.rep {a:List Nat} (h:Gc a) (z:Int):Gc (hG a z):=fun c hc=>by
 unfold hG at hc
 obtain ⟨l,hl,hc⟩:=List.mem_flatten.mp hc
 rw [(List.mem_replicate.mp hl).2] at hc
 exact h c hc
def aC:FN
 | [.str w,.int z],Q=>(Gc w/\w.length<=100)/\∀u:List Nat,u.length=w.length->Gc u->Q (.dat (.str u))
 | _,_=>False
def dQ:Nat:=6
def aN:FR
 | .own ds,[.str t],Q=>∃zs:List Int,ds=zs.map .int/\(Dk zs/\6<=zs.length/\zs.length<=10000)/\(t.length<=20/\Lts t)/\∀(ps:List (List Nat)) (ys:List Int),ps.length=14->(∀p∈ps,0 < p.length/\p.length<=60/\Gc p)->Dk ys->ys.length + 6=zs.length->Q (.dat (.lst (ps.map .str))) (.own (ys.map .int))
 | _,_,_=>False
def fA:Nat:=4
theorem pZ {t g:List Nat} (hg:0 < g.length):((List.range (t.length + 6)).filter fun k:Nat=>dF t g (-3 + (k:Int))).map (fun k:Nat=>D.int (-3 + (k:Int)))=((List.range t.length).filter fun k:Nat=>dF t g (k:Int)).map nD:=by
 rw [show t.length + 6=3 + (t.length + 3) by omega,List.range_add,List.range_add,List.map_append,List.filter_append,List.filter_append,List.map_append,List.map_append]
 have e1:(List.range 3).filter (fun k:Nat=>dF t g (-3 + (k:Int)))=[]:=List.filter_eq_nil_iff.mpr fun k hk z=>by
  have:=List.mem_range.mp hk
  rw [b6 (by omega)] at z
  cases z
 have e3:((((List.range 3).map (t.length + ·)).map (3 + ·))).filter (fun k:Nat=>dF t g (-3 + (k:Int)))=[]:=List.filter_eq_nil_iff.mpr fun k hk z=>by
  obtain ⟨a,ha,rfl⟩:=List.mem_map.mp hk
  obtain ⟨b,hb,rfl⟩:=List.mem_map.mp ha
  rw [b6 (by omega)] at z
  cases z
 rw [e1,e3,List.map_nil,List.append_nil,List.nil_append,List.filter_map,List.map_map]
 have e2:((fun k:Nat=>dF t g (-3 + (k:Int))) ∘ (3 + ·))=fun k:Nat=>dF t g (k:Int):=by
  funext k
  show dF t g (-3 + ((3 + k:Nat):Int))=_
  rw [show -3 + ((3 + k:Nat):Int)=(k:Int) by omega]
 rw [e2]
 refine List.map_congr_left fun k _=>?_
 show D.int (-3 + ((3 + k:Nat):Int))=D.int (k:Int)
 rw [show -3 + ((3 + k:Nat):Int)=(k:Int) by omega]
theorem l9 {z:Int} (h:z < 0):∀ks:List Nat,inD (.int z) (ks.map nD)=false
 | []=>rfl
 | a::r=>by
  have ih:=l9 h r
  unfold inD at ih ⊢
  rw [List.map_cons,List.any_cons,ih,Bool.or_false]
  show ((a:Int) == z)=false
  exact beq_eq_false_iff_ne.mpr (by omega)
theorem p6 {t g:List Nat} (hg:0 < g.length) (z:Int):inD (.int z) (((List.range t.length).filter fun k:Nat=>dF t g (k:Int)).map nD)=dF t g z:=by
 by_cases h:0<=z
 .obtain ⟨n,rfl⟩:∃n:Nat,z=(n:Int):=⟨z.toNat,by omega⟩
  rw [nS]
  cases e:dF t g (n:Int) with
  | false=>exact decide_eq_false fun m=>by have:=(List.mem_filter.mp m).2;rw [show dF t g (n:Int)=true from this] at e;cases e
  | true =>
   have:n < t.length:=Classical.byContradiction fun z=>by rw [b6 (by omega)] at e;cases e
   exact decide_eq_true (List.mem_filter.mpr ⟨List.mem_range.mpr this,e⟩)
 .rw [b6 (by omega)]
  exact l9 (by omega) _
def aR:FN
 | [.str t,.str g,.int p],Q=>(t.length<=10000/\g.length<=10000)/\Q (.dat (.bl (dF t g p)))
 | _,_=>False
def cN:Nat:=2
def ax:FN
 | [.str p],Q=>(0 < p.length/\p.length<=60/\Gc p)/\∀ds:List D,ds.length=18->(∀d∈ds,(d.sort=true/\kq d<=1000)/\qt d=false)->Q (.own ds)
 | _,_=>False
def fB:Nat:=2
def aV:FN
 | [.bl a,.bl b],Q=>Q (.dat (.bl (decide (a=b))))
 | _,_=>False
def nX:Nat:=9
abbrev jZ:FN:=uZ
def dk:PTS:=(aZ (lJ (pOr (o0 (pB (pf .str (pSl 0)))) (o0 (pB (jM fLe fLe (pSl 1) (pFz (pCB gO (af (pSl 0) ar))) (pSl 2))))) (bI (pC (.bl false))) cY) (bI (pCB ud (af (pFz (kl [none] (iy (cJ 0)) (aE 0) qg (jM fLe fLe (pFz (pC (.str [97]))) (pSl 0) (pFz (pC (.str [122])))))) ar))))
theorem jm (d:D) (a b:Int) (Q:PV->Prop) (h:bj ([d,.int a,.int b]) Q):eZ dk gk ([d,.int a,.int b]) Q:=by
 show dk _ [some (.dat (d)),some (.dat (.int a)),some (.dat (.int b))]
 obtain ⟨hd,hl,q⟩:=h
 cases d with
 | str l =>
  have hl:l.length<=1000000:=hl
  walk_at "r"
  refine gK (fun c1=>?_) (fun c1=>?_)
  .walk_at "r"
   refine gL (fun c2=>?_) (fun c2=>?_)
   .walk_at "r"
    rw [show mU (.str l) a b=false by rw [di,decide_eq_false c2,Bool.and_false];rfl] at q
    exact q
   .walk_at "r"
    refine vt (fun τ=>∃v,τ=[v]) (fun k=>.bl (ltB (l.getD k 0))) ?_ ?_ ?_
    .exact ⟨_,rfl⟩
    .rintro k τ _ hk rfl ⟨v,rfl⟩ K1 k1
     walk_at "r"
     refine gL (fun c=>?_) (fun c=>?_)
     .have hc:97<=l.getD k 0:=of_decide_eq_true (by rw [<- jf];rw [decide_eq_false c];rfl)
      walk_at "r"
      show K1 (.bl (!decide (([122]:List Nat) < [l.getD k 0]))) _
      rw [jf]
      rw [show ltB (l.getD k 0)=decide (l.getD k 0<=122) by unfold ltB;rw [decide_eq_true hc];rfl] at k1
      exact k1 _ ⟨_,rfl⟩
     .have hc:¬ 97<=l.getD k 0:=of_decide_eq_false (by rw [<- jf,decide_eq_true c];rfl)
      walk_at "r"
      rw [show ltB (l.getD k 0)=false by unfold ltB;rw [decide_eq_false hc];rfl] at k1
      exact k1 _ ⟨_,rfl⟩
    .rintro τ ⟨v,rfl⟩
     walk_at "r"
     refine ⟨(List.range l.length).map fun k=>ltB (l.getD k 0),by rw [List.map_map];rfl,?_⟩
     have e:mU (.str l) a b=(((List.range l.length).map fun k=>ltB (l.getD k 0)).all id):=by
      rw [di,decide_eq_true c1,decide_eq_true c2,Bool.and_self,Bool.true_and,je]
      rw [List.all_map];rfl
     rw [e] at q
     exact q
  .walk_at "r"
   rw [show mU (.str l) a b=false by rw [di,decide_eq_false c1,Bool.false_and];rfl] at q
   exact q
 | non=>walk_at "r";exact q
 | bl b=>walk_at "r";exact q
 | int i=>walk_at "r";exact q
 | ty n=>cases hd
 | lst ds=>walk_at "r";exact q
 | tup ds=>walk_at "r";exact q
 | scr ns=>cases hd
 | dic ks ds=>walk_at "r";exact q
 | obj c ns ds=>cases hd
 | exc c ns ds=>cases hd
theorem kv:∀ds Q,bj ds Q->eZ dk gk ds Q:=fun ds Q h=>by
 unfold bj at h
 split at h
 .exact jm _ _ _ _ h
 .exact h.elim
def b9:PTS:=(bI (mM (pf .str (pSl 0)) (nQ bj [] (af (pFz (pSM gW (cJ 0) (af (pFz (pC (.str [63]))) (af (pFz (pC (.str [97]))) ar)))) (af (pFz (pC (.int 1))) (af (pFz (pC (.int 60))) ar))))))
theorem gX (d:D) (Q:PV->Prop) (h:aG ([d]) Q):eZ b9 eJ ([d]) Q:=by
 show b9 _ [some (.dat (d))]
 obtain ⟨⟨hd,hl⟩,q⟩:=h
 cases d with
 | str l =>
  have hl:l.length<=1000:=hl
  have h1:(D.str (eA l)).sort=true:=rfl
  have h2:kq (.str (eA l))<=1000000:=by show (eA l).length<=1000000;unfold eA;rw [List.length_map];omega
  have h3:(63≠97/\l.length<=1000000):=⟨by decide,by omega⟩
  walk_at "r"
  exact q
 | non=>walk_at "r";exact q
 | bl b=>walk_at "r";exact q
 | int i=>walk_at "r";exact q
 | ty n=>cases hd
 | lst ds=>walk_at "r";exact q
 | tup ds=>walk_at "r";exact q
 | scr ns=>cases hd
 | dic ks ds=>walk_at "r";exact q
 | obj c ns ds=>cases hd
 | exc c ns ds=>cases hd
theorem iI:∀ds Q,aG ds Q->eZ b9 eJ ds Q:=fun ds Q h=>by
 unfold aG at h
 split at h
 .exact gX _ _ h
 .exact h.elim
def dn:PTS:=(aZ (lJ (o0 (pB (jM fLe fLe (pFz (pC (.int 0))) (pSl 2) (pFz (pOp vp (pFz (pCB gO (af (pSl 0) ar))) (pFz (pCB gO (af (pSl 1) ar)))))))) (bI (pC (.bl false))) cY) (aZ (gQ (nR (af (pFz (ff (pSl 0) (dt (cJ 2)) (dt (pOp bt (pSl 2) (pFz (pCB gO (af (pSl 1) ar))))))) (af (pFz (cJ 1)) ar))) (pO 2 (jO (aE 3) (jO (aE 4) pq))) (lJ (sR (pB (pOp mZ (pSl 4) (pFz (pC (.str [63]))))) (pB (pOp mZ (pSl 4) (pSl 3)))) (bI (pC (.bl false))) cY)) (bI (pC (.bl true)))))
theorem jn (t g:List Nat) (p:Int) (Q:PV->Prop) (h:aL ([.str t,.str g,.int p]) Q):eZ dn gm ([.str t,.str g,.int p]) Q:=by
 show dn _ [some (.dat (.str t)),some (.dat (.str g)),some (.dat (.int p)),none,none]
 obtain ⟨⟨ht,hg⟩,q⟩:=h
 walk_at "r"
 refine gK (fun c1=>?_) (fun c1=>?_)
 .walk_at "r"
  refine gL (fun c2=>?_) (fun c2=>?_)
  .walk_at "r"
   rw [b6 (by omega)] at q
   exact q
  .obtain ⟨n,rfl⟩:∃n:Nat,p=(n:Int):=⟨p.toNat,by omega⟩
   have e1:dr t (some (n:Int)) (some ((n:Int) + (g.length:Int)))=(t.drop n).take g.length:=by
    rw [show (n:Int) + (g.length:Int)=((n + g.length:Nat):Int) by omega,lf,Nat.add_sub_cancel_left]
   have l1:((t.drop n).take g.length).length=g.length:=by rw [List.length_take,List.length_drop];omega
   walk_at "r"
   rw [e1]
   refine ⟨fun k ρ=>(∃v3 v4:Option PV,ρ=[some (.dat (.str t)),some (.dat (.str g)),some (.dat (.int (n:Int))),v3,v4])/\∀j,j < k->nW t g n j,⟨⟨_,_,rfl⟩,fun j hj=>absurd hj (Nat.not_lt_zero _)⟩,?_,?_⟩
   .rintro k ρ _ hk rfl ⟨⟨v3,v4,rfl⟩,ih⟩
    rw [l1,Nat.min_self] at hk
    rw [nu hk]
    have stp:nW t g n k->∀j,j < k + 1->nW t g n j:=fun z j hj=>by
     by_cases e:j=k
     .rw [e];exact z
     .exact ih j (by omega)
    walk_at "r"
    refine gL (fun c3=>?_) (fun c3=>?_)
    .walk_at "r"
     refine gL (fun c4=>?_) (fun c4=>?_)
     .walk_at "r"
      rw [l8 hk (fun z=>z.elim (fun z=>c3 (by rw [z])) (fun z=>c4 (by rw [z])))] at q
      exact q
     .exact ⟨⟨_,_,rfl⟩,stp (.inr (List.singleton_inj.mp c4))⟩
    .exact ⟨⟨_,_,rfl⟩,stp (.inl (List.singleton_inj.mp c3))⟩
   .rintro ρ ⟨⟨v3,v4,rfl⟩,ih⟩
    rw [l1,Nat.min_self] at ih
    walk_at "r"
    rw [jY c2 ih] at q
    exact q
 .walk_at "r"
  rw [b6 (by omega)] at q
  exact q
theorem kx:∀ds Q,aL ds Q->eZ dn gm ds Q:=fun ds Q h=>by
 unfold aL at h
 split at h
 .exact jn _ _ _ _ h
 .exact h.elim
def bp:PTS:=(bI (pCB lM (af (pFz (kl [none,some 0,some 1] (r0 (af (pFz (pCB gO (af (pSl 0) ar))) ar)) (aE 0) (pB (bT aL (af (pFz (cJ 1)) (af (pFz (cJ 2)) (af (pFz (cJ 0)) ar))))) (cJ 0))) ar)))
theorem eB (t g:List Nat) (Q:PV->Prop) (h:aw ([.str t,.str g]) Q):eZ bp cM ([.str t,.str g]) Q:=by
 show bp _ [some (.dat (.str t)),some (.dat (.str g))]
 obtain ⟨⟨ht,hg⟩,q⟩:=h
 have b:t.length<=10000/\g.length<=10000:=⟨ht,hg⟩
 walk_at "r"
 rw [Int.toNat_natCast]
 refine cfR (fun k:Nat=>dF t g (k:Int)) nD (fun k hk v K1 K2 k1 k2=>?_) (fun v=>?_)
 .walk_at "r"
  cases e:dF t g (k:Int)
  .exact k2 _ e
  .walk_at "r"
   exact k1 _ e
 .walk_at "r"
  exact q
theorem eU:∀ds Q,aw ds Q->eZ bp cM ds Q:=fun ds Q h=>by
 unfold aw at h
 split at h
 .exact eB _ _ _ h
 .exact h.elim
def cD:PTS:=(aZ (bO (pOp bt (pFz (pCB mQ (af (pSl 0) ar))) (pFz (pOp jL (pFz (jK (af (pFz (pC (.int 0))) ar))) (pFz (pCB lT (af (pFz (pOp su (pFz (pCB gO (af (pSl 0) ar))) (pFz (pC (.int 0))))) ar)))))) (aE 2)) (aZ (bO (kl [none] (iy (cJ 2)) (aE 0) qg (pOp jL (pSl 0) (pFz (pCB lT (af (pFz (pOp fGe (pSl 0) (pFz (pOp qm (pFz (pC (.int 10))) (pFz (pC (.int 18))))))) ar))))) (aE 3)) (aZ (bO (jK ar) (aE 4)) (aZ (gQ (r0 (af (pFz (cJ 1)) ar)) (aE 5) (aZ (bO (pOp jT (pSl 5) (pFz (pCB gO (af (pSl 2) ar)))) (aE 6)) (aZ (bO (pOp bt (pFz (pOp jL (pFz (pOp jT (pFz (pOp bt (pFz (pOp bt (pFz (pOp fIx (pSl 2) (pSl 6))) (pFz (pOp jL (pFz (pOp jL (pSl 5) (pSl 5))) (pFz (pC (.int 16807))))))) (pFz (pOp jL (pFz (pC (.int 3))) (pSl 5))))) (pFz (pC (.int 2147483629))))) (pFz (pOp fIx (pFz (jK (af (pFz (pC (.int 48271))) (af (pFz (pC (.int 69621))) (af (pFz (pC (.int 39373))) (af (pFz (pC (.int 16807))) ar)))))) (pFz (pOp jT (pSl 5) (pFz (pC (.int 4))))))))) (pFz (pC (.int 7)))) (aE 7)) (aZ (iw (qi 4 (pOp fIx (pFz (jK (af (pFz (pOp jT (pFz (pOp jL (pSl 7) (pSl 7))) (pFz (pC (.int 2147483629))))) (af (pFz (pOp jT (pFz (pOp fIx (pSl 3) (pSl 6))) (pFz (pOp qm (pFz (pC (.int 10))) (pFz (pC (.int 18))))))) ar)))) (pFz (pCB lT (af (pFz (pOp mZ (pFz (pOp fIx (pSl 3) (pSl 6))) (pFz (pC (.int 0))))) ar)))))) (nN 3 (pOp sG (pFz (pOp fIx (pSl 3) (pSl 6))) (pFz (pOp qm (pFz (pC (.int 10))) (pFz (pC (.int 18)))))) (cJ 6)))))) (bI (jR (pSl 4)))))))
theorem iJ (ns:List Int) (mo:Int) (Q:PV->Prop) (h:aU ([.scr ns,.int mo]) Q):eZ cD ft ([.scr ns,.int mo]) Q:=by
 show cD _ [some (.dat (.scr ns)),some (.dat (.int mo)),none,none,none,none,none,none]
 obtain ⟨⟨hn,h0,h1⟩,q⟩:=h
 have hnm:(ns.map D.int).length=ns.length:=List.length_map _
 walk_at "r"
 obtain ⟨cs,hcs,hc0,hc1⟩:∃cs:List Int,ns.map D.int++hG [D.int 0] (if decide ((ns.length:Int)=0)=true then 1 else 0)=cs.map D.int/\0 < cs.length/\cs.length<=65:=by
  by_cases e:ns.length=0
  .refine ⟨[0],?_,by decide,by decide⟩
   rw [if_pos (decide_eq_true (by omega)),List.length_eq_zero_iff.mp e];rfl
  .refine ⟨ns,?_,by omega,by omega⟩
   rw [if_neg (fun z=>e (by have:=of_decide_eq_true z;omega))]
   exact List.append_nil _
 have hcm:(cs.map D.int).length=cs.length:=List.length_map _
 rw [<- List.length_append,hcs,hcm]
 refine ⟨by omega,?_⟩
 walk_at "r"
 refine cm1 (fun c:Int=>.int (c * (if decide (c >= 10 ^ 18)=true then 1 else 0))) (fun c hc v K1 k1=>?_) (fun v=>?_)
 .walk_at "r"
  exact k1 _
 .walk_at "r"
  have e3:cs.map (fun c=>D.int (c * if decide (c >= 10 ^ 18)=true then 1 else 0))=(cs.map fun c=>c * if decide (c >= 10 ^ 18)=true then 1 else 0).map D.int:=by rw [List.map_map];rfl
  rw [e3]
  generalize hrs:(cs.map fun c=>c * if decide (c >= 10 ^ 18)=true then 1 else 0)=rs
  have hrl:rs.length=cs.length:=by rw [<- hrs,List.length_map]
  clear hrs e3
  refine ⟨fun k ρ=>∃(rs zs:List Int) (v5 v6 v7:Option PV),rs.length=cs.length/\Dk zs/\zs.length=k/\ρ=[some (.dat (.scr ns)),some (.dat (.int mo)),some (.dat (.lst (cs.map .int))),some (.own (rs.map .int)),some (.own (zs.map .int)),v5,v6,v7],⟨rs,[],_,_,_,hrl,(fun x hx=>nomatch hx),rfl,rfl⟩,?_,?_⟩
  .rintro k ρ _ hk rfl ⟨rs,zs,v5,v6,v7,hrl,hz,hzl,rfl⟩
   have hk:k < mo.toNat:=hk
   have hrm:(rs.map D.int).length=rs.length:=List.length_map _
   have hzm:(zs.map D.int).length=zs.length:=List.length_map _
   obtain ⟨j,hj⟩:∃j:Nat,(k:Int) % (cs.length:Int)=(j:Int):=⟨((k:Int) % (cs.length:Int)).toNat,by have:=Int.emod_nonneg (k:Int) (show (cs.length:Int)≠0 by omega);omega⟩
   have hj2:j < cs.length:=by have:=Int.emod_lt_of_pos (k:Int) (show 0 < (cs.length:Int) by omega);omega
   obtain ⟨i,hi,hi2⟩:∃i:Nat,(k:Int) % 4=(i:Int)/\i < 4:=⟨((k:Int) % 4).toNat,by omega,by omega⟩
   obtain ⟨f,ef,hf0,hf1⟩:∃f:Int,atI ([.int 48271,.int 69621,.int 39373,.int 16807]:List D) (i:Int)=some (.int f)/\0<=f/\f<=69621:=by
    rcases i with _ | _ | _ | _ | i
    .exact ⟨_,rfl,by decide,by decide⟩
    .exact ⟨_,rfl,by decide,by decide⟩
    .exact ⟨_,rfl,by decide,by decide⟩
    .exact ⟨_,rfl,by decide,by decide⟩
    .omega
   have ec:atI (cs.map D.int) (j:Int)=some (.int cs[j]):=fb (j:=j) (by rw [List.getElem?_map,List.getElem?_eq_getElem hj2];rfl) rfl
   have er:atI (rs.map D.int) (j:Int)=some (.int (rs[j]'(by omega))):=fb (j:=j) (by rw [List.getElem?_map,List.getElem?_eq_getElem (by omega)];rfl) rfl
   generalize rs[j]'(by omega)=r at er
   walk_at "r"
   rw [hcm,hj]
   walk_at "r"
   refine ⟨_,ec,?_⟩
   walk_at "r"
   rw [hi]
   refine ⟨_,ef,?_⟩
   have hb:∀a:Int,0<=a % 2147483629 * f + 7/\a % 2147483629 * f + 7<=2147483629 * 69621 + 7:=fun a=>⟨by have:=Int.mul_nonneg (Int.emod_nonneg a (show (2147483629:Int)≠0 by decide)) hf0;omega,by have:=Int.mul_le_mul (Int.le_of_lt (Int.emod_lt_of_pos a (show (0:Int) < 2147483629 by decide))) hf1 hf0 (by decide);omega⟩
   have hb:=hb (cs[j] + (k:Int) * (k:Int) * 16807 + 3 * (k:Int))
   have p18:(0:Int) < 10 ^ Int.toNat 18:=by decide
   have p18b:(10:Int) ^ Int.toNat 18 < 18446744073709551616:=by decide
   have q18:((10:Int) ^ Int.toNat 18)=1000000000000000000:=by decide
   walk_at "r"
   generalize (cs[j] + (k:Int) * (k:Int) * 16807 + 3 * (k:Int)) % 2147483629 * f + 7=x at hb
   refine ⟨_,er,?_⟩
   walk_at "r"
   refine ⟨_,er,?_⟩
   walk_at "r"
   have fin:∀z:Int,0<=z->z < 1000000000000000000->∃(rs' zs':List Int) (v5 v6 v7:Option PV),rs'.length=cs.length/\Dk zs'/\zs'.length=k + 1/\[some (.dat (.scr ns)),some (.dat (.int mo)),some (.dat (.lst (cs.map .int))),some (.own ((rs.map D.int).set j (.int (r / 10 ^ Int.toNat 18)))),some (.own (zs.map D.int++[.int z])),some (.dat (.int (k:Int))),some (.dat (.int (j:Int))),some (.dat (.int x))]=[some (PV.dat (.scr ns)),some (.dat (.int mo)),some (.dat (.lst (cs.map .int))),some (.own (rs'.map .int)),some (.own (zs'.map .int)),v5,v6,v7]:=fun z hz0 hz1=>by
    refine ⟨rs.set j (r / 10 ^ Int.toNat 18),zs++[z],_,_,_,by rw [List.length_set];exact hrl,fun y hy=>?_,by rw [List.length_append,hzl];rfl,by rw [List.map_set,List.map_append];rfl⟩
    rcases List.mem_append.mp hy with w | w
    .exact hz y w
    .rw [List.mem_singleton.mp w];exact ⟨hz0,hz1⟩
   obtain ⟨z,ez,hz0,hz1⟩:∃z:Int,atI ([.int (x * x % 2147483629),.int (r % 10 ^ Int.toNat 18)]:List D) (if (!decide (r=0))=true then 1 else 0)=some (.int z)/\0<=z/\z < 1000000000000000000:=by
    by_cases e:r=0
    .rw [decide_eq_true e]
     exact ⟨x * x % 2147483629,rfl,Int.emod_nonneg _ (by decide),Int.lt_trans (Int.emod_lt_of_pos _ (by decide)) (by decide)⟩
    .rw [decide_eq_false e]
     exact ⟨r % 10 ^ Int.toNat 18,rfl,Int.emod_nonneg _ (by decide),Int.lt_of_lt_of_le (Int.emod_lt_of_pos _ p18) (by rw [q18];decide)⟩
   refine ⟨_,ez,?_⟩
   walk_at "r"
   refine ⟨_,er,?_⟩
   walk_at "r"
   refine ⟨j,?_,fin z hz0 hz1⟩
   rw [hrm,hrl]
   exact vv hj2
  .rintro ρ ⟨rs,zs,v5,v6,v7,hrl,hz,hzl,rfl⟩
   walk_at "r"
   rw [<- List.map_reverse]
   exact q _ (fun x hx=>hz x (List.mem_reverse.mp hx)) (by rw [List.length_reverse];exact hzl)
theorem jo:∀ds Q,aU ds Q->eZ cD ft ds Q:=fun ds Q h=>by
 unfold aU at h
 split at h
 .exact iJ _ _ _ h
 .exact h.elim
def cE:PTS:=(bI (ub 0))
theorem iK (ds:List D) (Q:PV->PV->Prop) (h:au (.own ds) ([]) Q):qo cE fu (.own ds) ([]) Q:=by
 show cE _ [some (.own ds)]
 obtain ⟨zs,rfl,⟨hz,h0,h1⟩,q⟩:=h
 obtain ⟨ys,z,rfl⟩:∃ys z,zs=ys++[z]:=⟨zs.dropLast,zs.getLast (List.ne_nil_of_length_pos h0),(List.dropLast_concat_getLast _).symm⟩
 have hm:((ys++[z]).map D.int)=ys.map D.int++[D.int z]:=by rw [List.map_append];rfl
 have hl:(ys.map D.int++[D.int z]).length - 1=(ys.map D.int).length:=by rw [List.length_append];rfl
 rw [hm]
 walk_at "r"
 refine ⟨.int z,by rw [hl,List.getElem?_append_right (Nat.le_refl _),Nat.sub_self];rfl,?_⟩
 walk_at "r"
 rw [List.dropLast_concat]
 have hzz:=hz z (List.mem_append_right _ (List.mem_singleton.mpr rfl))
 exact q z ys hzz.1 hzz.2 (fun x hx=>hz x (List.mem_append_left _ hx)) (by rw [List.length_append];rfl)
theorem jp:∀p ds Q,p.isOwn=true->au p ds Q->qo cE fu p ds Q:=fun p ds Q _ h=>by
 unfold au at h
 split at h
 .exact iK _ _ h
 .exact h.elim
def ca:PTS:=(bI (mM (pf .int (pSl 0)) (rO (pf .bool (pSl 0)))))
theorem gY (z:Int) (Q:PV->Prop) (h:aK ([.int z]) Q):eZ ca eM ([.int z]) Q:=by
 show ca _ [some (.dat (.int z))]
 walk_at "r"
 exact h
theorem iL:∀ds Q,aK ds Q->eZ ca eM ds Q:=fun ds Q h=>by
 unfold aK at h
 split at h
 .exact gY _ _ h
 .exact h.elim
def bF:PTS:=(aZ (bO (pC (.str [])) (aE 3)) (aZ (lL (sR (pB (pOp fGt (pSl 0) (pFz (pC (.int 0))))) (pB (pOp fLt (pFz (pCB gO (af (pSl 3) ar))) (pSl 2)))) (aZ (bO (pOp bt (pSl 3) (pFz (pOp fIx (pSl 1) (pFz (pOp jT (pSl 0) (pFz (pCB gO (af (pSl 1) ar)))))))) (aE 3)) (bO (pOp ql (pSl 0) (pFz (pCB gO (af (pSl 1) ar)))) (aE 0)))) (bI (cJ 3))))
theorem fC (z:Int) (ls:List Nat) (mo:Int) (Q:PV->Prop) (h:ap ([.int z,.str ls,.int mo]) Q):eZ bF du ([.int z,.str ls,.int mo]) Q:=by
 show bF _ [some (.dat (.int z)),some (.dat (.str ls)),some (.dat (.int mo)),none]
 obtain ⟨⟨hz,hl0,hl1,hm0,hm1⟩,q⟩:=h
 walk_at "r"
 refine ⟨fun m ρ=>∃(w:List Nat) (r:Int),(w.length:Int)<=mo/\(∀c∈w,c∈ls)/\0<=r/\(0 < w.length\/r=z)/\m=mo.toNat - w.length/\ρ=[some (.dat (.int r)),some (.dat (.str ls)),some (.dat (.int mo)),some (.dat (.str w))],⟨_,[],z,hm0,(fun c hc=>nomatch hc),hz,.inr rfl,rfl,rfl⟩,?_⟩
 rintro m ρ ⟨w,r,hw,hc,hr,hp,hm,rfl⟩
 walk_at "r"
 refine gK (fun c1=>?_) (fun c1=>?_)
 .walk_at "r"
  refine gK (fun c2=>?_) (fun c2=>?_)
  .obtain ⟨j,hj⟩:∃j:Nat,r % (ls.length:Int)=(j:Int):=⟨(r % (ls.length:Int)).toNat,by have:=Int.emod_nonneg r (show (ls.length:Int)≠0 by omega);omega⟩
   have hj2:j < ls.length:=by have:=Int.emod_lt_of_pos r (show 0 < (ls.length:Int) by omega);omega
   have hdv:0<=r / (ls.length:Int):=Int.ediv_nonneg hr (by omega)
   walk_at "r"
   rw [hj]
   refine ⟨_,fb (j:=j) (List.getElem?_eq_getElem hj2) rfl,?_⟩
   walk_at "r"
   refine ⟨_,?_,w++[ls[j]],r / (ls.length:Int),?_,fun c hx=>?_,hdv,.inl ?_,rfl,rfl⟩
   .rw [List.length_append];show mo.toNat - (w.length + 1) < m;omega
   .rw [List.length_append];show ((w.length + 1:Nat):Int)<=mo;omega
   .rcases List.mem_append.mp hx with x | x
    .exact hc c x
    .rw [List.mem_singleton.mp x];exact List.getElem_mem hj2
   .rw [List.length_append];exact Nat.succ_pos _
  .walk_at "r"
   exact q w hw hc (fun a b=>by omega)
 .walk_at "r"
  exact q w hw hc (fun a b=>by omega)
theorem fP:∀ds Q,ap ds Q->eZ bF du ds Q:=fun ds Q h=>by
 unfold ap at h
 split at h
 .exact fC _ _ _ _ h
 .exact h.elim
def cF:PTS:=(aZ (bO (pOp fIx (pFz (jK (af (pFz (pC (.int 0))) (af (pFz (pC (.int 1))) (af (pFz (pC (.int 2))) (af (pFz (pC (.int 5))) (af (pFz (pC (.int 9))) (af (pFz (pC (.int 14))) (af (pFz (pC (.int 20))) ar))))))))) (pFz (pOp jT (pFz (c5 au 0 ar)) (pFz (pC (.int 7)))))) (aE 1)) (aZ (bO (pOp fIx (pFz (jK (af (pFz (pC (.str [97,98]))) (af (pFz (pC (.str [97,122]))) (af (pFz (pC (.str [97,97,98]))) ar))))) (pFz (pOp jT (pFz (c5 au 0 ar)) (pFz (pC (.int 3)))))) (aE 2)) (bI (ff (pFz (pOp jL (pFz (bT ap (af (pFz (pOp bt (pFz (c5 au 0 ar)) (pFz (pOp qm (pFz (pC (.int 10))) (pFz (pC (.int 9))))))) (af (pFz (cJ 2)) (af (pFz (pC (.int 9))) ar))))) (pFz (pC (.int 3))))) jN (dt (cJ 1))))))
theorem iM (ds:List D) (Q:PV->PV->Prop) (h:aY (.own ds) ([]) Q):qo cF fz (.own ds) ([]) Q:=by
 show cF _ [some (.own ds),none,none]
 obtain ⟨zs,rfl,⟨hz,h3,h1⟩,q⟩:=h
 have g0:Dk zs/\0 < zs.length/\zs.length<=100000:=⟨hz,by omega,by omega⟩
 walk_at "r"
 rintro n1 y1 ha0 ha1 hd1 hy1
 have g1:Dk y1/\0 < y1.length/\y1.length<=100000:=⟨hd1,by omega,by omega⟩
 obtain ⟨j,hj,hj2⟩:∃j:Nat,n1 % 7=(j:Int)/\j < 7:=⟨(n1 % 7).toNat,by omega,by omega⟩
 walk_at "r"
 rw [hj]
 obtain ⟨m,em,hm⟩:∃m:Nat,atI ([.int 0,.int 1,.int 2,.int 5,.int 9,.int 14,.int 20]:List D) (j:Int)=some (.int (m:Int))/\m<=20:=by
  rcases j with _ | _ | _ | _ | _ | _ | _ | j
  .exact ⟨0,rfl,by decide⟩
  .exact ⟨1,rfl,by decide⟩
  .exact ⟨2,rfl,by decide⟩
  .exact ⟨5,rfl,by decide⟩
  .exact ⟨9,rfl,by decide⟩
  .exact ⟨14,rfl,by decide⟩
  .exact ⟨20,rfl,by decide⟩
  .omega
 refine ⟨_,em,?_⟩
 walk_at "r"
 rintro n2 y2 hb0 hb1 hd2 hy2
 have g2:Dk y2/\0 < y2.length/\y2.length<=100000:=⟨hd2,by omega,by omega⟩
 obtain ⟨i,hi,hi2⟩:∃i:Nat,n2 % 3=(i:Int)/\i < 3:=⟨(n2 % 3).toNat,by omega,by omega⟩
 walk_at "r"
 rw [hi]
 obtain ⟨ls,el,hl0,hl1,hlL⟩:∃ls:List Nat,atI ([.str [97,98],.str [97,122],.str [97,97,98]]:List D) (i:Int)=some (.str ls)/\0 < ls.length/\ls.length<=26/\Lts ls:=by
  have d:∀l∈[[97,98],[97,122],[97,97,98]],∀c∈l,97<=c/\c<=122:=by decide
  rcases i with _ | _ | _ | i
  .exact ⟨_,rfl,by decide,by decide,d _ (by decide)⟩
  .exact ⟨_,rfl,by decide,by decide,d _ (by decide)⟩
  .exact ⟨_,rfl,by decide,by decide,d _ (by decide)⟩
  .omega
 refine ⟨_,el,?_⟩
 walk_at "r"
 rintro n3 y3 hc0 hc1 hd3 hy3
 have p9:((10:Int) ^ (9:Nat))=1000000000:=by decide
 have gs:0<=n3 + 10 ^ 9/\0 < ls.length/\ls.length<=26/\(0:Int)<=9/\(9:Int)<=100:=⟨by omega,hl0,hl1,by decide,by decide⟩
 walk_at "r"
 rintro w hw hwc _
 have wL:Lts w:=fun c hc=>hlL c (hwc c hc)
 have r1:=bC w 3
 have n3':(3:Int).toNat=3:=rfl
 rw [n3'] at r1
 have w3:(-1000000:Int)<=3/\(3:Int)<=1000000/\Int.toNat 3 * w.length<=1000000:=⟨by decide,by decide,by show 3 * w.length<=1000000;omega⟩
 walk_at "r"
 rw [k9]
 exact q _ y3 (by rw [List.length_take];omega) ((wL.rep _).take _) hd3 (by omega)
theorem jq:∀p ds Q,p.isOwn=true->aY p ds Q->qo cF fz p ds Q:=fun p ds Q _ h=>by
 unfold aY at h
 split at h
 .exact iM _ _ h
 .exact h.elim
def bQ:PTS:=(aZ (bO (pC (.str [])) (aE 2)) (aZ (gQ (iy (cJ 0)) (aE 3) (aZ (nL (lJ (pB (pOp su (pFz (pOp jT (pSl 1) (pFz (pC (.int 4))))) (pFz (pC (.int 0))))) (bO (pC (.str [63])) (aE 3)) cY)) (aZ (bO (pOp ql (pSl 1) (pFz (pC (.int 4)))) (aE 1)) (bO (pOp bt (pSl 2) (pSl 3)) (aE 2))))) (bI (cJ 2))))
theorem fQ (w:List Nat) (z:Int) (Q:PV->Prop) (h:aC ([.str w,.int z]) Q):eZ bQ dP ([.str w,.int z]) Q:=by
 show bQ _ [some (.dat (.str w)),some (.dat (.int z)),none,none]
 obtain ⟨⟨hw,hl⟩,q⟩:=h
 walk_at "r"
 refine ⟨fun k ρ=>∃(u:List Nat) (r:Int) (v3:Option PV),u.length=k/\Gc u/\ρ=[some (.dat (.str w)),some (.dat (.int r)),some (.dat (.str u)),v3],⟨[],z,_,rfl,Gc.nil,rfl⟩,?_,?_⟩
 .rintro k ρ d hk ed ⟨u,r,v3,hu,hg,rfl⟩
  subst ed
  have hk:k < w.length:=hk
  have hc:(97<=w.getD k 0/\w.getD k 0<=122)\/w.getD k 0=63:=by
   rw [List.getD_eq_getElem?_getD,List.getElem?_eq_getElem hk];exact hw _ (List.getElem_mem hk)
  walk_at "r"
  refine ⟨fun ρ=>∃c:Nat,((97<=c/\c<=122)\/c=63)/\ρ=[some (.dat (.str w)),some (.dat (.int r)),some (.dat (.str u)),some (.dat (.str [c]))],?_,?_⟩
  .walk_at "r"
   refine gK (fun c1=>?_) (fun c1=>?_)
   .walk_at "r"
    exact ⟨63,.inr rfl,rfl⟩
   .exact ⟨_,hc,rfl⟩
  .rintro ρ ⟨c,hc,rfl⟩
   walk_at "r"
   exact ⟨u++[c],_,_,by rw [List.length_append,hu];rfl,hg.app (Gc.one hc),rfl⟩
 .rintro ρ ⟨u,r,v3,hu,hg,rfl⟩
  walk_at "r"
  exact q u hu hg
theorem gZ:∀ds Q,aC ds Q->eZ bQ dP ds Q:=fun ds Q h=>by
 unfold aC at h
 split at h
 .exact fQ _ _ _ h
 .exact h.elim
def bR:PTS:=(aZ (bO (jK (af (pFz (pC (.str [63]))) (af (pFz (pOp jL (pFz (pC (.str [63]))) (pFz (pOp bt (pFz (pC (.int 1))) (pFz (pOp jT (pFz (c5 au 0 ar)) (pFz (pC (.int 60))))))))) (af (pFz (pOp jL (pFz (pC (.str [97]))) (pFz (pC (.int 60))))) (af (pFz (pOp bt (pSl 1) (pFz (pC (.str [63]))))) (af (pFz (ff (pFz (pOp bt (pFz (pC (.str [63]))) (pSl 1))) jN (dt (pC (.int 60))))) ar)))))) (aE 2)) (aZ (gQ (r0 (af (pFz (pC (.int 4))) ar)) (aE 3) (aZ (bO (c5 au 0 ar) (aE 4)) (aZ (bO (pOp jT (pSl 4) (pFz (pOp bt (pFz (pCB gO (af (pSl 1) ar))) (pFz (pC (.int 1)))))) (aE 5)) (aZ (iw (qi 2 (bT aC (af (pFz (pOp bt (pFz (ff (pSl 1) (dt (cJ 5)) (dt (pOp bt (pFz (pOp bt (pSl 5) (pFz (pC (.int 1))))) (pFz (pOp jT (pFz (pOp ql (pSl 4) (pFz (pC (.int 21))))) (pFz (pC (.int 6))))))))) (pFz (pC (.str [63]))))) (af (pFz (pOp ql (pSl 4) (pFz (pC (.int 126))))) ar))))) (iw (qi 2 (bT aC (af (pFz (pOp bt (pFz (ff (pSl 1) (dt (cJ 5)) (dt (pOp bt (pFz (pOp bt (pSl 5) (pFz (pC (.int 1))))) (pFz (pOp jT (pFz (pOp ql (pSl 4) (pFz (pC (.int 21))))) (pFz (pC (.int 6))))))))) (pFz (pC (.str [97]))))) (af (pFz (pOp ql (pSl 4) (pFz (pC (.int 126))))) ar))))))))) (aZ (iw (qi 2 (bT ap (af (pFz (pOp bt (pFz (c5 au 0 ar)) (pFz (pC (.int 1))))) (af (pFz (pC (.str [97,63,98,122]))) (af (pFz (pC (.int 5))) ar)))))) (bI (cJ 2)))))
theorem fR (ds:List D) (t:List Nat) (Q:PV->PV->Prop) (h:aN (.own ds) ([.str t]) Q):qo bR dQ (.own ds) ([.str t]) Q:=by
 show bR _ [some (.own ds),some (.dat (.str t)),none,none,none,none]
 obtain ⟨zs,rfl,⟨hz,h3,h1⟩,⟨ht,htL⟩,q⟩:=h
 have g0:Dk zs/\0 < zs.length/\zs.length<=100000:=⟨hz,by omega,by omega⟩
 walk_at "r"
 rintro n1 y1 ha0 ha1 hd1 hy1
 have lc:[63].length=1:=rfl
 have la:[97].length=1:=rfl
 have w1:(-1000000:Int)<=1 + n1 % 60/\1 + n1 % 60<=1000000/\(1 + n1 % 60).toNat * [63].length<=1000000:=⟨by omega,by omega,by rw [lc];omega⟩
 have w2:(-1000000:Int)<=60/\(60:Int)<=1000000/\Int.toNat 60 * [97].length<=1000000:=⟨by decide,by decide,by decide⟩
 walk_at "r"
 have r1:=bC [63] (1 + n1 % 60)
 have r2:=bC [97] 60
 rw [lc,Nat.mul_one] at r1
 rw [la,Nat.mul_one,show (60:Int).toNat=60 from rfl] at r2
 have tg:Gc t:=Gc.of htL
 have gq:Gc [63]:=Gc.one (.inr rfl)
 have gA:Gc [97]:=Gc.one (.inl ⟨by decide,by decide⟩)
 have e5:dr ([63]++t) none (some 60)=([63]++t).take 60:=k9 ([63]++t) 60
 rw [e5]
 have fst:([.str [63],.str (hG [63] (1 + n1 % 60)),.str (hG [97] 60),.str (t++[63]),.str (([63]++t).take 60)]:List D)=[[63],hG [63] (1 + n1 % 60),hG [97] 60,t++[63],([63]++t).take 60].map .str:=rfl
 rw [fst]
 have app:∀(us:List (List Nat)) (u:List Nat),us.map D.str++[D.str u]=(us++[u]).map D.str:=fun us u=>by rw [List.map_append];rfl
 have ok1:∀(us:List (List Nat)) (u:List Nat),(∀p∈us,0 < p.length/\p.length<=60/\Gc p)->(0 < u.length/\u.length<=60/\Gc u)->∀p∈us++[u],0 < p.length/\p.length<=60/\Gc p:=fun us u h k p hp=>(List.mem_append.mp hp).elim (h p) fun z=>by rw [List.mem_singleton.mp z];exact k
 refine ⟨fun k ρ=>∃(ps:List (List Nat)) (ys:List Int) (v3 v4 v5:Option PV),ps.length=5 + 2 * k/\(∀p∈ps,0 < p.length/\p.length<=60/\Gc p)/\Dk ys/\ys.length + k=y1.length/\ρ=[some (.own (ys.map .int)),some (.dat (.str t)),some (.own (ps.map .str)),v3,v4,v5],⟨_,y1,_,_,_,rfl,?_,hd1,rfl,rfl⟩,?_,?_⟩
 .intro p hp
  rcases List.mem_cons.mp hp with rfl | hp
  .exact ⟨by decide,by decide,gq⟩
  rcases List.mem_cons.mp hp with rfl | hp
  .exact ⟨by omega,by omega,gq.rep _⟩
  rcases List.mem_cons.mp hp with rfl | hp
  .exact ⟨by omega,by omega,gA.rep _⟩
  rcases List.mem_cons.mp hp with rfl | hp
  .rw [List.length_append];exact ⟨by show 0 < t.length + 1;omega,by show t.length + 1<=60;omega,tg.app gq⟩
  rw [List.mem_singleton.mp hp,List.length_take,List.length_append]
  exact ⟨by show 0 < min 60 (1 + t.length);omega,by omega,(gq.app tg).take _⟩
 .rintro k ρ _ hk rfl ⟨ps,ys,v3,v4,v5,hpl,hps,hdy,hyl,rfl⟩
  have hk:k < 4:=hk
  have hpm:(ps.map D.str).length=ps.length:=List.length_map _
  have g3:Dk ys/\0 < ys.length/\ys.length<=100000:=⟨hdy,by omega,by omega⟩
  walk_at "r"
  rintro n2 y2 hb0 hb1 hd2 hy2
  obtain ⟨j,hj⟩:∃j:Nat,n2 % ((t.length:Int) + 1)=(j:Int):=⟨(n2 % ((t.length:Int) + 1)).toNat,by have:=Int.emod_nonneg n2 (show (t.length:Int) + 1≠0 by omega);omega⟩
  have cl:=cf t (some (j:Int)) (some ((j:Int) + 1 + n2 / 21 % 6))
  have cg:Gc (dr t (some (j:Int)) (some ((j:Int) + 1 + n2 / 21 % 6))):=Gc.of (htL.cut _ _)
  have gg:Gc (dr t (some (j:Int)) (some ((j:Int) + 1 + n2 / 21 % 6))++[63])/\(dr t (some (j:Int)) (some ((j:Int) + 1 + n2 / 21 % 6))++[63]).length<=100:=⟨cg.app gq,by rw [List.length_append,lc];omega⟩
  have gh:Gc (dr t (some (j:Int)) (some ((j:Int) + 1 + n2 / 21 % 6))++[97])/\(dr t (some (j:Int)) (some ((j:Int) + 1 + n2 / 21 % 6))++[97]).length<=100:=⟨cg.app gA,by rw [List.length_append,la];omega⟩
  walk_at "r"
  rw [hj]
  walk_at "r"
  intro u1 hu1 gu1
  rw [List.length_append,lc] at hu1
  walk_at "r"
  intro u2 hu2 gu2
  rw [List.length_append,la] at hu2
  walk_at "r"
  exact ⟨(ps++[u1])++[u2],y2,_,_,_,by rw [List.length_append,List.length_append,hpl];show 5 + 2 * k + 1 + 1=_;omega,ok1 _ _ (ok1 _ _ hps ⟨by omega,by omega,gu1⟩) ⟨by omega,by omega,gu2⟩,hd2,by omega,by rw [<- app,<- app]⟩
 .rintro ρ ⟨ps,ys,v3,v4,v5,hpl,hps,hdy,hyl,rfl⟩
  have hpl:ps.length=13:=hpl
  have hyl:ys.length + 4=y1.length:=hyl
  have hpm:(ps.map D.str).length=ps.length:=List.length_map _
  have g3:Dk ys/\0 < ys.length/\ys.length<=100000:=⟨hdy,by omega,by omega⟩
  walk_at "r"
  rintro n2 y2 hb0 hb1 hd2 hy2
  have gs:0<=n2 + 1/\0 < [97,63,98,122].length/\[97,63,98,122].length<=26/\(0:Int)<=5/\(5:Int)<=100:=⟨by omega,by decide,by decide,by decide,by decide⟩
  walk_at "r"
  rintro w hw hwc hw0
  have hw0:=hw0 (by omega) (by decide)
  have gw:Gc w:=fun c hc=>(show ∀c∈[97,63,98,122],(97<=c/\c<=122)\/c=63 by decide) c (hwc c hc)
  walk_at "r"
  rw [app]
  exact q _ y2 (by rw [List.length_append,hpl];rfl) (ok1 _ _ hps ⟨hw0,by omega,gw⟩) hd2 (by omega)
theorem g6:∀p ds Q,p.isOwn=true->aN p ds Q->qo bR dQ p ds Q:=fun p ds Q _ h=>by
 unfold aN at h
 split at h
 .exact fR _ _ _ h
 .exact h.elim
def cG:PTS:=(aZ (lJ (pOr (pB (pOp fLt (pSl 2) (pFz (pC (.int 0))))) (pB (pOp fGt (pFz (pOp bt (pSl 2) (pFz (pCB gO (af (pSl 1) ar))))) (pFz (pCB gO (af (pSl 0) ar)))))) (bI (pC (.bl false))) cY) (aZ (gQ (r0 (af (pFz (pCB gO (af (pSl 1) ar))) ar)) (aE 3) (lJ (sR (pB (pOp mZ (pFz (pOp fIx (pSl 1) (pSl 3))) (pFz (pC (.str [63]))))) (pB (pOp mZ (pFz (pOp fIx (pSl 1) (pSl 3))) (pFz (pOp fIx (pSl 0) (pFz (pOp bt (pSl 2) (pSl 3)))))))) (bI (pC (.bl false))) cY)) (bI (pC (.bl true)))))
theorem iN (t g:List Nat) (p:Int) (Q:PV->Prop) (h:aR ([.str t,.str g,.int p]) Q):eZ cG fA ([.str t,.str g,.int p]) Q:=by
 show cG _ [some (.dat (.str t)),some (.dat (.str g)),some (.dat (.int p)),none]
 obtain ⟨⟨ht,hg⟩,q⟩:=h
 walk_at "r"
 refine gK (fun c1=>?_) (fun c1=>?_)
 .walk_at "r"
  rw [b6 (by omega)] at q
  exact q
 .walk_at "r"
  refine gK (fun c2=>?_) (fun c2=>?_)
  .walk_at "r"
   rw [b6 (by omega)] at q
   exact q
  .obtain ⟨n,rfl⟩:∃n:Nat,p=(n:Int):=⟨p.toNat,by omega⟩
   walk_at "r"
   refine ⟨fun k ρ=>(∃v3:Option PV,ρ=[some (.dat (.str t)),some (.dat (.str g)),some (.dat (.int (n:Int))),v3])/\∀j,j < k->nW t g n j,⟨⟨_,rfl⟩,fun j hj=>absurd hj (Nat.not_lt_zero _)⟩,?_,?_⟩
   .rintro k ρ _ hk rfl ⟨⟨v3,rfl⟩,ih⟩
    rw [Int.toNat_natCast] at hk
    have htk:n + k < t.length:=by omega
    have ga:g.getD k 0=g[k]:=by rw [List.getD_eq_getElem?_getD,List.getElem?_eq_getElem hk];rfl
    have gb:t.getD (n + k) 0=t[n + k]:=by rw [List.getD_eq_getElem?_getD,List.getElem?_eq_getElem htk];rfl
    have stp:nW t g n k->∀j,j < k + 1->nW t g n j:=fun z j hj=>by
     by_cases e:j=k
     .rw [e];exact z
     .exact ih j (by omega)
    walk_at "r"
    refine ⟨_,fb (j:=k) (List.getElem?_eq_getElem hk) rfl,?_⟩
    walk_at "r"
    refine gL (fun c3=>?_) (fun c3=>?_)
    .walk_at "r"
     refine ⟨_,fb (j:=k) (List.getElem?_eq_getElem hk) rfl,?_⟩
     walk_at "r"
     refine ⟨_,fb (j:=n + k) (List.getElem?_eq_getElem htk) (by omega),?_⟩
     walk_at "r"
     refine gL (fun c4=>?_) (fun c4=>?_)
     .walk_at "r"
      rw [l8 hk (fun z=>z.elim (fun z=>c3 (by rw [<- ga,z])) (fun z=>c4 (by rw [<- ga,<- gb,z])))] at q
      exact q
     .exact ⟨⟨_,rfl⟩,stp (.inr (by rw [ga,gb];exact List.singleton_inj.mp c4))⟩
    .exact ⟨⟨_,rfl⟩,stp (.inl (by rw [ga];exact List.singleton_inj.mp c3))⟩
   .rintro ρ ⟨⟨v3,rfl⟩,ih⟩
    rw [Int.toNat_natCast] at ih
    walk_at "r"
    rw [jY (by omega) ih] at q
    exact q
theorem jr:∀ds Q,aR ds Q->eZ cG fA ds Q:=fun ds Q h=>by
 unfold aR at h
 split at h
 .exact iN _ _ _ _ h
 .exact h.elim
def bq:PTS:=(aZ (bO (jK (af (pFz (pC (.str []))) (af (pFz (pOp jL (pFz (pC (.str [63]))) (pFz (pC (.int 61))))) (af (pFz (pOp bt (pSl 0) (pFz (pC (.str [65]))))) (af (pFz (pOp bt (pFz (pC (.str [33]))) (pSl 0))) (af (pFz (pOp bt (pSl 0) (pFz (pC (.str [32]))))) (af (pFz (pC (.str [97,10]))) (af (pFz (pC (.str [97,98,42]))) (af (pFz (pC (.str [123]))) (af (pFz (pC (.str [48]))) (af (pFz (pC .non)) (af (pFz (pC (.int 7))) (af (pFz (pC (.bl true))) (af (pFz (jK (af (pFz (pC (.str [97]))) ar))) ar)))))))))))))) (aE 1)) (bI (pOp bt (pSl 1) (pFz (jK (af (pFz (uS (af (pFz (pC (.str [97]))) (af (pFz (pC (.str [98]))) ar)))) (af (pFz ss) (af (pFz (jK ar)) (af (pFz (pOp bt (pFz (ff (pSl 0) jN (dt (pC (.int 1))))) (pFz (pC (.str [95]))))) (af (pFz (pOp jL (pFz (pC (.str [97]))) (pFz (pC (.int 61))))) ar))))))))))
theorem eC (p:List Nat) (Q:PV->Prop) (h:ax ([.str p]) Q):eZ bq cN ([.str p]) Q:=by
 show bq _ [some (.dat (.str p)),none]
 obtain ⟨⟨h0,h1,hp⟩,q⟩:=h
 have lc:[63].length=1:=rfl
 have la:[97].length=1:=rfl
 have w1:(-1000000:Int)<=61/\(61:Int)<=1000000/\Int.toNat 61 * [63].length<=1000000:=⟨by decide,by decide,by decide⟩
 have w2:(-1000000:Int)<=61/\(61:Int)<=1000000/\Int.toNat 61 * [97].length<=1000000:=⟨by decide,by decide,by decide⟩
 walk_at "r"
 have c1:=cf p none (some 1)
 refine ⟨by show _ + 1<=1000000;omega,?_⟩
 walk_at "r"
 have r1:=bC [63] 61
 have r2:=bC [97] 61
 rw [lc,Nat.mul_one,show (61:Int).toNat=61 from rfl] at r1
 rw [la,Nat.mul_one,show (61:Int).toNat=61 from rfl] at r2
 have sz:∀l:List Nat,l.length<=1000->(D.str l).sort=true/\kq (.str l)<=1000:=fun l hl=>⟨rfl,hl⟩
 refine q _ rfl ?_
 rw [List.forall_mem_append]
 refine ⟨?_,?_⟩
 .simp only [List.forall_mem_cons]
  refine ⟨⟨sz _ (by decide),rfl⟩,⟨sz _ (by omega),iH (by omega)⟩,⟨sz _ (by rw [List.length_append];show p.length + 1<=1000;omega),bZ 65 (List.mem_append_right _ (List.mem_singleton.mpr rfl)) rfl rfl⟩,⟨sz _ (by rw [List.length_append];show 1 + p.length<=1000;omega),bZ 33 (List.mem_append_left _ (List.mem_singleton.mpr rfl)) rfl rfl⟩,⟨sz _ (by rw [List.length_append];show p.length + 1<=1000;omega),bZ 32 (List.mem_append_right _ (List.mem_singleton.mpr rfl)) rfl rfl⟩,⟨sz _ (by decide),bZ 10 (by decide) rfl rfl⟩,⟨sz _ (by decide),bZ 42 (by decide) rfl rfl⟩,⟨sz _ (by decide),bZ 123 (by decide) rfl rfl⟩,⟨sz _ (by decide),bZ 48 (by decide) rfl rfl⟩,⟨⟨rfl,Nat.zero_le _⟩,rfl⟩,⟨⟨rfl,Nat.zero_le _⟩,rfl⟩,⟨⟨rfl,Nat.zero_le _⟩,rfl⟩,⟨⟨rfl,Nat.zero_le _⟩,rfl⟩,fun d hd=>nomatch hd⟩
 .simp only [List.forall_mem_cons]
  refine ⟨⟨⟨rfl,Nat.zero_le _⟩,rfl⟩,⟨⟨rfl,Nat.zero_le _⟩,rfl⟩,⟨⟨rfl,Nat.zero_le _⟩,rfl⟩,⟨sz _ (by rw [List.length_append];show _ + 1<=1000;omega),bZ 95 (List.mem_append_right _ (List.mem_singleton.mpr rfl)) rfl rfl⟩,⟨sz _ (by omega),iH (by omega)⟩,fun d hd=>nomatch hd⟩
theorem eV:∀ds Q,ax ds Q->eZ bq cN ds Q:=fun ds Q h=>by
 unfold ax at h
 split at h
 .exact eC _ _ h
 .exact h.elim
def cH:PTS:=(bI (mM (pf .bool (pSl 0)) (pOp su (pSl 0) (pSl 1))))
theorem iO (a b:Bool) (Q:PV->Prop) (h:aV ([.bl a,.bl b]) Q):eZ cH fB ([.bl a,.bl b]) Q:=by
 show cH _ [some (.dat (.bl a)),some (.dat (.bl b))]
 have h:Q (.dat (.bl (decide (a=b)))):=h
 walk_at "r"
 rw [show deq (.bl a) (.bl b)=decide (a=b) by cases a <;> cases b <;> rfl]
 exact h
theorem js:∀ds Q,aV ds Q->eZ cH fB ds Q:=fun ds Q h=>by
 unfold aV at h
 split at h
 .exact iO _ _ _ h
 .exact h.elim
def j0:PTS:=(aZ (bO (bT aU (af (pFz (cJ 0)) (af (pFz (pC (.int 60))) ar))) (aE 1)) (aZ (bO (c5 aY 1 ar) (aE 2)) (aZ (bO (c5 aN 1 (af (pFz (cJ 2)) ar)) (aE 3)) (aZ (gQ (iy (cJ 3)) (aE 4) (aZ (lJ (pB (pOp (fIs true) (pFz (bT aG (af (pFz (cJ 4)) ar))) (pFz (pC (.bl true))))) (bI (pC (.bl false))) cY) (aZ (bO (kl [none,some 2,some 4] (uY (af (pFz (pUn sm (pFz (pC (.int 3))))) (af (pFz (pOp bt (pFz (pCB gO (af (pSl 2) ar))) (pFz (pC (.int 3))))) ar))) (aE 0) (pB (bT aR (af (pFz (cJ 1)) (af (pFz (cJ 2)) (af (pFz (cJ 0)) ar))))) (cJ 0)) (aE 5)) (aZ (gQ (iy (pOp bt (pFz (nP false (af (pFz (pUn sm (pFz (pC (.int 70))))) (af (pFz (pOp bt (pFz (pCB gO (af (pSl 2) ar))) (pFz (pC (.int 3))))) ar)))) (pFz (jK (af (pFz (pOp qm (pFz (pC (.int 10))) (pFz (pC (.int 12))))) (af (pFz (pUn sm (pFz (pOp qm (pFz (pC (.int 10))) (pFz (pC (.int 12))))))) ar)))))) (aE 6) (lJ (o0 (pB (bT aV (af (pFz (bT aL (af (pFz (cJ 2)) (af (pFz (cJ 4)) (af (pFz (cJ 6)) ar))))) (af (pFz (pOp (ur false) (pSl 6) (pSl 5))) ar))))) (bI (pC (.bl false))) cY)) (aZ (bO (bT aw (af (pFz (cJ 2)) (af (pFz (cJ 4)) ar))) (aE 7)) (lJ (pOr (o0 (pB (pf .tuple (pSl 7)))) (pOr (pB (pOp mZ (pFz (pCB mQ (af (pSl 7) ar))) (pSl 5))) (pB (pOp mZ (pFz (kl [none] (iy (cJ 7)) (aE 0) (o0 (pB (bT aK (af (pFz (cJ 0)) ar)))) (cJ 0))) (pFz (jK ar)))))) (bI (pC (.bl false))) cY)))))) (aZ (gQ (iy (bT ax (af (pFz (pOp fIx (pSl 3) (pFz (pOp jT (pFz (c5 au 1 ar)) (pFz (pCB gO (af (pSl 3) ar))))))) ar))) (aE 8) (lJ (pB (pOp (fIs true) (pFz (bT aG (af (pFz (cJ 8)) ar))) (pFz (pC (.bl false))))) (bI (pC (.bl false))) cY)) (bI (pC (.bl true))))))))
theorem p7 (ns:List Int) (h63:ns.length<=63) (Q:PV->Prop) (q:Q (.dat (.bl true))):eZ j0 nX [.scr ns] Q:=by
 show j0 _ [some (.dat (.scr ns)),none,none,none,none,none,none,none,none]
 have g0:ns.length<=64/\(0:Int)<=60/\(60:Int)<=2000:=⟨by omega,by decide,by decide⟩
 walk_at "r"
 rintro zs hz hl
 have hl:zs.length=60:=hl
 have g1:Dk zs/\3<=zs.length/\zs.length<=10000:=⟨hz,by omega,by omega⟩
 walk_at "r"
 rintro t y1 ht tL hd1 hy1
 have g2:Dk y1/\6<=y1.length/\y1.length<=10000:=⟨hd1,by omega,by omega⟩
 have g2t:t.length<=20/\Lts t:=⟨ht,tL⟩
 walk_at "r"
 rintro ps y2 hpl hps hd2 hy2
 have hpm:(ps.map D.str).length=ps.length:=List.length_map _
 walk_at "r"
 refine ⟨fun k ρ=>∃v4 v5 v6 v7:Option PV,ρ=[some (.dat (.scr ns)),some (.own (y2.map .int)),some (.dat (.str t)),some (.dat (.lst (ps.map .str))),v4,v5,v6,v7,none],⟨_,_,_,_,rfl⟩,?_,?_⟩
 .rintro k ρ d hk ed ⟨v4,v5,v6,v7,rfl⟩
  have hk:k < ps.length:=by rw [hpm] at hk;exact hk
  obtain ⟨p,ep,hpp⟩:∃p:List Nat,d=.str p/\p∈ps:=⟨ps[k],by rw [ed];unfold itD;rw [List.getD_eq_getElem?_getD,List.getElem?_map,List.getElem?_eq_getElem hk];rfl,List.getElem_mem hk⟩
  subst ep
  clear ed
  obtain ⟨hp0,hp1,hpg⟩:=hps p hpp
  have gg:(D.str p).sort=true/\kq (.str p)<=1000:=⟨rfl,by show p.length<=1000;omega⟩
  have ey:qt (.str p)=true:=nt hp0 hp1 hpg
  have gf:t.length<=10000/\p.length<=10000:=⟨by omega,by omega⟩
  walk_at "r"
  refine jJ ey ?_
  walk_at "r"
  rw [show (((t.length:Int) + 3) - -3).toNat=t.length + 6 by omega]
  refine cfR (fun k:Nat=>dF t p (-3 + (k:Int))) (fun k:Nat=>D.int (-3 + (k:Int))) (fun k hk v K1 K2 k1 k2=>?_) (fun v=>?_)
  .walk_at "r"
   cases e:dF t p (-3 + (k:Int))
   .exact k2 _ e
   .walk_at "r"
    exact k1 _ e
  .rw [pZ hp0]
   walk_at "r"
   have rl:(qk (-70) ((t.length:Int) + 3 - -70).toNat).length=((t.length:Int) + 3 - -70).toNat:=by unfold qk;rw [List.length_map,List.length_range]
   refine ⟨by rw [rl];show _ + 2<=1000000;omega,?_⟩
   have hint:∀d∈qk (-70) ((t.length:Int) + 3 - -70).toNat++[D.int (10 ^ Int.toNat 12),D.int (-10 ^ Int.toNat 12)],∃z:Int,d=.int z:=fun d hd=>by
    rcases List.mem_append.mp hd with h | h
    .unfold qk at h
     obtain ⟨a,_,rfl⟩:=List.mem_map.mp h
     exact ⟨_,rfl⟩
    .rcases List.mem_cons.mp h with h | h
     .exact ⟨_,h⟩
     .exact ⟨_,List.mem_singleton.mp h⟩
   walk_at "r"
   refine ⟨fun k ρ=>∃v6:Option PV,ρ=[some (.dat (.scr ns)),some (.own (y2.map .int)),some (.dat (.str t)),some (.dat (.lst (ps.map .str))),some (.dat (.str p)),some (.own (((List.range t.length).filter fun k:Nat=>dF t p (k:Int)).map nD)),v6,v7,none],⟨_,rfl⟩,?_,?_⟩
   .rintro k ρ d hk ed ⟨v6,rfl⟩
    obtain ⟨z,rfl⟩:=hint d (by rw [ed];exact lR hk)
    clear ed
    have afl:(D.int z).fl=true/\(((List.range t.length).filter fun k:Nat=>dF t p (k:Int)).map nD).all D.fl=true:=⟨rfl,ul _⟩
    walk_at "r"
    rw [p6 hp0]
    walk_at "r"
    refine jJ (by rw [if_neg Bool.false_ne_true]) ?_
    exact ⟨_,rfl⟩
   .rintro ρ ⟨v6,rfl⟩
    have em:((List.range t.length).filter fun k:Nat=>dF t p (k:Int)).map nD=(((List.range t.length).filter fun k:Nat=>dF t p (k:Int)).map fun k:Nat=>(k:Int)).map D.int:=by rw [List.map_map];rfl
    have hE:nK (.lst (((List.range t.length).filter fun k:Nat=>dF t p (k:Int)).map nD)) (.lst (((List.range t.length).filter fun k:Nat=>dF t p (k:Int)).map nD)):=by rw [em];exact nK.of (Sh.lstI _) (Sh.lstI _)
    have hD:deq (.lst (((List.range t.length).filter fun k:Nat=>dF t p (k:Int)).map nD)) (.lst (((List.range t.length).filter fun k:Nat=>dF t p (k:Int)).map nD))=true:=by rw [em,m8];exact decide_eq_true rfl
    walk_at "r"
    rw [hD]
    walk_at "r"
    refine ⟨by have:=List.length_filter_le (fun k:Nat=>dF t p (k:Int)) (List.range t.length);rw [List.length_range] at this;rw [List.length_map];omega,?_⟩
    refine cf1 (fun _=>false) (fun k:Nat=>nD k) (fun k hk v K1 K2 k1 k2=>?_) (fun v=>?_)
    .walk_at "r"
     exact k2 _ rfl
    .rw [show (((List.range t.length).filter fun k:Nat=>dF t p (k:Int)).filter fun _=>false)=[] from List.filter_eq_nil_iff.mpr fun _ _=>Bool.false_ne_true]
     have hE0:nK (.lst []) (.lst []):=nK.of (Sh.lstI []) (Sh.lstI [])
     have hD0:deq (.lst []) (.lst [])=true:=rfl
     walk_at "r"
     exact ⟨_,_,_,_,rfl⟩
 .rintro ρ ⟨v4,v5,v6,v7,rfl⟩
  have g3:Dk y2/\0 < y2.length/\y2.length<=100000:=⟨hd2,by omega,by omega⟩
  have hpm0:(0:Int) < (ps.map D.str).length:=by rw [hpm,hpl];decide
  walk_at "r"
  rintro n3 y3 hb0 hb1 hd3 hy3
  obtain ⟨j,hj⟩:∃j:Nat,n3 % (ps.length:Int)=(j:Int):=⟨(n3 % (ps.length:Int)).toNat,by have:=Int.emod_nonneg n3 (show (ps.length:Int)≠0 by omega);omega⟩
  have hj2:j < ps.length:=by have:=Int.emod_lt_of_pos n3 (show 0 < (ps.length:Int) by omega);omega
  walk_at "r"
  rw [hpm,hj]
  refine ⟨_,fb (j:=j) (by rw [List.getElem?_map,List.getElem?_eq_getElem hj2];rfl) rfl,?_⟩
  have gn:0 < ps[j].length/\ps[j].length<=60/\Gc ps[j]:=hps _ (List.getElem_mem hj2)
  walk_at "r"
  rintro ds dl dg
  walk_at "r"
  refine ⟨fun k ρ=>∃v8:Option PV,ρ=[some (.dat (.scr ns)),some (.own (y3.map .int)),some (.dat (.str t)),some (.dat (.lst (ps.map .str))),v4,v5,v6,v7,v8],⟨_,rfl⟩,?_,?_⟩
  .rintro k ρ d hk ed ⟨v8,rfl⟩
   have hk:k < ds.length:=hk
   obtain ⟨gd,en⟩:=dg d (by rw [ed];exact lR hk)
   clear ed
   walk_at "r"
   refine jJ en ?_
   exact ⟨_,rfl⟩
  .rintro ρ ⟨v8,rfl⟩
   walk_at "r"
   exact q
theorem sJ:∀ds Q,jZ ds Q->eZ j0 nX ds Q:=fun ds Q h=>by
 obtain ⟨ns,rfl,h63,q⟩:=h
 exact p7 ns h63 Q q
section
variable {P:Program}{w:World}{K:PySem.W.Frag}{mg:Str->Option Value}{base:Heap}
theorem gp:∀ds Q,bj ds Q->ds.length=3:=fun ds Q h=>by unfold bj at h;split at h;(first | rfl | exact h.elim);(first | rfl | exact h.elim)
theorem ky (D:jH K mg "is_text" cu [.int 0,.int 4000]) (T:Txt mg):sP P w K mg base 1 "is_text" ["thing","least","most"] [.int 0,.int 4000] (spP K bj):=by
 refine D.ok ku (fun dT kV doc pm an cdv ct items us n hi hn hl=>?_) (fun vs H Q E h=>?_) (fun f cdv A outer s H vs Q E hr h=>?_)
 .obtain ⟨i0,i1,rfl⟩:∃i0 i1,items=[i0,i1]:=match items,hi with | [i0,i1],_=>⟨i0,i1,rfl⟩
  have hn':n=0\/n=1\/n=2:=by (have:n<=2:=hn);omega
  rcases hn' with rfl | rfl | rfl
  .have hl2:us.length=1:=by (simp at hl;omega)
   match us,hl2 with
   | [_],_=>exact ⟨_,rfl,rfl⟩
  .have hl2:us.length=2:=by (simp at hl;omega)
   match us,hl2 with
   | [_,_],_=>exact ⟨_,rfl,rfl⟩
  .have hl2:us.length=3:=by (simp at hl;omega)
   match us,hl2 with
   | [_,_,_],_=>exact ⟨_,rfl,rfl⟩
 .exact kA gp h
 .have hu:=hr.units
  exact ⟨_,(al (fK (PW.pt (mf (fT (ee (aq (kj K rfl) rfl T.b_isinstance boot_isinstance (paC (pv 0) (paC (dU (v:=.ty "str") rfl T.b_str boot_str rfl) ai))))) (kE (fT (jD qd qd (pv 1) (aq (cX K rfl) rfl T.b_len PySem.boot_len (paC (pv 0) ai)) (pv 2)))))) (aA (bd dy)) cb) (aA (bd (aq (uc K rfl rfl) rfl T.b_all boot_all (paC (i7 (wi:=(qf K (eE 0))) (g:=(fL 0)) (tts:=sO) (te:=(jC sU sU (tC (V.str (S [97]))) (eE 0) (tC (V.str (S [122]))))) ["sign"] [none] rfl (fg K rfl (pv 0)) (fun _ _ _ _=>⟨(bv (i:=0) (by show List.Nodup (["sign"]:List Str);decide +kernel) rfl (by first | exact Or.inl rfl | exact Or.inr rfl)),lu,(mj qd qd (aB (l:=[97]) (by decide +kernel)) (pv 0) (aB (l:=[122]) (by decide +kernel)))⟩) (by kernel_rfl)) ai))))),fnP (K:=K) (c:=bj) (ps:=dk) (N:=["thing","least","most"]) (aH (fO (mL (fX (oZ (fZ .str (am (i:=0))))) (fX (jb (gM kh kh (am (i:=1)) (ae (bM bH (ac (am (i:=0)) ag))) (am (i:=2)))))) (ba dA) ck) (ba (bM se (ac (ae (fi (ix:=[none]) rfl (fh (aI (i:=0))) (fun fs hc=>(a9 (i:=0) (sr hc (by decide)))) nM (gM kh kh (ae (le_str (l:=[97]))) (am (i:=0)) (ae (le_str (l:=[122])))))) ag)))) (fun ds Q h=>Nat.le_trans (Nat.le_of_eq (gp ds Q h)) (by decide)) kv h⟩
theorem eN:∀ds Q,aG ds Q->ds.length=1:=fun ds Q h=>by unfold aG at h;split at h;(first | rfl | exact h.elim);(first | rfl | exact h.elim)
theorem iP (D:bW K mg "is_gapped" dC) (T:Txt mg) (C_is_text:sP P w K mg base 1 "is_text" ["thing","least","most"] [.int 0,.int 4000] (spP K bj)):Cal P w K mg base 2 "is_gapped" ["thing"] (spP K aG):=by
 refine D.okT iF (fun _ _ _ _ _ _ us hl=>match us,hl with | [_],_=>rfl) (fun vs H Q E h=>?_) (fun f cdv A outer s H vs Q E hr h=>?_)
 .exact kA eN h
 .have hu:=hr.units
  exact ⟨_,(nk (pW (pY (aq (kj K rfl) rfl T.b_isinstance boot_isinstance (paC (pv 0) (paC (dU (v:=.ty "str") rfl T.b_str boot_str rfl) ai))) (pX (nq 2 C_is_text (hr.mono (by decide)) (by decide) (paT (jj K rfl (la:=[63]) (lb:=[97]) (by decide +kernel) (by decide +kernel) (pv 0)) (paC aj (paC (mJ rfl T.g_MOST_SIGNS) ai)))))))),fnP (K:=K) (c:=aG) (ps:=b9) (N:=["thing"]) (ba (lH (fZ .str (am (i:=0))) (mT (ds:=[]) (by repeat (first | exact .nil | exact .cons (.int _) .nil | refine .cons (.int _) ?_)) (ac (ae (ue kt (aI (i:=0)) (ac (ae (le_str (l:=[63]))) (ac (ae (le_str (l:=[97]))) ag)))) (ac (ae le_int) (ac (ae (le_int (i:=60))) ag)))))) (fun ds Q h=>Nat.le_trans (Nat.le_of_eq (eN ds Q h)) (by decide)) iI h⟩
theorem gu:∀ds Q,aL ds Q->ds.length=3:=fun ds Q h=>by unfold aL at h;split at h;(first | rfl | exact h.elim);(first | rfl | exact h.elim)
theorem kz (D:bW K mg "fits_at" fo) (T:Txt mg):Cal P w K mg base 1 "fits_at" ["text","gapped","place"] (spP K aL):=by
 refine D.ok et (fun _ _ _ _ _ _ us hl=>match us,hl with | [_,_,_],_=>rfl) (fun vs H Q E h=>?_) (fun f cdv A outer s H vs Q E hr h=>?_)
 .exact kA gu h
 .have hu:=hr.units
  exact ⟨_,(al (fK (fT (jD qd qd aj (pv 2) (ay ui (aq (cX K rfl) rfl T.b_len PySem.boot_len (paC (pv 0) ai)) (aq (cX K rfl) rfl T.b_len PySem.boot_len (paC (pv 1) ai))))) (aA (bd dy)) cb) (al (eF PassesOwn.never rfl (pK K rfl rfl T.b_zip (paC (de (qe K rfl) (pv 0) (cv (pv 2)) (cv (ay (aT K rfl) (pv 2) (aq (cX K rfl) rfl T.b_len PySem.boot_len (paC (pv 1) ai))))) (paC (pv 1) ai))) (sy K rfl (n:=2) rfl (jA (bv (i:=3) et.nd rfl (by first | exact Or.inl rfl | exact Or.inr rfl)) (jA (bv (i:=4) et.nd rfl (by first | exact Or.inl rfl | exact Or.inr rfl)) n9))) (aA (fK (PW.pt (kF (bA (jg K rfl hu) (pv 4) (aB (l:=[63]) (by decide +kernel)) (bG _)) (iV (bA (jg K rfl hu) (pv 4) (pv 3) (bG _))))) (aA (bd dy)) cb))) (aA (bd dy)))),fnP (K:=K) (c:=aL) (ps:=dn) (N:=["text","gapped","place","sign","own"]) (aH (fO (fX (jb (gM kh kh (ae le_int) (am (i:=2)) (ae (ak rQ (ae (bM bH (ac (am (i:=0)) ag))) (ae (bM bH (ac (am (i:=1)) ag)))))))) (ba dA) ck) (aH (eI (pL (ac (ae (df (am (i:=0)) (bN (aI (i:=2))) (bN (ak aF (am (i:=2)) (ae (bM bH (ac (am (i:=1)) ag))))))) (ac (ae (aI (i:=1))) ag))) (pP (jP (a9 (i:=3) rfl) (jP (a9 (i:=4) rfl) pw))) (fO (lG (jb (ak fk (am (i:=4)) (ae (le_str (l:=[63]))))) (jb (ak fk (am (i:=4)) (am (i:=3))))) (ba dA) ck)) (ba dA))) (fun ds Q h=>Nat.le_trans (Nat.le_of_eq (gu ds Q h)) (by decide)) kx h⟩
theorem cO:∀ds Q,aw ds Q->ds.length=2:=fun ds Q h=>by unfold aw at h;split at h;(first | rfl | exact h.elim);(first | rfl | exact h.elim)
theorem eW (D:bW K mg "gapped_places" bU) (T:Txt mg) (C_fits_at:Cal P w K mg base 1 "fits_at" ["text","gapped","place"] (spP K aL)):Cal P w K mg base 2 "gapped_places" ["text","gapped"] (spP K aw):=by
 refine D.ok eT (fun _ _ _ _ _ _ us hl=>match us,hl with | [_,_],_=>rfl) (fun vs H Q E h=>?_) (fun f cdv A outer s H vs Q E hr h=>?_)
 .exact kA cO h
 .have hu:=hr.units
  exact ⟨_,(aA (bd (bD (pG K rfl) rfl T.b_tuple boot_tuple (paC (i7 (wi:=(oh (bL (tCB (mN K) (bL (eE 0) jE)) jE))) (g:=(fL 0)) (tts:=(tB (fM (spP K aL) [] E0 (bL (eE 1) (bL (eE 2) (bL (eE 0) jE)))))) (te:=(eE 0)) ["place","text","gapped"] [none,some 0,some 1] rfl (dH rfl T.b_range (paC (aq (cX K rfl) rfl T.b_len PySem.boot_len (paC (pv 0) ai)) ai)) (fun _ _ _ _=>⟨(bv (i:=0) (by show List.Nodup (["place","text","gapped"]:List Str);decide +kernel) rfl (by first | exact Or.inl rfl | exact Or.inr rfl)),(i6 (ee (aQ C_fits_at (hr.mono (by decide)) (paC (pv 1) (paC (pv 2) (paC (pv 0) ai)))))),(pv 0)⟩) (by kernel_rfl)) ai)))),fnP (K:=K) (c:=aw) (ps:=bp) (N:=["text","gapped"]) (ba (bM mR (ac (ae (fi (ix:=[none,some 0,some 1]) rfl (mO (ac (ae (bM bH (ac (am (i:=0)) ag))) ag)) (fun fs hc=>(a9 (i:=0) (sr hc (by decide)))) (oZ (bb (c:=aL) (ac (ae (aI (i:=1))) (ac (ae (aI (i:=2))) (ac (ae (aI (i:=0))) ag))))) (aI (i:=0)))) ag))) (fun ds Q h=>Nat.le_trans (Nat.le_of_eq (cO ds Q h)) (by decide)) eU h⟩
theorem fE:∀ds Q,aU ds Q->ds.length=2:=fun ds Q h=>by unfold aU at h;split at h;(first | rfl | exact h.elim);(first | rfl | exact h.elim)
theorem jt (D:bW K mg "_law_deck" eh) (T:Txt mg):Cal P w K mg base 1 "_law_deck" ["_law_cells","_law_many"] (spP K aU):=by
 refine D.ok bu (fun _ _ _ _ _ _ us hl=>match us,hl with | [_,_],_=>rfl) (fun vs H Q E h=>?_) (fun f cdv A outer s H vs Q E hr h=>?_)
 .exact kA fE h
 .have hu:=hr.units
  exact ⟨_,(al (bn (i:=2) bu.nd rfl (by first | exact Or.inl rfl | exact Or.inr rfl) (ay (aT K rfl) (bD (nO K rfl) rfl T.b_list boot_list (paC (pv 0) ai)) (ay eR (cm (paC aj ai)) (bD pN rfl T.b_int boot_int (paC (e6 (pI K rfl hu) (aq (cX K rfl) rfl T.b_len PySem.boot_len (paC (pv 0) ai)) aj (bG _)) ai))))) (al (lv (wi:=(qf K (eE 2))) (g:=(fL 0)) (tts:=sO) (te:=(tOp o8 (eE 0) (tCB pM (bL (tOp u5 (eE 0) (tOp sj (tC (V.int 10)) (tC (V.int 18)))) jE)))) (i:=3) ["_law_cell"] [none] bu.nd rfl (Or.inl rfl) rfl (fg K rfl (pv 2)) (fun _ _ _ _=>⟨(bv (i:=0) (by show List.Nodup (["_law_cell"]:List Str);decide +kernel) rfl (by first | exact Or.inl rfl | exact Or.inr rfl)),lu,(ay eR (pv 0) (bD pN rfl T.b_int boot_int (paC (e6 vq (pv 0) (ay ko aj aj) (bG _)) ai)))⟩) (by kernel_rfl)) (al (bn (i:=4) bu.nd rfl (by first | exact Or.inl rfl | exact Or.inr rfl) (cm ai)) (al (eF PassesOwn.never rfl (dH rfl T.b_range (paC (pv 1) ai)) (bv (i:=5) bu.nd rfl (by first | exact Or.inl rfl | exact Or.inr rfl)) (al (bn (i:=6) bu.nd rfl (by first | exact Or.inl rfl | exact Or.inr rfl) (ay dL (pv 5) (aq (cX K rfl) rfl T.b_len PySem.boot_len (paC (pv 2) ai)))) (al (bn (i:=7) bu.nd rfl (by first | exact Or.inl rfl | exact Or.inr rfl) (ay (aT K rfl) (ay eR (ay dL (ay (aT K rfl) (ay (aT K rfl) (dW (ki K rfl) (pv 2) (pv 6) (fun _ _=>rfl)) (ay eR (ay eR (pv 5) (pv 5)) aj)) (ay eR aj (pv 5))) aj) (dW (ki K rfl) (cm (paC aj (paC aj (paC aj (paC aj ai))))) (ay dL (pv 5) aj) (fun _ _=>rfl))) aj)) (al (gy (jI K rfl PySem.F.plainAttrs_list PySem.F.slot_list_append PySem.F.type_list_append cT (pv 4) (paC (dW (ki K rfl) (cm (paC (ay dL (ay eR (pv 7) (pv 7)) aj) (paC (ay dL (dW (ki K rfl) (pv 3) (pv 6) (fun _ _=>rfl)) (ay ko aj aj)) ai))) (bD pN rfl T.b_int boot_int (paC (e6 (jg K rfl hu) (dW (ki K rfl) (pv 3) (pv 6) (fun _ _=>rfl)) aj (bG _)) ai)) (fun _ _=>rfl)) ai))) (aA (pU (ay pV (dW (ki K rfl) (pv 3) (pv 6) (fun _ _=>rfl)) (ay ko aj aj)) (qK (pv 3) (pv 6) mn))))))) (aA (bd (jd K rfl rfl (pv 4) rfl T.b_list rfl T.b_reversed))))))),fnP (K:=K) (c:=aU) (ps:=cD) (N:=["_law_cells","_law_many","_law_own","_law_row","_law_deck_here","_law_k","_law_at","_law_one"]) (aH (bg (ak aF (ae (bM lN (ac (am (i:=0)) ag))) (ae (ak cK (ae (cq (ac (ae le_int) ag))) (ae (bM lU (ac (ae (ak lQ (ae (bM bH (ac (am (i:=0)) ag))) (ae le_int))) ag)))))) (aP (i:=2) rfl)) (aH (bg (fi (ix:=[none]) rfl (fh (aI (i:=2))) (fun fs hc=>(a9 (i:=0) (sr hc (by decide)))) nM (ak cK (am (i:=0)) (ae (bM lU (ac (ae (ak t3 (am (i:=0)) (ae (ak fY (ae le_int) (ae le_int))))) ag))))) (aP (i:=3) rfl)) (aH (bg (cq ag) (aP (i:=4) rfl)) (aH (eI (mO (ac (ae (aI (i:=1))) ag)) (a9 (i:=5) rfl) (aH (bg (ak bX (am (i:=5)) (ae (bM bH (ac (am (i:=2)) ag)))) (aP (i:=6) rfl)) (aH (bg (ak aF (ae (ak cK (ae (ak bX (ae (ak aF (ae (ak aF (ae (ak dY (am (i:=2)) (am (i:=6)))) (ae (ak cK (ae (ak cK (am (i:=5)) (am (i:=5)))) (ae le_int))))) (ae (ak cK (ae le_int) (am (i:=5)))))) (ae le_int))) (ae (ak dY (ae (cq (ac (ae le_int) (ac (ae le_int) (ac (ae le_int) (ac (ae le_int) ag)))))) (ae (ak bX (am (i:=5)) (ae le_int))))))) (ae le_int)) (aP (i:=7) rfl)) (aH (gP (jQ (i:=4) (ak dY (ae (cq (ac (ae (ak bX (ae (ak cK (am (i:=7)) (am (i:=7)))) (ae le_int))) (ac (ae (ak bX (ae (ak dY (am (i:=3)) (am (i:=6)))) (ae (ak fY (ae le_int) (ae le_int))))) ag)))) (ae (bM lU (ac (ae (ak fk (ae (ak dY (am (i:=3)) (am (i:=6)))) (ae le_int))) ag)))))) (pE (i:=3) (ak ng (ae (ak dY (am (i:=3)) (am (i:=6)))) (ae (ak fY (ae le_int) (ae le_int)))) (aI (i:=6))))))) (ba (kn (am (i:=4)))))))) (fun ds Q h=>Nat.le_trans (Nat.le_of_eq (fE ds Q h)) (by decide)) jo h⟩
theorem fF:∀p ds Q,au p ds Q->ds.length + 1=1:=fun p ds Q h=>by unfold au at h;split at h;(first | rfl | exact h.elim);(first | rfl | exact h.elim)
theorem ju (D:bW K mg "_law_next" ei) (T:Txt mg):Cal P w K mg base 1 "_law_next" ["_law_deck_here"] (spR K au):=by
 refine D.ok jk (fun _ _ _ _ _ _ us hl=>match us,hl with | [_],_=>rfl) (fun vs H Q E h=>?_) (fun f cdv A outer s H vs Q E hr h=>?_)
 .exact uj fF h
 .have hu:=hr.units
  exact ⟨_,(aA (bd (q0 PySem.F.plainAttrs_list PySem.F.slot_list_pop PySem.F.type_list_pop rc (pv 0)))),fnR (K:=K) (c:=au) (ps:=cE) (N:=["_law_deck_here"]) (ba (sd (i:=0))) (fun p ds Q h=>Nat.le_trans (Nat.le_of_eq (fF p ds Q h)) (by decide)) jp h⟩
theorem eO:∀ds Q,aK ds Q->ds.length=1:=fun ds Q h=>by unfold aK at h;split at h;(first | rfl | exact h.elim);(first | rfl | exact h.elim)
theorem iQ (D:bW K mg "_law_whole" dD) (T:Txt mg):Cal P w K mg base 1 "_law_whole" ["_law_found"] (spP K aK):=by
 refine D.ok iG (fun _ _ _ _ _ _ us hl=>match us,hl with | [_],_=>rfl) (fun vs H Q E h=>?_) (fun f cdv A outer s H vs Q E hr h=>?_)
 .exact kA eO h
 .have hu:=hr.units
  exact ⟨_,(aA (bd (nB (aq (kj K rfl) rfl T.b_isinstance boot_isinstance (paC (pv 0) (paC (dU (v:=.ty "int") rfl T.b_int boot_int rfl) ai))) (nA (qF (aq (kj K rfl) rfl T.b_isinstance boot_isinstance (paC (pv 0) (paC (dU (v:=.ty "bool") rfl T.b_bool boot_bool rfl) ai)))))))),fnP (K:=K) (c:=aK) (ps:=ca) (N:=["_law_found"]) (ba (lH (fZ .int (am (i:=0))) (rP (fZ .bool (am (i:=0)))))) (fun ds Q h=>Nat.le_trans (Nat.le_of_eq (eO ds Q h)) (by decide)) iL h⟩
theorem dw:∀ds Q,ap ds Q->ds.length=3:=fun ds Q h=>by unfold ap at h;split at h;(first | rfl | exact h.elim);(first | rfl | exact h.elim)
theorem fS (D:bW K mg "_law_spelled" cC) (T:Txt mg):Cal P w K mg base 1 "_law_spelled" ["_law_number","_law_letters","_law_most"] (spP K ap):=by
 refine D.ok bE (fun _ _ _ _ _ _ us hl=>match us,hl with | [_,_,_],_=>rfl) (fun vs H Q E h=>?_) (fun f cdv A outer s H vs Q E hr h=>?_)
 .exact kA dw h
 .have hu:=hr.units
  exact ⟨_,(al (bn (i:=3) bE.nd rfl (by first | exact Or.inl rfl | exact Or.inr rfl) (aB (l:=[]) (by decide +kernel))) (al (mh PassesOwn.never (PW.pt (kF (bA u6 (pv 0) aj (bG _)) (iV (bA uU (aq (cX K rfl) rfl T.b_len PySem.boot_len (paC (pv 3) ai)) (pv 2) (bG _))))) (al (bn (i:=3) bE.nd rfl (by first | exact Or.inl rfl | exact Or.inr rfl) (ay (aT K rfl) (pv 3) (dW (ki K rfl) (pv 1) (ay dL (pv 0) (aq (cX K rfl) rfl T.b_len PySem.boot_len (paC (pv 1) ai))) (fun _ _=>rfl)))) (aA (bn (i:=0) bE.nd rfl (by first | exact Or.inl rfl | exact Or.inr rfl) (ay f8 (pv 0) (aq (cX K rfl) rfl T.b_len PySem.boot_len (paC (pv 1) ai))))))) (aA (bd (pv 3))))),fnP (K:=K) (c:=ap) (ps:=bF) (N:=["_law_number","_law_letters","_law_most","_law_found"]) (aH (bg (le_str (l:=[])) (aP (i:=3) rfl)) (aH (mP (lG (jb (ak rS (am (i:=0)) (ae le_int))) (jb (ak rR (ae (bM bH (ac (am (i:=3)) ag))) (am (i:=2))))) (aH (bg (ak aF (am (i:=3)) (ae (ak dY (am (i:=1)) (ae (ak bX (am (i:=0)) (ae (bM bH (ac (am (i:=1)) ag)))))))) (aP (i:=3) rfl)) (bg (ak dX (am (i:=0)) (ae (bM bH (ac (am (i:=1)) ag)))) (aP (i:=0) rfl)))) (ba (aI (i:=3))))) (fun ds Q h=>Nat.le_trans (Nat.le_of_eq (dw ds Q h)) (by decide)) fP h⟩
theorem fG:∀p ds Q,aY p ds Q->ds.length + 1=1:=fun p ds Q h=>by unfold aY at h;split at h;(first | rfl | exact h.elim);(first | rfl | exact h.elim)
theorem jv (D:bW K mg "_law_text" ej) (T:Txt mg) (C_law_next:Cal P w K mg base 1 "_law_next" ["_law_deck_here"] (spR K au)) (C_law_spelled:Cal P w K mg base 1 "_law_spelled" ["_law_number","_law_letters","_law_most"] (spP K ap)):Cal P w K mg base 2 "_law_text" ["_law_deck_here"] (spR K aY):=by
 refine D.ok dE (fun _ _ _ _ _ _ us hl=>match us,hl with | [_],_=>rfl) (fun vs H Q E h=>?_) (fun f cdv A outer s H vs Q E hr h=>?_)
 .exact uj fG h
 .have hu:=hr.units
  exact ⟨_,(al (bn (i:=1) dE.nd rfl (by first | exact Or.inl rfl | exact Or.inr rfl) (dW (ki K rfl) (cm (paC aj (paC aj (paC aj (paC aj (paC aj (paC aj (paC aj ai)))))))) (ay dL (aQ C_law_next (hr.mono (by decide)) (paC (pv 0) ai)) aj) (fun _ _=>rfl))) (al (bn (i:=2) dE.nd rfl (by first | exact Or.inl rfl | exact Or.inr rfl) (dW (ki K rfl) (cm (paC (aB (l:=[97,98]) (by decide +kernel)) (paC (aB (l:=[97,122]) (by decide +kernel)) (paC (aB (l:=[97,97,98]) (by decide +kernel)) ai)))) (ay dL (aQ C_law_next (hr.mono (by decide)) (paC (pv 0) ai)) aj) (fun _ _=>rfl))) (aA (bd (de (qe K rfl) (ay eR (aQ C_law_spelled (hr.mono (by decide)) (paC (ay (aT K rfl) (aQ C_law_next (hr.mono (by decide)) (paC (pv 0) ai)) (ay ko aj aj)) (paC (pv 2) (paC aj ai)))) aj) iZ (cv (pv 1))))))),fnR (K:=K) (c:=aY) (ps:=cF) (N:=["_law_deck_here","_law_many","_law_letters"]) (aH (bg (ak dY (ae (cq (ac (ae le_int) (ac (ae le_int) (ac (ae le_int) (ac (ae le_int) (ac (ae le_int) (ac (ae le_int) (ac (ae le_int) ag))))))))) (ae (ak bX (ae (bP (i:=0) ag)) (ae le_int)))) (aP (i:=1) rfl)) (aH (bg (ak dY (ae (cq (ac (ae (le_str (l:=[97,98]))) (ac (ae (le_str (l:=[97,122]))) (ac (ae (le_str (l:=[97,97,98]))) ag))))) (ae (ak bX (ae (bP (i:=0) ag)) (ae le_int)))) (aP (i:=2) rfl)) (ba (df (ae (ak cK (ae (bb (c:=ap) (ac (ae (ak aF (ae (bP (i:=0) ag)) (ae (ak fY (ae le_int) (ae le_int))))) (ac (ae (aI (i:=2))) (ac (ae le_int) ag))))) (ae le_int))) gN (bN (aI (i:=1))))))) (fun p ds Q h=>Nat.le_trans (Nat.le_of_eq (fG p ds Q h)) (by decide)) jq h⟩
theorem dR:∀ds Q,aC ds Q->ds.length=2:=fun ds Q h=>by unfold aC at h;split at h;(first | rfl | exact h.elim);(first | rfl | exact h.elim)
theorem g9 (D:bW K mg "_law_gapped" c7) (T:Txt mg):Cal P w K mg base 1 "_law_gapped" ["_law_piece","_law_number"] (spP K aC):=by
 refine D.ok bi (fun _ _ _ _ _ _ us hl=>match us,hl with | [_,_],_=>rfl) (fun vs H Q E h=>?_) (fun f cdv A outer s H vs Q E hr h=>?_)
 .exact kA dR h
 .have hu:=hr.units
  exact ⟨_,(al (bn (i:=2) bi.nd rfl (by first | exact Or.inl rfl | exact Or.inr rfl) (aB (l:=[]) (by decide +kernel))) (al (eF PassesOwn.never rfl (fg K rfl (pv 0)) (bv (i:=3) bi.nd rfl (by first | exact Or.inl rfl | exact Or.inr rfl)) (al (oO (fK (bA (pI K rfl hu) (ay dL (pv 1) aj) aj (bG _)) (aA (bn (i:=3) bi.nd rfl (by first | exact Or.inl rfl | exact Or.inr rfl) (aB (l:=[63]) (by decide +kernel)))) cb)) (al (bn (i:=1) bi.nd rfl (by first | exact Or.inl rfl | exact Or.inr rfl) (ay f8 (pv 1) aj)) (aA (bn (i:=2) bi.nd rfl (by first | exact Or.inl rfl | exact Or.inr rfl) (ay (aT K rfl) (pv 2) (pv 3))))))) (aA (bd (pv 2))))),fnP (K:=K) (c:=aC) (ps:=bQ) (N:=["_law_piece","_law_number","_law_found","_law_sign"]) (aH (bg (le_str (l:=[])) (aP (i:=2) rfl)) (aH (eI (fh (aI (i:=0))) (a9 (i:=3) rfl) (aH (px (fO (jb (ak lQ (ae (ak bX (am (i:=1)) (ae le_int))) (ae le_int))) (bg (le_str (l:=[63])) (aP (i:=3) rfl)) ck)) (aH (bg (ak dX (am (i:=1)) (ae le_int)) (aP (i:=1) rfl)) (bg (ak aF (am (i:=2)) (am (i:=3))) (aP (i:=2) rfl))))) (ba (aI (i:=2))))) (fun ds Q h=>Nat.le_trans (Nat.le_of_eq (dR ds Q h)) (by decide)) gZ h⟩
theorem dS:∀p ds Q,aN p ds Q->ds.length + 1=2:=fun p ds Q h=>by unfold aN at h;split at h;(first | rfl | exact h.elim);(first | rfl | exact h.elim)
theorem hC (D:bW K mg "_law_pieces" c8) (T:Txt mg) (C_law_gapped:Cal P w K mg base 1 "_law_gapped" ["_law_piece","_law_number"] (spP K aC)) (C_law_next:Cal P w K mg base 1 "_law_next" ["_law_deck_here"] (spR K au)) (C_law_spelled:Cal P w K mg base 1 "_law_spelled" ["_law_number","_law_letters","_law_most"] (spP K ap)):Cal P w K mg base 2 "_law_pieces" ["_law_deck_here","_law_text_here"] (spR K aN):=by
 refine D.ok bx (fun _ _ _ _ _ _ us hl=>match us,hl with | [_,_],_=>rfl) (fun vs H Q E h=>?_) (fun f cdv A outer s H vs Q E hr h=>?_)
 .exact uj dS h
 .have hu:=hr.units
  exact ⟨_,(al (bn (i:=2) bx.nd rfl (by first | exact Or.inl rfl | exact Or.inr rfl) (cm (paC (aB (l:=[63]) (by decide +kernel)) (paC (ay eR (aB (l:=[63]) (by decide +kernel)) (ay (aT K rfl) aj (ay dL (aQ C_law_next (hr.mono (by decide)) (paC (pv 0) ai)) aj))) (paC (ay eR (aB (l:=[97]) (by decide +kernel)) aj) (paC (ay (aT K rfl) (pv 1) (aB (l:=[63]) (by decide +kernel))) (paC (de (qe K rfl) (ay (aT K rfl) (aB (l:=[63]) (by decide +kernel)) (pv 1)) iZ (cv aj)) ai))))))) (al (eF PassesOwn.never rfl (dH rfl T.b_range (paC aj ai)) (bv (i:=3) bx.nd rfl (by first | exact Or.inl rfl | exact Or.inr rfl)) (al (bn (i:=4) bx.nd rfl (by first | exact Or.inl rfl | exact Or.inr rfl) (aQ C_law_next (hr.mono (by decide)) (paC (pv 0) ai))) (al (bn (i:=5) bx.nd rfl (by first | exact Or.inl rfl | exact Or.inr rfl) (ay dL (pv 4) (ay (aT K rfl) (aq (cX K rfl) rfl T.b_len PySem.boot_len (paC (pv 1) ai)) aj))) (al (gy (jI K rfl PySem.F.plainAttrs_list PySem.F.slot_list_append PySem.F.type_list_append cT (pv 2) (paC (aQ C_law_gapped (hr.mono (by decide)) (paC (ay (aT K rfl) (de (qe K rfl) (pv 1) (cv (pv 5)) (cv (ay (aT K rfl) (ay (aT K rfl) (pv 5) aj) (ay dL (ay f8 (pv 4) aj) aj)))) (aB (l:=[63]) (by decide +kernel))) (paC (ay f8 (pv 4) aj) ai))) ai))) (aA (gy (jI K rfl PySem.F.plainAttrs_list PySem.F.slot_list_append PySem.F.type_list_append cT (pv 2) (paC (aQ C_law_gapped (hr.mono (by decide)) (paC (ay (aT K rfl) (de (qe K rfl) (pv 1) (cv (pv 5)) (cv (ay (aT K rfl) (ay (aT K rfl) (pv 5) aj) (ay dL (ay f8 (pv 4) aj) aj)))) (aB (l:=[97]) (by decide +kernel))) (paC (ay f8 (pv 4) aj) ai))) ai)))))))) (al (gy (jI K rfl PySem.F.plainAttrs_list PySem.F.slot_list_append PySem.F.type_list_append cT (pv 2) (paC (aQ C_law_spelled (hr.mono (by decide)) (paC (ay (aT K rfl) (aQ C_law_next (hr.mono (by decide)) (paC (pv 0) ai)) aj) (paC (aB (l:=[97,63,98,122]) (by decide +kernel)) (paC aj ai)))) ai))) (aA (bd (pv 2)))))),fnR (K:=K) (c:=aN) (ps:=bR) (N:=["_law_deck_here","_law_text_here","_law_found","_law_k","_law_number","_law_at"]) (aH (bg (cq (ac (ae (le_str (l:=[63]))) (ac (ae (ak cK (ae (le_str (l:=[63]))) (ae (ak aF (ae le_int) (ae (ak bX (ae (bP (i:=0) ag)) (ae le_int))))))) (ac (ae (ak cK (ae (le_str (l:=[97]))) (ae le_int))) (ac (ae (ak aF (am (i:=1)) (ae (le_str (l:=[63]))))) (ac (ae (df (ae (ak aF (ae (le_str (l:=[63]))) (am (i:=1)))) gN (bN le_int))) ag)))))) (aP (i:=2) rfl)) (aH (eI (mO (ac (ae le_int) ag)) (a9 (i:=3) rfl) (aH (bg (bP (i:=0) ag) (aP (i:=4) rfl)) (aH (bg (ak bX (am (i:=4)) (ae (ak aF (ae (bM bH (ac (am (i:=1)) ag))) (ae le_int)))) (aP (i:=5) rfl)) (aH (gP (jQ (i:=2) (bb (c:=aC) (ac (ae (ak aF (ae (df (am (i:=1)) (bN (aI (i:=5))) (bN (ak aF (ae (ak aF (am (i:=5)) (ae le_int))) (ae (ak bX (ae (ak dX (am (i:=4)) (ae le_int))) (ae le_int))))))) (ae (le_str (l:=[63]))))) (ac (ae (ak dX (am (i:=4)) (ae le_int))) ag))))) (gP (jQ (i:=2) (bb (c:=aC) (ac (ae (ak aF (ae (df (am (i:=1)) (bN (aI (i:=5))) (bN (ak aF (ae (ak aF (am (i:=5)) (ae le_int))) (ae (ak bX (ae (ak dX (am (i:=4)) (ae le_int))) (ae le_int))))))) (ae (le_str (l:=[97]))))) (ac (ae (ak dX (am (i:=4)) (ae le_int))) ag))))))))) (aH (gP (jQ (i:=2) (bb (c:=ap) (ac (ae (ak aF (ae (bP (i:=0) ag)) (ae le_int))) (ac (ae (le_str (l:=[97,63,98,122]))) (ac (ae le_int) ag)))))) (ba (aI (i:=2)))))) (fun p ds Q h=>Nat.le_trans (Nat.le_of_eq (dS p ds Q h)) (by decide)) g6 h⟩
theorem fH:∀ds Q,aR ds Q->ds.length=3:=fun ds Q h=>by unfold aR at h;split at h;(first | rfl | exact h.elim);(first | rfl | exact h.elim)
theorem jw (D:bW K mg "_law_fits" ek) (T:Txt mg):Cal P w K mg base 1 "_law_fits" ["_law_text_here","_law_piece","_law_place"] (spP K aR):=by
 refine D.ok fq (fun _ _ _ _ _ _ us hl=>match us,hl with | [_,_,_],_=>rfl) (fun vs H Q E h=>?_) (fun f cdv A outer s H vs Q E hr h=>?_)
 .exact kA fH h
 .have hu:=hr.units
  exact ⟨_,(al (fK (PW.pt (mf (bA uU (pv 2) aj (bG _)) (kE (bA u6 (ay (aT K rfl) (pv 2) (aq (cX K rfl) rfl T.b_len PySem.boot_len (paC (pv 1) ai))) (aq (cX K rfl) rfl T.b_len PySem.boot_len (paC (pv 0) ai)) (bG _))))) (aA (bd dy)) cb) (al (eF PassesOwn.never rfl (dH rfl T.b_range (paC (aq (cX K rfl) rfl T.b_len PySem.boot_len (paC (pv 1) ai)) ai)) (bv (i:=3) fq.nd rfl (by first | exact Or.inl rfl | exact Or.inr rfl)) (aA (fK (PW.pt (kF (bA (jg K rfl hu) (dW (ki K rfl) (pv 1) (pv 3) (fun _ _=>rfl)) (aB (l:=[63]) (by decide +kernel)) (bG _)) (iV (bA (jg K rfl hu) (dW (ki K rfl) (pv 1) (pv 3) (fun _ _=>rfl)) (dW (ki K rfl) (pv 0) (ay (aT K rfl) (pv 2) (pv 3)) (fun _ _=>rfl)) (bG _))))) (aA (bd dy)) cb))) (aA (bd dy)))),fnP (K:=K) (c:=aR) (ps:=cG) (N:=["_law_text_here","_law_piece","_law_place","_law_k"]) (aH (fO (mL (jb (ak rR (am (i:=2)) (ae le_int))) (jb (ak rS (ae (ak aF (am (i:=2)) (ae (bM bH (ac (am (i:=1)) ag))))) (ae (bM bH (ac (am (i:=0)) ag)))))) (ba dA) ck) (aH (eI (mO (ac (ae (bM bH (ac (am (i:=1)) ag))) ag)) (a9 (i:=3) rfl) (fO (lG (jb (ak fk (ae (ak dY (am (i:=1)) (am (i:=3)))) (ae (le_str (l:=[63]))))) (jb (ak fk (ae (ak dY (am (i:=1)) (am (i:=3)))) (ae (ak dY (am (i:=0)) (ae (ak aF (am (i:=2)) (am (i:=3))))))))) (ba dA) ck)) (ba dA))) (fun ds Q h=>Nat.le_trans (Nat.le_of_eq (fH ds Q h)) (by decide)) jr h⟩
theorem cP:∀ds Q,ax ds Q->ds.length=1:=fun ds Q h=>by unfold ax at h;split at h;(first | rfl | exact h.elim);(first | rfl | exact h.elim)
theorem eX (D:bW K mg "_law_no_gapped" bV) (T:Txt mg):Cal P w K mg base 1 "_law_no_gapped" ["_law_piece"] (spP K ax):=by
 refine D.ok cL (fun _ _ _ _ _ _ us hl=>match us,hl with | [_],_=>rfl) (fun vs H Q E h=>?_) (fun f cdv A outer s H vs Q E hr h=>?_)
 .exact kA cP h
 .have hu:=hr.units
  exact ⟨_,(al (bn (i:=1) cL.nd rfl (by first | exact Or.inl rfl | exact Or.inr rfl) (cm (paC (aB (l:=[]) (by decide +kernel)) (paC (ay eR (aB (l:=[63]) (by decide +kernel)) aj) (paC (ay (aT K rfl) (pv 0) (aB (l:=[65]) (by decide +kernel))) (paC (ay (aT K rfl) (aB (l:=[33]) (by decide +kernel)) (pv 0)) (paC (ay (aT K rfl) (pv 0) (aB (l:=[32]) (by decide +kernel))) (paC (aB (l:=[97,10]) (by decide +kernel)) (paC (aB (l:=[97,98,42]) (by decide +kernel)) (paC (aB (l:=[123]) (by decide +kernel)) (paC (aB (l:=[48]) (by decide +kernel)) (paC qB (paC aj (paC dy (paC (cm (paC (aB (l:=[97]) (by decide +kernel)) ai)) ai))))))))))))))) (aA (bd (ay (aT K rfl) (pv 1) (cm (paC (qR (paC (aB (l:=[97]) (by decide +kernel)) (paC (aB (l:=[98]) (by decide +kernel)) ai))) (paC mI (paC (cm ai) (paC (ay (aT K rfl) (de (qe K rfl) (pv 0) iZ (cv aj)) (aB (l:=[95]) (by decide +kernel))) (paC (ay eR (aB (l:=[97]) (by decide +kernel)) aj) ai)))))))))),fnP (K:=K) (c:=ax) (ps:=bq) (N:=["_law_piece","_law_found"]) (aH (bg (cq (ac (ae (le_str (l:=[]))) (ac (ae (ak cK (ae (le_str (l:=[63]))) (ae le_int))) (ac (ae (ak aF (am (i:=0)) (ae (le_str (l:=[65]))))) (ac (ae (ak aF (ae (le_str (l:=[33]))) (am (i:=0)))) (ac (ae (ak aF (am (i:=0)) (ae (le_str (l:=[32]))))) (ac (ae (le_str (l:=[97,10]))) (ac (ae (le_str (l:=[97,98,42]))) (ac (ae (le_str (l:=[123]))) (ac (ae (le_str (l:=[48]))) (ac (ae rM) (ac (ae le_int) (ac (ae dA) (ac (ae (cq (ac (ae (le_str (l:=[97]))) ag))) ag)))))))))))))) (aP (i:=1) rfl)) (ba (ak aF (am (i:=1)) (ae (cq (ac (ae (rN (ac (ae (le_str (l:=[97]))) (ac (ae (le_str (l:=[98]))) ag)))) (ac (ae pH) (ac (ae (cq ag)) (ac (ae (ak aF (ae (df (am (i:=0)) gN (bN le_int))) (ae (le_str (l:=[95]))))) (ac (ae (ak cK (ae (le_str (l:=[97]))) (ae le_int))) ag)))))))))) (fun ds Q h=>Nat.le_trans (Nat.le_of_eq (cP ds Q h)) (by decide)) eV h⟩
theorem fJ:∀ds Q,aV ds Q->ds.length=2:=fun ds Q h=>by unfold aV at h;split at h;(first | rfl | exact h.elim);(first | rfl | exact h.elim)
theorem jx (D:bW K mg "_law_told" eo) (T:Txt mg):Cal P w K mg base 1 "_law_told" ["_law_found","_law_due"] (spP K aV):=by
 refine D.ok jl (fun _ _ _ _ _ _ us hl=>match us,hl with | [_,_],_=>rfl) (fun vs H Q E h=>?_) (fun f cdv A outer s H vs Q E hr h=>?_)
 .exact kA fJ h
 .have hu:=hr.units
  exact ⟨_,(aA (bd (nB (aq (kj K rfl) rfl T.b_isinstance boot_isinstance (paC (pv 0) (paC (dU (v:=.ty "bool") rfl T.b_bool boot_bool rfl) ai))) (nA (e6 (pI K rfl hu) (pv 0) (pv 1) (bG _)))))),fnP (K:=K) (c:=aV) (ps:=cH) (N:=["_law_found","_law_due"]) (ba (lH (fZ .bool (am (i:=0))) (ak lQ (am (i:=0)) (am (i:=1))))) (fun ds Q h=>Nat.le_trans (Nat.le_of_eq (fJ ds Q h)) (by decide)) js h⟩
theorem nY:∀ds Q,jZ ds Q->ds.length=1:=fun ds Q h=>by obtain ⟨_,rfl,_⟩:=h;rfl
theorem sK (D:bW K mg "law" nr) (T:Txt mg) (C_law_deck:Cal P w K mg base 1 "_law_deck" ["_law_cells","_law_many"] (spP K aU)) (C_law_fits:Cal P w K mg base 1 "_law_fits" ["_law_text_here","_law_piece","_law_place"] (spP K aR)) (C_law_next:Cal P w K mg base 1 "_law_next" ["_law_deck_here"] (spR K au)) (C_law_no_gapped:Cal P w K mg base 1 "_law_no_gapped" ["_law_piece"] (spP K ax)) (C_law_pieces:Cal P w K mg base 2 "_law_pieces" ["_law_deck_here","_law_text_here"] (spR K aN)) (C_law_text:Cal P w K mg base 2 "_law_text" ["_law_deck_here"] (spR K aY)) (C_law_told:Cal P w K mg base 1 "_law_told" ["_law_found","_law_due"] (spP K aV)) (C_law_whole:Cal P w K mg base 1 "_law_whole" ["_law_found"] (spP K aK)) (C_fits_at:Cal P w K mg base 1 "fits_at" ["text","gapped","place"] (spP K aL)) (C_gapped_places:Cal P w K mg base 2 "gapped_places" ["text","gapped"] (spP K aw)) (C_is_gapped:Cal P w K mg base 2 "is_gapped" ["thing"] (spP K aG)):Cal P w K mg base 3 "law" ["_law_script"] (spP K jZ):=by
 refine D.ok dO (fun _ _ _ _ _ _ us hl=>match us,hl with | [_],_=>rfl) (fun vs H Q E h=>?_) (fun f cdv A outer s H vs Q E hr h=>?_)
 .exact kA nY h
 .have hu:=hr.units
  exact ⟨_,(al (bn (i:=1) dO.nd rfl (by first | exact Or.inl rfl | exact Or.inr rfl) (aQ C_law_deck (hr.mono (by decide)) (paC (pv 0) (paC aj ai)))) (al (bn (i:=2) dO.nd rfl (by first | exact Or.inl rfl | exact Or.inr rfl) (aQ C_law_text (hr.mono (by decide)) (paC (pv 1) ai))) (al (bn (i:=3) dO.nd rfl (by first | exact Or.inl rfl | exact Or.inr rfl) (aQ C_law_pieces (hr.mono (by decide)) (paC (pv 1) (paC (pv 2) ai)))) (al (eF PassesOwn.never rfl (fg K rfl (pv 3)) (bv (i:=4) dO.nd rfl (by first | exact Or.inl rfl | exact Or.inr rfl)) (al (fK (bA lI (aQ C_is_gapped (hr.mono (by decide)) (paC (pv 4) ai)) dy (bG _)) (aA (bd dy)) cb) (al (lv (wi:=(oi (bL (tUn sk (tC (V.int 3))) (bL (tOp (pT K) (tCB (mN K) (bL (eE 2) jE)) (tC (V.int 3))) jE)))) (g:=(fL 0)) (tts:=(tB (fM (spP K aR) [] E0 (bL (eE 1) (bL (eE 2) (bL (eE 0) jE)))))) (te:=(eE 0)) (i:=5) ["_law_place","_law_text_here","_law_piece"] [none,some 2,some 4] dO.nd rfl (Or.inl rfl) rfl (kH rfl T.b_range (paC (oj kJ aj) (paC (ay (aT K rfl) (aq (cX K rfl) rfl T.b_len PySem.boot_len (paC (pv 2) ai)) aj) ai))) (fun _ _ _ _=>⟨(bv (i:=0) (by show List.Nodup (["_law_place","_law_text_here","_law_piece"]:List Str);decide +kernel) rfl (by first | exact Or.inl rfl | exact Or.inr rfl)),(i6 (ee (aQ C_law_fits (hr.mono (by decide)) (paC (pv 1) (paC (pv 2) (paC (pv 0) ai)))))),(pv 0)⟩) (by kernel_rfl)) (al (eF PassesOwn.never rfl (fg K rfl (ay (aT K rfl) (bD (si K rfl rfl) rfl T.b_list boot_list (paC (lx rfl T.b_range (paC (oj kJ aj) (paC (ay (aT K rfl) (aq (cX K rfl) rfl T.b_len PySem.boot_len (paC (pv 2) ai)) aj) ai))) ai)) (cm (paC (ay ko aj aj) (paC (oj kJ (ay ko aj aj)) ai))))) (bv (i:=6) dO.nd rfl (by first | exact Or.inl rfl | exact Or.inr rfl)) (aA (fK (fT (ee (aQ C_law_told (hr.mono (by decide)) (paC (aQ C_fits_at (hr.mono (by decide)) (paC (pv 2) (paC (pv 4) (paC (pv 6) ai)))) (paC (e6 (uq K rfl) (pv 6) (pv 5) (by with_unfolding_all rfl)) ai))))) (aA (bd dy)) cb))) (al (bn (i:=7) dO.nd rfl (by first | exact Or.inl rfl | exact Or.inr rfl) (aQ C_gapped_places (hr.mono (by decide)) (paC (pv 2) (paC (pv 4) ai)))) (aA (fK (PW.pt (mf (fT (ee (aq (kj K rfl) rfl T.b_isinstance boot_isinstance (paC (pv 7) (paC (dU (v:=.ty "tuple") rfl T.b_tuple boot_tuple rfl) ai))))) (mf (bA (jg K rfl hu) (bD (nO K rfl) rfl T.b_list boot_list (paC (pv 7) ai)) (pv 5) (bG _)) (kE (bA (jg K rfl hu) (i7 (wi:=(qf K (eE 7))) (g:=(fL 0)) (tts:=(sW (tB (fM (spP K aK) [] E0 (bL (eE 0) jE))))) (te:=(eE 0)) ["_law_one"] [none] rfl (fg K rfl (pv 7)) (fun _ _ _ _=>⟨(bv (i:=0) (by show List.Nodup (["_law_one"]:List Str);decide +kernel) rfl (by first | exact Or.inl rfl | exact Or.inr rfl)),(i6 (fT (ee (aQ C_law_whole (hr.mono (by decide)) (paC (pv 0) ai))))),(pv 0)⟩) (by kernel_rfl)) (cm ai) (bG _)))))) (aA (bd dy)) cb))))))) (al (eF PassesOwn.never rfl (fg K rfl (aQ C_law_no_gapped (hr.mono (by decide)) (paC (dW (ki K rfl) (pv 3) (ay dL (aQ C_law_next (hr.mono (by decide)) (paC (pv 1) ai)) (aq (cX K rfl) rfl T.b_len PySem.boot_len (paC (pv 3) ai))) (fun _ _=>rfl)) ai))) (bv (i:=8) dO.nd rfl (by first | exact Or.inl rfl | exact Or.inr rfl)) (aA (fK (bA lI (aQ C_is_gapped (hr.mono (by decide)) (paC (pv 8) ai)) dy (bG _)) (aA (bd dy)) cb))) (aA (bd dy))))))),fnP (K:=K) (c:=jZ) (ps:=j0) (N:=["_law_script","_law_deck_here","_law_text_here","_law_pieces_here","_law_piece","_law_here","_law_place","_law_told_here","_law_thing"]) (aH (bg (bb (c:=aU) (ac (ae (aI (i:=0))) (ac (ae le_int) ag))) (aP (i:=1) rfl)) (aH (bg (bP (i:=1) ag) (aP (i:=2) rfl)) (aH (bg (bP (i:=1) (ac (ae (aI (i:=2))) ag)) (aP (i:=3) rfl)) (aH (eI (fh (aI (i:=3))) (a9 (i:=4) rfl) (aH (fO (jb (ak rV (ae (bb (c:=aG) (ac (ae (aI (i:=4))) ag))) (ae dA))) (ba dA) ck) (aH (bg (fi (ix:=[none,some 2,some 4]) rfl (t7 (ac (ae (oY lO (ae le_int))) (ac (ae (ak aF (ae (bM bH (ac (am (i:=2)) ag))) (ae le_int))) ag))) (fun fs hc=>(a9 (i:=0) (sr hc (by decide)))) (oZ (bb (c:=aR) (ac (ae (aI (i:=1))) (ac (ae (aI (i:=2))) (ac (ae (aI (i:=0))) ag))))) (aI (i:=0))) (aP (i:=5) rfl)) (aH (eI (fh (ak aF (ae (mS false (ac (ae (oY lO (ae le_int))) (ac (ae (ak aF (ae (bM bH (ac (am (i:=2)) ag))) (ae le_int))) ag)))) (ae (cq (ac (ae (ak fY (ae le_int) (ae le_int))) (ac (ae (oY lO (ae (ak fY (ae le_int) (ae le_int))))) ag)))))) (a9 (i:=6) rfl) (fO (fX (oZ (bb (c:=aV) (ac (ae (bb (c:=aL) (ac (ae (aI (i:=2))) (ac (ae (aI (i:=4))) (ac (ae (aI (i:=6))) ag))))) (ac (ae (ak sD (am (i:=6)) (am (i:=5)))) ag))))) (ba dA) ck)) (aH (bg (bb (c:=aw) (ac (ae (aI (i:=2))) (ac (ae (aI (i:=4))) ag))) (aP (i:=7) rfl)) (fO (mL (fX (oZ (fZ .tuple (am (i:=7))))) (mL (jb (ak fk (ae (bM lN (ac (am (i:=7)) ag))) (am (i:=5)))) (jb (ak fk (ae (fi (ix:=[none]) rfl (fh (aI (i:=7))) (fun fs hc=>(a9 (i:=0) (sr hc (by decide)))) (fX (oZ (bb (c:=aK) (ac (ae (aI (i:=0))) ag)))) (aI (i:=0)))) (ae (cq ag)))))) (ba dA) ck)))))) (aH (eI (fh (bb (c:=ax) (ac (ae (ak dY (am (i:=3)) (ae (ak bX (ae (bP (i:=1) ag)) (ae (bM bH (ac (am (i:=3)) ag))))))) ag))) (a9 (i:=8) rfl) (fO (jb (ak rV (ae (bb (c:=aG) (ac (ae (aI (i:=8))) ag))) (ae dA))) (ba dA) ck)) (ba dA)))))) (fun ds Q h=>Nat.le_trans (Nat.le_of_eq (nY ds Q h)) (by decide)) sJ h⟩
end
theorem sL {l:PySem.W.OpenLaw}{w:World}{K:PySem.W.Frag}{h:Heap}{mg:Str->Option Value}{fa:Addr} (X:K.In h) (G:h.Ns mainGlobals mg) (hfa:mg "law"=some (.ref fa))
  {f1:Addr}{oc1 kV1 dc1 pm1 cd1 ct1:Value}{od1 an1 dd1:Option Addr}{sl1 st1:Array (Option Value)}{dT1:Addr}{n1:Nat}{u1_0 u1_1:Tok} (a1:PySem.W.nsIn K mainGlobals "is_text"=some (some (.ref f1))) (l1:K.lookup f1=some ⟨oc1,od1,.func (PySem.W.fnOf "is_text" "is_text" (bB cu) (a8 cu) (ah cu) (.ref dT1) kV1 dc1 pm1 an1 cd1 ct1),sl1⟩) (c1:PySem.W.codeIn K cd1 "is_text"=true) (k1:PySem.W.keepIn K (.ref f1)=true) (t1:K.lookup dT1=some ⟨.type "tuple",dd1,.seq [.int 0 u1_0,.int 4000 u1_1].toArray n1,st1⟩)
  (d2:iS K "fits_at" fo)
  (d3:iS K "_law_deck" eh)
  (d4:iS K "_law_next" ei)
  (d5:iS K "_law_whole" dD)
  (d6:iS K "_law_spelled" cC)
  (d7:iS K "_law_gapped" c7)
  (d8:iS K "_law_fits" ek)
  (d9:iS K "_law_no_gapped" bV)
  (d10:iS K "_law_told" eo)
  (d11:iS K "is_gapped" dC)
  (d12:iS K "gapped_places" bU)
  (d13:iS K "_law_text" ej)
  (d14:iS K "_law_pieces" c8)
  (d15:iS K "law" nr)
  (z1:PySem.W.nsIn K mainGlobals "all"=some none)
  (z2:PySem.W.nsIn K mainGlobals "bool"=some none)
  (z3:PySem.W.nsIn K mainGlobals "int"=some none)
  (z4:PySem.W.nsIn K mainGlobals "isinstance"=some none)
  (z5:PySem.W.nsIn K mainGlobals "len"=some none)
  (z6:PySem.W.nsIn K mainGlobals "list"=some none)
  (z7:PySem.W.nsIn K mainGlobals "range"=some none)
  (z8:PySem.W.nsIn K mainGlobals "reversed"=some none)
  (z9:PySem.W.nsIn K mainGlobals "str"=some none)
  (z10:PySem.W.nsIn K mainGlobals "tuple"=some none)
  (z11:PySem.W.nsIn K mainGlobals "zip"=some none)
  {ty1:Tok} (y1:PySem.W.nsIn K mainGlobals "MOST_SIGNS"=some (some (.int 60 ty1))) :
  ∃fd:FuncData,(∀(s:Shared) (v:Value),BindsTo s fd ⟨[v],[]⟩ [("_law_script",v)])/\∀base:Heap,K.In base->base.Ns mainGlobals mg->iX l.prog w K mg base CX0 3 fa fd ["_law_script"] (ka K):=by
 have D_is_text:jH K mg "is_text" cu [.int 0,.int 4000]:=⟨⟨f1,dT1,oc1,od1,an1,dd1,kV1,dc1,pm1,cd1,ct1,sl1,st1,[.int 0 u1_0,.int 4000 u1_1],n1,l1,c1,k1,PySem.W.mg_of X G a1,t1,(.cons ⟨_,rfl⟩ (.cons ⟨_,rfl⟩ .nil))⟩⟩
 have D_fits_at:=bY d2 X G
 have D_law_deck:=bY d3 X G
 have D_law_next:=bY d4 X G
 have D_law_whole:=bY d5 X G
 have D_law_spelled:=bY d6 X G
 have D_law_gapped:=bY d7 X G
 have D_law_fits:=bY d8 X G
 have D_law_no_gapped:=bY d9 X G
 have D_law_told:=bY d10 X G
 have D_is_gapped:=bY d11 X G
 have D_gapped_places:=bY d12 X G
 have D_law_text:=bY d13 X G
 have D_law_pieces:=bY d14 X G
 have D_law:=bY d15 X G
 have T:Txt mg:=⟨PySem.W.mg_none_of X G z1,PySem.W.mg_none_of X G z2,PySem.W.mg_none_of X G z3,PySem.W.mg_none_of X G z4,PySem.W.mg_none_of X G z5,PySem.W.mg_none_of X G z6,PySem.W.mg_none_of X G z7,PySem.W.mg_none_of X G z8,PySem.W.mg_none_of X G z9,PySem.W.mg_none_of X G z10,PySem.W.mg_none_of X G z11,⟨_,PySem.W.mg_of X G y1⟩⟩
 refine rE (st:=nr) hfa D_law (fun _ _ _ _ _ _ s v=>.of_eq rfl) fun base=>?_
 have C_is_text:=ky (P:=l.prog) (w:=w) (base:=base) D_is_text T
 have C_fits_at:=kz (P:=l.prog) (w:=w) (base:=base) D_fits_at T
 have C_law_deck:=jt (P:=l.prog) (w:=w) (base:=base) D_law_deck T
 have C_law_next:=ju (P:=l.prog) (w:=w) (base:=base) D_law_next T
 have C_law_whole:=iQ (P:=l.prog) (w:=w) (base:=base) D_law_whole T
 have C_law_spelled:=fS (P:=l.prog) (w:=w) (base:=base) D_law_spelled T
 have C_law_gapped:=g9 (P:=l.prog) (w:=w) (base:=base) D_law_gapped T
 have C_law_fits:=jw (P:=l.prog) (w:=w) (base:=base) D_law_fits T
 have C_law_no_gapped:=eX (P:=l.prog) (w:=w) (base:=base) D_law_no_gapped T
 have C_law_told:=jx (P:=l.prog) (w:=w) (base:=base) D_law_told T
 have C_is_gapped:=iP (P:=l.prog) (w:=w) (base:=base) D_is_gapped T C_is_text
 have C_gapped_places:=eW (P:=l.prog) (w:=w) (base:=base) D_gapped_places T C_fits_at
 have C_law_text:=jv (P:=l.prog) (w:=w) (base:=base) D_law_text T C_law_next C_law_spelled
 have C_law_pieces:=hC (P:=l.prog) (w:=w) (base:=base) D_law_pieces T C_law_gapped C_law_next C_law_spelled
 exact (sK (P:=l.prog) (w:=w) (base:=base) D_law T C_law_deck C_law_fits C_law_next C_law_no_gapped C_law_pieces C_law_text C_law_told C_law_whole C_fits_at C_gapped_places C_is_gapped).imp fun _ _ _ _ h=>pF h
end K58

open PySem PySem.W PyProof.Rows
local macro_rules | `(tactic| walk_at "fn") => `(tactic| (refine' L2.sE ?a ?l ?c ?k; (case a => k_is); (case l => k_is); (case c => k_is); (case k => k_is)))
set_option maxRecDepth 100000 in
set_option maxHeartbeats 0 in
theorem PySem.Challenge.cw_shortglue_k58_fits_holds : PySem.Challenge.rw_shortglue_k58_fits.Holds := by
  refine topHd ?_
  k_fill
  refine L2.rF (l := PySem.Challenge.rw_shortglue_k58_fits) (k := 3) (x := "_law_script") rfl rfl ⟨rfl, by decide, by decide⟩ (fun w h Y => PySem.W.kIn_of Y) ?F
  case F =>
    intro w mg fa h KX G hmg
    refine' K58.sL KX G hmg ?a1 ?l1 ?c1 ?k1 ?t1 ?d2 ?d3 ?d4 ?d5 ?d6 ?d7 ?d8 ?d9 ?d10 ?d11 ?d12 ?d13 ?d14 ?d15 ?z1 ?z2 ?z3 ?z4 ?z5 ?z6 ?z7 ?z8 ?z9 ?z10 ?z11 ?y1
    (case a1 => k_is)
    (case l1 => k_is)
    (case c1 => k_is)
    (case k1 => k_is)
    (case t1 => k_is)
    (case d2 => walk_at "fn")
    (case d3 => walk_at "fn")
    (case d4 => walk_at "fn")
    (case d5 => walk_at "fn")
    (case d6 => walk_at "fn")
    (case d7 => walk_at "fn")
    (case d8 => walk_at "fn")
    (case d9 => walk_at "fn")
    (case d10 => walk_at "fn")
    (case d11 => walk_at "fn")
    (case d12 => walk_at "fn")
    (case d13 => walk_at "fn")
    (case d14 => walk_at "fn")
    (case d15 => walk_at "fn")
    (case z1 => k_is)
    (case z2 => k_is)
    (case z3 => k_is)
    (case z4 => k_is)
    (case z5 => k_is)
    (case z6 => k_is)
    (case z7 => k_is)
    (case z8 => k_is)
    (case z9 => k_is)
    (case z10 => k_is)
    (case z11 => k_is)
    (case y1 => k_is)
