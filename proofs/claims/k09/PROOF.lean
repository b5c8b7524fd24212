import PyProof.Rows.All
import Wide.All
import OpenK.AllK
import Wide.FinOn
import Lean
import PyProof.EqAt
import PyProof.EqKinds
import PyProof.TupleCall
import KE.KSortTup
import PyProof.FString
import PyProof.StrBlock
import KE.KRevSl
import PyProof.StrLawsReplace
import PyProof.StrCalls6
import PyProof.MinMaxWalk
import PyProof.WalkInts
import PyProof.NeKinds
import KE.KEqDict
import PyProof.Rows.SumAny
import KE.KMinKey
import PyProof.Rows.CallKwBuiltin
import PySem.Challenge.RW_shortglue_k09_beginnings
set_option Elab.async false
set_option linter.all false
set_option maxRecDepth 100000
set_option maxHeartbeats 4000000
noncomputable section
namespace L2
open PySem PySem.W
def ia (tb:String->Option Builtin) (p:Program) (w:World) (n₀:Nat) (ann:Option Value):Nat->SharedT->Thread->Option SharedT
 | 0,_,_=>none
 | n + 1,s,t=>match through t with
  | true=>some s
  | false=>match stepOk n₀ ann t with
   | false=>none
   | true=>match stepT (denote tb) p w s t with
    | some (s',t')=>ia tb p w n₀ ann n s' t'
    | none=>none
theorem iI {tb:String->Option Builtin}{p:Program}{w:World}{n₀:Nat}{ann:Option Value}:∀{n:Nat}{s s':SharedT}{t:Thread},ia tb p w n₀ ann n s t=some s'->topRun tb p w n₀ ann n s.abs t=some s'.abs
 | 0,_,_,_,h=>by cases h
 | n + 1,s,s',t,h=>by
  unfold ia at h
  unfold topRun
  cases he:through t with
  | true=>rw [he] at h;cases h;rfl
  | false =>
   rw [he] at h
   cases hk:stepOk n₀ ann t with
   | false=>rw [hk] at h;cases h
   | true =>
    rw [hk] at h
    cases hs:stepT (denote tb) p w s t with
    | none=>rw [hs] at h;cases h
    | some r=>obtain ⟨s₂,t₂⟩:=r;rw [hs] at h;rw [stepT_spec hs];exact iI h
def oq:List Obj->Nat->BT->BT
 | [],_,t=>t
 | o::r,i,t=>oq r (i + 1) (t.ins i o)
def oV (P:Params):BT:=oq (boot_heap P).objs.toList 0 .nil
theorem nh:∀P,absHeap (oV P) (boot_heap P).objs.size (boot_heap P).life=boot_heap P:=fun P=>by kernel_rfl
theorem qZ {p q:Program}{loose:List Str}{Xt:Shared->Bool}{α:Type}{Yf:Shared->α}{Ya:World->α}{N:Nat}{g0:Bool}{m₀:Nat}{ann:Option Value}
  (e:opening p=plainProg p.main.scope.names) (hN:Nat.ble 600 N=true) (f:∀s,fenceModules? p s=some s)
  (size:∀w:World,((boot_heap w.params).isNs mainGlobals && (Array.mk []:Array GenState).size == 0,(boot_heap w.params).objs.size,(boot_heap w.params).nsMap mainGlobals "__annotations__")=(true,m₀,ann))
  (run:∀(w:World) (os:OsState),(ia treeTable p w m₀ ann N ⟨oV w.params,m₀,(boot_heap w.params).life,Array.mk [],boot_drawn,boot_toks,os⟩ (topStub p)).map (fun sT=>((staticsOk (importedModules p.main.body) (boot_heap w.params) sT.abs.heap && namesBound p sT.abs.heap && gensDone sT.abs && laidKept (boot_heap w.params) sT.abs.heap),openSeen q loose (importedModules p.main.body) Xt g0 sT.abs,Yf sT.abs))=some (true,openGood q loose,Ya w)):LeftO p q loose Xt Yf Ya N g0:=fun w=>by
 obtain ⟨⟨h,gs,d,k,os⟩,e,e'⟩:=Option.map_eq_some_iff.mp (boot_open e hN f w)
 obtain ⟨rfl,rfl,rfl,rfl⟩:h=boot_heap w.params/\gs=Array.mk []/\d=boot_drawn/\k=boot_toks:=by simpa using e'
 obtain ⟨z1,z2,z3⟩:_/\_/\_:=by simpa only [Prod.mk.injEq] using size w
 obtain ⟨sT,r,l⟩:=Option.map_eq_some_iff.mp (run w os)
 obtain ⟨l1,l2,l3⟩:_/\_/\_:=by simpa only [Prod.mk.injEq] using l
 have r:=iI r
 rw [show SharedT.abs ⟨oV w.params,m₀,(boot_heap w.params).life,Array.mk [],boot_drawn,boot_toks,os⟩=⟨boot_heap w.params,Array.mk [],boot_drawn,boot_toks,os⟩ by
  unfold SharedT.abs;dsimp only;rw [<- z2,nh]] at r
 have t:topFrom treeTable p w N ⟨boot_heap w.params,Array.mk [],boot_drawn,boot_toks,os⟩=some sT.abs:=by
  unfold topFrom
  dsimp only
  rw [z1,z2,z3,r]
  show (match staticsOk (importedModules p.main.body) (boot_heap w.params) sT.abs.heap && namesBound p sT.abs.heap && gensDone sT.abs && laidKept (boot_heap w.params) sT.abs.heap with | true=>_ | false=>_)=_
  rw [l1]
 unfold openEnds
 rw [e]
 show (topFrom treeTable p w N _).map _=_
 rw [t]
 exact congrArg some (Prod.ext l2 l3)
end L2
section
open PySem PySem.W PyProof.Rows
def oW:Program:=PySem.W.view PySem.Challenge.pw_shortglue_k09_beginnings [0,2,4,5,6,7,8,9,10,11,12,13,14,15]
local macro_rules | `(tactic| o_head $H)=>`(tactic| (refine holds_open (q:=oW) (loose:=[]) (Xt:=fun s=>xlAt oW [] s && recOk (RowW.records (OpenRow.toRowW (OpenLaw.row PySem.Challenge.rw_shortglue_k09_beginnings))) s) (XP:=XL oW []) (Yf:=Hook.obs $H) (Ya:=Hook.val $H) (YP:=Hook.says $H) (N:=1710) ?hl (Hook.of $H) (Hook.keeps $H) (fun s e=>xl_of s (Bool.and_eq_true_iff.mp e).1) XL.keeps (by rfl) (by rfl) (by rfl) (fun s e=>recFacts_of (Bool.and_eq_true_iff.mp e).2) (by rfl) (by first | assumption | decide +kernel) (by decide +kernel) ⟨rfl,rfl,rfl,rfl,rfl,by decide +kernel⟩ ?hw ?hc;(case hl=>(refine L2.qZ (m₀:=11) (ann:=some (.ref 6)) (by kernel_rfl) (by rfl) (fun s=>by kernel_rfl) (fun w=>by kernel_rfl) ?_;intro w os;kernel_rfl))))
set_option maxRecDepth 100000 in
set_option maxHeartbeats 0 in
open_top topHd for PySem.Challenge.rw_shortglue_k09_beginnings
end
-- CHANGE: your row's module here,as the last of these rows
namespace L2
open PySem PySem.Spec PyProof.Rows
abbrev Key:=Sum Int Str
def kA:Key->Value->Bool
 | .inl k,v=>Value.isInt k v
 | .inr x,v=>Value.isStrOf x v
def vw (w:World):Key->Int
 | .inl k=>hashInt k
 | .inr x=>hashStr w x
theorem bj:∀{k:Key}{v:Value},kA k v=true->(∃i t,k=Sum.inl i/\v=Value.int i t)\/(∃x t,k=Sum.inr x/\v=Value.str x t)
 | .inl i,v,h=>by
  obtain ⟨t,e⟩:=Value.isInt_shape (k:=i) (v:=v) h
  exact .inl ⟨i,t,rfl,e⟩
 | .inr x,v,h=>by
  obtain ⟨t,e⟩:=Value.isStrOf_shape (x:=x) (v:=v) h
  exact .inr ⟨x,t,rfl,e⟩
theorem lg (i:Int) (t:Tok):kA (.inl i) (.int i t)=true:=by simp [kA,Value.isInt]
theorem lh (x:Str) (t:Tok):kA (.inr x) (.str x t)=true:=by simp [kA,Value.isStrOf]
theorem rc (a b:Int):decide ((Sum.inl a:Key)=Sum.inl b)=(a == b):=by
 by_cases e:a=b
 .subst e;simp
 .have h:¬ (Sum.inl a:Key)=Sum.inl b:=fun q=>e (Sum.inl.inj q)
  rw [decide_eq_false h]
  exact (beq_eq_false_iff_ne.mpr e).symm
theorem re (a b:Str):decide ((Sum.inr a:Key)=Sum.inr b)=decide (a=b):=by
 by_cases e:a=b
 .subst e;simp
 .have h:¬ (Sum.inr a:Key)=Sum.inr b:=fun q=>e (Sum.inr.inj q)
  rw [decide_eq_false h,decide_eq_false e]
theorem rf (a:Int) (b:Str):decide ((Sum.inl a:Key)=Sum.inr b)=false:=decide_eq_false (fun q=>nomatch q)
theorem rg (a:Str) (b:Int):decide ((Sum.inr a:Key)=Sum.inl b)=false:=decide_eq_false (fun q=>nomatch q)
def bC (prog:Program) (w:World):PySem.KeyKind prog w Key where
 is:=kA
 hash:=vw w
 inj:=fun v a b ha hb=>by
  rcases bj ha with ⟨i,t,rfl,rfl⟩ | ⟨x,t,rfl,rfl⟩
  .rcases bj hb with ⟨j,u,rfl,e⟩ | ⟨y,u,rfl,e⟩
   .injection e with e1 _;rw [e1]
   .exact nomatch e
  .rcases bj hb with ⟨j,u,rfl,e⟩ | ⟨y,u,rfl,e⟩
   .exact nomatch e
   .injection e with e1 _;rw [e1]
 byValue:=fun k v h=>by
  rcases bj h with ⟨i,t,rfl,rfl⟩ | ⟨x,t,rfl,rfl⟩ <;> rfl
 pyHash:=fun hv h=>by
  rcases bj hv with ⟨i,t,rfl,rfl⟩ | ⟨x,t,rfl,rfl⟩
  .exact wpAny_pyHash_int h
  .exact wpAny_pyHash_str h
 eqBool:=fun hu hv h=>by
  rcases bj hu with ⟨i,t,rfl,rfl⟩ | ⟨x,t,rfl,rfl⟩
  .rcases bj hv with ⟨j,u,rfl,rfl⟩ | ⟨y,u,rfl,rfl⟩
   .rw [rc] at h;exact wpAny_eqBool_int h
   .rw [rf] at h;exact SeqAt.EqAt.int_str i t y u _ _ _ _ h
  .rcases bj hv with ⟨j,u,rfl,rfl⟩ | ⟨y,u,rfl,rfl⟩
   .rw [rg] at h;exact SeqAt.EqAt.str_int x t j u _ _ _ _ h
   .rw [re] at h;exact wpAny_eqBool_str h
 «strs»:=fun k x t v h=>by
  rcases bj h with ⟨i,u,rfl,e⟩ | ⟨y,u,rfl,e⟩
  .exact nomatch e
  .injection e with e1 _
   subst e1
   cases v <;> rfl
theorem jz (prog:Program) (w:World) (i:Int) (t:Tok):(bC prog w).is (.inl i) (.int i t)=true:=lg i t
theorem jA (prog:Program) (w:World) (x:Str) (t:Tok):(bC prog w).is (.inr x) (.str x t)=true:=lh x t
inductive V where
 | non | bl (b:Bool) | int (i:Int) | str (x:Str) | byt (b:Array UInt8) | flt (b:UInt64) | ref (a:Addr) | ty (n:String)
 deriving DecidableEq
def bP:V->Value->Prop
 | .non,u=>u=Value.none
 | .bl b,u=>u=Value.bool b
 | .int i,u=>∃t,u=Value.int i t
 | .str x,u=>∃t,u=Value.str x t
 | .byt b,u=>∃t,u=Value.bytes b t
 | .flt b,u=>∃t,u=Value.float b t
 | .ref a,u=>u=Value.ref a
 | .ty n,u=>u=Value.type n
abbrev br:List V->List Value->Prop:=Paired bP
theorem br.length {xs:List V}{us:List Value} (r:br xs us):xs.length=us.length:=Paired.length r
theorem br.get:∀{xs:List V}{us:List Value}{i:Nat}{x:V},br xs us->xs[i]?=some x->∃u,us[i]?=some u/\bP x u
 | _,_,_,_,.nil,e=>by simp at e
 | _,_,0,_,.cons r _,e=>by simp at e;subst e;exact ⟨_,rfl,r⟩
 | _,_,i + 1,x,.cons _ t,e=>by
  obtain ⟨u,h1,h2⟩:=br.get (i:=i) (x:=x) t (by simpa using e)
  exact ⟨u,by simpa using h1,h2⟩
theorem br.append:∀{xs ys:List V}{us ws:List Value},br xs us->br ys ws->br (xs++ys) (us++ws)
 | _,_,_,_,.nil,s=>s
 | _,_,_,_,.cons r t,s=>.cons r (br.append t s)
theorem br.take:∀{xs:List V}{us:List Value} (n:Nat),br xs us->br (xs.take n) (us.take n)
 | _,_,0,_=>.nil
 | _,_,_ + 1,.nil=>.nil
 | _,_,n + 1,.cons r t=>.cons r (br.take n t)
theorem br.drop:∀{xs:List V}{us:List Value} (n:Nat),br xs us->br (xs.drop n) (us.drop n)
 | _,_,0,r=>r
 | _,_,_ + 1,.nil=>.nil
 | _,_,n + 1,.cons _ t=>br.drop n t
def jw:Option V->Option Value->Prop
 | some v,some u=>bP v u
 | none,none=>True
 | _,_=>False
def KV {κ:Type}:List (κ×V)->List (κ×Value)->Prop:=Paired fun (p:κ×V) (q:κ×Value)=>p.1=q.1/\bP p.2 q.2
def kV:Key->V
 | .inl i=>.int i
 | .inr x=>.str x
inductive HO where
 /-- a list -/
 | lst (xs:List V)
 /-- a tuple (never changes) -/
 | tup (xs:List V)
 /-- a dict whose keys are ints and texts;one whose keys are tuples of ints and texts (the empty one is both) -/
 | dK (kvs:List (Key×V)) | dT (kvs:List (List Key×V))
 /-- a set of ints: its members,its size -/
 | set (S:Int->Bool) (n:Nat)
 /-- an instance of the class at C,its dict at dx,its attributes -/
 | ins (C dx:Addr) (fs:List (Str×V))
 /-- the dict of the instance at x -/
 | own (x:Addr)
 /-- the dict of an exception -/
 | xd (fs:List (Str×V))
 /-- a bound method,f of x -/
 | met (f x:Addr)
 /-- a range object lo,lo + 1,.. below hi -/
 | rng (lo hi:Int)
 /-- a thing that is known to the object (the script;a dict while a loop walks it): read,never written while it is so -/
 | frz (o:Obj) (u:HO)
 /-- a code object's table -/
 | tbl (ps:Array Value)
 /-- any other thing,by what is true of its one object (a def of one's own: SetO a S n:=HO.ext fun h=>..) -/
 | ext (φ:Heap->Prop)
abbrev Hp:=Addr->Option HO
def upd (H:Hp) (a:Addr) (o:HO):Hp:=fun b=>if b=a then some o else H b
theorem aS {H:Hp}{a:Addr}{o:HO}:upd H a o a=some o:=by unfold upd;rw [if_pos rfl]
theorem aB {H:Hp}{a b:Addr}{o:HO} (h:b≠a):upd H a o b=H b:=by unfold upd;rw [if_neg h]
theorem oX {H:Hp}{a:Addr}{o u:HO}:upd (upd H a o) a u=upd H a u:=by
 funext b;unfold upd;split <;> rfl
theorem aI {H:Hp}{a b:Addr}{o:HO} (h:H a=some o) (h':H b=none):a≠b:=by
 intro e;subst e;rw [h] at h';cases h'
section
variable (P:Program) (w:World)
def bJ (H:Hp) (h:Heap) (a:Addr):HO->Prop
 | .lst xs=>xs.length<=sizeLine/\∃(its:List Value) (n:Nat),br xs its/\h.get? a=some { cls:=.type "list",data:=.seq its.toArray n }
 | .tup xs=>xs.length<=sizeLine/\∃its:List Value,br xs its/\IsTup h a its.toArray
 | .dK kvs=>kvs.length<=sizeLine/\(a == sysModules)=false/\∃vs,KV kvs vs/\h.DictOf (bC P w) a vs
 | .dT kvs=>kvs.length<=sizeLine/\(a == sysModules)=false/\∃xs:List (List Key×Addr×Value),
   Paired (fun (p:List Key×V) (q:List Key×Addr×Value)=>p.1=q.1/\H q.2.1=some (.tup (p.1.map kV))/\bP p.2 q.2.2) kvs xs /\
   ∃o es ep,h.get? a=some o/\o.ExactDict/\o.data=.dict es ep/\es.toList=xs.map (entryOfKey (tupleKind (bC P w)))/\(xs.map (·.1)).Nodup
 | .set S n=>h.SetOf (intKind P w) a S n
 | .ins C dx fs=>H dx=some (.own a)/\fs.length<=1000/\dx≠a/\h.get? a=some (PySem.W.instObj C dx) /\
   ∃mA,h.Ns1 dx mA/\(∀f,jw (fs.lookup f) (mA f))/\PySem.Within mA (fs.map (·.1))
 | .own _=>∃o,h.get? a=some o
 | .xd fs=>∃mA,h.Ns1 a mA/\∀f,jw (fs.lookup f) (mA f)
 | .rng lo hi=>∃t u v,h.get? a=some { cls:=.type "range",data:=.fields #[.int lo t,.int hi u,.int 1 v] }
 | .frz o u=>h.get? a=some o/\bJ H h a u
 | .tbl ps=>h.get? a=some { cls:=.none,data:=.fields ps }
 | .met f x=>h.get? a=some (PySem.W.methodObj (.ref f) (.ref x))
 | .ext φ=>φ h/\(∃o,h.get? a=some o)/\∀h1 h2:Heap,φ h1->(∀o,h1.get? a=some o->h2.get? a=some o)->φ h2
def HOk (H:Hp) (h:Heap):Prop:=∀a o,H a=some o->bJ P w H h a o
end
section
variable {P:Program}{w:World}{H H':Hp}{h h':Heap}{a:Addr}{o:HO}
theorem bJ.lt (x:bJ P w H h a o):a < h.objs.size:=by
 cases o with
 | lst xs=>obtain ⟨_,_,_,_,e⟩:=x;exact Heap.lt_size e
 | tup xs=>obtain ⟨_,_,_,p⟩:=x;exact p.lt
 | dK kvs=>obtain ⟨_,_,_,_,o,_,_,e,_⟩:=x;exact Heap.lt_size e
 | dT kvs=>obtain ⟨_,_,_,_,o,_,_,e,_⟩:=x;exact Heap.lt_size e
 | set S n=>obtain ⟨o,_,_,_,e,_⟩:=x;exact Heap.lt_size e
 | ins C dx fs=>obtain ⟨_,_,_,e,_⟩:=x;exact Heap.lt_size e
 | own y=>obtain ⟨_,e⟩:=x;exact Heap.lt_size e
 | xd fs=>obtain ⟨_,⟨_,_,_,e,_⟩,_⟩:=x;exact Heap.lt_size e
 | rng lo hi=>obtain ⟨_,_,_,e⟩:=x;exact Heap.lt_size e
 | frz ob u=>obtain ⟨e,_⟩:=x;exact Heap.lt_size e
 | tbl ps=>exact Heap.lt_size (show h.get? a=some _ from x)
 | met f y=>exact Heap.lt_size (show h.get? a=some _ from x)
 | ext φ=>obtain ⟨_,⟨_,e⟩,_⟩:=x;exact Heap.lt_size e
theorem Paired.mapP {α β:Type}{F G:α->β->Prop}:∀{l₁:List α}{l₂:List β},Paired F l₁ l₂->(∀a b,F a b->G a b)->Paired G l₁ l₂
 | _,_,.nil,_=>.nil
 | _,_,.cons r t,f=>.cons (f _ _ r) (Paired.mapP t f)
theorem bJ.stay (x:bJ P w H h a o) (k:∀b u,(b=a\/H b=some (.own a))->h.get? b=some u->h'.get? b=some u)
  (ho:∀b,H b=some (.own a)->H' b=some (.own a)) (ht:∀b xs,H b=some (.tup xs)->H' b=some (.tup xs)):bJ P w H' h' a o:=by
 induction o with
 | lst xs=>obtain ⟨z,its,n,r,e⟩:=x;exact ⟨z,its,n,r,k _ _ (.inl rfl) e⟩
 | tup xs=>obtain ⟨z,its,r,ob,e,c⟩:=x;exact ⟨z,its,r,ob,k _ _ (.inl rfl) e,c⟩
 | dK kvs=>obtain ⟨z,y,vs,r,ob,es,ep,e,c⟩:=x;exact ⟨z,y,vs,r,ob,es,ep,k _ _ (.inl rfl) e,c⟩
 | dT kvs =>
  obtain ⟨z,y,xs,r,ob,es,ep,e,c⟩:=x
  exact ⟨z,y,xs,Paired.mapP r fun p q z=>⟨z.1,ht _ _ z.2.1,z.2.2⟩,ob,es,ep,k _ _ (.inl rfl) e,c⟩
 | set S n=>obtain ⟨ob,es,ep,t,e,c⟩:=x;exact ⟨ob,es,ep,t,k _ _ (.inl rfl) e,c⟩
 | ins C dx fs =>
  obtain ⟨d,z,ne,e,mA,⟨od,es,ep,e2,c⟩,r⟩:=x
  exact ⟨ho _ d,z,ne,k _ _ (.inl rfl) e,mA,⟨od,es,ep,k _ _ (.inr d) e2,c⟩,r⟩
 | own y=>obtain ⟨ob,e⟩:=x;exact ⟨ob,k _ _ (.inl rfl) e⟩
 | xd fs=>obtain ⟨mA,⟨od,es,ep,e,c⟩,r⟩:=x;exact ⟨mA,⟨od,es,ep,k _ _ (.inl rfl) e,c⟩,r⟩
 | rng lo hi=>obtain ⟨t,u,v,e⟩:=x;exact ⟨t,u,v,k _ _ (.inl rfl) e⟩
 | frz ob u ih=>obtain ⟨e,q⟩:=x;exact ⟨k _ _ (.inl rfl) e,ih q⟩
 | tbl ps =>
  have e:h.get? a=some { cls:=.none,data:=.fields ps }:=x
  show h'.get? a=some { cls:=.none,data:=.fields ps }
  exact k a _ (.inl rfl) e
 | met f y =>
  have e:h.get? a=some (PySem.W.methodObj (.ref f) (.ref y)):=x
  show h'.get? a=some (PySem.W.methodObj (.ref f) (.ref y))
  exact k a _ (.inl rfl) e
 | ext φ=>obtain ⟨p,⟨o,e⟩,st⟩:=x;exact ⟨st _ _ p fun o q=>k _ _ (.inl rfl) q,⟨o,k _ _ (.inl rfl) e⟩,st⟩
theorem HOk.lt (x:HOk P w H h) (e:H a=some o):a < h.objs.size:=(x a o e).lt
theorem HOk.fresh (x:HOk P w H h) (e:h.objs.size<=a):H a=none:=by
 cases q:H a with
 | none=>rfl
 | some u=>exact absurd (Nat.lt_of_lt_of_le (x.lt q) e) (Nat.lt_irrefl _)
theorem HOk.kept (x:HOk P w H h) (k:∀b u,h.get? b=some u->h'.get? b=some u):HOk P w H h':=fun a o e =>
 (x a o e).stay (fun b u _ q=>k b u q) (fun _ q=>q) fun _ _ q=>q
theorem HOk.laid (x:HOk P w H h) (k:∀b u,h.get? b=some u->h'.get? b=some u) (hp:h.objs.size<=a) (new:bJ P w (upd H a o) h' a o):HOk P w (upd H a o) h':=fun b u e=>by
 have hn:=x.fresh hp
 by_cases hb:b=a
 .subst hb;rw [aS] at e;cases e;exact new
 .rw [aB hb] at e
  exact (x b u e).stay (fun c v _ q=>k c v q) (fun c q=>by rw [aB (aI q hn)];exact q) fun c xs q=>by rw [aB (aI q hn)];exact q
end
def Rd (H:Hp) (a:Addr) (u:HO):Prop:=H a=some u\/∃o,H a=some (.frz o u)
theorem Rd.ok {P:Program}{w:World}{H:Hp}{h:Heap}{a:Addr}{u:HO} (r:Rd H a u) (x:HOk P w H h):bJ P w H h a u:=by
 rcases r with r | ⟨o,r⟩
 .exact x a u r
 .obtain ⟨_,q⟩:=x a _ r
  exact q
def Mut:Option HO->Prop
 | some (.lst _)=>True
 | some (.dK _)=>True
 | some (.dT _)=>True
 | some (.set _ _)=>True
 | some (.ins _ _ _)=>True
 | some (.ext _)=>True
 | _=>False
section
variable {P:Program}{w:World}{H:Hp}{h h':Heap}{x e:Addr}{o':HO}
theorem HOk.write (ok:HOk P w H h) (mu:Mut (H x)) (he:e=x\/H e=some (.own x)) (k:∀b u,b≠e->h.get? b=some u->h'.get? b=some u) (heo:∃u,h'.get? e=some u)
  (new:bJ P w (upd H x o') h' x o'):HOk P w (upd H x o') h':=fun b u q=>by
 have nown:∀c y,H c=some (.own y)->c≠x:=fun c y r z=>by subst z;rw [r] at mu;exact mu
 have ntup:∀c xs,H c=some (.tup xs)->c≠x:=fun c xs r z=>by subst z;rw [r] at mu;exact mu
 by_cases hb:b=x
 .subst hb;rw [aS] at q;cases q;exact new
 .rw [aB hb] at q
  by_cases hbe:b=e
  .have q':H b=some (.own x):=by
    rcases he with z | z
    .exact absurd (hbe.trans z) hb
    .rw [hbe];exact z
   rw [q] at q';cases q'
   obtain ⟨v,hv⟩:=heo
   exact ⟨v,by rw [hbe];exact hv⟩
  .refine (ok b u q).stay (fun c v hc r=>k c v ?_ r) (fun c r=>by rw [aB (nown c b r)];exact r) fun c xs r=>by rw [aB (ntup c xs r)];exact r
   rcases hc with rfl | hc
   .exact hbe
   .rintro rfl
    rcases he with z | z
    .exact nown c b hc z
    .rw [hc] at z;cases z;exact hb rfl
end
structure Un (fs ex:List Addr) (H H':Hp) (h h':Heap):Prop where
 keep:∀b o,h.get? b=some o->H b=none->b∉fs->b∉ex->h'.get? b=some o
 slot:∀b o,h.get? b=some o->H b=none->b∈fs->b∉ex->∃sl,h'.get? b=some { o with slots:=sl }
 free:∀b o,h.get? b=some o->H b=none->b∉ex->H' b=none
 there:∀b o,h.get? b=some o->b∉ex->∃o',h'.get? b=some o'
 tups:∀b xs,H b=some (.tup xs)->H' b=some (.tup xs)
 frzs:∀b o u,H b=some (.frz o u)->H' b=some (.frz o u)
 tbls:∀b ps,H b=some (.tbl ps)->∃more,H' b=some (.tbl (ps++more))
section
variable {fs fs' ex ex':List Addr}{H H1 H2:Hp}{h h1 h2 h':Heap}{a x e:Addr}{o:HO}
theorem Un.any (u:Un fs ex H H1 h h1) {b:Addr}{ob:Obj} (q:h.get? b=some ob) (n:H b=none) (hx:b∉ex):∃sl,h1.get? b=some { ob with slots:=sl }:=by
 by_cases hb:b∈fs
 .exact u.slot b ob q n hb hx
 .exact ⟨ob.slots,u.keep b ob q n hb hx⟩
theorem Un.kept (k:∀b u,h.get? b=some u->h'.get? b=some u):Un fs ex H H h h' :=
 ⟨fun b ob q _ _ _=>k b ob q,fun b ob q _ _ _=>⟨ob.slots,k b ob q⟩,fun _ _ _ n _=>n,fun b ob q _=>⟨ob,k b ob q⟩,fun _ _ q=>q,fun _ _ _ q=>q,fun _ ps q=>⟨#[],by rw [q];simp⟩⟩
theorem Un.refl:Un fs ex H H h h:=Un.kept fun _ _ q=>q
theorem Un.laid (k:∀b u,h.get? b=some u->h'.get? b=some u) (hp:h.objs.size<=a) (hn:H a=none):Un fs ex H (upd H a o) h h' where
 keep:=fun b u q _ _ _=>k b u q
 slot:=fun b u q _ _ _=>⟨u.slots,k b u q⟩
 free:=fun b u q n _=>by rw [aB (Nat.ne_of_lt (Nat.lt_of_lt_of_le (Heap.lt_size q) hp))];exact n
 there:=fun b u q _=>⟨u,k b u q⟩
 tups:=fun b xs q=>by rw [aB (aI q hn)];exact q
 frzs:=fun b u xs q=>by rw [aB (aI q hn)];exact q
 tbls:=fun b ps q=>⟨#[],by rw [aB (aI q hn),q];simp⟩
theorem Un.write (mu:Mut (H x)) (he:e=x\/H e=some (.own x)) (k:∀b u,b≠e->h.get? b=some u->h'.get? b=some u) (heo:∃u,h'.get? e=some u):Un fs ex H (upd H x o) h h':=by
 have hx:∀b,H b=none->b≠x:=fun b n z=>by subst z;rw [n] at mu;exact mu
 have hb:∀b,H b=none->b≠e:=fun b n z=>by
  subst z
  rcases he with r | r
  .exact hx b n r
  .rw [n] at r;cases r
 have hm:∀b u,H b=some u->¬ Mut (some u)->b≠x:=fun b u q nm z=>by subst z;rw [q] at mu;exact nm mu
 refine ⟨fun b u q n _ _=>k b u (hb b n) q,fun b u q n _ _=>⟨u.slots,k b u (hb b n) q⟩,fun b u q n _=>by rw [aB (hx b n)];exact n,fun b u q _=>?_,
  fun b xs q=>by rw [aB (hm b _ q fun z=>z)];exact q,fun b u xs q=>by rw [aB (hm b _ q fun z=>z)];exact q,fun b ps q=>⟨#[],by rw [aB (hm b _ q fun z=>z),q];simp⟩⟩
 by_cases hbe:b=e
 .subst hbe;exact heo
 .exact ⟨u,k b u hbe q⟩
end
def trk (h:Heap) (H:Hp):List Addr:=(List.range h.objs.size).filter fun a=>(H a).isSome
def ni (h:Heap) (H:Hp):Heap:=PySem.W.hideAll h (trk h H)
theorem li (h:Heap) (H:Hp):(ni h H).objs.size=h.objs.size:=PySem.W.hideAll_size _ _
theorem nj {h:Heap}{H:Hp}{b:Addr}{o:Obj} (e:h.get? b=some o) (n:H b=none):(ni h H).get? b=some o :=
 PySem.W.hideAll_get _ e fun hm=>by
  have q:(H b).isSome=true:=(List.mem_filter.mp hm).2
  rw [n] at q;simp at q
theorem oY {h:Heap}{H:Hp}{b:Addr}{o:Obj} (e:(ni h H).get? b=some o):h.get? b=some o/\H b=none:=by
 have e':h.get? b=some o:=PySem.W.of_hideAll (trk h H) e
 refine ⟨e',?_⟩
 cases q:H b with
 | none=>rfl
 | some x =>
  have hm:b∈trk h H:=List.mem_filter.mpr ⟨List.mem_range.mpr (Heap.lt_size e'),by simp [q]⟩
  have z:(ni h H).get? b=none:=PySem.W.hideAll_none (trk h H) hm
  rw [z] at e;cases e
structure Mod (K:PySem.W.Frag) (mg:Str->Option Value) (base:Heap):Prop where
 kin:K.In base
 glob:base.Ns mainGlobals mg
 blt:∃mb,base.Ns builtinsNs mb/\∀x:Str,x≠"__name__"->mb x=bootBuiltins x
 nolimit:base.NoLimit
structure Cx where
 prog:Program
 w:World
 K:PySem.W.Frag
 mg:Str->Option Value
 base:Heap
 A:Around
 N:List Str
 s₀:Shared
 H₀:Hp
 env:Env
 outer:List Env
 stack:List Env
 ex:List Addr
 fn:Str->Bool
 calm:Bool
 pn:List (Addr×Obj)
 xe:Value->Shared->Prop
def frs (l:List Env):List Addr:=l.filterMap (·.frame)
abbrev Cx.fs (X:Cx):List Addr:=frs X.outer
def Vis (sc:Scope) (x:Str):Prop:=sc.names.lookup x=some .local\/sc.names.lookup x=some .cell\/sc.names.lookup x=some .free
def Loc (sc:Scope) (x:Str):Prop:=sc.names.lookup x=some .local\/sc.names.lookup x=some .cell
def vx (env:Env) (h:Heap) (m:Str->Option Value) (x:Str) (u:Value):Prop :=
 (env.kindOf x=some .local/\m x=some u)\/((env.kindOf x=some .cell\/env.kindOf x=some .free)/\∃c,env.cells.lookup x=some c/\h.IsCell c (some u))
structure Cx.Ok (X:Cx):Prop where
 mod:Mod X.K X.mg X.base
 kind:X.env.scope.kind=.function
 glob:X.env.globals=mainGlobals
 blt:X.env.builtins=builtinsNs
 above:X.s₀.heap.objs.size<=X.env.locals
 inj:∀x y c,X.env.cells.lookup x=some c->X.env.cells.lookup y=some c->x=y
 has:∀x,(X.env.kindOf x=some .cell\/X.env.kindOf x=some .free)->∃c,X.env.cells.lookup x=some c
 cab:∀x c,X.fn x=true->X.env.cells.lookup x=some c->X.s₀.heap.objs.size<=c
 hd:X.calm=true->X.A.handled=none
 frames:X.A.frames=some X.stack
 stk:X.stack=X.outer\/(X.stack=X.env::X.outer/\X.env.frame=some X.env.locals)
 exf:∀b∈X.ex,b≠X.env.locals/\∀x c,X.env.cells.lookup x=some c->c≠b
 bs:∀b o,X.base.get? b=some o->X.s₀.heap.get? b=some o/\X.H₀ b=none
 bsz:X.base.objs.size<=X.s₀.heap.objs.size
 noex:∀b o,X.base.get? b=some o->b∉X.ex
 exfs:∀b∈X.ex,b∉X.fs
 funs:X.s₀.heap.FunFrames X.base X.outer
 frf:∀b∈X.fs,X.H₀ b=none
structure Inv (X:Cx) (pins:List (Addr×Obj)) (σ:List (Option V)) (H:Hp) (s:Shared):Prop where
 ok:X.Ok
 os:s.os=X.s₀.os
 bare:AllBare s.gens
 base:Un X.fs X.ex X.H₀ H X.s₀.heap s.heap
 loc:∃m,s.heap.Ns X.env.locals m/\∀(i:Nat) (x:Str) (v:V),X.N[i]?=some x->σ[i]?=some (some v)->Vis X.env.scope x->∃u,bP v u/\vx X.env s.heap m x u
 cell:∀x c,X.env.cells.lookup x=some c->∃v,s.heap.IsCell c v
 free:H X.env.locals=none
 freeC:∀x c,X.env.cells.lookup x=some c->H c=none
 pin:∀p∈X.pn++pins,s.heap.get? p.1=some p.2/\H p.1=none/\p.1≠X.env.locals/\p.1∉X.fs/\∀v,p.2.data≠.cell v
 hok:HOk X.prog X.w H s.heap
 len:σ.length=X.N.length
section
variable {X:Cx}{pins:List (Addr×Obj)}{σ:List (Option V)}{H H':Hp}{s:Shared}{h':Heap}
theorem Cx.Ok.nofr (ok:X.Ok) {b:Addr}{o:Obj} (e:X.base.get? b=some o):b∉X.fs:=fun hb=>by
 have:=(ok.funs.mem hb).1
 rw [e] at this;cases this
theorem Inv.bs (I:Inv X pins σ H s):∀b o,X.base.get? b=some o->s.heap.get? b=some o/\H b=none:=fun b o e =>
 ⟨I.base.keep b o (I.ok.bs b o e).1 (I.ok.bs b o e).2 (I.ok.nofr e) (I.ok.noex b o e),I.base.free b o (I.ok.bs b o e).1 (I.ok.bs b o e).2 (I.ok.noex b o e)⟩
theorem Inv.bk (I:Inv X pins σ H s):∀b o,X.base.get? b=some o->s.heap.get? b=some o:=fun b o e=>(I.bs b o e).1
theorem Inv.mod (I:Inv X pins σ H s):Mod X.K X.mg X.base:=I.ok.mod
theorem Inv.kIn (I:Inv X pins σ H s):X.K.In s.heap:=I.ok.mod.kin.keeps I.bk
theorem Inv.lt (I:Inv X pins σ H s):X.env.locals < s.heap.objs.size:=let ⟨_,hn,_⟩:=I.loc;hn.lt
theorem Inv.sz (I:Inv X pins σ H s):X.s₀.heap.objs.size<=s.heap.objs.size:=Nat.le_trans I.ok.above (Nat.le_of_lt I.lt)
theorem Inv.nofs (I:Inv X pins σ H s) {a:Addr} (h:s.heap.objs.size<=a):a∉X.fs:=fun hb=>by
 obtain ⟨_,o,ho,_⟩:=I.ok.funs.mem hb
 exact absurd (Nat.lt_of_lt_of_le (Heap.lt_size ho) (Nat.le_trans I.sz h)) (Nat.lt_irrefl _)
theorem Inv.cne (I:Inv X pins σ H s):∀x c,X.env.cells.lookup x=some c->c≠X.env.locals:=fun x c e z=>by
 obtain ⟨v,o,ho,hd⟩:=I.cell x c e
 obtain ⟨m,⟨o',es,ep,ho',hd',_⟩,_⟩:=I.loc
 rw [z,ho'] at ho;cases ho;rw [hd'] at hd;cases hd
theorem Inv.funs (I:Inv X pins σ H s):s.heap.FunFrames X.base X.outer:=by
 have all:∀(l:List Env),(∀b∈frs l,b∈X.fs)->X.s₀.heap.FunFrames X.base l->s.heap.FunFrames X.base l:=by
  intro l
  induction l with
  | nil=>intro _ _;trivial
  | cons env r ih =>
   intro hs hl
   obtain ⟨hk,⟨L,o,hf,hn,ho,hd⟩,hr⟩:=hl
   have hL:L∈X.fs:=hs L (by unfold frs;rw [List.filterMap_cons,hf];exact List.mem_cons_self)
   obtain ⟨sl,e⟩:=I.base.slot L o ho (I.ok.frf L hL) hL fun z=>I.ok.exfs L z hL
   exact ⟨hk,⟨L,_,hf,hn,e,hd⟩,ih (fun b hb=>hs b (by unfold frs;rw [List.filterMap_cons,hf];exact List.mem_cons_of_mem _ hb)) hr⟩
 exact all X.outer (fun _ hb=>hb) I.ok.funs
theorem Inv.stack (I:Inv X pins σ H s):s.heap.FunFrames X.base X.stack:=by
 rcases I.ok.stk with e | ⟨e,hf⟩
 .rw [e];exact I.funs
 .rw [e]
  obtain ⟨m,hn,_⟩:=I.loc
  refine .cons (by rw [I.ok.kind];decide) hf hn ?_ I.funs
  exact Heap.get?_none_of_le (Nat.le_trans I.ok.bsz I.ok.above)
theorem Inv.stkSub (I:Inv X pins σ H s):∀b∈frs X.stack,b∈X.env.locals::X.fs:=fun b hb=>by
 rcases I.ok.stk with e | ⟨e,hf⟩
 .rw [e] at hb;exact List.mem_cons_of_mem _ hb
 .rw [e] at hb
  unfold frs at hb
  rw [List.filterMap_cons,hf] at hb
  exact hb
theorem Inv.stkFree (I:Inv X pins σ H s):∀b∈frs X.stack,H b=none:=fun b hb=>by
 rcases List.mem_cons.mp (I.stkSub b hb) with e | hb
 .rw [e];exact I.free
 .obtain ⟨_,o,ho,_⟩:=I.ok.funs.mem hb
  exact I.base.free b o ho (I.ok.frf b hb) fun z=>I.ok.exfs b z hb
theorem Inv.step {g':Array GenState}{t':Nat}{d':Drawn}{ch:List Addr} (I:Inv X pins σ H s)
  (hch:∀b∈ch,(b∈X.ex\/X.s₀.heap.objs.size<=b)/\b≠X.env.locals/\(∀x c,X.env.cells.lookup x=some c->c≠b)/\∀p∈X.pn++pins,p.1≠b)
  (keep:∀b o,b≠X.env.locals->b∉X.fs->b∉ch->s.heap.get? b=some o->H b=none->h'.get? b=some o)
  (slot:∀b o,b≠X.env.locals->b∈X.fs->b∉ch->s.heap.get? b=some o->H b=none->∃sl,h'.get? b=some { o with slots:=sl }) (free:∀b o,b∉ch->s.heap.get? b=some o->H b=none->H' b=none)
  (there:∀b o,b∉ch->s.heap.get? b=some o->∃o',h'.get? b=some o')
  (tups:∀b xs,H b=some (.tup xs)->H' b=some (.tup xs)) (frzs:∀b o u,H b=some (.frz o u)->H' b=some (.frz o u)) (tbls:∀b ps,H b=some (.tbl ps)->∃more,H' b=some (.tbl (ps++more)))
  (ns:∀m,s.heap.Ns X.env.locals m->h'.Ns X.env.locals m) (hok:HOk X.prog X.w H' h') (hg:AllBare g') :
  Inv X pins σ H' { s with heap:=h',gens:=g',drawn:=d',toks:=t' }:=by
 have neL:∀b o,X.s₀.heap.get? b=some o->b≠X.env.locals:=fun b o e=>Nat.ne_of_lt (Nat.lt_of_lt_of_le (Heap.lt_size e) I.ok.above)
 have neC:∀b o,X.s₀.heap.get? b=some o->b∉X.ex->b∉ch:=fun b o e hx hb=>by
  rcases (hch b hb).1 with z | z
  .exact hx z
  .exact absurd (Nat.lt_of_lt_of_le (Heap.lt_size e) z) (Nat.lt_irrefl _)
 have cellK:∀x c,X.env.cells.lookup x=some c->∀v,s.heap.IsCell c v->h'.IsCell c v:=fun x c e v ⟨o,ho,hd⟩=>by
  have nch:c∉ch:=fun z=>(hch c z).2.2.1 x c e rfl
  by_cases hc:c∈X.fs
  .obtain ⟨sl,q⟩:=slot c o (I.cne x c e) hc nch ho (I.freeC x c e)
   exact ⟨_,q,hd⟩
  .exact ⟨o,keep c o (I.cne x c e) hc nch ho (I.freeC x c e),hd⟩
 refine ⟨I.ok,I.os,hg,⟨fun b o e n hb hx=>?_,fun b o e n hb hx=>?_,fun b o e n hx=>?_,fun b o e hx=>?_,fun b xs e=>tups b xs (I.base.tups b xs e),fun b o xs e=>frzs b o xs (I.base.frzs b o xs e),fun b ps e=>?_⟩,?_,fun x c e=>?_,?_,fun x c e=>?_,fun p hp=>?_,hok,I.len⟩
 .exact keep b o (neL b o e) hb (neC b o e hx) (I.base.keep b o e n hb hx) (I.base.free b o e n hx)
 .obtain ⟨sl,e1⟩:=I.base.slot b o e n hb hx
  obtain ⟨sl',e2⟩:=slot b _ (neL b o e) hb (neC b o e hx) e1 (I.base.free b o e n hx)
  exact ⟨sl',e2⟩
 .obtain ⟨o',e1⟩:=I.base.there b o e hx
  exact free b o' (neC b o e hx) e1 (I.base.free b o e n hx)
 .obtain ⟨o',e1⟩:=I.base.there b o e hx
  exact there b o' (neC b o e hx) e1
 .obtain ⟨m1,e1⟩:=I.base.tbls b ps e
  obtain ⟨m2,e2⟩:=tbls b _ e1
  exact ⟨m1++m2,by rw [e2,Array.append_assoc]⟩
 .obtain ⟨m,hn,hl⟩:=I.loc
  refine ⟨m,ns m hn,fun i x v e1 e2 e3=>?_⟩
  obtain ⟨u,r,l⟩:=hl i x v e1 e2 e3
  refine ⟨u,r,?_⟩
  rcases l with l | ⟨k,c,e,z⟩
  .exact .inl l
  .exact .inr ⟨k,c,e,cellK x c e _ z⟩
 .obtain ⟨v,z⟩:=I.cell x c e
  exact ⟨v,cellK x c e v z⟩
 .obtain ⟨m,⟨o,_,_,ho,_⟩,_⟩:=I.loc
  exact free _ o (fun z=>(hch _ z).2.1 rfl) ho I.free
 .obtain ⟨v,o,ho,hd⟩:=I.cell x c e
  exact free c o (fun z=>(hch c z).2.2.1 x c e rfl) ho (I.freeC x c e)
 .obtain ⟨e,n,ne,nf,d⟩:=I.pin p hp
  have nch:p.1∉ch:=fun z=>(hch p.1 z).2.2.2 p hp rfl
  exact ⟨keep p.1 p.2 ne nf nch e n,free p.1 p.2 nch e n,ne,nf,d⟩
theorem Inv.un {t':Nat} (I:Inv X pins σ H s) (u:Un X.fs [] H H' s.heap h') (hok:HOk X.prog X.w H' h'):Inv X pins σ H' { s with heap:=h',toks:=t' }:=by
 obtain ⟨m,⟨o,es,ep,ho,r⟩,_⟩:=id I.loc
 obtain ⟨sl,hL⟩:=u.any ho I.free (by simp)
 exact I.step (g':=s.gens) (d':=s.drawn) (ch:=[]) (fun _ z=>nomatch z) (fun b o _ hb _ e n=>u.keep b o e n hb (by simp)) (fun b o _ hb _ e n=>u.slot b o e n hb (by simp)) (fun b o _ e n=>u.free b o e n (by simp)) (fun b o _ e=>u.there b o e (by simp)) u.tups u.frzs u.tbls (fun m' hm=>by
  obtain ⟨o',es',ep',ho',r'⟩:=hm
  rw [ho] at ho';cases ho'
  exact ⟨_,es',ep',hL,r'⟩) hok I.bare
theorem Inv.call {g':Array GenState}{t':Nat}{d':Drawn}{ch:List Addr} (I:Inv X pins σ H s) (u:Un (frs X.stack) ch H H' s.heap h') (hok:HOk X.prog X.w H' h') (hg:AllBare g')
  (hch:∀b∈ch,(b∈X.ex\/X.s₀.heap.objs.size<=b)/\b≠X.env.locals/\(∀x c,X.env.cells.lookup x=some c->c≠b)/\∀p∈X.pn++pins,p.1≠b) :
  Inv X pins σ H' { s with heap:=h',gens:=g',drawn:=d',toks:=t' }:=by
 obtain ⟨m,⟨o,es,ep,ho,r⟩,_⟩:=id I.loc
 obtain ⟨sl,hL⟩:=u.any ho I.free fun z=>(hch _ z).2.1 rfl
 exact I.step (ch:=ch) hch (fun b o hL hb hc e n=>u.keep b o e n (fun z=>(List.mem_cons.mp (I.stkSub b z)).elim hL hb) hc) (fun b o _ _ hc e n=>u.any e n hc) (fun b o hc e n=>u.free b o e n hc) (fun b o hc e=>u.there b o e hc) u.tups u.frzs u.tbls (fun m' hm=>by
  obtain ⟨o',es',ep',ho',r'⟩:=hm
  rw [ho] at ho';cases ho'
  exact ⟨_,es',ep',hL,r'⟩) hok hg
theorem Inv.turned {t':Nat}{it:Addr} (I:Inv X pins σ H s) (k:∀b o,b≠it->s.heap.get? b=some o->h'.get? b=some o) (hn:H it=none) (hL:it≠X.env.locals)
  (h1:it∈X.ex\/X.s₀.heap.objs.size<=it) (h2:∀x c,X.env.cells.lookup x=some c->c≠it) (h3:∀p∈X.pn++pins,p.1≠it):Inv X pins σ H { s with heap:=h',toks:=t' }:=by
 have nit:∀b u,H b=some u->b≠it:=fun b u e z=>by rw [z,hn] at e;cases e
 refine I.step (g':=s.gens) (d':=s.drawn) (ch:=[it]) (fun b hb=>?_) (fun b o _ _ hc e _=>k b o (fun z=>hc (by simp [z])) e) (fun b o _ _ hc e _=>⟨o.slots,k b o (fun z=>hc (by simp [z])) e⟩) (fun _ _ _ _ n=>n)
  (fun b o hc e=>⟨o,k b o (fun z=>hc (by simp [z])) e⟩) (fun _ _ e=>e) (fun _ _ _ e=>e) (fun b ps e=>⟨#[],by rw [e];simp⟩) (fun m hm=>?_) (fun b u e=>?_) I.bare
 .have e:b=it:=by simpa using hb
  subst e
  exact ⟨h1,hL,h2,h3⟩
 .obtain ⟨o,es,ep,ho,r⟩:=hm
  exact ⟨o,es,ep,k _ o (Ne.symm hL) ho,r⟩
 .refine (I.hok b u e).stay (fun c v hc q=>k c v ?_ q) (fun _ q=>q) fun _ _ q=>q
  rcases hc with z | z
  .rw [z];exact nit b u e
  .exact nit c _ z
theorem Inv.tok (I:Inv X pins σ H s) (t:Nat):Inv X pins σ H { s with toks:=t }:=I.un (h':=s.heap) (t':=t) Un.refl I.hok
theorem Inv.kept {t':Nat} (I:Inv X pins σ H s) (k:∀b u,s.heap.get? b=some u->h'.get? b=some u):Inv X pins σ H { s with heap:=h',toks:=t' }:=I.un (Un.kept k) (I.hok.kept k)
theorem Inv.laid {a:Addr}{o:HO}{t':Nat} (I:Inv X pins σ H s) (k:∀b u,s.heap.get? b=some u->h'.get? b=some u) (hp:s.heap.objs.size<=a) (new:bJ X.prog X.w (upd H a o) h' a o) :
  Inv X pins σ (upd H a o) { s with heap:=h',toks:=t' }:=I.un (Un.laid k hp (I.hok.fresh hp)) (I.hok.laid k hp new)
theorem Inv.write {x e:Addr}{o:HO}{t':Nat} (I:Inv X pins σ H s) (mu:Mut (H x)) (he:e=x\/H e=some (.own x)) (k:∀b u,b≠e->s.heap.get? b=some u->h'.get? b=some u) (heo:∃u,h'.get? e=some u)
  (new:bJ X.prog X.w (upd H x o) h' x o):Inv X pins σ (upd H x o) { s with heap:=h',toks:=t' }:=I.un (Un.write mu he k heo) (I.hok.write mu he k heo new)
theorem Inv.pins_of {pins':List (Addr×Obj)} (I:Inv X pins σ H s) (h:∀p∈pins',s.heap.get? p.1=some p.2/\H p.1=none/\p.1≠X.env.locals/\p.1∉X.fs/\∀v,p.2.data≠.cell v):Inv X pins' σ H s :=
 ⟨I.ok,I.os,I.bare,I.base,I.loc,I.cell,I.free,I.freeC,fun p hp=>(List.mem_append.mp hp).elim (fun z=>I.pin p (List.mem_append_left _ z)) (h p),I.hok,I.len⟩
theorem jY {N:List Str} (hN:N.Nodup) {i j:Nat}{x:Str} (a:N[i]?=some x) (b:N[j]?=some x):i=j:=by
 obtain ⟨h1,e1⟩:=List.getElem?_eq_some_iff.mp a
 obtain ⟨h2,e2⟩:=List.getElem?_eq_some_iff.mp b
 exact (List.getElem_inj hN).mp (e1.trans e2.symm)
theorem lj {M:Model}{A:Around}{E:Value->Shared->Prop}{i:Nat}{x:Str}{v:V}{u:Value}{Q:Unit->Shared->Prop} (I:Inv X pins σ H s) (hN:X.N.Nodup) (hi:X.N[i]?=some x) (hx:Loc X.env.scope x) (r:bP v u)
  (h:∀s',Inv X pins (σ.set i (some v)) H s'->(∃a,Heap.SameBut a s.heap s'.heap/\(a=X.env.locals\/X.env.cells.lookup x=some a))->Q () s') (hf:X.fn x=true\/X.env.scope.names.lookup x=some .local:=by first | exact .inl rfl | exact .inr rfl | assumption):wpAny M A (storeName X.env x u) Q E s:=by
 obtain ⟨m,hn,hl⟩:=id I.loc
 have hcls:(X.env.scope.kind == .class || (X.env.scope.kind == .module && X.env.locals != X.env.globals))=false:=by rw [I.ok.kind];rfl
 have hiσ:i < σ.length:=by rw [I.len];exact (List.getElem?_eq_some_iff.mp hi).1
 have cne:=I.cne
 have tracked:∀{a:Addr}{h':Heap},(∃o,s.heap.get? a=some o/\H a=none)->Heap.SameBut a s.heap h'->HOk X.prog X.w H h':=fun {a h'} ha hs b ob e=>by
  obtain ⟨_,_,hfree⟩:=ha
  refine (I.hok b ob e).stay (fun c w' hc q=>(hs.2 c ?_).trans q) (fun _ q=>q) fun _ _ q=>q
  rintro rfl
  rcases hc with rfl | hc
  .rw [hfree] at e;cases e
  .rw [hfree] at hc;cases hc
 rcases hx with hk | hk
 .refine wpAny_storeName_local hk hn (fun h' hn' hs=>?_) hcls
  obtain ⟨oL,_,_,hoL,_⟩:=id hn
  refine h _ ⟨I.ok,I.os,I.bare,⟨fun b o e n hb hx=>?_,fun b o e n hb hx=>?_,I.base.free,fun b o e hx=>?_,I.base.tups,I.base.frzs,I.base.tbls⟩,⟨_,hn',fun j y v' e1 e2 e3=>?_⟩,fun y c e=>?_,I.free,I.freeC,fun p hp=>?_,tracked ⟨oL,hoL,I.free⟩ hs,by simpa using I.len⟩ ⟨_,hs,.inl rfl⟩
  .exact (hs.2 b (Nat.ne_of_lt (Nat.lt_of_lt_of_le (Heap.lt_size e) I.ok.above))).trans (I.base.keep b o e n hb hx)
  .obtain ⟨sl,e1⟩:=I.base.slot b o e n hb hx
   exact ⟨sl,(hs.2 b (Nat.ne_of_lt (Nat.lt_of_lt_of_le (Heap.lt_size e) I.ok.above))).trans e1⟩
  .obtain ⟨o',e1⟩:=I.base.there b o e hx
   exact ⟨o',(hs.2 b (Nat.ne_of_lt (Nat.lt_of_lt_of_le (Heap.lt_size e) I.ok.above))).trans e1⟩
  .by_cases hj:j=i
   .subst hj
    rw [hi] at e1;cases e1
    rw [List.getElem?_set_self hiσ] at e2
    cases e2
    exact ⟨u,r,.inl ⟨hk,by simp⟩⟩
   .rw [List.getElem?_set_ne (Ne.symm hj)] at e2
    obtain ⟨u',r',q⟩:=hl j y v' e1 e2 e3
    refine ⟨u',r',?_⟩
    rcases q with ⟨k,e⟩ | ⟨k,c,e,z⟩
    .refine .inl ⟨k,?_⟩
     have:y≠x:=fun e=>hj (jY hN e1 (e ▸ hi))
     simp [this,e]
    .exact .inr ⟨k,c,e,z.sameBut hs (cne y c e)⟩
  .obtain ⟨w',z⟩:=I.cell y c e
   exact ⟨w',z.sameBut hs (cne y c e)⟩
  .obtain ⟨e,n,ne,nf,d⟩:=I.pin p hp
   exact ⟨(hs.2 p.1 ne).trans e,n,ne,nf,d⟩
 .have hfn:X.fn x=true:=by
   rcases hf with z | z
   .exact z
   .rw [z] at hk;cases hk
  obtain ⟨c,hc⟩:=I.ok.has x (.inl hk)
  obtain ⟨w',z⟩:=I.cell x c hc
  refine wpAny_storeName_cell I.ok.kind hk hc z (fun h' hc' hs=>?_)
  obtain ⟨oc,hoc,hocd⟩:=id z
  refine h { s with heap:=h' } ⟨I.ok,I.os,I.bare,⟨fun b o e n hb hx=>?_,fun b o e n hb hx=>?_,I.base.free,fun b o e hx=>?_,I.base.tups,I.base.frzs,I.base.tbls⟩,⟨m,hn.sameBut hs (Ne.symm (cne x c hc)),fun j y v' e1 e2 e3=>?_⟩,fun y c' e=>?_,I.free,I.freeC,fun p hp=>?_,tracked ⟨oc,hoc,I.freeC x c hc⟩ hs,by simpa using I.len⟩ ⟨c,hs,.inr hc⟩
  .exact (hs.2 b (Nat.ne_of_lt (Nat.lt_of_lt_of_le (Heap.lt_size e) (I.ok.cab x c hfn hc)))).trans (I.base.keep b o e n hb hx)
  .obtain ⟨sl,e1⟩:=I.base.slot b o e n hb hx
   exact ⟨sl,(hs.2 b (Nat.ne_of_lt (Nat.lt_of_lt_of_le (Heap.lt_size e) (I.ok.cab x c hfn hc)))).trans e1⟩
  .obtain ⟨o',e1⟩:=I.base.there b o e hx
   exact ⟨o',(hs.2 b (Nat.ne_of_lt (Nat.lt_of_lt_of_le (Heap.lt_size e) (I.ok.cab x c hfn hc)))).trans e1⟩
  .by_cases hj:j=i
   .subst hj
    rw [hi] at e1;cases e1
    rw [List.getElem?_set_self hiσ] at e2
    cases e2
    exact ⟨u,r,.inr ⟨.inl hk,c,hc,hc'⟩⟩
   .rw [List.getElem?_set_ne (Ne.symm hj)] at e2
    obtain ⟨u',r',q⟩:=hl j y v' e1 e2 e3
    refine ⟨u',r',?_⟩
    rcases q with q | ⟨k,c',e,z'⟩
    .exact .inl q
    .refine .inr ⟨k,c',e,z'.sameBut hs ?_⟩
     rintro rfl
     exact hj (jY hN e1 (I.ok.inj _ _ _ e hc ▸ hi))
  .by_cases hcc:c'=c
   .subst hcc;exact ⟨_,hc'⟩
   .obtain ⟨w2,z2⟩:=I.cell y c' e
    exact ⟨w2,z2.sameBut hs hcc⟩
  .obtain ⟨e,n,ne,nf,d⟩:=I.pin p hp
   refine ⟨(hs.2 p.1 ?_).trans e,n,ne,nf,d⟩
   intro q
   rw [q,hoc] at e
   have q':oc=p.2:=Option.some.inj e
   exact d w' (by rw [<- q'];exact hocd)
theorem jZ {M:Model}{A:Around}{E:Value->Shared->Prop}{i:Nat}{x:Str}{v:V}{u:Value}{Q:Unit->Shared->Prop} (I:Inv X pins σ H s) (hN:X.N.Nodup) (hi:X.N[i]?=some x) (hx:Loc X.env.scope x) (r:bP v u)
  (h:∀s',Inv X pins (σ.set i (some v)) H s'->Q () s') (hf:X.fn x=true\/X.env.scope.names.lookup x=some .local:=by first | exact .inl rfl | exact .inr rfl | assumption):wpAny M A (storeName X.env x u) Q E s :=
 lj I hN hi hx r (fun s' I' _=>h s' I') hf
theorem Inv.call' {s':Shared}{ch:List Addr} (I:Inv X pins σ H s) (ho:s'.os=s.os) (u:Un (frs X.stack) ch H H' s.heap s'.heap) (hok:HOk X.prog X.w H' s'.heap) (hg:AllBare s'.gens)
  (hch:∀b∈ch,(b∈X.ex\/X.s₀.heap.objs.size<=b)/\b≠X.env.locals/\(∀x c,X.env.cells.lookup x=some c->c≠b)/\∀p∈X.pn++pins,p.1≠b):Inv X pins σ H' s':=by
 obtain ⟨h',g',d',t',o'⟩:=s'
 have e:o'=s.os:=ho
 subst e
 exact I.call (g':=g') (t':=t') (d':=d') u hok hg hch
end
abbrev XK:=Value->Option Addr->Hp->Prop
abbrev St:=List (Option V)
abbrev VK:=V->Hp->Prop
abbrev TE:=St->Hp->VK->Prop
abbrev TT:=St->Hp->(Bool->Hp->Prop)->Prop
abbrev TA:=St->Hp->(List V->Hp->Prop)->Prop
structure ll where
 nx:St->Hp->Prop
 rt:VK
 bk:St->Hp->Prop:=fun _ _=>False
 ct:St->Hp->Prop:=fun _ _=>False
abbrev TS:=ll->St->Hp->Prop
def EP (X:Cx) (pins:List (Addr×Obj)) (σ:St) (Q:VK) (u:Value) (s':Shared):Prop:=∃v H',Inv X pins σ H' s'/\bP v u/\Q v H'
def TP (X:Cx) (pins:List (Addr×Obj)) (σ:St) (Q:Bool->Hp->Prop) (b:Bool) (s':Shared):Prop:=∃H',Inv X pins σ H' s'/\Q b H'
def AP (X:Cx) (pins:List (Addr×Obj)) (σ:St) (Q:List V->Hp->Prop) (us:List Value) (s':Shared):Prop:=∃vs H',Inv X pins σ H' s'/\br vs us/\Q vs H'
def SP (X:Cx) (pins:List (Addr×Obj)) (D:ll) (f:Flow) (s':Shared):Prop :=
 match f with
 | .next=>∃σ' H',Inv X pins σ' H' s'/\D.nx σ' H'
 | .brk=>∃σ' H',Inv X pins σ' H' s'/\D.bk σ' H'
 | .cont=>∃σ' H',Inv X pins σ' H' s'/\D.ct σ' H'
 | .ret u=>∃v σ' H',Inv X pins σ' H' s'/\bP v u/\D.rt v H'
def PE (X:Cx) (e:Expr) (t:TE):Prop :=
 ∀(pins:List (Addr×Obj)) (s:Shared) (σ:St) (H:Hp) (Q:VK),Inv X pins σ H s->t σ H Q->wpAny (model X.prog X.w) X.A (eval e X.env) (EP X pins σ Q) X.xe s
def PT (X:Cx) (e:Expr) (t:TT):Prop :=
 ∀(pins:List (Addr×Obj)) (s:Shared) (σ:St) (H:Hp) (Q:Bool->Hp->Prop),Inv X pins σ H s->t σ H Q->wpAny (model X.prog X.w) X.A (isTrue e X.env (eval e X.env)) (TP X pins σ Q) X.xe s
def PW (X:Cx) (e:Expr) (t:TT):Prop :=
 ∀(whole:Sem Value) (pins:List (Addr×Obj)) (s:Shared) (σ:St) (H:Hp) (Q:Bool->Hp->Prop),Inv X pins σ H s->t σ H Q->wpAny (model X.prog X.w) X.A (isTrue e X.env whole) (TP X pins σ Q) X.xe s
theorem PW.pt {X:Cx}{e:Expr}{t:TT} (h:PW X e t):PT X e t:=h _
def PA (X:Cx) (es:List Expr) (t:TA):Prop :=
 ∀(pos:Pos) (pins:List (Addr×Obj)) (s:Shared) (σ:St) (H:Hp) (Q:List V->Hp->Prop),Inv X pins σ H s->t σ H Q->wpAny (model X.prog X.w) X.A (spliced (backTo pos (starEach es X.env))) (AP X pins σ Q) X.xe s
def PS (X:Cx) (st:Stmt) (t:TS):Prop :=
 ∀(pins:List (Addr×Obj)) (s:Shared) (σ:St) (H:Hp) (D:ll),Inv X pins σ H s->t D σ H->wpAny (model X.prog X.w) X.A (exec st X.env) (SP X pins D) X.xe s
def PSs (X:Cx) (st:List Stmt) (t:TS):Prop :=
 ∀(pins:List (Addr×Obj)) (s:Shared) (σ:St) (H:Hp) (D:ll),Inv X pins σ H s->t D σ H->wpAny (model X.prog X.w) X.A (execs st X.env) (SP X pins D) X.xe s
theorem thn {α:Type}{t:Sem α}{Q Q':α->Shared->Prop}{M:Model}{A:Around}{E:Value->Shared->Prop}{s:Shared} (h:wpAny M A t Q E s) (hQ:∀a s,Q a s->Q' a s):wpAny M A t Q' E s:=wpAny_mono h hQ fun _ _ x=>x
section
variable {X:Cx}
def gK (i:Nat):TE:=fun σ H Q=>∃v,σ[i]?=some (some v)/\Q v H
def tC (v:V):TE:=fun _ H Q=>Q v H
theorem rh {i:Nat}{x:Str}{pos:Pos} (hN:X.N[i]?=some x) (hv:Vis X.env.scope x) (hd:(x == ("__debug__":Str))=false:=by decide) (hcd:(x == ("__classdict__":Str))=false:=by decide):PE X (.Name x pos) (gK i):=by
 intro pins s σ H Q I h
 obtain ⟨v,e,h⟩:=h
 obtain ⟨m,hn,hl⟩:=I.loc
 obtain ⟨u,r,l⟩:=hl i x v hN e hv
 have fin:EP X pins σ Q u s:=⟨v,H,I,r,h⟩
 rcases l with ⟨hk,hm⟩ | ⟨hk,c,hc,hcell⟩
 .exact wpAny_Name (wpAny_loadName_local I.ok.kind hk hn hm fin) hd
 .rcases hk with hk | hk
  .exact wpAny_Name (wpAny_loadName_cell I.ok.kind hk hc hcell fin) hd
  .exact wpAny_Name (wpAny_loadName_free I.ok.kind hk hc hcell fin hcd) hd
theorem am {i j pos}:PE X (.Constant (.int i) j pos) (tC (.int i)):=fun _ _ _ H _ I h=>wpAny_Constant_int ⟨.int i,H,I.tok _,⟨_,rfl⟩,h⟩
theorem ib {b j pos}:PE X (.Constant (.bool b) j pos) (tC (.bl b)):=fun _ _ _ H _ I h=>Constant_bool ⟨.bl b,H,I,rfl,h⟩
theorem ri {j pos}:PE X (.Constant .none j pos) (tC .non):=fun _ _ _ H _ I h=>Constant_none ⟨.non,H,I,rfl,h⟩
theorem rj {x j pos}:PE X (.Constant (.str x) j pos) (tC (.str x)):=fun _ _ _ H _ I h=>Calls.Constant_str ⟨.str x,H,I.tok _,⟨_,rfl⟩,h⟩
def Gl (X:Cx) (x:Str):Prop:=X.env.kindOf x=some .globalImplicit
theorem lm {E:Value->Shared->Prop}{pins:List (Addr×Obj)}{s:Shared}{σ:St}{H:Hp}{x:Str}{u:Value}{pos:Pos}{Q:Value->Shared->Prop} (I:Inv X pins σ H s) (hg:Gl X x) (hm:X.mg x=some u) (h:Q u s)
  (hd:(x == ("__debug__":Str))=false:=by decide):wpAny (model X.prog X.w) X.A (eval (.Name x pos) X.env) Q E s :=
 Calls.Name_function_global I.ok.kind hg (Calls.loadGlobal_global (by rw [I.ok.glob];exact I.mod.glob.keeps I.bk) hm h) hd
theorem eN {E:Value->Shared->Prop}{pins:List (Addr×Obj)}{s:Shared}{σ:St}{H:Hp}{x:Str}{u:Value}{pos:Pos}{Q:Value->Shared->Prop} (I:Inv X pins σ H s) (hg:Gl X x) (hm:X.mg x=none) (hv:bootBuiltins x=some u) (h:Q u s)
  (hn:x≠"__name__":=by decide) (hd:(x == ("__debug__":Str))=false:=by decide):wpAny (model X.prog X.w) X.A (eval (.Name x pos) X.env) Q E s:=by
 obtain ⟨mb,h1,h2⟩:=I.mod.blt
 exact Calls.Name_function_global I.ok.kind hg (Calls.loadGlobal_builtin (by rw [I.ok.glob];exact I.mod.glob.keeps I.bk) hm (by rw [I.ok.blt];exact h1.keeps I.bk) ((h2 x hn).trans hv) h) hd
theorem lp {x:Str}{v:V}{u:Value}{pos:Pos} (hg:Gl X x) (hm:X.mg x=none) (hv:bootBuiltins x=some u) (r:bP v u) (hn:x≠"__name__":=by decide) (hd:(x == ("__debug__":Str))=false:=by decide):PE X (.Name x pos) (tC v) :=
 fun _ _ _ H _ I h=>eN I hg hm hv ⟨v,H,I,r,h⟩ hn hd
variable {a b:Expr}{ta tb:TE}{pos:Pos}
def tB (t:TE):TT:=fun σ H Q=>t σ H fun x H1=>∃c,x=.bl c/\Q c H1
theorem rm {e:Expr}{t:TE} (h:PE X e t) (he:∀whole,isTrue e X.env whole=(do let v <- whole;standAt e.pos;holding [v] (truthy v)):=by intro _;rfl):PT X e (tB t):=by
 intro pins s σ H Q I hw
 refine isTrue_plain (thn (h pins s σ H _ I hw) fun v s1 ⟨x,H1,I1,r1,q1⟩=>?_) (he _)
 obtain ⟨d,rfl,q⟩:=q1
 cases r1
 exact wpAny_truthy_bool ⟨H1,I1,q⟩
variable {tA tB':TT}{rest:List Expr}
def uU (t u:TT):TT:=fun σ H Q=>t σ H fun c H1=>if c=true then u σ H1 Q else Q false H1
def tOr (t u:TT):TT:=fun σ H Q=>t σ H fun c H1=>if c=true then Q true H1 else u σ H1 Q
def uV (t:TT):TT:=fun σ H Q=>t σ H fun c H1=>Q (!c) H1
theorem eo (ha:PT X a tA):PW X (.BoolOp .And [a] pos) tA:=by
 intro wh pins s σ H Q I h
 refine isTrue_and (thn (ha pins s σ H Q I h) fun c s1 e=>?_)
 cases c with
 | true=>exact isTrue_and_nil e
 | false=>exact e
theorem gT (ha:PT X a tA):PW X (.BoolOp .Or [a] pos) tA:=by
 intro wh pins s σ H Q I h
 refine isTrue_or (thn (ha pins s σ H Q I h) fun c s1 e=>?_)
 cases c with
 | false=>exact isTrue_or_nil e
 | true=>exact e
theorem fC (ha:PT X a tA) (hb:PW X (.BoolOp .And (b::rest) pos) tB'):PW X (.BoolOp .And (a::b::rest) pos) (uU tA tB'):=by
 intro wh pins s σ H Q I h
 refine isTrue_and (thn (ha pins s σ H _ I h) fun c s1 ⟨H1,I1,q1⟩=>?_)
 cases c with
 | true=>exact hb wh pins s1 σ H1 Q I1 q1
 | false=>exact ⟨H1,I1,q1⟩
theorem kB (ha:PT X a tA) (hb:PW X (.BoolOp .Or (b::rest) pos) tB'):PW X (.BoolOp .Or (a::b::rest) pos) (tOr tA tB'):=by
 intro wh pins s σ H Q I h
 refine isTrue_or (thn (ha pins s σ H _ I h) fun c s1 ⟨H1,I1,q1⟩=>?_)
 cases c with
 | true=>exact ⟨H1,I1,q1⟩
 | false=>exact hb wh pins s1 σ H1 Q I1 q1
theorem iJ (ha:PT X a tA):PT X (.UnaryOp .Not a pos) (uV tA):=by
 intro pins s σ H Q I h
 exact isTrue_not (ha pins s σ H (fun c H1=>Q (!c) H1) I h)
def rn (ta tb:TE):TE:=fun σ H Q=>ta σ H fun x H1=>∃c,x=.bl c/\if c=true then tb σ H1 Q else Q (.bl false) H1
def ro (ta:TE):TE:=fun σ H Q=>ta σ H fun x H1=>∃c,x=.bl c/\Q (.bl (!c)) H1
theorem ot {op}{t:TE} (h:PE X a t):PE X (.BoolOp op [a] pos) t:=fun pins s σ H Q I hw=>BoolOp_one (h pins s σ H Q I hw)
theorem ou (ha:PE X a ta) (hb:PE X (.BoolOp .And (b::rest) pos) tb):PE X (.BoolOp .And (a::b::rest) pos) (rn ta tb):=by
 intro pins s σ H Q I h
 refine BoolOp_and (thn (ha pins s σ H _ I h) fun v s1 ⟨x,H1,I1,r1,q1⟩=>?_)
 obtain ⟨c,rfl,q1⟩:=q1
 cases r1
 refine wpAny_truthy_bool ?_
 cases c with
 | true=>exact hb pins s1 σ H1 Q I1 q1
 | false=>exact ⟨.bl false,H1,I1,rfl,q1⟩
theorem rp (ha:PE X a ta):PE X (.UnaryOp .Not a pos) (ro ta):=by
 intro pins s σ H Q I h
 refine UnaryOp_ (thn (ha pins s σ H _ I h) fun v s1 ⟨x,H1,I1,r1,q1⟩=>?_)
 obtain ⟨c,rfl,q1⟩:=q1
 cases r1
 exact not_of (wpAny_truthy_bool ⟨.bl (!c),H1,I1,rfl,q1⟩)
def tIf (t:TT) (ta tb:TE):TE:=fun σ H Q=>t σ H fun c H1=>if c=true then ta σ H1 Q else tb σ H1 Q
theorem nq {c:Expr} (hc:PT X c tA) (ha:PE X a ta) (hb:PE X b tb):PE X (.IfExp c a b pos) (tIf tA ta tb):=by
 intro pins s σ H Q I h
 refine wpAny_IfExp (thn (hc pins s σ H _ I h) fun d s1 ⟨H1,I1,q1⟩=>?_)
 cases d with
 | true=>exact ha pins s1 σ H1 Q I1 q1
 | false=>exact hb pins s1 σ H1 Q I1 q1
end
def SqL (K:PySem.W.Frag) (H:Hp) (a:Addr) (xs:List V):Prop :=
 Rd H a (.lst xs) \/
  ∃(o:Obj) (its:Array Value) (n:Nat),K.lookup a=some o/\o.cls=.type "list"/\o.dict=none/\o.data=.seq its n/\its.size<=sizeLine/\br xs its.toList
def SqT (K:PySem.W.Frag) (H:Hp) (a:Addr) (xs:List V):Prop :=
 Rd H a (.tup xs) \/
  ∃(o:Obj) (its:Array Value) (n:Nat),K.lookup a=some o/\o.cls=.type "tuple"/\o.data=.seq its n/\its.size<=sizeLine/\br xs its.toList
def vy:Value->Option V
 | .none=>some .non
 | .bool b=>some (.bl b)
 | .int i _=>some (.int i)
 | .str x _=>some (.str x)
 | .bytes b _=>some (.byt b)
 | .float b _=>some (.flt b)
 | .ref a=>some (.ref a)
 | .type n=>some (.ty n)
 | _=>none
theorem bP.abs {x:V}{u:Value} (r:bP x u):vy u=some x:=by
 cases x with
 | non=>cases r;rfl
 | bl _=>cases r;rfl
 | int _=>obtain ⟨t,rfl⟩:=r;rfl
 | str _=>obtain ⟨t,rfl⟩:=r;rfl
 | byt _=>obtain ⟨t,rfl⟩:=r;rfl
 | flt _=>obtain ⟨t,rfl⟩:=r;rfl
 | ref _=>cases r;rfl
 | ty _=>cases r;rfl
theorem bP.inj {x y:V}{u:Value} (r:bP x u) (q:bP y u):x=y:=Option.some.inj (r.abs.symm.trans q.abs)
theorem br.inj:∀{xs ys:List V}{us:List Value},br xs us->br ys us->xs=ys
 | _,_,_,.nil,.nil=>rfl
 | _,_,_,.cons r t,.cons r' t'=>by rw [r.inj r',br.inj t t']
section
variable {X:Cx}{pins:List (Addr×Obj)}{σ:St}{H:Hp}{s:Shared}{a:Addr}{xs ys:List V}
theorem SqL.of {K:PySem.W.Frag} (h:H a=some (.lst xs)):SqL K H a xs:=.inl (.inl h)
theorem SqT.of {K:PySem.W.Frag} (h:H a=some (.tup xs)):SqT K H a xs:=.inl (.inl h)
theorem Inv.list (I:Inv X pins σ H s) (h:SqL X.K H a xs):∃its:List Value,br xs its/\PlainL s.heap a its.toArray/\xs.length<=sizeLine:=by
 rcases h with h | ⟨o,its,n,hk,hc,hd,hs,hz,r⟩
 .obtain ⟨z,its,n,r,e⟩:=h.ok I.hok
  exact ⟨its,r,⟨_,n,e,rfl,rfl,rfl⟩,z⟩
 .refine ⟨its.toList,r,⟨o,n,I.kIn a o hk,hc,hd,by simpa using hs⟩,?_⟩
  have e:=r.length
  simp only [Array.length_toList] at e
  omega
theorem Inv.tuple (I:Inv X pins σ H s) (h:SqT X.K H a xs):∃its:List Value,br xs its/\IsTup s.heap a its.toArray/\xs.length<=sizeLine:=by
 rcases h with h | ⟨o,its,n,hk,hc,hs,hz,r⟩
 .obtain ⟨z,its,r,p⟩:=h.ok I.hok
  exact ⟨its,r,p,z⟩
 .refine ⟨its.toList,r,⟨o,I.kIn a o hk,hc,n,by simpa using hs⟩,?_⟩
  have e:=r.length
  simp only [Array.length_toList] at e
  omega
theorem Inv.list_inj (I:Inv X pins σ H s) (h:SqL X.K H a xs) (h':SqL X.K H a ys):xs=ys:=by
 obtain ⟨its,r,⟨o,n,e,_,_,d⟩,_⟩:=I.list h
 obtain ⟨its',r',⟨o',n',e',_,_,d'⟩,_⟩:=I.list h'
 rw [e] at e';cases e'
 rw [d] at d'
 injection d' with d1 _
 have:its=its':=by simpa using congrArg Array.toList d1
 subst this
 exact r.inj r'
theorem Inv.tuple_inj (I:Inv X pins σ H s) (h:SqT X.K H a xs) (h':SqT X.K H a ys):xs=ys:=by
 obtain ⟨its,r,⟨o,e,_,n,d⟩,_⟩:=I.tuple h
 obtain ⟨its',r',⟨o',e',_,n',d'⟩,_⟩:=I.tuple h'
 rw [e] at e';cases e'
 rw [d] at d'
 injection d' with d1 _
 have:its=its':=by simpa using congrArg Array.toList d1
 subst this
 exact r.inj r'
end
abbrev Cx.wish (X:Cx) (E:Value->Shared->Prop):Cx:={ X with xe:=E }
abbrev Cx.nox (X:Cx):Cx:=X.wish fun _ _=>False
theorem Cx.Ok.wish {X:Cx} (ok:X.Ok) (E:Value->Shared->Prop):(X.wish E).Ok :=
 ⟨ok.mod,ok.kind,ok.glob,ok.blt,ok.above,ok.inj,ok.has,ok.cab,ok.hd,ok.frames,ok.stk,ok.exf,ok.bs,ok.bsz,ok.noex,ok.exfs,ok.funs,ok.frf⟩
theorem Cx.Ok.unwish {X:Cx}{E:Value->Shared->Prop} (ok:(X.wish E).Ok):X.Ok :=
 ⟨ok.mod,ok.kind,ok.glob,ok.blt,ok.above,ok.inj,ok.has,ok.cab,ok.hd,ok.frames,ok.stk,ok.exf,ok.bs,ok.bsz,ok.noex,ok.exfs,ok.funs,ok.frf⟩
section
variable {X:Cx}{pins:List (Addr×Obj)}{σ:St}{H:Hp}{s:Shared}{E:Value->Shared->Prop}
theorem Inv.wish (I:Inv X pins σ H s) (E:Value->Shared->Prop):Inv (X.wish E) pins σ H s:=⟨I.ok.wish E,I.os,I.bare,I.base,I.loc,I.cell,I.free,I.freeC,I.pin,I.hok,I.len⟩
theorem Inv.unwish (I:Inv (X.wish E) pins σ H s):Inv X pins σ H s:=⟨I.ok.unwish,I.os,I.bare,I.base,I.loc,I.cell,I.free,I.freeC,I.pin,I.hok,I.len⟩
theorem SP.unwish {D:ll}{f:Flow}{s':Shared} (h:SP (X.wish E) pins D f s'):SP X pins D f s':=by
 cases f with
 | next=>obtain ⟨σ',H',I,q⟩:=h;exact ⟨σ',H',I.unwish,q⟩
 | brk=>obtain ⟨σ',H',I,q⟩:=h;exact ⟨σ',H',I.unwish,q⟩
 | cont=>obtain ⟨σ',H',I,q⟩:=h;exact ⟨σ',H',I.unwish,q⟩
 | ret u=>obtain ⟨v,σ',H',I,r,q⟩:=h;exact ⟨v,σ',H',I.unwish,r,q⟩
theorem PSs.nox {st:List Stmt}{t:TS} (h:PSs X.nox st t):PSs X st t:=fun pins s σ H D I hw =>
 wpAny_mono (h pins s σ H D (I.wish _) hw) (fun _ _ q=>q.unwish) fun _ _ z=>False.elim z
end
section
variable {X:Cx}{st:Stmt}{rest:List Stmt}{t u:TS}{e:Expr}{te:TE}{pos:Pos}
def rq:TS:=fun D σ H=>D.nx σ H
def tP (t u:TS):TS:=fun D σ H=>t { D with nx:=u D } σ H
theorem bu:PSs X [] rq:=fun _ _ σ H _ I h=>wpAny_execs_nil ⟨σ,H,I,h⟩
theorem af (h1:PS X st t) (h2:PSs X rest u):PSs X (st::rest) (tP t u):=by
 intro pins s σ H D I h
 refine wpAny_execs_cons (thn (h1 pins s σ H { D with nx:=u D } I h) fun f s1 q=>?_)
 cases f with
 | next =>
  obtain ⟨σ',H',I',q⟩:=q
  exact h2 pins s1 σ' H' D I' q
 | ret v=>exact q
 | brk=>exact q
 | cont=>exact q
theorem aq (h1:PS X st t):PSs X [st] t:=by
 intro pins s σ H D I h
 refine wpAny_execs_cons (thn (h1 pins s σ H D I h) fun f s1 q=>?_)
 cases f with
 | next=>exact wpAny_execs_nil q
 | ret v=>exact q
 | brk=>exact q
 | cont=>exact q
theorem Inv.quiet {pins:List (Addr×Obj)}{σ:St}{H:Hp}{s:Shared} (I:Inv X pins σ H s):interactive X.env=false:=by simp [interactive,I.ok.kind]
def oZ (te:TE):TS:=fun D σ H=>te σ H fun _ H1=>D.nx σ H1
theorem fi (he:PE X e te) (hs:swapsWith e none pos.line X.env=pure false:=by rfl):PS X (.Expr e pos) (oZ te):=by
 intro pins s σ H D I h
 exact wpAny_Expr_any (thn (he pins s σ H _ I h) fun v s1 ⟨x,H1,I1,r1,q1⟩=>⟨σ,H1,I1,q1⟩) I.quiet hs
def uW (te:TE):TS:=fun D σ H=>te σ H D.rt
theorem bw (he:PE X e te):PS X (.Return (some e) pos) (uW te):=by
 intro pins s σ H D I h
 exact wpAny_Return_some (thn (he pins s σ H _ I h) fun v s1 ⟨x,H1,I1,r1,q1⟩=>⟨x,σ,H1,I1,r1,q1⟩)
def uX (c:TT) (t u:TS):TS:=fun D σ H=>c σ H fun b H1=>if b=true then t D σ H1 else u D σ H1
theorem c9 {c:Expr}{a b:List Stmt}{tc:TT} (hc:PT X c tc) (ha:PSs X a t) (hb:PSs X b u):PS X (.If c a b pos) (uX tc t u):=by
 intro pins s σ H D I h
 refine wpAny_If (thn (hc pins s σ H _ I h) fun d s1 ⟨H1,I1,q1⟩=>?_)
 cases d with
 | true=>exact ha pins s1 σ H1 D I1 q1
 | false=>exact hb pins s1 σ H1 D I1 q1
end
abbrev TG:=V->St->Hp->(St->Hp->Prop)->Prop
def PG (X:Cx) (target:Expr) (t:TG):Prop :=
 ∀(pins:List (Addr×Obj)) (s:Shared) (σ:St) (H:Hp) (v:V) (u:Value) (Q:St->Hp->Prop),Inv X pins σ H s->bP v u->t v σ H Q ->
  wpAny (model X.prog X.w) X.A (assign target X.env u) (fun _ s'=>∃σ' H',Inv X pins σ' H' s'/\Q σ' H') X.xe s
section
variable {X:Cx}{pos:Pos}
def iK (i:Nat):TG:=fun v σ H Q=>Q (σ.set i (some v)) H
theorem bI {i:Nat}{x:Str} (hN:X.N.Nodup) (hi:X.N[i]?=some x) (hx:Loc X.env.scope x) (hf:X.fn x=true\/X.env.scope.names.lookup x=some .local:=by first | exact .inl rfl | exact .inr rfl | assumption):PG X (.Name x pos) (iK i):=by
 intro pins s σ H v u Q I r h
 exact wpAny_assign_Name (jZ I hN hi hx r (fun s' I'=>⟨_,H,I',h⟩) hf)
def tQ (te:TE) (g:TG):TS:=fun D σ H=>te σ H fun x H1=>g x σ H1 D.nx
theorem rA {tg e:Expr}{te:TE}{g:TG} (he:PE X e te) (hg:PG X tg g) (hs:swapsWithSole [tg] e pos.line X.env=pure false:=by rfl) (hw:swappedStores [tg] e X.env=pure none:=by rfl)
  (h1:(assignEach [tg] X.env).map (·.2)=[assign tg X.env]:=by rfl):PS X (.Assign [tg] e pos) (tQ te g):=by
 intro pins s σ H D I h
 refine wpAny_Assign_stores (thn (he pins s σ H _ I h) fun v s1 ⟨x,H1,I1,r1,q1⟩=>?_) hs hw
 rw [h1]
 exact thn (hg pins s1 σ H1 x v _ I1 r1 q1) fun _ s2 q=>q
theorem aG {i:Nat}{x:Str}{e:Expr}{te:TE}{pos':Pos} (hN:X.N.Nodup) (hi:X.N[i]?=some x) (hx:Loc X.env.scope x) (he:PE X e te) (hs:swapsWith e (some (.Name x pos')) pos.line X.env=pure false:=by rfl) (hf:X.fn x=true\/X.env.scope.names.lookup x=some .local:=by first | exact .inl rfl | exact .inr rfl | assumption) :
  PS X (.Assign [.Name x pos'] e pos) (tQ te (iK i)):=by
 intro pins s σ H D I h
 refine wpAny_Assign_Name (thn (he pins s σ H _ I h) fun v s1 ⟨y,H1,I1,r1,q1⟩=>?_) hs
 exact jZ I1 hN hi hx r1 (fun s2 I2=>⟨_,H1,I2,q1⟩) hf
end
section
variable {X:Cx}{pos:Pos}
def oy (c:TT) (tb:TS):TS:=fun D σ H=>∃W:Nat->St->Hp->Prop,(∃m,W m σ H)/\∀m σ H,W m σ H ->
 c σ H fun b H1=>if b=true then ∃N:St->Hp->Prop,(∀σ' H',N σ' H'->∃m',m' < m/\W m' σ' H')/\tb { D with nx:=N,ct:=N,bk:=D.nx } σ H1 else D.nx σ H1
theorem j0 {c:Expr}{body:List Stmt}{tc:TT}{tb:TS} (hp:PassesOwn (model X.prog X.w) X.A X.env X.xe) (hc:PT X c tc) (hb:PSs X body tb):PS X (.While c body [] pos) (oy tc tb):=by
 intro pins s σ H D I h
 obtain ⟨W,⟨m0,w0⟩,turn⟩:=h
 refine wpAny_While (codeAny_whileLoop (fun n s'=>∃σ' H',Inv X pins σ' H' s'/\W n σ' H') ?_ m0 ⟨σ,H,I,w0⟩)
 rintro n s1 ⟨σ1,H1,I1,w1⟩
 refine wpAny_passesOwn hp (thn (hc pins s1 σ1 H1 _ I1 (turn n σ1 H1 w1)) fun b s2 ⟨H2,I2,q2⟩=>?_)
 cases b with
 | true =>
  obtain ⟨N,hN,q2⟩:=q2
  rw [if_pos rfl]
  refine wpAny_passesOwn hp (thn (hb pins s2 σ1 H2 _ I2 q2) fun f s3 q3=>?_)
  cases f with
  | next =>
   obtain ⟨σ3,H3,I3,n3⟩:=q3
   obtain ⟨m',hm,w3⟩:=hN σ3 H3 n3
   exact ⟨m',hm,σ3,H3,I3,w3⟩
  | cont =>
   obtain ⟨σ3,H3,I3,n3⟩:=q3
   obtain ⟨m',hm,w3⟩:=hN σ3 H3 n3
   exact ⟨m',hm,σ3,H3,I3,w3⟩
  | brk=>exact q3
  | ret v=>exact q3
 | false =>
  rw [if_neg Bool.false_ne_true]
  exact wpAny_execs_nil ⟨σ1,H2,I2,q2⟩
end
structure It where
 go:Nat->Hp->Prop
 yld:Nat->Hp->V->Hp->Prop
 stop:Nat->Hp->Prop
def nc (X:Cx) (pins:List (Addr×Obj)) (H:Hp) (b:Addr):Prop :=
 H b=none/\b≠X.env.locals/\b∉X.fs/\(b∈X.ex\/X.s₀.heap.objs.size<=b)/\(∀x c,X.env.cells.lookup x=some c->c≠b)/\∀p∈X.pn++pins,p.1≠b
theorem Inv.fpOk {X:Cx}{pins:List (Addr×Obj)}{σ:St}{H H':Hp}{s:Shared}{b:Addr} (I:Inv X pins σ H s) (hb:s.heap.objs.size<=b) (hn:H' b=none):nc X pins H' b:=by
 refine ⟨hn,Nat.ne_of_gt (Nat.lt_of_lt_of_le I.lt hb),I.nofs hb,.inr (Nat.le_trans I.sz hb),fun x c e z=>?_,fun p hp z=>?_⟩
 .obtain ⟨v,q⟩:=I.cell x c e
  exact absurd (Nat.lt_of_lt_of_le q.lt (by rw [z];exact hb)) (Nat.lt_irrefl _)
 .exact absurd (Nat.lt_of_lt_of_le (Heap.lt_size (I.pin p hp).1) (by rw [z];exact hb)) (Nat.lt_irrefl _)
structure rB (P:Program) (w:World) (K:PySem.W.Frag) (tg:Expr) (J:It) (fp:List Addr) (it:Addr) (tn:Nat->Heap->Prop):Prop where
 mem:it∈fp
 obj:∀i h,tn i h->∀b∈fp,∃o,h.get? b=some o/\∀v,o.data≠.cell v
 keep:∀i h h',tn i h->(∀b∈fp,∀o,h.get? b=some o->h'.get? b=some o)->tn i h'
 item:∀(X:Cx),X.prog=P->X.w=w->X.K=K->X.calm=true->∀(i:Nat) (pins:List (Addr×Obj)) (s:Shared) (σ:St) (H:Hp) (E:Value->Shared->Prop),Inv X pins σ H s->(∀b∈fp,nc X pins H b)->tn i s.heap->J.go i H ->
  wpAny (model P w) X.A (pyNext (.ref it)) (fun r s1=>∃u,r=some u /\
   wpAny (model P w) X.A (letOwnedTupleGo tg (.ref it) u) (fun _ s2=>∃x H',Inv X pins σ H' s2/\bP x u/\J.yld i H x H'/\tn (i + 1) s2.heap/\∀b∈fp,H' b=none) E s1) E s
 done:∀(X:Cx),X.prog=P->X.w=w->X.K=K->X.calm=true->∀(i:Nat) (pins:List (Addr×Obj)) (s:Shared) (σ:St) (H:Hp) (E:Value->Shared->Prop),Inv X pins σ H s->(∀b∈fp,nc X pins H b)->tn i s.heap->J.stop i H ->
  wpAny (model P w) X.A (pyNext (.ref it)) (fun r s1=>r=none/\Inv X pins σ H s1) E s
 self:∀(A:Around) (i:Nat) (s:Shared) (Q:Value->Shared->Prop) (E:Value->Shared->Prop),tn i s.heap->Q (.ref it) s->wpAny (model P w) A (pyIter (.ref it)) Q E s
abbrev TI:=St->Hp->(It->Hp->Prop)->Prop
def PIE (X:Cx) (pins:List (Addr×Obj)) (σ:St) (tg:Expr) (R:It->Hp->Prop) (itv:Value) (s2:Shared):Prop :=
 ∃(it:Addr) (fp:List Addr) (tn:Nat->Heap->Prop) (J:It) (H':Hp),itv=.ref it/\Inv X pins σ H' s2/\rB X.prog X.w X.K tg J fp it tn/\tn 0 s2.heap/\(∀b∈fp,nc X pins H' b)/\R J H'
def PI (X:Cx) (tg iter:Expr) (wi:TI):Prop :=
 ∀(pins:List (Addr×Obj)) (s:Shared) (σ:St) (H:Hp) (R:It->Hp->Prop),Inv X pins σ H s->wi σ H R ->
  wpAny (model X.prog X.w) X.A (eval iter X.env) (fun v s1=>wpAny (model X.prog X.w) X.A (pyIter v) (PIE X pins σ tg R) X.xe s1) X.xe s
theorem o0 {M:Model}{A:Around}{E:Value->Shared->Prop}{s:Shared}{tg:Expr}{it:Addr}{u:Value}{o:Obj}{n:String}{vs:Array Value}{Q:Unit->Shared->Prop} (ho:s.heap.get? it=some o) (hc:o.cls=.type n) (hd:o.data=.fields vs)
    (hn:["enumerate","zip","dict_itemiterator","dict_reverseitemiterator","odict_iterator","itertools.zip_longest","itertools.pairwise"].contains n=false) (hQ:Q () s):wpAny M A (letOwnedTupleGo tg (.ref it) u) Q E s:=by
  unfold letOwnedTupleGo
  cases tg <;> first
    | exact wpAny_pure hQ
    | (cases u <;> first
        | exact wpAny_pure hQ
        | (refine wpAny_bind (wpAny_load ho ?_)
           rw [hc,hd]
           show wpAny M A (if (["enumerate","zip","dict_itemiterator","dict_reverseitemiterator","odict_iterator","itertools.zip_longest","itertools.pairwise"].contains n && vs[0]? == some (rawInt _))=true then _ else _) Q E s
           rw [if_neg (by intro h;rw [hn,Bool.false_and] at h;cases h)]
           exact wpAny_pure hQ))
def Itl (K:PySem.W.Frag) (a:Addr):It :=
 ⟨fun i H=>∃xs x,SqL K H a xs/\xs[i]?=some x,fun i H x H'=>H'=H/\∀xs,SqL K H a xs->xs[i]?=some x,fun i H=>∃xs,SqL K H a xs/\xs.length<=i⟩
def Itt (K:PySem.W.Frag) (a:Addr):It :=
 ⟨fun i H=>∃xs x,SqT K H a xs/\xs[i]?=some x,fun i H x H'=>H'=H/\∀xs,SqT K H a xs->xs[i]?=some x,fun i H=>∃xs,SqT K H a xs/\xs.length<=i⟩
def Itr (lo:Int) (n:Nat):It:=⟨fun i _=>i < n,fun i H x H'=>H'=H/\x=.int (lo + i),fun i _=>n<=i⟩
theorem lq {P:Program}{w:World}{K:PySem.W.Frag}{tg:Expr} (a it:Addr):rB P w K tg (Itl K a) [it] it (fun i h=>h.IsListIter it a i) where
 mem:=by simp
 obj:=fun i h st b hb=>by
  have e:b=it:=by simpa using hb
  subst e
  obtain ⟨o,e,c,d⟩:=st
  exact ⟨o,e,fun v z=>by rw [d] at z;cases z⟩
 keep:=fun i h h' st k=>st.at fun o e=>k it (by simp) o e
 item:=by
  intro X hP hw hK hc i pins s σ H E I hf st hg
  subst hP hw hK
  obtain ⟨xs,x,hq,hx⟩:=hg
  obtain ⟨its,rv,p,hz⟩:=I.list hq
  obtain ⟨u,hu,ru⟩:=rv.get hx
  obtain ⟨f0,f1,f2,f3,f4,f5⟩:=hf it (by simp)
  refine wpAny_pyNext_list_item st p.isList (x:=u) (by simpa using hu) fun h' st' sb=>?_
  have I1:Inv X pins σ H { s with heap:=h' }:=I.turned (t':=s.toks) (fun b o hb e=>(sb.2 b hb).trans e) f0 f1 f3 f4 f5
  obtain ⟨o,e,c,d⟩:=id st'
  exact ⟨u,rfl,o0 (s:={ s with heap:=h' }) e c d (by decide) ⟨x,H,I1,ru,⟨rfl,fun ys hy=>by rw [I.list_inj hy hq];exact hx⟩,st',fun b hb=>(hf b hb).1⟩⟩
 done:=by
  intro X hP hw hK hc i pins s σ H E I hf st hg
  subst hP hw hK
  obtain ⟨xs,hq,hx⟩:=hg
  obtain ⟨its,rv,p,hz⟩:=I.list hq
  obtain ⟨f0,f1,f2,f3,f4,f5⟩:=hf it (by simp)
  have hl:=rv.length
  exact wpAny_pyNext_list_end (I.ok.hd hc) st p.isList (by simp;omega) fun h' eb=>⟨rfl,I.turned (t':=s.toks) (fun b o hb e=>eb b o hb e) f0 f1 f3 f4 f5⟩
 self:=fun _ _ _ _ _ st h=>wpAny_pyIter_listiter st h
theorem kC {P:Program}{w:World}{K:PySem.W.Frag}{tg:Expr} (a it:Addr):rB P w K tg (Itt K a) [it] it (fun i h=>h.IsTupleIter it a i) where
 mem:=by simp
 obj:=fun i h st b hb=>by
  have e:b=it:=by simpa using hb
  subst e
  obtain ⟨o,e,c,d⟩:=st
  exact ⟨o,e,fun v z=>by rw [d] at z;cases z⟩
 keep:=fun i h h' st k=>st.at fun o e=>k it (by simp) o e
 item:=by
  intro X hP hw hK hc i pins s σ H E I hf st hg
  subst hP hw hK
  obtain ⟨xs,x,hq,hx⟩:=hg
  obtain ⟨its,rv,p,hz⟩:=I.tuple hq
  obtain ⟨u,hu,ru⟩:=rv.get hx
  obtain ⟨f0,f1,f2,f3,f4,f5⟩:=hf it (by simp)
  refine wpAny_pyNext_tuple_item st (show s.heap.IsTuple a its.toArray from p) (x:=u) (by simpa using hu) fun h' st' sb=>?_
  have I1:Inv X pins σ H { s with heap:=h' }:=I.turned (t':=s.toks) (fun b o hb e=>(sb.2 b hb).trans e) f0 f1 f3 f4 f5
  obtain ⟨o,e,c,d⟩:=id st'
  exact ⟨u,rfl,o0 (s:={ s with heap:=h' }) e c d (by decide) ⟨x,H,I1,ru,⟨rfl,fun ys hy=>by rw [I.tuple_inj hy hq];exact hx⟩,st',fun b hb=>(hf b hb).1⟩⟩
 done:=by
  intro X hP hw hK hc i pins s σ H E I hf st hg
  subst hP hw hK
  obtain ⟨xs,hq,hx⟩:=hg
  obtain ⟨its,rv,p,hz⟩:=I.tuple hq
  obtain ⟨f0,f1,f2,f3,f4,f5⟩:=hf it (by simp)
  have hl:=rv.length
  exact wpAny_pyNext_tuple_end (I.ok.hd hc) st (show s.heap.IsTuple a its.toArray from p) (by simp;omega) fun h' eb=>⟨rfl,I.turned (t':=s.toks) (fun b o hb e=>eb b o hb e) f0 f1 f3 f4 f5⟩
 self:=fun _ _ _ _ _ st h=>wpAny_pyIter_tupleiter st h
theorem kE {P:Program}{w:World}{K:PySem.W.Frag}{tg:Expr} (it:Addr) (lo:Int) (n:Nat):rB P w K tg (Itr lo n) [it] it (fun i h=>IsRangeIter h it (lo + (i:Nat) * 1) ((n:Int) - (i:Nat)) 1) where
 mem:=by simp
 obj:=fun i h st b hb=>by
  have e:b=it:=by simpa using hb
  subst e
  exact ⟨_,st,fun v z=>by
   have z':Data.fields _=Data.cell v:=z
   cases z'⟩
 keep:=fun i h h' st k=>k it (by simp) _ st
 item:=by
  intro X hP hw hK hc i pins s σ H E I hf st hg
  subst hP hw hK
  obtain ⟨f0,f1,f2,f3,f4,f5⟩:=hf it (by simp)
  have W:=Walks.range (prog:=X.prog) (w:=X.w) (I.ok.hd hc) it lo 1 n
  refine W.item i s _ _ hg st fun v h' tk hv st' kk=>?_
  obtain ⟨t,rfl⟩:=hv
  have I1:Inv X pins σ H { s with heap:=h',toks:=tk }:=I.turned (fun b o hb e=>kk b o (by simpa using hb) e) f0 f1 f3 f4 f5
  refine ⟨_,rfl,o0 (s:={ s with heap:=h',toks:=tk }) (n:="range_iterator") st' rfl rfl (by decide) ⟨.int (lo + i),H,I1,⟨t,?_⟩,⟨rfl,rfl⟩,st',fun b hb=>(hf b hb).1⟩⟩
  rw [Int.mul_one]
 done:=by
  intro X hP hw hK hc i pins s σ H E I hf st hg
  subst hP hw hK
  obtain ⟨f0,f1,f2,f3,f4,f5⟩:=hf it (by simp)
  exact wpAny_pyNext_range_end (I.ok.hd hc) st (by have:n<=i:=hg;omega) fun h' eb=>⟨rfl,I.turned (t':=s.toks) (fun b o hb e=>eb b o hb e) f0 f1 f3 f4 f5⟩
 self:=fun _ _ _ _ _ st h=>wpAny_pyIter_rangeiter st h
section
variable {X:Cx}{tg:Expr}
theorem j1 {pins:List (Addr×Obj)}{σ:St}{H:Hp}{s:Shared}{R:It->Hp->Prop}{E:Value->Shared->Prop}{lo hi:Int}{t u v:Tok}{tk:Nat} (I:Inv X pins σ H s) (h1:-(2 ^ 62)<=lo) (h2:lo < 2 ^ 62) (h3:-(2 ^ 62)<=hi) (h4:hi < 2 ^ 62)
  (q:R (Itr lo (hi - lo).toNat) H):wpAny (model X.prog X.w) X.A (pyIter (.ref s.heap.objs.size)) (PIE X pins σ tg R) E { s with heap:=s.heap.push { cls:=.type "range",data:=.fields #[.int lo t,.int hi u,.int 1 v] },toks:=tk }:=by
 refine wpAny_pyIter_range (IsRange.new ..) (small_one h1 h2 h3 h4) ?_
 have I1:Inv X pins σ H { s with heap:=s.heap.push { cls:=.type "range",data:=.fields #[.int lo t,.int hi u,.int 1 v] },toks:=tk }:=I.kept fun b o e=>Heap.get?_push_of_some _ e
 refine ⟨(s.heap.push { cls:=.type "range",data:=.fields #[.int lo t,.int hi u,.int 1 v] }).objs.size,[(s.heap.push { cls:=.type "range",data:=.fields #[.int lo t,.int hi u,.int 1 v] }).objs.size],_,_,H,rfl,
  I1.kept (t':=tk) fun b o e=>Heap.get?_push_of_some _ e,kE _ lo (hi - lo).toNat,?_,fun b hb=>?_,q⟩
 .have e1:lo + ((0:Nat):Int) * 1=lo:=by simp
  have e2:(((hi - lo).toNat:Nat):Int) - ((0:Nat):Int)=Builtin.Range.rangeSize lo hi 1:=by rw [rangeSize_one];split <;> omega
  show IsRangeIter _ _ (lo + ((0:Nat):Int) * 1) ((((hi - lo).toNat:Nat):Int) - ((0:Nat):Int)) 1
  rw [e1,e2]
  exact Heap.get?_push_size _ rfl
 .have e:b=(s.heap.push { cls:=.type "range",data:=.fields #[.int lo t,.int hi u,.int 1 v] }).objs.size:=by simpa using hb
  subst e
  exact I1.fpOk (Nat.le_refl _) (I1.hok.fresh (Nat.le_refl _))
def o4 (ta:TA):TI:=fun σ H R=>ta σ H fun vs H1=>∃j:Int,vs=[.int j]/\-(2 ^ 62)<=j/\j < 2 ^ 62/\R (Itr 0 j.toNat) H1
def o5 (ta:TA):TI:=fun σ H R=>ta σ H fun vs H1=>∃i j:Int,vs=[.int i,.int j]/\(-(2 ^ 62)<=i/\i < 2 ^ 62/\-(2 ^ 62)<=j/\j < 2 ^ 62)/\R (Itr i (j - i).toNat) H1
theorem cV {a:Expr}{ta:TA}{p pos:Pos} (hg:Gl X "range") (hm:X.mg "range"=none) (ha:PA X [a] ta) (hs:starEach [a] X.env=[(false,eval a X.env)]:=by rfl):PI X tg (.Call (.Name "range" p) [a] [] pos) (o4 ta):=by
 intro pins s σ H R I h
 refine Call_ (eN I hg hm boot_range (PyProof.Rows.callWith_type1 (thn (ha pos pins s σ H _ I h) fun us s1 ⟨vs,H1,I1,r1,q1⟩=>?_) hs rfl))
 obtain ⟨j,e,q1,q2,q⟩:=q1
 subst e
 cases r1 with
 | cons r rr =>
  cases rr
  obtain ⟨t,rfl⟩:=r
  exact call_range_1 (j1 I1 (by omega) (by omega) q1 q2 (by simpa using q))
theorem iL {a b:Expr}{ta:TA}{p pos:Pos} (hg:Gl X "range") (hm:X.mg "range"=none) (ha:PA X [a,b] ta) (hs:starEach [a,b] X.env=[(false,eval a X.env),(false,eval b X.env)]:=by rfl) (hs2:starEach [b] X.env=[(false,eval b X.env)]:=by rfl) :
  PI X tg (.Call (.Name "range" p) [a,b] [] pos) (o5 ta):=by
 intro pins s σ H R I h
 refine Call_ (eN I hg hm boot_range (PyProof.Rows.callWith_type1 (thn (ha pos pins s σ H _ I h) fun us s1 ⟨vs,H1,I1,r1,q1⟩=>?_) (by rw [hs,hs2]) (by rw [hs2];rfl)))
 obtain ⟨i,j,e,⟨q1,q2,q3,q4⟩,q⟩:=q1
 subst e
 cases r1 with
 | cons r rr =>
  cases rr with
  | cons r' rr =>
   cases rr
   obtain ⟨t,rfl⟩:=r
   obtain ⟨t',rfl⟩:=r'
   exact call_range_2 (j1 I1 q1 q2 q3 q4 q)
def tR (wi:TI) (g:TG) (tb:TS):TS:=fun D σ H=>wi σ H fun J H1=>∃W:Nat->Nat->St->Hp->Prop,(∃m,W 0 m σ H1)/\∀i m σ H,W i m σ H ->
 (J.stop i H/\D.nx σ H)\/(J.go i H/\∃N:St->Hp->Prop,(∀σ' H',N σ' H'->∃m',m' < m/\W (i + 1) m' σ' H')/\∀x H',J.yld i H x H'->g x σ H' fun σ2 H2=>tb { D with nx:=N,ct:=N,bk:=D.nx } σ2 H2)
def iM (fp:List Addr) (h:Heap):List (Addr×Obj):=fp.filterMap fun b=>(h.get? b).map fun o=>(b,o)
theorem dW {fp:List Addr}{h:Heap}{b:Addr}{o:Obj} (hb:b∈fp) (e:h.get? b=some o):(b,o)∈iM fp h:=List.mem_filterMap.mpr ⟨b,hb,by rw [e];rfl⟩
theorem lr {fp:List Addr}{h:Heap}{p:Addr×Obj} (hp:p∈iM fp h):p.1∈fp/\h.get? p.1=some p.2:=by
 obtain ⟨b,hb,e⟩:=List.mem_filterMap.mp hp
 cases q:h.get? b with
 | none=>rw [q] at e;cases e
 | some o =>
  rw [q] at e
  have e':(b,o)=p:=Option.some.inj e
  subst e'
  exact ⟨hb,q⟩
theorem Inv.pinned {pins:List (Addr×Obj)}{σ:St}{H:Hp}{s:Shared}{fp:List Addr} (I:Inv X pins σ H s) (hf:∀b∈fp,nc X pins H b) (ho:∀b∈fp,∃o,s.heap.get? b=some o/\∀v,o.data≠.cell v):Inv X (pins++iM fp s.heap) σ H s :=
 I.pins_of fun p hp=>(List.mem_append.mp hp).elim (fun z=>I.pin p (List.mem_append_right _ z)) fun z=>by
  obtain ⟨hb,e⟩:=lr z
  obtain ⟨f0,f1,f2,_⟩:=hf p.1 hb
  obtain ⟨o,e',d⟩:=ho p.1 hb
  rw [e] at e';cases e'
  exact ⟨e,f0,f1,f2,d⟩
theorem Inv.unpinned {pins pl:List (Addr×Obj)}{σ:St}{H:Hp}{s:Shared} (I:Inv X (pins++pl) σ H s):Inv X pins σ H s:=I.pins_of fun p hp=>I.pin p (List.mem_append_right _ (List.mem_append_left _ hp))
theorem cF {iter:Expr}{body:List Stmt}{wi:TI}{g:TG}{tb:TS}{pos:Pos} (hp:PassesOwn (model X.prog X.w) X.A X.env X.xe) (hc:X.calm=true) (hi:PI X tg iter wi) (hg:PG X tg g) (hb:PSs X body tb)
  (hs:∀x,foldedSetIterable iter X.env x=pure x:=by intro _;rfl):PS X (.For tg iter body [] pos) (tR wi g tb):=by
 intro pins s σ H D I h
 refine wpAny_For (thn (hi pins s σ H _ I h) fun v s1 h1=>thn h1 fun itv s2 h2=>?_) hs
 obtain ⟨it,fp,tn,J,H2,e,I2,T,st2,f2,W,⟨m0,w0⟩,turn⟩:=h2
 subst e
 -- what stays true of the iterator's objects through the loop
 have stat:∀{H':Hp},(∀b∈fp,H' b=none)->∀b∈fp,nc X pins H' b:=fun hn b hb=>⟨hn b hb,(f2 b hb).2⟩
 refine codeAny_forLoop_any (fun n s'=>∃i σ' H',Inv X pins σ' H' s'/\tn i s'.heap/\(∀b∈fp,H' b=none)/\W i n σ' H') ?_ m0 ⟨0,σ,H2,I2,st2,fun b hb=>(f2 b hb).1,w0⟩
 rintro n s3 ⟨i,σ3,H3,I3,st3,fr3,w3⟩
 rcases turn i n σ3 H3 w3 with ⟨stop,qn⟩ | ⟨go,N,hN,step⟩
 .refine wpAny_passesOwn hp (thn (T.done X rfl rfl rfl hc i pins s3 σ3 H3 X.xe I3 (stat fr3) st3 stop) fun r s4 ⟨hr,I4⟩=>?_)
  subst hr
  exact wpAny_execs_nil ⟨σ3,H3,I4,qn⟩
 .refine wpAny_passesOwn hp (thn (T.item X rfl rfl rfl hc i pins s3 σ3 H3 X.xe I3 (stat fr3) st3 go) fun r s4 ⟨u,hr,h4⟩=>?_)
  subst hr
  refine wpAny_passesOwn hp (thn h4 fun _ s5 ⟨x,H5,I5,r5,y5,st5,fr5⟩=>?_)
  have I5':=I5.pinned (stat fr5) (T.obj _ _ st5)
  refine wpAny_passesOwn hp (thn (hg _ s5 σ3 H5 x u _ I5' r5 (step x H5 y5)) fun _ s6 ⟨σ6,H6,I6,q6⟩=>?_)
  refine wpAny_passesOwn hp (thn (hb _ s6 σ6 H6 _ I6 q6) fun f s7 q7=>?_)
  have again:∀{σ7:St}{H7:Hp},Inv X (pins++iM fp s5.heap) σ7 H7 s7->N σ7 H7->∃m,m < n/\∃i σ' H',Inv X pins σ' H' s7/\tn i s7.heap/\(∀b∈fp,H' b=none)/\W i m σ' H':=fun {σ7 H7} I7 n7=>by
   obtain ⟨m',hm,w7⟩:=hN σ7 H7 n7
   refine ⟨m',hm,i + 1,σ7,H7,I7.unpinned,T.keep _ _ _ st5 fun b hb o e=>(I7.pin (b,o) (List.mem_append_right _ (List.mem_append_right _ (dW hb e)))).1,fun b hb=>?_,w7⟩
   obtain ⟨o,e,d⟩:=T.obj _ _ st5 b hb
   exact (I7.pin (b,o) (List.mem_append_right _ (List.mem_append_right _ (dW hb e)))).2.1
  cases f with
  | next=>obtain ⟨σ7,H7,I7,n7⟩:=q7;exact again I7 n7
  | cont=>obtain ⟨σ7,H7,I7,n7⟩:=q7;exact again I7 n7
  | brk=>obtain ⟨σ7,H7,I7,q7⟩:=q7;exact ⟨σ7,H7,I7.unpinned,q7⟩
  | ret v=>obtain ⟨x7,σ7,H7,I7,r7,q7⟩:=q7;exact ⟨x7,σ7,H7,I7.unpinned,r7,q7⟩
end
theorem nr {K:PySem.W.Frag}{a:Addr}{xs:List V}{g:TG}{tb:TS}{D:ll}{σ:St}{H:Hp} (Pv:Nat->St->Hp->Prop) (h0:Pv 0 σ H) (hl:∀i σ H,i<=xs.length->Pv i σ H->SqL K H a xs)
  (hs:∀i x σ H,xs[i]?=some x->Pv i σ H->g x σ H fun σ2 H2=>tb { D with nx:=Pv (i + 1),ct:=Pv (i + 1),bk:=D.nx } σ2 H2) (hd:∀σ H,Pv xs.length σ H->D.nx σ H) :
  ∃W:Nat->Nat->St->Hp->Prop,(∃m,W 0 m σ H)/\∀i m σ H,W i m σ H ->
   ((Itl K a).stop i H/\D.nx σ H)\/((Itl K a).go i H/\∃N:St->Hp->Prop,(∀σ' H',N σ' H'->∃m',m' < m/\W (i + 1) m' σ' H')/\∀x H',(Itl K a).yld i H x H'->g x σ H' fun σ2 H2=>tb { D with nx:=N,ct:=N,bk:=D.nx } σ2 H2):=by
 refine ⟨fun i m σ H=>m=xs.length - i/\i<=xs.length/\Pv i σ H,⟨xs.length,by simp,Nat.zero_le _,h0⟩,?_⟩
 rintro i m σ H ⟨rfl,hi,p⟩
 have q:=hl i σ H hi p
 by_cases hlt:i < xs.length
 .refine .inr ⟨⟨xs,xs[i],q,by simp [hlt]⟩,Pv (i + 1),fun σ' H' p'=>⟨xs.length - (i + 1),by omega,rfl,hlt,p'⟩,fun x H' y=>?_⟩
  obtain ⟨e,y⟩:=y
  subst e
  exact hs i x σ _ (y xs q) p
 .have e:i=xs.length:=by omega
  subst e
  exact .inl ⟨⟨xs,q,Nat.le_refl _⟩,hd σ H p⟩
theorem o7 {K:PySem.W.Frag}{a:Addr}{xs:List V}{g:TG}{tb:TS}{D:ll}{σ:St}{H:Hp} (Pv:Nat->St->Hp->Prop) (h0:Pv 0 σ H) (hl:∀i σ H,i<=xs.length->Pv i σ H->SqT K H a xs)
  (hs:∀i x σ H,xs[i]?=some x->Pv i σ H->g x σ H fun σ2 H2=>tb { D with nx:=Pv (i + 1),ct:=Pv (i + 1),bk:=D.nx } σ2 H2) (hd:∀σ H,Pv xs.length σ H->D.nx σ H) :
  ∃W:Nat->Nat->St->Hp->Prop,(∃m,W 0 m σ H)/\∀i m σ H,W i m σ H ->
   ((Itt K a).stop i H/\D.nx σ H)\/((Itt K a).go i H/\∃N:St->Hp->Prop,(∀σ' H',N σ' H'->∃m',m' < m/\W (i + 1) m' σ' H')/\∀x H',(Itt K a).yld i H x H'->g x σ H' fun σ2 H2=>tb { D with nx:=N,ct:=N,bk:=D.nx } σ2 H2):=by
 refine ⟨fun i m σ H=>m=xs.length - i/\i<=xs.length/\Pv i σ H,⟨xs.length,by simp,Nat.zero_le _,h0⟩,?_⟩
 rintro i m σ H ⟨rfl,hi,p⟩
 have q:=hl i σ H hi p
 by_cases hlt:i < xs.length
 .refine .inr ⟨⟨xs,xs[i],q,by simp [hlt]⟩,Pv (i + 1),fun σ' H' p'=>⟨xs.length - (i + 1),by omega,rfl,hlt,p'⟩,fun x H' y=>?_⟩
  obtain ⟨e,y⟩:=y
  subst e
  exact hs i x σ _ (y xs q) p
 .have e:i=xs.length:=by omega
  subst e
  exact .inl ⟨⟨xs,q,Nat.le_refl _⟩,hd σ H p⟩
theorem lu {lo:Int}{n:Nat}{g:TG}{tb:TS}{D:ll}{σ:St}{H:Hp} (Pv:Nat->St->Hp->Prop) (h0:Pv 0 σ H)
  (hs:∀i σ H,i < n->Pv i σ H->g (.int (lo + i)) σ H fun σ2 H2=>tb { D with nx:=Pv (i + 1),ct:=Pv (i + 1),bk:=D.nx } σ2 H2) (hd:∀σ H,Pv n σ H->D.nx σ H) :
  ∃W:Nat->Nat->St->Hp->Prop,(∃m,W 0 m σ H)/\∀i m σ H,W i m σ H ->
   ((Itr lo n).stop i H/\D.nx σ H)\/((Itr lo n).go i H/\∃N:St->Hp->Prop,(∀σ' H',N σ' H'->∃m',m' < m/\W (i + 1) m' σ' H')/\∀x H',(Itr lo n).yld i H x H'->g x σ H' fun σ2 H2=>tb { D with nx:=N,ct:=N,bk:=D.nx } σ2 H2):=by
 refine ⟨fun i m σ H=>m=n - i/\i<=n/\Pv i σ H,⟨n,by simp,Nat.zero_le _,h0⟩,?_⟩
 rintro i m σ H ⟨rfl,hi,p⟩
 by_cases hlt:i < n
 .refine .inr ⟨hlt,Pv (i + 1),fun σ' H' p'=>⟨n - (i + 1),by omega,rfl,hlt,p'⟩,fun x H' y=>?_⟩
  obtain ⟨e,y⟩:=y
  subst e y
  exact hs i σ _ hlt p
 .have e:i=n:=by omega
  subst e
  exact .inl ⟨Nat.le_refl _,hd σ H p⟩
abbrev R2:=V->V->Hp->VK->Prop
def OpR (X:Cx) (f:Value->Value->Sem Value) (r:R2):Prop :=
 ∀(pins:List (Addr×Obj)) (s:Shared) (σ:St) (H:Hp) (x y:V) (v u:Value) (Q:VK),Inv X pins σ H s->bP x v->bP y u->r x y H Q ->
  wpAny (model X.prog X.w) X.A (f v u) (EP X pins σ Q) X.xe s
def UnR (X:Cx) (f:Value->Sem Value) (r:V->Hp->VK->Prop):Prop :=
 ∀(pins:List (Addr×Obj)) (s:Shared) (σ:St) (H:Hp) (x:V) (v:Value) (Q:VK),Inv X pins σ H s->bP x v->r x H Q ->
  wpAny (model X.prog X.w) X.A (f v) (EP X pins σ Q) X.xe s
def ci (X:Cx) (f:Value) (r:List V->Hp->VK->Prop):Prop :=
 ∀(pins:List (Addr×Obj)) (s:Shared) (σ:St) (H:Hp) (xs:List V) (us:List Value) (Q:VK),Inv X pins σ H s->br xs us->r xs H Q ->
  wpAny (model X.prog X.w) X.A (call f us) (EP X pins σ Q) X.xe s
def tOp (r:R2) (ta tb:TE):TE:=fun σ H Q=>ta σ H fun x H1=>tb σ H1 fun y H2=>r x y H2 Q
def tUn (r:V->Hp->VK->Prop) (ta:TE):TE:=fun σ H Q=>ta σ H fun x H1=>r x H1 Q
def rI (C:Int->Int->Prop) (g:Int->Int->V):R2:=fun x y H Q=>∃i j,x=.int i/\y=.int j/\C i j/\Q (g i j) H
def rI0 (g:Int->Int->V):R2:=fun x y H Q=>∃i j,x=.int i/\y=.int j/\Q (g i j) H
def rU (g:Int->V):V->Hp->VK->Prop:=fun x H Q=>∃i,x=.int i/\Q (g i) H
section
variable {X:Cx}{a b c:Expr}{ta tb tc:TE}{pos:Pos}
theorem t0 (ha:PE X a ta) (hb:PE X b tb) {pins:List (Addr×Obj)}{s:Shared}{σ:St}{H:Hp}{R:V->V->Hp->Prop} (I:Inv X pins σ H s)
  (h:ta σ H fun x H1=>tb σ H1 fun y H2=>R x y H2) {Q:Value->Shared->Prop}{f:Value->Value->Sem Value}
  (hf:∀v u s2 x y H2,Inv X pins σ H2 s2->bP x v->bP y u->R x y H2->wpAny (model X.prog X.w) X.A (f v u) Q X.xe s2) :
  wpAny (model X.prog X.w) X.A (eval a X.env) (fun v s₁=>wpAny (model X.prog X.w) X.A (eval b X.env) (fun u s₂=>wpAny (model X.prog X.w) X.A (f v u) Q X.xe s₂) X.xe s₁) X.xe s:=by
 refine thn (ha pins s σ H _ I h) fun v s1 ⟨x,H1,I1,r1,q1⟩=>?_
 refine thn (hb pins s1 σ H1 _ I1 q1) fun u s2 ⟨y,H2,I2,r2,q2⟩=>?_
 exact hf v u s2 x y H2 I2 r1 r2 q2
theorem aK {op:Operator}{r:R2} (ho:OpR X (binaryOp op) r) (ha:PE X a ta) (hb:PE X b tb):PE X (.BinOp a op b pos) (tOp r ta tb):=by
 intro pins s σ H Q I h
 exact wpAny_BinOp (t0 ha hb I h fun v u s2 x y H2 I2 rx ry q=>ho pins s2 σ H2 x y v u Q I2 rx ry q)
theorem o8 {op:UnaryOp}{r:V->Hp->VK->Prop} (ho:UnR X (unaryOp op) r) (ha:PE X a ta):PE X (.UnaryOp op a pos) (tUn r ta):=by
 intro pins s σ H Q I h
 exact UnaryOp_ (thn (ha pins s σ H _ I h) fun v s1 ⟨x,H1,I1,r1,q1⟩=>ho pins s1 σ H1 x v Q I1 r1 q1)
theorem opI {f:Value->Value->Sem Value}{C:Int->Int->Prop}{g:Int->Int->Int}
  (rule:∀(i j:Int) (t u:Tok) (s:Shared) (Q:Value->Shared->Prop) (E:Value->Shared->Prop),C i j->Q (.int (g i j) s.toks) { s with toks:=s.toks + 1 }->wpAny (model X.prog X.w) X.A (f (.int i t) (.int j u)) Q E s) :
  OpR X f (rI C fun i j=>.int (g i j)):=by
 intro pins s σ H x y v u Q I rx ry h
 obtain ⟨i,j,rfl,rfl,hc,q⟩:=h
 obtain ⟨t,rfl⟩:=rx
 obtain ⟨t',rfl⟩:=ry
 exact rule i j t t' s _ _ hc ⟨.int (g i j),H,I.tok _,⟨_,rfl⟩,q⟩
theorem uY {f:Value->Value->Sem Value}{g:Int->Int->Int}
  (rule:∀(i j:Int) (t u:Tok) (s:Shared) (Q:Value->Shared->Prop) (E:Value->Shared->Prop),Q (.int (g i j) s.toks) { s with toks:=s.toks + 1 }->wpAny (model X.prog X.w) X.A (f (.int i t) (.int j u)) Q E s) :
  OpR X f (rI0 fun i j=>.int (g i j)):=by
 intro pins s σ H x y v u Q I rx ry h
 obtain ⟨i,j,rfl,rfl,q⟩:=h
 obtain ⟨t,rfl⟩:=rx
 obtain ⟨t',rfl⟩:=ry
 exact rule i j t t' s _ _ ⟨.int (g i j),H,I.tok _,⟨_,rfl⟩,q⟩
theorem rC {f:Value->Value->Sem Value}{g:Int->Int->Bool}
  (rule:∀(i j:Int) (t u:Tok) (s:Shared) (Q:Value->Shared->Prop) (E:Value->Shared->Prop),Q (.bool (g i j)) s->wpAny (model X.prog X.w) X.A (f (.int i t) (.int j u)) Q E s) :
  OpR X f (rI0 fun i j=>.bl (g i j)):=by
 intro pins s σ H x y v u Q I rx ry h
 obtain ⟨i,j,rfl,rfl,q⟩:=h
 obtain ⟨t,rfl⟩:=rx
 obtain ⟨t',rfl⟩:=ry
 exact rule i j t t' s _ _ ⟨.bl (g i j),H,I,rfl,q⟩
def t3 (i j:Int):Prop:=0 < j/\j < 1073741824
def t4 (i j:Int):Prop:=0<=j/\j<=1000000/\i.natAbs < 2 ^ 64
def tS (i j:Int):Prop:=(-(2 ^ 64) < i/\i < 2 ^ 64)\/(-(2 ^ 64) < j/\j < 2 ^ 64)
theorem tS.ok {i j:Int} (h:tS i j):IntMulOk i j:=by
 rcases h with ⟨h1,h2⟩ | ⟨h1,h2⟩
 .exact .of_left (intBits_le_64 h1 h2)
 .exact .of_right (intBits_le_64 h1 h2)
theorem rD:OpR X (binaryOp .Add) (rI0 fun i j=>.int (i + j)):=uY fun _ _ _ _ _ _ _ q=>add_int q
theorem rE:OpR X (binaryOp .Sub) (rI0 fun i j=>.int (i - j)):=uY fun _ _ _ _ _ _ _ q=>sub_int q
theorem rF:OpR X (binaryOp .Mult) (rI tS fun i j=>.int (i * j)):=opI fun _ _ _ _ _ _ _ hc q=>mul_int q hc.ok
theorem o9:OpR X (binaryOp .FloorDiv) (rI t3 fun i j=>.int (i / j)):=opI fun i j _ _ _ _ _ hc q=>by
 have h1:(0:Int) < j:=hc.1
 have h2:j < 1073741824:=hc.2
 exact floordiv_int (by omega) (by rw [Int.fdiv_eq_ediv_of_nonneg i (by omega)];exact q) (.inl (PyProof.noPylong_small (by omega)))
theorem rG:OpR X (binaryOp .Mod) (rI (fun _ j=>0 < j) fun i j=>.int (i % j)):=opI fun i j _ _ _ _ _ hc q=>by
 have h1:(0:Int) < j:=hc
 exact mod_int' (by omega) (by rw [Int.fmod_eq_emod_of_nonneg i (by omega)];exact q)
theorem rH:OpR X (binaryOp .Pow) (rI t4 fun i j=>.int (i ^ j.toNat)):=opI fun _ _ _ _ _ _ _ hc q=>pow_int_small hc.1 hc.2.1 hc.2.2 q
theorem unI {f:Value->Sem Value}{g:Int->Int}
  (rule:∀(i:Int) (t:Tok) (s:Shared) (Q:Value->Shared->Prop) (E:Value->Shared->Prop),Q (.int (g i) s.toks) { s with toks:=s.toks + 1 }->wpAny (model X.prog X.w) X.A (f (.int i t)) Q E s) :
  UnR X f (rU fun i=>.int (g i)):=by
 intro pins s σ H x v Q I rx h
 obtain ⟨i,rfl,q⟩:=h
 obtain ⟨t,rfl⟩:=rx
 exact rule i t s _ _ ⟨.int (g i),H,I.tok _,⟨_,rfl⟩,q⟩
theorem lv:UnR X (unaryOp .USub) (rU fun i=>.int (-i)):=unI fun _ _ _ _ _ q=>neg_int q
end
def uZ:V->V->Bool
 | .non,.non=>true | .non,.int _=>true | .int _,.non=>true | .non,.bl _=>true | .bl _,.non=>true | .non,.str _=>true | .str _,.non=>true
 | .int _,.int _=>true | .bl _,.bl _=>true | .str _,.str _=>true | .byt _,.byt _=>true
 | .int _,.str _=>true | .str _,.int _=>true | .bl _,.str _=>true | .str _,.bl _=>true
 | _,_=>false
def rEq:R2:=fun x y H Q=>uZ x y=true/\Q (.bl (decide (x=y))) H
def rNe:R2:=fun x y H Q=>uZ x y=true/\Q (.bl (!decide (x=y))) H
theorem lx {i j:Int}:decide (V.int i=V.int j)=(i == j):=by
 rw [Bool.eq_iff_iff]
 simp
theorem oz {i j:Bool}:decide (V.bl i=V.bl j)=(i == j):=by
 rw [Bool.eq_iff_iff]
 simp
theorem ly {i j:Str}:decide (V.str i=V.str j)=(i == j):=by
 rw [Bool.eq_iff_iff]
 simp
theorem lz {i j:Array UInt8}:decide (V.byt i=V.byt j)=(i.toList == j.toList):=by
 rw [Bool.eq_iff_iff]
 cases i
 cases j
 simp
section
variable {X:Cx}{a b c:Expr}{ta tb tc:TE}{pos:Pos}
theorem a5 {pins:List (Addr×Obj)}{σ:St}{H:Hp}{s:Shared}{Q:VK}{k k':Bool} (I:Inv X pins σ H s) (q:Q (.bl k) H) (e:k=k'):EP X pins σ Q (.bool k') s:=by
 subst e
 exact ⟨.bl k,H,I,rfl,q⟩
theorem t5:OpR X (compareOp .Eq) rEq:=by
 intro pins s σ H x y v u Q I rx ry h
 obtain ⟨hs,q⟩:=h
 cases x with
 | non =>
  cases rx
  cases y with
  | non=>cases ry;exact PySem.EqNone.eq_none_none (a5 I q (by simp))
  | bl j=>cases ry;exact PySem.EqNone.eq_none_bool (a5 I q (by simp))
  | int j=>obtain ⟨t',rfl⟩:=ry;exact PySem.EqNone.eq_none_int (a5 I q (by simp))
  | str j=>obtain ⟨t',rfl⟩:=ry;exact PySem.EqNone.eq_none_str (a5 I q (by simp))
  | _=>exact absurd (show false=true from hs) Bool.false_ne_true
 | bl i =>
  cases rx
  cases y with
  | non=>cases ry;exact PySem.EqNone.eq_bool_none (a5 I q (by simp))
  | bl j=>cases ry;exact eq_bool (a5 I q oz)
  | str j=>obtain ⟨t',rfl⟩:=ry;exact PySem.EqMixed.eq_bool_str (a5 I q (by simp))
  | _=>exact absurd (show false=true from hs) Bool.false_ne_true
 | int i =>
  obtain ⟨t,rfl⟩:=rx
  cases y with
  | non=>cases ry;exact PySem.EqNone.eq_int_none (a5 I q (by simp))
  | int j=>obtain ⟨t',rfl⟩:=ry;exact eq_int (a5 I q lx)
  | str j=>obtain ⟨t',rfl⟩:=ry;exact PySem.EqMixed.eq_int_str (a5 I q (by simp))
  | _=>exact absurd (show false=true from hs) Bool.false_ne_true
 | str i =>
  obtain ⟨t,rfl⟩:=rx
  cases y with
  | non=>cases ry;exact PySem.EqNone.eq_str_none (a5 I q (by simp))
  | bl j=>cases ry;exact PySem.EqMixed.eq_str_bool (a5 I q (by simp))
  | int j=>obtain ⟨t',rfl⟩:=ry;exact PySem.EqMixed.eq_str_int (a5 I q (by simp))
  | str j=>obtain ⟨t',rfl⟩:=ry;exact eq_str (a5 I q ly)
  | _=>exact absurd (show false=true from hs) Bool.false_ne_true
 | byt i =>
  obtain ⟨t,rfl⟩:=rx
  cases y with
  | byt j=>obtain ⟨t',rfl⟩:=ry;exact PySem.W.eq_bytes (a5 I q lz)
  | _=>exact absurd (show false=true from hs) Bool.false_ne_true
 | _=>cases y <;> exact absurd (show false=true from hs) Bool.false_ne_true
theorem t6:OpR X (compareOp .NotEq) rNe:=by
 intro pins s σ H x y v u Q I rx ry h
 obtain ⟨hs,q⟩:=h
 cases x with
 | non =>
  cases rx
  cases y with
  | non=>cases ry;exact PySem.EqNone.ne_none_none (a5 I q (by simp))
  | bl j=>cases ry;exact PySem.EqNone.ne_none_bool (a5 I q (by simp))
  | int j=>obtain ⟨t',rfl⟩:=ry;exact PySem.EqNone.ne_none_int (a5 I q (by simp))
  | str j=>obtain ⟨t',rfl⟩:=ry;exact PySem.EqNone.ne_none_str (a5 I q (by simp))
  | _=>exact absurd (show false=true from hs) Bool.false_ne_true
 | bl i =>
  cases rx
  cases y with
  | non=>cases ry;exact PySem.EqNone.ne_bool_none (a5 I q (by simp))
  | bl j=>cases ry;exact ne_bool (a5 I q (congrArg not oz))
  | str j=>obtain ⟨t',rfl⟩:=ry;exact PySem.EqMixed.ne_bool_str (a5 I q (by simp))
  | _=>exact absurd (show false=true from hs) Bool.false_ne_true
 | int i =>
  obtain ⟨t,rfl⟩:=rx
  cases y with
  | non=>cases ry;exact PySem.EqNone.ne_int_none (a5 I q (by simp))
  | int j=>obtain ⟨t',rfl⟩:=ry;exact ne_int (a5 I q (congrArg not lx))
  | str j=>obtain ⟨t',rfl⟩:=ry;exact PySem.EqMixed.ne_int_str (a5 I q (by simp))
  | _=>exact absurd (show false=true from hs) Bool.false_ne_true
 | str i =>
  obtain ⟨t,rfl⟩:=rx
  cases y with
  | non=>cases ry;exact PySem.EqNone.ne_str_none (a5 I q (by simp))
  | bl j=>cases ry;exact PySem.EqMixed.ne_str_bool (a5 I q (by simp))
  | int j=>obtain ⟨t',rfl⟩:=ry;exact PySem.EqMixed.ne_str_int (a5 I q (by simp))
  | str j=>obtain ⟨t',rfl⟩:=ry;exact ne_str (a5 I q (congrArg not ly))
  | _=>exact absurd (show false=true from hs) Bool.false_ne_true
 | byt i =>
  obtain ⟨t,rfl⟩:=rx
  cases y with
  | byt j=>obtain ⟨t',rfl⟩:=ry;exact PySem.W.ne_bytes (a5 I q (congrArg not lz))
  | _=>exact absurd (show false=true from hs) Bool.false_ne_true
 | _=>cases y <;> exact absurd (show false=true from hs) Bool.false_ne_true
theorem t7:OpR X (compareOp .Lt) (rI0 fun i j=>.bl (decide (i < j))):=rC fun _ _ _ _ _ _ _ q=>lt_int q
theorem t8:OpR X (compareOp .LtE) (rI0 fun i j=>.bl (decide (i<=j))):=rC fun _ _ _ _ _ _ _ q=>le_int q
theorem t9:OpR X (compareOp .Gt) (rI0 fun i j=>.bl (decide (j < i))):=rC fun _ _ _ _ _ _ _ q=>gt_int q
theorem lA:OpR X (compareOp .Lt) (fun x y H Q=>∃i j,x=.str i/\y=.str j/\Q (.bl (decide (i.cps.toList < j.cps.toList))) H):=by
 intro pins s σ H x y v u Q I rx ry h
 obtain ⟨i,j,rfl,rfl,q⟩:=h
 obtain ⟨t,rfl⟩:=rx
 obtain ⟨t',rfl⟩:=ry
 exact lt_str (a5 I q rfl)
theorem pd:OpR X (compareOp .IsNot) (fun x y H Q=>y=.non/\Q (.bl (!decide (x=.non))) H):=by
 intro pins s σ H x y v u Q I rx ry h
 obtain ⟨rfl,q⟩:=h
 cases ry
 refine isnot_none_gen (a5 I q ?_)
 cases x <;> first
  | (cases rx;rfl)
  | (obtain ⟨t,rfl⟩:=rx;rfl)
theorem OpR.or {f:Value->Value->Sem Value}{r r':R2} (h:OpR X f r) (h':OpR X f r'):OpR X f (fun x y H Q=>r x y H Q\/r' x y H Q):=by
 intro pins s σ H x y v u Q I rx ry q
 rcases q with q | q
 .exact h pins s σ H x y v u Q I rx ry q
 .exact h' pins s σ H x y v u Q I rx ry q
theorem bd (b:Expr) {op:CmpOp} (h:op≠.In:=by decide) (h2:op≠.NotIn:=by decide):behindInMarks op b=false:=by
 have e1:(op == CmpOp.In)=false:=by cases op <;> first | rfl | exact absurd rfl h
 have e2:(op == CmpOp.NotIn)=false:=by cases op <;> first | rfl | exact absurd rfl h2
 cases b <;> simp [behindInMarks,e1,e2]
theorem pf {op:CmpOp}{r:R2} (ho:OpR X (compareOp op) r) (ha:PE X a ta) (hb:PE X b tb) (hm:behindInMarks op b=false):PE X (.Compare a [op] [b] pos) (tOp r ta tb):=by
 intro pins s σ H Q I h
 exact wpAny_Compare1 (t0 ha hb I h fun v u s2 x y H2 I2 rx ry q=>ho pins s2 σ H2 x y v u Q I2 rx ry q) hm
def rJ (t:TE):TT:=fun σ H Q=>t σ H fun x H'=>∃k,x=.bl k/\Q k H'
theorem aO {op:CmpOp}{r:R2} (ho:OpR X (compareOp op) r) (ha:PE X a ta) (hb:PE X b tb) (hm:behindInMarks op b=false):PT X (.Compare a [op] [b] pos) (rJ (tOp r ta tb)):=by
 intro pins s σ H Q I h
 refine wpAny_isTrue_Compare1 (thn (ha pins s σ H _ I h) fun v s1 ⟨x,H1,I1,r1,q1⟩=>thn (hb pins s1 σ H1 _ I1 q1) fun u s2 ⟨y,H2,I2,r2,q2⟩ =>
  thn (ho pins s2 σ H2 x y v u _ I2 r1 r2 q2) fun c s3 ⟨z,H3,I3,r3,k,e,q3⟩=>?_) hm
 subst e
 cases r3
 exact wpAny_truthy_bool ⟨H3,I3,q3⟩
theorem iN:(sizeLine:Nat) < 2 ^ 63:=by rw [sizeLine_eq];decide
theorem kF:OpR X (binaryOp .Add) (fun x y H Q=>∃i j,x=.str i/\y=.str j/\i.length + j.length<=sizeLine/\Q (.str (i++j)) H):=by
 intro pins s σ H x y v u Q I rx ry h
 obtain ⟨i,j,rfl,rfl,hz,q⟩:=h
 obtain ⟨t,rfl⟩:=rx
 obtain ⟨t',rfl⟩:=ry
 exact add_str (fun t' tk=>⟨.str (i++j),H,I.tok _,⟨_,rfl⟩,q⟩) hz
theorem jB {x:V}{us:List Value} (r:br [x] us):∃u,us=[u]/\bP x u:=by
 cases r with
 | cons r1 r2=>cases r2;exact ⟨_,rfl,r1⟩
theorem rK {x y:V}{us:List Value} (r:br [x,y] us):∃u w',us=[u,w']/\bP x u/\bP y w':=by
 cases r with
 | cons r1 r2 =>
  cases r2 with
  | cons r3 r4=>cases r4;exact ⟨_,_,rfl,r1,r3⟩
theorem lB (hc:X.calm=true):ci X (.builtin "min") (fun xs H Q=>∃i j,xs=[.int i,.int j]/\Q (.int (if j < i then j else i)) H):=by
 intro pins s σ H xs us Q I r h
 obtain ⟨i,j,rfl,q⟩:=h
 obtain ⟨u,w',rfl,⟨t,rfl⟩,⟨t',rfl⟩⟩:=rK r
 refine min_two_ints (I.ok.hd hc) fun h' tk k=>⟨_,H,I.kept k,?_,q⟩
 by_cases hj:j < i
 .rw [if_pos hj,if_pos hj];exact ⟨_,rfl⟩
 .rw [if_neg hj,if_neg hj];exact ⟨_,rfl⟩
end
structure pj (h:Heap) (x dx C:Addr) (mA:Str->Option Value):Prop where
 obj:h.get? x=some (PySem.W.instObj C dx)
 ns:h.Ns1 dx mA
 ne:dx≠x
theorem lC {h:Heap}{dx:Addr}{mA:Str->Option Value} (n:h.Ns1 dx mA):∃od,h.get? dx=some od/\∀name,PySem.W.lookIn name od=some (mA name):=by
 obtain ⟨o,es,ep,ho,hd,hk,_,hm⟩:=n
 refine ⟨o,ho,fun name=>?_⟩
 have e:=hm name
 unfold nsFind findBy at e
 rw [<- Array.find?_toList] at e
 unfold PySem.W.lookIn
 rw [hd]
 dsimp only
 split
 .rename_i y q
  rw [q] at e
  exact congrArg some e
 .rename_i q
  rw [q] at e
  have a:es.toList.any (·.refKey)=false:=by
   rw [List.any_eq_false]
   intro y hy
   obtain ⟨z,t,hkey⟩:=hk y (Array.mem_toList_iff.mp hy)
   simp [DictEntry.refKey,hkey]
  have a':¬ es.toList.any (·.refKey)=true:=by rw [a];exact Bool.false_ne_true
  rw [if_neg a']
  exact congrArg some e
theorem pj.look {h:Heap}{x dx C:Addr}{mA:Str->Option Value} (I:pj h x dx C mA):∃od,PySem.W.InstAt h x (PySem.W.instObj C dx) C (some od)/\∀name,PySem.W.lookIn name od=some (mA name) :=
 let ⟨od,ho,hl⟩:=lC I.ns
 ⟨od,⟨I.obj,rfl,rfl,ho⟩,hl⟩
section
variable {prog:Program}{w:World}{A:Around}{E:Value->Shared->Prop}{s:Shared}{K:PySem.W.Frag}{x dx C f:Addr}{mA:Str->Option Value}{name:Str}{v:Value}
theorem pq {expr:Bool}{Q:Value->Shared->Prop} (X:K.In s.heap) (I:pj s.heap x dx C mA) (hg:PySem.W.plainGet K C name=true) (hh:PySem.W.hasDictIn K C=true)
  (ha:PySem.W.findIn K (.ref C) name=some none) (hv:mA name=some v) (hv':PySem.W.handedIn v=true) (h:Q v { s with toks:=s.toks + 1 }) :
  wpAny (model prog w) A (getAttr (.ref x) name expr) Q E s:=by
 obtain ⟨od,J,hl⟩:=I.look
 exact PySem.W.get_value X J (PySem.W.plainGet_of hg).1 (PySem.W.findObj_own hh ha rfl (by rw [hl,hv])) hv' h
theorem nt {pl:Sem Bool}{Q:Value×List Value->Shared->Prop} (X:K.In s.heap) (I:pj s.heap x dx C mA) (hg:PySem.W.plainGet K C name=true)
  (hf:PySem.W.findIn K (.ref C) name=some (some (.ref f))) (ht:PySem.W.isFn K (.ref f)=true) (hv:mA name=none) (h:Q (.ref f,[.ref x]) s) :
  wpAny (model prog w) A (getMethod (.ref x) name pl) Q E s:=by
 obtain ⟨od,J,hl⟩:=I.look
 exact PySem.W.method_fn X J (PySem.W.plainGet_of hg).1 (PySem.W.plainGet_of hg).2 hf (beq_iff_eq.mp ht) (by show (PySem.W.lookIn name od).map (·.isSome)=some false;rw [hl,hv];rfl) h
theorem px {ns:List Str}{Q:Unit->Shared->Prop} (X:K.In s.heap) (I:pj s.heap x dx C mA)
  (hs:PySem.W.findIn K (.ref C) "__setattr__"=some (some (.builtin "object.__setattr__"))) (hp:PySem.W.plainOver K C=true) (ht:PySem.W.takerIn K C name=some none) (hh:PySem.W.hasDictIn K C=true)
  (hw:PySem.Within mA ns) (hsz:ns.length<=sizeLine)
  (h:∀h',pj h' x dx C (fun y=>if y=name then some v else mA y)->Heap.SameBut dx s.heap h'->Q () { s with heap:=h',toks:=s.toks + 2 }) :
  wpAny (model prog w) A (setAttr (.ref x) name v) Q E s:=by
 obtain ⟨od,J,hl⟩:=I.look
 refine PySem.W.set_plain X J hs (PySem.W.osa_open (s:={ s with toks:=s.toks + 1 }) (r:=none) X J hp ht fun b=>?_)
 obtain ⟨cd,hc,hd'⟩:=PySem.W.any_some hh
 have hx:s.heap.get? x=some ⟨.ref C,some dx,.plain,#[]⟩:=I.obj
 refine wpAny_bind (wpAny_pure (wpAny_bind (wpAny_bind (wpAny_loadPart hx (wpAny_bind (PySem.W.Looks.here (s:={ s with toks:=s.toks + 1 }) (PySem.W.looks_clsIn X hc) ?_))))))
 rw [hd']
 refine wpAny_pure (a:=some dx) (wpAny_bind (wpAny_pure (wpAny_bind ?_)))
 refine wpAny_nsSet1 (s:={ s with toks:=s.toks + 1 }) I.ns fun h' hn2 hs2=>?_
 obtain ⟨oD,esD,epD,hoD,hdD,hcD⟩:=hn2.count (PySem.Within.cons name v hw)
 refine wpAny_bind (wpAny_lookBehind hoD (by rw [hdD];exact pastItsLine_dict (Nat.le_trans hcD (by rw [List.length_cons];omega))) ?_)
 exact wpAny_pure (h _ ⟨(hs2.2 _ (Ne.symm I.ne)).trans I.obj,hn2,I.ne⟩ hs2)
theorem nu {R:Result->Shared->Prop}{vs:List Value}{kw:List (Str×Value)} (X:K.In s.heap) (hm:PySem.W.makesIn K C=true)
  (hi:PySem.W.findIn K (.ref C) "__init__"=some (some (.ref f))) (hf:PySem.W.typeIn K (.ref f)=some (.type "function"))
  (h:codeAny (model prog w) (A.under (.builtin "type.__call__" ⟨.ref C::vs,kw⟩)) (.call (.ref f) ⟨.ref (s.heap.objs.size + 1)::vs,kw⟩) (PySem.W.InitBack (s.heap.objs.size + 1) R)
   { s with heap:=(s.heap.push PySem.W.emptyDict).push (PySem.W.instObj C s.heap.objs.size) }) :
  codeAny (model prog w) A (.call (.ref C) ⟨vs,kw⟩) R s:=by
 obtain ⟨hh,g,d,t,os⟩:=s
 exact PySem.W.make_core (PySem.W.makes_of X hm) (PySem.W.looks_findIn X hi) (fun self=>PySem.W.bind_fn X self hf) (.inl rfl) h
end
def gL (f:Str) (v:V):List (Str×V)->List (Str×V)
 | []=>[(f,v)]
 | (g,x)::r=>if g=f then (g,v)::r else (g,x)::gL f v r
theorem ga (f g:Str) (v:V):∀fs:List (Str×V),(gL f v fs).lookup g=if g=f then some v else fs.lookup g
 | []=>by
  show List.lookup g [(f,v)]=_
  by_cases h:g=f
  .have hb:(g == f)=true:=beq_iff_eq.mpr h
   simp only [List.lookup,hb,if_pos h]
  .have hb:(g == f)=false:=beq_eq_false_iff_ne.mpr h
   simp only [List.lookup,hb,if_neg h]
 | (k,x)::r=>by
  have ih:=ga f g v r
  rw [show gL f v ((k,x)::r)=(if k=f then (k,v)::r else (k,x)::gL f v r) from rfl]
  by_cases hk:k=f
  .rw [if_pos hk]
   by_cases h:g=k
   .have hb:(g == k)=true:=beq_iff_eq.mpr h
    simp only [List.lookup,hb,if_pos (h.trans hk)]
   .have hb:(g == k)=false:=beq_eq_false_iff_ne.mpr h
    simp only [List.lookup,hb,if_neg (fun e:g=f=>h (e.trans hk.symm))]
  .rw [if_neg hk]
   by_cases h:g=k
   .have hb:(g == k)=true:=beq_iff_eq.mpr h
    simp only [List.lookup,hb,if_neg (fun e:g=f=>hk (h.symm.trans e))]
   .have hb:(g == k)=false:=beq_eq_false_iff_ne.mpr h
    simp only [List.lookup,hb]
    exact ih
theorem gb (f:Str) (v:V):∀fs:List (Str×V),f∈(gL f v fs).map (·.1)/\∀g,g∈fs.map (·.1)->g∈(gL f v fs).map (·.1)
 | []=>⟨by simp [gL],fun g h=>by simp at h⟩
 | (k,x)::r=>by
  obtain ⟨i1,i2⟩:=gb f v r
  rw [show gL f v ((k,x)::r)=(if k=f then (k,v)::r else (k,x)::gL f v r) from rfl]
  by_cases hk:k=f
  .rw [if_pos hk]
   subst hk
   exact ⟨by simp,fun g h=>by simpa using h⟩
  .rw [if_neg hk]
   refine ⟨?_,fun g h=>?_⟩
   .rw [List.map_cons]
    exact List.mem_cons_of_mem _ i1
   .rw [List.map_cons] at h ⊢
    rcases List.mem_cons.mp h with e | e
    .exact List.mem_cons.mpr (.inl e)
    .exact List.mem_cons_of_mem _ (i2 g e)
theorem gc (f:Str) (v:V):∀fs:List (Str×V),(gL f v fs).length<=fs.length + 1
 | []=>by simp [gL]
 | (k,x)::r=>by
  have ih:=gc f v r
  rw [show gL f v ((k,x)::r)=(if k=f then (k,v)::r else (k,x)::gL f v r) from rfl]
  by_cases hk:k=f
  .rw [if_pos hk,List.length_cons,List.length_cons];omega
  .rw [if_neg hk,List.length_cons,List.length_cons];omega
theorem jw.some_of {v:V}{o:Option Value} (r:jw (some v) o):∃u,o=some u/\bP v u:=by
 cases o with
 | none=>exact (show False from r).elim
 | some u=>exact ⟨u,rfl,r⟩
theorem jw.none_of {o:Option Value} (r:jw none o):o=none:=by
 cases o with
 | none=>rfl
 | some u=>exact (show False from r).elim
theorem lD {v:V}{u:Value} (r:bP v u):PySem.W.handedIn u=true:=by
 cases v with
 | non=>cases (show u=Value.none from r);rfl
 | bl b=>cases (show u=Value.bool b from r);rfl
 | int i=>obtain ⟨t,e⟩:=(show ∃t,u=Value.int i t from r);cases e;rfl
 | str x=>obtain ⟨t,e⟩:=(show ∃t,u=Value.str x t from r);cases e;rfl
 | byt b=>obtain ⟨t,e⟩:=(show ∃t,u=Value.bytes b t from r);cases e;rfl
 | flt b=>obtain ⟨t,e⟩:=(show ∃t,u=Value.float b t from r);cases e;rfl
 | ref a=>cases (show u=Value.ref a from r);rfl
 | ty n=>cases (show u=Value.type n from r);rfl
section
variable {P:Program}{w:World}{H H':Hp}{h h':Heap}{a C dx:Addr}{fs fs':List (Str×V)}
theorem ic (hok:HOk P w H h) (e:H a=some (.ins C dx fs)):∃mA,pj h a dx C mA/\(∀f,jw (fs.lookup f) (mA f))/\PySem.Within mA (fs.map (·.1))/\fs.length<=1000/\H dx=some (.own a):=by
 obtain ⟨d,z,ne,ob,mA,n,r,q⟩:=(show bJ P w H h a (.ins C dx fs) from hok a _ e)
 exact ⟨mA,⟨ob,n,ne⟩,r,q,z,d⟩
end
structure Cls (K:PySem.W.Frag) (C:Addr):Prop where
 pg:PySem.W.plainGet K C Str.empty=true
 hd:PySem.W.hasDictIn K C=true
 po:PySem.W.plainOver K C=true
 sa:PySem.W.findIn K (.ref C) "__setattr__"=some (some (.builtin "object.__setattr__"))
theorem Cls.get {K:PySem.W.Frag}{C:Addr} (c:Cls K C) (f:Str):PySem.W.plainGet K C f=true:=c.pg
def cG (K:PySem.W.Frag) (C:Addr) (f:Str):Prop:=PySem.W.findIn K (.ref C) f=some none
theorem cG.taker {K:PySem.W.Frag}{C:Addr}{f:Str} (n:cG K C f):PySem.W.takerIn K C f=some none:=by
 unfold PySem.W.takerIn
 rw [show PySem.W.findIn K (.ref C) f=some none from n]
 rfl
structure rL (K:PySem.W.Frag) (C:Addr) (m:Str) (f:Addr):Prop where
 at_:PySem.W.findIn K (.ref C) m=some (some (.ref f))
 fn:PySem.W.isFn K (.ref f)=true
 kp:PySem.W.keepIn K (.ref f)=true
section
variable {X:Cx}{pins:List (Addr×Obj)}{σ:St}{H:Hp}{s:Shared}{a C dx:Addr}{fs:List (Str×V)}{f:Str}{v:V}{A:Around}{E:Value->Shared->Prop}
theorem kG {b:Bool}{Q:Value->Shared->Prop} (I:Inv X pins σ H s) (e:H a=some (.ins C dx fs)) (c:Cls X.K C) (n:cG X.K C f) (l:fs.lookup f=some v)
  (h:∀u s',Inv X pins σ H s'->bP v u->Q u s'):wpAny (model X.prog X.w) A (getAttr (.ref a) f b) Q E s:=by
 obtain ⟨mA,O,r,_,_,_⟩:=ic I.hok e
 obtain ⟨u,hu,ru⟩:=jw.some_of (v:=v) (o:=mA f) (by rw [<- l];exact r f)
 exact pq I.kIn O (c.get f) c.hd n hu (lD ru) (h u _ (I.tok _) ru)
theorem gU {m:Str}{g:Addr}{pl:Sem Bool}{Q:Value×List Value->Shared->Prop} (I:Inv X pins σ H s) (e:H a=some (.ins C dx fs)) (c:Cls X.K C) (k:rL X.K C m g) (l:fs.lookup m=none)
  (h:Q (.ref g,[.ref a]) s):wpAny (model X.prog X.w) A (getMethod (.ref a) m pl) Q E s:=by
 obtain ⟨mA,O,r,_,_,_⟩:=ic I.hok e
 have hn:mA m=none:=jw.none_of (by rw [<- l];exact r m)
 exact nt I.kIn O (c.get m) k.at_ k.fn hn h
theorem kH {y:V}{u:Value}{Q:Unit->Shared->Prop} (I:Inv X pins σ H s) (e:H a=some (.ins C dx fs)) (c:Cls X.K C) (n:cG X.K C f) (hl:fs.length < 1000) (ry:bP y u)
  (h:∀s',Inv X pins σ (upd H a (.ins C dx (gL f y fs))) s'->Q () s'):wpAny (model X.prog X.w) A (setAttr (.ref a) f u) Q E s:=by
 obtain ⟨mA,O,r,wi,_,ho⟩:=ic I.hok e
 have hz:(fs.map (·.1)).length<=sizeLine:=by rw [List.length_map,sizeLine_eq];omega
 refine px I.kIn O c.sa c.po n.taker c.hd wi hz fun h' O' sb=>h _ ?_
 have hd:∃o,h'.get? dx=some o:=let ⟨o,_,_,e',_⟩:=O'.ns;⟨o,e'⟩
 refine I.write (x:=a) (e:=dx) (by rw [e];exact True.intro) (.inr ho) (fun b q hb z=>(sb.2 b hb).trans z) hd ?_
 refine ⟨by rw [aB O.ne];exact ho,?_,O.ne,O'.obj,_,O'.ns,fun g=>?_,fun g hg=>?_⟩
 .have:=gc f y fs;omega
 .show jw ((gL f y fs).lookup g) (if g=f then some u else mA g)
  rw [ga]
  by_cases q:g=f
  .rw [if_pos q,if_pos q];exact ry
  .rw [if_neg q,if_neg q];exact r g
 .by_cases q:g=f
  .rw [q];exact (gb f y fs).1
  .refine (gb f y fs).2 g (wi g fun z=>hg ?_)
   show (if g=f then some u else mA g)=none
   rw [if_neg q];exact z
theorem Inv.made (I:Inv X pins σ H s):Inv X pins σ (upd (upd H s.heap.objs.size (.own (s.heap.objs.size + 1))) (s.heap.objs.size + 1) (.ins C s.heap.objs.size []))
  { s with heap:=(s.heap.push PySem.W.emptyDict).push (PySem.W.instObj C s.heap.objs.size) }:=by
 have e1:(s.heap.push PySem.W.emptyDict).get? s.heap.objs.size=some PySem.W.emptyDict:=Heap.get?_push_size s.heap rfl
 have e2:((s.heap.push PySem.W.emptyDict).push (PySem.W.instObj C s.heap.objs.size)).get? (s.heap.objs.size + 1)=some (PySem.W.instObj C s.heap.objs.size):=by
  have:=Heap.get?_push_size (s.heap.push PySem.W.emptyDict) (o:=PySem.W.instObj C s.heap.objs.size) rfl
  rwa [Heap.size_push] at this
 have e3:(s.heap.push PySem.W.emptyDict).Ns s.heap.objs.size (fun _=>none):=⟨PySem.W.emptyDict,#[],_,e1,rfl,(fun e he=>absurd he (by simp)),fun _=>rfl⟩
 have I1:=I.laid (a:=s.heap.objs.size) (o:=.own (s.heap.objs.size + 1)) (h':=s.heap.push PySem.W.emptyDict) (t':=s.toks) (fun b u q=>Heap.get?_push_of_some _ q) (Nat.le_refl _) ⟨_,e1⟩
 refine I1.laid (a:=s.heap.objs.size + 1) (o:=.ins C s.heap.objs.size []) (t':=s.toks) (fun b u q=>Heap.get?_push_of_some _ q) (Nat.le_of_eq (Heap.size_push _ _)) ?_
 have ne:s.heap.objs.size≠s.heap.objs.size + 1:=Nat.ne_of_lt (Nat.lt_succ_self _)
 refine ⟨by rw [aB ne,aS],Nat.zero_le _,ne,e2,fun _=>none,(Heap.Ns1.of_empty e3).at fun o q=>Heap.get?_push_of_some _ q,fun _=>True.intro,fun y hy=>absurd rfl hy⟩
theorem pz {prog:Program}{w:World}{env:Env}{e:Expr}{f:Str}{pos:Pos}{s:Shared}{Q:Value->Shared->Prop} (hb:attributeBase e f env (eval e env)=eval e env)
  (h:wpAny (model prog w) A (eval e env) (fun o s₁=>wpAny (model prog w) A (getAttr o f true) Q E s₁) E s):wpAny (model prog w) A (eval (.Attribute e f pos) env) Q E s :=
 Attribute_any_ h (by rw [arm_eval_Attribute,hb])
end
def pA (K:PySem.W.Frag) (ta:TE) (f:Str):TE:=fun σ H Q=>ta σ H fun x H1=>∃a C dx fs v,x=.ref a/\H1 a=some (.ins C dx fs)/\Cls K C/\cG K C f/\fs.lookup f=some v/\Q v H1
def ua (K:PySem.W.Frag) (ta tv:TE) (f:Str):TS:=fun D σ H=>tv σ H fun y H1=>ta σ H1 fun x H2=>∃a C dx fs,x=.ref a/\H2 a=some (.ins C dx fs)/\Cls K C/\cG K C f/\fs.length < 1000 /\
 D.nx σ (upd H2 a (.ins C dx (gL f y fs)))
section
variable {X:Cx}{o e value:Expr}{f:Str}{pos pos' tpos:Pos}{ta tv:TE}
theorem rM (he:PE X e ta) (hb:attributeBase e f X.env (eval e X.env)=eval e X.env):PE X (.Attribute e f pos) (pA X.K ta f):=by
 intro pins s σ H Q I h
 refine pz hb (thn (he pins s σ H _ I h) fun u s1 ⟨x,H1,I1,rx,a,C,dx,fs,v,ex,ea,c,n,l,q⟩=>?_)
 subst ex
 obtain rfl:u=Value.ref a:=rx
 exact kG I1 ea c n l fun u' s2 I2 ru=>⟨v,H1,I2,ru,q⟩
theorem oA (ha:PE X o ta) (hv:PE X value tv) (hs:swapsWith value (some (.Attribute o f pos')) pos.line X.env=pure false):PS X (.Assign [.Attribute o f pos'] value pos) (ua X.K ta tv f):=by
 intro pins s σ H D I h
 refine plainObj_wpAny_Assign_Attribute (thn (hv pins s σ H _ I h) fun u s1 ⟨y,H1,I1,ry,q⟩=>thn (ha pins s1 σ H1 _ I1 q) fun ov s2 ⟨x,H2,I2,rx,a,C,dx,fs,ex,ea,c,n,l,q2⟩=>?_) hs
 subst ex
 obtain rfl:ov=Value.ref a:=rx
 exact kH I2 ea c n l ry fun s3 I3=>⟨σ,_,I3,q2⟩
end
section
variable {X:Cx}{pins:List (Addr×Obj)}{σ:St}{H:Hp}{s:Shared}{A:Around}{E:Value->Shared->Prop}{Q:Value->Shared->Prop}{c:Value}{b:Bool}
inductive jC (K:PySem.W.Frag) (H:Hp):V->Value->Prop where
 | non:jC K H .non (.type "NoneType")
 | bl (x:Bool):jC K H (.bl x) (.type "bool")
 | int (i:Int):jC K H (.int i) (.type "int")
 | str (x:Str):jC K H (.str x) (.type "str")
 | flt (x:UInt64):jC K H (.flt x) (.type "float")
 | lst {a:Addr}{xs:List V} (e:H a=some (.lst xs)):jC K H (.ref a) (.type "list")
 | frz {a:Addr}{o:Obj}{xs:List V} (e:H a=some (.frz o (.lst xs))):jC K H (.ref a) (.type "list")
 | tup {a:Addr}{xs:List V} (e:H a=some (.tup xs)):jC K H (.ref a) (.type "tuple")
 | dK {a:Addr}{kvs:List (Key×V)} (e:H a=some (.dK kvs)):jC K H (.ref a) (.type "dict")
 | dT {a:Addr}{kvs:List (List Key×V)} (e:H a=some (.dT kvs)):jC K H (.ref a) (.type "dict")
 | ins {a C dx:Addr}{fs:List (Str×V)} (e:H a=some (.ins C dx fs)) (cl:Cls K C) (ha:PySem.W.findIn K (.ref C) "__class__"=some (some (.builtin "object.__class__")))
   (hn:PySem.W.specialIn K (.builtin "object.__class__") "__get__"=some (some (.builtin "getset_descriptor.__get__"))) (htk:PySem.W.takesIn K (.builtin "object.__class__")=some true)
   (hm:PySem.W.mroIn K C (.type "object")=some true):jC K H (.ref a) (.ref C)
theorem lE {x:V}{u t:Value} (I:Inv X pins σ H s) (rx:bP x u) (ty:jC X.K H x t) (e:PySem.W.kitOne X.K t c=some b) (h:∀tk,Q (.bool b) { s with toks:=tk }) :
  wpAny (model X.prog X.w) A (call (.builtin "isinstance") [u,c]) Q E s:=by
 cases ty with
 | non=>cases (show u=Value.none from rx);exact PySem.W.kia_one PySem.W.kitx_none I.kIn True.intro e (fun z=>nomatch z) h
 | bl y=>cases (show u=Value.bool y from rx);exact PySem.W.kia_one PySem.W.kitx_bool I.kIn True.intro e (fun z=>nomatch z) h
 | int i=>obtain ⟨t,q⟩:=(show ∃t,u=Value.int i t from rx);cases q;exact PySem.W.kia_one PySem.W.kitx_int I.kIn True.intro e (fun z=>nomatch z) h
 | str y=>obtain ⟨t,q⟩:=(show ∃t,u=Value.str y t from rx);cases q;exact PySem.W.kia_one PySem.W.kitx_str I.kIn True.intro e (fun z=>nomatch z) h
 | flt y=>obtain ⟨t,q⟩:=(show ∃t,u=Value.float y t from rx);cases q;exact PySem.W.kia_one PySem.W.kitx_float I.kIn True.intro e (fun z=>nomatch z) h
 | @lst a xs ea =>
  cases (show u=Value.ref a from rx)
  obtain ⟨_,_,n,_,h1⟩:=(show bJ X.prog X.w H s.heap a (.lst xs) from I.hok a _ ea)
  exact PySem.W.kia_one PySem.W.kitx_list I.kIn ⟨_,h1,rfl⟩ e (fun z=>nomatch z) h
 | @frz a ob xs ea =>
  cases (show u=Value.ref a from rx)
  obtain ⟨_,_,_,n,_,h1⟩:=(show bJ X.prog X.w H s.heap a (.frz ob (.lst xs)) from I.hok a _ ea)
  exact PySem.W.kia_one PySem.W.kitx_list I.kIn ⟨_,h1,rfl⟩ e (fun z=>nomatch z) h
 | @tup a xs ea =>
  cases (show u=Value.ref a from rx)
  obtain ⟨_,_,_,p⟩:=(show bJ X.prog X.w H s.heap a (.tup xs) from I.hok a _ ea)
  obtain ⟨o,h1,h2,_⟩:=p
  exact PySem.W.kia_one PySem.W.kitx_tuple I.kIn ⟨o,h1,h2⟩ e (fun z=>nomatch z) h
 | @dK a kvs ea =>
  cases (show u=Value.ref a from rx)
  obtain ⟨_,_,vs,_,p⟩:=(show bJ X.prog X.w H s.heap a (.dK kvs) from I.hok a _ ea)
  obtain ⟨o,es,ep,h1,h2,_⟩:=p
  exact PySem.W.kia_one PySem.W.kitx_dict I.kIn ⟨o,h1,h2.1⟩ e (fun z=>nomatch z) h
 | @dT a kvs ea =>
  cases (show u=Value.ref a from rx)
  obtain ⟨_,_,xs,_,o,es,ep,h1,h2,_⟩:=(show bJ X.prog X.w H s.heap a (.dT kvs) from I.hok a _ ea)
  exact PySem.W.kia_one PySem.W.kitx_dict I.kIn ⟨o,h1,h2.1⟩ e (fun z=>nomatch z) h
 | @ins a C dx fs ea cl ha hn htk hm =>
  cases (show u=Value.ref a from rx)
  obtain ⟨mA,O,_⟩:=ic I.hok ea
  obtain ⟨od,J,_⟩:=O.look
  exact PySem.W.kia_one (PySem.W.kitx_own (cl.get _) cl.hd ha hn htk hm) I.kIn J e (fun z=>nomatch z) h
end
structure dX (k:Nat) (A:Around):Prop where
 hd:A.handled=none
 dp:A.depth + 3 * k + 5 < recursionLimit
 un:A.units + 16 * k + 200 < cLine
theorem dX.mono {j k:Nat}{A:Around} (r:dX k A) (h:j<=k):dX j A:=⟨r.hd,by have:=r.dp;omega,by have:=r.un;omega⟩
theorem dX.deeper {k:Nat}{A:Around} (r:dX (k + 1) A) (env:Env):dX k (A.deeper env) :=
 ⟨r.hd,by have:=r.dp;show A.depth + 1 + 3 * k + 5 < _;omega,by have:=r.un;show A.units + 3 + 16 * k + 200 < _;omega⟩
theorem kI {A:Around}{C:Addr}{us:List Value}{kw:List (Str×Value)}:(A.under (.builtin "type.__call__" ⟨.ref C::us,kw⟩)).depth=A.depth + 1:=by
 first | rfl | simp [Around.under,Code.weight,Code.isCreation,Code.isGuard,Code.isCaller,Code.frames,Code.isFrame,guardIds]
theorem kJ {A:Around}{C:Addr}{us:List Value}{kw:List (Str×Value)}:(A.under (.builtin "type.__call__" ⟨.ref C::us,kw⟩)).units=A.units + 1:=by
 first | rfl | simp [Around.under,Code.cUnits,Code.frames,Code.isFrame]
theorem dX.make {k:Nat}{A:Around} (r:dX (k + 1) A) (C:Addr) (us:List Value) (kw:List (Str×Value)):dX k (A.under (.builtin "type.__call__" ⟨.ref C::us,kw⟩)) :=
 ⟨r.hd,by have:=r.dp;rw [kI];omega,by have:=r.un;rw [kJ];omega⟩
theorem dX.depth {k:Nat}{A:Around} (r:dX k A):A.depth < recursionLimit:=by have:=r.dp;omega
theorem dX.units {k:Nat}{A:Around} (r:dX k A):A.units + 64 < cLine:=by have:=r.un;omega
def j2:TA:=fun _ H Q=>Q [] H
def dJ (ta:TE) (tr:TA):TA:=fun σ H Q=>ta σ H fun x H1=>tr σ H1 fun xs H2=>Q (x::xs) H2
section
variable {X:Cx}{e:Expr}{es:List Expr}{te:TE}{t:TA}{pos:Pos}
theorem ah:PA X [] j2:=fun _ _ _ _ H Q I h=>Calls.spliced_nil ⟨[],H,I,.nil,h⟩
theorem pD (ha:PE X e te) (hr:PA X es t) (hs:starEach (e::es) X.env=(false,eval e X.env)::starEach es X.env:=by rfl):PA X (e::es) (dJ te t):=by
 intro pos pins s σ H Q I h
 rw [hs]
 show wpAny _ _ (spliced ((false,eval e X.env)::backTo pos (starEach es X.env))) _ _ s
 refine Calls.spliced_cons (thn (ha pins s σ H _ I h) fun u s1 ⟨x,H1,I1,r1,q1⟩=>?_)
 exact thn (hr pos pins s1 σ H1 _ I1 q1) fun us s2 ⟨xs,H2,I2,r2,q2⟩=>⟨x::xs,H2,I2,.cons r1 r2,q2⟩
def u0 (t:TA):TE:=fun σ H Q=>t σ H fun xs H1=>xs.length<=sizeLine/\∀p,H1 p=none->Q (.ref p) (upd H1 p (.lst xs))
theorem dC (h:PA X es t):PE X (.List es pos) (u0 t):=by
 intro pins s σ H Q I hq
 refine wpAny_List_spliced (thn (h pos pins s σ H _ I hq) fun us s1 ⟨xs,H1,I1,r,z,q⟩=>⟨by rw [<- r.length];exact z,?_⟩)
 have hf:H1 s1.heap.objs.size=none:=I1.hok.fresh (Nat.le_refl _)
 refine ⟨.ref s1.heap.objs.size,upd H1 s1.heap.objs.size (.lst xs),I1.laid (t':=s1.toks) (fun b u e=>Heap.get?_push_of_some _ e) (Nat.le_refl _) ?_,rfl,q _ hf⟩
 exact ⟨z,us,0,r,Heap.get?_push_size _ rfl⟩
end
abbrev Sp:=List V->Hp->VK->XK->Prop
abbrev CXT:=List Env->Hp->Shared->XK->Value->Shared->Prop
structure pE (P:Program) (w:World) (K:PySem.W.Frag) (mg:Str->Option Value) (base:Heap) (A:Around) (outer:List Env) (s:Shared) (H:Hp):Prop where
 frames:A.frames=some outer
 mod:Mod K mg base
 bs:∀b o,base.get? b=some o->s.heap.get? b=some o/\H b=none
 bsz:base.objs.size<=s.heap.objs.size
 funs:s.heap.FunFrames base outer
 frf:∀b∈frs outer,H b=none
 hok:HOk P w H s.heap
 bare:AllBare s.gens
def CE (outer:List Env) (P:Program) (w:World) (H:Hp) (s:Shared) (Q:VK) (u:Value) (s':Shared):Prop :=
 ∃v H',s'.os=s.os/\AllBare s'.gens/\Un (frs outer) [] H H' s.heap s'.heap/\HOk P w H' s'.heap/\bP v u/\Q v H'
def CR (CX:CXT) (outer:List Env) (P:Program) (w:World) (H:Hp) (s:Shared) (Q:VK) (E:XK) (r:Result) (s':Shared):Prop :=
 match r with
 | .ok (.ret u)=>CE outer P w H s Q u s'
 | .ok _=>False
 | .error e=>CX outer H s E e s'
structure ie (P:Program) (w:World) (K:PySem.W.Frag) (mg:Str->Option Value) (base:Heap) (CX:CXT) (k:Nat) (f:Addr) (fd:FuncData) (ps:List Str) (sp:Sp):Prop where
 len:∀vs H Q E,sp vs H Q E->vs.length=ps.length
 run:∀(A:Around) (outer:List Env) (s:Shared) (H:Hp) (args:Args) (us:List Value) (vs:List V) (Q:VK) (E:XK),dX k A->pE P w K mg base A outer s H->BindsTo s fd args (ps.zip us)->br vs us->sp vs H Q E ->
  codeAny (model P w) A (.call (.ref f) args) (CR CX outer P w H s Q E) s
theorem ie.imp {P:Program}{w:World}{K:PySem.W.Frag}{mg:Str->Option Value}{base:Heap}{CX:CXT}{k:Nat}{f:Addr}{fd:FuncData}{ps:List Str}{sp sp':Sp} (F:ie P w K mg base CX k f fd ps sp)
  (h:∀vs H Q E,sp' vs H Q E->sp vs H Q E):ie P w K mg base CX k f fd ps sp' :=
 ⟨fun vs H Q E q=>F.len vs H Q E (h _ _ _ _ q),fun A outer s H args us vs Q E hr he hb hv hs=>F.run A outer s H args us vs Q E hr he hb hv (h _ _ _ _ hs)⟩
theorem pE.make {P:Program}{w:World}{K:PySem.W.Frag}{mg:Str->Option Value}{base:Heap}{A:Around}{outer:List Env}{s:Shared}{H:Hp} (e:pE P w K mg base A outer s H) (C:Addr) (us:List Value) (kw:List (Str×Value)) :
  pE P w K mg base (A.under (.builtin "type.__call__" ⟨.ref C::us,kw⟩)) outer s H:=⟨by first | exact e.frames | (simpa [Around.under,Code.envs,Code.isFrame,pushEnvs] using e.frames),e.mod,e.bs,e.bsz,e.funs,e.frf,e.hok,e.bare⟩
section
variable {X:Cx}{pins:List (Addr×Obj)}{σ:St}{H:Hp}{s s':Shared}
theorem Inv.env0 (I:Inv X pins σ H s):pE X.prog X.w X.K X.mg X.base X.A X.stack s H :=
 ⟨I.ok.frames,I.ok.mod,I.bs,Nat.le_trans I.ok.bsz I.sz,I.stack,I.stkFree,I.hok,I.bare⟩
theorem Inv.after {Q:VK}{u:Value} (I:Inv X pins σ H s) (h:CE X.stack X.prog X.w H s Q u s'):EP X pins σ Q u s':=by
 obtain ⟨v,H',os,bare,un,hok,r,q⟩:=h
 obtain ⟨hh,g,d,t,os'⟩:=s'
 obtain rfl:os'=s.os:=os
 exact ⟨v,H',I.call (h':=hh) (g':=g) (d':=d) (t':=t) (ch:=[]) un hok bare (fun b z=>absurd z (by simp)),r,q⟩
end
def kK (sp:Sp) (dvs:List V) (E:XK) (t:TA):TE:=fun σ H Q=>t σ H fun vs H1=>sp (vs++dvs) H1 Q E
def lF (C:Addr) (m:Str) (sp:Sp) (dvs:List V) (E:XK) (ta:TE) (t:TA):TE:=fun σ H Q=>ta σ H fun x H1=>∃a dx fs,x=.ref a/\H1 a=some (.ins C dx fs)/\fs.lookup m=none /\
 t σ H1 fun vs H2=>sp (x::(vs++dvs)) H2 Q E
def lG (C:Addr) (sp:Sp) (dvs:List V) (E:XK) (t:TA):TE:=fun σ H Q=>t σ H fun vs H1=>∀x dx,H1 x=none->H1 dx=none->dx≠x ->
 sp (.ref x::(vs++dvs)) (upd (upd H1 dx (.own x)) x (.ins C dx [])) (fun v H2=>v=.non/\Q (.ref x) H2) E
def fS (K:PySem.W.Frag) (fd:FuncData) (ps:List Str) (ds:List Value):Prop :=
 ∀(s:Shared) (us:List Value),K.In s.heap->(us++ds).length=ps.length->BindsTo s fd ⟨us,[]⟩ (ps.zip (us++ds))
theorem fS.all {K:PySem.W.Frag}{fd:FuncData}{ps:List Str} (h:∀us:List Value,us.length=ps.length->bindArgs fd ⟨us,[]⟩=pure (ps.zip us)):fS K fd ps []:=fun s us _ hl=>by
 rw [List.append_nil] at hl ⊢
 exact .of_eq (h us hl)
def gd (CX:CXT) (X:Cx) (E:XK):Prop:=∀(pins:List (Addr×Obj)) (σ:St) (H:Hp) (s:Shared) (e:Value) (s':Shared),Inv X pins σ H s->CX X.stack H s E e s'->X.xe e s'
section
variable {X:Cx}{CX:CXT}{k:Nat}{f C:Addr}{fd:FuncData}{ps:List Str}{sp:Sp}{dvs:List V}{ds:List Value}{E:XK}{x m:Str}{p pos apos:Pos}{e o:Expr}{es:List Expr}{ta:TE}{t:TA}
theorem lH {pins:List (Addr×Obj)}{σ:St}{H:Hp}{s:Shared}{Q:VK}{us:List Value}{vs:List V} (F:ie X.prog X.w X.K X.mg X.base CX k f fd ps sp) (hr:dX k X.A) (hb:fS X.K fd ps ds) (hd:br dvs ds) (hx:gd CX X E)
  (I:Inv X pins σ H s) (r:br vs us) (h:sp (vs++dvs) H Q E):wpAny (model X.prog X.w) X.A (call (.ref f) us) (EP X pins σ Q) X.xe s:=by
 have r2:br (vs++dvs) (us++ds):=r.append hd
 have hl:(us++ds).length=ps.length:=by rw [<- r2.length];exact F.len _ _ _ _ h
 refine wpAny_call (codeAny_mono (F.run X.A X.stack s H ⟨us,[]⟩ (us++ds) (vs++dvs) Q E hr I.env0 (hb s us I.kIn hl) r2 h) fun r s' hq=>?_)
 cases r with
 | error e=>exact hx pins σ H s e s' I hq
 | ok fl =>
  cases fl with
  | ret u=>exact I.after hq
  | next=>exact False.elim hq
  | brk=>exact False.elim hq
  | cont=>exact False.elim hq
theorem pF (F:ie X.prog X.w X.K X.mg X.base CX k f fd ps sp) (hr:dX k X.A) (hg:Gl X x) (hm:X.mg x=some (.ref f)) (hk:PySem.W.keepIn X.K (.ref f)=true) (hb:fS X.K fd ps ds) (hd:br dvs ds) (hx:gd CX X E)
  (ha:PA X (e::es) t) (hdb:(x == ("__debug__":Str))=false:=by decide) (he:starEach (e::es) X.env=(false,eval e X.env)::starEach es X.env:=by rfl) (hpl:(backTo pos (starEach es X.env)).any (·.1)=false:=by rfl) :
  PE X (.Call (.Name x p) (e::es) [] pos) (kK sp dvs E t):=by
 intro pins s σ H Q I h
 refine wpAny_Call_Name_kw (lm I hg hm ?_ hdb)
 refine PySem.W.callWith_K (h₀:=X.base) I.ok.mod.kin hk (thn (ha pos pins s σ H _ I h) fun us s1 ⟨vs,H1,I1,r,q⟩=>⟨I1.kIn,?_⟩) he hpl
 exact lH F hr hb hd hx I1 r q
theorem pG {pl:Sem Bool} (he:PE X o ta) (c:Cls X.K C) (hm:rL X.K C m f) (F:ie X.prog X.w X.K X.mg X.base CX k f fd ps sp) (hr:dX k X.A) (hb:fS X.K fd ps ds) (hd:br dvs ds) (hx:gd CX X E) (ha:PA X (e::es) t)
  (hst:starEach (e::es) X.env=(false,eval e X.env)::starEach es X.env:=by rfl) (hpl:(backTo pos (starEach es X.env)).any (·.1)=false:=by rfl)
  (ht:eval (.Call (.Attribute o m apos) (e::es) [] pos) X.env=(do
   let ov <- eval o X.env
   standAt apos.atName
   let (f,first) <- holding [ov] (getMethod ov m pl)
   callWith pos f first (backTo pos (starEach (e::es) X.env)) (backToKw pos (keywordEach [] X.env))):=by rfl) :
  PE X (.Call (.Attribute o m apos) (e::es) [] pos) (lF C m sp dvs E ta t):=by
 intro pins s σ H Q I h
 refine PySem.W.methodCall_KW (pl:=pl) (thn (he pins s σ H _ I h) fun u s1 ⟨x,H1,I1,rx,a,dx,fs,ex,ea,l,q⟩=>?_) ht
 subst ex
 obtain rfl:u=Value.ref a:=rx
 refine gU I1 ea c hm l ?_
 refine PySem.W.callWith_K (first:=[.ref a]) (h₀:=X.base) I.ok.mod.kin hm.kp (thn (ha pos pins s1 σ H1 _ I1 q) fun us s2 ⟨vs,H2,I2,r,q2⟩=>⟨I2.kIn,?_⟩) hst hpl
 exact lH (us:=.ref a::us) (vs:=.ref a::vs) F hr hb hd hx I2 (.cons rfl r) q2
theorem nv {pl:Sem Bool} (he:PE X o ta) (c:Cls X.K C) (hm:rL X.K C m f) (F:ie X.prog X.w X.K X.mg X.base CX k f fd ps sp) (hr:dX k X.A) (hb:fS X.K fd ps ds) (hd:br dvs ds) (hx:gd CX X E)
  (ht:eval (.Call (.Attribute o m apos) [] [] pos) X.env=(do
   let ov <- eval o X.env
   standAt apos.atName
   let (f,first) <- holding [ov] (getMethod ov m pl)
   callWith pos f first (backTo pos (starEach [] X.env)) (backToKw pos (keywordEach [] X.env))):=by rfl) :
  PE X (.Call (.Attribute o m apos) [] [] pos) (lF C m sp dvs E ta j2):=by
 intro pins s σ H Q I h
 refine PySem.W.methodCall_KW (pl:=pl) (thn (he pins s σ H _ I h) fun u s1 ⟨x,H1,I1,rx,a,dx,fs,ex,ea,l,q⟩=>?_) ht
 subst ex
 obtain rfl:u=Value.ref a:=rx
 refine gU I1 ea c hm l ?_
 exact PySem.W.callWith_K0 (first:=[.ref a]) I1.kIn hm.kp (lH (us:=[.ref a]) (vs:=[.ref a]) F hr hb hd hx I1 (.cons rfl .nil) q)
structure Mk (K:PySem.W.Frag) (C f:Addr):Prop where
 makes:PySem.W.makesIn K C=true
 init:PySem.W.findIn K (.ref C) "__init__"=some (some (.ref f))
 fn:PySem.W.isFn K (.ref f)=true
 kp:PySem.W.keepIn K (.ref C)=true
theorem ny {pins:List (Addr×Obj)}{σ:St}{H:Hp}{s:Shared}{Q:VK}{us:List Value}{vs:List V} (M:Mk X.K C f) (F:ie X.prog X.w X.K X.mg X.base CX k f fd ps sp) (hr:dX (k + 1) X.A) (hb:fS X.K fd ps ds) (hd:br dvs ds)
  (hx:gd CX X E) (I:Inv X pins σ H s) (r:br vs us)
  (h:∀x dx,H x=none->H dx=none->dx≠x->sp (.ref x::(vs++dvs)) (upd (upd H dx (.own x)) x (.ins C dx [])) (fun v H2=>v=.non/\Q (.ref x) H2) E) :
  wpAny (model X.prog X.w) X.A (call (.ref C) us) (EP X pins σ Q) X.xe s:=by
 have hq:=h (s.heap.objs.size + 1) s.heap.objs.size (I.hok.fresh (Nat.le_succ _)) (I.hok.fresh (Nat.le_refl _)) (Nat.ne_of_lt (Nat.lt_succ_self _))
 have I2:=Inv.made (C:=C) I
 have r2:br (V.ref (s.heap.objs.size + 1)::(vs++dvs)) (Value.ref (s.heap.objs.size + 1)::(us++ds)):=.cons rfl (r.append hd)
 have hl:(Value.ref (s.heap.objs.size + 1)::us++ds).length=ps.length:=by
  have e:=r2.length
  rw [F.len _ _ _ _ hq] at e
  exact e.symm
 refine wpAny_call (nu (f:=f) I.kIn M.makes M.init (beq_iff_eq.mp M.fn) (codeAny_mono (F.run _ X.stack _ _ ⟨Value.ref (s.heap.objs.size + 1)::us,[]⟩ (Value.ref (s.heap.objs.size + 1)::(us++ds)) _ _ E (hr.make C us [])
  (I2.env0.make C us []) (hb _ (Value.ref (s.heap.objs.size + 1)::us) I2.kIn hl) r2 hq) fun r s' hq'=>?_))
 cases r with
 | error e=>exact hx pins σ _ _ e s' I2 hq'
 | ok fl =>
  cases fl with
  | ret u =>
   obtain ⟨v,H',I3,rv,ev,q3⟩:=I2.after hq'
   subst ev
   exact ⟨rv,⟨V.ref (s.heap.objs.size + 1),H',I3,rfl,q3⟩⟩
  | next=>exact False.elim hq'
  | brk=>exact False.elim hq'
  | cont=>exact False.elim hq'
theorem pH (M:Mk X.K C f) (F:ie X.prog X.w X.K X.mg X.base CX k f fd ps sp) (hr:dX (k + 1) X.A) (hg:Gl X x) (hm:X.mg x=some (.ref C)) (hb:fS X.K fd ps ds) (hd:br dvs ds) (hx:gd CX X E)
  (ha:PA X (e::es) t) (hdb:(x == ("__debug__":Str))=false:=by decide) (he:starEach (e::es) X.env=(false,eval e X.env)::starEach es X.env:=by rfl) (hpl:(backTo pos (starEach es X.env)).any (·.1)=false:=by rfl) :
  PE X (.Call (.Name x p) (e::es) [] pos) (lG C sp dvs E t):=by
 intro pins s σ H Q I h
 refine wpAny_Call_Name_kw (lm I hg hm ?_ hdb)
 refine PySem.W.callWith_K (h₀:=X.base) I.ok.mod.kin M.kp (thn (ha pos pins s σ H _ I h) fun us s1 ⟨vs,H1,I1,r,q⟩=>⟨I1.kIn,?_⟩) he hpl
 exact ny M F hr hb hd hx I1 r q
end
structure ba (N P:List Str) (sc:Scope):Prop where
 kind:sc.kind=.function
 co:sc.isCoroutine=false
 gen:sc.isGenerator=false
 nd:N.Nodup
 pre:N.take P.length=P
 par:∀x∈P,sc.names.lookup x=some .local\/sc.names.lookup x=some .cell
 nofree:∀y∈sc.names,y.2≠.free
theorem iO {kindOf:Str->Option NameKind}{x:Str}:∀{binds:List (Str×Value)}{m:Str->Option Value},(∀v,(x,v)∉binds)->bindL kindOf binds m x=m x
 | [],_,_=>rfl
 | (n,v)::r,m,h=>by
  unfold bindL
  rw [iO fun w hw=>h w (List.mem_cons_of_mem _ hw)]
  split
  .have:x≠n:=by rintro rfl;exact h v List.mem_cons_self
   simp [this]
  .rfl
theorem iP {kindOf:Str->Option NameKind}{x:Str}:∀{binds:List (Str×Value)}{m:Str->Option Value},(∀v,(x,v)∉binds)->bindC kindOf binds m x=m x
 | [],_,_=>rfl
 | (n,v)::r,m,h=>by
  unfold bindC
  rw [iP fun w hw=>h w (List.mem_cons_of_mem _ hw)]
  split
  .rfl
  .have:x≠n:=by rintro rfl;exact h v List.mem_cons_self
   simp [this]
theorem iQ {kindOf:Str->Option NameKind}{x:Str}{v:Value}:∀{P:List Str}{vs:List Value}{i:Nat}{m:Str->Option Value},P.Nodup->P[i]?=some x->vs[i]?=some v->kindOf x=some .local ->
  bindL kindOf (P.zip vs) m x=some v
 | [],_,_,_,_,h,_,_=>by simp at h
 | _::_,[],_,_,_,_,h,_=>by simp at h
 | p::P,w::vs,0,m,nd,h1,h2,hk=>by
  simp at h1 h2;subst h1;subst h2
  show bindL kindOf ((p,w)::P.zip vs) m p=_
  unfold bindL
  rw [iO fun v hv=>(List.nodup_cons.mp nd).1 (List.of_mem_zip hv).1,if_pos hk]
  simp
 | p::P,w::vs,i + 1,m,nd,h1,h2,hk=>by
  show bindL kindOf ((p,w)::P.zip vs) m x=_
  unfold bindL
  exact iQ (i:=i) (List.nodup_cons.mp nd).2 (by simpa using h1) (by simpa using h2) hk
theorem iR {kindOf:Str->Option NameKind}{x:Str}{v:Value}:∀{P:List Str}{vs:List Value}{i:Nat}{m:Str->Option Value},P.Nodup->P[i]?=some x->vs[i]?=some v->kindOf x≠some .local ->
  bindC kindOf (P.zip vs) m x=some v
 | [],_,_,_,_,h,_,_=>by simp at h
 | _::_,[],_,_,_,_,h,_=>by simp at h
 | p::P,w::vs,0,m,nd,h1,h2,hk=>by
  simp at h1 h2;subst h1;subst h2
  show bindC kindOf ((p,w)::P.zip vs) m p=_
  unfold bindC
  rw [iP fun v hv=>(List.nodup_cons.mp nd).1 (List.of_mem_zip hv).1,if_neg hk]
  simp
 | p::P,w::vs,i + 1,m,nd,h1,h2,hk=>by
  show bindC kindOf ((p,w)::P.zip vs) m x=_
  unfold bindC
  exact iR (i:=i) (List.nodup_cons.mp nd).2 (by simpa using h1) (by simpa using h2) hk
def start (N:List Str) (vs:List V):St:=vs.map some++List.replicate (N.length - vs.length) none
def nz (CX:CXT) (P:Program) (w:World) (K:PySem.W.Frag) (mg:Str->Option Value) (base:Heap) (N:List Str) (qual:Str) (scope:Scope) (f:Addr) (cd:Value) (A:Around) (outer:List Env) (s:Shared) (H:Hp) (E:XK):Cx where
 prog:=P
 w:=w
 K:=K
 mg:=mg
 base:=base
 A:=A.deeper (envOfC qual scope s.heap.objs.size f cd)
 N:=N
 s₀:=s
 H₀:=H
 env:=envOfC qual scope s.heap.objs.size f cd
 outer:=outer
 stack:=envOfC qual scope s.heap.objs.size f cd::outer
 ex:=[]
 calm:=true
 fn:=fun _=>true
 pn:=[]
 xe:=fun e s'=>wpAny (model P w) (A.deeper (envOfC qual scope s.heap.objs.size f cd)) (leaving (envOfC qual scope s.heap.objs.size f cd) e) (fun _ s''=>CX outer H s E e s'') (fun e' s''=>CX outer H s E e' s'') s'
theorem j5 {sc:Scope}{n:Nat}{x:Str} (h:sc.names.lookup x=some .cell):∃c,(cellsFrom n sc.names []).lookup x=some c:=by
 have q:=PySem.W.cellsFrom_some sc.names n [] (.inl h)
 exact Option.isSome_iff_exists.mp q
theorem lI {CX:CXT}{P:Program}{w:World}{K:PySem.W.Frag}{mg:Str->Option Value}{base:Heap}{N ps:List Str}{qual:Str}{scope:Scope}{f:Addr}{cd:Value}{A:Around}{outer:List Env}{s s1:Shared}{H:Hp}{E:XK}{us:List Value}{vs:List V}
  (S:ba N ps scope) (hd:A.handled=none) (e0:pE P w K mg base A outer s H) (hl:vs.length=ps.length) (r:br vs us)
  (x:InCallC s s.heap.objs.size (bindL (envOfC qual scope s.heap.objs.size f cd).kindOf (ps.zip us) fun _=>none) (cellsFrom (s.heap.objs.size + 1) scope.names []) (bindC (envOfC qual scope s.heap.objs.size f cd).kindOf (ps.zip us) fun _=>none) s1) :
  Inv (nz CX P w K mg base N qual scope f cd A outer s H E) [] (start N vs) H s1:=by
 have hpl:ps.length<=N.length:=by have:=congrArg List.length S.pre;rw [List.length_take] at this;omega
 obtain ⟨h1,tk,rfl,hk⟩:=x.done
 have noA:∀b:Addr,b∉(nz CX P w K mg base N qual scope f cd A outer s H E).ex:=fun b z=>absurd (show b∈([]:List Addr) from z) (by simp)
 refine ⟨⟨e0.mod,S.kind,rfl,rfl,Nat.le_refl _,fun y z c h1 h2=>?_,fun y hy=>?_,fun y c _ h=>?_,fun _=>hd,Around.frames_deeper e0.frames,.inr ⟨rfl,rfl⟩,fun b z=>absurd z (noA b),e0.bs,e0.bsz,fun b _ _=>noA b,fun b z=>absurd z (noA b),e0.funs,e0.frf⟩,
  rfl,e0.bare,Un.kept hk,⟨_,x.toInCall.ns,fun i y v h1 h2 h3=>?_⟩,fun y c h=>⟨_,x.cell y c h⟩,e0.hok.fresh (Nat.le_refl _),fun y c h=>?_,fun p hp=>absurd (show p∈([]:List (Addr×Obj)) from hp) (by simp),e0.hok.kept hk,?_⟩
 .exact name_of_addr x.apart (PySem.mem_of_lookup h1) (PySem.mem_of_lookup h2)
 .have hy:scope.names.lookup y=some .cell\/scope.names.lookup y=some .free:=hy
  rcases hy with hy | hy
  .exact j5 hy
  .exact absurd rfl (S.nofree _ (PySem.mem_of_lookup hy))
 .exact Nat.le_of_lt (x.above y c (PySem.mem_of_lookup h))
 .have hi:i < vs.length:=by
   unfold start at h2
   by_cases hi:i < vs.length
   .exact hi
   .rw [List.getElem?_append_right (by simpa using hi)] at h2
    rw [List.getElem?_replicate] at h2
    split at h2 <;> cases h2
  have ha:vs[i]?=some v:=by
   unfold start at h2
   rw [List.getElem?_append_left (by simpa using hi),List.getElem?_map] at h2
   cases e:vs[i]? with
   | none=>rw [e] at h2;cases h2
   | some a=>rw [e] at h2;cases h2;rfl
  obtain ⟨u,hu,rv⟩:=r.get ha
  have hp:ps[i]?=some y:=by
   rw [<- S.pre,List.getElem?_take_of_lt (by omega)];exact h1
  have ndP:ps.Nodup:=by rw [<- S.pre];exact S.nd.sublist (List.take_sublist _ _)
  refine ⟨u,rv,?_⟩
  rcases S.par y (List.mem_of_getElem? hp) with k | k
  .exact .inl ⟨k,iQ ndP hp hu k⟩
  .obtain ⟨c,e⟩:=j5 (n:=s.heap.objs.size + 1) k
   refine .inr ⟨.inl k,c,e,?_⟩
   have q:=x.cell y c e
   rw [iR ndP hp hu (by show scope.names.lookup y≠_;rw [k];decide)] at q
   exact q
 .exact e0.hok.fresh (Nat.le_of_lt (x.above y c (PySem.mem_of_lookup h)))
 .unfold start
  show _=N.length
  rw [List.length_append,List.length_map,List.length_replicate]
  omega
theorem ub {CX:CXT}{P:Program}{w:World}{K:PySem.W.Frag}{mg:Str->Option Value}{base:Heap}{k:Nat}{f:Addr}{name qual:Str}{params:Arguments}{body:List Stmt}{scope:Scope}{dV kV doc pm cdv ct oc:Value}{an od:Option Addr}
  {osl:Array (Option Value)}{N ps:List Str}{sp:Sp} (lk:K.lookup f=some ⟨oc,od,.func (PySem.W.fnOf name qual params body scope dV kV doc pm an cdv ct),osl⟩) (hcd:PySem.W.codeIn K cdv qual=true) (S:ba N ps scope)
  (len:∀vs H Q E,sp vs H Q E->vs.length=ps.length)
  (hbody:∀(A:Around) (outer:List Env) (s:Shared) (H:Hp) (vs:List V) (Q:VK) (E:XK),dX k (A.deeper (envOfC qual scope s.heap.objs.size f cdv))->sp vs H Q E ->
   ∃t,PSs (nz CX P w K mg base N qual scope f cdv A outer s H E) body t/\t { nx:=fun _ H'=>Q .non H',rt:=Q } (start N vs) H) :
  ie P w K mg base CX (k + 1) f (PySem.W.fnOf name qual params body scope dV kV doc pm an cdv ct) ps sp:=by
 refine ⟨len,fun A outer s H args us vs Q E hr e0 hb r hsp=>?_⟩
 have hl:=len _ _ _ _ hsp
 have KX:K.In s.heap:=e0.mod.kin.keeps fun b o e=>(e0.bs b o e).1
 have lim:s.heap.NoLimit:=e0.mod.nolimit.keeps fun b o e=>(e0.bs b o e).1
 have hkind:∀y∈ps.zip us,scope.names.lookup y.1=some .local\/(scope.names.lookup y.1=some .cell/\((cellsFrom (s.heap.objs.size + 1) scope.names []).lookup y.1).isSome=true):=fun ⟨n,v⟩ hy=>by
  rcases S.par n (List.of_mem_zip hy).1 with q | q
  .exact .inl q
  .exact .inr ⟨q,PySem.W.cellsFrom_some _ _ _ (.inl q)⟩
 refine codeAny_call_function hr.depth (KX _ _ lk) rfl S.co S.gen rfl (PySem.W.codeRec_of KX hcd) (hb _ _ _ _ ?_)
 refine wpAny_newFunctionEnv_cells S.kind hkind fun env he s1 x=>?_
 subst he
 refine ⟨lim.keeps x.toInCall.keep,codeAny_func ?_⟩
 obtain ⟨t,ht,hq⟩:=hbody A outer s H vs Q E (hr.deeper _) hsp
 have I:Inv (nz CX P w K mg base N qual scope f cdv A outer s H E) [] (start N vs) H s1:=lI S hr.hd e0 hl r x
 refine wpAny_mono (ht [] s1 (start N vs) H _ I hq) (fun fl s' hs=>?_) fun e s' hs=>hs
 have fin:∀{σ':St}{H':Hp}{v:V}{u:Value},Inv (nz CX P w K mg base N qual scope f cdv A outer s H E) [] σ' H' s'->bP v u->Q v H'->CE outer P w H s Q u s' :=
  fun {σ' H' v u} J rv q=>⟨v,H',J.os,J.bare,J.base,J.hok,rv,q⟩
 cases fl with
 | ret u =>
  obtain ⟨v,σ',H',J,rv,q⟩:=hs
  exact fin J rv q
 | next =>
  obtain ⟨σ',H',J,q⟩:=hs
  exact fin (v:=V.non) (u:=Value.none) J rfl q
 | brk =>
  obtain ⟨_,_,_,q⟩:=hs
  exact False.elim q
 | cont =>
  obtain ⟨_,_,_,q⟩:=hs
  exact False.elim q
section
variable {X:Cx}{x:Str}{p pos:Pos}{e:Expr}{es:List Expr}{t:TA}{id T:String}{r:List V->Hp->VK->Prop}
def tCB (r:List V->Hp->VK->Prop) (t:TA):TE:=fun σ H Q=>t σ H fun vs H1=>r vs H1 Q
theorem nA (hc:ci X (.builtin id) r) (hg:Gl X x) (hm:X.mg x=none) (hv:bootBuiltins x=some (.builtin id)) (ha:PA X (e::es) t) (hn:x≠"__name__":=by decide) (hdb:(x == ("__debug__":Str))=false:=by decide)
  (he:starEach (e::es) X.env=(false,eval e X.env)::starEach es X.env:=by rfl) (hpl:(backTo pos (starEach es X.env)).any (·.1)=false:=by rfl):PE X (.Call (.Name x p) (e::es) [] pos) (tCB r t):=by
 intro pins s σ H Q I h
 refine wpAny_Call_Name_kw (eN I hg hm hv ?_ hn hdb)
 exact PyProof.Rows.callWith_builtin1 (thn (ha pos pins s σ H _ I h) fun us s1 ⟨vs,H1,I1,r1,q1⟩=>hc pins s1 σ H1 vs us Q I1 r1 q1) he hpl
theorem lJ (hc:ci X (.type T) r) (hg:Gl X x) (hm:X.mg x=none) (hv:bootBuiltins x=some (.type T)) (ha:PA X (e::es) t) (hn:x≠"__name__":=by decide) (hdb:(x == ("__debug__":Str))=false:=by decide)
  (he:starEach (e::es) X.env=(false,eval e X.env)::starEach es X.env:=by rfl) (hpl:(backTo pos (starEach es X.env)).any (·.1)=false:=by rfl):PE X (.Call (.Name x p) (e::es) [] pos) (tCB r t):=by
 intro pins s σ H Q I h
 refine wpAny_Call_Name_kw (eN I hg hm hv ?_ hn hdb)
 exact PyProof.Rows.callWith_type1 (thn (ha pos pins s σ H _ I h) fun us s1 ⟨vs,H1,I1,r1,q1⟩=>hc pins s1 σ H1 vs us Q I1 r1 q1) he hpl
end
end L2
namespace HT
open PySem PyProof.Rows
section
open PySem.SeqAt
open PySem.AutoSeq1 (wpAny_loadPart')
open PySem.MeetsSeq PySem.MeetsSeq2 PySem.MeetsSeq3
end
section
variable {prog:Program}{w:World}{A:Around}{E:Value->Shared->Prop}{s:Shared}
theorem cat_tup {t b:Addr}{vs ws:List Value}{Q:Value->Shared->Prop} (ht:IsTup s.heap t vs.toArray) (hb:IsTup s.heap b ws.toArray) (hv:vs≠[])
  (h1:ws=[]->Q (.ref t) s) (h2:ws≠[]->Q (.ref s.heap.objs.size) { s with heap:=s.heap.push { cls:=.type "tuple",data:=.seq (vs++ws).toArray } })
  (hsz:vs.length + ws.length<=sizeLine):wpAny (model prog w) A (binaryOp .Add (.ref t) (.ref b)) Q E s:=by
 obtain ⟨⟨cls,dd,data,sl⟩,ho,hc,n,hd⟩:=id ht
 obtain ⟨⟨cls2,dd2,data2,sl2⟩,ho2,hc2,n2,hd2⟩:=id hb
 simp only at hc hd hc2 hd2
 subst hc hd hc2 hd2
 have e:vs.toArray++ws.toArray=(vs++ws).toArray:=by simp
 by_cases hw:ws=[]
 .exact concat_meets ⟨_,ho,rfl⟩ ⟨_,ho2,rfl⟩ noFill_tuple_add seq_tuple_add PySem.F.slot_tuple_add PySem.F.entry_tuple_add (PySem.F.args_tuple_add_2 _ _)
   (tuple_addW1 t b vs.toArray ws.toArray n n2 dd dd2 sl sl2 (by simpa using hv) (by simp [hw])) ⟨ho,ho2,h1 hw⟩
 .refine concat_meets ⟨_,ho,rfl⟩ ⟨_,ho2,rfl⟩ noFill_tuple_add seq_tuple_add PySem.F.slot_tuple_add PySem.F.entry_tuple_add (PySem.F.args_tuple_add_2 _ _)
   (tuple_addW2 t b vs.toArray ws.toArray n n2 dd dd2 sl sl2 (by simpa using hv) (by simpa using hw) (by rw [List.size_toArray,List.size_toArray];exact hsz)) ⟨ho,ho2,?_⟩
  rw [e]
  exact h2 hw
def sIx (n d:Nat):Option Int->Nat
 | none=>d
 | some v=>if v < 0 then (v + (n:Int)).toNat else min v.toNat n
theorem sIx_nat (n d k:Nat):sIx n d (some (k:Int))=min k n:=by
 show (if (k:Int) < 0 then ((k:Int) + (n:Int)).toNat else min (k:Int).toNat n)=min k n
 rw [if_neg (by omega),Int.toNat_natCast]
theorem sIx_le (n d:Nat) (hd:d<=n) (o:Option Int):sIx n d o<=n:=by
 cases o with
 | none=>exact hd
 | some v =>
  show (if v < 0 then (v + (n:Int)).toNat else min v.toNat n)<=n
  by_cases hv:v < 0
  .rw [if_pos hv];omega
  .rw [if_neg hv];exact Nat.min_le_right _ _
theorem clip_eq (v:Int) (n d:Nat):(if v < 0 then max (v + (n:Int)) 0 else min v (n:Int))=((sIx n d (some v):Nat):Int):=by
 show (if v < 0 then max (v + (n:Int)) 0 else min v (n:Int))=(((if v < 0 then (v + (n:Int)).toNat else min v.toNat n):Nat):Int)
 by_cases hv:v < 0
 .simp only [if_pos hv];omega
 .simp only [if_neg hv];omega
theorem kL (lo hi:Option Int) (n:Nat):Builtin.Slice.sliceAdjust lo hi 1 (n:Int)=(((sIx n 0 lo:Nat):Int),((sIx n n hi:Nat):Int)):=by
 have h1:¬ ((1:Int) < 0):=by omega
 unfold Builtin.Slice.sliceAdjust
 simp only [h1,if_false]
 refine Prod.ext ?_ ?_
 .cases lo with
  | none=>rfl
  | some v=>exact clip_eq v n 0
 .cases hi with
  | none=>rfl
  | some v=>exact clip_eq v n n
theorem kM (i j:Nat):Builtin.Slice.slicePlaces (i:Int) (j:Int) 1=j - i:=by
 unfold Builtin.Slice.slicePlaces
 have h1:(1:Int) > 0:=by omega
 simp only [h1,if_true,Int.ediv_one]
 split <;> omega
theorem gW {v:Value}{o:Option Int}{Q:Option Int->Shared->Prop} (p:IsPart v o) (h:Q o s):wpAny (model prog w) A (Builtin.Slice.slicePartIndex v) Q E s:=by
 cases p with
 | none=>exact slicePart_none h
 | int i t=>exact slicePart_int h
theorem dD {sl:Addr}{vl vu:Value}{lo hi:Option Int}{n:Nat}{Q:Int×Int×Nat->Shared->Prop} (hs:s.heap.IsSliceOf sl vl vu .none) (pl:IsPart vl lo) (pu:IsPart vu hi)
  (h:Q (((sIx n 0 lo:Nat):Int),1,sIx n n hi - sIx n 0 lo) s):wpAny (model prog w) A (Builtin.Slice.sliceApplied (.ref sl) (pure (n:Int))) Q E s:=by
 obtain ⟨os,hos,hcs,hds⟩:=id hs
 unfold Builtin.Slice.sliceApplied Builtin.Slice.sliceFields
 refine wpAny_bind (wpAny_bind (wpAny_field hos hds (x:=vl) rfl (wpAny_bind (wpAny_field hos hds (x:=vu) rfl (wpAny_bind (wpAny_field hos hds (x:=.none) rfl (wpAny_pure ?_)))))))
 refine wpAny_bind (slicePart_none ?_)
 show wpAny _ _ (if ((1:Int) == 0)=true then _ else _) _ _ s
 rw [if_neg (by decide)]
 refine wpAny_bind (gW pl (wpAny_bind (gW pu (wpAny_bind (wpAny_pure ?_)))))
 show wpAny _ _ (match Builtin.Slice.sliceAdjust lo hi 1 (n:Int) with | (lo,hi)=>pure (lo,(1:Int),Builtin.Slice.slicePlaces lo hi 1)) _ _ s
 rw [kL lo hi n]
 show wpAny _ _ (pure (((sIx n 0 lo:Nat):Int),(1:Int),Builtin.Slice.slicePlaces ((sIx n 0 lo:Nat):Int) ((sIx n n hi:Nat):Int) 1)) _ _ s
 rw [kM]
 exact wpAny_pure h
theorem nB (xs:Array Value) (i k:Nat):((List.range k).filterMap fun (m:Nat)=>xs[((i:Int) + (m:Int) * 1).toNat]?).toArray=((xs.toList.drop i).take k).toArray:=by
 have e:(fun (m:Nat)=>xs[((i:Int) + (m:Int) * 1).toNat]?)=fun m=>xs[i + m]?:=by
  funext m
  have:((i:Int) + (m:Int) * 1).toNat=i + m:=by omega
  rw [this]
 rw [e]
 have:=pick_run xs i k
 rw [List.filterMap_map] at this
 have e2:((fun x=>xs[x]?) ∘ fun x=>i + x)=fun m=>xs[i + m]?:=rfl
 rw [e2] at this
 rw [this]
theorem getItem_tuple_cut {t sl:Addr}{items:Array Value}{vl vu:Value}{lo hi:Option Int}{Q:Value->Shared->Prop} (ht:IsTup s.heap t items) (hs:s.heap.IsSliceOf sl vl vu .none) (pl:IsPart vl lo) (pu:IsPart vu hi)
  (hw:¬ (sIx items.size 0 lo=0/\sIx items.size items.size hi=items.size))
  (h:Q (.ref s.heap.objs.size) { s with heap:=s.heap.push { cls:=.type "tuple",data:=.seq ((items.toList.drop (sIx items.size 0 lo)).take (sIx items.size items.size hi - sIx items.size 0 lo)).toArray } })
  (hsz:items.size<=sizeLine):wpAny (model prog w) A (getItem (.ref t) (.ref sl)) Q E s:=by
 have htake:sizeOk (.seq ((items.toList.drop (sIx items.size 0 lo)).take (sIx items.size items.size hi - sIx items.size 0 lo)).toArray):=by
  show ((items.toList.drop (sIx items.size 0 lo)).take (sIx items.size items.size hi - sIx items.size 0 lo)).toArray.size<=sizeLine
  rw [List.size_toArray,List.length_take,List.length_drop,Array.length_toList]
  omega
 have hj:sIx items.size items.size hi<=items.size:=sIx_le _ _ (Nat.le_refl _) hi
 obtain ⟨os,hos,hcs,hds⟩:=id hs
 have hTs:s.TypeIs (.ref sl) "slice":=⟨os,hos,hcs⟩
 unfold getItem
 try with_reducible refine wpAny_holding ?_
 first | refine wpAny_bind (wpAny_pure ?_) | skip
 refine wpAny_bind (wpAny_sequenceKey ht.typeIs (by decide) ?_)
 refine wpAny_bind (wpAny_callSpecial?_slot (name:=Str.ofString "__getitem__") ht.typeIs PyProof.Rows.slot_tuple_getitem
  (wpAny_call_entry PyProof.Rows.slot_tuple_getitem ht.typeIs entry_tuple_getitem ?_ (args_tuple_getitem _ _)))
 show wpAny _ _ (Builtin.Tuple.tupleItemsOf (.ref t) >>= _) _ _ s
 refine wpAny_bind (tupleItemsOf_ ht ?_)
 refine wpAny_bind (wpAny_typeOf hTs ?_)
 rw [if_pos (by decide)]
 refine wpAny_bind (dD hs pl pu ?_)
 have hno:¬ ((((sIx items.size 0 lo:Nat):Int) == 0 && (1:Int) == 1 && (sIx items.size items.size hi - sIx items.size 0 lo) == items.size)=true):=by
  intro q
  rw [Bool.and_eq_true,Bool.and_eq_true] at q
  have q1:((sIx items.size 0 lo:Nat):Int)=0:=eq_of_beq q.1.1
  have q2:sIx items.size items.size hi - sIx items.size 0 lo=items.size:=eq_of_beq q.2
  exact hw ⟨by omega,by omega⟩
 show wpAny _ _ (if (((sIx items.size 0 lo:Nat):Int) == 0 && (1:Int) == 1 && (sIx items.size items.size hi - sIx items.size 0 lo) == items.size)=true then _ else _) _ _ s
 rw [if_neg hno,nB]
 first
  | exact wpAny_bind (m:=Builtin.Tuple.tupleExact _) (wpAny_newObj_type (wpAny_pure ⟨_,rfl,wpAny_pure h⟩) htake)
  | exact wpAny_bind (m:=Builtin.Tuple.tupleExact _) (wpAny_newObj_type (wpAny_bind (wpAny_pure (wpAny_pure ⟨_,rfl,wpAny_pure h⟩))) htake)
  | exact wpAny_bind (wpAny_bind (m:=Builtin.Tuple.tupleExact _) (wpAny_newObj_type (wpAny_pure (wpAny_pure ⟨_,rfl,wpAny_pure h⟩)) htake))
  | exact wpAny_bind (wpAny_bind (m:=Builtin.Tuple.tupleExact _) (wpAny_newObj_type (wpAny_pure ⟨_,rfl,wpAny_pure h⟩) htake))
end
end HT
namespace L2
open PySem PySem.Spec PyProof.Rows
abbrev TO:=St->Hp->(Option Int->Hp->Prop)->Prop
def PO (X:Cx) (e:Option Expr) (t:TO):Prop :=
 ∀(pins:List (Addr×Obj)) (s:Shared) (σ:St) (H:Hp) (Q:Option Int->Hp->Prop),Inv X pins σ H s->t σ H Q ->
  wpAny (model X.prog X.w) X.A (evalPart e X.env) (fun u s'=>∃o H',Inv X pins σ H' s'/\IsPart u o/\Q o H') X.xe s
def jD:TO:=fun _ H Q=>Q none H
def pI (t:TE):TO:=fun σ H Q=>t σ H fun x H1=>∃i,x=.int i/\Q (some i) H1
theorem kN {ns:List Int}:∀{us:List Value},br (ns.map V.int) us->IntsAre us ns:=by
 induction ns with
 | nil=>intro us r;rw [List.map_nil] at r;cases r;exact .nil
 | cons n ns ih =>
  intro us r
  rw [List.map_cons] at r
  cases r with
  | cons r1 r2 =>
   obtain ⟨t,e⟩:=r1
   subst e
   exact .cons n t (ih r2)
section
variable {X:Cx}{e:Expr}{te:TE}{lo hi:Option Expr}{tl th:TO}{pos p2:Pos}
theorem de:PO X none jD:=by
 intro pins s σ H Q I h
 rw [evalPart_none]
 exact wpAny_pure ⟨none,H,I,.none,h⟩
theorem b7 (h:PE X e te):PO X (some e) (pI te):=by
 intro pins s σ H Q I hw
 rw [evalPart_some]
 refine thn (h pins s σ H _ I hw) fun u s1 ⟨x,H1,I1,r1,q1⟩=>?_
 obtain ⟨i,rfl,q⟩:=q1
 obtain ⟨t,rfl⟩:=r1
 exact ⟨some i,H1,I1,.int i t,q⟩
def SlR (X:Cx) (r:V->Option Int->Option Int->Hp->VK->Prop):Prop :=
 ∀(pins:List (Addr×Obj)) (s:Shared) (σ:St) (H:Hp) (x:V) (v vl vu:Value) (lo hi:Option Int) (sl:Addr) (Q:VK),Inv X pins σ H s->bP x v->s.heap.IsSliceOf sl vl vu .none->IsPart vl lo->IsPart vu hi->r x lo hi H Q ->
  ∃T id,typeLookup (.type T) "__getitem__"=pure (some (.builtin id))/\s.TypeIs v T/\wpAny (model X.prog X.w) X.A (getItem v (.ref sl)) (EP X pins σ Q) X.xe s
theorem SlR.or {r r':V->Option Int->Option Int->Hp->VK->Prop} (h:SlR X r) (h':SlR X r'):SlR X (fun x lo hi H Q=>r x lo hi H Q\/r' x lo hi H Q):=by
 intro pins s σ H x v vl vu lo hi sl Q I rx hs pl pu q
 rcases q with q | q
 .exact h pins s σ H x v vl vu lo hi sl Q I rx hs pl pu q
 .exact h' pins s σ H x v vl vu lo hi sl Q I rx hs pl pu q
def tSl (r:V->Option Int->Option Int->Hp->VK->Prop) (te:TE) (tl th:TO):TE:=fun σ H Q=>te σ H fun x H1=>tl σ H1 fun l H2=>th σ H2 fun u H3=>r x l u H3 Q
theorem bT {r:V->Option Int->Option Int->Hp->VK->Prop} (hr:SlR X r) (he:PE X e te) (hl:PO X lo tl) (hu:PO X hi th):PE X (.Subscript e (.Slice lo hi none p2) pos) (tSl r te tl th):=by
 intro pins s σ H Q I h
 refine Subscript_ (thn (he pins s σ H _ I h) fun v s1 ⟨x,H1,I1,r1,q1⟩=>?_)
 refine wpAny_Slice (thn (hl pins s1 σ H1 _ I1 q1) fun vl s2 ⟨l,H2,I2,pl,q2⟩=>thn (hu pins s2 σ H2 _ I2 q2) fun vu s3 ⟨u,H3,I3,pu,q3⟩=>?_)
 rw [evalPart_none]
 refine wpAny_pure ?_
 have I4:Inv X pins σ H3 { s3 with heap:=s3.heap.push { cls:=.type "slice",data:=.fields #[vl,vu,.none] } }:=I3.kept (t':=s3.toks) fun b ob q=>Heap.get?_push_of_some _ q
 obtain ⟨T,id,hT,ht,hg⟩:=hr pins { s3 with heap:=s3.heap.push { cls:=.type "slice",data:=.fields #[vl,vu,.none] } } σ H3 x v vl vu l u s3.heap.objs.size Q I4 r1 (Heap.IsSliceOf.new ..) pl pu q3
 show wpAny (model X.prog X.w) X.A (subscriptTail e (.Slice lo hi none p2) v (.ref s3.heap.objs.size)) (EP X pins σ Q) X.xe { s3 with heap:=s3.heap.push { cls:=.type "slice",data:=.fields #[vl,vu,.none] } }
 exact tail_any (ops:=[.ref s3.heap.objs.size,v]) ht hT hg (by with_unfolding_all rfl)
def pJ (xs:List V) (lo hi:Option Int):List V:=(xs.drop (HT.sIx xs.length 0 lo)).take (HT.sIx xs.length xs.length hi - HT.sIx xs.length 0 lo)
theorem gf (xs:List V) (lo hi:Option Int):(pJ xs lo hi).length<=xs.length:=by
 unfold pJ
 rw [List.length_take,List.length_drop]
 omega
def u8 (K:PySem.W.Frag):V->Option Int->Option Int->Hp->VK->Prop:=fun x lo hi H Q=>∃a xs,x=.ref a/\SqT K H a xs /\
 ¬ (HT.sIx xs.length 0 lo=0/\HT.sIx xs.length xs.length hi=xs.length)/\∀p,H p=none->Q (.ref p) (upd H p (.tup (pJ xs lo hi)))
theorem rN:SlR X (u8 X.K):=by
 intro pins s σ H x v vl vu lo hi sl Q I rx hs pl pu h
 obtain ⟨a,xs,rfl,hx,hw,q⟩:=h
 cases rx
 obtain ⟨its,r,ht,hz⟩:=I.tuple hx
 have hlen:its.toArray.size=xs.length:=by rw [List.size_toArray];exact r.length.symm
 refine ⟨"tuple",_,PyProof.Rows.slot_tuple_getitem.lookup,ht.typeIs,?_⟩
 refine HT.getItem_tuple_cut ht hs pl pu (by rw [hlen];exact hw) ?_ (by rw [hlen];exact hz)
 rw [hlen]
 refine ⟨.ref s.heap.objs.size,_,I.laid (t':=s.toks) (o:=.tup (pJ xs lo hi)) (fun b ob q=>Heap.get?_push_of_some _ q) (Nat.le_refl _) ?_,rfl,q _ (I.hok.fresh (Nat.le_refl _))⟩
 exact ⟨Nat.le_trans (gf xs lo hi) hz,_,(r.drop (HT.sIx xs.length 0 lo)).take (HT.sIx xs.length xs.length hi - HT.sIx xs.length 0 lo),IsTup.new _ _⟩
def rO (K:PySem.W.Frag):R2:=fun x y H Q=>∃a b xs ys,x=.ref a/\y=.ref b/\SqT K H a xs/\SqT K H b ys/\xs≠[]/\xs.length + ys.length<=sizeLine /\
 (ys=[]->Q (.ref a) H)/\(ys≠[]->∀p,H p=none->Q (.ref p) (upd H p (.tup (xs++ys))))
theorem br.nil_iff {xs:List V}{us:List Value} (r:br xs us):us=[] ↔ xs=[]:=by
 cases r with
 | nil=>simp
 | cons _ _=>simp
theorem pK:OpR X (binaryOp .Add) (rO X.K):=by
 intro pins s σ H x y v u Q I rx ry h
 obtain ⟨a,b,xs,ys,rfl,rfl,ha,hb,hx,hz,q1,q2⟩:=h
 cases rx
 cases ry
 obtain ⟨its,r1,p1,_⟩:=I.tuple ha
 obtain ⟨its2,r2,p2,_⟩:=I.tuple hb
 refine HT.cat_tup p1 p2 (fun z=>hx (r1.nil_iff.mp z)) (fun z=>⟨.ref a,H,I,rfl,q1 (r2.nil_iff.mp z)⟩) (fun z=>?_) (by rw [<- r1.length,<- r2.length];exact hz)
 refine ⟨.ref s.heap.objs.size,_,I.laid (t':=s.toks) (o:=.tup (xs++ys)) (fun b ob q=>Heap.get?_push_of_some _ q) (Nat.le_refl _) ?_,rfl,q2 (fun w=>z (r2.nil_iff.mpr w)) _ (I.hok.fresh (Nat.le_refl _))⟩
 exact ⟨by rw [List.length_append];exact hz,_,r1.append r2,IsTup.new _ _⟩
end
def ixN (n:Nat) (i:Int):Option Nat:=if 0<=i then (if i < n then some i.toNat else none) else if -(n:Int)<=i then some (i + n).toNat else none
def atI {α:Type} (xs:List α) (i:Int):Option α:=(ixN xs.length i).bind fun j=>xs[j]?
theorem pM {n:Nat}{i:Int}{j:Nat} (h:ixN n i=some j):seqIndex? i n=some j/\j < n/\-(n:Int)<=i/\i < n:=by
 unfold ixN at h
 by_cases h0:0<=i
 .rw [if_pos h0] at h
  by_cases h1:i < n
  .rw [if_pos h1] at h
   have e:i.toNat=j:=Option.some.inj h
   exact ⟨by rw [seqIndex_of h0 h1,e],by omega,by omega,h1⟩
  .rw [if_neg h1] at h;cases h
 .rw [if_neg h0] at h
  by_cases h1:-(n:Int)<=i
  .rw [if_pos h1] at h
   have e:(i + n).toNat=j:=Option.some.inj h
   exact ⟨by rw [seqIndex_neg (by omega) h1,e],by omega,h1,by omega⟩
  .rw [if_neg h1] at h;cases h
theorem jE {α:Type}{xs:List α}{i:Int}{v:α} (h:atI xs i=some v):∃j,seqIndex? i xs.length=some j/\xs[j]?=some v/\j < xs.length/\-(xs.length:Int)<=i/\i < xs.length:=by
 unfold atI at h
 cases e:ixN xs.length i with
 | none=>rw [e] at h;cases h
 | some j =>
  rw [e] at h
  obtain ⟨h1,h2,h3,h4⟩:=pM e
  exact ⟨j,h1,h,h2,h3,h4⟩
theorem pN {α:Type}{xs:List α}{j:Nat}{v:α} (h:xs[j]?=some v):atI xs (j:Int)=some v:=by
 have hj:j < xs.length:=(List.getElem?_eq_some_iff.mp h).1
 have e:ixN xs.length (j:Int)=some j:=by
  unfold ixN
  rw [if_pos (by omega),if_pos (by omega)];simp
 unfold atI;rw [e];exact h
def pO (b:Expr):Prop:=∀o i,subscripted b false o i=operate [o,i] (getItem o i)
def IxR (X:Cx) (r:R2):Prop :=
 ∀(value slice:Expr) (pins:List (Addr×Obj)) (s:Shared) (σ:St) (H:Hp) (x y:V) (v u:Value) (Q:VK),Inv X pins σ H s->bP x v->bP y u->r x y H Q ->
  subscripted slice false v u=operate [v,u] (getItem v u)->wpAny (model X.prog X.w) X.A (subscriptTail value slice v u) (EP X pins σ Q) X.xe s
def MtR (X:Cx) (id:String) (r:V->List V->Hp->VK->Prop):Prop :=
 ∀(pins:List (Addr×Obj)) (s:Shared) (σ:St) (H:Hp) (x:V) (xs:List V) (v:Value) (us:List Value) (Q:VK),Inv X pins σ H s->bP x v->br xs us->r x xs H Q ->
  wpAny (model X.prog X.w) X.A (call (.builtin id) (v::us)) (EP X pins σ Q) X.xe s
section
variable {X:Cx}{a b:Expr}{ta tb:TE}{pos:Pos}
theorem IxR.or {r r':R2} (h:IxR X r) (h':IxR X r'):IxR X (fun x y H Q=>r x y H Q\/r' x y H Q):=by
 intro value slice pins s σ H x y v u Q I rx ry q hs
 rcases q with q | q
 .exact h value slice pins s σ H x y v u Q I rx ry q hs
 .exact h' value slice pins s σ H x y v u Q I rx ry q hs
theorem eO {r:R2} (hr:IxR X r) (ha:PE X a ta) (hb:PE X b tb) (hs:pO b):PE X (.Subscript a b pos) (tOp r ta tb):=by
 intro pins s σ H Q I h
 exact Subscript_ (t0 ha hb I h fun v u s2 x y H2 I2 rx ry q=>hr a b pins s2 σ H2 x y v u Q I2 rx ry q (hs _ _))
def u9 (K:PySem.W.Frag):R2:=fun x y H Q=>∃p xs i v,x=.ref p/\y=.int i/\SqL K H p xs/\atI xs i=some v/\Q v H
def va (K:PySem.W.Frag):R2:=fun x y H Q=>∃p xs i v,x=.ref p/\y=.int i/\SqT K H p xs/\atI xs i=some v/\Q v H
def vz:R2:=fun x y H Q=>∃z i c,x=.str z/\y=.int i/\z.length<=sizeLine/\atI z.cps.toList i=some c/\Q (.str ⟨#[c]⟩) H
theorem pP:IxR X (u9 X.K):=by
 intro value slice pins s σ H x y v u Q I rx ry h hs
 obtain ⟨p,xs,i,z,rfl,rfl,hq,he,q⟩:=h
 cases rx
 obtain ⟨t,rfl⟩:=ry
 obtain ⟨its,r,pl,hz⟩:=I.list hq
 obtain ⟨j,h1,h2,h3,h4,h5⟩:=jE he
 obtain ⟨w,ew,rw'⟩:=r.get h2
 have hl:=r.length
 have hn:=iN
 have fin:EP X pins σ Q w s:=⟨z,H,I,rw',q⟩
 by_cases h0:0<=i
 .have hj:i.toNat=j:=by
   rw [seqIndex_of h0 h5] at h1
   exact Option.some.inj h1
  exact item_listR pl.isList h0 (by omega) (by rw [hj];simpa using ew) fin hs
 .have hj:(i + (its.toArray.size:Int)).toNat=j:=by
   rw [seqIndex_neg (by omega) h4] at h1
   rw [List.size_toArray,<- hl]
   exact Option.some.inj h1
  exact subscriptTail_builtinR (x:=w) pl.isList.typeIs slot_list_getitem.lookup
   (wpAny_getItem_list_neg (Q:=fun r s'=>r=w/\EP X pins σ Q r s') pl.isList (by omega) (by rw [List.size_toArray] <;> omega) (by omega) (by rw [hj];simpa using ew) ⟨rfl,fin⟩) hs
theorem rP:IxR X (va X.K):=by
 intro value slice pins s σ H x y v u Q I rx ry h hs
 obtain ⟨p,xs,i,z,rfl,rfl,hq,he,q⟩:=h
 cases rx
 obtain ⟨t,rfl⟩:=ry
 obtain ⟨its,r,pl,hz⟩:=I.tuple hq
 obtain ⟨j,h1,h2,h3,h4,h5⟩:=jE he
 obtain ⟨w,ew,rw'⟩:=r.get h2
 have hl:=r.length
 have hn:=iN
 have fin:EP X pins σ Q w s:=⟨z,H,I,rw',q⟩
 exact subscriptTail_builtinR (x:=w) pl.typeIs slot_tuple_getitem.lookup
  (getItem_tuple (j:=j) (Q:=fun r s'=>r=w/\EP X pins σ Q r s') pl (by omega) (by omega) (by rw [List.size_toArray,<- hl];exact h1) (by simpa using ew) ⟨rfl,fin⟩) hs
theorem rQ:IxR X vz:=by
 intro value slice pins s σ H x y v u Q I rx ry h hs
 obtain ⟨z,i,c,rfl,rfl,hz,he,q⟩:=h
 obtain ⟨t,rfl⟩:=rx
 obtain ⟨t',rfl⟩:=ry
 obtain ⟨j,h1,h2,h3,h4,h5⟩:=jE he
 have hl:z.cps.toList.length=z.length:=by simp [Str.length]
 rw [hl] at h1 h4 h5
 have hn:=iN
 exact tail_any (typeIs_str s z t) slot_str_getitem.lookup (getItem_str (c:=c) (by
  have e1:decide (i < -(2 ^ 63:Int))=false:=decide_eq_false (by omega)
  have e2:decide (i >= 2 ^ 63)=false:=decide_eq_false (by omega)
  rw [e1,e2,Bool.or_false]) (by rw [h1];simpa using h2) ⟨.str ⟨#[c]⟩,H,I.tok _,⟨_,rfl⟩,q⟩) hs
theorem iS (lo hi:Option Int) (n:Nat):(sliceBounds lo hi none n).1=((HT.sIx n 0 lo:Nat):Int)/\(sliceBounds lo hi none n).2.1=((HT.sIx n n hi:Nat):Int)/\(sliceBounds lo hi none n).2.2=1:=by
 refine ⟨?_,?_,rfl⟩
 .cases lo with
  | none=>simp [sliceBounds,HT.sIx]
  | some i =>
   simp only [sliceBounds,HT.sIx,Option.getD_none,show (1:Int) > 0 by decide,if_true]
   by_cases h:i < 0
   .simp only [h,if_true] <;> omega
   .simp only [h,if_false] <;> omega
 .cases hi with
  | none=>simp [sliceBounds,HT.sIx]
  | some i =>
   simp only [sliceBounds,HT.sIx,Option.getD_none,show (1:Int) > 0 by decide,if_true]
   by_cases h:i < 0
   .simp only [h,if_true] <;> omega
   .simp only [h,if_false] <;> omega
theorem ig (its:List Value) (lo hi:Option Int):slicePick its.toArray lo hi none=((its.drop (HT.sIx its.length 0 lo)).take (HT.sIx its.length its.length hi - HT.sIx its.length 0 lo)).toArray:=by
 obtain ⟨h1,h2,h3⟩:=iS lo hi its.toArray.size
 unfold slicePick
 rw [h1,h2,h3]
 simp only [sliceRange_one,pick_run,List.size_toArray] <;> rfl
def vc (K:PySem.W.Frag):V->Option Int->Option Int->Hp->VK->Prop:=fun x lo hi H Q=>∃a xs,x=.ref a/\SqL K H a xs/\∀p,H p=none->Q (.ref p) (upd H p (.lst (pJ xs lo hi)))
theorem pQ:SlR X (vc X.K):=by
 intro pins s σ H x v vl vu lo hi sl Q I rx hs pl pu h
 obtain ⟨a,xs,rfl,hx,q⟩:=h
 cases rx
 obtain ⟨its,r,ht,hz⟩:=I.list hx
 have hlen:=r.length
 refine ⟨"list",_,slot_list_getitem.lookup,ht.isList.typeIs,?_⟩
 refine wpAny_getItem_list_slice ht.isList hs pl pu .none (by simp) ?_ (by rw [List.size_toArray] <;> omega)
 rw [ig,<- hlen]
 refine ⟨.ref s.heap.objs.size,_,I.laid (t':=s.toks) (o:=.lst (pJ xs lo hi)) (fun b ob q=>Heap.get?_push_of_some _ q) (Nat.le_refl _) ?_,rfl,q _ (I.hok.fresh (Nat.le_refl _))⟩
 exact ⟨Nat.le_trans (gf xs lo hi) hz,_,0,(r.drop (HT.sIx xs.length 0 lo)).take (HT.sIx xs.length xs.length hi - HT.sIx xs.length 0 lo),Heap.get?_push_size _ rfl⟩
def gM:V->Bool
 | .non=>true
 | .bl _=>true
 | .int _=>true
 | .str _=>true
 | _=>false
def eqV:V->V->Bool
 | .non,.non=>true
 | .bl a,.bl b=>a == b
 | .bl a,.int b=>(if a then 1 else 0) == b
 | .int a,.bl b=>a == (if b then 1 else 0)
 | .int a,.int b=>a == b
 | .str a,.str b=>a == b
 | _,_=>false
theorem rR {A:Around}{s:Shared}{y x:V}{u v:Value} (ry:bP y u) (rx:bP x v) (fy:gM y=true) (fx:gM x=true):SeqAt.EqAt A s u v (eqV y x):=by
 cases y with
 | non =>
  cases ry
  cases x with
  | non=>cases rx;exact SeqAt.EqAt.same _
  | bl b=>cases rx;exact SeqAt.EqAt.none_bool b
  | int b=>obtain ⟨t,rfl⟩:=rx;exact SeqAt.EqAt.none_int b t
  | str b=>obtain ⟨t,rfl⟩:=rx;exact SeqAt.EqAt.none_str b t
  | _=>exact absurd (show false=true from fx) Bool.false_ne_true
 | bl a =>
  cases ry
  cases x with
  | non=>cases rx;exact SeqAt.EqAt.bool_none a
  | bl b=>cases rx;exact SeqAt.EqAt.bool_bool a b
  | int b=>obtain ⟨t,rfl⟩:=rx;exact SeqAt.EqAt.bool_int a b t
  | str b=>obtain ⟨t,rfl⟩:=rx;exact SeqAt.EqAt.bool_str a b t
  | _=>exact absurd (show false=true from fx) Bool.false_ne_true
 | int a =>
  obtain ⟨t',rfl⟩:=ry
  cases x with
  | non=>cases rx;exact SeqAt.EqAt.int_none a t'
  | bl b=>cases rx;exact SeqAt.EqAt.int_bool a t' b
  | int b=>obtain ⟨t,rfl⟩:=rx;exact SeqAt.EqAt.int_int a t' b t
  | str b=>obtain ⟨t,rfl⟩:=rx;exact SeqAt.EqAt.int_str a t' b t
  | _=>exact absurd (show false=true from fx) Bool.false_ne_true
 | str a =>
  obtain ⟨t',rfl⟩:=ry
  cases x with
  | non=>cases rx;exact SeqAt.EqAt.str_none a t'
  | bl b=>cases rx;exact SeqAt.EqAt.str_bool a t' b
  | int b=>obtain ⟨t,rfl⟩:=rx;exact SeqAt.EqAt.str_int a t' b t
  | str b=>obtain ⟨t,rfl⟩:=rx;exact SeqAt.EqAt.str_str a t' b t
  | _=>exact absurd (show false=true from fx) Bool.false_ne_true
 | _=>exact absurd (show false=true from fy) Bool.false_ne_true
def eqU (x:V) (u:Value):Bool:=match u with
 | .none=>eqV .non x
 | .bool b=>eqV (.bl b) x
 | .int i _=>eqV (.int i) x
 | .str z _=>eqV (.str z) x
 | _=>false
theorem oB {x y:V}{u:Value} (r:bP y u) (f:gM y=true):eqU x u=eqV y x:=by
 cases y with
 | non=>cases r;rfl
 | bl b=>cases r;rfl
 | int i=>obtain ⟨t,rfl⟩:=r;rfl
 | str z=>obtain ⟨t,rfl⟩:=r;rfl
 | _=>exact absurd (show false=true from f) Bool.false_ne_true
theorem gg {x:V}:∀{xs:List V}{us:List Value},br xs us->xs.all gM=true->us.any (eqU x)=xs.any fun y=>eqV y x
 | _,_,.nil,_=>rfl
 | y::xs,u::us,.cons r t,f=>by
  rw [List.all_cons,Bool.and_eq_true] at f
  rw [List.any_cons,List.any_cons,oB r f.1,gg t f.2]
theorem eP {A:Around}{s:Shared}{x:V}{v:Value} (rx:bP x v) (fx:gM x=true):∀{xs:List V}{us:List Value},br xs us->xs.all gM=true->∀u∈us,SeqAt.EqAt A s u v (eqU x u)
 | _,_,.nil,_=>fun u hu=>by cases hu
 | y::xs,u::us,.cons r t,f=>fun u' hu=>by
  rw [List.all_cons,Bool.and_eq_true] at f
  rcases List.mem_cons.mp hu with rfl | hu
  .rw [oB r f.1];exact rR r rx f.1 fx
  .exact eP rx fx t f.2 u' hu
def inV (x:V) (xs:List V):Bool:=xs.any fun y=>eqV y x
def rIn (K:PySem.W.Frag) (neg:Bool):R2:=fun x y H Q=>∃p xs,y=.ref p/\(SqL K H p xs\/SqT K H p xs)/\gM x=true/\xs.all gM=true/\Q (.bl (if neg then !inV x xs else inV x xs)) H
theorem lK:OpR X (compareOp .In) (rIn X.K false):=by
 intro pins s σ H x y v u Q I rx ry h
 obtain ⟨p,xs,rfl,hq,fx,fs,q⟩:=h
 cases ry
 rcases hq with hq | hq
 .obtain ⟨its,r,pl,hz⟩:=I.list hq
  refine SeqAt.in_listAt (eqU x) pl.isList (fun w hw=>eP rx fx r fs w (by simpa using hw)) ⟨.bl _,H,I,rfl,?_⟩
  rw [show its.toArray.any (eqU x)=its.any (eqU x) by simp,gg r fs]
  exact q
 .obtain ⟨its,r,pl,hz⟩:=I.tuple hq
  refine SeqAt.in_tupleAt (eqU x) pl (fun w hw=>eP rx fx r fs w (by simpa using hw)) ⟨.bl _,H,I,rfl,?_⟩
  rw [show its.toArray.any (eqU x)=its.any (eqU x) by simp,gg r fs]
  exact q
theorem iT:OpR X (compareOp .NotIn) (rIn X.K true):=by
 intro pins s σ H x y v u Q I rx ry h
 obtain ⟨p,xs,rfl,hq,fx,fs,q⟩:=h
 cases ry
 rcases hq with hq | hq
 .obtain ⟨its,r,pl,hz⟩:=I.list hq
  refine SeqAt.notIn_listAt (eqU x) pl.isList (fun w hw=>eP rx fx r fs w (by simpa using hw)) ⟨.bl _,H,I,rfl,?_⟩
  rw [show its.toArray.any (eqU x)=its.any (eqU x) by simp,gg r fs]
  exact q
 .obtain ⟨its,r,pl,hz⟩:=I.tuple hq
  refine SeqAt.notIn_tupleAt (eqU x) pl (fun w hw=>eP rx fx r fs w (by simpa using hw)) ⟨.bl _,H,I,rfl,?_⟩
  rw [show its.toArray.any (eqU x)=its.any (eqU x) by simp,gg r fs]
  exact q
theorem fE:ci X (.builtin "len") (fun xs H Q=>∃p ys,xs=[.ref p]/\(SqL X.K H p ys\/SqT X.K H p ys)/\Q (.int ys.length) H):=by
 intro pins s σ H xs us Q I r h
 obtain ⟨p,ys,rfl,hq,q⟩:=h
 obtain ⟨u,rfl,rx⟩:=jB r
 cases rx
 have hn:=iN
 rcases hq with hq | hq
 .obtain ⟨its,r',pl,hz⟩:=I.list hq
  have hlen:=r'.length
  exact Calls.call_len_list pl.isList (by simp only [List.size_toArray] <;> omega) ⟨.int ys.length,H,I.tok _,⟨s.toks + 1,by rw [List.size_toArray,hlen]⟩,q⟩
 .obtain ⟨its,r',pl,hz⟩:=I.tuple hq
  have hlen:=r'.length
  exact len_tuple pl (by simp only [List.size_toArray] <;> omega) ⟨.int ys.length,H,I.tok _,⟨s.toks + 1,by rw [List.size_toArray,hlen]⟩,q⟩
theorem iU:ci X (.builtin "len") (fun xs H Q=>∃z,xs=[.str z]/\z.length<=sizeLine/\Q (.int z.length) H):=by
 intro pins s σ H xs us Q I r h
 obtain ⟨z,rfl,hz,q⟩:=h
 obtain ⟨u,rfl,t,rfl⟩:=jB r
 have hn:=iN
 exact len_str (by omega) ⟨.int z.length,H,I.tok _,⟨_,rfl⟩,q⟩
theorem ci.or {f:Value}{r r':List V->Hp->VK->Prop} (h:ci X f r) (h':ci X f r'):ci X f (fun xs H Q=>r xs H Q\/r' xs H Q):=by
 intro pins s σ H xs us Q I rs q
 rcases q with q | q
 .exact h pins s σ H xs us Q I rs q
 .exact h' pins s σ H xs us Q I rs q
theorem iV:ci X (.type "list") (fun xs H Q=>∃p ys,xs=[.ref p]/\(SqL X.K H p ys\/SqT X.K H p ys)/\∀l,H l=none->Q (.ref l) (upd H l (.lst ys))):=by
 intro pins s σ H xs us Q I r h
 obtain ⟨p,ys,rfl,hq,q⟩:=h
 obtain ⟨u,rfl,rx⟩:=jB r
 cases rx
 have fin:∀(its:List Value),br ys its->ys.length<=sizeLine->∀(h':Heap) (c':Nat),(∀b o',s.heap.get? b=some o'->h'.get? b=some o') ->
   h'.get? s.heap.objs.size=some { cls:=.type "list",dict:=none,data:=.seq its.toArray c',slots:=#[] }->EP X pins σ Q (.ref s.heap.objs.size) { s with heap:=h' }:=fun its r' hz h' c' kp e =>
  ⟨.ref s.heap.objs.size,_,I.laid (t':=s.toks) kp (Nat.le_refl _) (show bJ X.prog X.w _ h' _ (.lst ys) from ⟨hz,its,c',r',e⟩),rfl,q _ (I.hok.fresh (Nat.le_refl _))⟩
 rcases hq with hq | hq
 .obtain ⟨its,r',pl,hz⟩:=I.list hq
  have hlen:=r'.length
  obtain ⟨o,ho,hc,n,hd⟩:=pl.isList
  exact call_list_seq p (.inl rfl) ho hc hd (fun h' c' kp e=>fin its r' hz h' c' kp e) (by simp only [List.size_toArray] <;> omega)
 .obtain ⟨its,r',pl,hz⟩:=I.tuple hq
  have hlen:=r'.length
  obtain ⟨o,ho,hc,n,hd⟩:=pl
  exact call_list_seq p (.inr rfl) ho hc hd (fun h' c' kp e=>fin its r' hz h' c' kp e) (by simp only [List.size_toArray] <;> omega)
theorem ii:ci X (.type "tuple") (fun xs H Q=>∃p ys,xs=[.ref p]/\((SqL X.K H p ys/\∀l,H l=none->Q (.ref l) (upd H l (.tup ys)))\/(SqT X.K H p ys/\Q (.ref p) H))):=by
 intro pins s σ H xs us Q I r h
 obtain ⟨p,ys,rfl,h⟩:=h
 obtain ⟨u,rfl,rx⟩:=jB r
 cases rx
 rcases h with ⟨hq,q⟩ | ⟨hq,q⟩
 .obtain ⟨its,r',pl,hz⟩:=I.list hq
  have hlen:=r'.length
  refine call_tuple_list pl.isList (fun h' kp=>?_) (by simp only [List.size_toArray] <;> omega)
  have I1:Inv X pins σ H { s with heap:=h' }:=I.kept (t':=s.toks) kp
  have I2:Inv X pins σ (upd H h'.objs.size (.tup ys)) { s with heap:=h'.push { cls:=.type "tuple",data:=.seq its.toArray } } :=
   I1.laid (t':=s.toks) (fun b o e=>Heap.get?_push_of_some _ e) (Nat.le_refl _) (show bJ X.prog X.w _ _ _ (.tup ys) from ⟨hz,its,r',IsTup.new _ _⟩)
  exact ⟨.ref h'.objs.size,_,I2,rfl,q _ (I1.hok.fresh (Nat.le_refl _))⟩
 .obtain ⟨its,r',pl,hz⟩:=I.tuple hq
  exact call_tuple_same pl ⟨.ref p,H,I,rfl,q⟩
def tyV (K:PySem.W.Frag) (T:String) (x:V) (H:Hp):Prop:=match x with
 | .str _=>T="str"
 | .int _=>T="int"
 | .ref p=>(T="list"/\∃xs,SqL K H p xs)\/(T="tuple"/\∃o,K.lookup p=some o/\o.cls=.type "tuple"/\o.dict=none) \/
   (T="dict"/\((∃kvs,H p=some (.dK kvs))\/∃kvs,H p=some (.dT kvs)))\/(T="set"/\∃S n,H p=some (.set S n))
 | _=>False
theorem oC {pins:List (Addr×Obj)}{σ:St}{H:Hp}{s:Shared}{T:String}{x:V}{v:Value} (I:Inv X pins σ H s) (r:bP x v) (ty:tyV X.K T x H) :
  s.TypeIs v T/\∀a,v=.ref a->∃ob,s.heap.get? a=some ob/\ob.dict=none:=by
 cases x with
 | str z =>
  obtain ⟨t,rfl⟩:=r
  cases (show T="str" from ty)
  exact ⟨typeIs_str s z t,fun _ e=>nomatch e⟩
 | int i =>
  obtain ⟨t,rfl⟩:=r
  cases (show T="int" from ty)
  exact ⟨typeIs_int s i t,fun _ e=>nomatch e⟩
 | ref p =>
  cases r
  rcases ty with ⟨rfl,xs,hq⟩ | ⟨rfl,o,hk,hc,hd⟩ | ⟨rfl,hk⟩ | ⟨rfl,S,n,hk⟩
  .obtain ⟨its,_,pl,_⟩:=I.list hq
   refine ⟨pl.isList.typeIs,fun a e=>?_⟩
   cases e
   obtain ⟨o,n,e,c,hd,_⟩:=pl
   exact ⟨o,e,hd⟩
  .refine ⟨⟨o,I.kIn p o hk,hc⟩,fun a e=>?_⟩
   cases e
   exact ⟨o,I.kIn _ o hk,hd⟩
  .have z:∃o,s.heap.get? p=some o/\o.ExactDict:=by
    rcases hk with ⟨kvs,hk⟩ | ⟨kvs,hk⟩
    .obtain ⟨_,_,_,_,o,_,_,e,ex,_⟩:=I.hok p _ hk
     exact ⟨o,e,ex⟩
    .obtain ⟨_,_,_,_,o,_,_,e,ex,_⟩:=I.hok p _ hk
     exact ⟨o,e,ex⟩
   obtain ⟨o,e,ex⟩:=z
   refine ⟨⟨o,e,ex.1⟩,fun a e2=>?_⟩
   cases e2
   exact ⟨o,e,ex.2.1⟩
  .obtain ⟨o,_,_,_,e,ex,_⟩:=I.hok p _ hk
   refine ⟨⟨o,e,ex.1⟩,fun a e2=>?_⟩
   cases e2
   exact ⟨o,e,ex.2.1⟩
 | _=>exact False.elim ty
def vd (K:PySem.W.Frag) (T:String) (r:V->List V->Hp->VK->Prop) (to:TE):TE:=fun σ H Q=>to σ H fun x H1=>tyV K T x H1/\r x [] H1 Q
def tBM (K:PySem.W.Frag) (T:String) (r:V->List V->Hp->VK->Prop) (to:TE) (t:TA):TE:=fun σ H Q=>to σ H fun x H1=>tyV K T x H1/\t σ H1 fun xs H2=>r x xs H2 Q
variable {o e:Expr}{es:List Expr}{to:TE}{t:TA}{name:Str}{apos cpos:Pos}{T id:String}{r:V->List V->Hp->VK->Prop}
theorem rS (pa:PlainAttrs T) (slot:Slot T name id) (hty:typeOf (.builtin id)=pure (.type "method_descriptor")) (hm:MtR X id r) (ho:PE X o to)
  (hbase:attributeBase o name X.env (eval o X.env)=eval o X.env:=by rfl) (hline:(apos.endLine == cpos.line)=true:=by rfl):PE X (.Call (.Attribute o name apos) [] [] cpos) (vd X.K T r to):=by
 intro pins s σ H Q I h
 refine wpAny_Call_method0_late hbase hline (thn (ho pins s σ H _ I h) fun v s1 ⟨x,H1,I1,r1,ty,q1⟩=>?_)
 obtain ⟨h1,h2⟩:=oC I1 r1 ty
 exact ⟨T,id,pa,slot,hty,h1,h2,Calls.callWith_builtin rfl (PySem.evalArgs_none (hm pins s1 σ H1 x [] v [] Q I1 r1 .nil q1))⟩
theorem uc (pa:PlainAttrs T) (slot:Slot T name id) (hty:typeOf (.builtin id)=pure (.type "method_descriptor")) (hm:MtR X id r) (ho:PE X o to) (ha:PA X (e::es) t)
  (hbase:attributeBase o name X.env (eval o X.env)=eval o X.env:=by rfl)
  (hfew:((backTo cpos (starEach (e::es) X.env)).all (fun x=>!x.1) && (backToKw cpos (keywordEach [] X.env)).all (fun x=>x.1.isSome)
   && decide ((e::es).length + ([]:List Keyword).length + (if ([]:List Keyword).isEmpty then 0 else 1) < 30))=true:=by rfl)
  (hline:(apos.endLine == cpos.line)=true:=by rfl) (hs:starEach (e::es) X.env=(false,eval e X.env)::starEach es X.env:=by rfl) (hplain:(backTo cpos (starEach es X.env)).any (·.1)=false:=by rfl) :
  PE X (.Call (.Attribute o name apos) (e::es) [] cpos) (tBM X.K T r to t):=by
 intro pins s σ H Q I h
 refine wpAny_Call_method_late hbase hfew hline rfl (thn (ho pins s σ H _ I h) fun v s1 ⟨x,H1,I1,r1,ty,q1⟩=>?_)
 obtain ⟨h1,h2⟩:=oC I1 r1 ty
 refine ⟨T,id,pa,slot,hty,h1,h2,?_⟩
 have hA:=ha cpos pins s1 σ H1 _ I1 q1
 rw [hs] at hA ⊢
 refine Calls.callWith_builtin (by show (false || (backTo cpos (starEach es X.env)).any (·.1))=false;rw [hplain] <;> rfl) (Calls.evalArgs_plain ?_)
 exact thn hA fun us s2 ⟨vs,H2,I2,r2,q2⟩=>hm pins s2 σ H2 x vs v us Q I2 r1 r2 q2
end
def MtM (X:Cx) (id:String) (r:V->List V->Hp->VK->Prop):Prop :=
 ∀(pins:List (Addr×Obj)) (s:Shared) (σ:St) (H:Hp) (x:V) (xs:List V) (v:Value) (us:List Value) (Q:VK),Inv X pins σ H s->bP x v->br xs us->r x xs H Q ->
  wpAny (model X.prog X.w) X.A (call (.builtin id) (v::us)) (EP X pins σ Q) X.xe s
theorem br.one:∀{x:V}{us:List Value},br [x] us->∃u,us=[u]/\bP x u
 | _,_,.cons r .nil=>⟨_,rfl,r⟩
theorem br.zero:∀{us:List Value},br [] us->us=[]
 | _,.nil=>rfl
theorem br.dropLast {xs:List V}{us:List Value} (h:br xs us):br xs.dropLast us.dropLast:=by
 induction h with
 | nil=>exact .nil
 | cons r t ih =>
  cases t with
  | nil=>exact .nil
  | cons q t'=>exact .cons r ih
theorem br.reverse {xs:List V}{us:List Value} (h:br xs us):br xs.reverse us.reverse:=by
 induction h with
 | nil=>exact .nil
 | cons r t ih=>rw [List.reverse_cons,List.reverse_cons];exact br.append ih (.cons r .nil)
theorem br.rep {xs:List V}{us:List Value} (h:br xs us):∀k:Nat,br (List.replicate k xs).flatten (List.replicate k us).flatten
 | 0=>.nil
 | k + 1=>by
  rw [List.replicate_succ,List.replicate_succ,List.flatten_cons,List.flatten_cons]
  exact br.append h (br.rep h k)
theorem kO {α:Type} (l:List α):l.eraseIdx (l.length - 1)=l.dropLast:=by
 induction l with
 | nil=>rfl
 | cons a r ih =>
  cases r with
  | nil=>rfl
  | cons b r =>
   have e:(a::b::r).length - 1=((b::r).length - 1) + 1:=by
    have h1:(a::b::r).length=r.length + 2:=rfl
    have h2:(b::r).length=r.length + 1:=rfl
    omega
   rw [e,List.eraseIdx_cons_succ,ih]
   all_goals rfl
theorem iW (its:List Value):∀(k:Nat) (acc:List Value),
  List.foldl (fun x1 x2=>x1++x2) acc.toArray (List.replicate k its.toArray)=(acc++(List.replicate k its).flatten).toArray
 | 0,acc=>by simp
 | k + 1,acc=>by
  have e:acc.toArray++its.toArray=(acc++its).toArray:=by simp
  have e2:(acc++its)++(List.replicate k its).flatten=acc++(List.replicate (k + 1) its).flatten:=by
   rw [List.replicate_succ,List.flatten_cons,List.append_assoc]
  rw [<- e2,<- iW its k (acc++its),<- e,List.replicate_succ,List.foldl_cons]
section
variable {X:Cx}{pins:List (Addr×Obj)}{σ:St}{H:Hp}{s:Shared}{l b:Addr}{xs ys zs:List V}
theorem Inv.lset {its its':List Value}{n:Nat}{f:Array Value->Array Value}{t':Nat} (I:Inv X pins σ H s) (hH:H l=some (.lst xs))
  (e:s.heap.get? l=some { cls:=.type "list",data:=.seq its.toArray n }) (hf:f its.toArray=its'.toArray) (hv:br ys its') (hz:ys.length<=sizeLine) :
  Inv X pins σ (upd H l (.lst ys)) { s with heap:=s.heap.update l (Obj.mapSeq f),toks:=t' }:=by
 have q:=PySem.IsL.update e f
 rw [hf] at q
 refine I.write (x:=l) (e:=l) (by rw [hH];exact trivial) (.inl rfl) (fun b' u hb hu=>(Heap.get?_update_other s.heap (Obj.mapSeq f) (Ne.symm hb)).trans hu) ⟨_,q⟩ ?_
 exact ⟨hz,its',_,hv,q⟩
theorem Inv.lnew {its:List Value}{t':Nat} (I:Inv X pins σ H s) (hv:br ys its) (hz:ys.length<=sizeLine) :
  Inv X pins σ (upd H s.heap.objs.size (.lst ys)) { s with heap:=s.heap.push { cls:=.type "list",data:=.seq its.toArray },toks:=t' } :=
 I.laid (fun _ _ q=>Heap.get?_push_of_some _ q) (Nat.le_refl _) ⟨hz,its,0,hv,Heap.get?_push_size _ rfl⟩
theorem Inv.fresh (I:Inv X pins σ H s):H s.heap.objs.size=none:=I.hok.fresh (Nat.le_refl _)
theorem Inv.lstM (I:Inv X pins σ H s) (hH:H l=some (.lst xs)):xs.length<=sizeLine/\∃(its:List Value) (n:Nat),br xs its/\xs.length=its.length/\s.heap.get? l=some { cls:=.type "list",data:=.seq its.toArray n }:=by
 obtain ⟨z,its,n,r,e⟩:=I.hok l _ hH
 exact ⟨z,its,n,r,r.length,e⟩
theorem nC {n:Nat} (h:n<=sizeLine):Builtin.List.listTooLong n=false:=by
 unfold Builtin.List.listTooLong
 exact decide_eq_false (by omega)
end
section
variable {X:Cx}
def lL:V->List V->Hp->VK->Prop:=fun x vs H Q=>∃l xs y,x=.ref l/\vs=[y]/\H l=some (.lst xs)/\xs.length < sizeLine/\Q .non (upd H l (.lst (xs++[y])))
theorem cW:MtM X "list.append" lL:=by
 intro pins s σ H x vs v us Q I rx rv h
 obtain ⟨l,xs,y,rfl,rfl,hH,hz,q⟩:=h
 cases rx
 obtain ⟨u,rfl,ru⟩:=rv.one
 obtain ⟨z,its,n,r,hl,e⟩:=I.lstM hH
 refine call_meets F.slot_list_append ⟨_,e,rfl⟩ F.entry_list_append (F.args_list_append_2 _ _) (PySem.list_append l its.toArray n u (by rw [List.size_toArray];omega)) ⟨e,?_⟩
 refine ⟨.non,_,I.lset (its':=its++[u]) hH e (by simp) (r.append (.cons ru .nil)) ?_,rfl,q⟩
 rw [List.length_append,List.length_singleton]
 omega
def ve:V->List V->Hp->VK->Prop:=fun x vs H Q=>∃l xs y,x=.ref l/\vs=[]/\H l=some (.lst xs)/\xs[xs.length - 1]?=some y/\Q y (upd H l (.lst xs.dropLast))
theorem rT:MtM X "list.pop" ve:=by
 intro pins s σ H x vs v us Q I rx rv h
 obtain ⟨l,xs,y,rfl,rfl,hH,hy,q⟩:=h
 cases rx
 have hus:=rv.zero
 subst hus
 obtain ⟨z,its,n,r,hl,e⟩:=I.lstM hH
 obtain ⟨u,hu,ru⟩:=r.get hy
 have hy':its.toArray[its.toArray.size - 1]?=some u:=by
  show its.toArray[its.length - 1]?=some u
  rw [<- Array.getElem?_toList,<- hl]
  exact hu
 refine call_meets F.slot_list_pop ⟨_,e,rfl⟩ F.entry_list_pop (F.args_list_pop_1 _) (MeetsSeq.list_pop_last l its.toArray n u hy' (by rw [List.size_toArray];omega)) ⟨e,?_⟩
 refine ⟨y,_,I.lset (its':=its.dropLast) hH e ?_ r.dropLast ?_,ru,q⟩
 .show its.toArray.eraseIdxIfInBounds (its.toArray.size - 1)=its.dropLast.toArray
  rw [List.size_toArray,List.eraseIdxIfInBounds_toArray,kO]
 .rw [List.length_dropLast]
  omega
def vf:R2:=fun x y H Q=>∃l k xs,x=.ref l/\y=.int k/\H l=some (.lst xs)/\-(2 ^ 63)<=k/\k < 2 ^ 63/\xs.length * k.toNat<=sizeLine /\
 ∀p,H p=none->Q (.ref p) (upd H p (.lst (List.replicate k.toNat xs).flatten))
theorem pR {α:Type} (xs:List α) (k:Nat):(List.replicate k xs).flatten.length=k * xs.length:=by
 induction k with
 | zero=>simp
 | succ k ih=>rw [List.replicate_succ,List.flatten_cons,List.length_append,ih,Nat.succ_mul,Nat.add_comm]
theorem rV:OpR X (binaryOp .Mult) vf:=by
 intro pins s σ H x y v u Q I rx ry h
 obtain ⟨l,k,xs,rfl,rfl,hH,h1,h2,hz,q⟩:=h
 cases rx
 obtain ⟨t,rfl⟩:=ry
 obtain ⟨z,its,n,r,hl,e⟩:=I.lstM hH
 have hlen:its.toArray.size * k.toNat<=sizeLine:=by rw [List.size_toArray,<- hl];exact hz
 have hcap:¬ its.toArray.size * k.toNat > (2 ^ 63 - 1) / 8:=by
  have:(sizeLine:Nat)<=(2 ^ 63 - 1) / 8:=by decide
  omega
 have hfit:¬ (!Builtin.List.listFitsIndex k)=true:=by
  rw [fitsIndex_both h1 h2]
  exact Bool.false_ne_true
 have hlong:¬ Builtin.List.listTooLong (its.toArray.size * k.toNat)=true:=by
  rw [nC hlen]
  exact Bool.false_ne_true
 have hnew:List.foldl (fun x1 x2=>x1++x2) #[] (List.replicate (if its.toArray.isEmpty=true then 0 else k.toNat) its.toArray)=(List.replicate k.toNat its).flatten.toArray:=by
  have f0:∀m:Nat,List.foldl (fun x1 x2=>x1++x2) #[] (List.replicate m its.toArray)=(List.replicate m its).flatten.toArray:=fun m=>by
   have:=iW its m []
   rw [List.nil_append] at this
   exact this
  rw [f0]
  cases its with
  | nil=>simp
  | cons a r'=>rw [if_neg (by simp)]
 refine wpAny_binaryOp_repeat_ref (T:="list") (U:="int") (by decide) ⟨_,e,rfl⟩ (fun s'=>typeIs_int s' k t) noFill_list_mul F.fills_int_mul F.slot_int_rmul repeat_list F.slot_int_index.lookup
  (call_meets F.slot_int_rmul (typeIs_int s k t) F.entry_int_rmul (F.args_int_rmul_2 _ _) (int___rmul___int_list k t l its.toArray n)
   ⟨e,rfl,⟨_,e,rfl⟩,call_meets F.slot_list_mul ⟨_,e,rfl⟩ F.entry_list_mul (F.args_list_mul_2 _ _) (AutoListH.list___mul___list_int_3 l its.toArray n k t hfit hcap hlong) ⟨e,?_⟩⟩)
 rw [hnew]
 exact ⟨.ref _,_,I.lnew (t':=s.toks) (r.rep k.toNat) (by rw [pR,Nat.mul_comm];exact hz),rfl,q _ I.fresh⟩
end
end L2
namespace Att
open PySem PySem.W PySem.Calls PyProof.Rows
theorem gh {P:Params}{h:Heap}:∀(ns:List Int) (vs:List Value),WellAll P h vs (ns.map WData.int)->IntsAre vs ns:=by
 intro ns
 induction ns with
 | nil =>
  intro vs w
  rw [List.map_nil] at w
  cases w
  exact .nil
 | cons n ns ih =>
  intro vs w
  rw [List.map_cons] at w
  cases w with
  | cons a b =>
   cases a
   exact .cons _ _ (ih _ b)
theorem lM {l:OpenLaw}{n:Nat} (hn:l.most=some n) {P:Params}{h:Heap}{args:List WData}{vals:List Value}
  (hpre:l.row.toRowW.claim.pre args=true) (hwl:WellAll P h vals args) :
  ∃a vs ns,vals=[Value.ref a]/\args=[WData.list (ns.map WData.int)]/\h.get? a=some { cls:=.type "list",data:=.seq vs.toArray }/\IntsAre vs ns/\ns.length<=n:=by
 have hsh:WShape.hasAll [] args [.list .int]=true:=(pre_splitW hpre).1
 have hc:l.pre.holds [] { args:=args }=true:=(pre_splitW hpre).2
 obtain ⟨d,r,rfl,h1,h2⟩:=hasAllW_cons hsh
 obtain rfl:=hasAllW_nil h2
 obtain ⟨xs,rfl,h3⟩:=hasW_list h1
 obtain ⟨ns,rfl⟩:=items_int h3
 have hlen:ns.length<=n:=by
  unfold OpenLaw.pre at hc
  have h4:(WTm.not (.lt (.lit (.int (n:Int))) (.len (.arg 0)))).holds [] { args:=[.list (ns.map .int)] }=true:=by
   have h4:=(holds_andW hc).1
   rw [hn] at h4
   exact h4
  have h5:=condW_of h4 (w_not (w_lt w_lit (w_len_list (w_arg rfl))))
  rw [List.length_map] at h5
  refine Nat.le_of_not_lt fun q=>?_
  have q':(n:Int) < ((ns.length:Nat):Int):=by omega
  first
   | (rw [decide_eq_true q'] at h5;exact absurd h5 (by decide))
   | (simp at h5;omega)
 cases hwl with
 | cons w1 w2 =>
  cases w2
  cases w1 with
  | list ho hall=>exact ⟨_,_,ns,rfl,rfl,ho,gh ns _ hall,hlen⟩
theorem lN (l:OpenLaw) (args:List WData):l.row.toRowW.claim.post args (.bool true) args=true :=
 postW_of (r:=l.row.toRowW) (X:=(true == true))
  (show WShape.has [] (.bool true) .bool=true by first | rfl | decide | simp [WShape.has,WShape.arms,WShape.armsAll])
  (show (WTm.eq .res (.lit (.bool true))).value [] { args:=args,res:=some (.bool true),after:=args }=some (.bool (true == true)) from w_eq_bool (w_res rfl) w_lit) rfl
theorem attach_call {l:OpenLaw}{n:Nat}{q:Program}{loose:List Str}{XP:(Str->Option Value)->Heap->Prop}{YP:World->Heap->Prop}{d:DefRec}
  (hn:l.most=some n) (hdf:d.params.defaults=[])
  (call:∀(w:World) (s₀ s₁:Shared) (mg mb:Str->Option Value) (fa:Addr) (o:Obj) (pm cd doc:Value) (a:Addr) (vs:List Value) (ns:List Int),
   Ground q loose [] XP w s₀ mg mb s₁.heap->YP w s₁.heap ->
   s₁.heap.get? fa=some o->o.data=.func (docDef d.name d.params d.body d.scope pm cd doc)->s₁.heap.CodeRec cd d.name->mg d.name=some (.ref fa) ->
   s₁.heap.get? a=some { cls:=.type "list",data:=.seq vs.toArray }->IntsAre vs ns->ns.length<=n->s₁.gens=#[] ->
   codeAny (model l.prog w) callerA (.call (.ref fa) ⟨[.ref a],[]⟩) (fun r s'=>r=.ok (.ret (.bool true))/\OldK s₁.heap s'.heap/\s'.os=s₁.os/\AllBare s'.gens) s₁) :
  WalkO q loose XP YP l.row.toRowW d [] (fun f vs=>PySem.call f vs):=by
 intro w s₀ s₁ mg mb G Y fa o pm cd doc dV kV ho hd hcd hD hmg hg args vals as hpre hlay hrd hwl hlo
 obtain rfl:dV=.none:=Dflts.none hD hdf
 obtain rfl:kV=.none:=Dflts.noKw hD
 obtain ⟨a,vs,ns,rfl,rfl,hobj,hints,hlen⟩:=lM hn hpre hwl
 refine enter_call (codeAny_mono (call w s₀ s₁ mg mb fa o pm cd doc a vs ns G Y ho (fd_plain hd) hcd hmg hobj hints hlen hg) fun r s' hq=>?_)
 obtain ⟨rfl,h2,h3,h4⟩:=hq
 exact ⟨.inl ⟨.bool true,.bool true,[],rfl,fun _=>rfl,.bool true,lN l _,fun _=>⟨List.Pairwise.nil,fun _ hm=>(nomatch hm)⟩⟩,h2,h3,h4⟩
end Att
namespace L2
open PySem PySem.Spec PyProof.Rows
theorem iX:∀{vs:List Value}{ns:List Int},IntsAre vs ns->br (ns.map V.int) vs
 | _,_,.nil=>.nil
 | _,_,.cons n t h=>.cons ⟨t,rfl⟩ (iX h)
def ud (H:Hp):Prop:=∀b,H b=none\/∃o xs,H b=some (.frz o (.lst xs))
theorem nE {P:Program}{w:World}{K:PySem.W.Frag}{mg mb:Str->Option Value}{CX:CXT}{k:Nat}{fa a:Addr}{fd:FuncData}{x:Str}{sp:Sp}{s₁:Shared}{vs:List Value}{ns:List Int}
  (KX:K.In s₁.heap) (hns:s₁.heap.Ns mainGlobals mg) (hb:s₁.heap.Ns builtinsNs mb) (hbb:∀x:Str,x≠"__name__"->mb x=bootBuiltins x) (hlim:s₁.heap.NoLimit) (hg:s₁.gens=#[])
  (ha:s₁.heap.get? a=some { cls:=.type "list",data:=.seq vs.toArray }) (hi:IntsAre vs ns) (hl:ns.length<=sizeLine) (hr:dX k callerA)
  (F:∀base:Heap,K.In base->base.Ns mainGlobals mg->ie P w K mg base CX k fa fd [x] sp) (hbind:∀(s:Shared) (u:Value),BindsTo s fd ⟨[u],[]⟩ [(x,u)])
  (hsp:∀H:Hp,ud H->SqL K H a (ns.map V.int)->sp [.ref a] H (fun v _=>v=.bl true) fun _ _ _=>False)
  (hCX:∀H e s',CX [] H s₁ (fun _ _ _=>False) e s'->False) :
  codeAny (model P w) callerA (.call (.ref fa) ⟨[.ref a],[]⟩) (fun r s'=>r=.ok (.ret (.bool true))/\OldK s₁.heap s'.heap/\s'.os=s₁.os/\AllBare s'.gens) s₁:=by
 have rv:=iX hi
 have lenV:=hi.length
 -- from an abstract heap in which nothing but the script may be tracked
 have core:∀H:Hp,ud H->SqL K H a (ns.map V.int)->HOk P w H s₁.heap->(∀b,H b≠none->b=a)->(H a≠none->K.lookup a=none) ->
   codeAny (model P w) callerA (.call (.ref fa) ⟨[.ref a],[]⟩) (fun r s'=>r=.ok (.ret (.bool true))/\OldK s₁.heap s'.heap/\s'.os=s₁.os/\AllBare s'.gens) s₁:=by
  intro H hO hS hok hA hK
  have base_of:∀{b:Addr}{o:Obj},s₁.heap.get? b=some o->H b=none->(ni s₁.heap H).get? b=some o:=fun e n=>nj e n
  have noA:∀{b:Addr}{o:Obj}{es:Array DictEntry}{ep:Nat},s₁.heap.get? b=some o->o.data=.dict es ep->H b=none:=fun {b o es ep} e d=>by
   cases q:H b with
   | none=>rfl
   | some u =>
    have e':b=a:=hA b (by rw [q];simp)
    subst e'
    rw [ha] at e;cases e
    have d':Data.seq vs.toArray _=Data.dict es ep:=d
    cases d'
  have nsK:∀{b:Addr}{m:Str->Option Value},s₁.heap.Ns b m->(ni s₁.heap H).Ns b m:=fun {b m} ⟨o,es,ep,e,d,r⟩=>⟨o,es,ep,base_of e (noA e d),d,r⟩
  have hKb:K.In (ni s₁.heap H):=fun b o e=>base_of (KX b o e) (by
   cases q:H b with
   | none=>rfl
   | some u =>
    have e':b=a:=hA b (by rw [q];simp)
    subst e'
    rw [hK (by rw [q];simp)] at e;cases e)
  have hM:Mod K mg (ni s₁.heap H):=⟨hKb,nsK hns,⟨mb,nsK hb,hbb⟩,let ⟨mc,h1,h2⟩:=hlim;⟨mc,nsK h1,h2⟩⟩
  have e0:pE P w K mg (ni s₁.heap H) callerA [] s₁ H:=⟨rfl,hM,fun b o e=>oY e,Nat.le_of_eq (li _ _),trivial,fun b hb=>absurd (show b∈([]:List Addr) from hb) (by simp),hok,.of_eq hg⟩
  refine codeAny_mono ((F _ hKb (nsK hns)).run callerA [] s₁ H ⟨[.ref a],[]⟩ [.ref a] [.ref a] _ _ hr e0 (hbind s₁ (.ref a)) (.cons rfl .nil) (hsp H hO hS)) fun r s' h=>?_
  cases r with
  | error e=>exact (hCX H e s' h).elim
  | ok fl =>
   cases fl with
   | next=>exact False.elim h
   | brk=>exact False.elim h
   | cont=>exact False.elim h
   | ret u =>
    obtain ⟨v,H',os,bare,un,hok',r',q⟩:=h
    have q':v=.bl true:=q
    subst q'
    obtain rfl:u=Value.bool true:=r'
    refine ⟨rfl,OldK.of_keep fun b o e=>?_,os,bare⟩
    cases q:H b with
    | none=>exact un.keep b o e q (by intro z;exact absurd (show b∈([]:List Addr) from z) (by simp)) (by simp)
    | some u =>
     rcases hO b with z | ⟨ob,xs,z⟩
     .rw [q] at z;cases z
     .have z2:=un.frzs b ob _ z
      obtain ⟨e1,_⟩:=hok b _ z
      obtain ⟨e2,_⟩:=hok' b _ z2
      rw [e] at e1;cases e1
      exact e2
 cases hk:K.lookup a with
 | some o =>
  -- the script is one of the module's own objects
  have e:=KX a o hk
  rw [ha] at e
  cases e
  refine core (fun _=>none) (fun _=>.inl rfl) (.inr ⟨_,vs.toArray,_,hk,rfl,rfl,rfl,by rw [List.size_toArray,lenV];exact hl,by simpa using rv⟩) (fun b u z=>by have z':(none:Option HO)=some u:=z;cases z') (fun b z=>absurd rfl z) fun z=>absurd rfl z
 | none =>
  refine core (fun b=>if b=a then some (.frz { cls:=.type "list",data:=.seq vs.toArray } (.lst (ns.map V.int))) else none) (fun b=>?_) (.inl (.inr ⟨{ cls:=.type "list",data:=.seq vs.toArray },if_pos rfl⟩)) (fun b u z=>?_) (fun b z=>?_) fun _=>hk
  .by_cases hb:b=a
   .exact .inr ⟨_,_,if_pos hb⟩
   .exact .inl (if_neg hb)
  .by_cases hb:b=a
   .have z':=(if_pos hb).symm.trans z
    cases z'
    subst hb
    exact ⟨ha,by rw [List.length_map];exact hl,vs,_,rv,ha⟩
   .have z':=(if_neg hb).symm.trans z
    cases z'
  .by_cases hb:b=a
   .exact hb
   .exact absurd (if_neg hb) z
theorem pS {l:PySem.W.OpenLaw}{n k:Nat}{q:Program}{loose:List Str}{XP:(Str->Option Value)->Heap->Prop}{YP:World->Heap->Prop}{d:DefRec}{K:Params->PySem.W.Frag}{CX:World->CXT}{sp:World->Sp}{x:Str}
  (hn:l.most=some n) (hn2:n<=sizeLine) (hdf:d.params.defaults=[]) (hr:dX k callerA)
  (hY:∀(w:World) (h:Heap),YP w h->(K w.params).In h)
  (F:∀(w:World) (mg:Str->Option Value) (fa:Addr) (h:Heap),(K w.params).In h->h.Ns mainGlobals mg->mg d.name=some (.ref fa) ->
   ∃fd:FuncData,(∀(s:Shared) (u:Value),BindsTo s fd ⟨[u],[]⟩ [(x,u)]) /\
    ∀base:Heap,(K w.params).In base->base.Ns mainGlobals mg->ie l.prog w (K w.params) mg base (CX w) k fa fd [x] (sp w))
  (hsp:∀(w:World) (H:Hp) (a:Addr) (ns:List Int),ns.length<=n->ud H->SqL (K w.params) H a (ns.map V.int)->sp w [.ref a] H (fun v _=>v=.bl true) fun _ _ _=>False)
  (hCX:∀(w:World) (H:Hp) (s:Shared) (e:Value) (s':Shared),CX w [] H s (fun _ _ _=>False) e s'->False) :
  PySem.W.WalkO q loose XP YP l.row.toRowW d [] (fun f vs=>PySem.call f vs):=by
 refine Att.attach_call hn hdf fun w s₀ s₁ mg mb fa o pm cd doc a vs ns G Y ho hd hcd hmg hobj hints hlen hg=>?_
 have KX:=hY w _ Y
 obtain ⟨fd,hb,hF⟩:=F w mg fa _ KX G.T.g hmg
 exact nE KX G.T.g G.T.b G.T.builtins G.T.nolimit hg hobj hints (Nat.le_trans hlen hn2) hr hF hb (fun H hO hS=>hsp w H a ns hlen hO hS) fun H e s'=>hCX w H s₁ e s'
def ij (s:Stmt) (j:Nat):Stmt:=match s with
 | .ClassDef _ _ _ body _ _ _ _ _ _ _=>body.getD j (.Pass ⟨0,0,0,0⟩)
 | _=>.Pass ⟨0,0,0,0⟩
def bQ (s:Stmt):Arguments:=match s with
 | .FunctionDef _ a _ _ _ _ _ _ _ _=>a
 | _=>{ posonlyargs:=[],args:=[],vararg:=none,kwonlyargs:=[],kw_defaults:=[],kwarg:=none,defaults:=[] }
def bn (s:Stmt):List Stmt:=match s with
 | .FunctionDef _ _ b _ _ _ _ _ _ _=>b
 | _=>[]
def ap (s:Stmt):Scope:=match s with
 | .FunctionDef _ _ _ _ _ _ sc _ _ _=>sc
 | _=>{ kind:=.function,names:=[],isGenerator:=false,isCoroutine:=false }
abbrev CX0:CXT:=fun _ _ _ _ _ _=>False
abbrev E0:XK:=fun _ _ _=>False
theorem nF {X:Cx}:gd CX0 X E0:=fun _ _ _ _ _ _ _ h=>h.elim
structure Fun (K:PySem.W.Frag) (x qual:Str) (st:Stmt) (f:Addr) (fd:FuncData):Prop where
 ex:∃(oc:Value) (od:Option Addr) (kV doc pm:Value) (an:Option Addr) (cdv ct:Value) (osl:Array (Option Value)),
  fd=PySem.W.fnOf x qual (bQ st) (bn st) (ap st) .none kV doc pm an cdv ct/\K.lookup f=some ⟨oc,od,.func fd,osl⟩/\PySem.W.codeIn K cdv qual=true
 kp:PySem.W.keepIn K (.ref f)=true
section
variable {P:Program}{w:World}{K:PySem.W.Frag}{mg:Str->Option Value}{base:Heap}
theorem Fun.ok {x qual:Str}{st:Stmt}{f:Addr}{fd:FuncData}{N ps:List Str}{k:Nat}{sp:Sp} (F:Fun K x qual st f fd) (S:ba N ps (ap st)) (len:∀vs H Q E,sp vs H Q E->vs.length=ps.length)
  (hbody:∀(cdv:Value) (A:Around) (outer:List Env) (s:Shared) (H:Hp) (vs:List V) (Q:VK) (E:XK),dX k (A.deeper (envOfC qual (ap st) s.heap.objs.size f cdv))->sp vs H Q E ->
   ∃t,PSs (nz CX0 P w K mg base N qual (ap st) f cdv A outer s H E).nox (bn st) t/\t { nx:=fun _ H'=>Q .non H',rt:=Q } (start N vs) H):ie P w K mg base CX0 (k + 1) f fd ps sp:=by
 obtain ⟨oc,od,kV,doc,pm,an,cdv,ct,osl,rfl,lk,hcd⟩:=F.ex
 refine ub lk hcd S len fun A outer s H vs Q E hr hsp=>?_
 obtain ⟨t,h,q⟩:=hbody cdv A outer s H vs Q E hr hsp
 exact ⟨t,h.nox,q⟩
theorem Fun.binds {x qual:Str}{st:Stmt}{f:Addr}{fd:FuncData}{ps:List Str} (F:Fun K x qual st f fd)
  (h:∀(kV doc pm:Value) (an:Option Addr) (cdv ct:Value) (us:List Value),us.length=ps.length->bindArgs (PySem.W.fnOf x qual (bQ st) (bn st) (ap st) .none kV doc pm an cdv ct) ⟨us,[]⟩=pure (ps.zip us)):fS K fd ps []:=by
 obtain ⟨oc,od,kV,doc,pm,an,cdv,ct,osl,rfl,lk,hcd⟩:=F.ex
 exact .all (h kV doc pm an cdv ct)
theorem iY {x qual:Str}{st:Stmt}{f:Addr}{oc:Value}{od an:Option Addr}{osl:Array (Option Value)}{kV doc pm cdv ct:Value} (l:K.lookup f=some ⟨oc,od,.func (PySem.W.fnOf x qual (bQ st) (bn st) (ap st) .none kV doc pm an cdv ct),osl⟩)
  (c:PySem.W.codeIn K cdv qual=true) (k:PySem.W.keepIn K (.ref f)=true):Fun K x qual st f (PySem.W.fnOf x qual (bQ st) (bn st) (ap st) .none kV doc pm an cdv ct):=⟨⟨oc,od,kV,doc,pm,an,cdv,ct,osl,rfl,l,c⟩,k⟩
end
section
variable {X:Cx}
theorem pv (i:Nat) {x:Str}{pos:Pos} (hN:X.N[i]?=some x:=by rfl) (hv:Vis X.env.scope x:=by first | exact Or.inl rfl | exact Or.inr (Or.inl rfl) | exact Or.inr (Or.inr rfl)) (hd:(x == ("__debug__":Str))=false:=by decide)
  (hcd:(x == ("__classdict__":Str))=false:=by decide):PE X (.Name x pos) (gK i):=rh hN hv hd hcd
end
def S (l:List Nat):Str:=⟨l.toArray⟩
theorem eQ (l:List Nat):(S l).length=l.length:=by simp [S,Str.length]
theorem ue (a b:List Nat):S a++S b=S (a++b):=by
 show (⟨a.toArray++b.toArray⟩:Str)=⟨(a++b).toArray⟩
 rw [List.append_toArray]
theorem lO {a b:List Nat} (h:S a=S b):a=b:=by
 have h':=congrArg (fun x:Str=>x.cps.toList) h
 simpa [S] using h'
theorem vA {a b:List Nat} (h:a≠b):S a≠S b:=fun e=>h (lO e)
theorem rW {a b:List Nat}:V.str (S a)=V.str (S b) ↔ a=b:=⟨fun h=>lO (V.str.inj h),fun h=>by rw [h]⟩
theorem rX (a b:List Nat):decide (V.str (S a)=V.str (S b))=decide (a=b):=by
 by_cases h:a=b
 .rw [decide_eq_true h,decide_eq_true (rW.mpr h)]
 .rw [decide_eq_false h,decide_eq_false (fun z=>h (rW.mp z))]
def dL {α:Type} (xs:List α) (lo hi:Option Int):List α:=(xs.drop (HT.sIx xs.length 0 lo)).take (HT.sIx xs.length xs.length hi - HT.sIx xs.length 0 lo)
theorem bK {α:Type} (xs:List α) (lo hi:Option Int):(dL xs lo hi).length<=xs.length:=by
 unfold dL
 rw [List.length_take,List.length_drop]
 omega
theorem lP (xs:List V) (lo hi:Option Int):pJ xs lo hi=dL xs lo hi:=rfl
theorem rY (lo hi:Option Int) (n:Nat):Builtin.Str.strSliceIndices lo hi 1 n=(List.range (HT.sIx n n hi - HT.sIx n 0 lo)).map (fun k=>HT.sIx n 0 lo + k):=by
 have key:∀(o:Option Int) (d:Nat),d<=n->(match o with | none=>(d:Int) | some i=>max 0 (min (if i < 0 then i + (n:Int) else i) (n:Int)))=((HT.sIx n d o:Nat):Int):=by
  intro o d hd
  cases o with
  | none=>rfl
  | some i =>
   show max 0 (min (if i < 0 then i + (n:Int) else i) (n:Int))=_
   rw [<- HT.clip_eq i n d]
   by_cases h:i < 0
   .rw [if_pos h,if_pos h];omega
   .rw [if_neg h,if_neg h];omega
 have k1:=key lo 0 (Nat.zero_le _)
 have k2:=key hi n (Nat.le_refl _)
 unfold Builtin.Str.strSliceIndices
 simp only [show (1:Int) > 0 by decide,if_true]
 refine Eq.trans (congrArg (fun a=>sliceRange a _ 1) k1) (Eq.trans (congrArg (fun b=>sliceRange _ b 1) k2) ?_)
 unfold sliceRange
 simp only [show (1:Int) > 0 by decide,if_true]
 generalize HT.sIx n 0 lo=a
 generalize HT.sIx n n hi=b
 have ec:(if (a:Int) < (b:Int) then ((b:Int) - (a:Int) + 1 - 1) / 1 else 0).toNat=b - a:=by
  split <;> omega
 rw [ec]
 apply List.map_congr_left
 intro k _
 omega
theorem lQ {α:Type} (l:List α) (a m:Nat):((List.range m).map (fun k=>a + k)).filterMap (fun i=>l[i]?)=(l.drop a).take m:=by
 induction m generalizing a with
 | zero=>simp
 | succ m ih =>
  rw [List.range_succ_eq_map,List.map_cons,List.map_map,List.filterMap_cons]
  have e:((fun k=>a + k) ∘ Nat.succ)=fun k=>(a + 1) + k:=by funext k;simp;omega
  rw [e,ih (a + 1)]
  cases h:l[a + 0]? with
  | none =>
   have hl:l.length<=a:=by simpa using List.getElem?_eq_none_iff.mp h
   rw [List.drop_eq_nil_of_le hl,List.drop_eq_nil_of_le (by omega)];simp
  | some v =>
   have hl:a < l.length:=by simpa using (List.getElem?_eq_some_iff.mp h).1
   have hv:l[a]=v:=by simpa using (List.getElem?_eq_some_iff.mp h).2
   rw [List.drop_eq_getElem_cons hl,hv];rfl
theorem pT (l:List Nat) (lo hi:Option Int):Txt.slice (S l) lo hi=S (dL l lo hi):=by
 have e1:(Builtin.Str.strSliceIndices lo hi 1 (S l).length).filterMap ((S l).cps[·]?)=dL l lo hi:=by
  rw [rY,eQ]
  have e:(fun i:Nat=>(S l).cps[i]?)=fun i:Nat=>l[i]?:=by funext i;simp [S]
  rw [e]
  exact lQ l _ _
 unfold Txt.slice
 split
 .rename_i h
  have h2:(Builtin.Str.strSliceIndices lo hi 1 (S l).length).length=(S l).length:=by simpa using h
  rw [rY,eQ,List.length_map,List.length_range] at h2
  have a0:=HT.sIx_le l.length 0 (Nat.zero_le _) lo
  have b0:=HT.sIx_le l.length l.length (Nat.le_refl _) hi
  unfold dL
  by_cases hz:l.length=0
  .have:l=[]:=List.length_eq_zero_iff.mp hz
   subst this;simp
  .have ha:HT.sIx l.length 0 lo=0:=by omega
   have hb:HT.sIx l.length l.length hi=l.length:=by omega
   rw [ha,hb]
   simp
 .rw [e1];rfl
theorem gi {α:Type} (l:List α) (k:Nat):dL l none (some (k:Int))=l.take k:=by
 unfold dL
 rw [HT.sIx_nat]
 show (l.drop 0).take (min k l.length - 0)=l.take k
 rw [List.drop_zero,Nat.sub_zero]
 by_cases h:k<=l.length
 .rw [Nat.min_eq_left h]
 .rw [Nat.min_eq_right (by omega),List.take_of_length_le (Nat.le_refl _),List.take_of_length_le (by omega)]
theorem gj {α:Type} (l:List α) (k:Nat):dL l (some (k:Int)) none=l.drop k:=by
 unfold dL
 rw [HT.sIx_nat]
 show (l.drop (min k l.length)).take (l.length - min k l.length)=l.drop k
 by_cases h:k<=l.length
 .rw [Nat.min_eq_left h,List.take_of_length_le (by rw [List.length_drop];exact Nat.le_refl _)]
 .rw [Nat.min_eq_right (by omega),Nat.sub_self,List.take_zero,List.drop_eq_nil_of_le (by omega)]
section
variable {X:Cx}
def vg:V->Option Int->Option Int->Hp->VK->Prop:=fun x lo hi H Q=>∃l,x=.str (S l)/\l.length<=sizeLine/\Q (.str (S (dL l lo hi))) H
theorem rZ:SlR X vg:=by
 intro pins s σ H x v vl vu lo hi sl Q I rx hs pl pu h
 obtain ⟨l,rfl,hz,q⟩:=h
 obtain ⟨t,rfl⟩:=rx
 refine ⟨"str",_,slot_str_getitem.lookup,typeIs_str s _ t,?_⟩
 obtain ⟨l',hl',el⟩:∃l':Option (Int×Tok),vl=partValue l'/\l'.map (·.1)=lo:=by
  cases pl with
  | none=>exact ⟨none,rfl,rfl⟩
  | int i t=>exact ⟨some (i,t),rfl,rfl⟩
 obtain ⟨u',hu',eu⟩:∃l':Option (Int×Tok),vu=partValue l'/\l'.map (·.1)=hi:=by
  cases pu with
  | none=>exact ⟨none,rfl,rfl⟩
  | int i t=>exact ⟨some (i,t),rfl,rfl⟩
 subst hl' hu'
 refine wpAny_getItem_str_slice (l:=l') (u:=u') (st:=none) hs rfl ?_
 have hm:∀t' k,EP X pins σ Q (.str (Txt.slice (S l) lo hi) t') { s with toks:=k }:=fun t' k=>⟨.str (S (dL l lo hi)),H,I.tok _,⟨t',by rw [pT]⟩,q⟩
 have hlen:(Txt.slice (S l) lo hi).length<=sizeLine:=Nat.le_trans (Txt.slice_le _ _ _) (by rw [eQ];exact hz)
 subst el eu
 exact post_val_or_str ⟨hlen,hm⟩
def lb {α:Type} (l:List α) (n:Int):List α:=(List.replicate n.toNat l).flatten
theorem lR (k:Nat) (l acc:List Nat):(List.replicate k l.toArray).foldl (·++·) acc.toArray=(acc++(List.replicate k l).flatten).toArray:=by
 induction k generalizing acc with
 | zero=>simp
 | succ k ih =>
  rw [List.replicate_succ,List.foldl_cons,List.append_toArray,ih (acc++l),List.replicate_succ,List.flatten_cons,List.append_assoc]
theorem uf (l:List Nat) (n:Int):Txt.mul (S l) n=S (lb l n):=by
 unfold Txt.mul lb
 by_cases h:n < 1
 .rw [if_pos h]
  have:n.toNat=0:=by omega
  rw [this];rfl
 .rw [if_neg h]
  split
  .rename_i h2
   rw [eQ] at h2
   simp only [Bool.or_eq_true,beq_iff_eq] at h2
   rcases h2 with h2 | h2
   .subst h2;simp [S]
   .have:l=[]:=List.length_eq_zero_iff.mp h2
    subst this;simp [S]
  .have e:=lR n.toNat l []
   show (⟨_⟩:Str)=_
   have e':(List.replicate n.toNat (S l).cps).foldl (·++·) #[]=((List.replicate n.toNat l).flatten).toArray:=by
    simpa [S] using e
   rw [e'];rfl
theorem df {α:Type} (l:List α) (n:Int):(lb l n).length=n.toNat * l.length:=by
 unfold lb
 rw [List.length_flatten,List.map_replicate,List.sum_replicate_nat]
theorem kP:OpR X (binaryOp .Mult) (fun x y H Q=>∃l n,x=.str (S l)/\y=.int n/\-1000000<=n/\n<=1000000/\n.toNat * l.length<=sizeLine/\Q (.str (S (lb l n))) H):=by
 intro pins s σ H x y v u Q I rx ry h
 obtain ⟨l,n,rfl,rfl,h1,h2,hz,q⟩:=h
 obtain ⟨t,rfl⟩:=rx
 obtain ⟨t',rfl⟩:=ry
 have hs:sizeLine=16777216:=sizeLine_eq
 have hz':n.toNat * l.length<=16777216:=by rw [<- hs];exact hz
 refine SB.mul ⟨?_,fun hn hc=>?_,fun hn hc=>?_⟩ fun t' k=>⟨.str (S (lb l n)),H,I.tok _,⟨t',by rw [uf]⟩,q⟩
 .rw [decide_eq_false (by omega),decide_eq_false (by omega)];rfl
 .rw [eQ]
  intro hgt
  have hl:l.length<=16777216:=by
   have:1 * l.length<=n.toNat * l.length:=Nat.mul_le_mul_right _ (by omega)
   omega
  have hdiv:(2 ^ 63 - 1:Int) / 1000000<=(2 ^ 63 - 1) / n:=by
   apply Int.le_ediv_of_mul_le (by omega)
   have:=Int.mul_le_mul_of_nonneg_left h2 (show (0:Int)<=(2 ^ 63 - 1) / 1000000 by decide)
   have e2:((2 ^ 63 - 1:Int) / 1000000) * 1000000<=2 ^ 63 - 1:=by decide
   omega
  have e3:(2 ^ 63 - 1:Int) / 1000000=9223372036854:=by decide
  omega
 .rw [eQ]
  have:l.length * n.toNat<=16777216:=by rw [Nat.mul_comm];exact hz'
  exact decide_eq_false (by omega)
theorem lS:OpR X (compareOp .LtE) (fun x y H Q=>∃i j,x=.str i/\y=.str j/\Q (.bl (!decide (j.cps.toList < i.cps.toList))) H):=by
 intro pins s σ H x y v u Q I rx ry h
 obtain ⟨i,j,rfl,rfl,q⟩:=h
 obtain ⟨t,rfl⟩:=rx
 obtain ⟨t',rfl⟩:=ry
 exact PySem.P.le_str ⟨.bl _,H,I,rfl,q⟩
end
def Its (xs:List V):It:=⟨fun i _=>i < xs.length,fun i H x H'=>H'=H/\xs[i]?=some x,fun i _=>xs.length=i⟩
theorem lT {M:Model}{A:Around}{E:Value->Shared->Prop}{s:Shared}{tg:Expr}{it:Addr}{u:Value}{Q:Unit->Shared->Prop} (hu:∀a,u≠.ref a) (hQ:Q () s):wpAny M A (letOwnedTupleGo tg (.ref it) u) Q E s:=by
 unfold letOwnedTupleGo
 cases tg <;> first
  | exact wpAny_pure hQ
  | (cases u <;> first
    | exact wpAny_pure hQ
    | exact absurd rfl (hu _))
theorem gk {P:Program}{w:World}{K:PySem.W.Frag}{tg:Expr}{it:Addr}{xs:List V}{n:Nat}{Pt:Nat->Value->Prop}{St:Nat->Heap->Prop}
  (W:∀A:Around,A.handled=none->Walks P w A it [it] [it] n Pt St) (hn:xs.length=n)
  (hv:∀i v,i < n->Pt i v->∃x,xs[i]?=some x/\bP x v) (hsc:∀i v,Pt i v->∀a,v≠.ref a)
  (hobj:∀i h,St i h->∃o,h.get? it=some o/\∀v,o.data≠.cell v)
  (hfr:∀i h h',St i h->(∀b∈[it],∀o,h.get? b=some o->h'.get? b=some o)->St i h')
  (hself:∀(A:Around) (i:Nat) (s:Shared) (Q:Value->Shared->Prop) (E:Value->Shared->Prop),St i s.heap->Q (.ref it) s->wpAny (model P w) A (pyIter (.ref it)) Q E s) :
  rB P w K tg (Its xs) [it] it St where
 mem:=by simp
 obj:=fun i h st b hb=>by
  have e:b=it:=by simpa using hb
  subst e
  exact hobj i h st
 keep:=fun i h h' st k=>hfr i h h' st k
 item:=by
  intro X hP hw hK hc i pins s σ H E I hf st hg
  subst hP hw hK
  obtain ⟨f0,f1,f2,f3,f4,f5⟩:=hf it (by simp)
  refine (W X.A (I.ok.hd hc)).item i s _ _ (by rw [<- hn];exact hg) st fun v h' tk hp st' kk=>?_
  obtain ⟨x,hx,rx⟩:=hv i v (by rw [<- hn];exact hg) hp
  have I1:Inv X pins σ H { s with heap:=h',toks:=tk }:=I.turned (fun b o hb e=>kk b o (by simpa using hb) e) f0 f1 f3 f4 f5
  exact ⟨v,rfl,lT (s:={ s with heap:=h',toks:=tk }) (hsc i v hp) ⟨x,H,I1,rx,⟨rfl,hx⟩,st',fun b hb=>(hf b hb).1⟩⟩
 done:=by
  intro X hP hw hK hc i pins s σ H E I hf st hg
  subst hP hw hK
  obtain ⟨f0,f1,f2,f3,f4,f5⟩:=hf it (by simp)
  have e:n=i:=hn.symm.trans hg
  subst e
  exact (W X.A (I.ok.hd hc)).done s _ _ st fun h' tk kk=>⟨rfl,I.turned (fun b o hb e=>kk b o (by simpa using hb) e) f0 f1 f3 f4 f5⟩
 self:=hself
section
variable {X:Cx}{tg:Expr}
def dM (l:List Nat):List V:=l.map fun c=>V.str (S [c])
theorem kQ {l:List Nat}{i:Nat}{x:V} (h:(dM l)[i]?=some x):∃c,l[i]?=some c/\x=.str (S [c]):=by
 unfold dM at h
 rw [List.getElem?_map] at h
 cases e:l[i]? with
 | none=>rw [e] at h;cases h
 | some c=>rw [e] at h;exact ⟨c,rfl,(Option.some.inj h).symm⟩
theorem fj (l:List Nat):(dM l).length=l.length:=List.length_map _
def ik (i:Int) (n:Nat):List V:=(List.range n).map fun (k:Nat)=>V.int (i - k)
theorem gm (i:Int) (n:Nat):(ik i n).length=n:=by simp [ik]
theorem lU {i:Int}{n k:Nat}{x:V} (h:(ik i n)[k]?=some x):k < n/\x=.int (i - k):=by
 unfold ik at h
 rw [List.getElem?_map] at h
 by_cases hk:k < n
 .rw [List.getElem?_range hk] at h
  exact ⟨hk,(Option.some.inj h).symm⟩
 .rw [List.getElem?_eq_none (by simp;omega)] at h
  cases h
def r8 (ta:TA):TI:=fun σ H R=>ta σ H fun vs H1=>∃i j:Int,vs=[.int i,.int j,.int (-1)]/\(-(2 ^ 60)<=i/\i < 2 ^ 60/\-(2 ^ 60)<=j/\j < 2 ^ 60)/\R (Its (ik i (i - j).toNat)) H1
theorem ee (i j:Int):Builtin.Range.rangeSize i j (-1)=(((i - j).toNat:Nat):Int):=by
 unfold Builtin.Range.rangeSize
 rw [if_neg (by decide)]
 simp only [Int.neg_neg,Int.ediv_one]
 split <;> omega
theorem lV {a b c:Expr}{ta:TA}{p pos:Pos} (hg:Gl X "range") (hm:X.mg "range"=none) (ha:PA X [a,b,c] ta)
  (hs:starEach [a,b,c] X.env=[(false,eval a X.env),(false,eval b X.env),(false,eval c X.env)]:=by rfl) (hs2:starEach [b,c] X.env=[(false,eval b X.env),(false,eval c X.env)]:=by rfl) :
  PI X tg (.Call (.Name "range" p) [a,b,c] [] pos) (r8 ta):=by
 intro pins s σ H R I h
 refine Call_ (eN I hg hm boot_range (PyProof.Rows.callWith_type1 (thn (ha pos pins s σ H _ I h) fun us s1 ⟨vs,H1,I1,r1,q1⟩=>?_) (by rw [hs,hs2]) (by rw [hs2];rfl)))
 obtain ⟨i,j,e,⟨q1,q2,q3,q4⟩,q⟩:=q1
 subst e
 cases r1 with
 | cons r rr =>
  cases rr with
  | cons r' rr =>
   cases rr with
   | cons r'' rr =>
    cases rr
    obtain ⟨t,rfl⟩:=r
    obtain ⟨t',rfl⟩:=r'
    obtain ⟨t'',rfl⟩:=r''
    refine call_range_3 (by decide) ?_ (.inl (PyProof.noPylong_small (by decide)))
    refine wpAny_pyIter_range (IsRange.new ..) ?_ ?_
    .unfold Builtin.Range.small
     rw [ee]
     simp only [Builtin.Range.rangeFitsLong,Bool.and_eq_true,Bool.or_eq_true,decide_eq_true_eq,beq_iff_eq,show ¬ (-1:Int) > 0 by decide,if_false]
     omega
    have I2:Inv X pins σ H1 { s1 with heap:=s1.heap.push { cls:=.type "range",data:=.fields #[.int i t,.int j t',.int (-1) t''] },toks:=s1.toks }:=I1.kept fun b o e=>Heap.get?_push_of_some _ e
    refine ⟨_,[(s1.heap.push { cls:=.type "range",data:=.fields #[.int i t,.int j t',.int (-1) t''] }).objs.size],_,Its (ik i (i - j).toNat),H1,rfl,I2.kept (t':=s1.toks) fun b o e=>Heap.get?_push_of_some _ e,
     gk (fun A hA=>Walks.range hA _ i (-1) (i - j).toNat) (gm _ _) ?_ ?_ ?_ ?_ (fun A i s Q E st q=>wpAny_pyIter_rangeiter st q),?_,fun b hb=>?_,q⟩
    .rintro k v hk ⟨t,rfl⟩
     refine ⟨.int (i - k),?_,t,?_⟩
     .unfold ik
      rw [List.getElem?_map,List.getElem?_range hk];rfl
     .have e:i + (k:Int) * (-1)=i - k:=by omega
      rw [e]
    .rintro k v ⟨t,rfl⟩ a z
     cases z
    .exact fun k h st=>⟨_,st,fun v z=>by
      have z':Data.fields _=Data.cell v:=z
      cases z'⟩
    .exact fun k h h' st kk=>kk _ (by simp) _ st
    .show IsRangeIter _ _ (i + ((0:Nat):Int) * (-1)) ((((i - j).toNat:Nat):Int) - ((0:Nat):Int)) (-1)
     rw [<- ee]
     simp only [Int.natCast_zero,Int.zero_mul,Int.add_zero,Int.sub_zero]
     exact Heap.get?_push_size _ rfl
    .have e:b=(s1.heap.push { cls:=.type "range",data:=.fields #[.int i t,.int j t',.int (-1) t''] }).objs.size:=by simpa using hb
     subst e
     exact I2.fpOk (Nat.le_refl _) (I2.hok.fresh (Nat.le_refl _))
end
section
variable {X:Cx}
theorem jF:ci X (.builtin "isinstance") (fun xs H Q=>∃x n t b,xs=[x,.ty n]/\jC X.K H x t/\PySem.W.kitOne X.K t (.type n)=some b/\Q (.bl b) H):=by
 intro pins s σ H xs us Q I r h
 obtain ⟨x,n,t,b,rfl,ty,e,q⟩:=h
 obtain ⟨u,w',rfl,rx,ry⟩:=rK r
 cases (show w'=Value.type n from ry)
 exact lE I rx ty e fun tk=>⟨.bl b,H,I.tok _,rfl,q⟩
mutual
inductive DV (K:PySem.W.Frag) (H:Hp):V->PyData->Prop
 | non:DV K H .non .none
 | bl (b:Bool):DV K H (.bl b) (.bool b)
 | int (i:Int):DV K H (.int i) (.int i)
 | str (x:Str):DV K H (.str x) (.str x)
 | lst {a:Addr}{xs:List V}{ds:List PyData}:SqL K H a xs->DVs K H xs ds->DV K H (.ref a) (.list ds)
 | tup {a:Addr}{xs:List V}{ds:List PyData}:SqT K H a xs->DVs K H xs ds->DV K H (.ref a) (.tuple ds)
inductive DVs (K:PySem.W.Frag) (H:Hp):List V->List PyData->Prop
 | nil:DVs K H [] []
 | cons {x:V}{d:PyData}{xs:List V}{ds:List PyData}:DV K H x d->DVs K H xs ds->DVs K H (x::xs) (d::ds)
end
mutual
theorem DV.reads {pins:List (Addr×Obj)}{σ:St}{H:Hp}{s:Shared} (I:Inv X pins σ H s):∀{x:V}{d:PyData}{u:Value},DV X.K H x d->bP x u->∃as,Reads s.heap u d as
 | _,_,u,.non,r=>by cases (show u=Value.none from r);exact ⟨_,.none⟩
 | _,_,u,.bl b,r=>by cases (show u=Value.bool b from r);exact ⟨_,.bool b⟩
 | _,_,u,.int i,r=>by obtain ⟨t,e⟩:=(show ∃t,u=Value.int i t from r);subst e;exact ⟨_,.int i t⟩
 | _,_,u,.str x,r=>by obtain ⟨t,e⟩:=(show ∃t,u=Value.str x t from r);subst e;exact ⟨_,.str x t⟩
 | _,_,u,.lst (a:=a) hq hs,r=>by
  cases (show u=Value.ref a from r)
  obtain ⟨its,rv,pl,_⟩:=I.list hq
  obtain ⟨o,ho,hc,n,hd⟩:=pl.isList
  obtain ⟨as,ra⟩:=DVs.reads I hs rv
  exact ⟨_,.list ho hc hd ra⟩
 | _,_,u,.tup (a:=a) hq hs,r=>by
  cases (show u=Value.ref a from r)
  obtain ⟨its,rv,pl,_⟩:=I.tuple hq
  obtain ⟨o,ho,hc,n,hd⟩:=pl
  obtain ⟨as,ra⟩:=DVs.reads I hs rv
  exact ⟨_,.tuple ho hc hd ra⟩
theorem DVs.reads {pins:List (Addr×Obj)}{σ:St}{H:Hp}{s:Shared} (I:Inv X pins σ H s):∀{xs:List V}{ds:List PyData}{us:List Value},DVs X.K H xs ds->br xs us->∃as,ReadsAll s.heap us ds as
 | _,_,_,.nil,.nil=>⟨_,.nil⟩
 | _,_,_,.cons h hs,.cons r rs=>by
  obtain ⟨as,ra⟩:=DV.reads I h r
  obtain ⟨bs,rb⟩:=DVs.reads I hs rs
  exact ⟨_,.cons ra rb⟩
end
def ug (K:PySem.W.Frag) (neg:Bool):R2:=fun x y H Q=>∃da db,DV K H x da/\DV K H y db/\SeqAt.shaped da=true/\SeqAt.shaped db=true/\Q (.bl (if neg then !PyData.eqv da db else PyData.eqv da db)) H
theorem r9 (hu:X.A.units + 64 < cLine):OpR X (compareOp .Eq) (ug X.K false):=by
 intro pins s σ H x y v u Q I rx ry h
 obtain ⟨da,db,ha,hb,sa,sb,q⟩:=h
 obtain ⟨as,ra⟩:=DV.reads I ha rx
 obtain ⟨bs,rb⟩:=DV.reads I hb ry
 exact eq_dataH ra rb sa sb hu ⟨.bl _,H,I,rfl,q⟩
theorem sd (hu:X.A.units + 64 < cLine):OpR X (compareOp .NotEq) (ug X.K true):=by
 intro pins s σ H x y v u Q I rx ry h
 obtain ⟨da,db,ha,hb,sa,sb,q⟩:=h
 obtain ⟨as,ra⟩:=DV.reads I ha rx
 obtain ⟨bs,rb⟩:=DV.reads I hb ry
 exact ne_dataH ra rb sa sb hu ⟨.bl _,H,I,rfl,q⟩
theorem DVs.ints {K:PySem.W.Frag}{H:Hp}:∀ns:List Int,DVs K H (ns.map V.int) (ns.map PyData.int)
 | []=>.nil
 | n::ns=>.cons (.int n) (DVs.ints ns)
end
section
variable {X:Cx}{a b:Expr}{ta tb:TE}{pos:Pos}
theorem er {x:Str}{l:List Nat}{j:Nat} (h:x=S l):PE X (.Constant (.str x) j pos) (tC (.str (S l))):=by
 subst h
 exact rj
theorem lW:ci X (.builtin "len") (fun xs H Q=>∃l,xs=[.str (S l)]/\l.length<=sizeLine/\Q (.int l.length) H):=by
 intro pins s σ H xs us Q I r h
 obtain ⟨l,rfl,hz,q⟩:=h
 exact iU pins s σ H _ us Q I r ⟨S l,rfl,by rw [eQ];exact hz,by rw [eQ];exact q⟩
def se:R2:=fun x y H Q=>∃l i c,x=.str (S l)/\y=.int i/\l.length<=sizeLine/\atI l i=some c/\Q (.str (S [c])) H
theorem pU:IxR X se:=by
 intro value slice pins s σ H x y v u Q I rx ry q hs
 obtain ⟨l,i,c,rfl,rfl,hz,ha,q⟩:=q
 exact rQ value slice pins s σ H _ _ v u Q I rx ry ⟨S l,i,c,rfl,rfl,by rw [eQ];exact hz,ha,q⟩ hs
theorem pV:OpR X (binaryOp .Add) (fun x y H Q=>∃i j,x=.str (S i)/\y=.str (S j)/\i.length + j.length<=sizeLine/\Q (.str (S (i++j))) H):=by
 intro pins s σ H x y v u Q I rx ry h
 obtain ⟨i,j,rfl,rfl,hz,q⟩:=h
 exact kF pins s σ H _ _ v u Q I rx ry ⟨S i,S j,rfl,rfl,by rw [eQ,eQ];exact hz,by rw [ue];exact q⟩
theorem sf:OpR X (compareOp .Eq) (fun x y H Q=>∃i j,x=.str (S i)/\y=.str (S j)/\Q (.bl (decide (i=j))) H):=by
 intro pins s σ H x y v u Q I rx ry h
 obtain ⟨i,j,rfl,rfl,q⟩:=h
 exact t5 pins s σ H _ _ v u Q I rx ry ⟨rfl,by rw [rX];exact q⟩
theorem sg:OpR X (compareOp .NotEq) (fun x y H Q=>∃i j,x=.str (S i)/\y=.str (S j)/\Q (.bl (!decide (i=j))) H):=by
 intro pins s σ H x y v u Q I rx ry h
 obtain ⟨i,j,rfl,rfl,q⟩:=h
 exact t6 pins s σ H _ _ v u Q I rx ry ⟨rfl,by rw [rX];exact q⟩
theorem sh:OpR X (compareOp .Eq) (rI0 fun i j=>.bl (decide (i=j))):=rC fun _ _ _ _ _ _ _ q=>eq_int (by rw [Bool.beq_eq_decide_eq];exact q)
theorem si:OpR X (compareOp .NotEq) (rI0 fun i j=>.bl (!decide (i=j))):=rC fun _ _ _ _ _ _ _ q=>ne_int (by rw [bne,Bool.beq_eq_decide_eq];exact q)
theorem lX:ci X (.builtin "len") (fun xs H Q=>∃p ys,xs=[.ref p]/\SqL X.K H p ys/\Q (.int ys.length) H):=by
 intro pins s σ H xs us Q I r h
 obtain ⟨p,ys,e,hq,q⟩:=h
 exact fE pins s σ H xs us Q I r ⟨p,ys,e,.inl hq,q⟩
theorem lY:ci X (.builtin "len") (fun xs H Q=>∃p ys,xs=[.ref p]/\SqT X.K H p ys/\Q (.int ys.length) H):=by
 intro pins s σ H xs us Q I r h
 obtain ⟨p,ys,e,hq,q⟩:=h
 exact fE pins s σ H xs us Q I r ⟨p,ys,e,.inr hq,q⟩
end
structure Cal (P:Program) (w:World) (K:PySem.W.Frag) (mg:Str->Option Value) (base:Heap) (k:Nat) (x:Str) (ps:List Str) (sp:Sp):Prop where
 ex:∃(f:Addr) (fd:FuncData),ie P w K mg base CX0 k f fd ps sp/\fS K fd ps []/\PySem.W.keepIn K (.ref f)=true/\mg x=some (.ref f)/\∃oc od osl,K.lookup f=some ⟨oc,od,.func fd,osl⟩
structure dH (K:PySem.W.Frag) (mg:Str->Option Value) (x:Str) (st:Stmt):Prop where
 ex:∃(f:Addr) (fd:FuncData),Fun K x x st f fd/\mg x=some (.ref f)
section
variable {P:Program}{w:World}{K:PySem.W.Frag}{mg:Str->Option Value}{base:Heap}{x:Str}{st:Stmt}{N ps:List Str}{k:Nat}{sp:Sp}
theorem dH.ok (D:dH K mg x st) (S:ba N ps (ap st))
  (hb:∀(kV doc pm:Value) (an:Option Addr) (cdv ct:Value) (us:List Value),us.length=ps.length->bindArgs (PySem.W.fnOf x x (bQ st) (bn st) (ap st) .none kV doc pm an cdv ct) ⟨us,[]⟩=pure (ps.zip us))
  (len:∀vs H Q E,sp vs H Q E->vs.length=ps.length)
  (hbody:∀(f:Addr) (cdv:Value) (A:Around) (outer:List Env) (s:Shared) (H:Hp) (vs:List V) (Q:VK) (E:XK),dX k (A.deeper (envOfC x (ap st) s.heap.objs.size f cdv))->sp vs H Q E ->
   ∃t,PSs (nz CX0 P w K mg base N x (ap st) f cdv A outer s H E).nox (bn st) t/\t { nx:=fun _ H'=>Q .non H',rt:=Q } (start N vs) H):Cal P w K mg base (k + 1) x ps sp:=by
 obtain ⟨f,fd,F,hm⟩:=D.ex
 have lk:∃oc od osl,K.lookup f=some ⟨oc,od,.func fd,osl⟩:=by
  obtain ⟨oc,od,kV,doc,pm,an,cdv,ct,osl,rfl,lk,hcd⟩:=F.ex
  exact ⟨oc,od,osl,lk⟩
 exact ⟨f,fd,F.ok S len fun cdv A outer s H vs Q E hr h=>hbody f cdv A outer s H vs Q E hr h,F.binds hb,F.kp,hm,lk⟩
theorem dH.mk' {K:PySem.W.Frag}{h:Heap}{mg:Str->Option Value}{x:Str}{st:Stmt}{f:Addr}{oc:Value}{od an:Option Addr}{osl:Array (Option Value)}{kV doc pm cdv ct:Value} (X:K.In h) (G:h.Ns mainGlobals mg)
  (a:PySem.W.nsIn K mainGlobals x=some (some (.ref f))) (l:K.lookup f=some ⟨oc,od,.func (PySem.W.fnOf x x (bQ st) (bn st) (ap st) .none kV doc pm an cdv ct),osl⟩)
  (c:PySem.W.codeIn K cdv x=true) (k:PySem.W.keepIn K (.ref f)=true):dH K mg x st:=⟨f,_,iY (st:=st) l c k,PySem.W.mg_of X G a⟩
end
section
variable {X:Cx}{k:Nat}{x:Str}{ps:List Str}{sp:Sp}{p pos:Pos}{e:Expr}{es:List Expr}{t:TA}
theorem sj (C:Cal X.prog X.w X.K X.mg X.base k x ps sp) (hr:dX k X.A) (ha:PA X (e::es) t) (hg:Gl X x:=by rfl) (hdb:(x == ("__debug__":Str))=false:=by decide) (he:starEach (e::es) X.env=(false,eval e X.env)::starEach es X.env:=by rfl)
  (hpl:(backTo pos (starEach es X.env)).any (·.1)=false:=by rfl):PE X (.Call (.Name x p) (e::es) [] pos) (kK sp [] E0 t):=by
 obtain ⟨f,fd,F,hb,hk,hm,_⟩:=C.ex
 exact pF F hr hg hm hk hb .nil nF ha hdb he hpl
end
def kR (K:PySem.W.Frag):Sp:=fun vs H Q _=>∃(a:Addr) (ns:List Int),vs=[.ref a]/\SqL K H a (ns.map V.int)/\ns.length<=63/\∀H',Q (.bl true) H'
theorem sk {P:Program}{w:World}{K:PySem.W.Frag}{mg:Str->Option Value}{fa:Addr}{st:Stmt}{k:Nat}{x:Str} (hfa:mg "law"=some (.ref fa)) (D:dH K mg "law" st)
  (hbind:∀(kV doc pm:Value) (an:Option Addr) (cdv ct:Value) (s:Shared) (v:Value),BindsTo s (PySem.W.fnOf "law" "law" (bQ st) (bn st) (ap st) .none kV doc pm an cdv ct) ⟨[v],[]⟩ [(x,v)])
  (h:∀base:Heap,Cal P w K mg base k "law" [x] (kR K)) :
  ∃fd:FuncData,(∀(s:Shared) (v:Value),BindsTo s fd ⟨[v],[]⟩ [(x,v)])/\∀base:Heap,K.In base->base.Ns mainGlobals mg->ie P w K mg base CX0 k fa fd [x] (kR K):=by
 obtain ⟨f,fd,F,hm⟩:=D.ex
 have e:=hfa.symm.trans hm
 cases e
 obtain ⟨oc,od,kV,doc,pm,an,cdv,ct,osl,rfl,lk,hcd⟩:=F.ex
 refine ⟨_,fun s v=>hbind kV doc pm an cdv ct s v,fun base kb nb=>?_⟩
 obtain ⟨f',fd',F',_,_,hm',oc',od',osl',lk'⟩:=(h base).ex
 have e:=hfa.symm.trans hm'
 cases e
 rw [lk] at lk'
 cases lk'
 exact F'
theorem sm {l:PySem.W.OpenLaw}{q:Program}{loose:List Str}{XP:(Str->Option Value)->Heap->Prop}{YP:World->Heap->Prop}{d:DefRec}{K:Params->PySem.W.Frag}{k:Nat}{x:Str} (hn:l.most=some 63) (hdf:d.params.defaults=[]) (hr:dX k callerA)
  (hY:∀(w:World) (h:Heap),YP w h->(K w.params).In h)
  (F:∀(w:World) (mg:Str->Option Value) (fa:Addr) (h:Heap),(K w.params).In h->h.Ns mainGlobals mg->mg d.name=some (.ref fa) ->
   ∃fd:FuncData,(∀(s:Shared) (u:Value),BindsTo s fd ⟨[u],[]⟩ [(x,u)])/\∀base:Heap,(K w.params).In base->base.Ns mainGlobals mg->ie l.prog w (K w.params) mg base CX0 k fa fd [x] (kR (K w.params))) :
  PySem.W.WalkO q loose XP YP l.row.toRowW d [] (fun f vs=>PySem.call f vs) :=
 pS (n:=63) (k:=k) (x:=x) (CX:=fun _=>CX0) (sp:=fun w=>kR (K w.params)) hn (by decide) hdf hr hY F (fun _ _ a ns hl _ hS=>⟨a,ns,rfl,hS,hl,fun _=>rfl⟩) fun _ _ _ _ _ z=>z
theorem pW {α β:Type}{f:α->β}{xs:List α}{i:Int}{v:α} (h:atI xs i=some v):atI (xs.map f) i=some (f v):=by
 unfold atI at h ⊢
 rw [List.length_map]
 cases e:ixN xs.length i with
 | none=>rw [e] at h;cases h
 | some j =>
  rw [e] at h
  show (xs.map f)[j]?=some (f v)
  have h':xs[j]?=some v:=h
  rw [List.getElem?_map,h'];rfl
theorem lZ {α:Type}{xs:List α}{i:Int}{j:Nat}{v:α} (h:xs[j]?=some v) (e:i=(j:Int)):atI xs i=some v:=by subst e;exact pN h
theorem sz (n:Nat) (h:n<=1000000):n<=sizeLine:=by rw [sizeLine_eq];omega
theorem nG {ns:List Int}{i:Nat}{x:V} (h:(ns.map V.int)[i]?=some x):∃z,ns[i]?=some z/\x=.int z:=by
 rw [List.getElem?_map] at h
 cases e:ns[i]? with
 | none=>rw [e] at h;cases h
 | some z=>rw [e] at h;exact ⟨z,rfl,(Option.some.inj h).symm⟩
section
variable {X:Cx}{st:Stmt}{t:TS}
def sr (t:TS):TS:=fun D σ H=>∃J:St->Hp->Prop,t { D with nx:=J } σ H/\∀σ' H',J σ' H'->D.nx σ' H'
theorem et (h:PS X st t):PS X st (sr t):=by
 intro pins s σ H D I q
 obtain ⟨J,q1,q2⟩:=q
 refine thn (h pins s σ H _ I q1) fun f s' r=>?_
 cases f with
 | next=>obtain ⟨σ',H',I',r'⟩:=r;exact ⟨σ',H',I',q2 σ' H' r'⟩
 | brk=>exact r
 | cont=>exact r
 | ret u=>exact r
end
theorem nH {α β:Type} (f:α->β) (xs:List α) (lo hi:Option Int):dL (xs.map f) lo hi=(dL xs lo hi).map f:=by
 unfold dL
 rw [List.length_map,List.map_take,List.map_drop]
theorem cC {x:Str}{c:Addr}:∀(names:List (Str×NameKind)) (n:Nat) (acc:List (Str×Addr)),(cellsFrom n names acc).lookup x=some c->(n<=c/\(x,NameKind.cell)∈names)\/acc.lookup x=some c
 | [],n,acc,h=>.inr h
 | (y,k)::r,n,acc,h=>by
  unfold cellsFrom at h
  split at h
  .rename_i hk
   have hk':k=.cell:=by simpa using hk
   subst hk'
   rcases cC r (n + 1) ((y,n)::acc) h with ⟨h1,h2⟩ | h1
   .exact .inl ⟨by omega,List.mem_cons_of_mem _ h2⟩
   .rw [List.lookup_cons] at h1
    cases e:x == y with
    | true =>
     rw [e] at h1
     have:n=c:=Option.some.inj h1
     have ex:x=y:=by simpa using e
     subst ex
     exact .inl ⟨by omega,List.mem_cons_self⟩
    | false=>rw [e] at h1;exact .inr h1
  .rcases cC r n acc h with ⟨h1,h2⟩ | h1
   .exact .inl ⟨h1,List.mem_cons_of_mem _ h2⟩
   .exact .inr h1
theorem dg {x:Str}:∀(names:List (Str×NameKind)) (n:Nat) (acc:List (Str×Addr)),(x,NameKind.cell)∉names->(cellsFrom n names acc).lookup x=acc.lookup x
 | [],_,_,_=>rfl
 | (y,k)::r,n,acc,h=>by
  unfold cellsFrom
  split
  .rename_i hk
   have hk':k=.cell:=by simpa using hk
   subst hk'
   rw [dg r (n + 1) _ (fun z=>h (List.mem_cons_of_mem _ z)),List.lookup_cons]
   have:(x == y)=false:=by
    rw [beq_eq_false_iff_ne]
    intro e;subst e;exact h List.mem_cons_self
   rw [this]
  .exact dg r n acc (fun z=>h (List.mem_cons_of_mem _ z))
theorem dh {x y:Str}{c:Addr}:∀(names:List (Str×NameKind)) (n:Nat) (acc:List (Str×Addr)),(∀z d,acc.lookup z=some d->d < n) ->
  (cellsFrom n names acc).lookup x=some c->(cellsFrom n names acc).lookup y=some c->n<=c->x=y
 | [],n,acc,ha,h1,h2,hc=>absurd (ha x c h1) (Nat.not_lt.mpr hc)
 | (z,k)::r,n,acc,ha,h1,h2,hc=>by
  unfold cellsFrom at h1 h2
  split at h1
  .rename_i hk
   rw [if_pos hk] at h2
   have ha':∀w d,((z,n)::acc).lookup w=some d->d < n + 1:=fun w d e=>by
    rw [List.lookup_cons] at e
    cases q:w == z with
    | true=>rw [q] at e;cases e;exact Nat.lt_succ_self _
    | false=>rw [q] at e;exact Nat.lt_succ_of_lt (ha w d e)
   by_cases hcn:n + 1<=c
   .exact dh r (n + 1) _ ha' h1 h2 hcn
   .have e:c=n:=Nat.le_antisymm (Nat.not_lt.mp hcn) hc
    subst e
    have key:∀w:Str,(cellsFrom (c + 1) r ((z,c)::acc)).lookup w=some c->w=z:=fun w hw=>by
     rcases cC r (c + 1) _ hw with ⟨q,_⟩ | q
     .exact absurd q (Nat.not_succ_le_self _)
     .rw [List.lookup_cons] at q
      cases q2:w == z with
      | true=>simpa using q2
      | false=>rw [q2] at q;exact absurd (ha w c q) (Nat.lt_irrefl _)
    rw [key x h1,key y h2]
  .rename_i hk
   rw [if_neg hk] at h2
   exact dh r n acc ha h1 h2 hc
def eR (env:Env):List (Str×NameKind)->List (Str×Addr)->List (Str×Addr)
 | [],acc=>acc
 | (n,k)::r,acc=>if (k == .free)=true then eR env r ((n,(env.cells.lookup n).getD 0)::acc) else eR env r acc
theorem di {env:Env}{x:Str}{c:Addr}:∀(names:List (Str×NameKind)) (acc:List (Str×Addr)),(eR env names acc).lookup x=some c->((x,NameKind.free)∈names/\c=(env.cells.lookup x).getD 0)\/acc.lookup x=some c
 | [],acc,h=>.inr h
 | (y,k)::r,acc,h=>by
  unfold eR at h
  split at h
  .rename_i hk
   have hk':k=.free:=by simpa using hk
   subst hk'
   rcases di r _ h with ⟨h1,h2⟩ | h1
   .exact .inl ⟨List.mem_cons_of_mem _ h1,h2⟩
   .rw [List.lookup_cons] at h1
    cases e:x == y with
    | true =>
     rw [e] at h1
     have ex:x=y:=by simpa using e
     subst ex
     exact .inl ⟨List.mem_cons_self,(Option.some.inj h1).symm⟩
    | false=>rw [e] at h1;exact .inr h1
  .rcases di r acc h with ⟨h1,h2⟩ | h1
   .exact .inl ⟨List.mem_cons_of_mem _ h1,h2⟩
   .exact .inr h1
theorem eT {env:Env}{x:Str}:∀(names:List (Str×NameKind)) (acc:List (Str×Addr)),((x,NameKind.free)∈names\/(acc.lookup x).isSome=true)->((eR env names acc).lookup x).isSome=true
 | [],acc,h=>h.elim (fun z=>nomatch z) id
 | (y,k)::r,acc,h=>by
  unfold eR
  split
  .rename_i hk
   refine eT r _ ?_
   by_cases e:(x == y)=true
   .exact .inr (by rw [List.lookup_cons,e];rfl)
   .rcases h with h | h
    .rcases List.mem_cons.mp h with z | z
     .cases z;exact absurd (by simp) e
     .exact .inl z
    .exact .inr (by rw [List.lookup_cons];rw [Bool.not_eq_true] at e;rw [e];exact h)
  .rename_i hk
   refine eT r acc ?_
   rcases h with h | h
   .rcases List.mem_cons.mp h with z | z
    .cases z;exact absurd rfl hk
    .exact .inl z
   .exact .inr h
theorem fT {scope:Scope}{env:Env} (h:∀x∈scope.names,x.2=.free->∃c,env.cells.lookup x.1=some c):closureFor scope env=pure (eR env scope.names []):=by
 unfold closureFor
 have key:∀(names:List (Str×NameKind)) (acc:List (Str×Addr)),(∀x∈names,x.2=.free->∃c,env.cells.lookup x.1=some c) ->
   (forIn names acc fun (x:Str×NameKind) (r:List (Str×Addr))=>(if (x.2 == NameKind.free)=true then do let y <- cellOf env x.1;pure (ForInStep.yield ((x.1,y)::r)) else pure (ForInStep.yield r):Sem _))=pure (eR env names acc):=by
  intro names
  induction names with
  | nil=>intro acc _;rfl
  | cons p r ih =>
   intro acc hp
   obtain ⟨n,k⟩:=p
   rw [List.forIn_cons]
   have hr:∀x∈r,x.2=.free->∃c,env.cells.lookup x.1=some c:=fun x hx=>hp x (List.mem_cons_of_mem _ hx)
   unfold eR
   by_cases hk:(k == NameKind.free)=true
   .obtain ⟨c,hc⟩:=hp (n,k) List.mem_cons_self (by simpa using hk)
    have hc':env.cells.lookup n=some c:=hc
    have e1:cellOf env n=pure c:=by unfold cellOf;rw [hc']
    simp only [hk,if_true]
    rw [e1,hc']
    simp only [pure_bind]
    exact ih _ hr
   .rw [if_neg hk,if_neg hk]
    simp only [pure_bind]
    exact ih _ hr
 have e:=key scope.names [] h
 have e2:∀(m:Sem (List (Str×Addr))),(m >>= fun r=>pure r)=m:=fun m=>bind_pure m
 rw [<- e]
 first
  | rfl
  | exact (e2 _)
def l0 (scope:Scope) (C:Addr) (env:Env):Env :=
 { scope:=relabel scope env,locals:=C,globals:=env.globals,cells:=cellsFrom (C + 1) scope.names (eR env scope.names []),qual:=env.qual,func:=none,code:=env.code,frame:=env.frame,builtins:=env.builtins }
def b6 (X:Cx) (N':List Str) (scope:Scope) (s:Shared) (H:Hp) (fp:List Addr) (pins:List (Addr×Obj)):Cx :=
 { X with N:=N',s₀:=s,H₀:=H,env:=l0 scope s.heap.objs.size X.env,outer:=X.stack,stack:=X.stack,ex:=fp,fn:=fun x=>decide ((x,NameKind.cell)∈scope.names),pn:=X.pn++pins,xe:=fun _ _=>False }
def jG (sc0:Scope) (N:List Str) (scope:Scope) (N':List Str) (ix:List (Option Nat)):Bool :=
 decide (scope.kind=.function) && scope.names.all (fun y=>(!decide (y.2=.local) || decide (scope.names.lookup y.1=some .local)) &&
  (!decide (y.2=.free) || ((decide (sc0.names.lookup y.1=some .cell) || decide (sc0.names.lookup y.1=some .free)) && !decide ((y.1,NameKind.cell)∈scope.names)))) &&
 decide (N'.length=ix.length) && (N'.zip ix).all (fun p=>match p.2 with | none=>true | some j=>decide (N[j]?=some p.1) && decide (scope.names.lookup p.1=some .free))
structure l5 (env:Env) (N:List Str) (scope:Scope) (N':List Str) (ix:List (Option Nat)):Prop where
 kind:scope.kind=.function
 loc:∀y∈scope.names,y.2=.local->scope.names.lookup y.1=some .local
 free:∀y∈scope.names,y.2=.free->(env.kindOf y.1=some .cell\/env.kindOf y.1=some .free)/\(y.1,NameKind.cell)∉scope.names
 len:N'.length=ix.length
 slot:∀(i:Nat) (x:Str) (j:Nat),N'[i]?=some x->ix[i]?=some (some j)->N[j]?=some x/\scope.names.lookup x=some .free
theorem l6 {env:Env}{N:List Str}{scope:Scope}{N':List Str}{ix:List (Option Nat)} (h:jG env.scope N scope N' ix=true):l5 env N scope N' ix:=by
 unfold jG at h
 simp only [Bool.and_eq_true,decide_eq_true_eq,List.all_eq_true] at h
 obtain ⟨⟨⟨h1,h2⟩,h3⟩,h4⟩:=h
 refine ⟨h1,fun y hy e=>?_,fun y hy e=>?_,h3,fun i x j e1 e2=>?_⟩
 .have:=(h2 y hy).1
  rw [e] at this
  simpa using this
 .have:=(h2 y hy).2
  rw [e] at this
  simpa [Env.kindOf] using this
 .have hm:(x,some j)∈N'.zip ix:=by
   refine List.mem_of_getElem? (i:=i) ?_
   rw [List.getElem?_zip_eq_some]
   exact ⟨e1,e2⟩
  have:=h4 _ hm
  simpa using this
def rlf (env:Env) (p:Str×NameKind):Str×NameKind:=match p with | (n,k)=>if (k == NameKind.free && env.scope.kind == .function && env.kindOf n == some .cell) then (n,.cell) else (n,k)
theorem l8 (env:Env) (n:Str) (k:NameKind):∃k',rlf env (n,k)=(n,k')/\(k'=k\/(k=.free/\k'=.cell)):=by
 unfold rlf
 by_cases c:(k == NameKind.free && env.scope.kind == .function && env.kindOf n == some .cell)=true
 .refine ⟨.cell,if_pos c,.inr ⟨?_,rfl⟩⟩
  simp only [Bool.and_eq_true,beq_iff_eq] at c
  exact c.1.1
 .exact ⟨k,if_neg c,.inl rfl⟩
theorem j6 {env:Env}:∀{names:List (Str×NameKind)}{x:Str},names.lookup x=some .free->(names.map (rlf env)).lookup x=some .cell\/(names.map (rlf env)).lookup x=some .free
 | [],_,h=>by simp at h
 | (n,k)::r,x,h=>by
  have ih:=@j6 env r x
  obtain ⟨k',e,hk'⟩:=l8 env n k
  rw [List.map_cons,e]
  cases hx:x == n with
  | true =>
   simp only [List.lookup_cons,hx] at h ⊢
   have hk:k=.free:=Option.some.inj h
   rcases hk' with z | z
   .right;rw [z,hk]
   .left;rw [z.2]
  | false =>
   simp only [List.lookup_cons,hx] at h ⊢
   exact ih h
theorem il {env:Env}:∀{names:List (Str×NameKind)}{x:Str}{k':NameKind},(names.map (rlf env)).lookup x=some k'->k'=.cell\/k'=.free->names.lookup x=some .cell\/names.lookup x=some .free
 | [],_,_,h,_=>by simp at h
 | (n,k)::r,x,k',h,hk'=>by
  have ih:=@il env r x k'
  obtain ⟨k2,e,hk2⟩:=l8 env n k
  rw [List.map_cons,e] at h
  cases hx:x == n with
  | true =>
   simp only [List.lookup_cons,hx] at h ⊢
   have:k2=k':=Option.some.inj h
   subst this
   rcases hk2 with z | z
   .rw [<- z]
    rcases hk' with q | q
    .left;rw [q]
    .right;rw [q]
   .right;rw [z.1]
  | false =>
   simp only [List.lookup_cons,hx] at h ⊢
   exact ih h hk'
theorem iZ {x:Str}{c:Addr}:∀(names:List (Str×NameKind)) (n:Nat) (acc:List (Str×Addr)),(cellsFrom n names acc).lookup x=some c->(x,c)∈cellsFrom n names []\/acc.lookup x=some c:=by
 have app:∀(names:List (Str×NameKind)) (n:Nat) (acc:List (Str×Addr)),cellsFrom n names acc=cellsFrom n names []++acc:=by
  intro names
  induction names with
  | nil=>intro n acc;rfl
  | cons p r ih =>
   intro n acc
   obtain ⟨y,k⟩:=p
   unfold cellsFrom
   split
   .rw [ih (n + 1) ((y,n)::acc),ih (n + 1) [(y,n)],List.append_assoc];rfl
   .exact ih n acc
 intro names n acc h
 rw [app] at h
 rw [List.lookup_append] at h
 cases e:(cellsFrom n names []).lookup x with
 | some d =>
  rw [e] at h
  have:d=c:=by simpa using h
  subst this
  exact .inl (mem_of_lookup e)
 | none=>rw [e] at h;exact .inr (by simpa using h)
def l9 (ix:List (Option Nat)) (σ:St):St:=ix.map fun o=>match o with
 | none=>none
 | some j=>match σ[j]? with
  | some v=>v
  | none=>none
section
variable {X:Cx}{pins:List (Addr×Obj)}{σ:St}{H:Hp}{s:Shared}
theorem nI {N':List Str}{ix:List (Option Nat)}{scope:Scope}{fp:List Addr} (ok:l5 X.env X.N scope N' ix) (I:Inv X pins σ H s) (hf:∀b∈fp,nc X pins H b) (hfl:∀b∈fp,b < s.heap.objs.size) :
  Inv (b6 X N' scope s H fp pins) [] (l9 ix σ) H { s with heap:=pushCells (s.heap.push { cls:=.type "dict",data:=.dict #[] }) scope.names }:=by
 have hk4:∀b o,s.heap.get? b=some o->(pushCells (s.heap.push { cls:=.type "dict",data:=.dict #[] }) scope.names).get? b=some o:=fun b o e=>pushCells_keeps _ _ b o (Heap.get?_push_of_some _ e)
 have hclo:∀x c,(eR X.env scope.names []).lookup x=some c->X.env.cells.lookup x=some c:=fun x c e=>by
  rcases di scope.names [] e with ⟨h1,h2⟩ | h1
  .obtain ⟨d,hd⟩:=I.ok.has x (ok.free _ h1 rfl).1
   rw [hd] at h2 ⊢
   rw [h2];rfl
  .cases h1
 have hcl:∀x c,X.env.cells.lookup x=some c->c < s.heap.objs.size:=fun x c e=>by
  obtain ⟨v,q⟩:=I.cell x c e
  exact q.lt
 have own:=cellsFrom_ok scope.names (s.heap.push { cls:=.type "dict",data:=.dict #[] }) (s.heap.objs.size + 1) [] ⟨fun _ _ hm=>(nomatch hm),List.Pairwise.nil⟩ (by rw [Heap.size_push];exact Nat.le_refl _)
 rw [Heap.size_push] at own
 have cases:∀x c,(cellsFrom (s.heap.objs.size + 1) scope.names (eR X.env scope.names [])).lookup x=some c ->
   ((pushCells (s.heap.push { cls:=.type "dict",data:=.dict #[] }) scope.names).IsCell c none/\s.heap.objs.size + 1<=c)\/X.env.cells.lookup x=some c:=fun x c e=>by
  rcases iZ _ _ _ e with h | h
  .exact .inl (own.empty x c h)
  .exact .inr (hclo x c h)
 have fs':∀b,b∈frs X.stack->b < s.heap.objs.size:=fun b hb=>by
  rcases List.mem_cons.mp (I.stkSub b hb) with z | z
  .rw [z];exact I.lt
  .by_cases q:b < s.heap.objs.size
   .exact q
   .exact absurd z (I.nofs (Nat.not_lt.mp q))
 have cix:(b6 X N' scope s H fp pins).Ok:=by
  refine ⟨I.ok.mod,ok.kind,I.ok.glob,I.ok.blt,Nat.le_refl _,fun x y c h1 h2=>?_,fun x hx=>?_,fun x c hx e=>?_,I.ok.hd,I.ok.frames,.inl rfl,fun b hb=>⟨Nat.ne_of_lt (hfl b hb),fun x c e=>?_⟩,fun b o e=>I.bs b o e,Nat.le_trans I.ok.bsz I.sz,fun b o e hb=>?_,fun b hb=>?_,I.stack,I.stkFree⟩
  .rcases cases x c h1 with ⟨_,z⟩ | z
   .exact dh scope.names _ _ (fun w d e=>Nat.lt_succ_of_lt (hcl w d (hclo w d e))) h1 h2 z
   .rcases cases y c h2 with ⟨_,z2⟩ | z2
    .exact absurd (hcl x c z) (Nat.not_lt.mpr (Nat.le_of_succ_le z2))
    .exact I.ok.inj x y c z z2
  .have hx':scope.names.lookup x=some .cell\/scope.names.lookup x=some .free:=by
    rcases hx with z | z
    .exact il (env:=X.env) z (.inl rfl)
    .exact il (env:=X.env) z (.inr rfl)
   rcases hx' with z | z
   .exact Option.isSome_iff_exists.mp (PySem.W.cellsFrom_some scope.names _ _ (.inl z))
   .exact Option.isSome_iff_exists.mp (PySem.W.cellsFrom_some scope.names _ _ (.inr (eT _ _ (.inl (mem_of_lookup z)))))
  .have hx':(x,NameKind.cell)∈scope.names:=of_decide_eq_true hx
   rcases cases x c e with ⟨_,z⟩ | z
   .exact Nat.le_of_succ_le z
   .rcases iZ _ _ _ e with h | h
    .exact Nat.le_of_succ_le (own.empty x c h).2
    .rcases di scope.names [] h with ⟨h1,_⟩ | h1
     .exact absurd hx' (ok.free _ h1 rfl).2
     .cases h1
  .intro z
   rcases cases x c e with ⟨_,z2⟩ | z2
   .rw [z] at z2;exact absurd (hfl b hb) (Nat.not_lt.mpr (Nat.le_of_succ_le z2))
   .exact (hf b hb).2.2.2.2.1 x c z2 z
  .rcases (hf b hb).2.2.2.1 with z | z
   .exact I.ok.noex b o e z
   .exact absurd (Heap.lt_size (I.ok.bs b o e).1) (Nat.not_lt.mpr z)
  .intro z
   rcases List.mem_cons.mp (I.stkSub b z) with q | q
   .exact (hf b hb).2.1 q
   .exact (hf b hb).2.2.1 q
 refine ⟨cix,rfl,I.bare,Un.kept hk4,⟨fun _=>none,?_,fun i x v e1 e2 e3=>?_⟩,fun x c e=>?_,I.hok.fresh (Nat.le_refl _),fun x c e=>?_,fun p hp=>?_,I.hok.kept hk4,?_⟩
 .exact (Heap.Ns.new s.heap (.type "dict")).keeps (pushCells_keeps _ _)
 .have e2':∃j,ix[i]?=some (some j)/\σ[j]?=some (some v):=by
   unfold l9 at e2
   rw [List.getElem?_map] at e2
   cases q:ix[i]? with
   | none=>rw [q] at e2;cases e2
   | some o =>
    rw [q] at e2
    cases o with
    | none=>cases (Option.some.inj e2)
    | some j =>
     refine ⟨j,rfl,?_⟩
     have e2'':(match σ[j]? with | some v=>v | none=>none)=some v:=Option.some.inj e2
     cases r:σ[j]? with
     | none=>rw [r] at e2'';cases e2''
     | some w=>rw [r] at e2'';exact congrArg some e2''
  obtain ⟨j,hj,hv⟩:=e2'
  obtain ⟨hN,hfr⟩:=ok.slot i x j e1 hj
  have hk:=(ok.free _ (mem_of_lookup hfr) rfl).1
  have hvis:Vis X.env.scope x:=by
   rcases hk with z | z
   .exact .inr (.inl z)
   .exact .inr (.inr z)
  obtain ⟨m,hn,hl⟩:=I.loc
  obtain ⟨u,ru,lk⟩:=hl j x v hN hv hvis
  refine ⟨u,ru,.inr ⟨?_,?_⟩⟩
  .exact j6 (env:=X.env) hfr
  .rcases lk with ⟨z,_⟩ | ⟨_,c,hc,hcell⟩
   .rcases hk with q | q
    .rw [z] at q;cases q
    .rw [z] at q;cases q
   .refine ⟨c,?_,hcell.keeps hk4⟩
    show (cellsFrom (s.heap.objs.size + 1) scope.names (eR X.env scope.names [])).lookup x=some c
    rw [dg scope.names _ _ (ok.free _ (mem_of_lookup hfr) rfl).2]
    obtain ⟨d,hd⟩:=Option.isSome_iff_exists.mp (eT (env:=X.env) scope.names [] (.inl (mem_of_lookup hfr)))
    rw [hd,<- hclo x d hd,hc]
 .rcases cases x c e with ⟨z,_⟩ | z
  .exact ⟨none,z⟩
  .obtain ⟨v,q⟩:=I.cell x c z
   exact ⟨v,q.keeps hk4⟩
 .rcases cases x c e with ⟨_,z⟩ | z
  .exact I.hok.fresh (Nat.le_of_succ_le z)
  .exact I.freeC x c z
 .have hp':p∈X.pn++pins:=by simpa [b6] using hp
  obtain ⟨q1,q2,q3,q4,q5⟩:=I.pin p hp'
  refine ⟨hk4 _ _ q1,q2,Nat.ne_of_lt (Heap.lt_size q1),fun z=>?_,q5⟩
  rcases List.mem_cons.mp (I.stkSub p.1 z) with q | q
  .exact q3 q
  .exact q4 q
 .unfold l9
  rw [List.length_map]
  exact ok.len.symm
end
section
variable {M:Model}{A:Around}{E:Value->Shared->Prop}{s:Shared}
theorem ez {scope:Scope}{globals:Addr}{cl:List (Str×Addr)}{qual:Str}{func:Option Addr}{code:Value}{env:Env}{Q:Env->Shared->Prop}
  (hQ:Q { scope:=scope,locals:=s.heap.objs.size,globals:=globals,cells:=cellsFrom (s.heap.objs.size + 1) scope.names cl,qual:=qual,func:=func,code:=env.code,frame:=env.frame,builtins:=env.builtins }
   { s with heap:=pushCells (s.heap.push { cls:=.type "dict",data:=.dict #[] }) scope.names }) :
  wpAny M A (newFunctionEnv scope globals cl [] qual func code (some env)) Q E s:=by
 simp only [newFunctionEnv,Option.isSome_some,if_true]
 refine wpAny_bind (wpAny_alloc ?_)
 refine wpAny_bind (wpAny_layCells _ (fun name kind cells=>by cases hkc:kind == NameKind.cell <;> simp [hkc]) _ _ _ _ ?_)
 rw [show ({ s with heap:=s.heap.push { cls:=.type "dict",data:=.dict #[] } }:Shared).heap.objs.size=s.heap.objs.size + 1 from Heap.size_push ..]
 simp only [List.forIn_nil]
 exact wpAny_bind (wpAny_pure (wpAny_pure hQ))
end
section
variable {prog:Program}{w:World}{A:Around}{R:Result->Shared->Prop}{s:Shared}
theorem i5 {elt target iter:Expr}{ifs:List Expr}{scope:Scope}{pos:Pos}{it acc:Value}{env:Env} (I:Nat->Shared->Prop)
  (turn:∀n s,I n s->wpAny (model prog w) A (pyNext it) (fun r s₁=>match r with
   | none=>R (.ok .next) s₁
   | some v=>wpAny (model prog w) A (letOwnedTupleGo target it v) (fun _ s₂=>wpAny (model prog w) A (assign target env v) (fun _ s₃ =>
     wpAny (model prog w) A (forIn ifs true fun c r=>if r=true then do let ok <- isTrue c env (eval c env);pure (ForInStep.yield ok) else pure (ForInStep.yield r)) (fun ok s₄ =>
      if ok=true then wpAny (model prog w) A (eval elt env) (fun x s₅ =>
       wpAny (model prog w) A (call (.builtin "list.append") [acc,x]) (fun _ s₆=>∃m,m < n/\I m s₆) (fun _ _=>False) s₅) (fun _ _=>False) s₄
      else ∃m,m < n/\I m s₄) (fun _ _=>False) s₃) (fun _ _=>False) s₂) (fun _ _=>False) s₁) (fun _ _=>False) s)
  (n:Nat) (h:I n s) :
  codeAny (model prog w) A (.compLoop (.ListComp elt [⟨target,iter,ifs,0⟩] scope pos) 0 it acc env) R s:=by
 refine codeAny_loop rfl I (fun n s hI=>?_) n h
 show wpAny _ A ((compTurn (.ListComp elt [⟨target,iter,ifs,0⟩] scope pos) 0 it acc env).onRaise (fun x=>do noteFrame x env;theTreesLotGoes x)) _ _ s
 refine wpAny_noted ?_
 rw [compTurn_list]
 refine wpAny_bind (wpAny_standAt (wpAny_bind (wpAny_mono (turn n s hI) (fun r s₁ h₁=>?_) fun _ _ h'=>h'.elim)))
 cases r with
 | none=>exact wpAny_pure h₁
 | some v =>
  refine wpAny_bind (wpAny_mono h₁ (fun _ s₂ h₂=>?_) fun _ _ h'=>h'.elim)
  refine wpAny_bind (wpAny_mono h₂ (fun _ s₃ h₃=>wpAny_bind (wpAny_mono h₃ (fun ok s₄ h₄=>?_) fun _ _ h'=>h'.elim)) fun _ _ h'=>h'.elim)
  cases ok with
  | false=>exact wpAny_pure ⟨rfl,h₄⟩
  | true =>
   exact wpAny_bind (wpAny_bind (wpAny_mono h₄ (fun x s₅ h₅=>wpAny_bind (wpAny_mono h₅ (fun _ s₆ h₆=>wpAny_pure (wpAny_pure ⟨rfl,h₆⟩)) fun _ _ h'=>h'.elim)) fun _ _ h'=>h'.elim))
end
def PIf (X:Cx) (ifs:List Expr) (t:TT):Prop :=
 ∀(pins:List (Addr×Obj)) (s:Shared) (σ:St) (H:Hp) (Q:Bool->Hp->Prop),Inv X pins σ H s->t σ H Q ->
  wpAny (model X.prog X.w) X.A (forIn ifs true fun c r=>if r=true then do let ok <- isTrue c X.env (eval c X.env);pure (ForInStep.yield ok) else pure (ForInStep.yield r)) (TP X pins σ Q) X.xe s
def tT:TT:=fun _ H Q=>Q true H
section
variable {X:Cx}
theorem ma:PIf X [] tT:=fun _ _ _ H _ I h=>wpAny_tests_nil ⟨H,I,h⟩
end
def pX (ix:List (Option Nat)) (wi:TI) (g:TG) (tts:TT) (te:TE):TE:=fun σ H Q=>wi σ H fun J H1=>∀D,H1 D=none->∃W:Nat->Nat->St->Hp->Prop,(∃m,W 0 m (l9 ix σ) (upd H1 D (.lst [])))/\∀i m τ H2,W i m τ H2 ->
 (J.stop i H2/\Q (.ref D) H2)\/(J.go i H2/\∀x H3,J.yld i H2 x H3->g x τ H3 fun τ2 H4=>tts τ2 H4 fun ok H5=>if ok=true then te τ2 H5 fun v H6=>∃ys,H6 D=some (.lst ys)/\ys.length < sizeLine/\∃m',m' < m/\W (i + 1) m' τ2 (upd H6 D (.lst (ys++[v])))
  else ∃m',m' < m/\W (i + 1) m' τ2 H5)
section
variable {X:Cx}{tg iter elt:Expr}{ifs:List Expr}{scope:Scope}{N':List Str}{ix:List (Option Nat)}{wi:TI}{g:TG}{tts:TT}{te:TE}
theorem md {use:Option (Value->Sem Unit)}{Qf:Value->Shared->Prop}{pos p':Pos}{pins:List (Addr×Obj)}{σ:St}{H:Hp}{s:Shared}{Q:VK} (hc:X.calm=true) (ok:l5 X.env X.N scope N' ix) (hi:PI X tg iter wi)
  (blk:∀s H fp pn,PG (b6 X N' scope s H fp pn) tg g/\PIf (b6 X N' scope s H fp pn) ifs tts/\PE (b6 X N' scope s H fp pn) elt te)
  (hs:∀x,foldedSetIterable iter X.env x=pure x) (I:Inv X pins σ H s) (hw:pX ix wi g tts te σ H Q)
  (fin:∀D C H' s',Inv X pins σ H' s'->Q (.ref D) H'->(∃m,s'.heap.Ns C m)->H' C=none->X.s₀.heap.objs.size<=C->C≠X.env.locals->(∀x c,X.env.cells.lookup x=some c->c≠C)->C∉X.fs->(∀p∈X.pn++pins,p.1≠C) ->
   compPost (model X.prog X.w) X.A X.xe use Qf (.ref D) C (.ok .next) s') :
  wpAny (model X.prog X.w) X.A (comprehension (.ListComp elt [⟨tg,iter,ifs,0⟩] scope pos) scope X.env p' (newList []) false (eval iter X.env) use) Qf X.xe s:=by
 have hclos:closureFor scope X.env=pure (eR X.env scope.names []):=fT fun y hy e=>I.ok.has y.1 (ok.free y hy e).1
 refine wpAny_comprehension_free (use:=use) rfl hs hclos ok.kind ok.loc (thn (hi pins s σ H _ I hw) fun v s1 h1=>thn h1 fun itv s2 h2=>?_)
 obtain ⟨it,fp,tn,J,H2,e,I2,T,st2,f2,hW⟩:=h2
 subst e
 obtain ⟨W,⟨m0,w0⟩,turn⟩:=hW s2.heap.objs.size (I2.hok.fresh (Nat.le_refl _))
 have hfl:∀b∈fp,b < s2.heap.objs.size:=fun b hb=>by
  obtain ⟨o,e,_⟩:=T.obj 0 _ st2 b hb
  exact Heap.lt_size e
 refine wpAny_newObj_type ?_
 have I3:Inv X pins σ (upd H2 s2.heap.objs.size (.lst [])) { s2 with heap:=s2.heap.push { cls:=.type "list",dict:=none,data:=.seq ([]:List Value).toArray } } :=
  I2.laid (t':=s2.toks) (fun b o e=>Heap.get?_push_of_some _ e) (Nat.le_refl _) (show bJ X.prog X.w _ _ _ (.lst []) from ⟨Nat.zero_le _,[],0,.nil,Heap.get?_push_size _ rfl⟩)
 have st3:tn 0 (s2.heap.push { cls:=.type "list",dict:=none,data:=.seq ([]:List Value).toArray }):=T.keep 0 _ _ st2 fun b _ o e=>Heap.get?_push_of_some _ e
 have f3:∀b∈fp,nc X pins (upd H2 s2.heap.objs.size (.lst [])) b:=fun b hb=>⟨by rw [aB (Nat.ne_of_lt (hfl b hb))];exact (f2 b hb).1,(f2 b hb).2⟩
 have hfl3:∀b∈fp,b < (s2.heap.push { cls:=.type "list",dict:=none,data:=.seq ([]:List Value).toArray }).objs.size:=fun b hb=>by rw [Heap.size_push];exact Nat.lt_succ_of_lt (hfl b hb)
 generalize hs3:({ s2 with heap:=s2.heap.push { cls:=.type "list",dict:=none,data:=.seq ([]:List Value).toArray } }:Shared)=s3 at I3 ⊢
 have eh3:s3.heap=s2.heap.push { cls:=.type "list",dict:=none,data:=.seq ([]:List Value).toArray }:=by rw [<- hs3]
 rw [<- eh3] at st3 hfl3
 generalize hH3:upd H2 s2.heap.objs.size (.lst [])=H3 at I3 f3 w0
 generalize hD:s2.heap.objs.size=D at *
 refine ez ?_
 have I4:=nI ok I3 f3 hfl3
 obtain ⟨hg,ht,he⟩:=blk s3 H3 fp pins
 have st4:tn 0 (pushCells (s3.heap.push { cls:=.type "dict",data:=.dict #[] }) scope.names):=T.keep 0 _ _ st3 fun b _ o e=>pushCells_keeps _ _ b o (Heap.get?_push_of_some _ e)
 have stat:∀{H':Hp},(∀b∈fp,H' b=none)->∀b∈fp,nc (b6 X N' scope s3 H3 fp pins) [] H' b:=fun hn b hb=>by
  refine ⟨hn b hb,Nat.ne_of_lt (hfl3 b hb),I4.ok.exfs b hb,.inl hb,(I4.ok.exf b hb).2,fun p hp=>?_⟩
  have hp':p∈X.pn++pins:=by simpa [b6] using hp
  exact (f2 b hb).2.2.2.2.2 p hp'
 have loop:∀(s4:Shared),Inv (b6 X N' scope s3 H3 fp pins) [] (l9 ix σ) H3 s4->tn 0 s4.heap ->
   codeAny (model X.prog X.w) X.A (.compLoop (.ListComp elt [⟨tg,iter,ifs,0⟩] scope pos) 0 (.ref it) (.ref D) (l0 scope s3.heap.objs.size X.env)) (compPost (model X.prog X.w) X.A X.xe use Qf (.ref D) s3.heap.objs.size) s4:=by
  intro s4 I4 st4
  refine i5 (fun n s'=>∃i τ H',Inv (b6 X N' scope s3 H3 fp pins) [] τ H' s'/\tn i s'.heap/\(∀b∈fp,H' b=none)/\W i n τ H') ?_ m0 ⟨0,_,H3,I4,st4,fun b hb=>(f3 b hb).1,w0⟩
  rintro n s5 ⟨i,τ,H5,I5,st5,fr5,w5⟩
  rcases turn i n τ H5 w5 with ⟨stop,qn⟩ | ⟨go,step⟩
  .refine thn (T.done (b6 X N' scope s3 H3 fp pins) rfl rfl rfl hc i [] s5 τ H5 (fun _ _=>False) I5 (stat fr5) st5 stop) fun r s6 ⟨hr,I6⟩=>?_
   subst hr
   have I7:Inv X pins σ H5 s6:=I3.call' (ch:=fp) I6.os I6.base I6.hok I6.bare fun b hb=>⟨(f2 b hb).2.2.2.1,(f2 b hb).2.1,(f2 b hb).2.2.2.2.1,(f2 b hb).2.2.2.2.2⟩
   obtain ⟨m6,hn6,_⟩:=I6.loc
   refine fin D s3.heap.objs.size H5 s6 I7 qn ⟨m6,hn6⟩ I6.free ?_ ?_ ?_ ?_ ?_
   .exact I3.sz
   .exact Nat.ne_of_gt I3.lt
   .intro x c e z
    obtain ⟨v,q⟩:=I3.cell x c e
    have:=q.lt
    rw [z] at this
    exact Nat.lt_irrefl _ this
   .exact I3.nofs (Nat.le_refl _)
   .intro p hp z
    have:=Heap.lt_size (I3.pin p hp).1
    rw [z] at this
    exact Nat.lt_irrefl _ this
  .refine thn (T.item (b6 X N' scope s3 H3 fp pins) rfl rfl rfl hc i [] s5 τ H5 (fun _ _=>False) I5 (stat fr5) st5 go) fun r s6 ⟨u,hr,h6⟩=>?_
   subst hr
   refine thn h6 fun _ s7 ⟨x,H7,I7,r7,y7,st7,fr7⟩=>?_
   have I7':=I7.pinned (stat fr7) (T.obj _ _ st7)
   have again:∀{s8:Shared}{τ8:St}{H8:Hp},Inv (b6 X N' scope s3 H3 fp pins) ([]++iM fp s7.heap) τ8 H8 s8->(∃m',m' < n/\W (i + 1) m' τ8 H8) ->
     ∃m,m < n/\∃i τ H',Inv (b6 X N' scope s3 H3 fp pins) [] τ H' s8/\tn i s8.heap/\(∀b∈fp,H' b=none)/\W i m τ H':=fun {s8 τ8 H8} I8 ⟨m',hm,w8⟩=>by
    refine ⟨m',hm,i + 1,τ8,H8,I8.unpinned,T.keep _ _ _ st7 fun b hb o e=>(I8.pin (b,o) (List.mem_append_right _ (List.mem_append_right _ (dW hb e)))).1,fun b hb=>?_,w8⟩
    obtain ⟨o,e,d⟩:=T.obj _ _ st7 b hb
    exact (I8.pin (b,o) (List.mem_append_right _ (List.mem_append_right _ (dW hb e)))).2.1
   refine thn (hg _ s7 τ H7 x u _ I7' r7 (step x H7 y7)) fun _ s8 ⟨τ8,H8,I8,q8⟩=>?_
   refine thn (ht _ s8 τ8 H8 _ I8 q8) fun okb s9 ⟨H9,I9,q9⟩=>?_
   cases okb with
   | false =>
    rw [if_neg Bool.false_ne_true] at q9
    rw [if_neg Bool.false_ne_true]
    exact again I9 q9
   | true =>
    rw [if_pos rfl] at q9
    rw [if_pos rfl]
    refine thn (he _ s9 τ8 H9 _ I9 q9) fun v10 s10 ⟨x10,H10,I10,r10,q10⟩=>?_
    obtain ⟨ys,hD10,hz,m',hm,w10⟩:=q10
    refine thn (cW (X:=b6 X N' scope s3 H3 fp pins) _ s10 τ8 H10 (.ref D) [x10] (.ref D) [v10] (fun _ H'=>∃m',m' < n/\W (i + 1) m' τ8 H') I10 rfl (.cons r10 .nil) ⟨D,ys,x10,rfl,rfl,hD10,hz,m',hm,w10⟩) fun _ s11 ⟨_,H11,I11,_,q11⟩=>?_
    exact again I11 q11
 exact codeAny_compStart_list (loop _ I4 st4) (T.self X.A 0 _ _ _ st4 (loop _ I4 st4))
theorem me {pos:Pos} (N':List Str) (ix:List (Option Nat)) (hc:X.calm=true) (hi:PI X tg iter wi)
  (blk:∀s H fp pn,PG (b6 X N' scope s H fp pn) tg g/\PIf (b6 X N' scope s H fp pn) ifs tts/\PE (b6 X N' scope s H fp pn) elt te)
  (chk:jG X.env.scope X.N scope N' ix=true) (hs:∀x,foldedSetIterable iter X.env x=pure x:=by intro _;rfl) :
  PE X (.ListComp elt [⟨tg,iter,ifs,0⟩] scope pos) (pX ix wi g tts te):=by
 intro pins s σ H Q I hw
 rw [eval_ListComp]
 refine md (use:=none) hc (l6 chk) hi blk hs I hw fun D C H' s' I' q hm hn h1 h2 h3 h4 h5=>?_
 obtain ⟨m,hm⟩:=hm
 refine ⟨m,hm,fun h' sb=>⟨.ref D,H',?_,rfl,q⟩⟩
 exact I'.turned (t':=s'.toks) (fun b o hb e=>(sb.2 b hb).trans e) hn h2 (.inr h1) h3 h5
end
theorem mf:typeLookup (.type "list_reverseiterator") "__len__"=pure none:=by rw [typeLookup_type,builtinLookup_eq_fast];kernel_rfl
theorem nJ:typeLookup (.type "list_reverseiterator") "__length_hint__"=pure (some (.builtin "list_reverseiterator.__length_hint__")):=by rw [typeLookup_type,builtinLookup_eq_fast];kernel_rfl
section
variable {prog:Program}{w:World}{A:Around}{E:Value->Shared->Prop}{s:Shared}{I l:Addr}{items:Array Value}
theorem nK {Q:Bool->Shared->Prop}{i:Int} (hit:s.heap.IsRevIter I l i) (h:Q false s):wpAny (model prog w) A (Builtin.List.listLengthHint (.ref I)) Q E s:=by
 unfold Builtin.List.listLengthHint
 refine wpAny_bind (wpAny_specialOf hit.typeIs mf ?_)
 show wpAny _ A (specialOf (Value.ref I) (Str.ofString "__length_hint__") >>= _) _ _ _
 refine wpAny_bind (wpAny_specialOf hit.typeIs nJ ?_)
 (generalize hid:("list_reverseiterator.__length_hint__":String)=id0;(fail_if_success (clear hid id0));wp_delta;rw [show splitId id0=some ("list_reverseiterator","__length_hint__") from by subst hid;decide +kernel];subst hid)
 refine wpAny_bind (wpAny_isInstance (b:=true) hit.typeIs (by rw [isSubtype_type];kernel_rfl) ?_)
 exact wpAny_pure h
theorem kT {R:Result->Shared->Prop} (hh:A.handled=none) (hit:s.heap.IsRevIter I l ((items.size:Int) - 1)) (hl:s.heap.IsList l items) (hlI:l≠I) (hsz:items.size<=sizeLine) (Sx:Addr) (res:Value) (c₀:Nat)
  (hS:s.heap.get? Sx=some { cls:=.type "list",data:=.seq #[] c₀ }) (hSI:Sx≠I) (hSl:Sx≠l)
  (hR:∀h' tk acc' c',(∀b o,b≠Sx->b≠I->s.heap.get? b=some o->h'.get? b=some o)->h'.get? Sx=some { cls:=.type "list",dict:=none,data:=.seq acc' c',slots:=#[] } ->
   ItemsOf (fun i v=>items[items.size - 1 - i]?=some v) acc' items.size->R (.ok (.ret res)) { s with heap:=h',toks:=tk }) :
  wpAny (model prog w) A.in1 (Builtin.List.listExtendWith (.ref Sx) (.ref I) res)
   (fun fin s'=>match fin with | .done f=>R (.ok f) s' | .again c'=>c'.quiet=true/\codeAny (model prog w) A c' R s') (fun e s'=>R (.error e) s') s:=by
 have hSf:Sx∉[I,l]:=fun hm=>by
  rcases List.mem_cons.mp hm with e | e
  .exact hSI e
  .exact hSl (List.mem_singleton.mp e)
 have W:=(Walks.listRev (prog:=prog) (w:=w) (A:=A.in1) hh I l hlI items).toS
 unfold Builtin.List.listExtendWith
 refine wpAny_bind (wpAny_typeOf (T:="list_reverseiterator") hit.typeIs ?_)
 have h1:Builtin.List.listSameRef (.ref Sx) (.ref I)=false:=by simp [Builtin.List.listSameRef,hSI]
 have h2:(Value.type "list_reverseiterator" == Value.type "list")=false:=by decide
 have h3:(Value.type "list_reverseiterator" == Value.type "tuple")=false:=by decide
 simp only [h1,h2,h3,Bool.or_false,Bool.false_eq_true,if_false]
 refine wpAny_bind (wpAny_pyIter_revIter hit ?_)
 refine wpAny_bind (wpAny_holding (nK hit ?_))
 refine wpAny_ite_split (fun hab=>absurd hab (by decide)) (fun _=>?_)
 refine wpAny_pure ⟨plainId_quiet F.plain_extend_loop _,codeAny_extend_loopS W hsz Sx hSf res items.size 0 _ #[] c₀ rfl (Nat.zero_le _) ⟨Nat.zero_le _,by simpa using hit,hl⟩ hS (ItemsOf.nil _) fun s' acc' c' hm hS' hacc=>?_⟩
 rw [Moved.eq_with hm]
 refine hR s'.heap s'.toks acc' c' (fun b o hb hbI e=>hm.heap b o (fun hmem=>?_) e) hS' hacc
 rcases List.mem_cons.mp hmem with e' | hmem
 .exact hb e'
 .exact hbI (List.mem_singleton.mp hmem)
theorem im {R:Result->Shared->Prop} (hh:A.handled=none) (hit:s.heap.IsRevIter I l ((items.size:Int) - 1)) (hl:s.heap.IsList l items) (hlI:l≠I) (hsz:items.size<=sizeLine) (Sx:Addr)
  (hS:s.heap.get? Sx=some { cls:=.type "list",data:=.seq #[] }) (hSI:Sx≠I) (hSl:Sx≠l)
  (hR:∀h' tk acc' c',(∀b o,b≠Sx->b≠I->s.heap.get? b=some o->h'.get? b=some o)->h'.get? Sx=some { cls:=.type "list",dict:=none,data:=.seq acc' c',slots:=#[] } ->
   ItemsOf (fun i v=>items[items.size - 1 - i]?=some v) acc' items.size->R (.ok (.ret .none)) { s with heap:=h',toks:=tk }) :
  wpAny (model prog w) A.in1 (Builtin.«list.__init__» ⟨[.ref Sx,.ref I],[]⟩)
   (fun fin s'=>match fin with | .done f=>R (.ok f) s' | .again c'=>c'.quiet=true/\codeAny (model prog w) A c' R s') (fun e s'=>R (.error e) s') s:=by
 show wpAny _ _ (do let old <- Builtin.List.listItems (.ref Sx);Builtin.List.listUpdate (.ref Sx) (fun _=>#[]);letGo old.toList.reverse;Builtin.List.listExtendWith (.ref Sx) (.ref I) .none) _ _ s
 refine wpAny_bind ?_
 unfold Builtin.List.listItems
 refine wpAny_bind (wpAny_seqItems hS rfl (wpAny_pure ?_))
 show wpAny _ _ (updateSeq Sx (fun _=>#[]) >>= fun _=>letGo (#[]:Array Value).toList.reverse >>= fun _=>Builtin.List.listExtendWith (.ref Sx) (.ref I) .none) _ _ s
 refine wpAny_bind (wpAny_updateSeq hS rfl ?_)
 have hS₂:=Heap.get?_update_self (Obj.mapSeq (fun _=>(#[]:Array Value))) hS rfl
 have oth:∀b o,b≠Sx->s.heap.get? b=some o->(s.heap.update Sx (Obj.mapSeq (fun _=>(#[]:Array Value)))).get? b=some o :=
  fun b o hb e=>(Heap.get?_update_other _ _ (Ne.symm hb)).trans e
 refine wpAny_bind (wpAny_letGo ?_)
 refine kT hh (hit.at fun o e=>oth I o (Ne.symm hSI) e) (hl.at fun o e=>oth l o (Ne.symm hSl) e) hlI hsz Sx .none _ hS₂ hSI hSl fun h' tk acc' c' hk hS' hacc=>?_
 exact hR h' tk acc' c' (fun b o hb hbI e=>hk b o hb hbI (oth b o hb e)) hS' hacc
theorem io {Q:Value->Shared->Prop} (hh:A.handled=none) (hit:s.heap.IsRevIter I l ((items.size:Int) - 1)) (hl:s.heap.IsList l items) (hlI:l≠I) (hsz:items.size<=sizeLine)
  (hQ:∀h' tk acc' c',(∀b o,b≠I->s.heap.get? b=some o->h'.get? b=some o) ->
   h'.get? s.heap.objs.size=some { cls:=.type "list",dict:=none,data:=.seq acc' c',slots:=#[] }->ItemsOf (fun i v=>items[items.size - 1 - i]?=some v) acc' items.size->Q (.ref s.heap.objs.size) { s with heap:=h',toks:=tk }) :
  wpAny (model prog w) A (call (.type "list") [.ref I]) Q E s:=by
 refine callType_codes (Q₁:=fun obj s₁=>obj=.ref s.heap.objs.size/\s₁={ s with heap:=s.heap.push { cls:=.type "list",data:=.seq #[] } }) F.called_list (F.typeCall_list_1 _) F.entry_list_init
  (code_list_new _ ⟨rfl,rfl⟩) fun obj s₁ h₁=>?_
 obtain ⟨rfl,rfl⟩:=h₁
 have hS:(s.heap.push { cls:=.type "list",data:=.seq #[] }).get? s.heap.objs.size=some { cls:=.type "list",data:=.seq #[] }:=Heap.get?_push_size _ rfl
 have hSI:s.heap.objs.size≠I:=by
  obtain ⟨o,ho,_⟩:=hit
  exact Nat.ne_of_gt (Heap.lt_size ho)
 have hSl:s.heap.objs.size≠l:=by
  obtain ⟨o,ho,_⟩:=hl
  exact Nat.ne_of_gt (Heap.lt_size ho)
 refine ⟨⟨_,hS,rfl⟩,F.args_list_init_2 _ _,im (A:=A.in1) hh (hit.at fun o e=>Heap.get?_push_of_some _ e) (hl.push _) hlI hsz _ hS hSI hSl fun h' tk acc' c' hk hS' hacc=>?_⟩
 exact ⟨rfl,hQ h' tk acc' c' (fun b o hb e=>hk b o (Nat.ne_of_lt (Heap.lt_size e)) hb (Heap.get?_push_of_some _ e)) hS' hacc⟩
end
theorem nL {xs:List V}{its:List Value} (r:br xs its) {acc:Array Value} (h:ItemsOf (fun i v=>its.toArray[its.toArray.size - 1 - i]?=some v) acc its.toArray.size):br xs.reverse acc.toList:=by
 have e:acc.toList=its.reverse:=by
  obtain ⟨hn,hi⟩:=h
  apply List.ext_getElem?
  intro i
  by_cases hil:i < its.length
  .have hia:i < acc.size:=by rw [hn];simpa using hil
   have:=hi i acc[i] (by simp)
   rw [List.getElem?_reverse hil]
   have e1:acc.toList[i]?=some acc[i]:=by simp
   rw [e1,<- this]
   simp
  .have hna:acc.toList.length=its.length:=by simpa using hn
   rw [List.getElem?_eq_none (by omega),List.getElem?_eq_none (by rw [List.length_reverse];omega)]
 rw [e]
 exact r.reverse
section
variable {X:Cx}{e:Expr}{te:TE}{p p1 p2 pos:Pos}
theorem kU (hc:X.calm=true) (he:PE X e te) (hg1:Gl X "list") (hm1:X.mg "list"=none) (hg2:Gl X "reversed") (hm2:X.mg "reversed"=none)
  (hs:starEach [.Call (.Name "reversed" p1) [e] [] p2] X.env=[(false,eval (.Call (.Name "reversed" p1) [e] [] p2) X.env)]:=by rfl) (hs2:starEach [e] X.env=[(false,eval e X.env)]:=by rfl) :
  PE X (.Call (.Name "list" p) [.Call (.Name "reversed" p1) [e] [] p2] [] pos) (fun σ H Q=>te σ H fun x H1=>∃a xs,x=.ref a/\SqL X.K H1 a xs/\∀l,H1 l=none->Q (.ref l) (upd H1 l (.lst xs.reverse))):=by
 intro pins s σ H Q I h
 refine Call_ (eN I hg1 hm1 boot_list (PyProof.Rows.callWith_type1 ?_ hs rfl))
 rw [hs]
 show wpAny _ _ (spliced ((false,eval (.Call (.Name "reversed" p1) [e] [] p2) X.env)::backTo pos [])) _ _ s
 refine Calls.spliced_cons ?_
 refine Call_ (eN I hg2 hm2 boot_reversed (PyProof.Rows.callWith_type1 ?_ hs2 rfl))
 rw [hs2]
 show wpAny _ _ (spliced ((false,eval e X.env)::backTo p2 [])) _ _ s
 refine Calls.spliced_cons (thn (he pins s σ H _ I h) fun u s1 ⟨x,H1,I1,r1,q1⟩=>Calls.spliced_nil ?_)
 obtain ⟨a,xs,rfl,hS,q⟩:=q1
 cases r1
 obtain ⟨its,rv,pl,hz⟩:=I1.list hS
 have hlen:=rv.length
 refine call_reversed_list pl.isList ?_
 refine Calls.spliced_nil ?_
 have hal:a < s1.heap.objs.size:=by
  obtain ⟨o,ho,_⟩:=pl.isList
  exact Heap.lt_size ho
 have I2:Inv X pins σ H1 { s1 with heap:=s1.heap.push (revObj a ((its.toArray.size:Int) - 1)) }:=I1.kept (t':=s1.toks) fun b o e=>Heap.get?_push_of_some _ e
 refine io (I1.ok.hd hc) (I:=s1.heap.objs.size) (l:=a) (items:=its.toArray) ⟨_,Heap.get?_push_size _ rfl,rfl,rfl⟩ (pl.isList.push _) (Nat.ne_of_lt hal) (by rw [List.size_toArray];omega) fun h' tk acc' c' hk eL hacc=>?_
 have hfI:=I1.fpOk (H':=H1) (Nat.le_refl s1.heap.objs.size) (I1.hok.fresh (Nat.le_refl _))
 obtain ⟨f0,f1,f2,f3,f4,f5⟩:=hfI
 have hLn:H1 (s1.heap.push (revObj a ((its.toArray.size:Int) - 1))).objs.size=none:=I2.hok.fresh (Nat.le_refl _)
 have hLlt:∀b o,(s1.heap.push (revObj a ((its.toArray.size:Int) - 1))).get? b=some o->b≠(s1.heap.push (revObj a ((its.toArray.size:Int) - 1))).objs.size:=fun b o e=>Nat.ne_of_lt (Heap.lt_size e)
 have nit:∀b u,H1 b=some u->b≠s1.heap.objs.size:=fun b u e z=>by rw [z,f0] at e;cases e
 have neL:∀b u,H1 b=some u->b≠(s1.heap.push (revObj a ((its.toArray.size:Int) - 1))).objs.size:=fun b u e z=>by rw [z,hLn] at e;cases e
 have hokT:HOk X.prog X.w H1 h':=fun b u e=>by
  refine (I2.hok b u e).stay (fun c v hc q=>hk c v ?_ q) (fun _ q=>q) fun _ _ q=>q
  rcases hc with z | z
  .rw [z];exact nit b u e
  .exact nit c _ z
 refine ⟨.ref _,upd H1 (s1.heap.push (revObj a ((its.toArray.size:Int) - 1))).objs.size (.lst xs.reverse),?_,rfl,q _ hLn⟩
 refine I2.step (g':=s1.gens) (d':=s1.drawn) (t':=tk) (ch:=[s1.heap.objs.size]) (fun b hb=>?_) (fun b o _ _ hc e _=>hk b o (fun z=>hc (by simp [z])) e) (fun b o _ _ hc e _=>⟨o.slots,hk b o (fun z=>hc (by simp [z])) e⟩)
  (fun b o _ e n=>by rw [aB (hLlt b o e)];exact n) (fun b o hc e=>⟨o,hk b o (fun z=>hc (by simp [z])) e⟩) (fun b ys e=>by rw [aB (neL b _ e)];exact e) (fun b o u e=>by rw [aB (neL b _ e)];exact e)
  (fun b ps e=>⟨#[],by rw [aB (neL b _ e),e];simp⟩) (fun m hm=>?_) ?_ I2.bare
 .have e:b=s1.heap.objs.size:=by simpa using hb
  subst e
  exact ⟨f3,f1,f4,f5⟩
 .obtain ⟨o,es,ep,ho,r⟩:=hm
  exact ⟨o,es,ep,hk _ o (Ne.symm f1) ho,r⟩
 .intro b u e
  by_cases hb:b=(s1.heap.push (revObj a ((its.toArray.size:Int) - 1))).objs.size
  .subst hb
   rw [aS] at e
   cases e
   exact ⟨by rw [List.length_reverse];exact hz,acc'.toList,c',nL rv hacc,by simpa using eL⟩
  .rw [aB hb] at e
   refine (hokT b u e).stay (fun c v _ q=>q) (fun c q=>?_) fun c ys q=>?_
   .rw [aB (neL c _ q)];exact q
   .rw [aB (neL c _ q)];exact q
end
def Sq (k:Bool) (K:PySem.W.Frag) (H:Hp) (a:Addr) (xs:List V):Prop:=cond k (SqT K H a xs) (SqL K H a xs)
def stA (a b:List Nat) (i:Nat):Bool:=decide (i + b.length<=a.length/\(a.drop i).take b.length=b)
def fnd (a b:List Nat) (lo:Nat):Int:=match (List.range' lo (a.length + 1 - lo)).find? (stA a b) with | some k=>(k:Int) | none=>-1
theorem i6 (s sub:Str) (hi:Nat):∀(l:List Nat) (st:Array Nat×Nat),st.fst.size=1->(forIn l st (StrLaws.occBody s sub hi 1)).run.fst=st.fst
 | [],_,_=>rfl
 | x::l,st,h=>by
  rw [List.forIn_cons]
  unfold StrLaws.occBody
  rw [if_neg (fun z=>by have:=z.1.1.1;omega)]
  exact i6 s sub hi l (st.fst,st.snd) h
theorem i7 (s sub:Str) (hi:Nat) (p:Nat->Bool) (hp:∀i,p i=true ↔ (i + sub.length<=hi/\Builtin.Str.subAt s sub i=true)):∀(l:List Nat) (free:Nat),(∀i∈l,free<=i) ->
  (forIn l ((#[]:Array Nat),free) (StrLaws.occBody s sub hi 1)).run.fst=(match l.find? p with | some k=>#[k] | none=>#[])
 | [],_,_=>rfl
 | x::l,free,hf=>by
  rw [List.forIn_cons,List.find?_cons]
  unfold StrLaws.occBody
  have hx:free<=x:=hf x (List.mem_cons_self ..)
  cases c:p x with
  | true =>
   have hc:=(hp x).mp c
   rw [if_pos ⟨⟨⟨by simp,hx⟩,hc.1⟩,hc.2⟩]
   exact i6 s sub hi l (#[x],x + sub.length) rfl
  | false =>
   rw [if_neg (fun z=>by
    have:=(hp x).mpr ⟨z.1.2,z.2⟩
    rw [c] at this;cases this)]
   exact i7 s sub hi p hp l free fun i h=>hf i (List.mem_cons_of_mem _ h)
theorem pY (a b:List Nat) (i:Nat):Builtin.Str.subAt (S a) (S b) i=decide ((a.drop i).take b.length=b):=by
 unfold Builtin.Str.subAt
 rw [eQ]
 have e1:((S a).cps.extract i (i + b.length))=((a.drop i).take b.length).toArray:=by
  show a.toArray.extract _ _=_
  rw [List.extract_toArray,List.extract_eq_take_drop]
  congr 2
  omega
 rw [e1]
 show (((a.drop i).take b.length).toArray == b.toArray)=_
 by_cases h:(a.drop i).take b.length=b
 .rw [decide_eq_true h,h];simp
 .rw [decide_eq_false h,beq_eq_false_iff_ne]
  intro z
  exact h (by simpa using congrArg Array.toList z)
theorem pZ (a b:List Nat) (lo:Nat):(match Builtin.Str.occurrences (S a) (S b) lo (S a).length 1 with | k::_=>(k:Int) | []=>-1)=fnd a b lo:=by
 rw [StrLaws.occ_eq,eQ,i7 (S a) (S b) a.length (stA a b) (fun i=>?_) _ lo (fun i hi=>(List.mem_range'_1.mp hi).1)]
 .unfold fnd
  cases (List.range' lo (a.length + 1 - lo)).find? (stA a b) <;> rfl
 .unfold stA
  rw [pY,eQ]
  simp
section
variable {X:Cx}{tg:Expr}
def Itk (k:Bool) (K:PySem.W.Frag) (a:Addr):It:=cond k (Itt K a) (Itl K a)
def ss (K:PySem.W.Frag):R2:=fun x y H Q=>∃l b xs zs,x=.ref l/\y=.ref b/\SqL K H l xs/\SqL K H b zs/\xs.length + zs.length<=sizeLine/\∀p,H p=none->Q (.ref p) (upd H p (.lst (xs++zs)))
theorem p3:OpR X (binaryOp .Add) (ss X.K):=by
 intro pins s σ H x y v u Q I rx ry h
 obtain ⟨l,b,xs,zs,rfl,rfl,hH,hB,hz,q⟩:=h
 cases rx
 cases ry
 obtain ⟨its,r,pl,hl⟩:=I.list hH
 obtain ⟨its2,r2,pl2,hl2⟩:=I.list hB
 obtain ⟨⟨cls,dd,data,sl⟩,ho,hc,n,hd⟩:=pl.isList
 obtain ⟨⟨cls2,dd2,data2,sl2⟩,ho2,hc2,n2,hd2⟩:=pl2.isList
 simp only at hc hd hc2 hd2
 subst hc hd hc2 hd2
 have n1:=r.length
 have n2':=r2.length
 have ea:its.toArray++its2.toArray=(its++its2).toArray:=by simp
 have fin:EP X pins σ Q (.ref s.heap.objs.size) { s with heap:=s.heap.push { cls:=.type "list",data:=.seq (its.toArray++its2.toArray) } }:=by
  rw [ea]
  exact ⟨.ref _,_,I.lnew (t':=s.toks) (r.append r2) (by rw [List.length_append];omega),rfl,q _ I.fresh⟩
 exact concat_meets ⟨_,ho,rfl⟩ ⟨_,ho2,rfl⟩ noFill_list_add seq_list_add PySem.F.slot_list_add PySem.F.entry_list_add (PySem.F.args_list_add_2 _ _) (list_addW l b its.toArray its2.toArray n n2 dd dd2 sl sl2 (by simp;omega)) ⟨ho,ho2,fin⟩
end
theorem p4 {k:Bool}{K:PySem.W.Frag}{a:Addr}{xs:List V}{g:TG}{tb:TS}{D:ll}{σ:St}{H:Hp} (Pv:Nat->St->Hp->Prop) (h0:Pv 0 σ H) (hl:∀i σ H,i<=xs.length->Pv i σ H->Sq k K H a xs)
  (hs:∀i x σ H,xs[i]?=some x->Pv i σ H->g x σ H fun σ2 H2=>tb { D with nx:=Pv (i + 1),ct:=Pv (i + 1),bk:=D.nx } σ2 H2) (hd:∀σ H,Pv xs.length σ H->D.nx σ H) :
  ∃W:Nat->Nat->St->Hp->Prop,(∃m,W 0 m σ H)/\∀i m σ H,W i m σ H ->
   ((Itk k K a).stop i H/\D.nx σ H)\/((Itk k K a).go i H/\∃N:St->Hp->Prop,(∀σ' H',N σ' H'->∃m',m' < m/\W (i + 1) m' σ' H')/\∀x H',(Itk k K a).yld i H x H'->g x σ H' fun σ2 H2=>tb { D with nx:=N,ct:=N,bk:=D.nx } σ2 H2):=by
 cases k
 .exact nr (K:=K) (a:=a) Pv h0 hl hs hd
 .exact o7 (K:=K) (a:=a) Pv h0 hl hs hd
def tx (l:List Nat):V:=.str (S l)
theorem su {ws:List (List Nat)}{i:Nat}{x:V} (h:(ws.map tx)[i]?=some x):∃w,ws[i]?=some w/\x=tx w:=by
 rw [List.getElem?_map] at h
 cases e:ws[i]? with
 | none=>rw [e] at h;cases h
 | some w=>rw [e] at h;exact ⟨w,rfl,(Option.some.inj h).symm⟩
def jx (n:Nat) (d:PyData):Prop:=d.canLay0=true/\d.depth<=n
theorem jx.shaped {n:Nat}{d:PyData} (h:jx n d) (hn:n<=64):SeqAt.shaped d=true:=by
 unfold SeqAt.shaped
 rw [h.1,decide_eq_true (Nat.le_trans h.2 hn)];rfl
theorem mh {n:Nat}:∀{ds:List PyData},(∀d∈ds,jx n d)->PyData.canLayAll0 ds=true/\PyData.depthAll ds<=n
 | [],_=>⟨rfl,Nat.zero_le _⟩
 | d::ds,h=>by
  obtain ⟨a,b⟩:=mh (ds:=ds) fun x hx=>h x (List.mem_cons_of_mem _ hx)
  obtain ⟨c,e⟩:=h d List.mem_cons_self
  simp only [PyData.canLayAll0,PyData.depthAll,a,c]
  exact ⟨rfl,Nat.max_le.mpr ⟨e,b⟩⟩
theorem jx.list {n:Nat}{ds:List PyData} (h:∀d∈ds,jx n d):jx (n + 1) (.list ds):=by
 obtain ⟨a,b⟩:=mh h
 exact ⟨by simp only [PyData.canLay0];exact a,by simp only [PyData.depth];omega⟩
theorem jx.int (i:Int):jx 0 (.int i):=⟨by simp [PyData.canLay0],by simp [PyData.depth]⟩
def Lts (l:List Nat):Prop:=∀c∈l,97<=c/\c<=122
theorem Lts.nil:Lts []:=fun c h=>nomatch h
theorem Lts.app {a b:List Nat} (x:Lts a) (y:Lts b):Lts (a++b):=fun c h=>(List.mem_append.mp h).elim (x c) (y c)
theorem Lts.one {c:Nat} (h:97<=c/\c<=122):Lts [c]:=fun d hd=>by
 have:d=c:=by simpa using hd
 subst this;exact h
theorem Lts.take {a:List Nat} (x:Lts a) (n:Nat):Lts (a.take n):=fun c h=>x c (List.mem_of_mem_take h)
theorem Lts.drop {a:List Nat} (x:Lts a) (n:Nat):Lts (a.drop n):=fun c h=>x c (List.mem_of_mem_drop h)
theorem Lts.cut {a:List Nat} (x:Lts a) (lo hi:Option Int):Lts (dL a lo hi):=(x.drop _).take _
theorem Lts.rep {a:List Nat} (x:Lts a) (n:Int):Lts (lb a n):=fun c h=>by
 unfold lb at h
 obtain ⟨l,h1,h2⟩:=List.mem_flatten.mp h
 rw [List.eq_of_mem_replicate h1] at h2
 exact x c h2
theorem jx.str {l:List Nat} (h:Lts l):jx 0 (.str (S l)):=by
 refine ⟨?_,by simp [PyData.depth]⟩
 simp only [PyData.canLay0,PyData.strOk,S]
 rw [Array.all_eq_true]
 intro i hi
 have:=h l[i] (List.getElem_mem _)
 simp only [List.getElem_toArray,decide_eq_true_eq]
 omega
theorem mi (ns:List Int):∀d∈ns.map PyData.int,jx 0 d:=fun d hd=>by
 obtain ⟨i,_,rfl⟩:=List.mem_map.mp hd
 exact jx.int i
theorem kW {ws:List (List Nat)} (h:∀w∈ws,Lts w):∀d∈ws.map (fun w=>PyData.str (S w)),jx 0 d:=fun d hd=>by
 obtain ⟨i,hi,rfl⟩:=List.mem_map.mp hd
 exact jx.str (h i hi)
theorem i8 {ws:List (List Nat)} (h:∀w∈ws,Lts w):SeqAt.shaped (.list (ws.map fun w=>PyData.str (S w)))=true:=(jx.list (kW h)).shaped (by decide)
theorem nM {d:PyData} (h:SeqAt.shaped d=true):PyData.eqv d d=true:=SeqAt.eqv_refl d (SeqAt.canLay_of_shaped h)
section
variable {κ:Type} [DecidableEq κ]
def fU (kvs:List (κ×V)) (k:κ):Option V:=(kvs.find? fun kv=>decide (kv.1=k)).map (·.2)
def kX (kvs:List (κ×V)) (k:κ) (v:V):List (κ×V) :=
 if (kvs.any fun kv=>decide (kv.1=k))=true then kvs.map (fun kv=>if kv.1=k then (kv.1,v) else kv) else kvs++[(k,v)]
theorem fV {p:κ×V}{r:List (κ×V)}{k:κ} (e:p.1=k):fU (p::r) k=some p.2:=by simp [fU,List.find?_cons,e]
theorem fW {p:κ×V}{r:List (κ×V)}{k:κ} (e:¬ p.1=k):fU (p::r) k=fU r k:=by simp [fU,List.find?_cons,e]
theorem ip (k:κ):∀kvs:List (κ×V),(kvs.any fun kv=>decide (kv.1=k))=(fU kvs k).isSome
 | []=>rfl
 | p::r=>by
  rw [List.any_cons]
  by_cases e:p.1=k
  .simp only [fV e,decide_eq_true e,Bool.true_or,Option.isSome_some]
  .rw [fW e,decide_eq_false e,Bool.false_or];exact ip k r
theorem gn (kvs:List (κ×V)) (k:κ) (v:V):(kX kvs k v).length<=kvs.length + 1:=by
 unfold kX
 split
 .rw [List.length_map];omega
 .rw [List.length_append,List.length_cons,List.length_nil];omega
theorem nN {kvs:List (κ×V)}{k:κ} (v:V) (h:fU kvs k=none):kX kvs k v=kvs++[(k,v)]:=by
 unfold kX
 rw [ip,h]
 exact if_neg (by decide)
theorem jw.isSome_eq {o:Option V}{u:Option Value} (r:jw o u):o.isSome=u.isSome:=by
 cases o with
 | none=>cases u with
  | none=>rfl
  | some _=>exact (show False from r).elim
 | some _=>cases u with
  | none=>exact (show False from r).elim
  | some _=>rfl
theorem jw.getD {o:Option V}{u:Option Value}{d:V}{d':Value} (r:jw o u) (rd:bP d d'):bP (o.getD d) (u.getD d'):=by
 cases o with
 | none=>cases u with
  | none=>exact rd
  | some _=>exact (show False from r).elim
 | some _=>cases u with
  | none=>exact (show False from r).elim
  | some _=>exact r
theorem KV.val {kvs:List (κ×V)}{vs:List (κ×Value)} (r:KV kvs vs) (k:κ):jw (fU kvs k) (valueAt vs k):=by
 unfold KV at r
 induction r with
 | nil=>exact True.intro
 | @cons p q ps qs h t ih =>
  obtain ⟨h1,h2⟩:=h
  by_cases e:p.1=k
  .have e':q.1=k:=h1.symm.trans e
   have b:valueAt (q::qs) k=some q.2:=by simp [valueAt,List.find?_cons,e']
   rw [fV e,b];exact h2
  .have e':¬ q.1=k:=fun z=>e (h1.trans z)
   have b:valueAt (q::qs) k=valueAt qs k:=by simp [valueAt,List.find?_cons,e']
   rw [fW e,b];exact ih
theorem KV.any {kvs:List (κ×V)}{vs:List (κ×Value)} (r:KV kvs vs) (k:κ):(kvs.any fun kv=>decide (kv.1=k))=vs.any fun kv=>decide (kv.1=k):=by
 unfold KV at r
 induction r with
 | nil=>rfl
 | cons h t ih=>rw [List.any_cons,List.any_cons,ih,h.1]
theorem KV.repl {kvs:List (κ×V)}{vs:List (κ×Value)} (r:KV kvs vs) (k:κ) {y:V}{u:Value} (ry:bP y u) :
  KV (kvs.map fun kv=>if kv.1=k then (kv.1,y) else kv) (vs.map fun kv=>if kv.1=k then (kv.1,u) else kv):=by
 unfold KV at r ⊢
 induction r with
 | nil=>exact .nil
 | @cons p q ps qs h t ih =>
  rw [List.map_cons,List.map_cons]
  refine .cons ?_ ih
  obtain ⟨h1,h2⟩:=h
  by_cases e:p.1=k
  .rw [if_pos e,if_pos (h1.symm.trans e)];exact ⟨h1,ry⟩
  .rw [if_neg e,if_neg (fun z=>e (h1.trans z))];exact ⟨h1,h2⟩
theorem KV.put {kvs:List (κ×V)}{vs:List (κ×Value)} (r:KV kvs vs) (k:κ) {y:V}{u:Value} (ry:bP y u):KV (kX kvs k y) (stored vs k u):=by
 unfold kX stored
 rw [r.any k]
 by_cases e:(vs.any fun kv=>decide (kv.1=k))=true
 .rw [if_pos e,if_pos e];exact r.repl k ry
 .rw [if_neg e,if_neg e];exact Paired.snoc r ⟨rfl,ry⟩
theorem KV.length {kvs:List (κ×V)}{vs:List (κ×Value)} (r:KV kvs vs):kvs.length=vs.length:=Paired.length r
end
theorem mj {P:Program}{w:World}{k:Key}{u:Value} (r:bP (kV k) u):(bC P w).is k u=true:=by
 cases k with
 | inl i=>obtain ⟨t,e⟩:=(show ∃t,u=Value.int i t from r);subst e;exact jz P w i t
 | inr x=>obtain ⟨t,e⟩:=(show ∃t,u=Value.str x t from r);subst e;exact jA P w x t
theorem i9 {P:Program}{w:World}:∀{ks:List Key}{us:List Value},br (ks.map kV) us->ItemsAre (bC P w) ks us
 | [],_,r=>by rw [List.map_nil] at r;cases r;exact .nil
 | k::ks,_,r=>by
  rw [List.map_cons] at r
  cases r with
  | cons h t=>exact .cons (mj h) (i9 t)
abbrev KT (H:Hp):List (List Key×V)->List (List Key×Addr×Value)->Prop:=Paired fun p q=>p.1=q.1/\H q.2.1=some (.tup (p.1.map kV))/\bP p.2 q.2.2
theorem KT.val {H:Hp}{kvs:List (List Key×V)}{xs:List (List Key×Addr×Value)} (r:KT H kvs xs) (k:List Key):jw (fU kvs k) ((atKey xs k).map (·.2)):=by
 induction r with
 | nil=>exact True.intro
 | @cons p q ps qs h t ih =>
  obtain ⟨h1,_,h2⟩:=h
  by_cases e:p.1=k
  .have e':q.1=k:=h1.symm.trans e
   have b:atKey (q::qs) k=some q.2:=by simp [atKey,List.find?_cons,e']
   rw [fV e,b];exact h2
  .have e':¬ q.1=k:=fun z=>e (h1.trans z)
   have b:atKey (q::qs) k=atKey qs k:=by simp [atKey,List.find?_cons,e']
   rw [fW e,b];exact ih
section
variable {P:Program}{w:World}{H:Hp}{h:Heap}{a:Addr}
theorem sv {u:HO} (ok:HOk P w H h) (e:Rd H a u):bJ P w H h a u:=e.ok ok
theorem ml {kvs:List (Key×V)} (ok:HOk P w H h) (e:Rd H a (.dK kvs)):kvs.length<=sizeLine/\(a == sysModules)=false/\∃vs,KV kvs vs/\h.DictOf (bC P w) a vs :=
 show bJ P w H h a (.dK kvs) from sv ok e
theorem sw {kvs:List (Key×V)} (ok:HOk P w H h) (e:H a=some (.dK kvs)):kvs.length<=sizeLine/\(a == sysModules)=false/\∃vs,KV kvs vs/\h.DictOf (bC P w) a vs:=ml ok (.inl e)
theorem mn {ks:List Key} (ok:HOk P w H h) (e:H a=some (.tup (ks.map kV))):(tupleKind (bC P w)).is h ks a:=by
 obtain ⟨_,its,r,o,h1,h2,n,h3⟩:=(show bJ P w H h a (.tup (ks.map kV)) from ok a _ e)
 exact ⟨o,its.toArray,n,h1,h2,h3,by simpa using i9 r⟩
theorem p5 {kvs:List (List Key×V)} (ok:HOk P w H h) (e:Rd H a (.dT kvs)):kvs.length<=sizeLine/\(a == sysModules)=false /\
  ∃xs,KT H kvs xs/\h.DictOfH (tupleKind (bC P w)) a xs:=by
 obtain ⟨z,y,xs,r,o,es,ep,h1,h2,h3,h4,h5⟩:=(show bJ P w H h a (.dT kvs) from sv ok e)
 refine ⟨z,y,xs,r,o,es,ep,h1,h2,h3,h4,fun x hx=>?_,h5⟩
 have all:∀{l:List (List Key×V)}{m:List (List Key×Addr×Value)},KT H l m->∀x∈m,(tupleKind (bC P w)).is h x.1 x.2.1:=by
  intro l m q
  induction q with
  | nil=>intro x hx;exact nomatch hx
  | @cons p q ps qs hq t ih =>
   intro x hx
   rcases List.mem_cons.mp hx with e | hx
   .subst e
    exact mn ok (by rw [<- hq.1];exact hq.2.1)
   .exact ih x hx
 exact all r x hx
end
def p6 (H:Hp) (a:Addr) (y:V) (r:Option V):Prop :=
 (∃kvs k,Rd H a (.dK kvs)/\y=kV k/\r=fU kvs k)\/∃kvs k b,Rd H a (.dT kvs)/\y=.ref b/\H b=some (.tup (k.map kV))/\r=fU kvs k
theorem p6.k {H:Hp}{a:Addr}{kvs:List (Key×V)}{k:Key} (e:H a=some (.dK kvs)):p6 H a (kV k) (fU kvs k):=.inl ⟨kvs,k,.inl e,rfl,rfl⟩
section
variable {X:Cx}{pins:List (Addr×Obj)}{σ:St}{H:Hp}{s:Shared}{a:Addr}{y v:V}{u r:Value}{o:Option V}{A:Around}{E:Value->Shared->Prop}
theorem Inv.big (I:Inv X pins σ H s):sysModules < s.heap.objs.size:=by
 have h:mainGlobals < s.heap.objs.size:=(I.mod.glob.keeps I.bk).lt
 exact Nat.lt_trans (by decide) h
theorem vB {Q:Value->Shared->Prop} (hu:A.units + 1 < cLine) (I:Inv X pins σ H s) (g:p6 H a y o) (ry:bP y u) (h:∀s',Inv X pins σ H s'->Q (.bool o.isSome) s') :
  wpAny (model X.prog X.w) A (compareOp .In u (.ref a)) Q E s:=by
 rcases g with ⟨kvs,k,e,ey,l⟩ | ⟨kvs,k,b,e,ey,eb,l⟩
 .subst ey
  obtain ⟨z,hd,vs,rel,dd⟩:=ml I.hok e
  refine wpAny_in_of (mj ry) hd dd.mapOf ?_
  rw [<- (rel.val k).isSome_eq,<- l]
  exact h _ (I.tok _)
 .subst ey
  cases (show u=Value.ref b from ry)
  obtain ⟨z,hd,xs,rel,dd⟩:=p5 I.hok e
  refine wpAny_in_heap (tupleKind_room_in1 hu) (mn I.hok eb) hd dd ?_
  have q:=(rel.val k).isSome_eq
  rw [Option.isSome_map] at q
  rw [<- q,<- l]
  exact h _ (I.tok _)
theorem mq {h':Heap}{t':Nat}{ob:HO} (I:Inv X pins σ H s) (mu:Mut (H a)) (hs:Heap.SameBut a s.heap h') (he:∃q,h'.get? a=some q) (new:bJ X.prog X.w (upd H a ob) h' a ob) :
  Inv X pins σ (upd H a ob) { s with heap:=h',toks:=t' } :=
 I.write (x:=a) (e:=a) mu (.inl rfl) (fun b q hb z=>(hs.2 b hb).trans z) he new
theorem oE {P:Program}{w:World}{H':Hp}{h':Heap}{kvs:List (Key×V)}{vs:List (Key×Value)} (z:kvs.length<=sizeLine) (hd:(a == sysModules)=false) (rel:KV kvs vs) (dd:h'.DictOf (bC P w) a vs) :
  bJ P w H' h' a (.dK kvs):=⟨z,hd,vs,rel,dd⟩
end
section
variable {X:Cx}{pins:List (Addr×Obj)}{σ:St}{H:Hp}{s:Shared}{a:Addr}{kvs:List (Key×V)}{k:Key}{u:Value}{A:Around}{E:Value->Shared->Prop}
theorem uh {Q:Value->Shared->Prop} (I:Inv X pins σ H s) (e:Rd H a (.dK kvs)) (h:∀t s',Inv X pins σ H s'->Q (.int kvs.length t) s'):wpAny (model X.prog X.w) A (call (.builtin "len") [.ref a]) Q E s:=by
 obtain ⟨z,hd,vs,rel,dd⟩:=ml I.hok e
 refine call_len_dict hd dd (by rw [<- rel.length];rw [sizeLine_eq] at z;omega) ?_
 rw [<- rel.length]
 exact h _ _ (I.tok _)
end
theorem nO {P:Program}{w:World}{H:Hp} (h:Heap) (hb:sysModules < h.objs.size):bJ P w H (h.push { cls:=.type "dict",data:=.dict #[] }) h.objs.size (.dK []) :=
 ⟨Nat.zero_le _,beq_eq_false_iff_ne.mpr (Ne.symm (Nat.ne_of_lt hb)),[],.nil,Heap.DictOf.new h⟩
def mr:List (TE×TE)->St->Hp->(List (V×V)->Hp->Prop)->Prop
 | [],_,H,Q=>Q [] H
 | (tk,tv)::r,σ,H,Q=>tk σ H fun x H1=>tv σ H1 fun y H2=>mr r σ H2 fun ps H3=>Q ((x,y)::ps) H3
abbrev VV:List (V×V)->List (Value×Value)->Prop:=Paired fun p q=>bP p.1 q.1/\bP p.2 q.2
def PPs (X:Cx) (pos:Pos) (keys:List (Option Expr)) (values:List Expr) (trs:List (TE×TE)):Prop :=
 ∀(pins:List (Addr×Obj)) (s:Shared) (σ:St) (H:Hp) (Q:List (V×V)->Hp->Prop),Inv X pins σ H s->mr trs σ H Q ->
  wpAny (model X.prog X.w) X.A (evalPairs (pairTrees keys values X.env pos)) (fun vs s'=>∃ps H',Inv X pins σ H' s'/\VV ps vs/\Q ps H') X.xe s
theorem p7 {X:Cx}{pos:Pos}:PPs X pos [] [] []:=fun pins s σ H Q I h=>pairTrees_nil_walk ⟨[],H,I,.nil,h⟩
theorem nP {X:Cx}{pos:Pos}{k v:Expr}{ks:List (Option Expr)}{vs:List Expr}{tk tv:TE}{trs:List (TE×TE)} (hk:PE X k tk) (hv:PE X v tv) (hr:PPs X pos ks vs trs) :
  PPs X pos (some k::ks) (v::vs) ((tk,tv)::trs):=fun pins s σ H Q I h =>
 pairTrees_cons_walk (thn (hk pins s σ H _ I h) fun u s1 ⟨x,H1,I1,rx,q1⟩=>thn (hv pins s1 σ H1 _ I1 q1) fun w2 s2 ⟨y,H2,I2,ry,q2⟩ =>
  thn (hr pins s2 σ H2 _ I2 q2) fun ws s3 ⟨ps,H3,I3,rel,q3⟩=>⟨(x,y)::ps,H3,I3,.cons ⟨rx,ry⟩ rel,q3⟩)
def gX (kvs more:List (Key×V)):List (Key×V):=more.foldl (fun acc kv=>kX acc kv.1 kv.2) kvs
theorem KV.merge:∀{more:List (Key×V)}{rs:List (Key×Value)}{kvs:List (Key×V)}{vs:List (Key×Value)},KV more rs->KV kvs vs->KV (gX kvs more) (merged vs rs):=by
 intro more rs kvs vs r
 unfold KV at r
 induction r generalizing kvs vs with
 | nil=>intro q;exact q
 | @cons p q ps qs h t ih =>
  intro r0
  have e:KV (kX kvs p.1 p.2) (stored vs q.1 q.2):=by
   have:=r0.put p.1 h.2
   rw [<- h.1];exact this
  exact ih e
theorem eU:∀(more kvs:List (Key×V)),(gX kvs more).length<=kvs.length + more.length
 | [],kvs=>by show kvs.length<=kvs.length + 0;omega
 | p::r,kvs=>by
  have h1:=eU r (kX kvs p.1 p.2)
  have h2:=gn kvs p.1 p.2
  show (gX (kX kvs p.1 p.2) r).length<=_
  rw [List.length_cons];omega
theorem gY {P:Program}{w:World}:∀{kvs:List (Key×V)}{ws:List (Value×Value)},VV (kvs.map fun kv=>(kV kv.1,kv.2)) ws->∃rs,Carries (bC P w) ws rs/\KV kvs rs
 | [],_,r=>by rw [List.map_nil] at r;cases r;exact ⟨[],True.intro,.nil⟩
 | p::kvs,_,r=>by
  rw [List.map_cons] at r
  cases r with
  | @cons a b as bs h t =>
   obtain ⟨rs,c,q⟩:=gY (P:=P) (w:=w) t
   obtain ⟨b1,b2⟩:=b
   exact ⟨(p.1,b2)::rs,⟨mj h.1,rfl,c⟩,.cons ⟨rfl,h.2⟩ q⟩
def sx (trs:List (TE×TE)):TE:=fun σ H Q=>∀p,H p=none->mr trs σ (upd H p (.dK [])) fun ps H2=>H2 p=some (.dK [])/\∃kvs:List (Key×V),ps=kvs.map (fun kv=>(kV kv.1,kv.2))/\kvs.length<=15/\Q (.ref p) (upd H2 p (.dK (gX [] kvs)))
theorem p8 {X:Cx}{pos:Pos}{keys:List (Option Expr)}{values:List Expr}{trs:List (TE×TE)} (h:PPs X pos keys values trs) (hall:keys.all (·.isSome)=true) (hl:keys.length=values.length) (h0:keys≠[])
  (h15:keys.length<=15):PE X (.Dict keys values pos) (sx trs):=by
 intro pins s σ H Q I q
 have hn:=I.hok.fresh (Nat.le_refl s.heap.objs.size)
 have I1:=I.laid (a:=s.heap.objs.size) (o:=.dK []) (h':=s.heap.push { cls:=.type "dict",data:=.dict #[] }) (t':=s.toks) (fun _ _ q=>Heap.get?_push_of_some _ q) (Nat.le_refl _) (nO s.heap I.big)
 refine wpAny_Dict_walk (knd:=bC X.prog X.w) hall hl h0 h15 (thn (h pins _ σ _ _ I1 (q _ hn)) fun ws s2 ⟨ps,H2,I2,rel,e,kvs,ep,lk,q2⟩=>?_)
 subst ep
 obtain ⟨rs,c,rk⟩:=gY (P:=X.prog) (w:=X.w) rel
 obtain ⟨z,hd,vs0,r0,dd⟩:=sw I2.hok e
 cases r0
 refine ⟨rs,c,dd,fun h' dd' hs=>⟨.ref s.heap.objs.size,_,?_,rfl,q2⟩⟩
 have hz:(gX [] kvs).length<=sizeLine:=by
  have h1:=eU kvs []
  rw [List.length_nil] at h1
  rw [sizeLine_eq];omega
 have he:∃q,h'.get? s.heap.objs.size=some q:=let ⟨q,_,_,hq,_⟩:=dd';⟨q,hq⟩
 exact mq I2 (by rw [e];exact True.intro) hs he (oE hz hd (rk.merge .nil) dd')
structure M1 (X:Cx) (o:Expr) (m:Str) (apos:Pos) (e:Expr) (cpos:Pos):Prop where
 base:attributeBase o m X.env (eval o X.env)=eval o X.env
 few:((backTo cpos (starEach [e] X.env)).all (fun x=>!x.1) && (backToKw cpos (keywordEach [] X.env)).all (fun x=>x.1.isSome)
  && decide (([e]:List Expr).length + ([]:List Keyword).length + (if ([]:List Keyword).isEmpty then 0 else 1) < 30))=true
 line:(apos.endLine == cpos.line)=true
 trees:backTo cpos (starEach [e] X.env)=[(false,eval e X.env)]
structure M2 (X:Cx) (o:Expr) (m:Str) (apos:Pos) (e f:Expr) (cpos:Pos):Prop where
 base:attributeBase o m X.env (eval o X.env)=eval o X.env
 few:((backTo cpos (starEach [e,f] X.env)).all (fun x=>!x.1) && (backToKw cpos (keywordEach [] X.env)).all (fun x=>x.1.isSome)
  && decide (([e,f]:List Expr).length + ([]:List Keyword).length + (if ([]:List Keyword).isEmpty then 0 else 1) < 30))=true
 line:(apos.endLine == cpos.line)=true
 trees:backTo cpos (starEach [e,f] X.env)=[(false,eval e X.env),(false,eval f X.env)]
def IsD (H:Hp) (a:Addr):Prop:=(∃kvs,Rd H a (.dK kvs))\/∃kvs,Rd H a (.dT kvs)
theorem oF {X:Cx}{pins:List (Addr×Obj)}{σ:St}{H:Hp}{s:Shared}{a:Addr} (I:Inv X pins σ H s) (d:IsD H a) :
  s.TypeIs (.ref a) "dict"/\(∀b,Value.ref a=.ref b->∃ob,s.heap.get? b=some ob/\ob.dict=none)/\(a == sysModules)=false:=by
 rcases d with ⟨kvs,e⟩ | ⟨kvs,e⟩
 .obtain ⟨_,hd,vs,_,dd⟩:=ml I.hok e
  refine ⟨dd.typeIs,fun b q=>?_,hd⟩
  cases q
  obtain ⟨ob,_,_,h1,h2,_⟩:=dd
  exact ⟨ob,h1,h2.2.1⟩
 .obtain ⟨_,hd,xs,_,dd⟩:=p5 I.hok e
  refine ⟨dd.typeIs,fun b q=>?_,hd⟩
  cases q
  obtain ⟨ob,_,_,h1,h2,_⟩:=dd
  exact ⟨ob,h1,h2.2.1⟩
section
variable {X:Cx}{pins:List (Addr×Obj)}{σ:St}{H:Hp}{s:Shared}{a:Addr}{y d:V}{u r:Value}{o:Option V}{A:Around}{E:Value->Shared->Prop}
theorem sy {Q:Value->Shared->Prop} (hu:A.units + 1 < cLine) (I:Inv X pins σ H s) (g:p6 H a y o) (ry:bP y u) (h:∀w' s',Inv X pins σ H s'->bP (o.getD .non) w'->Q w' s') :
  wpAny (model X.prog X.w) A (call (.builtin "dict.get") [.ref a,u]) Q E s:=by
 rcases g with ⟨kvs,k,e,ey,l⟩ | ⟨kvs,k,b,e,ey,eb,l⟩
 .subst ey
  obtain ⟨z,hd,vs,rel,dd⟩:=ml I.hok e
  refine call_meetsIn PySem.F.slot_dict_get dd.typeIs PySem.F.entry_dict_get (PySem.F.args_dict_get_2 _ _) (meets_dict_get (bC X.prog X.w) a (mj ry) hd) ⟨_,dd.mapOf,h _ _ (I.tok _) ?_⟩
  rw [l]
  exact (rel.val k).getD rfl
 .subst ey
  cases (show u=Value.ref b from ry)
  obtain ⟨z,hd,xs,rel,dd⟩:=p5 I.hok e
  refine call_meetsIn PySem.F.slot_dict_get dd.typeIs PySem.F.entry_dict_get (PySem.F.args_dict_get_2 _ _) (meetsH_dict_get (tupleKind (bC X.prog X.w)) a b hd) ⟨tupleKind_room_in1 hu,k,xs,mn I.hok eb,dd,h _ _ (I.tok _) ?_⟩
  rw [l]
  exact (rel.val k).getD rfl
end
def oG (td ty:TE):TE:=fun σ H Q=>td σ H fun x H1=>∃a,x=.ref a/\IsD H1 a/\ty σ H1 fun y H2=>∃o,p6 H2 a y o/\Q (o.getD .non) H2
section
variable {X:Cx}{o e f:Expr}{apos cpos:Pos}{td ty tx:TE}
theorem nQ (hu:X.A.units + 1 < cLine) (ho:PE X o td) (he:PE X e ty) (m:M1 X o "get" apos e cpos):PE X (.Call (.Attribute o "get" apos) [e] [] cpos) (oG td ty):=by
 intro pins s σ H Q I h
 refine wpAny_Call_method m.base m.few m.line PySem.F.plainAttrs_dict PySem.F.slot_dict_get PySem.F.type_dict_get (thn (ho pins s σ H _ I h) fun u s1 ⟨x,H1,I1,rx,a,ex,d,q1⟩=>?_)
 subst ex
 obtain rfl:u=Value.ref a:=rx
 obtain ⟨t1,t2,_⟩:=oF I1 d
 refine ⟨t1,t2,?_⟩
 rw [m.trees]
 refine Calls.callWith_builtin rfl (Calls.evalArgs_plain (Calls.spliced_cons (thn (he pins s1 σ H1 _ I1 q1) fun iv s2 ⟨y,H2,I2,ry,ov,g,q2⟩=>Calls.spliced_nil ?_)))
 exact sy hu I2 g ry fun w' s3 I3 rw'=>⟨_,H2,I3,rw',q2⟩
end
section
variable {X:Cx}{k:Nat}{x:Str}{ps:List Str}{sp:Sp}{p pos:Pos}{e:Expr}{es:List Expr}{t:TA}{dvs:List V}
theorem ms:OpR X (compareOp .IsNot) (fun x y H Q=>∃b c,x=.bl b/\y=.bl c/\Q (.bl (!decide (b=c))) H):=by
 intro pins s σ H x y v u Q I rx ry h
 obtain ⟨b,c,rfl,rfl,q⟩:=h
 cases (show v=Value.bool b from rx)
 cases (show u=Value.bool c from ry)
 cases b <;> cases c <;> exact wpAny_pure (a5 I q (by first | rfl | decide))
end
section
variable {X:Cx}{pins:List (Addr×Obj)}{σ:L2.St}{H:Hp}{s:Shared}{a:Addr}{kvs:List (Key×V)}{k:Key}{d:V}{u r:Value}{A:Around}{E:Value->Shared->Prop}
theorem nR {Q:Value->Shared->Prop} (I:Inv X pins σ H s) (e:H a=some (.dK kvs)) (ry:bP (kV k) u) (rd:bP d r) (hl:kvs.length < sizeLine)
  (h1:∀v w' s',fU kvs k=some v->Inv X pins σ H s'->bP v w'->Q w' s') (h2:fU kvs k=none->∀s',Inv X pins σ (upd H a (.dK (kX kvs k d))) s'->Q r s') :
  wpAny (model X.prog X.w) A (call (.builtin "dict.setdefault") [.ref a,u,r]) Q E s:=by
 obtain ⟨z,hd,vs,rel,dd⟩:=sw I.hok e
 have hz:vs.length<=sizeLine:=by rw [<- rel.length];exact z
 have hp:(kX kvs k d).length<=sizeLine:=by have:=gn kvs k d;omega
 refine call_meetsIn PySem.F.slot_dict_setdefault dd.typeIs PySem.F.entry_dict_setdefault (PySem.F.args_dict_setdefault_3 _ _ _) (kt_meets_setdefault (bC X.prog X.w) a (mj ry) hd r) ⟨vs,dd,hz,fun v hv=>?_,fun hn h' dd' hs=>?_⟩
 .have rv:=rel.val k
  rw [hv] at rv
  cases hk:fU kvs k with
  | none=>rw [hk] at rv;exact rv.elim
  | some y=>rw [hk] at rv;exact h1 y v _ hk (I.tok _) rv
 .have rv:=rel.val k
  rw [hn] at rv
  have hk:fU kvs k=none:=by
   cases hk:fU kvs k with
   | none=>rfl
   | some y=>rw [hk] at rv;exact rv.elim
  have he:∃q,h'.get? a=some q:=let ⟨q,_,_,hq,_⟩:=dd';⟨q,hq⟩
  exact h2 hk _ (mq I (by rw [e];exact True.intro) hs he (oE hp hd (rel.put k rd) dd'))
end
def sA (td ty tx:TE):TE:=fun σ H Q=>td σ H fun x H1=>∃a,x=.ref a/\IsD H1 a/\ty σ H1 fun y H2=>tx σ H2 fun z H3=>∃kvs k,H3 a=some (.dK kvs)/\y=kV k/\kvs.length < sizeLine /\
 (∀v,fU kvs k=some v->Q v H3)/\(fU kvs k=none->Q z (upd H3 a (.dK (kX kvs k z))))
section
variable {X:Cx}{o e f:Expr}{apos cpos:Pos}{td ty tx:TE}
theorem p9 (ho:PE X o td) (he:PE X e ty) (hf:PE X f tx) (m:M2 X o "setdefault" apos e f cpos):PE X (.Call (.Attribute o "setdefault" apos) [e,f] [] cpos) (sA td ty tx):=by
 intro pins s σ H Q I h
 refine wpAny_Call_method m.base m.few m.line PySem.F.plainAttrs_dict PySem.F.slot_dict_setdefault PySem.F.type_dict_setdefault (thn (ho pins s σ H _ I h) fun u s1 ⟨x,H1,I1,rx,a,ex,d,q1⟩=>?_)
 subst ex
 obtain rfl:u=Value.ref a:=rx
 obtain ⟨t1,t2,_⟩:=oF I1 d
 refine ⟨t1,t2,?_⟩
 rw [m.trees]
 refine Calls.callWith_builtin rfl (Calls.evalArgs_plain (Calls.spliced_cons (thn (he pins s1 σ H1 _ I1 q1) fun iv s2 ⟨y,H2,I2,ry,q2⟩ =>
  Calls.spliced_cons (thn (hf pins s2 σ H2 _ I2 q2) fun fv s3 ⟨z,H3,I3,rz,kvs,k,ea,ey,hl,qa,qb⟩=>Calls.spliced_nil ?_))))
 subst ey
 exact nR I3 ea ry rz hl (fun v w' s4 hv I4 rw'=>⟨v,H3,I4,rw',qa v hv⟩) (fun hn s4 I4=>⟨z,_,I4,rz,qb hn⟩)
theorem mv:ci X (.builtin "len") (fun xs H Q=>∃p kvs,xs=[.ref p]/\Rd H p (.dK kvs)/\Q (.int kvs.length) H):=by
 intro pins s σ H xs us Q I r h
 obtain ⟨p,kvs,rfl,hd,q⟩:=h
 obtain ⟨u,rfl,ru⟩:=jB r
 cases (show u=Value.ref p from ru)
 exact uh I hd fun t s' I'=>⟨.int kvs.length,H,I',⟨t,rfl⟩,q⟩
end
def aY (K:PySem.W.Frag) (x:Str):Addr:=match PySem.W.nsIn K mainGlobals x with
 | some (some (.ref C))=>C
 | _=>0
theorem nS {K:PySem.W.Frag}{x:Str}{C:Addr} (h:PySem.W.nsIn K mainGlobals x=some (some (.ref C))):aY K x=C:=by unfold aY;rw [h]
structure nT (P:Program) (w:World) (K:PySem.W.Frag) (mg:Str->Option Value) (base:Heap) (k:Nat) (C:Addr) (m:Str) (ps:List Str) (sp:Sp):Prop where
 ex:∃(f:Addr) (fd:FuncData),ie P w K mg base CX0 k f fd ps sp/\fS K fd ps []/\rL K C m f
structure sB (P:Program) (w:World) (K:PySem.W.Frag) (mg:Str->Option Value) (base:Heap) (k:Nat) (C:Addr) (x:Str) (ps:List Str) (sp:Sp):Prop where
 ex:∃(f:Addr) (fd:FuncData),ie P w K mg base CX0 k f fd ps sp/\fS K fd ps []/\Mk K C f/\mg x=some (.ref C)
structure fF (K:PySem.W.Frag) (C:Addr) (m qual:Str) (st:Stmt):Prop where
 ex:∃(f:Addr) (fd:FuncData),Fun K m qual st f fd/\rL K C m f
structure j7 (K:PySem.W.Frag) (mg:Str->Option Value) (C:Addr) (x qual:Str) (st:Stmt):Prop where
 ex:∃(f:Addr) (fd:FuncData),Fun K "__init__" qual st f fd/\Mk K C f/\mg x=some (.ref C)
section
variable {P:Program}{w:World}{K:PySem.W.Frag}{mg:Str->Option Value}{base:Heap}{x m qual:Str}{C:Addr}{st:Stmt}{N ps:List Str}{k:Nat}{sp:Sp}
theorem fF.ok (D:fF K C m qual st) (S:ba N ps (ap st))
  (hb:∀(kV doc pm:Value) (an:Option Addr) (cdv ct:Value) (us:List Value),us.length=ps.length->bindArgs (PySem.W.fnOf m qual (bQ st) (bn st) (ap st) .none kV doc pm an cdv ct) ⟨us,[]⟩=pure (ps.zip us))
  (len:∀vs H Q E,sp vs H Q E->vs.length=ps.length)
  (hbody:∀(f:Addr) (cdv:Value) (A:Around) (outer:List Env) (s:Shared) (H:Hp) (vs:List V) (Q:VK) (E:XK),dX k (A.deeper (envOfC qual (ap st) s.heap.objs.size f cdv))->sp vs H Q E ->
   ∃t,PSs (nz CX0 P w K mg base N qual (ap st) f cdv A outer s H E).nox (bn st) t/\t { nx:=fun _ H'=>Q .non H',rt:=Q } (start N vs) H):nT P w K mg base (k + 1) C m ps sp:=by
 obtain ⟨f,fd,F,hm⟩:=D.ex
 exact ⟨f,fd,F.ok S len fun cdv A outer s H vs Q E hr h=>hbody f cdv A outer s H vs Q E hr h,F.binds hb,hm⟩
theorem j7.ok (D:j7 K mg C x qual st) (S:ba N ps (ap st))
  (hb:∀(kV doc pm:Value) (an:Option Addr) (cdv ct:Value) (us:List Value),us.length=ps.length->bindArgs (PySem.W.fnOf "__init__" qual (bQ st) (bn st) (ap st) .none kV doc pm an cdv ct) ⟨us,[]⟩=pure (ps.zip us))
  (len:∀vs H Q E,sp vs H Q E->vs.length=ps.length)
  (hbody:∀(f:Addr) (cdv:Value) (A:Around) (outer:List Env) (s:Shared) (H:Hp) (vs:List V) (Q:VK) (E:XK),dX k (A.deeper (envOfC qual (ap st) s.heap.objs.size f cdv))->sp vs H Q E ->
   ∃t,PSs (nz CX0 P w K mg base N qual (ap st) f cdv A outer s H E).nox (bn st) t/\t { nx:=fun _ H'=>Q .non H',rt:=Q } (start N vs) H):sB P w K mg base (k + 1) C x ps sp:=by
 obtain ⟨f,fd,F,hm,e⟩:=D.ex
 exact ⟨f,fd,F.ok S len fun cdv A outer s H vs Q E hr h=>hbody f cdv A outer s H vs Q E hr h,F.binds hb,hm,e⟩
end
section
variable {X:Cx}{k:Nat}{x m:Str}{C:Addr}{ps:List Str}{sp:Sp}{p pos apos:Pos}{o e:Expr}{es:List Expr}{ta:TE}{t:TA}
theorem qc (M:sB X.prog X.w X.K X.mg X.base k C x ps sp) (hr:dX (k + 1) X.A) (ha:PA X (e::es) t) (hg:Gl X x:=by rfl) (hdb:(x == ("__debug__":Str))=false:=by decide) (he:starEach (e::es) X.env=(false,eval e X.env)::starEach es X.env:=by rfl)
  (hpl:(backTo pos (starEach es X.env)).any (·.1)=false:=by rfl):PE X (.Call (.Name x p) (e::es) [] pos) (lG C sp [] E0 t):=by
 obtain ⟨f,fd,F,hb,hk,hm⟩:=M.ex
 exact pH hk F hr hg hm hb .nil nF ha hdb he hpl
theorem fk {pl:Sem Bool} (he:PE X o ta) (c:Cls X.K C) (M:nT X.prog X.w X.K X.mg X.base k C m ps sp) (hr:dX k X.A) (ha:PA X (e::es) t)
  (hst:starEach (e::es) X.env=(false,eval e X.env)::starEach es X.env:=by rfl) (hpl:(backTo pos (starEach es X.env)).any (·.1)=false:=by rfl)
  (ht:eval (.Call (.Attribute o m apos) (e::es) [] pos) X.env=(do
   let ov <- eval o X.env
   standAt apos.atName
   let (f,first) <- holding [ov] (getMethod ov m pl)
   callWith pos f first (backTo pos (starEach (e::es) X.env)) (backToKw pos (keywordEach [] X.env))):=by rfl) :
  PE X (.Call (.Attribute o m apos) (e::es) [] pos) (lF C m sp [] E0 ta t):=by
 obtain ⟨f,fd,F,hb,hm⟩:=M.ex
 exact pG (pl:=pl) he c hm F hr hb .nil nF ha hst hpl ht
theorem j8 {pl:Sem Bool} (he:PE X o ta) (c:Cls X.K C) (M:nT X.prog X.w X.K X.mg X.base k C m ps sp) (hr:dX k X.A)
  (ht:eval (.Call (.Attribute o m apos) [] [] pos) X.env=(do
   let ov <- eval o X.env
   standAt apos.atName
   let (f,first) <- holding [ov] (getMethod ov m pl)
   callWith pos f first (backTo pos (starEach [] X.env)) (backToKw pos (keywordEach [] X.env))):=by rfl) :
  PE X (.Call (.Attribute o m apos) [] [] pos) (lF C m sp [] E0 ta j2):=by
 obtain ⟨f,fd,F,hb,hm⟩:=M.ex
 exact nv (pl:=pl) he c hm F hr hb .nil nF ht
end
section
variable {X:Cx}{e:Expr}{ta:TE}{f:Str}{pos:Pos}
theorem eA (K:PySem.W.Frag) (eK:X.K=K) (he:PE X e ta) (hb:attributeBase e f X.env (eval e X.env)=eval e X.env):PE X (.Attribute e f pos) (pA K ta f):=eK ▸ rM he hb
def ui (K:PySem.W.Frag):List V->Hp->VK->Prop:=fun xs H Q=>∃p ys,xs=[.ref p]/\SqL K H p ys/\Q (.int ys.length) H
def uj (K:PySem.W.Frag):List V->Hp->VK->Prop:=fun xs H Q=>∃p ys,xs=[.ref p]/\SqT K H p ys/\Q (.int ys.length) H
def vh (K:PySem.W.Frag):List V->Hp->VK->Prop:=fun xs H Q=>∃x n t b,xs=[x,.ty n]/\jC K H x t/\PySem.W.kitOne K t (.type n)=some b/\Q (.bl b) H
def mw (K:PySem.W.Frag):List V->Hp->VK->Prop:=fun xs H Q=>∃p ys,xs=[.ref p]/\(SqL K H p ys\/SqT K H p ys)/\∀l,H l=none->Q (.ref l) (upd H l (.lst ys))
end
section
variable {X:Cx}{o e:Expr}{es:List Expr}{to:TE}{t:TA}{name:Str}{apos cpos:Pos}{T id:String}{r:V->List V->Hp->VK->Prop}
theorem gZ (K:PySem.W.Frag) (eK:X.K=K) (pa:PlainAttrs T) (slot:Slot T name id) (hty:typeOf (.builtin id)=pure (.type "method_descriptor")) (hm:MtR X id r) (ho:PE X o to) (ha:PA X (e::es) t)
  (hbase:attributeBase o name X.env (eval o X.env)=eval o X.env:=by rfl)
  (hfew:((backTo cpos (starEach (e::es) X.env)).all (fun x=>!x.1) && (backToKw cpos (keywordEach [] X.env)).all (fun x=>x.1.isSome)
   && decide ((e::es).length + ([]:List Keyword).length + (if ([]:List Keyword).isEmpty then 0 else 1) < 30))=true:=by rfl)
  (hline:(apos.endLine == cpos.line)=true:=by rfl) (hs:starEach (e::es) X.env=(false,eval e X.env)::starEach es X.env:=by rfl) (hplain:(backTo cpos (starEach es X.env)).any (·.1)=false:=by rfl) :
  PE X (.Call (.Attribute o name apos) (e::es) [] cpos) (tBM K T r to t):=eK ▸ uc pa slot hty hm ho ha hbase hfew hline hs hplain
end
def gp (c:Bool) (A B:Prop):Prop:=match c with | true=>A | false=>B
theorem vi {c:Bool}{A B:Prop} (h1:c=true->A) (h2:c=false->B):gp c A B:=by
 cases c with
 | true=>exact h1 rfl
 | false=>exact h2 rfl
theorem cw {p:Prop} [Decidable p] {A B:Prop} (h1:p->A) (h2:¬ p->B):gp (decide p) A B:=vi (fun h=>h1 (of_decide_eq_true h)) (fun h=>h2 (of_decide_eq_false h))
theorem kY {p:Prop} [Decidable p] {A B:Prop} (h1:¬ p->A) (h2:p->B):gp (!decide p) A B:=vi (fun h=>h1 fun z=>by rw [decide_eq_true z] at h;cases h) (fun h=>h2 (by
 by_cases z:p
 .exact z
 .rw [decide_eq_false z] at h;cases h))
theorem uk {p:Prop} [Decidable p] {A B:Prop} (h:p) (hA:A):gp (decide p) A B:=cw (fun _=>hA) (fun z=>absurd h z)
theorem ul {p:Prop} [Decidable p] {A B:Prop} (h:¬ p) (hB:B):gp (decide p) A B:=cw (fun z=>absurd z h) (fun _=>hB)
theorem sC {p:Prop} [Decidable p] {A B:Prop} (h:¬ p) (hA:A):gp (!decide p) A B:=kY (fun _=>hA) (fun z=>absurd z h)
theorem sD {p:Prop} [Decidable p] {A B:Prop} (h:p) (hB:B):gp (!decide p) A B:=kY (fun z=>absurd h z) (fun _=>hB)
theorem vC {c:Bool}{A B:Prop} (h:c=true) (hA:A):gp c A B:=by subst h;exact hA
theorem vD {c:Bool}{A B:Prop} (h:c=false) (hB:B):gp c A B:=by subst h;exact hB
theorem um {c:Bool}{A B:Prop} (h:c=false) (hA:A):gp (!c) A B:=by subst h;exact hA
theorem uo {c:Bool}{A B:Prop} (h:c=true) (hB:B):gp (!c) A B:=by subst h;exact hB
inductive D where
 | non | bl (b:Bool) | int (i:Int) | str (l:List Nat) | ty (n:String)
 | lst (ds:List D) | tup (ds:List D) | scr (ns:List Int) | dic (ks:List Key) (ds:List D) | obj (c:Str) (ns:List Str) (ds:List D) | exc (c:Str) (ns:List Str) (ds:List D)
def XAt (x C:Addr) (dd:Option Addr) (new:Bool) (h:Heap):Prop:=∃o vs,h.get? x=some o/\o.cls=.ref C/\o.dict=dd/\o.data=.fields vs/\1 < vs.size/\(new=true->vs[1]?=some .none)
def cB (A:Addr->Prop) (a:Addr):Addr->Prop:=fun b=>A b\/b=a
def qR (K:PySem.W.Frag) (O:Addr->Prop) (H:Hp) (a:Addr) (xs:List V):Prop :=
 (¬ O a/\Rd H a (.lst xs))\/∃(o:Obj) (its:Array Value) (n:Nat),K.lookup a=some o/\o.cls=.type "list"/\o.dict=none/\o.data=.seq its n/\its.size<=sizeLine/\br xs its.toList
theorem qR.sq {K:PySem.W.Frag}{O:Addr->Prop}{H:Hp}{a:Addr}{xs:List V} (h:qR K O H a xs):SqL K H a xs:=h.elim (fun z=>.inl z.2) .inr
def aN (O:Addr->Prop) (H:Hp) (O':Addr->Prop) (H':Hp):Prop:=∀b o,¬ O b->H b=some o->¬ O' b/\H' b=some o
theorem Rd.keeps {O O':Addr->Prop}{H H':Hp}{a:Addr}{u:HO} (k:aN O H O' H') (n:¬ O a) (r:Rd H a u):¬ O' a/\Rd H' a u:=by
 rcases r with e | ⟨o,e⟩
 .exact ⟨(k _ _ n e).1,.inl (k _ _ n e).2⟩
 .exact ⟨(k _ _ n e).1,.inr ⟨o,(k _ _ n e).2⟩⟩
theorem qR.keeps {K:PySem.W.Frag}{O O':Addr->Prop}{H H':Hp}{a:Addr}{xs:List V} (k:aN O H O' H') (h:qR K O H a xs):qR K O' H' a xs:=by
 rcases h with ⟨n,r⟩ | r
 .exact .inl (r.keeps k n)
 .exact .inr r
mutual
inductive FV (K:PySem.W.Frag) (O:Addr->Prop) (H:Hp):V->D->Prop
 | non:FV K O H .non .non
 | bl (b:Bool):FV K O H (.bl b) (.bl b)
 | int (i:Int):FV K O H (.int i) (.int i)
 | str (l:List Nat):l.length<=1000000->FV K O H (.str (S l)) (.str l)
 | ty (n:String):FV K O H (.ty n) (.ty n)
 | scr {a:Addr}{ns:List Int}:qR K O H a (ns.map V.int)->FV K O H (.ref a) (.scr ns)
 | lst {a:Addr}{xs:List V}{ds:List D}:¬ O a->H a=some (.lst xs)->FVs K O H xs ds->FV K O H (.ref a) (.lst ds)
 | tup {a:Addr}{xs:List V}{ds:List D}:¬ O a->H a=some (.tup xs)->FVs K O H xs ds->FV K O H (.ref a) (.tup ds)
 | dic {a:Addr}{kvs:List (Key×V)}{ks:List Key}{ds:List D}:¬ O a->H a=some (.dK kvs)->kvs.map Prod.fst=ks->FVs K O H (kvs.map Prod.snd) ds->FV K O H (.ref a) (.dic ks ds)
 | obj {a dx:Addr}{c:Str}{fs:List (Str×V)}{ns:List Str}{ds:List D}:¬ O a->H a=some (.ins (aY K c) dx fs)->fs.map Prod.fst=ns->FVs K O H (fs.map Prod.snd) ds->FV K O H (.ref a) (.obj c ns ds)
 | exc0 {a:Addr}{c:Str}{new:Bool}:¬ O a->H a=some (.ext (XAt a (aY K c) none new))->FV K O H (.ref a) (.exc c [] [])
 | exc1 {a dx:Addr}{c:Str}{new:Bool}{fs:List (Str×V)}{ns:List Str}{ds:List D}:¬ O a->¬ O dx->H a=some (.ext (XAt a (aY K c) (some dx) new))->H dx=some (.xd fs)->fs.map Prod.fst=ns->FVs K O H (fs.map Prod.snd) ds->FV K O H (.ref a) (.exc c ns ds)
inductive FVs (K:PySem.W.Frag) (O:Addr->Prop) (H:Hp):List V->List D->Prop
 | nil:FVs K O H [] []
 | cons {x:V}{d:D}{xs:List V}{ds:List D}:FV K O H x d->FVs K O H xs ds->FVs K O H (x::xs) (d::ds)
end
section
variable {K:PySem.W.Frag}{O O':Addr->Prop}{H H':Hp}
mutual
theorem FV.keeps (k:aN O H O' H'):∀{v:V}{d:D},FV K O H v d->FV K O' H' v d
 | _,_,.non=>.non
 | _,_,.bl b=>.bl b
 | _,_,.int i=>.int i
 | _,_,.str l h=>.str l h
 | _,_,.ty n=>.ty n
 | _,_,.scr s=>.scr (s.keeps k)
 | _,_,.lst n e f=>.lst (k _ _ n e).1 (k _ _ n e).2 (FVs.keeps k f)
 | _,_,.tup n e f=>.tup (k _ _ n e).1 (k _ _ n e).2 (FVs.keeps k f)
 | _,_,.dic n e m f=>.dic (k _ _ n e).1 (k _ _ n e).2 m (FVs.keeps k f)
 | _,_,.obj n e m f=>.obj (k _ _ n e).1 (k _ _ n e).2 m (FVs.keeps k f)
 | _,_,.exc0 n e=>.exc0 (k _ _ n e).1 (k _ _ n e).2
 | _,_,.exc1 n n2 e e2 m f=>.exc1 (k _ _ n e).1 (k _ _ n2 e2).1 (k _ _ n e).2 (k _ _ n2 e2).2 m (FVs.keeps k f)
theorem FVs.keeps (k:aN O H O' H'):∀{vs:List V}{ds:List D},FVs K O H vs ds->FVs K O' H' vs ds
 | _,_,.nil=>.nil
 | _,_,.cons a b=>.cons (FV.keeps k a) (FVs.keeps k b)
end
theorem FVs.length:∀{vs:List V}{ds:List D},FVs K O H vs ds->vs.length=ds.length
 | _,_,.nil=>rfl
 | _,_,.cons _ b=>by rw [List.length_cons,List.length_cons,b.length]
theorem FVs.get:∀{vs:List V}{ds:List D}{i:Nat}{v:V},FVs K O H vs ds->vs[i]?=some v->∃d,ds[i]?=some d/\FV K O H v d
 | _,_,0,_,.cons a _,e=>by simp at e;subst e;exact ⟨_,rfl,a⟩
 | _,_,i + 1,v,.cons _ b,e=>by
  obtain ⟨d,h1,h2⟩:=b.get (i:=i) (v:=v) (by simpa using e)
  exact ⟨d,by simpa using h1,h2⟩
theorem FVs.getD:∀{vs:List V}{ds:List D}{i:Nat}{d:D},FVs K O H vs ds->ds[i]?=some d->∃v,vs[i]?=some v/\FV K O H v d
 | _,_,0,_,.cons a _,e=>by simp at e;subst e;exact ⟨_,rfl,a⟩
 | _,_,i + 1,v,.cons _ b,e=>by
  obtain ⟨d,h1,h2⟩:=b.getD (i:=i) (d:=v) (by simpa using e)
  exact ⟨d,by simpa using h1,h2⟩
theorem FVs.append:∀{vs ws:List V}{ds es:List D},FVs K O H vs ds->FVs K O H ws es->FVs K O H (vs++ws) (ds++es)
 | _,_,_,_,.nil,s=>s
 | _,_,_,_,.cons a b,s=>.cons a (b.append s)
theorem FVs.take:∀{vs:List V}{ds:List D} (n:Nat),FVs K O H vs ds->FVs K O H (vs.take n) (ds.take n)
 | _,_,0,_=>.nil
 | _,_,_ + 1,.nil=>.nil
 | _,_,n + 1,.cons r t=>.cons r (t.take n)
theorem FVs.drop:∀{vs:List V}{ds:List D} (n:Nat),FVs K O H vs ds->FVs K O H (vs.drop n) (ds.drop n)
 | _,_,0,r=>r
 | _,_,_ + 1,.nil=>.nil
 | _,_,n + 1,.cons _ t=>t.drop n
theorem FVs.reverse:∀{vs:List V}{ds:List D},FVs K O H vs ds->FVs K O H vs.reverse ds.reverse
 | _,_,.nil=>.nil
 | _,_,.cons r t=>by rw [List.reverse_cons,List.reverse_cons];exact t.reverse.append (.cons r .nil)
theorem FVs.ints:∀{vs:List V}{ns:List Int},FVs K O H vs (ns.map D.int)->vs=ns.map V.int
 | _,[],.nil=>rfl
 | _,n::r,h=>by
  cases h with
  | cons a b=>cases a;rw [FVs.ints b];rfl
theorem FVs.of_ints:∀ns:List Int,FVs K O H (ns.map V.int) (ns.map D.int)
 | []=>.nil
 | n::r=>.cons (.int n) (FVs.of_ints r)
theorem FVs.strs:∀{vs:List V}{ws:List (List Nat)},FVs K O H vs (ws.map D.str)->vs=ws.map tx
 | _,[],.nil=>rfl
 | _,n::r,h=>by
  cases h with
  | cons a b=>cases a;rw [FVs.strs b];rfl
theorem FVs.of_strs:∀ws:List (List Nat),(∀w∈ws,w.length<=1000000)->FVs K O H (ws.map tx) (ws.map D.str)
 | [],_=>.nil
 | n::r,h=>.cons (.str n (h n (List.mem_cons_self ..))) (FVs.of_strs r fun w hw=>h w (List.mem_cons_of_mem _ hw))
end
def D.flat:D->Bool
 | .non=>true | .bl _=>true | .int _=>true | .str _=>true | .ty _=>true
 | _=>false
theorem FV.of_flat {K:PySem.W.Frag}{O O':Addr->Prop}{H H':Hp}{v:V}{d:D} (h:FV K O H v d) (f:d.flat=true):FV K O' H' v d:=by
 cases h with
 | non=>exact .non
 | bl b=>exact .bl b
 | int i=>exact .int i
 | str l h=>exact .str l h
 | ty n=>exact .ty n
 | scr _=>cases f
 | lst _ _ _=>cases f
 | tup _ _ _=>cases f
 | dic _ _ _ _=>cases f
 | obj _ _ _ _=>cases f
 | exc0 _ _=>cases f
 | exc1 _ _ _ _ _ _=>cases f
inductive PV where
 | dat (d:D) | own (ds:List D) | ins (c:Str) (ns:List Str) (ds:List D)
def PV.isOwn:PV->Bool
 | .dat _=>false
 | _=>true
def PV.d:PV->D
 | .dat d=>d
 | .own ds=>.lst ds
 | .ins c ns ds=>.obj c ns ds
abbrev PSt:=List (Option PV)
def Wr (ρ:PSt) (σ:St) (b:Addr):Prop:=∃(i:Nat) (p:PV),ρ[i]?=some (some p)/\p.isOwn=true/\σ[i]?=some (some (.ref b))
def OO (A:Addr->Prop) (ρ:PSt) (σ:St) (b:Addr):Prop:=A b\/Wr ρ σ b
def RS (K:PySem.W.Frag) (O:Addr->Prop) (H:Hp):PV->V->Prop
 | .dat d,v=>FV K O H v d
 | .own ds,v=>∃a xs,v=.ref a/\H a=some (.lst xs)/\FVs K O H xs ds
 | .ins c ns ds,v=>∃a dx fs,v=.ref a/\H a=some (.ins (aY K c) dx fs)/\fs.map Prod.fst=ns/\FVs K O H (fs.map Prod.snd) ds
structure Rel (K:PySem.W.Frag) (A:Addr->Prop) (ρ:PSt) (σ:St) (H:Hp):Prop where
 len:ρ.length=σ.length
 get:∀(i:Nat) (p:PV),ρ[i]?=some (some p)->∃v,σ[i]?=some (some v)/\RS K (OO A ρ σ) H p v
 dj:∀(i j:Nat) (p q:PV) (v:V),ρ[i]?=some (some p)->ρ[j]?=some (some q)->p.isOwn=true->q.isOwn=true->σ[i]?=some (some v)->σ[j]?=some (some v)->i=j
 dom:∀b,A b->H b≠none
 sep:∀b,A b->¬ Wr ρ σ b
structure Fr (ρ:PSt) (σ:St) (H:Hp) (ρ':PSt) (H':Hp):Prop where
 kp:∀b o,¬ Wr ρ σ b->H b=some o->H' b=some o
 dm:∀b,H b≠none->H' b≠none
 ow:∀b,Wr ρ' σ b->Wr ρ σ b
theorem Fr.refl (ρ:PSt) (σ:St) (H:Hp):Fr ρ σ H ρ H:=⟨fun _ _ _ h=>h,fun _ h=>h,fun _ h=>h⟩
theorem Fr.trans {ρ ρ1 ρ2:PSt}{σ:St}{H H1 H2:Hp} (a:Fr ρ σ H ρ1 H1) (b:Fr ρ1 σ H1 ρ2 H2):Fr ρ σ H ρ2 H2 :=
 ⟨fun c o n h=>b.kp c o (fun z=>n (a.ow c z)) (a.kp c o n h),fun c h=>b.dm c (a.dm c h),fun c h=>a.ow c (b.ow c h)⟩
theorem Fr.keeps {ρ ρ':PSt}{σ:St}{H H':Hp}{A:Addr->Prop} (f:Fr ρ σ H ρ' H'):aN (OO A ρ σ) H (OO A ρ' σ) H':=fun b o n h =>
 ⟨fun z=>z.elim (fun z=>n (.inl z)) (fun z=>n (.inr (f.ow b z))),f.kp b o (fun z=>n (.inr z)) h⟩
theorem Fr.new {ρ:PSt}{σ:St}{H:Hp}{p:Addr}{o:HO} (h:H p=none):Fr ρ σ H ρ (upd H p o) :=
 ⟨fun b u _ e=>by rw [aB (aI e h)];exact e,fun b e=>by
  by_cases z:b=p
  .rw [z,aS];exact nofun
  .rw [aB z];exact e,fun _ h=>h⟩
theorem aN.fresh {O:Addr->Prop}{H:Hp}{p:Addr}{o:HO} (h:H p=none):aN O H (cB O p) (upd H p o):=fun b u n e =>
 ⟨fun z=>z.elim n (fun z=>by rw [z,h] at e;cases e),by rw [aB (aI e h)];exact e⟩
theorem aN.less {O O':Addr->Prop}{H:Hp} (h:∀b,O' b->O b):aN O H O' H:=fun b o n e=>⟨fun z=>n (h b z),e⟩
theorem RS.keeps {K:PySem.W.Frag}{O O':Addr->Prop}{H H':Hp}{p:PV}{v:V} (k:aN O H O' H') (w:p.isOwn=true->∀a,v=.ref a->H' a=H a) (h:RS K O H p v):RS K O' H' p v:=by
 cases p with
 | dat d=>exact FV.keeps k h
 | own ds =>
  obtain ⟨a,xs,e,g,f⟩:=h
  exact ⟨a,xs,e,by rw [w rfl a e];exact g,f.keeps k⟩
 | ins c ns ds =>
  obtain ⟨a,dx,fs,e,g,m,f⟩:=h
  exact ⟨a,dx,fs,e,by rw [w rfl a e];exact g,m,f.keeps k⟩
theorem RS.ref {K:PySem.W.Frag}{O:Addr->Prop}{H:Hp}{p:PV}{v:V} (h:RS K O H p v) (o:p.isOwn=true):∃a u,v=.ref a/\H a=some u:=by
 cases p with
 | dat d=>cases o
 | own ds=>obtain ⟨a,xs,e,g,f⟩:=h;exact ⟨a,_,e,g⟩
 | ins c ns ds=>obtain ⟨a,dx,fs,e,g,m,f⟩:=h;exact ⟨a,_,e,g⟩
theorem Rel.wr {K:PySem.W.Frag}{A:Addr->Prop}{ρ:PSt}{σ:St}{H:Hp} (R:Rel K A ρ σ H) {b:Addr} (h:Wr ρ σ b):H b≠none:=by
 obtain ⟨i,p,e,o,s⟩:=h
 obtain ⟨v,s',r⟩:=R.get i p e
 rw [s] at s';cases s'
 obtain ⟨a,u,e1,e2⟩:=r.ref o
 cases e1
 rw [e2];exact nofun
theorem Rel.oo {K:PySem.W.Frag}{A:Addr->Prop}{ρ:PSt}{σ:St}{H:Hp} (R:Rel K A ρ σ H) {b:Addr} (h:H b=none):¬ OO A ρ σ b:=fun z=>z.elim (fun z=>R.dom b z h) (fun z=>R.wr z h)
theorem Rel.less {K:PySem.W.Frag}{A A':Addr->Prop}{ρ:PSt}{σ:St}{H:Hp} (R:Rel K A ρ σ H) (h:∀b,A' b->A b):Rel K A' ρ σ H:=by
 refine ⟨R.len,fun i q e=>?_,R.dj,fun b z=>R.dom b (h b z),fun b z=>R.sep b (h b z)⟩
 obtain ⟨v,s,r⟩:=R.get i q e
 exact ⟨v,s,r.keeps (aN.less fun b z=>z.imp (h b) id) fun _ _ _=>rfl⟩
theorem Rel.write {K:PySem.W.Frag}{A:Addr->Prop}{ρ:PSt}{σ:St}{H:Hp} (R:Rel K A ρ σ H) {i:Nat}{p q:PV}{a:Addr}{o:HO} (e:ρ[i]?=some (some p)) (ow:p.isOwn=true) (ow':q.isOwn=true) (es:σ[i]?=some (some (.ref a)))
  (new:RS K (OO A ρ σ) (upd H a o) q (.ref a)):Rel K A (ρ.set i (some q)) σ (upd H a o)/\Fr ρ σ H (ρ.set i (some q)) (upd H a o):=by
 have hi:i < ρ.length:=(List.getElem?_eq_some_iff.mp e).1
 have wa:Wr ρ σ a:=⟨i,p,e,ow,es⟩
 have weq:∀b,Wr (ρ.set i (some q)) σ b ↔ Wr ρ σ b:=fun b=>by
  constructor
  .rintro ⟨j,r,e1,o1,s1⟩
   by_cases z:i=j
   .subst z;exact ⟨i,p,e,ow,s1⟩
   .rw [List.getElem?_set_ne z] at e1;exact ⟨j,r,e1,o1,s1⟩
  .rintro ⟨j,r,e1,o1,s1⟩
   by_cases z:i=j
   .subst z;exact ⟨i,q,List.getElem?_set_self hi,ow',s1⟩
   .exact ⟨j,r,by rw [List.getElem?_set_ne z];exact e1,o1,s1⟩
 have oeq:OO A (ρ.set i (some q)) σ=OO A ρ σ:=funext fun b=>propext (or_congr Iff.rfl (weq b))
 have kp:∀b u,¬ Wr ρ σ b->H b=some u->upd H a o b=some u:=fun b u n h=>by rw [aB (fun z=>n (by rw [z];exact wa))];exact h
 have k:aN (OO A ρ σ) H (OO A ρ σ) (upd H a o):=fun b u n h=>⟨n,kp b u (fun z=>n (.inr z)) h⟩
 have dm:∀b,H b≠none->upd H a o b≠none:=fun b n=>by
  by_cases z:b=a
  .rw [z,aS];exact nofun
  .rw [aB z];exact n
 refine ⟨⟨by rw [List.length_set];exact R.len,fun j r e1=>?_,fun j l p1 q1 v e1 e2 o1 o2 s1 s2=>?_,fun b z=>dm b (R.dom b z),fun b z w=>R.sep b z ((weq b).mp w)⟩,⟨kp,dm,fun b w=>(weq b).mp w⟩⟩
 .rw [oeq]
  by_cases z:i=j
  .subst z
   rw [List.getElem?_set_self hi] at e1
   cases e1
   exact ⟨_,es,new⟩
  .rw [List.getElem?_set_ne z] at e1
   obtain ⟨v,s,rr⟩:=R.get j r e1
   refine ⟨v,s,rr.keeps k fun ow2 b eb=>?_⟩
   rw [aB]
   intro zz
   subst zz
   rw [eb] at s
   exact z (R.dj i j p r _ e e1 ow ow2 es s)
 .have ex:∀(m:Nat) (x:PV),(ρ.set i (some q))[m]?=some (some x)->x.isOwn=true->∃y:PV,ρ[m]?=some (some y)/\y.isOwn=true:=fun m x em ox=>by
   by_cases z:i=m
   .subst z;exact ⟨p,e,ow⟩
   .rw [List.getElem?_set_ne z] at em;exact ⟨x,em,ox⟩
  obtain ⟨y1,h1,h2⟩:=ex j p1 e1 o1
  obtain ⟨y2,h3,h4⟩:=ex l q1 e2 o2
  exact R.dj j l y1 y2 v h1 h3 h2 h4 s1 s2
theorem Rel.frz {K:PySem.W.Frag}{A:Addr->Prop}{ρ:PSt}{σ:St}{H:Hp} (R:Rel K A ρ σ H) {i:Nat}{p:PV} (e:ρ[i]?=some (some p)) :
  Rel K A (ρ.set i (some (.dat p.d))) σ H/\Fr ρ σ H (ρ.set i (some (.dat p.d))) H:=by
 have hi:i < ρ.length:=(List.getElem?_eq_some_iff.mp e).1
 have ex:∀(m:Nat) (x:PV),(ρ.set i (some (.dat p.d)))[m]?=some (some x)->x.isOwn=true->m≠i/\ρ[m]?=some (some x):=fun m x em ox=>by
  by_cases z:i=m
  .subst z;rw [List.getElem?_set_self hi] at em;cases em;cases ox
  .rw [List.getElem?_set_ne z] at em;exact ⟨fun q=>z q.symm,em⟩
 have ow:∀b,Wr (ρ.set i (some (.dat p.d))) σ b->Wr ρ σ b:=fun b ⟨j,r,e1,o1,s1⟩=>⟨j,r,(ex j r e1 o1).2,o1,s1⟩
 have k:aN (OO A ρ σ) H (OO A (ρ.set i (some (.dat p.d))) σ) H:=aN.less fun b z=>z.imp id (ow b)
 refine ⟨⟨by rw [List.length_set];exact R.len,fun j r e1=>?_,fun j l p1 q1 v e1 e2 o1 o2 s1 s2=>R.dj j l p1 q1 v (ex j p1 e1 o1).2 (ex l q1 e2 o2).2 o1 o2 s1 s2,R.dom,fun b z w=>R.sep b z (ow b w)⟩,⟨fun _ _ _ h=>h,fun _ h=>h,ow⟩⟩
 by_cases z:i=j
 .subst z
  rw [List.getElem?_set_self hi] at e1
  cases e1
  obtain ⟨v,s,r⟩:=R.get i p e
  refine ⟨v,s,?_⟩
  have na:∀a,v=.ref a->p.isOwn=true->¬ OO A (ρ.set i (some (.dat p.d))) σ a:=fun a ea oo z=>by
   subst ea
   rcases z with z | ⟨j,r,e1,o1,s1⟩
   .exact R.sep a z ⟨i,p,e,oo,s⟩
   .obtain ⟨n1,n2⟩:=ex j r e1 o1
    exact n1 (R.dj j i r p _ n2 e o1 oo s1 s)
  cases p with
  | dat d=>exact FV.keeps k r
  | own ds =>
   obtain ⟨a,xs,rfl,g,f⟩:=r
   exact .lst (na a rfl rfl) g (f.keeps k)
  | ins c ns ds =>
   obtain ⟨a,dx,fs,rfl,g,m,f⟩:=r
   exact .obj (na a rfl rfl) g m (f.keeps k)
 .rw [List.getElem?_set_ne z] at e1
  obtain ⟨v,s,r⟩:=R.get j _ e1
  exact ⟨v,s,r.keeps k fun _ _ _=>rfl⟩
abbrev PKt:=PV->PSt->Prop
abbrev PTE:=PSt->PKt->Prop
abbrev PTT:=PSt->(Bool->PSt->Prop)->Prop
inductive AV where
 | v (d:D) | sl (i:Nat)
abbrev PA1:=PSt->(AV->PSt->Prop)->Prop
abbrev PTA:=PSt->(List AV->PSt->Prop)->Prop
def Out (K:PySem.W.Frag) (A:Addr->Prop) (ρ:PSt) (σ:St) (H0 H:Hp):PV->V->Prop
 | .dat d,v=>Rel K A ρ σ H/\FV K (OO A ρ σ) H v d
 | .own ds,v=>∃a xs,v=.ref a/\¬ A a/\H0 a=none/\H a=some (.lst xs)/\Rel K (cB A a) ρ σ H/\FVs K (OO (cB A a) ρ σ) H xs ds
 | .ins c ns ds,v=>∃a dx fs,v=.ref a/\¬ A a/\H0 a=none/\H a=some (.ins (aY K c) dx fs)/\fs.map Prod.fst=ns/\Rel K (cB A a) ρ σ H/\FVs K (OO (cB A a) ρ σ) H (fs.map Prod.snd) ds
def LE (K:PySem.W.Frag) (te:TE) (pe:PTE):Prop:=∀(A:Addr->Prop) (ρ:PSt) (σ:St) (H:Hp) (Q:PKt) (Q':VK),Rel K A ρ σ H->pe ρ Q ->
 (∀v H' p ρ',Q p ρ'->Fr ρ σ H ρ' H'->Out K A ρ' σ H H' p v->Q' v H')->te σ H Q'
def LT (K:PySem.W.Frag) (tt:TT) (pt:PTT):Prop:=∀(A:Addr->Prop) (ρ:PSt) (σ:St) (H:Hp) (Q:Bool->PSt->Prop) (Q':Bool->Hp->Prop),Rel K A ρ σ H->pt ρ Q ->
 (∀b H' ρ',Q b ρ'->Fr ρ σ H ρ' H'->Rel K A ρ' σ H'->Q' b H')->tt σ H Q'
def AOk (K:PySem.W.Frag) (O:Addr->Prop) (σ:St) (H:Hp):AV->V->Prop
 | .v d,v=>FV K O H v d
 | .sl i,v=>σ[i]?=some (some v)
def LA1 (K:PySem.W.Frag) (te:TE) (pa:PA1):Prop:=∀(A:Addr->Prop) (ρ:PSt) (σ:St) (H:Hp) (Q:AV->PSt->Prop) (Q':VK),Rel K A ρ σ H->pa ρ Q ->
 (∀v H' av ρ',Q av ρ'->Fr ρ σ H ρ' H'->Rel K A ρ' σ H'->AOk K (OO A ρ' σ) σ H' av v->Q' v H')->te σ H Q'
inductive qd (K:PySem.W.Frag) (O:Addr->Prop) (σ:St) (H:Hp):List AV->List V->Prop
 | nil:qd K O σ H [] []
 | cons {a:AV}{v:V}{as:List AV}{vs:List V}:AOk K O σ H a v->qd K O σ H as vs->qd K O σ H (a::as) (v::vs)
def LAs (K:PySem.W.Frag) (ta:TA) (pa:PTA):Prop:=∀(A:Addr->Prop) (ρ:PSt) (σ:St) (H:Hp) (Q:List AV->PSt->Prop) (Q':List V->Hp->Prop),Rel K A ρ σ H->pa ρ Q ->
 (∀vs H' as ρ',Q as ρ'->Fr ρ σ H ρ' H'->Rel K A ρ' σ H'->qd K (OO A ρ' σ) σ H' as vs->Q' vs H')->ta σ H Q'
section
variable {K:PySem.W.Frag}{A O O':Addr->Prop}{ρ ρ':PSt}{σ:St}{H H' H0:Hp}
theorem AOk.keeps {a:AV}{v:V} (k:aN O H O' H') (h:AOk K O σ H a v):AOk K O' σ H' a v:=by
 cases a with
 | v d=>exact FV.keeps k h
 | sl i=>exact h
theorem Out.frz {p:PV}{v:V} (h:Out K A ρ σ H0 H p v):Rel K A ρ σ H/\FV K (OO A ρ σ) H v p.d:=by
 cases p with
 | dat d=>exact h
 | own ds =>
  obtain ⟨a,xs,rfl,na,_,e,R,f⟩:=h
  refine ⟨R.less fun b z=>.inl z,.lst (fun z=>?_) e (f.keeps (aN.less fun b z=>z.imp .inl id))⟩
  exact z.elim na (fun z=>R.sep a (.inr rfl) z)
 | ins c ns ds =>
  obtain ⟨a,dx,fs,rfl,na,_,e,m,R,f⟩:=h
  refine ⟨R.less fun b z=>.inl z,.obj (fun z=>?_) e m (f.keeps (aN.less fun b z=>z.imp .inl id))⟩
  exact z.elim na (fun z=>R.sep a (.inr rfl) z)
theorem Out.h0 {p:PV}{v:V}{H1:Hp} (h:Out K A ρ σ H0 H p v) (dm:∀b,H1 b≠none->H0 b≠none):Out K A ρ σ H1 H p v:=by
 have k:∀a,H0 a=none->H1 a=none:=fun a e=>by
  cases z:H1 a with
  | none=>rfl
  | some o=>exact absurd e (dm a (by rw [z];exact nofun))
 cases p with
 | dat d=>exact h
 | own ds=>obtain ⟨a,xs,e1,na,e2,r⟩:=h;exact ⟨a,xs,e1,na,k a e2,r⟩
 | ins c ns ds=>obtain ⟨a,dx,fs,e1,na,e2,r⟩:=h;exact ⟨a,dx,fs,e1,na,k a e2,r⟩
def Gr (H H':Hp):Prop:=∀b o,H b=some o->H' b=some o
theorem Gr.fr (g:Gr H H'):Fr ρ σ H ρ H':=⟨fun b o _ h=>g b o h,fun b h=>by
 cases e:H b with
 | none=>exact absurd e h
 | some o=>rw [g b o e];exact nofun,fun _ h=>h⟩
theorem Gr.new {p:Addr}{o:HO} (h:H p=none):Gr H (upd H p o):=fun b u e=>by rw [aB (aI e h)];exact e
theorem Gr.refl (H:Hp):Gr H H:=fun _ _ h=>h
theorem Rel.gr (R:Rel K A ρ σ H) (g:Gr H H'):Rel K A ρ σ H':=by
 refine ⟨R.len,fun i q e=>?_,R.dj,fun b z=>(g.fr (ρ:=ρ) (σ:=σ)).dm b (R.dom b z),R.sep⟩
 obtain ⟨v,s,r⟩:=R.get i q e
 refine ⟨v,s,r.keeps (g.fr (ρ:=ρ) (σ:=σ)).keeps fun ow a ea=>?_⟩
 obtain ⟨a',u,e1,e2⟩:=r.ref ow
 rw [ea] at e1;cases e1
 rw [e2];exact g _ _ e2
theorem Rel.grA (R:Rel K A ρ σ H) (g:Gr H H') {p:Addr} (h:H p=none) (h':H' p≠none):Rel K (cB A p) ρ σ H':=by
 have k:aN (OO A ρ σ) H (OO (cB A p) ρ σ) H':=fun b u n e=>by
  refine ⟨fun z=>?_,g _ _ e⟩
  rcases z with (z | z) | z
  .exact n (.inl z)
  .rw [z,h] at e;cases e
  .exact n (.inr z)
 refine ⟨R.len,fun i q e=>?_,R.dj,fun b z=>?_,fun b z w=>?_⟩
 .obtain ⟨v,s,r⟩:=R.get i q e
  refine ⟨v,s,r.keeps k fun ow a ea=>?_⟩
  obtain ⟨a',u,e1,e2⟩:=r.ref ow
  rw [ea] at e1;cases e1
  rw [e2];exact g _ _ e2
 .rcases z with z | z
  .exact (g.fr (ρ:=ρ) (σ:=σ)).dm b (R.dom b z)
  .rw [z];exact h'
 .rcases z with z | z
  .exact R.sep b z w
  .exact R.wr w (by rw [z];exact h)
def kZ (K:PySem.W.Frag) (O:Addr->Prop) (H0 H:Hp):PV->V->Prop
 | .dat d,v=>FV K O H v d
 | .own ds,v=>∃a xs,v=.ref a/\H0 a=none/\H a=some (.lst xs)/\FVs K (cB O a) H xs ds
 | .ins c ns ds,v=>∃a dx fs,v=.ref a/\H0 a=none/\H a=some (.ins (aY K c) dx fs)/\fs.map Prod.fst=ns/\FVs K (cB O a) H (fs.map Prod.snd) ds
theorem kZ.out {p:PV}{v:V} (R:Rel K A ρ σ H) (g:Gr H H') (h:kZ K (OO A ρ σ) H H' p v):Out K A ρ σ H H' p v:=by
 cases p with
 | dat d=>exact ⟨R.gr g,h⟩
 | own ds =>
  obtain ⟨a,xs,rfl,e0,e,f⟩:=h
  refine ⟨a,xs,rfl,fun z=>R.dom a z e0,e0,e,R.grA g e0 (by rw [e];exact nofun),f.keeps (aN.less fun b z=>?_)⟩
  rcases z with (z | z) | z
  .exact .inl (.inl z)
  .exact .inr z
  .exact .inl (.inr z)
 | ins c ns ds =>
  obtain ⟨a,dx,fs,rfl,e0,e,m,f⟩:=h
  refine ⟨a,dx,fs,rfl,fun z=>R.dom a z e0,e0,e,m,R.grA g e0 (by rw [e];exact nofun),f.keeps (aN.less fun b z=>?_)⟩
  rcases z with (z | z) | z
  .exact .inl (.inl z)
  .exact .inr z
  .exact .inl (.inr z)
def FVc (K:PySem.W.Frag) (O:Addr->Prop) (H:Hp) (v:V) (d:D):Prop:=FV K O H v d\/(∃a xs ds,v=.ref a/\d=.lst ds/\H a=some (.lst xs)/\FVs K O H xs ds) \/
 ∃a dx c fs ns ds,v=.ref a/\d=.obj c ns ds/\H a=some (.ins (aY K c) dx fs)/\fs.map Prod.fst=ns/\FVs K O H (fs.map Prod.snd) ds
def cont (ρ:PSt):AV->Option D
 | .v d=>some d
 | .sl i=>match ρ[i]? with | some (some p)=>some p.d | _=>none
theorem Rel.cont {av:AV}{v:V}{d:D} (R:Rel K A ρ σ H) (h:AOk K (OO A ρ σ) σ H av v) (e:L2.cont ρ av=some d):FVc K (OO A ρ σ) H v d:=by
 cases av with
 | v d'=>cases e;exact .inl h
 | sl i =>
  have h:σ[i]?=some (some v):=h
  simp only [L2.cont] at e
  split at e
  .rename_i p ep
   cases e
   obtain ⟨v',s,r⟩:=R.get i p ep
   rw [h] at s;cases s
   cases p with
   | dat d=>exact .inl r
   | own ds=>obtain ⟨a,xs,e1,e2,f⟩:=r;exact .inr (.inl ⟨a,xs,ds,e1,rfl,e2,f⟩)
   | ins c ns ds=>obtain ⟨a,dx,fs,e1,e2,m,f⟩:=r;exact .inr (.inr ⟨a,dx,c,fs,ns,ds,e1,rfl,e2,m,f⟩)
  .cases e
theorem FVc.lst {v:V}{ds:List D} (h:FVc K O H v (.lst ds)):∃a xs,v=.ref a/\H a=some (.lst xs)/\FVs K O H xs ds:=by
 rcases h with h | ⟨a,xs,ds',e1,e2,e3,f⟩ | ⟨a,dx,c,fs,ns,ds',e1,e2,_⟩
 .cases h with
  | lst n s f=>exact ⟨_,_,rfl,s,f⟩
 .cases e2;exact ⟨a,xs,e1,e3,f⟩
 .cases e2
theorem FVc.fv {v:V}{d:D} (h:FVc K O H v d) (n:∀ds,d≠.lst ds) (n':∀c ns ds,d≠.obj c ns ds):FV K O H v d:=by
 rcases h with h | ⟨a,xs,ds',e1,e2,e3,f⟩ | ⟨a,dx,c,fs,ns,ds',e1,e2,_⟩
 .exact h
 .exact absurd e2 (n _)
 .exact absurd e2 (n' _ _ _)
theorem FVc.tup {v:V}{ds:List D} (h:FVc K O H v (.tup ds)):∃a xs,v=.ref a/\¬ O a/\H a=some (.tup xs)/\FVs K O H xs ds:=by
 cases h.fv nofun nofun with
 | tup n s f=>exact ⟨_,_,rfl,n,s,f⟩
theorem FVc.scr {v:V}{ns:List Int} (h:FVc K O H v (.scr ns)):∃a,v=.ref a/\SqL K H a (ns.map V.int):=by
 cases h.fv nofun nofun with
 | scr s=>exact ⟨_,rfl,s.sq⟩
theorem FVc.int {v:V}{i:Int} (h:FVc K O H v (.int i)):v=.int i:=by cases h.fv nofun nofun;rfl
theorem FVc.bl {v:V}{i:Bool} (h:FVc K O H v (.bl i)):v=.bl i:=by cases h.fv nofun nofun;rfl
theorem FVc.str {v:V}{i:List Nat} (h:FVc K O H v (.str i)):v=.str (S i)/\i.length<=1000000:=by
 cases h.fv nofun nofun with
 | str _ z=>exact ⟨rfl,z⟩
theorem FVc.non {v:V} (h:FVc K O H v .non):v=.non:=by cases h.fv nofun nofun;rfl
end
def pC (d:D):PTE:=fun ρ Q=>Q (.dat d) ρ
def bY (i:Nat):PTE:=fun ρ Q=>match ρ[i]? with
 | some (some (.dat d))=>Q (.dat d) ρ
 | some (some (.own ds))=>Q (.dat (.lst ds)) (ρ.set i (some (.dat (.lst ds))))
 | some (some (.ins c ns ds))=>Q (.dat (.obj c ns ds)) (ρ.set i (some (.dat (.obj c ns ds))))
 | _=>False
def pSl (i:Nat):PA1:=fun ρ Q=>match ρ[i]? with
 | some (some (.dat d))=>Q (.v d) ρ
 | some (some (.own _))=>Q (.sl i) ρ
 | some (some (.ins _ _ _))=>Q (.sl i) ρ
 | _=>False
def pFz (pe:PTE):PA1:=fun ρ Q=>pe ρ fun p ρ1=>Q (.v p.d) ρ1
def aC:PTA:=fun ρ Q=>Q [] ρ
def aj (pa:PA1) (pr:PTA):PTA:=fun ρ Q=>pa ρ fun a ρ1=>pr ρ1 fun as ρ2=>Q (a::as) ρ2
section
variable {K:PySem.W.Frag}{ta tb tc:TE}{pa pb pc:PA1}{pe pe':PTE}{tr:TA}{pr:PTA}
theorem tU {v:V}{d:D} (h:∀O H,FV K O H v d):LE K (tC v) (pC d):=fun A ρ σ H Q Q' R q k=>k v H (.dat d) ρ q (Fr.refl _ _ _) ⟨R,h _ _⟩
theorem le_int {i:Int}:LE K (tC (.int i)) (pC (.int i)):=tU fun _ _=>.int i
theorem iq {i:Bool}:LE K (tC (.bl i)) (pC (.bl i)):=tU fun _ _=>.bl i
theorem sE:LE K (tC .non) (pC .non):=tU fun _ _=>.non
theorem le_str {l:List Nat} (h:l.length<=1000000:=by decide):LE K (tC (.str (S l))) (pC (.str l)):=tU fun _ _=>.str l h
theorem aD {i:Nat}:LE K (gK i) (bY i):=by
 intro A ρ σ H Q Q' R q k
 unfold bY at q
 split at q
 .rename_i d e
  obtain ⟨v,s,r⟩:=R.get i _ e
  exact ⟨v,s,k v H (.dat d) ρ q (Fr.refl _ _ _) ⟨R,r⟩⟩
 .rename_i ds e
  obtain ⟨R',f⟩:=R.frz e
  obtain ⟨v,s,r⟩:=R'.get i _ (List.getElem?_set_self (List.getElem?_eq_some_iff.mp e).1)
  exact ⟨v,s,k v H (.dat (.lst ds)) _ q f ⟨R',r⟩⟩
 .rename_i c ns ds e
  obtain ⟨R',f⟩:=R.frz e
  obtain ⟨v,s,r⟩:=R'.get i _ (List.getElem?_set_self (List.getElem?_eq_some_iff.mp e).1)
  exact ⟨v,s,k v H (.dat (.obj c ns ds)) _ q f ⟨R',r⟩⟩
 .exact q.elim
theorem ak {i:Nat}:LA1 K (gK i) (pSl i):=by
 intro A ρ σ H Q Q' R q k
 unfold pSl at q
 split at q
 .rename_i d e
  obtain ⟨v,s,r⟩:=R.get i _ e
  exact ⟨v,s,k v H _ ρ q (Fr.refl _ _ _) R r⟩
 .rename_i e
  obtain ⟨v,s,r⟩:=R.get i _ e
  exact ⟨v,s,k v H _ ρ q (Fr.refl _ _ _) R s⟩
 .rename_i e
  obtain ⟨v,s,r⟩:=R.get i _ e
  exact ⟨v,s,k v H _ ρ q (Fr.refl _ _ _) R s⟩
 .exact q.elim
theorem ac (h:LE K ta pe):LA1 K ta (pFz pe):=fun A ρ σ H Q Q' R q k=>h A ρ σ H _ Q' R q fun v H' p ρ' q f o=>k v H' _ ρ' q f o.frz.1 o.frz.2
theorem ae:LAs K j2 aC:=fun A ρ σ H Q Q' R q k=>k [] H [] ρ q (Fr.refl _ _ _) R .nil
theorem aa (h:LA1 K ta pa) (hr:LAs K tr pr):LAs K (dJ ta tr) (aj pa pr):=fun A ρ σ H Q Q' R q k =>
 h A ρ σ H _ _ R q fun v H1 a ρ1 q1 f1 R1 o1=>hr A ρ1 σ H1 _ _ R1 q1 fun vs H2 as ρ2 q2 f2 R2 o2=>k _ H2 _ ρ2 q2 (f1.trans f2) R2 (.cons (o1.keeps f2.keeps) o2)
def LO (K:PySem.W.Frag) (r:R2) (f:D->D->(PV->Prop)->Prop):Prop:=∀(O:Addr->Prop) (H:Hp) (x y:V) (a b:D) (Q:PV->Prop) (Q':VK),(∀b,O b->H b≠none)->FVc K O H x a->FVc K O H y b->f a b Q ->
 (∀v H' p,Q p->Gr H H'->kZ K O H H' p v->Q' v H')->r x y H Q'
def op2 (f:D->D->(PV->Prop)->Prop) (ρ:PSt) (x y:AV) (Q:PKt):Prop:=match cont ρ x,cont ρ y with
 | some a,some b=>f a b fun p=>Q p ρ
 | _,_=>False
def pOp (f:D->D->(PV->Prop)->Prop) (pa pb:PA1):PTE:=fun ρ Q=>pa ρ fun x ρ1=>pb ρ1 fun y ρ2=>op2 f ρ2 x y Q
theorem Rel.dom2 {A:Addr->Prop}{ρ:PSt}{σ:St}{H:Hp} (R:Rel K A ρ σ H):∀b,OO A ρ σ b->H b≠none:=fun b z=>z.elim (R.dom b) R.wr
theorem ao {r:R2}{f:D->D->(PV->Prop)->Prop} (o:LO K r f) (ha:LA1 K ta pa) (hb:LA1 K tb pb):LE K (tOp r ta tb) (pOp f pa pb):=fun A ρ σ H Q Q' R q k =>
 ha A ρ σ H _ _ R q fun v H1 a ρ1 q1 f1 R1 o1=>hb A ρ1 σ H1 _ _ R1 q1 fun w H2 b ρ2 q2 f2 R2 o2=>by
  unfold op2 at q2
  split at q2
  .rename_i da db e1 e2
   exact o _ H2 v w da db _ _ R2.dom2 (R2.cont (o1.keeps f2.keeps) e1) (R2.cont o2 e2) q2 fun z H3 p q3 g ov=>k z H3 p ρ2 q3 ((f1.trans f2).trans g.fr) ((ov.out R2 g).h0 fun b z=>f2.dm b (f1.dm b z))
  .exact q2.elim
def LU (K:PySem.W.Frag) (r:V->Hp->VK->Prop) (f:D->(PV->Prop)->Prop):Prop:=∀(O:Addr->Prop) (H:Hp) (x:V) (a:D) (Q:PV->Prop) (Q':VK),(∀b,O b->H b≠none)->FVc K O H x a->f a Q ->
 (∀v H' p,Q p->Gr H H'->kZ K O H H' p v->Q' v H')->r x H Q'
def op1 (f:D->(PV->Prop)->Prop) (ρ:PSt) (x:AV) (Q:PKt):Prop:=match cont ρ x with
 | some a=>f a fun p=>Q p ρ
 | _=>False
def pUn (f:D->(PV->Prop)->Prop) (pa:PA1):PTE:=fun ρ Q=>pa ρ fun x ρ1=>op1 f ρ1 x Q
theorem qe {r:V->Hp->VK->Prop}{f:D->(PV->Prop)->Prop} (o:LU K r f) (ha:LA1 K ta pa):LE K (tUn r ta) (pUn f pa):=fun A ρ σ H Q Q' R q k =>
 ha A ρ σ H _ _ R q fun v H1 a ρ1 q1 f1 R1 o1=>by
  unfold op1 at q1
  split at q1
  .rename_i da e1
   exact o _ H1 v da _ _ R1.dom2 (R1.cont o1 e1) q1 fun z H3 p q3 g ov=>k z H3 p ρ1 q3 (f1.trans g.fr) ((ov.out R1 g).h0 fun b z=>f1.dm b z)
  .exact q1.elim
inductive sF (K:PySem.W.Frag) (O:Addr->Prop) (H:Hp):List V->List D->Prop
 | nil:sF K O H [] []
 | cons {x:V}{d:D}{xs:List V}{ds:List D}:FVc K O H x d->sF K O H xs ds->sF K O H (x::xs) (d::ds)
def conts (ρ:PSt):List AV->Option (List D)
 | []=>some []
 | a::r=>match cont ρ a,conts ρ r with
  | some d,some ds=>some (d::ds)
  | _,_=>none
theorem Rel.conts {A:Addr->Prop}{ρ:PSt}{σ:St}{H:Hp} (R:Rel K A ρ σ H):∀{as:List AV}{vs:List V}{ds:List D},qd K (OO A ρ σ) σ H as vs->L2.conts ρ as=some ds->sF K (OO A ρ σ) H vs ds
 | _,_,_,.nil,e=>by cases e;exact .nil
 | _,_,_,.cons a b,e=>by
  unfold L2.conts at e
  split at e
  .rename_i e1 e2
   cases e
   exact .cons (R.cont a e1) (R.conts b e2)
  .cases e
def LC (K:PySem.W.Frag) (r:List V->Hp->VK->Prop) (f:List D->(PV->Prop)->Prop):Prop:=∀(O:Addr->Prop) (H:Hp) (xs:List V) (as:List D) (Q:PV->Prop) (Q':VK),(∀b,O b->H b≠none)->sF K O H xs as->f as Q ->
 (∀v H' p,Q p->Gr H H'->kZ K O H H' p v->Q' v H')->r xs H Q'
def opN (f:List D->(PV->Prop)->Prop) (ρ:PSt) (as:List AV) (Q:PKt):Prop:=match conts ρ as with
 | some ds=>f ds fun p=>Q p ρ
 | _=>False
def pCB (f:List D->(PV->Prop)->Prop) (pr:PTA):PTE:=fun ρ Q=>pr ρ fun as ρ1=>opN f ρ1 as Q
theorem bR {r:List V->Hp->VK->Prop}{f:List D->(PV->Prop)->Prop} (o:LC K r f) (ha:LAs K tr pr):LE K (tCB r tr) (pCB f pr):=fun A ρ σ H Q Q' R q k =>
 ha A ρ σ H _ _ R q fun vs H1 as ρ1 q1 f1 R1 o1=>by
  unfold opN at q1
  split at q1
  .rename_i ds e1
   exact o _ H1 vs ds _ _ R1.dom2 (R1.conts o1 e1) q1 fun z H3 p q3 g ov=>k z H3 p ρ1 q3 (f1.trans g.fr) ((ov.out R1 g).h0 fun b z=>f1.dm b z)
  .exact q1.elim
def avD:List AV->Option (List D)
 | []=>some []
 | .v d::r=>match avD r with | some ds=>some (d::ds) | none=>none
 | .sl _::_=>none
theorem qd.avD {O:Addr->Prop}{σ:St}{H:Hp}:∀{as:List AV}{vs:List V}{ds:List D},qd K O σ H as vs->L2.avD as=some ds->FVs K O H vs ds
 | _,_,_,.nil,e=>by cases e;exact .nil
 | .v d::r,_,_,.cons a b,e=>by
  simp only [L2.avD] at e
  split at e
  .rename_i e1;cases e;exact .cons a (b.avD e1)
  .cases e
 | .sl i::r,_,_,.cons a b,e=>by cases e
def k6 (pr:PTA):PTE:=fun ρ Q=>pr ρ fun as ρ1=>match avD as with
 | some ds=>ds.length<=1000000/\Q (.own ds) ρ1
 | _=>False
theorem dE (ha:LAs K tr pr):LE K (u0 tr) (k6 pr):=fun A ρ σ H Q Q' R q k =>
 ha A ρ σ H _ _ R q fun vs H1 as ρ1 q1 f1 R1 o1=>by
  split at q1
  .rename_i ds e1
   have fs:=o1.avD e1
   refine ⟨sz _ (by rw [fs.length];exact q1.1),fun p hp=>k _ _ (.own ds) ρ1 q1.2 (f1.trans (Fr.new hp)) ?_⟩
   have g:Gr H1 (upd H1 p (.lst vs)):=Gr.new hp
   exact (kZ.out (p:=.own ds) R1 g ⟨p,vs,rfl,hp,aS,fs.keeps (aN.fresh hp)⟩).h0 fun b z=>f1.dm b z
  .exact q1.elim
def pB (pe:PTE):PTT:=fun ρ Q=>pe ρ fun p ρ1=>match p with
 | .dat (.bl b)=>Q b ρ1
 | _=>False
theorem qS (h:LE K ta pe):LT K (tB ta) (pB pe):=fun A ρ σ H Q Q' R q k=>h A ρ σ H _ _ R q fun v H1 p ρ1 q1 f1 o1=>by
 split at q1
 .rename_i b
  obtain ⟨R1,f⟩:=o1
  cases f
  exact ⟨b,rfl,k b H1 ρ1 q1 f1 R1⟩
 .exact q1.elim
theorem eB (h:LE K ta pe):LT K (rJ ta) (pB pe):=qS h
def nU (a b:PTT):PTT:=fun ρ Q=>a ρ fun c ρ1=>gp c (b ρ1 Q) (Q false ρ1)
def pOr (a b:PTT):PTT:=fun ρ Q=>a ρ fun c ρ1=>gp c (Q true ρ1) (b ρ1 Q)
def qT (a:PTT):PTT:=fun ρ Q=>a ρ fun c ρ1=>Q (!c) ρ1
variable {tta ttb:TT}{pta ptb:PTT}
theorem fG (ha:LT K tta pta) (hb:LT K ttb ptb):LT K (uU tta ttb) (nU pta ptb):=fun A ρ σ H Q Q' R q k=>ha A ρ σ H _ _ R q fun c H1 ρ1 q1 f1 R1=>by
 cases c with
 | true=>exact hb A ρ1 σ H1 _ _ R1 q1 fun b H2 ρ2 q2 f2 R2=>k b H2 ρ2 q2 (f1.trans f2) R2
 | false=>exact k false H1 ρ1 q1 f1 R1
theorem k7 (ha:LT K tta pta) (hb:LT K ttb ptb):LT K (tOr tta ttb) (pOr pta ptb):=fun A ρ σ H Q Q' R q k=>ha A ρ σ H _ _ R q fun c H1 ρ1 q1 f1 R1=>by
 cases c with
 | false=>exact hb A ρ1 σ H1 _ _ R1 q1 fun b H2 ρ2 q2 f2 R2=>k b H2 ρ2 q2 (f1.trans f2) R2
 | true=>exact k true H1 ρ1 q1 f1 R1
theorem ja (ha:LT K tta pta):LT K (uV tta) (qT pta):=fun A ρ σ H Q Q' R q k=>ha A ρ σ H _ _ R q fun c H1 ρ1 q1 f1 R1=>k _ H1 ρ1 q1 f1 R1
def qf (a b:PTE):PTE:=fun ρ Q=>a ρ fun p ρ1=>match p with
 | .dat (.bl c)=>gp c (b ρ1 Q) (Q (.dat (.bl false)) ρ1)
 | _=>False
def sG (a:PTE):PTE:=fun ρ Q=>a ρ fun p ρ1=>match p with
 | .dat (.bl c)=>Q (.dat (.bl (!c))) ρ1
 | _=>False
theorem oH (ha:LE K ta pe) (hb:LE K tb pe'):LE K (rn ta tb) (qf pe pe'):=fun A ρ σ H Q Q' R q k=>ha A ρ σ H _ _ R q fun v H1 p ρ1 q1 f1 o1=>by
 split at q1
 .rename_i c
  obtain ⟨R1,f⟩:=o1
  cases f
  refine ⟨c,rfl,?_⟩
  cases c with
  | true=>exact hb A ρ1 σ H1 _ _ R1 q1 fun b H2 p2 ρ2 q2 f2 o2=>k b H2 p2 ρ2 q2 (f1.trans f2) (o2.h0 fun b z=>f1.dm b z)
  | false=>exact k _ H1 _ ρ1 q1 f1 ⟨R1,.bl false⟩
 .exact q1.elim
theorem sH (ha:LE K ta pe):LE K (ro ta) (sG pe):=fun A ρ σ H Q Q' R q k=>ha A ρ σ H _ _ R q fun v H1 p ρ1 q1 f1 o1=>by
 split at q1
 .rename_i c
  obtain ⟨R1,f⟩:=o1
  cases f
  exact ⟨c,rfl,k _ H1 _ ρ1 q1 f1 ⟨R1,.bl (!c)⟩⟩
 .exact q1.elim
def pIf (t:PTT) (a b:PTE):PTE:=fun ρ Q=>t ρ fun c ρ1=>gp c (a ρ1 Q) (b ρ1 Q)
theorem up (ht:LT K tta pta) (ha:LE K ta pe) (hb:LE K tb pe'):LE K (tIf tta ta tb) (pIf pta pe pe'):=fun A ρ σ H Q Q' R q k=>ht A ρ σ H _ _ R q fun c H1 ρ1 q1 f1 R1=>by
 cases c with
 | true=>exact ha A ρ1 σ H1 _ _ R1 q1 fun b H2 p2 ρ2 q2 f2 o2=>k b H2 p2 ρ2 q2 (f1.trans f2) (o2.h0 fun b z=>f1.dm b z)
 | false=>exact hb A ρ1 σ H1 _ _ R1 q1 fun b H2 p2 ρ2 q2 f2 o2=>k b H2 p2 ρ2 q2 (f1.trans f2) (o2.h0 fun b z=>f1.dm b z)
end
abbrev F2:=D->D->(PV->Prop)->Prop
def fI0 (g:Int->Int->D):F2
 | .int i,.int j,Q=>Q (.dat (g i j))
 | _,_,_=>False
def fI (C:Int->Int->Prop) (g:Int->Int->D):F2
 | .int i,.int j,Q=>C i j/\Q (.dat (g i j))
 | _,_,_=>False
section
variable {K:PySem.W.Frag}{X:Cx}
theorem sI {g:Int->Int->V}{g':Int->Int->D} (h:∀i j O H,FV K O H (g i j) (g' i j)):LO K (rI0 g) (fI0 g'):=by
 intro O H x y a b Q Q' dom fx fy q k
 unfold fI0 at q
 split at q
 .rename_i i j;exact ⟨i,j,fx.int,fy.int,k _ H _ q (Gr.refl _) (h i j _ _)⟩
 .exact q.elim
theorem uq {C:Int->Int->Prop}{g:Int->Int->V}{g':Int->Int->D} (h:∀i j O H,FV K O H (g i j) (g' i j)):LO K (rI C g) (fI C g'):=by
 intro O H x y a b Q Q' dom fx fy q k
 unfold fI at q
 split at q
 .rename_i i j;exact ⟨i,j,fx.int,fy.int,q.1,k _ H _ q.2 (Gr.refl _) (h i j _ _)⟩
 .exact q.elim
theorem dk {O:Addr->Prop}{H:Hp}{xs:List V}{ds:List D}{p:Addr} (hp:H p=none) (f:FVs K O H xs ds):kZ K O H (upd H p (.lst xs)) (.own ds) (.ref p) :=
 ⟨p,xs,rfl,hp,aS,f.keeps (aN.fresh hp)⟩
theorem ir {O:Addr->Prop}{H:Hp}{xs:List V}{ds:List D}{p:Addr} (dom:∀b,O b->H b≠none) (hp:H p=none) (f:FVs K O H xs ds):kZ K O H (upd H p (.tup xs)) (.dat (.tup ds)) (.ref p) :=
 .tup (fun z=>dom p z hp) aS (f.keeps fun b o n e=>⟨n,by rw [aB (aI e hp)];exact e⟩)
def ur:R2:=fun x y H Q=>∃i j,x=.str (S i)/\y=.str (S j)/\i.length + j.length<=sizeLine/\Q (.str (S (i++j))) H
def qg (K:PySem.W.Frag):R2:=fun x y H Q=>rI0 (fun i j=>.int (i + j)) x y H Q\/ur x y H Q\/ss K x y H Q\/rO K x y H Q
theorem ut (K:PySem.W.Frag) (e:X.K=K):OpR X (binaryOp .Add) (qg K):=by
 subst e
 exact OpR.or rD (OpR.or pV (OpR.or p3 pK))
def uu:F2
 | .int i,.int j,Q=>Q (.dat (.int (i + j)))
 | .str a,.str b,Q=>a.length + b.length<=1000000/\Q (.dat (.str (a++b)))
 | .lst a,.lst b,Q=>a.length + b.length<=1000000/\Q (.own (a++b))
 | .scr a,.lst b,Q=>a.length + b.length<=1000000/\Q (.own (a.map .int++b))
 | .tup a,.tup b,Q=>a≠[]/\a.length + b.length<=1000000/\Q (.dat (.tup (a++b)))
 | _,_,_=>False
theorem oI:LO K (qg K) uu:=by
 intro O H x y a b Q Q' dom fx fy q k
 unfold uu at q
 split at q
 .rename_i i j;exact .inl ⟨i,j,fx.int,fy.int,k _ H _ q (Gr.refl _) (.int _)⟩
 .rename_i i j;exact .inr (.inl ⟨i,j,fx.str.1,fy.str.1,sz _ q.1,k _ H _ q.2 (Gr.refl _) (.str _ (by rw [List.length_append];exact q.1))⟩)
 .rename_i i j
  obtain ⟨a,xs,rfl,e1,f1⟩:=fx.lst
  obtain ⟨b,ys,rfl,e2,f2⟩:=fy.lst
  exact .inr (.inr (.inl ⟨a,b,xs,ys,rfl,rfl,SqL.of e1,SqL.of e2,sz _ (by rw [f1.length,f2.length];exact q.1),fun p hp=>k _ _ _ q.2 (Gr.new hp) (dk hp (f1.append f2))⟩))
 .rename_i i j
  obtain ⟨a,rfl,e1⟩:=fx.scr
  obtain ⟨b,ys,rfl,e2,f2⟩:=fy.lst
  exact .inr (.inr (.inl ⟨a,b,_,ys,rfl,rfl,e1,SqL.of e2,sz _ (by rw [List.length_map,f2.length];exact q.1),fun p hp=>k _ _ _ q.2 (Gr.new hp) (dk hp ((FVs.of_ints i).append f2))⟩))
 .rename_i i j
  obtain ⟨a,xs,rfl,n1,e1,f1⟩:=fx.tup
  obtain ⟨b,ys,rfl,n2,e2,f2⟩:=fy.tup
  have l1:=f1.length
  have l2:=f2.length
  refine .inr (.inr (.inr ⟨a,b,xs,ys,rfl,rfl,SqT.of e1,SqT.of e2,fun z=>q.1 ?_,sz _ (by rw [l1,l2];exact q.2.1),fun z=>?_,fun _ p hp=>k _ _ _ q.2.2 (Gr.new hp) (ir dom hp (f1.append f2))⟩))
  .exact List.length_eq_zero_iff.mp (by rw [<- l1,z];rfl)
  .have:j=[]:=List.length_eq_zero_iff.mp (by rw [<- l2,z];rfl)
   subst this
   exact k _ H _ q.2.2 (Gr.refl _) (by rw [List.append_nil];exact .tup n1 e1 f1)
 .exact q.elim
theorem j9:LO K (rI0 fun i j=>.int (i - j)) (fI0 fun i j=>.int (i - j)):=sI fun _ _ _ _=>.int _
theorem bf:LO K (rI (fun _ j=>0 < j) fun i j=>.int (i % j)) (fI (fun _ j=>0 < j) fun i j=>.int (i % j)):=uq fun _ _ _ _=>.int _
theorem fm:LO K (rI t3 fun i j=>.int (i / j)) (fI (fun _ j=>0 < j/\j < 1073741824) fun i j=>.int (i / j)):=uq fun _ _ _ _=>.int _
theorem sJ:LO K (rI t4 fun i j=>.int (i ^ j.toNat)) (fI (fun i j=>0<=j/\j<=1000000/\i.natAbs < 2 ^ 64) fun i j=>.int (i ^ j.toNat)):=uq fun _ _ _ _=>.int _
def uv:R2:=fun x y H Q=>∃l n,x=.str (S l)/\y=.int n/\-1000000<=n/\n<=1000000/\n.toNat * l.length<=sizeLine/\Q (.str (S (lb l n))) H
def qh:R2:=fun x y H Q=>rI tS (fun i j=>.int (i * j)) x y H Q\/uv x y H Q\/vf x y H Q
theorem gq:OpR X (binaryOp .Mult) qh:=OpR.or rF (OpR.or kP rV)
def k8:F2
 | .int i,.int j,Q=>((-(2 ^ 64) < i/\i < 2 ^ 64)\/(-(2 ^ 64) < j/\j < 2 ^ 64))/\Q (.dat (.int (i * j)))
 | .str a,.int n,Q=>(-1000000<=n/\n<=1000000/\n.toNat * a.length<=1000000)/\Q (.dat (.str (lb a n)))
 | .lst a,.int n,Q=>(-1000000<=n/\n<=1000000/\a.length * n.toNat<=1000000)/\Q (.own (lb a n))
 | _,_,_=>False
theorem FVs.rep {O:Addr->Prop}{H:Hp}{xs:List V}{ds:List D} (f:FVs K O H xs ds):∀n,FVs K O H (List.replicate n xs).flatten (List.replicate n ds).flatten
 | 0=>.nil
 | n + 1=>by rw [List.replicate_succ,List.replicate_succ,List.flatten_cons,List.flatten_cons];exact f.append (f.rep n)
theorem dN:LO K qh k8:=by
 intro O H x y a b Q Q' dom fx fy q k
 unfold k8 at q
 split at q
 .rename_i i j;exact .inl ⟨i,j,fx.int,fy.int,q.1,k _ H _ q.2 (Gr.refl _) (.int _)⟩
 .rename_i i j;exact .inr (.inl ⟨i,j,fx.str.1,fy.int,q.1.1,q.1.2.1,sz _ q.1.2.2,k _ H _ q.2 (Gr.refl _) (.str _ (by rw [df];exact q.1.2.2))⟩)
 .rename_i i j
  obtain ⟨a,xs,rfl,e1,f1⟩:=fx.lst
  exact .inr (.inr ⟨a,j,xs,rfl,fy.int,e1,by omega,by omega,sz _ (by rw [f1.length];exact q.1.2.2),fun p hp=>k _ _ _ q.2 (Gr.new hp) (dk hp (f1.rep _))⟩)
 .exact q.elim
def vj:R2:=fun x y H Q=>rI0 (fun i j=>.bl (decide (i < j))) x y H Q\/∃i j,x=.str i/\y=.str j/\Q (.bl (decide (i.cps.toList < j.cps.toList))) H
def vk:R2:=fun x y H Q=>rI0 (fun i j=>.bl (decide (i<=j))) x y H Q\/∃i j,x=.str i/\y=.str j/\Q (.bl (!decide (j.cps.toList < i.cps.toList))) H
theorem tV:OpR X (compareOp .Lt) vj:=OpR.or t7 lA
theorem vE:OpR X (compareOp .LtE) vk:=OpR.or t8 lS
def fLt:F2
 | .int i,.int j,Q=>Q (.dat (.bl (decide (i < j))))
 | .str i,.str j,Q=>Q (.dat (.bl (decide (i < j))))
 | _,_,_=>False
def fLe:F2
 | .int i,.int j,Q=>Q (.dat (.bl (decide (i<=j))))
 | .str i,.str j,Q=>Q (.dat (.bl (!decide (j < i))))
 | _,_,_=>False
theorem nV:LO K vj fLt:=by
 intro O H x y a b Q Q' dom fx fy q k
 unfold fLt at q
 split at q
 .rename_i i j;exact .inl ⟨i,j,fx.int,fy.int,k _ H _ q (Gr.refl _) (.bl _)⟩
 .rename_i i j;exact .inr ⟨_,_,fx.str.1,fy.str.1,k _ H _ q (Gr.refl _) (.bl _)⟩
 .exact q.elim
theorem uw:LO K vk fLe:=by
 intro O H x y a b Q Q' dom fx fy q k
 unfold fLe at q
 split at q
 .rename_i i j;exact .inl ⟨i,j,fx.int,fy.int,k _ H _ q (Gr.refl _) (.bl _)⟩
 .rename_i i j;exact .inr ⟨_,_,fx.str.1,fy.str.1,k _ H _ q (Gr.refl _) (.bl _)⟩
 .exact q.elim
theorem qi:LO K (rI0 fun i j=>.bl (decide (j < i))) (fI0 fun i j=>.bl (decide (j < i))):=sI fun _ _ _ _=>.bl _
mutual
def D.py:D->PyData
 | .non=>.none | .bl b=>.bool b | .int i=>.int i | .str l=>.str (S l) | .ty _=>.none
 | .lst ds=>.list (D.pys ds) | .tup ds=>.tuple (D.pys ds) | .scr ns=>.list (ns.map .int) | .dic _ _=>.none | .obj _ _ _=>.none | .exc _ _ _=>.none
def D.pys:List D->List PyData
 | []=>[]
 | d::r=>d.py::D.pys r
end
mutual
def D.plain:D->Bool
 | .non=>true | .bl _=>true | .int _=>true | .str _=>true | .ty _=>false
 | .lst ds=>D.plains ds | .tup ds=>D.plains ds | .scr _=>true | .dic _ _=>false | .obj _ _ _=>false | .exc _ _ _=>false
def D.plains:List D->Bool
 | []=>true
 | d::r=>d.plain && D.plains r
end
mutual
theorem FV.dv {O:Addr->Prop}{H:Hp}:∀{v:V}{d:D},FV K O H v d->d.plain=true->DV K H v d.py
 | _,_,.non,_=>.non
 | _,_,.bl b,_=>.bl b
 | _,_,.int i,_=>.int i
 | _,_,.str l h,_=>.str (S l)
 | _,_,.ty n,p=>nomatch p
 | _,_,.scr s,_=>.lst s.sq (DVs.ints _)
 | _,_,.lst n e f,p=>.lst (SqL.of e) (FVs.dvs f p)
 | _,_,.tup n e f,p=>.tup (SqT.of e) (FVs.dvs f p)
 | _,_,.dic _ _ _ _,p=>nomatch p
 | _,_,.obj _ _ _ _,p=>nomatch p
 | _,_,.exc0 _ _,p=>nomatch p
 | _,_,.exc1 _ _ _ _ _ _,p=>nomatch p
theorem FVs.dvs {O:Addr->Prop}{H:Hp}:∀{vs:List V}{ds:List D},FVs K O H vs ds->D.plains ds=true->DVs K H vs (D.pys ds)
 | _,_,.nil,_=>.nil
 | _,_,.cons a b,p=>by
  have p:(_ && _)=true:=p
  rw [Bool.and_eq_true] at p
  exact .cons (FV.dv a p.1) (FVs.dvs b p.2)
end
theorem FVc.dv {O:Addr->Prop}{H:Hp}{v:V}{d:D} (h:FVc K O H v d) (p:d.plain=true):DV K H v d.py:=by
 rcases h with h | ⟨a,xs,ds',rfl,rfl,e3,f⟩ | ⟨a,dx,c,fs,ns,ds',e1,rfl,_⟩
 .exact h.dv p
 .exact .lst (SqL.of e3) (f.dvs p)
 .cases p
def sK (K:PySem.W.Frag) (neg:Bool):R2:=fun x y H Q=>rI0 (fun i j=>.bl (if neg then !decide (i=j) else decide (i=j))) x y H Q\/(∃i j,x=.str (S i)/\y=.str (S j)/\Q (.bl (if neg then !decide (i=j) else decide (i=j))) H)\/ug K neg x y H Q
theorem vF (K:PySem.W.Frag) (e:X.K=K) (hu:X.A.units + 64 < cLine):OpR X (compareOp .Eq) (sK K false):=by
 subst e
 exact OpR.or sh (OpR.or sf (r9 hu))
theorem vG (K:PySem.W.Frag) (e:X.K=K) (hu:X.A.units + 64 < cLine):OpR X (compareOp .NotEq) (sK K true):=by
 subst e
 exact OpR.or si (OpR.or sg (sd hu))
def oJ (a b:D):Prop:=a.plain=true/\b.plain=true/\SeqAt.shaped a.py=true/\SeqAt.shaped b.py=true
def deq (a b:D):Bool:=PyData.eqv a.py b.py
def fEq:F2
 | .int i,.int j,Q=>Q (.dat (.bl (decide (i=j))))
 | .str i,.str j,Q=>Q (.dat (.bl (decide (i=j))))
 | a,b,Q=>oJ a b/\Q (.dat (.bl (deq a b)))
def fNe:F2
 | .int i,.int j,Q=>Q (.dat (.bl (!decide (i=j))))
 | .str i,.str j,Q=>Q (.dat (.bl (!decide (i=j))))
 | a,b,Q=>oJ a b/\Q (.dat (.bl (!deq a b)))
theorem ux:LO K (sK K false) fEq:=by
 intro O H x y a b Q Q' dom fx fy q k
 unfold fEq at q
 split at q
 .rename_i i j;exact .inl ⟨i,j,fx.int,fy.int,k _ H _ q (Gr.refl _) (.bl _)⟩
 .rename_i i j;exact .inr (.inl ⟨i,j,fx.str.1,fy.str.1,k _ H _ q (Gr.refl _) (.bl _)⟩)
 .exact .inr (.inr ⟨_,_,fx.dv q.1.1,fy.dv q.1.2.1,q.1.2.2.1,q.1.2.2.2,k _ H _ q.2 (Gr.refl _) (.bl _)⟩)
theorem uy:LO K (sK K true) fNe:=by
 intro O H x y a b Q Q' dom fx fy q k
 unfold fNe at q
 split at q
 .rename_i i j;exact .inl ⟨i,j,fx.int,fy.int,k _ H _ q (Gr.refl _) (.bl _)⟩
 .rename_i i j;exact .inr (.inl ⟨i,j,fx.str.1,fy.str.1,k _ H _ q (Gr.refl _) (.bl _)⟩)
 .exact .inr (.inr ⟨_,_,fx.dv q.1.1,fy.dv q.1.2.1,q.1.2.2.1,q.1.2.2.2,k _ H _ q.2 (Gr.refl _) (.bl _)⟩)
def vm (neg:Bool):R2:=fun x y H Q=>(∃b c,x=.bl b/\y=.bl c/\Q (.bl (if neg then !decide (b=c) else decide (b=c))) H)\/(y=.non/\Q (.bl (if neg then !decide (x=.non) else decide (x=.non))) H)
theorem qj:OpR X (compareOp .IsNot) (vm true):=OpR.or ms pd
def D.isNon:D->Bool
 | .non=>true
 | _=>false
theorem FVc.isNon {O:Addr->Prop}{H:Hp}{v:V}{d:D} (h:FVc K O H v d):decide (v=.non)=d.isNon:=by
 rcases h with h | ⟨a,xs,ds',rfl,rfl,e3,f⟩ | ⟨a,dx,c,fs,ns,ds',rfl,rfl,_⟩
 .cases h <;> rfl
 .rfl
 .rfl
def fIs (neg:Bool):F2
 | .bl b,.bl c,Q=>Q (.dat (.bl (if neg then !decide (b=c) else decide (b=c))))
 | a,.non,Q=>Q (.dat (.bl (if neg then !a.isNon else a.isNon)))
 | _,_,_=>False
theorem uz {neg:Bool}:LO K (vm neg) (fIs neg):=by
 intro O H x y a b Q Q' dom fx fy q k
 unfold fIs at q
 split at q
 .rename_i b c;exact .inl ⟨b,c,fx.bl,fy.bl,k _ H _ q (Gr.refl _) (.bl _)⟩
 .exact .inr ⟨fy.non,by rw [fx.isNon];exact k _ H _ q (Gr.refl _) (.bl _)⟩
 .exact q.elim
def D.fl:D->Bool
 | .non=>true | .bl _=>true | .int _=>true | .str _=>true
 | _=>false
def eqF:D->D->Bool
 | .non,.non=>true
 | .bl a,.bl b=>a == b
 | .bl a,.int b=>(if a then 1 else 0) == b
 | .int a,.bl b=>a == (if b then 1 else 0)
 | .int a,.int b=>a == b
 | .str a,.str b=>a == b
 | _,_=>false
def inD (x:D) (xs:List D):Bool:=xs.any fun y=>eqF y x
theorem FV.fl {O:Addr->Prop}{H:Hp}{v:V}{d:D} (h:FV K O H v d) (f:d.fl=true):gM v=true:=by cases h <;> first | rfl | cases f
theorem sL (a b:List Nat):(S a == S b)=(a == b):=by
 by_cases h:a=b
 .subst h;rw [beq_self_eq_true,beq_self_eq_true]
 .rw [beq_eq_false_iff_ne.mpr h,beq_eq_false_iff_ne.mpr (vA h)]
theorem FV.eqF {O:Addr->Prop}{H:Hp}{v w:V}{d e:D} (h:FV K O H v d) (f:d.fl=true) (h':FV K O H w e) (f':e.fl=true):eqV v w=L2.eqF d e:=by
 cases h <;> first | (cases f;done) | (cases h' <;> first | (cases f';done) | rfl | exact sL _ _)
theorem FVs.inD {O:Addr->Prop}{H:Hp}{v:V}{d:D} (h:FV K O H v d) (f:d.fl=true):∀{xs:List V}{ds:List D},FVs K O H xs ds->ds.all D.fl=true->xs.all gM=true/\inV v xs=L2.inD d ds
 | _,_,.nil,_=>⟨rfl,rfl⟩
 | _,_,.cons a b,g=>by
  rw [List.all_cons,Bool.and_eq_true] at g
  obtain ⟨i1,i2⟩:=b.inD h f g.2
  refine ⟨by rw [List.all_cons,a.fl g.1,i1];rfl,?_⟩
  unfold inV L2.inD at i2 ⊢
  rw [List.any_cons,List.any_cons,i2,a.eqF g.1 h f]
def fIn (neg:Bool):F2
 | a,.lst ds,Q=>(a.fl=true/\ds.all D.fl=true)/\Q (.dat (.bl (if neg then !inD a ds else inD a ds)))
 | a,.tup ds,Q=>(a.fl=true/\ds.all D.fl=true)/\Q (.dat (.bl (if neg then !inD a ds else inD a ds)))
 | _,_,_=>False
theorem FVc.fl {O:Addr->Prop}{H:Hp}{v:V}{d:D} (h:FVc K O H v d) (f:d.fl=true):FV K O H v d:=h.fv (fun _ z=>by rw [z] at f;cases f) (fun _ _ _ z=>by rw [z] at f;cases f)
theorem vH (K:PySem.W.Frag) (e:X.K=K):OpR X (compareOp .In) (rIn K false):=by subst e;exact lK
theorem qk (K:PySem.W.Frag) (e:X.K=K):OpR X (compareOp .NotIn) (rIn K true):=by subst e;exact iT
theorem sM {neg:Bool}:LO K (rIn K neg) (fIn neg):=by
 intro O H x y a b Q Q' dom fx fy q k
 unfold fIn at q
 split at q
 .obtain ⟨p,xs,rfl,e1,f1⟩:=fy.lst
  obtain ⟨g1,g2⟩:=f1.inD (fx.fl q.1.1) q.1.1 q.1.2
  exact ⟨p,xs,rfl,.inl (SqL.of e1),(fx.fl q.1.1).fl q.1.1,g1,by rw [g2];exact k _ H _ q.2 (Gr.refl _) (.bl _)⟩
 .obtain ⟨p,xs,rfl,n1,e1,f1⟩:=fy.tup
  obtain ⟨g1,g2⟩:=f1.inD (fx.fl q.1.1) q.1.1 q.1.2
  exact ⟨p,xs,rfl,.inr (SqT.of e1),(fx.fl q.1.1).fl q.1.1,g1,by rw [g2];exact k _ H _ q.2 (Gr.refl _) (.bl _)⟩
 .exact q.elim
def uA (K:PySem.W.Frag):R2:=fun x y H Q=>u9 K x y H Q\/va K x y H Q\/se x y H Q
theorem ka (K:PySem.W.Frag) (e:X.K=K):IxR X (uA K):=by
 subst e
 exact IxR.or pP (IxR.or rP pU)
def fIx:F2
 | .lst ds,.int i,Q=>∃d,atI ds i=some d/\Q (.dat d)
 | .tup ds,.int i,Q=>∃d,atI ds i=some d/\Q (.dat d)
 | .scr ns,.int i,Q=>∃d,atI ns i=some d/\Q (.dat (.int d))
 | .str l,.int i,Q=>∃c,atI l i=some c/\Q (.dat (.str [c]))
 | _,_,_=>False
theorem FVs.atI {O:Addr->Prop}{H:Hp}{vs:List V}{ds:List D}{i:Int}{d:D} (f:FVs K O H vs ds) (h:L2.atI ds i=some d):∃v,L2.atI vs i=some v/\FV K O H v d:=by
 unfold L2.atI at h ⊢
 rw [f.length]
 cases e:ixN ds.length i with
 | none=>rw [e] at h;cases h
 | some j=>rw [e] at h;exact f.getD h
theorem eV:LO K (uA K) fIx:=by
 intro O H x y a b Q Q' dom fx fy q k
 unfold fIx at q
 split at q
 .obtain ⟨d,hd,q⟩:=q
  obtain ⟨p,xs,rfl,e1,f1⟩:=fx.lst
  obtain ⟨v,hv,fv⟩:=f1.atI hd
  exact .inl ⟨p,xs,_,v,rfl,fy.int,SqL.of e1,hv,k _ H _ q (Gr.refl _) fv⟩
 .obtain ⟨d,hd,q⟩:=q
  obtain ⟨p,xs,rfl,n1,e1,f1⟩:=fx.tup
  obtain ⟨v,hv,fv⟩:=f1.atI hd
  exact .inr (.inl ⟨p,xs,_,v,rfl,fy.int,SqT.of e1,hv,k _ H _ q (Gr.refl _) fv⟩)
 .obtain ⟨d,hd,q⟩:=q
  obtain ⟨p,rfl,e1⟩:=fx.scr
  exact .inl ⟨p,_,_,_,rfl,fy.int,e1,pW hd,k _ H _ q (Gr.refl _) (.int d)⟩
 .obtain ⟨c,hc,q⟩:=q
  exact .inr (.inr ⟨_,_,c,fx.str.1,fy.int,sz _ fx.str.2,hc,k _ H _ q (Gr.refl _) (.str _ (by show 1<=1000000;decide))⟩)
 .exact q.elim
end
end L2
namespace L2
open PySem PySem.Spec PyProof.Rows _root_.HT
section
variable {prog:Program}{w:World}{A:Around}{E:Value->Shared->Prop}{s:Shared}
theorem fo {t sl:Addr}{items:Array Value}{vl vu:Value}{lo hi:Option Int}{Q:Value->Shared->Prop} (ht:IsTup s.heap t items) (hs:s.heap.IsSliceOf sl vl vu .none) (pl:IsPart vl lo) (pu:IsPart vu hi)
  (hw:sIx items.size 0 lo=0/\sIx items.size items.size hi=items.size)
  (h:Q (.ref t) s):wpAny (model prog w) A (getItem (.ref t) (.ref sl)) Q E s:=by
 obtain ⟨os,hos,hcs,hds⟩:=id hs
 have hTs:s.TypeIs (.ref sl) "slice":=⟨os,hos,hcs⟩
 unfold getItem
 try with_reducible refine wpAny_holding ?_
 first | refine wpAny_bind (wpAny_pure ?_) | skip
 refine wpAny_bind (wpAny_sequenceKey ht.typeIs (by decide) ?_)
 refine wpAny_bind (wpAny_callSpecial?_slot (name:=Str.ofString "__getitem__") ht.typeIs PyProof.Rows.slot_tuple_getitem
  (wpAny_call_entry PyProof.Rows.slot_tuple_getitem ht.typeIs entry_tuple_getitem ?_ (args_tuple_getitem _ _)))
 show wpAny _ _ (Builtin.Tuple.tupleItemsOf (.ref t) >>= _) _ _ s
 refine wpAny_bind (tupleItemsOf_ ht ?_)
 refine wpAny_bind (wpAny_typeOf hTs ?_)
 rw [if_pos (by decide)]
 refine wpAny_bind (dD hs pl pu ?_)
 have hyes:(((sIx items.size 0 lo:Nat):Int) == 0 && (1:Int) == 1 && (sIx items.size items.size hi - sIx items.size 0 lo) == items.size)=true:=by
  rw [hw.1,hw.2,Nat.sub_zero];simp
 show wpAny _ _ (if (((sIx items.size 0 lo:Nat):Int) == 0 && (1:Int) == 1 && (sIx items.size items.size hi - sIx items.size 0 lo) == items.size)=true then _ else _) _ _ s
 rw [if_pos hyes]
 refine wpAny_bind (m:=Builtin.Tuple.tupleIsExact _) (wpAny_bind (wpAny_typeOf ht.typeIs (wpAny_pure ?_)))
 rw [if_pos (by decide)]
 first
  | exact wpAny_bind (m:=rule _) (wpAny_pure (wpAny_pure ⟨_,rfl,wpAny_pure h⟩))
  | exact wpAny_pure ⟨_,rfl,wpAny_pure h⟩
  | exact wpAny_bind (wpAny_rule (wpAny_pure ⟨_,rfl,wpAny_pure h⟩))
def sN (K:PySem.W.Frag):V->Option Int->Option Int->Hp->VK->Prop:=fun x lo hi H Q=>∃a xs,x=.ref a/\SqT K H a xs/\(sIx xs.length 0 lo=0/\sIx xs.length xs.length hi=xs.length)/\Q (.ref a) H
theorem ql {X:Cx}:SlR X (sN X.K):=by
 intro pins s σ H x v vl vu lo hi sl Q I rx hs pl pu h
 obtain ⟨a,xs,rfl,hx,hw,q⟩:=h
 cases rx
 obtain ⟨its,r,ht,hz⟩:=I.tuple hx
 have hlen:its.toArray.size=xs.length:=by rw [List.size_toArray];exact r.length.symm
 refine ⟨"tuple",_,PyProof.Rows.slot_tuple_getitem.lookup,ht.typeIs,?_⟩
 exact fo ht hs pl pu (by rw [hlen];exact hw) ⟨.ref a,H,I,rfl,q⟩
end
end L2
namespace L2
open PySem PySem.Spec PyProof.Rows
section
variable {K:PySem.W.Frag}{X:Cx}{ta tb tc to:TE}{pa pb pc:PA1}{pe:PTE}{tr:TA}{pr:PTA}
abbrev PTO:=PSt->(Option Int->PSt->Prop)->Prop
def LPo (K:PySem.W.Frag) (t:TO) (p:PTO):Prop:=∀(A:Addr->Prop) (ρ:PSt) (σ:St) (H:Hp) (Q:Option Int->PSt->Prop) (Q':Option Int->Hp->Prop),Rel K A ρ σ H->p ρ Q ->
 (∀b H' ρ',Q b ρ'->Fr ρ σ H ρ' H'->Rel K A ρ' σ H'->Q' b H')->t σ H Q'
def eW:PTO:=fun ρ Q=>Q none ρ
def cX (pe:PTE):PTO:=fun ρ Q=>pe ρ fun p ρ1=>match p with
 | .dat (.int i)=>Q (some i) ρ1
 | _=>False
theorem cH:LPo K jD eW:=fun A ρ σ H Q Q' R q k=>k none H ρ q (Fr.refl _ _ _) R
theorem bN (h:LE K ta pe):LPo K (pI ta) (cX pe):=fun A ρ σ H Q Q' R q k=>h A ρ σ H _ _ R q fun v H1 p ρ1 q1 f1 o1=>by
 split at q1
 .rename_i i
  obtain ⟨R1,f⟩:=o1
  cases f
  exact ⟨i,rfl,k _ H1 ρ1 q1 f1 R1⟩
 .exact q1.elim
def tW (K:PySem.W.Frag):V->Option Int->Option Int->Hp->VK->Prop:=fun x lo hi H Q=>vc K x lo hi H Q\/vg x lo hi H Q\/u8 K x lo hi H Q\/sN K x lo hi H Q
theorem mx (K:PySem.W.Frag) (e:X.K=K):SlR X (tW K):=by
 subst e
 exact SlR.or pQ (SlR.or rZ (SlR.or rN ql))
def fSl:D->Option Int->Option Int->(PV->Prop)->Prop
 | .lst ds,lo,hi,Q=>Q (.own (dL ds lo hi))
 | .scr ns,lo,hi,Q=>Q (.own ((dL ns lo hi).map .int))
 | .str l,lo,hi,Q=>Q (.dat (.str (dL l lo hi)))
 | .tup ds,lo,hi,Q=>Q (.dat (.tup (dL ds lo hi)))
 | _,_,_,_=>False
theorem FVs.cut {O:Addr->Prop}{H:Hp}{xs:List V}{ds:List D} (f:FVs K O H xs ds) (lo hi:Option Int):FVs K O H (dL xs lo hi) (dL ds lo hi):=by
 unfold dL
 rw [f.length]
 exact (f.drop _).take _
def dO (pa:PA1) (pl ph:PTO):PTE:=fun ρ Q=>pa ρ fun x ρ1=>pl ρ1 fun lo ρ2=>ph ρ2 fun hi ρ3=>match cont ρ3 x with
 | some d=>fSl d lo hi fun p=>Q p ρ3
 | _=>False
theorem qm {α:Type}{ds:List α}{lo hi:Option Int}{n:Nat} (h:n=ds.length) (hw:HT.sIx n 0 lo=0/\HT.sIx n n hi=n):dL ds lo hi=ds:=by
 subst h
 unfold dL
 rw [hw.1,hw.2,List.drop_zero,Nat.sub_zero,List.take_length]
theorem lsl {O:Addr->Prop}{H:Hp}{x:V}{d:D}{lo hi:Option Int}{Q:PV->Prop}{Q':VK} (dom:∀b,O b->H b≠none) (fx:FVc K O H x d) (q:fSl d lo hi Q) (k:∀v H' p,Q p->Gr H H'->kZ K O H H' p v->Q' v H'):tW K x lo hi H Q':=by
 unfold fSl at q
 split at q
 .obtain ⟨a,xs,rfl,e1,f1⟩:=fx.lst
  exact .inl ⟨a,xs,rfl,SqL.of e1,fun p hp=>k _ _ _ q (Gr.new hp) (dk hp (f1.cut _ _))⟩
 .obtain ⟨a,rfl,e1⟩:=fx.scr
  exact .inl ⟨a,_,rfl,e1,fun p hp=>k _ _ _ q (Gr.new hp) (dk hp (by rw [lP,nH];exact FVs.of_ints _))⟩
 .exact .inr (.inl ⟨_,fx.str.1,sz _ fx.str.2,k _ H _ q (Gr.refl _) (.str _ (Nat.le_trans (bK _ _ _) fx.str.2))⟩)
 .obtain ⟨a,xs,rfl,n1,e1,f1⟩:=fx.tup
  by_cases hw:HT.sIx xs.length 0 lo=0/\HT.sIx xs.length xs.length hi=xs.length
  .refine .inr (.inr (.inr ⟨a,xs,rfl,SqT.of e1,hw,k _ H _ q (Gr.refl _) ?_⟩))
   rw [qm f1.length hw]
   exact .tup n1 e1 f1
  .exact .inr (.inr (.inl ⟨a,xs,rfl,SqT.of e1,hw,fun p hp=>k _ _ _ q (Gr.new hp) (ir dom hp (f1.cut _ _))⟩))
 .exact q.elim
theorem b9 {tl th:TO}{pl ph:PTO} (ha:LA1 K ta pa) (hl:LPo K tl pl) (hh:LPo K th ph):LE K (tSl (tW K) ta tl th) (dO pa pl ph):=fun A ρ σ H Q Q' R q k =>
 ha A ρ σ H _ _ R q fun v H1 a ρ1 q1 f1 R1 o1=>hl A ρ1 σ H1 _ _ R1 q1 fun lo H2 ρ2 q2 f2 R2=>hh A ρ2 σ H2 _ _ R2 q2 fun hi H3 ρ3 q3 f3 R3=>by
  split at q3
  .rename_i d e1
   exact lsl R3.dom2 (R3.cont (o1.keeps (f2.trans f3).keeps) e1) q3 fun z H4 p q4 g ov=>k z H4 p ρ3 q4 (((f1.trans f2).trans f3).trans g.fr) ((ov.out R3 g).h0 fun b z=>f3.dm b (f2.dm b (f1.dm b z)))
  .exact q3.elim
abbrev FN:=List D->(PV->Prop)->Prop
def my (K:PySem.W.Frag):List V->Hp->VK->Prop:=fun xs H Q=>(∃l,xs=[.str (S l)]/\l.length<=sizeLine/\Q (.int l.length) H)\/ui K xs H Q\/uj K xs H Q\/∃p kvs,xs=[.ref p]/\Rd H p (.dK kvs)/\Q (.int kvs.length) H
theorem bZ (K:PySem.W.Frag) (e:X.K=K):ci X (.builtin "len") (my K):=by
 subst e
 exact ci.or lW (ci.or lX (ci.or lY mv))
def fg:FN
 | [.str l],Q=>Q (.dat (.int l.length))
 | [.lst l],Q=>Q (.dat (.int l.length))
 | [.tup l],Q=>Q (.dat (.int l.length))
 | [.scr l],Q=>Q (.dat (.int l.length))
 | [.dic ks _],Q=>Q (.dat (.int ks.length))
 | _,_=>False
theorem bi:LC K (my K) fg:=by
 intro O H xs as Q Q' dom fs q k
 unfold fg at q
 split at q
 .cases fs with | cons a b=>cases b;rw [a.str.1];exact .inl ⟨_,rfl,sz _ a.str.2,k _ H _ q (Gr.refl _) (.int _)⟩
 .cases fs with
  | cons a b =>
   cases b
   obtain ⟨p,ys,rfl,e1,f1⟩:=a.lst
   exact .inr (.inl ⟨p,ys,rfl,SqL.of e1,by rw [f1.length];exact k _ H _ q (Gr.refl _) (.int _)⟩)
 .cases fs with
  | cons a b =>
   cases b
   obtain ⟨p,ys,rfl,n1,e1,f1⟩:=a.tup
   exact .inr (.inr (.inl ⟨p,ys,rfl,SqT.of e1,by rw [f1.length];exact k _ H _ q (Gr.refl _) (.int _)⟩))
 .cases fs with
  | cons a b =>
   cases b
   obtain ⟨p,rfl,e1⟩:=a.scr
   exact .inr (.inl ⟨p,_,rfl,e1,by rw [List.length_map];exact k _ H _ q (Gr.refl _) (.int _)⟩)
 .cases fs with
  | cons a b =>
   cases b
   cases a.fv nofun nofun with
   | dic n e m f=>subst m;exact .inr (.inr (.inr ⟨_,_,rfl,.inl e,k _ H _ q (Gr.refl _) (by rw [List.length_map];exact .int _)⟩))
 .exact q.elim
inductive Kd where
 | int | bool | str | list | tuple | dict
def Kd.nm:Kd->String
 | .int=>"int" | .bool=>"bool" | .str=>"str" | .list=>"list" | .tuple=>"tuple" | .dict=>"dict"
def isK:Kd->D->Bool
 | .int,.int _=>true
 | .int,.bl _=>true
 | .bool,.bl _=>true
 | .str,.str _=>true
 | .list,.lst _=>true
 | .tuple,.tup _=>true
 | .dict,.dic _ _=>true
 | _,_=>false
def D.sort:D->Bool
 | .obj _ _ _=>false
 | .exc _ _ _=>false
 | .scr _=>false
 | .ty _=>false
 | _=>true
theorem FVc.ty {O:Addr->Prop}{H:Hp}{v:V}{d:D} (h:FVc K O H v d) (s:d.sort=true):∃t,jC K H v t/\∀k:Kd,PySem.W.kitOne K t (.type k.nm)=some (isK k d):=by
 rcases h with h | ⟨a,xs,ds',rfl,rfl,e3,f⟩ | ⟨a,dx,c,fs,ns,ds',rfl,rfl,_⟩
 .cases h with
  | non=>exact ⟨_,.non,fun k=>by cases k <;> rfl⟩
  | bl b=>exact ⟨_,.bl b,fun k=>by cases k <;> rfl⟩
  | int i=>exact ⟨_,.int i,fun k=>by cases k <;> rfl⟩
  | str l h=>exact ⟨_,.str _,fun k=>by cases k <;> rfl⟩
  | ty n=>cases s
  | scr _=>cases s
  | lst n e f=>exact ⟨_,.lst e,fun k=>by cases k <;> rfl⟩
  | tup n e f=>exact ⟨_,.tup e,fun k=>by cases k <;> rfl⟩
  | dic n e m f=>exact ⟨_,.dK e,fun k=>by cases k <;> rfl⟩
  | obj _ _ _ _=>cases s
  | exc0 _ _=>cases s
  | exc1 _ _ _ _ _ _=>cases s
 .exact ⟨_,.lst e3,fun k=>by cases k <;> rfl⟩
 .cases s
theorem sO (K:PySem.W.Frag) (e:X.K=K):ci X (.builtin "isinstance") (vh K):=by subst e;exact jF
def uB (k:Kd) (pa:PA1):PTE:=fun ρ Q=>pa ρ fun x ρ1=>match cont ρ1 x with
 | some d=>gp d.sort (Q (.dat (.bl (isK k d))) ρ1) False
 | _=>False
theorem oK (k:Kd) (ha:LA1 K ta pa):LE K (tCB (vh K) (dJ ta (dJ (tC (.ty k.nm)) j2))) (uB k pa):=fun A ρ σ H Q Q' R q kk =>
 ha A ρ σ H _ _ R q fun v H1 a ρ1 q1 f1 R1 o1=>by
  split at q1
  .rename_i d e1
   cases hs:d.sort with
   | false=>rw [hs] at q1;exact q1.elim
   | true =>
    rw [hs] at q1
    obtain ⟨t,ty,hk⟩:=(R1.cont o1 e1).ty hs
    exact ⟨v,k.nm,t,isK k d,rfl,ty,hk k,kk _ H1 _ ρ1 q1 f1 ⟨R1,.bl _⟩⟩
  .exact q1.elim
end
structure sP where
 nx:PSt->Prop
 rt:PV->PSt->Prop
 bk:PSt->Prop:=fun _=>False
 ct:PSt->Prop:=fun _=>False
abbrev PTS:=sP->PSt->Prop
structure dI (fx:List (Nat×V)) (R:Addr->Prop) (H0:Hp) (ρ:PSt) (σ:St) (H:Hp):Prop where
 kp:∀b o,¬ R b->H0 b=some o->H b=some o
 dm:∀b,H0 b≠none->H b≠none
 ow:∀b,Wr ρ σ b->R b\/H0 b=none
 fx:∀p∈fx,σ[p.1]?=some (some p.2)
section
variable {K:PySem.W.Frag}{fx:List (Nat×V)}{A R:Addr->Prop}{H0 H H':Hp}{ρ ρ':PSt}{σ:St}
theorem dI.fr (F:dI fx R H0 ρ σ H) (f:Fr ρ σ H ρ' H'):dI fx R H0 ρ' σ H' :=
 ⟨fun b o n e=>f.kp b o (fun w=>(F.ow b w).elim n (fun z=>by rw [z] at e;cases e)) (F.kp b o n e),fun b z=>f.dm b (F.dm b z),fun b w=>F.ow b (f.ow b w),F.fx⟩
theorem dI.start (hfx:∀p∈fx,σ[p.1]?=some (some p.2)):dI fx (Wr ρ σ) H ρ σ H:=⟨fun _ _ _ h=>h,fun _ h=>h,fun _ h=>.inl h,hfx⟩
theorem dI.keepsR {ρ1:PSt}{σ1:St}{H1:Hp} (F:dI fx R H1 ρ σ H) (hR:∀b,R b->OO A ρ1 σ1 b):aN (OO A ρ1 σ1) H1 (OO A ρ σ) H:=fun b o n e=>by
 refine ⟨fun z=>?_,F.kp b o (fun z=>n (hR b z)) e⟩
 rcases z with z | z
 .exact n (.inl z)
 .rcases F.ow b z with z | z
  .exact n (hR b z)
  .rw [z] at e;cases e
theorem dI.keeps {ρ1:PSt}{σ1:St}{H1:Hp} (F:dI fx (Wr ρ1 σ1) H1 ρ σ H):aN (OO A ρ1 σ1) H1 (OO A ρ σ) H:=F.keepsR fun b z=>.inr z
theorem dI.trans {fx':List (Nat×V)}{ρ1:PSt}{σ1:St}{H1:Hp} (F:dI fx R H0 ρ1 σ1 H1) (G:dI fx' (Wr ρ1 σ1) H1 ρ σ H) (hfx:∀p∈fx,σ[p.1]?=some (some p.2)):dI fx R H0 ρ σ H:=by
 refine ⟨fun b o n e=>G.kp b o (fun w=>(F.ow b w).elim n (fun z=>by rw [z] at e;cases e)) (F.kp b o n e),fun b z=>G.dm b (F.dm b z),fun b w=>?_,hfx⟩
 rcases G.ow b w with z | z
 .exact F.ow b z
 .refine .inr ?_
  cases e:H0 b with
  | none=>rfl
  | some o=>exact absurd z (F.dm b (by rw [e];exact nofun))
theorem Out.put {p:PV}{v:V}{i:Nat} (h:Out K A ρ σ H0 H p v):Rel K A (ρ.set i (some p)) (σ.set i (some v)) H/\∀b,Wr (ρ.set i (some p)) (σ.set i (some v)) b->Wr ρ σ b\/H0 b=none:=by
 have get:∀(j:Nat) (q:PV),(ρ.set i (some p))[j]?=some (some q)->(j=i/\q=p/\i < ρ.length)\/(j≠i/\ρ[j]?=some (some q)):=fun j q e=>by
  by_cases z:i=j
  .subst z
   by_cases hi:i < ρ.length
   .rw [List.getElem?_set_self hi] at e;cases e;exact .inl ⟨rfl,rfl,hi⟩
   .rw [List.getElem?_eq_none (by rw [List.length_set];omega)] at e;cases e
  .rw [List.getElem?_set_ne z] at e;exact .inr ⟨fun q=>z q.symm,e⟩
 cases p with
 | dat d =>
  obtain ⟨R1,f⟩:=h
  have ow:∀b,Wr (ρ.set i (some (.dat d))) (σ.set i (some v)) b->Wr ρ σ b:=fun b ⟨j,r,e1,o1,s1⟩=>by
   rcases get j r e1 with ⟨_,rfl,_⟩ | ⟨n,e⟩
   .cases o1
   .rw [List.getElem?_set_ne (fun z=>n z.symm)] at s1;exact ⟨j,r,e,o1,s1⟩
  have k:aN (OO A ρ σ) H (OO A (ρ.set i (some (.dat d))) (σ.set i (some v))) H:=aN.less fun b z=>z.imp id (ow b)
  refine ⟨⟨by rw [List.length_set,List.length_set];exact R1.len,fun j r e1=>?_,fun j l p1 q1 v' e1 e2 o1 o2 s1 s2=>?_,R1.dom,fun b z w=>R1.sep b z (ow b w)⟩,fun b w=>.inl (ow b w)⟩
  .rcases get j r e1 with ⟨rfl,rfl,hi⟩ | ⟨n,e⟩
   .exact ⟨v,List.getElem?_set_self (by rw [<- R1.len];exact hi),f.keeps k⟩
   .obtain ⟨u,s,r'⟩:=R1.get j r e
    exact ⟨u,by rw [List.getElem?_set_ne (fun z=>n z.symm)];exact s,r'.keeps k fun _ _ _=>rfl⟩
  .rcases get j p1 e1 with ⟨_,rfl,_⟩ | ⟨n1,e1⟩
   .cases o1
   .rcases get l q1 e2 with ⟨_,rfl,_⟩ | ⟨n2,e2⟩
    .cases o2
    .rw [List.getElem?_set_ne (fun z=>n1 z.symm)] at s1
     rw [List.getElem?_set_ne (fun z=>n2 z.symm)] at s2
     exact R1.dj j l p1 q1 v' e1 e2 o1 o2 s1 s2
 | own ds =>
  obtain ⟨a,xs,rfl,na,hn,e0,R1,f⟩:=h
  have ow:∀b,Wr (ρ.set i (some (.own ds))) (σ.set i (some (.ref a))) b->Wr ρ σ b\/b=a:=fun b ⟨j,r,e1,o1,s1⟩=>by
   rcases get j r e1 with ⟨rfl,rfl,hi⟩ | ⟨n,e⟩
   .rw [List.getElem?_set_self (by rw [<- R1.len];exact hi)] at s1;cases s1;exact .inr rfl
   .rw [List.getElem?_set_ne (fun z=>n z.symm)] at s1;exact .inl ⟨j,r,e,o1,s1⟩
  have k:aN (OO (cB A a) ρ σ) H (OO A (ρ.set i (some (.own ds))) (σ.set i (some (.ref a)))) H:=aN.less fun b z=>by
   rcases z with z | z
   .exact .inl (.inl z)
   .rcases ow b z with z | z
    .exact .inr z
    .exact .inl (.inr z)
  refine ⟨⟨by rw [List.length_set,List.length_set];exact R1.len,fun j r e1=>?_,fun j l p1 q1 v' e1 e2 o1 o2 s1 s2=>?_,fun b z=>R1.dom b (.inl z),fun b z w=>?_⟩,fun b w=>(ow b w).imp id fun z=>by rw [z];exact hn⟩
  .rcases get j r e1 with ⟨rfl,rfl,hi⟩ | ⟨n,e⟩
   .exact ⟨_,List.getElem?_set_self (by rw [<- R1.len];exact hi),a,xs,rfl,e0,f.keeps k⟩
   .obtain ⟨u,s,r'⟩:=R1.get j r e
    exact ⟨u,by rw [List.getElem?_set_ne (fun z=>n z.symm)];exact s,r'.keeps k fun _ _ _=>rfl⟩
  .rcases get j p1 e1 with ⟨rfl,rfl,hi⟩ | ⟨n1,e1'⟩
   .rw [List.getElem?_set_self (by rw [<- R1.len];exact hi)] at s1;cases s1
    rcases get l q1 e2 with ⟨rfl,rfl,_⟩ | ⟨n2,e2⟩
    .rfl
    .rw [List.getElem?_set_ne (fun z=>n2 z.symm)] at s2
     exact absurd ⟨l,q1,e2,o2,s2⟩ (R1.sep a (.inr rfl))
   .rw [List.getElem?_set_ne (fun z=>n1 z.symm)] at s1
    rcases get l q1 e2 with ⟨rfl,rfl,hi⟩ | ⟨n2,e2⟩
    .rw [List.getElem?_set_self (by rw [<- R1.len];exact hi)] at s2;cases s2
     exact absurd ⟨j,p1,e1',o1,s1⟩ (R1.sep a (.inr rfl))
    .rw [List.getElem?_set_ne (fun z=>n2 z.symm)] at s2
     exact R1.dj j l p1 q1 v' e1' e2 o1 o2 s1 s2
  .rcases ow b w with w | w
   .exact R1.sep b (.inl z) w
   .rw [w] at z;exact na z
 | ins c ns ds =>
  obtain ⟨a,dx,fs,rfl,na,hn,e0,m,R1,f⟩:=h
  have ow:∀b,Wr (ρ.set i (some (.ins c ns ds))) (σ.set i (some (.ref a))) b->Wr ρ σ b\/b=a:=fun b ⟨j,r,e1,o1,s1⟩=>by
   rcases get j r e1 with ⟨rfl,rfl,hi⟩ | ⟨n,e⟩
   .rw [List.getElem?_set_self (by rw [<- R1.len];exact hi)] at s1;cases s1;exact .inr rfl
   .rw [List.getElem?_set_ne (fun z=>n z.symm)] at s1;exact .inl ⟨j,r,e,o1,s1⟩
  have k:aN (OO (cB A a) ρ σ) H (OO A (ρ.set i (some (.ins c ns ds))) (σ.set i (some (.ref a)))) H:=aN.less fun b z=>by
   rcases z with z | z
   .exact .inl (.inl z)
   .rcases ow b z with z | z
    .exact .inr z
    .exact .inl (.inr z)
  refine ⟨⟨by rw [List.length_set,List.length_set];exact R1.len,fun j r e1=>?_,fun j l p1 q1 v' e1 e2 o1 o2 s1 s2=>?_,fun b z=>R1.dom b (.inl z),fun b z w=>?_⟩,fun b w=>(ow b w).imp id fun z=>by rw [z];exact hn⟩
  .rcases get j r e1 with ⟨rfl,rfl,hi⟩ | ⟨n,e⟩
   .exact ⟨_,List.getElem?_set_self (by rw [<- R1.len];exact hi),a,dx,fs,rfl,e0,m,f.keeps k⟩
   .obtain ⟨u,s,r'⟩:=R1.get j r e
    exact ⟨u,by rw [List.getElem?_set_ne (fun z=>n z.symm)];exact s,r'.keeps k fun _ _ _=>rfl⟩
  .rcases get j p1 e1 with ⟨rfl,rfl,hi⟩ | ⟨n1,e1'⟩
   .rw [List.getElem?_set_self (by rw [<- R1.len];exact hi)] at s1;cases s1
    rcases get l q1 e2 with ⟨rfl,rfl,_⟩ | ⟨n2,e2⟩
    .rfl
    .rw [List.getElem?_set_ne (fun z=>n2 z.symm)] at s2
     exact absurd ⟨l,q1,e2,o2,s2⟩ (R1.sep a (.inr rfl))
   .rw [List.getElem?_set_ne (fun z=>n1 z.symm)] at s1
    rcases get l q1 e2 with ⟨rfl,rfl,hi⟩ | ⟨n2,e2⟩
    .rw [List.getElem?_set_self (by rw [<- R1.len];exact hi)] at s2;cases s2
     exact absurd ⟨j,p1,e1',o1,s1⟩ (R1.sep a (.inr rfl))
    .rw [List.getElem?_set_ne (fun z=>n2 z.symm)] at s2
     exact R1.dj j l p1 q1 v' e1' e2 o1 o2 s1 s2
  .rcases ow b w with w | w
   .exact R1.sep b (.inl z) w
   .rw [w] at z;exact na z
end
abbrev PTG:=PV->PSt->(PSt->Prop)->Prop
def LG (K:PySem.W.Frag) (fs:List Nat) (g:TG) (pg:PTG):Prop:=∀(fx:List (Nat×V)) (A R:Addr->Prop) (H0:Hp) (ρ:PSt) (σ:St) (H:Hp) (p:PV) (v:V) (Q:PSt->Prop) (Q':St->Hp->Prop),fx.map Prod.fst=fs->dI fx R H0 ρ σ H->Out K A ρ σ H0 H p v->pg p ρ Q ->
 (∀ρ' σ' H',Q ρ'->Rel K A ρ' σ' H'->dI fx R H0 ρ' σ' H'->Q' σ' H')->g v σ H Q'
def LGd (K:PySem.W.Frag) (fs:List Nat) (g:TG) (pg:PTG):Prop:=∀(fx:List (Nat×V)) (A R:Addr->Prop) (H0:Hp) (ρ:PSt) (σ:St) (H:Hp) (d:D) (v:V) (Q:PSt->Prop) (Q':St->Hp->Prop),fx.map Prod.fst=fs->dI fx R H0 ρ σ H->Rel K A ρ σ H->FV K (OO A ρ σ) H v d->pg (.dat d) ρ Q ->
 (∀ρ' σ',Q ρ'->Rel K A ρ' σ' H->dI fx R H0 ρ' σ' H->(∀b,Wr ρ' σ' b->Wr ρ σ b)->Q' σ' H)->g v σ H Q'
def au (i:Nat):PTG:=fun p ρ Q=>Q (ρ.set i (some p))
section
variable {K:PySem.W.Frag}{fs:List Nat}
theorem dI.put {fx:List (Nat×V)}{R:Addr->Prop}{H0 H:Hp}{ρ:PSt}{σ:St}{i:Nat}{p:PV}{v:V} (hf:fx.map Prod.fst=fs) (hi:fs.contains i=false) (F:dI fx R H0 ρ σ H) (ow:∀b,Wr (ρ.set i (some p)) (σ.set i (some v)) b->Wr ρ σ b\/H0 b=none):dI fx R H0 (ρ.set i (some p)) (σ.set i (some v)) H :=
 ⟨F.kp,F.dm,fun b w=>(ow b w).elim (F.ow b) .inr,fun q hq=>by
  have:q.1≠i:=fun z=>by
   have h1:i∈fs:=by rw [<- hf,<- z];exact List.mem_map_of_mem hq
   rw [List.contains_iff_mem.mpr h1] at hi;cases hi
  rw [List.getElem?_set_ne (fun z=>this z.symm)];exact F.fx q hq⟩
theorem ar {i:Nat} (hi:fs.contains i=false):LG K fs (iK i) (au i):=fun fx A R H0 ρ σ H p v Q Q' hf F o q k=>k _ _ _ q o.put.1 (F.put hf hi o.put.2)
theorem bx {i:Nat} (hi:fs.contains i=false):LGd K fs (iK i) (au i):=fun fx A R H0 ρ σ H d v Q Q' hf F r fv q k=>by
 have o:Out K A ρ σ H0 H (.dat d) v:=⟨r,fv⟩
 have ow:∀b,Wr (ρ.set i (some (.dat d))) (σ.set i (some v)) b->Wr ρ σ b:=fun b ⟨j,p,e1,o1,s1⟩=>by
  by_cases z:i=j
  .subst z
   by_cases hl:i < ρ.length
   .rw [List.getElem?_set_self hl] at e1;cases e1;cases o1
   .rw [List.getElem?_eq_none (by rw [List.length_set];omega)] at e1;cases e1
  .rw [List.getElem?_set_ne z] at e1 s1;exact ⟨j,p,e1,o1,s1⟩
 exact k _ _ q o.put.1 (F.put hf hi o.put.2) ow
end
def LS (K:PySem.W.Frag) (fs:List Nat) (ts:TS) (ps:PTS):Prop:=∀(fx:List (Nat×V)) (A R:Addr->Prop) (H0:Hp) (ρ:PSt) (σ:St) (H:Hp) (D:sP) (D':ll),fx.map Prod.fst=fs->Rel K A ρ σ H->dI fx R H0 ρ σ H->ps D ρ ->
 (∀ρ' σ' H',D.nx ρ'->Rel K A ρ' σ' H'->dI fx R H0 ρ' σ' H'->D'.nx σ' H') ->
 (∀v p ρ' σ' H',D.rt p ρ'->Out K A ρ' σ' H0 H' p v->dI fx R H0 ρ' σ' H'->D'.rt v H') ->
 (∀ρ' σ' H',D.bk ρ'->Rel K A ρ' σ' H'->dI fx R H0 ρ' σ' H'->D'.bk σ' H') ->
 (∀ρ' σ' H',D.ct ρ'->Rel K A ρ' σ' H'->dI fx R H0 ρ' σ' H'->D'.ct σ' H')->ts D' σ H
def bU:PTS:=fun D ρ=>D.nx ρ
def aM (a b:PTS):PTS:=fun D ρ=>a { D with nx:=b D } ρ
def hC (pe:PTE):PTS:=fun D ρ=>pe ρ fun _ ρ1=>D.nx ρ1
def ck (pe:PTE):PTS:=fun D ρ=>pe ρ D.rt
def hE (t:PTT) (a b:PTS):PTS:=fun D ρ=>t ρ fun c ρ1=>gp c (a D ρ1) (b D ρ1)
def aX (pe:PTE) (g:PTG):PTS:=fun D ρ=>pe ρ fun p ρ1=>g p ρ1 D.nx
def fH (a:PTS):PTS:=fun D ρ=>∃J:PSt->Prop,a { D with nx:=J } ρ/\∀ρ',J ρ'->D.nx ρ'
section
variable {K:PySem.W.Frag}{fs:List Nat}{ta tb:TS}{pa pb:PTS}{te:TE}{pe:PTE}{tt:TT}{pt:PTT}
theorem bv:LS K fs rq bU:=fun fx A R H0 ρ σ H D D' hf r F q k1 k2 k3 k4=>k1 _ _ _ q r F
theorem aw (ha:LS K fs ta pa) (hb:LS K fs tb pb):LS K fs (tP ta tb) (aM pa pb):=fun fx A R H0 ρ σ H D D' hf r F q k1 k2 k3 k4 =>
 ha fx A R H0 ρ σ H _ _ hf r F q (fun ρ1 σ1 H1 q1 r1 F1=>hb fx A R H0 ρ1 σ1 H1 _ _ hf r1 F1 q1 k1 k2 k3 k4) k2 k3 k4
theorem gu (h:LE K te pe):LS K fs (oZ te) (hC pe):=fun fx A R H0 ρ σ H D D' hf r F q k1 k2 k3 k4=>h A ρ σ H _ _ r q fun v H1 p ρ1 q1 f1 o1=>k1 _ _ _ q1 o1.frz.1 (F.fr f1)
theorem bz (h:LE K te pe):LS K fs (uW te) (ck pe):=fun fx A R H0 ρ σ H D D' hf r F q k1 k2 k3 k4=>h A ρ σ H _ _ r q fun v H1 p ρ1 q1 f1 o1=>k2 v p ρ1 σ H1 q1 (o1.h0 F.dm) (F.fr f1)
theorem dn (ht:LT K tt pt) (ha:LS K fs ta pa) (hb:LS K fs tb pb):LS K fs (uX tt ta tb) (hE pt pa pb):=fun fx A R H0 ρ σ H D D' hf r F q k1 k2 k3 k4=>ht A ρ σ H _ _ r q fun c H1 ρ1 q1 f1 r1=>by
 cases c with
 | true=>exact ha fx A R H0 ρ1 σ H1 D D' hf r1 (F.fr f1) q1 k1 k2 k3 k4
 | false=>exact hb fx A R H0 ρ1 σ H1 D D' hf r1 (F.fr f1) q1 k1 k2 k3 k4
theorem aH {g:TG}{pg:PTG} (h:LE K te pe) (hg:LG K fs g pg):LS K fs (tQ te g) (aX pe pg):=fun fx A R H0 ρ σ H D D' hf r F q k1 k2 k3 k4=>h A ρ σ H _ _ r q fun v H1 p ρ1 q1 f1 o1 =>
 hg fx A R H0 ρ1 σ H1 p v _ _ hf (F.fr f1) (o1.h0 F.dm) q1 k1
theorem eC (h:LS K fs ta pa):LS K fs (sr ta) (fH pa):=fun fx A R H0 ρ σ H D D' hf r F q k1 k2 k3 k4=>by
 obtain ⟨J,q1,q2⟩:=q
 refine ⟨fun σ' H'=>∃ρ',J ρ'/\Rel K A ρ' σ' H'/\dI fx R H0 ρ' σ' H',?_,fun σ' H' ⟨ρ',j,r',F'⟩=>k1 ρ' σ' H' (q2 ρ' j) r' F'⟩
 exact h fx A R H0 ρ σ H _ _ hf r F q1 (fun ρ' σ' H' j r' F'=>⟨ρ',j,r',F'⟩) k2 k3 k4
end
def sQ (K:PySem.W.Frag) (tl:TE):TI:=fun σ H R=>tl σ H fun x H1=>(∃k a xs,x=.ref a/\Sq k K H1 a xs/\R (Itk k K a) H1)\/∃l,x=.str (S l)/\R (Its (dM l)) H1
section
variable {X:Cx}{tg:Expr}
theorem qo {l:Expr}{tl:TE} (hl:PE X l tl):PI X tg l (sQ X.K tl):=by
 intro pins s σ H R I h
 refine thn (hl pins s σ H _ I h) fun v s1 ⟨x,H1,I1,r1,q1⟩=>?_
 have fin:∀b∈[s1.heap.objs.size],nc X pins H1 b:=fun b hb=>by
  have e:b=s1.heap.objs.size:=by simpa using hb
  subst e
  exact I1.fpOk (Nat.le_refl _) (I1.hok.fresh (Nat.le_refl _))
 rcases q1 with ⟨k,a,xs,e,hq,q⟩ | ⟨l,e,q⟩
 .subst e
  cases r1
  cases k with
  | false =>
   obtain ⟨its,rv,p,hz⟩:=I1.list hq
   refine wpAny_pyIter_list p.isList ?_
   exact ⟨s1.heap.objs.size,[s1.heap.objs.size],_,_,H1,rfl,I1.kept (t':=s1.toks) fun b o e=>Heap.get?_push_of_some _ e,lq a _,⟨_,Heap.get?_push_size _ rfl,rfl,rfl⟩,fin,q⟩
  | true =>
   obtain ⟨its,rv,p,hz⟩:=I1.tuple hq
   refine wpAny_pyIter_tuple (show s1.heap.IsTuple a its.toArray from p) ?_
   exact ⟨s1.heap.objs.size,[s1.heap.objs.size],_,_,H1,rfl,I1.kept (t':=s1.toks) fun b o e=>Heap.get?_push_of_some _ e,kC a _,⟨_,Heap.get?_push_size _ rfl,rfl,rfl⟩,fin,q⟩
 .subst e
  obtain ⟨t,rfl⟩:=r1
  have hv:∀i v,i < (S l).cps.size->SignAt (S l) i v->∃x,(dM l)[i]?=some x/\bP x v:=fun i v _ ⟨c,u,hc,e⟩=>by
   subst e
   have hc':l[i]?=some c:=by simpa [S] using hc
   exact ⟨.str (S [c]),by unfold dM;rw [List.getElem?_map,hc'];rfl,u,rfl⟩
  have hsc:∀i v,SignAt (S l) i v->∀a,v≠.ref a:=fun i v ⟨c,u,hc,e⟩ a z=>by subst e;cases z
  have hn:(dM l).length=(S l).cps.size:=by rw [fj];simp [S]
  have hobj:∀ty i (h:Heap),h.IsStrIter s1.heap.objs.size ty (S l) t i->∃o,h.get? s1.heap.objs.size=some o/\∀v,o.data≠.cell v:=fun ty i h ⟨o,ho,_,hd⟩=>⟨o,ho,fun v z=>by rw [hd] at z;cases z⟩
  have hfr:∀ty i (h h':Heap),h.IsStrIter s1.heap.objs.size ty (S l) t i->(∀b∈[s1.heap.objs.size],∀o,h.get? b=some o->h'.get? b=some o)->h'.IsStrIter s1.heap.objs.size ty (S l) t i:=fun ty i h h' ⟨o,ho,r⟩ k=>⟨o,k _ (by simp) o ho,r⟩
  cases ha:(S l).cps.all (· < 128)
  .refine wpAny_pyIter_wide ha ⟨s1.heap.objs.size,[s1.heap.objs.size],_,Its (dM l),H1,rfl,I1.kept (t':=s1.toks) fun b o e=>Heap.get?_push_of_some _ e,
    gk (fun A hA=>Walks.strWide hA _ (S l) t) hn hv hsc (hobj _) (hfr _) (fun A i s Q E st q=>wpAny_pyIter_striter_wide st q),⟨_,Heap.get?_push_size _ rfl,rfl,rfl⟩,fin,q⟩
  .refine wpAny_pyIter_ascii ha ⟨s1.heap.objs.size,[s1.heap.objs.size],_,Its (dM l),H1,rfl,I1.kept (t':=s1.toks) fun b o e=>Heap.get?_push_of_some _ e,
    gk (fun A hA=>Walks.strAscii hA _ (S l) t) hn hv hsc (hobj _) (hfr _) (fun A i s Q E st q=>wpAny_pyIter_striter_ascii st q),⟨_,Heap.get?_push_size _ rfl,rfl,rfl⟩,fin,q⟩
theorem gx (K:PySem.W.Frag) (e:X.K=K) {l:Expr}{tl:TE} (hl:PE X l tl):PI X tg l (sQ K tl):=by subst e;exact qo hl
end
abbrev PTI:=PSt->(Nat->(Nat->D)->PSt->Prop)->Prop
def Wlk (K:PySem.W.Frag) (O:Addr->Prop) (H:Hp) (J:It) (n:Nat) (it:Nat->D):Prop:=∀(O':Addr->Prop) (H':Hp),aN O H O' H'->(∀b,O' b->H' b≠none) ->
 (∀k,k < n->J.go k H'/\∀x H'',J.yld k H' x H''->Gr H' H''/\FV K O' H'' x (it k))/\J.stop n H'
def LI (K:PySem.W.Frag) (wi:TI) (pi:PTI):Prop:=∀(A:Addr->Prop) (ρ:PSt) (σ:St) (H:Hp) (Q:Nat->(Nat->D)->PSt->Prop) (Q':It->Hp->Prop),Rel K A ρ σ H->pi ρ Q ->
 (∀J H' n it ρ',Q n it ρ'->Fr ρ σ H ρ' H'->Rel K A ρ' σ H'->Wlk K (OO A ρ' σ) H' J n it->Q' J H')->wi σ H Q'
def itD (ds:List D) (k:Nat):D:=ds.getD k .non
theorem jb {ds:List D}{k:Nat}{d:D} (h:ds[k]?=some d):itD ds k=d:=by unfold itD;rw [List.getD_eq_getElem?_getD,h];rfl
def vn:D->Option (Nat×(Nat->D))
 | .lst ds=>some (ds.length,itD ds)
 | .tup ds=>some (ds.length,itD ds)
 | .scr ns=>some (ns.length,fun k=>.int (ns.getD k 0))
 | .str l=>some (l.length,fun k=>.str [l.getD k 0])
 | _=>none
def jH (pe:PTE):PTI:=fun ρ Q=>pe ρ fun p ρ1=>match vn p.d with
 | some (n,it)=>Q n it ρ1
 | none=>False
section
variable {K:PySem.W.Frag}{te:TE}{pe:PTE}{ta:TA}{pa:PTA}
theorem FV.row {O:Addr->Prop}{H:Hp}{v:V}{d:D}{n:Nat}{it:Nat->D} (h:FV K O H v d) (e:vn d=some (n,it)) :
  (∃k a xs,v=.ref a/\xs.length=n/\(∀O' H',aN O H O' H'->Sq k K H' a xs/\∀j x,xs[j]?=some x->FV K O' H' x (it j)))\/∃l,v=.str (S l)/\l.length=n/\(∀k,it k=.str [l.getD k 0]):=by
 cases h with
 | lst nn e0 f =>
  cases e
  refine .inl ⟨false,_,_,rfl,f.length,fun O' H' k=>⟨SqL.of (k _ _ nn e0).2,fun j x hx=>?_⟩⟩
  obtain ⟨d,hd,fd⟩:=f.get hx
  rw [jb hd];exact fd.keeps k
 | tup nn e0 f =>
  cases e
  refine .inl ⟨true,_,_,rfl,f.length,fun O' H' k=>⟨SqT.of (k _ _ nn e0).2,fun j x hx=>?_⟩⟩
  obtain ⟨d,hd,fd⟩:=f.get hx
  rw [jb hd];exact fd.keeps k
 | scr s =>
  cases e
  refine .inl ⟨false,_,_,rfl,List.length_map _,fun O' H' k=>⟨(s.keeps k).sq,fun j x hx=>?_⟩⟩
  obtain ⟨z,hz,rfl⟩:=nG hx
  show FV K O' H' (V.int z) (D.int (List.getD _ j 0))
  rw [List.getD_eq_getElem?_getD,hz];exact .int z
 | str l hl=>cases e;exact .inr ⟨l,rfl,rfl,fun _=>rfl⟩
 | non=>cases e
 | bl b=>cases e
 | int i=>cases e
 | ty n=>cases e
 | dic _ _ _ _=>cases e
 | obj _ _ _ _=>cases e
 | exc0 _ _=>cases e
 | exc1 _ _ _ _ _ _=>cases e
theorem hG (h:LE K te pe):LI K (sQ K te) (jH pe):=fun A ρ σ H Q Q' R q k=>h A ρ σ H _ _ R q fun v H1 p ρ1 q1 f1 o1=>by
 obtain ⟨R1,fv⟩:=o1.frz
 split at q1
 .rename_i n it e
  rcases fv.row e with ⟨b,a,xs,rfl,hl,hr⟩ | ⟨l,rfl,hl,hi⟩
  .refine .inl ⟨b,a,xs,rfl,(hr _ H1 (fun b o n h=>⟨n,h⟩)).1,k _ H1 n it ρ1 q1 f1 R1 fun O' H' kk dom=>?_⟩
   obtain ⟨sq,hx⟩:=hr O' H' kk
   cases b with
   | false =>
    refine ⟨fun j hj=>⟨⟨xs,_,sq,List.getElem?_eq_getElem (by rw [hl];exact hj)⟩,fun x H'' ⟨e,y⟩=>?_⟩,⟨xs,sq,by rw [hl];exact Nat.le_refl _⟩⟩
    subst e;exact ⟨Gr.refl _,hx j x (y xs sq)⟩
   | true =>
    refine ⟨fun j hj=>⟨⟨xs,_,sq,List.getElem?_eq_getElem (by rw [hl];exact hj)⟩,fun x H'' ⟨e,y⟩=>?_⟩,⟨xs,sq,by rw [hl];exact Nat.le_refl _⟩⟩
    subst e;exact ⟨Gr.refl _,hx j x (y xs sq)⟩
  .refine .inr ⟨l,rfl,k _ H1 n it ρ1 q1 f1 R1 fun O' H' kk dom=>?_⟩
   refine ⟨fun j hj=>⟨by show j < (dM l).length;rw [fj,hl];exact hj,fun x H'' ⟨e,y⟩=>?_⟩,by show (dM l).length=n;rw [fj,hl]⟩
   subst e
   obtain ⟨c,hc,rfl⟩:=kQ y
   rw [hi,List.getD_eq_getElem?_getD,hc]
   exact ⟨Gr.refl _,.str _ (by show 1<=1000000;decide)⟩
 .exact q1.elim
def qp (pa:PTA):PTI:=fun ρ Q=>pa ρ fun as ρ1=>match as with
 | [.v (.int j)]=>(-(2 ^ 60)<=j/\j < 2 ^ 60)/\Q j.toNat (fun k=>.int (k:Int)) ρ1
 | _=>False
def vo (pa:PTA):PTI:=fun ρ Q=>pa ρ fun as ρ1=>match as with
 | [.v (.int i),.v (.int j)]=>(-(2 ^ 60)<=i/\i < 2 ^ 60/\-(2 ^ 60)<=j/\j < 2 ^ 60)/\Q (j - i).toNat (fun k=>.int (i + (k:Int))) ρ1
 | _=>False
def vp (pa:PTA):PTI:=fun ρ Q=>pa ρ fun as ρ1=>match as with
 | [.v (.int i),.v (.int j),.v (.int (-1))]=>(-(2 ^ 60)<=i/\i < 2 ^ 60/\-(2 ^ 60)<=j/\j < 2 ^ 60)/\Q (i - j).toNat (fun k=>.int (i - (k:Int))) ρ1
 | _=>False
theorem sR {O:Addr->Prop}{H:Hp}{lo:Int}{n:Nat}{it:Nat->D} (h:∀k:Nat,it k=.int (lo + k)):Wlk K O H (Itr lo n) n it:=fun O' H' _ _ =>
 ⟨fun j hj=>⟨hj,fun x H'' ⟨e,y⟩=>by subst e y;rw [h];exact ⟨Gr.refl _,.int _⟩⟩,Nat.le_refl _⟩
theorem uC {O:Addr->Prop}{H:Hp}{lo:Int}{n:Nat}:Wlk K O H (Its (ik lo n)) n (fun k=>.int (lo - (k:Int))):=fun O' H' _ _ =>
 ⟨fun j hj=>⟨by show j < (ik lo n).length;rw [gm];exact hj,fun x H'' ⟨e,y⟩=>by subst e;rw [(lU y).2];exact ⟨Gr.refl _,.int _⟩⟩,gm _ _⟩
theorem k9 (h:LAs K ta pa):LI K (o4 ta) (qp pa):=fun A ρ σ H Q Q' R q k=>h A ρ σ H _ _ R q fun vs H1 as ρ1 q1 f1 R1 o1=>by
 split at q1
 .rename_i j
  cases o1 with
  | cons a b =>
   cases b
   cases a
   exact ⟨j,rfl,by omega,by omega,k _ H1 _ _ ρ1 q1.2 f1 R1 (sR fun k=>by rw [Int.zero_add])⟩
 .exact q1.elim
theorem uD (h:LAs K ta pa):LI K (o5 ta) (vo pa):=fun A ρ σ H Q Q' R q k=>h A ρ σ H _ _ R q fun vs H1 as ρ1 q1 f1 R1 o1=>by
 split at q1
 .rename_i i j
  cases o1 with
  | cons a b =>
   cases b with
   | cons c d =>
    cases d
    cases a
    cases c
    exact ⟨i,j,rfl,⟨by omega,by omega,by omega,by omega⟩,k _ H1 _ _ ρ1 q1.2 f1 R1 (sR fun k=>rfl)⟩
 .exact q1.elim
theorem uE (h:LAs K ta pa):LI K (r8 ta) (vp pa):=fun A ρ σ H Q Q' R q k=>h A ρ σ H _ _ R q fun vs H1 as ρ1 q1 f1 R1 o1=>by
 split at q1
 .rename_i i j
  cases o1 with
  | cons a b =>
   cases b with
   | cons c d =>
    cases d with
    | cons e f =>
     cases f
     cases a
     cases c
     cases e
     exact ⟨i,j,rfl,q1.1,k _ H1 _ _ ρ1 q1.2 f1 R1 uC⟩
 .exact q1.elim
end
def fq (pi:PTI) (g:PTG) (pb:PTS):PTS:=fun D ρ=>pi ρ fun n it ρ1=>∃I:Nat->PSt->Prop,I 0 ρ1/\(∀k ρ d,k < n->d=it k->I k ρ->g (.dat d) ρ fun ρ2=>pb { D with nx:=I (k + 1),ct:=I (k + 1),bk:=D.nx } ρ2)/\∀ρ,I n ρ->D.nx ρ
def jI (pt:PTT) (pb:PTS):PTS:=fun D ρ=>∃I:Nat->PSt->Prop,(∃m,I m ρ)/\∀m ρ,I m ρ->pt ρ fun b ρ1=>gp b (pb { D with nx:=fun ρ'=>∃m',m' < m/\I m' ρ',ct:=fun ρ'=>∃m',m' < m/\I m' ρ',bk:=D.nx } ρ1) (D.nx ρ1)
section
variable {K:PySem.W.Frag}{fs:List Nat}{wi:TI}{pi:PTI}{g:TG}{pg:PTG}{tb:TS}{pb:PTS}{tt:TT}{pt:PTT}
theorem dF (hi:LI K wi pi) (hg:LGd K fs g pg) (hb:LS K fs tb pb):LS K fs (tR wi g tb) (fq pi pg pb):=fun fx A R H0 ρ σ H D D' hf r F q k1 k2 k3 k4=>hi A ρ σ H _ _ r q fun J H1 n it ρ1 q1 f1 r1 W=>by
 obtain ⟨I,i0,turn,after⟩:=q1
 have F1:=F.fr f1
 refine ⟨fun i m σ' H'=>i + m=n/\∃ρ',I i ρ'/\Rel K A ρ' σ' H'/\dI fx (Wr ρ1 σ) H1 ρ' σ' H',⟨n,Nat.zero_add n,ρ1,i0,r1,dI.start F1.fx⟩,fun i m σ' H' ⟨him,ρ',iv,r',F'⟩=>?_⟩
 obtain ⟨go,stop⟩:=W _ H' F'.keeps r'.dom2
 by_cases hk:i < n
 .obtain ⟨g1,g2⟩:=go i hk
  refine .inr ⟨g1,fun σ'' H''=>∃ρ'',I (i + 1) ρ''/\Rel K A ρ'' σ'' H''/\dI fx (Wr ρ1 σ) H1 ρ'' σ'' H'',fun σ'' H'' z=>⟨m - 1,by omega,by omega,z⟩,fun x H'' y=>?_⟩
  obtain ⟨gr,fv⟩:=g2 x H'' y
  refine hg fx A (Wr ρ1 σ) H1 ρ' σ' H'' _ x _ _ hf (F'.fr gr.fr) (r'.gr gr) fv (turn i ρ' _ hk rfl iv) fun ρ2 σ2 q2 r2 F2 _=>?_
  refine hb fx A (Wr ρ1 σ) H1 ρ2 σ2 H'' _ _ hf r2 F2 q2 (fun ρ3 σ3 H3 q3 r3 F3=>⟨ρ3,q3,r3,F3⟩) (fun v p ρ3 σ3 H3 q3 o3 F3=>k2 v p ρ3 σ3 H3 q3 (o3.h0 F1.dm) (F1.trans F3 F3.fx)) (fun ρ3 σ3 H3 q3 r3 F3=>k1 ρ3 σ3 H3 q3 r3 (F1.trans F3 F3.fx)) (fun ρ3 σ3 H3 q3 r3 F3=>⟨ρ3,q3,r3,F3⟩)
 .have e:i=n:=by omega
  subst e
  exact .inl ⟨stop,k1 ρ' σ' H' (after ρ' iv) r' (F1.trans F' F'.fx)⟩
theorem kc (ht:LT K tt pt) (hb:LS K fs tb pb):LS K fs (oy tt tb) (jI pt pb):=fun fx A R H0 ρ σ H D D' hf r F q k1 k2 k3 k4=>by
 obtain ⟨I,⟨m0,i0⟩,turn⟩:=q
 refine ⟨fun m σ' H'=>∃ρ',I m ρ'/\Rel K A ρ' σ' H'/\dI fx R H0 ρ' σ' H',⟨m0,ρ,i0,r,F⟩,fun m σ' H' ⟨ρ',iv,r',F'⟩=>?_⟩
 refine ht A ρ' σ' H' _ _ r' (turn m ρ' iv) fun b H1 ρ1 q1 f1 r1=>?_
 cases b with
 | true =>
  refine ⟨fun σ'' H''=>∃ρ'' m',m' < m/\I m' ρ''/\Rel K A ρ'' σ'' H''/\dI fx R H0 ρ'' σ'' H'',fun σ'' H'' ⟨ρ'',m',h1,h2⟩=>⟨m',h1,ρ'',h2⟩,?_⟩
  exact hb fx A R H0 ρ1 σ' H1 _ _ hf r1 (F'.fr f1) q1 (fun ρ3 σ3 H3 ⟨m',h1,h2⟩ r3 F3=>⟨ρ3,m',h1,h2,r3,F3⟩) k2 k1 (fun ρ3 σ3 H3 ⟨m',h1,h2⟩ r3 F3=>⟨ρ3,m',h1,h2,r3,F3⟩)
 | false=>exact k1 ρ1 σ' H1 q1 r1 (F'.fr f1)
end
def b8 (ix:List (Option Nat)) (ρ:PSt):PSt:=ix.map fun o=>match o with
 | none=>none
 | some j=>match ρ[j]? with
  | some v=>v
  | none=>none
def dP:List (Option Nat)->PSt->PSt->PSt
 | some j::ix,ρ,t::τ=>dP ix (ρ.set j t) τ
 | none::ix,ρ,_::τ=>dP ix ρ τ
 | _,ρ,_=>ρ
def qq:List (Option Nat)->Bool
 | []=>true
 | none::r=>qq r
 | some j::r=>!r.contains (some j) && qq r
theorem iu:∀(ix:List (Option Nat)) (ρ τ:PSt),(dP ix ρ τ).length=ρ.length
 | [],ρ,τ=>by unfold dP;rfl
 | some j::ix,ρ,t::τ=>by show (dP ix (ρ.set j t) τ).length=_;rw [iu ix,List.length_set]
 | none::ix,ρ,t::τ=>by show (dP ix ρ τ).length=_;exact iu ix ρ τ
 | some j::ix,ρ,[]=>by unfold dP;rfl
 | none::ix,ρ,[]=>by unfold dP;rfl
theorem fX:∀(ix:List (Option Nat)) (ρ τ:PSt) (j:Nat),some j∉ix->(dP ix ρ τ)[j]?=ρ[j]?
 | [],ρ,τ,j,_=>by unfold dP;rfl
 | some i::ix,ρ,t::τ,j,h=>by
  show (dP ix (ρ.set i t) τ)[j]?=_
  rw [fX ix _ τ j (fun z=>h (List.mem_cons_of_mem _ z)),List.getElem?_set_ne (fun z=>h (by rw [z];exact List.mem_cons_self ..))]
 | none::ix,ρ,t::τ,j,h=>by show (dP ix ρ τ)[j]?=_;exact fX ix ρ τ j fun z=>h (List.mem_cons_of_mem _ z)
 | some i::ix,ρ,[],j,_=>by unfold dP;rfl
 | none::ix,ρ,[],j,_=>by unfold dP;rfl
theorem jJ:∀(ix:List (Option Nat)) (ρ τ:PSt) (j k:Nat),qq ix=true->ix[k]?=some (some j)->k < τ.length->j < ρ.length->(dP ix ρ τ)[j]?=τ[k]?
 | some i::ix,ρ,t::τ,j,k,h,e,hk,hj=>by
  have h:(!ix.contains (some i) && qq ix)=true:=h
  rw [Bool.and_eq_true] at h
  show (dP ix (ρ.set i t) τ)[j]?=_
  cases k with
  | zero =>
   have e:some (some i)=some (some j):=e
   cases e
   have hn:some i∉ix:=fun z=>by
    have:=h.1
    rw [List.contains_iff_mem.mpr z] at this;cases this
   rw [fX ix _ τ i hn,List.getElem?_set_self hj];rfl
  | succ k =>
   have e:ix[k]?=some (some j):=by simpa using e
   rw [jJ ix _ τ j k h.2 e (by simpa using hk) (by rw [List.length_set];exact hj)];simp
 | none::ix,ρ,t::τ,j,k,h,e,hk,hj=>by
  show (dP ix ρ τ)[j]?=_
  cases k with
  | zero=>cases e
  | succ k =>
   have e:ix[k]?=some (some j):=by simpa using e
   rw [jJ ix _ τ j k h e (by simpa using hk) hj];simp
 | [],ρ,τ,j,k,h,e,hk,hj=>by simp at e
 | some i::ix,ρ,[],j,k,h,e,hk,hj=>absurd hk (Nat.not_lt_zero _)
 | none::ix,ρ,[],j,k,h,e,hk,hj=>absurd hk (Nat.not_lt_zero _)
theorem iw:∀{ix:List (Option Nat)}{k l j:Nat},qq ix=true->ix[k]?=some (some j)->ix[l]?=some (some j)->k=l
 | some i::ix,k,l,j,h,e1,e2=>by
  have h:(!ix.contains (some i) && qq ix)=true:=h
  rw [Bool.and_eq_true] at h
  have no:∀m,ix[m]?≠some (some i):=fun m z=>by
   have:=h.1
   rw [List.contains_iff_mem.mpr (List.mem_of_getElem? z)] at this;cases this
  cases k with
  | zero =>
   have e1:some (some i)=some (some j):=e1
   cases e1
   cases l with
   | zero=>rfl
   | succ l=>exact absurd (by simpa using e2) (no l)
  | succ k =>
   cases l with
   | zero =>
    have e2:some (some i)=some (some j):=e2
    cases e2
    exact absurd (by simpa using e1) (no k)
   | succ l=>rw [iw (k:=k) (l:=l) h.2 (by simpa using e1) (by simpa using e2)]
 | none::ix,k,l,j,h,e1,e2=>by
  cases k with
  | zero=>cases e1
  | succ k =>
   cases l with
   | zero=>cases e2
   | succ l=>rw [iw (ix:=ix) (k:=k) (l:=l) (j:=j) h (by simpa using e1) (by simpa using e2)]
 | [],k,l,j,h,e1,e2=>by simp at e1
theorem dQ {ix:List (Option Nat)}{ρ:PSt}{k:Nat}{p:PV} (h:(b8 ix ρ)[k]?=some (some p)):∃j,ix[k]?=some (some j)/\ρ[j]?=some (some p):=by
 unfold b8 at h
 rw [List.getElem?_map] at h
 cases e:ix[k]? with
 | none=>rw [e] at h;cases h
 | some o =>
  rw [e] at h
  cases o with
  | none=>cases h
  | some j =>
   refine ⟨j,rfl,?_⟩
   have h:some (match ρ[j]? with | some v=>v | none=>none)=some (some p):=h
   cases e2:ρ[j]? with
   | none=>rw [e2] at h;cases h
   | some v=>rw [e2] at h;exact h
theorem dY {ix:List (Option Nat)}{σ:St}{k j:Nat}{v:V} (h:ix[k]?=some (some j)) (e:σ[j]?=some (some v)):(l9 ix σ)[k]?=some (some v):=by
 unfold l9
 rw [List.getElem?_map,h]
 show some (match σ[j]? with | some v=>v | none=>none)=some (some v)
 rw [e]
theorem Rel.amb {K:PySem.W.Frag}{A:Addr->Prop}{ρ:PSt}{σ:St}{H:Hp}{a:Addr}{o:HO} (R:Rel K A ρ σ H) (ha:A a):Rel K A ρ σ (upd H a o):=by
 have k:aN (OO A ρ σ) H (OO A ρ σ) (upd H a o):=fun b u n e=>⟨n,by rw [aB (fun z=>n (by rw [z];exact .inl ha))];exact e⟩
 refine ⟨R.len,fun i q e=>?_,R.dj,fun b z=>?_,R.sep⟩
 .obtain ⟨v,s,r⟩:=R.get i q e
  refine ⟨v,s,r.keeps k fun ow b eb=>?_⟩
  rw [aB]
  intro z
  subst z eb
  exact R.sep b ha ⟨i,q,e,ow,s⟩
 .by_cases z':b=a
  .rw [z',aS];exact nofun
  .rw [aB z'];exact R.dom b z
def uF (ix:List (Option Nat)) (ρ:PSt):Bool:=ix.all fun o=>match o with | none=>true | some j=>(match ρ[j]? with | some (some _)=>true | _=>false)
structure jK (ix:List (Option Nat)) (ρ1:PSt) (n:Nat) (it:Nat->D) (g:PTG) (pt:PTT) (pe:PTE) (Q:PKt):Prop where
 ex:∃I:Nat->List D->PSt->Prop,I 0 [] (b8 ix ρ1) /\
  (∀k ys τ d,k < n->d=it k->I k ys τ->g (.dat d) τ fun τ2=>pt τ2 fun ok τ3=>gp ok (pe τ3 fun p τ4=>I (k + 1) (ys++[p.d]) τ4) (I (k + 1) ys τ3))/\∀ys τ,I n ys τ->Q (.own ys) (dP ix ρ1 τ)
def qt (ix:List (Option Nat)) (pi:PTI) (g:PTG) (pt:PTT) (pe:PTE):PTE:=fun ρ Q=>pi ρ fun n it ρ1=>uF ix ρ1=true/\n<=1000000/\jK ix ρ1 n it g pt pe Q
def qu:PTT:=fun ρ Q=>Q true ρ
theorem oM {K:PySem.W.Frag}:LT K tT qu:=fun A ρ σ H Q Q' R q k=>k true H ρ q (Fr.refl _ _ _) R
def qU (ix:List (Option Nat)):List Nat:=(List.range ix.length).filter fun k=>(ix.getD k none).isSome
theorem mz {K:PySem.W.Frag}{ix:List (Option Nat)}{wi:TI}{pi:PTI}{g:TG}{pg:PTG}{tts:TT}{pt:PTT}{te:TE}{pe:PTE} (hix:qq ix=true) (hi:LI K wi pi) (hg:∀fs:List Nat,(∀k∈fs,k∈qU ix)->LGd K fs g pg) (ht:LT K tts pt) (he:LE K te pe) :
  LE K (pX ix wi g tts te) (qt ix pi pg pt pe):=fun A ρ σ H Q Q' R q k=>hi A ρ σ H _ _ R q fun J H1 n it ρ1 q1 f1 R1 W D hD=>by
 obtain ⟨hcap,hn,⟨I,i0,turn,after⟩⟩:=q1
 let τρ0:=b8 ix ρ1
 let τσ0:=l9 ix σ
 let Ai:Addr->Prop:=fun b=>A b\/b=D\/(Wr ρ1 σ b/\¬ Wr τρ0 τσ0 b)
 let H0':=upd H1 D (.lst [])
 have wsub:∀b,Wr τρ0 τσ0 b->Wr ρ1 σ b:=fun b ⟨m,p,e,o,s⟩=>by
  obtain ⟨j,h1,h2⟩:=dQ e
  obtain ⟨v,hv,_⟩:=R1.get j p h2
  have:=dY h1 hv
  rw [s] at this
  cases this
  exact ⟨j,p,h2,o,hv⟩
 have nD:¬ Wr ρ1 σ D:=fun z=>R1.wr z hD
 have oosub:∀b,OO Ai τρ0 τσ0 b->OO A ρ1 σ b\/b=D:=fun b z=>by
  rcases z with (z | z | z) | z
  .exact .inl (.inl z)
  .exact .inr z
  .exact .inl (.inr z.1)
  .exact .inl (.inr (wsub b z))
 have kD:aN (OO A ρ1 σ) H1 (OO Ai τρ0 τσ0) H0':=fun b o nn e=>by
  refine ⟨fun z=>?_,?_⟩
  .rcases oosub b z with z | z
   .exact nn z
   .rw [z,hD] at e;cases e
  .rw [show H0' b=H1 b from aB (aI e hD)];exact e
 have Ri:Rel K Ai τρ0 τσ0 H0':=by
  refine ⟨by show (b8 ix ρ1).length=(l9 ix σ).length;unfold b8 l9;rw [List.length_map,List.length_map],fun m p e=>?_,fun m l p q v e1 e2 o1 o2 s1 s2=>?_,fun b z=>?_,fun b z w=>?_⟩
  .obtain ⟨j,h1,h2⟩:=dQ e
   obtain ⟨v,hv,r⟩:=R1.get j p h2
   refine ⟨v,dY h1 hv,r.keeps kD fun ow a ea=>?_⟩
   subst ea
   exact aB (fun z=>nD (by rw [<- z];exact ⟨j,p,h2,ow,hv⟩))
  .obtain ⟨j,h1,h2⟩:=dQ e1
   obtain ⟨j',h3,h4⟩:=dQ e2
   obtain ⟨v1,hv1,_⟩:=R1.get j p h2
   obtain ⟨v2,hv2,_⟩:=R1.get j' q h4
   have t1:=dY h1 hv1
   have t2:=dY h3 hv2
   rw [s1] at t1
   rw [s2] at t2
   cases t1
   cases t2
   have:=R1.dj j j' p q _ h2 h4 o1 o2 hv1 hv2
   subst this
   exact iw hix h1 h3
  .rcases z with z | z | z
   .intro e
    by_cases zz:b=D
    .exact R1.dom b z (by rw [zz];exact hD)
    .rw [show H0' b=H1 b from aB zz] at e;exact R1.dom b z e
   .rw [z];show upd H1 D _ D≠none;rw [aS];exact nofun
   .intro e
    rw [show H0' b=H1 b from aB (fun zz=>nD (by rw [<- zz];exact z.1))] at e;exact R1.wr z.1 e
  .rcases z with z | z | z
   .exact R1.sep b z (wsub b w)
   .rw [z] at w;exact nD (wsub D w)
   .exact z.2 w
 let fxi:List (Nat×V):=(qU ix).filterMap fun m=>match (τσ0[m]?) with | some (some v)=>some (m,v) | _=>none
 have hfx:∀p∈fxi,τσ0[p.1]?=some (some p.2):=fun p hp=>by
  obtain ⟨m,hm,e⟩:=List.mem_filterMap.mp hp
  split at e
  .rename_i v ev;cases e;exact ev
  .cases e
 have hfs:∀m∈fxi.map Prod.fst,m∈qU ix:=fun m hm=>by
  obtain ⟨p,hp,rfl⟩:=List.mem_map.mp hm
  obtain ⟨m',hm',e⟩:=List.mem_filterMap.mp hp
  split at e
  .cases e;exact hm'
  .cases e
 have hgi:=hg (fxi.map Prod.fst) hfs
 have fxget:∀(m j:Nat) (v:V),ix[m]?=some (some j)->σ[j]?=some (some v)->(m,v)∈fxi:=fun m j v h1 h2=>by
  refine List.mem_filterMap.mpr ⟨m,?_,?_⟩
  .unfold qU
   refine List.mem_filter.mpr ⟨List.mem_range.mpr (List.getElem?_eq_some_iff.mp h1).1,?_⟩
   rw [List.getD_eq_getElem?_getD,h1];rfl
  .show (match (l9 ix σ)[m]? with | some (some v)=>some (m,v) | _=>none)=_
   rw [dY h1 h2]
 let Rr:Addr->Prop:=fun b=>Wr τρ0 τσ0 b\/b=D
 have hRr:∀b,Rr b->OO Ai τρ0 τσ0 b:=fun b z=>z.elim (fun z=>.inr z) (fun z=>.inl (.inr (.inl z)))
 have F0:dI fxi Rr H0' τρ0 τσ0 H0':=⟨fun _ _ _ h=>h,fun _ h=>h,fun b w=>.inl (.inl w),hfx⟩
 refine ⟨fun i m τ H2=>i + m=n/\∃ys τρ xs,I i ys τρ/\ys.length<=i/\Rel K Ai τρ τ H2/\dI fxi Rr H0' τρ τ H2/\H2 D=some (.lst xs)/\FVs K (OO Ai τρ τ) H2 xs ys/\∀b,Wr τρ τ b->Wr τρ0 τσ0 b,
  ⟨n,Nat.zero_add n,[],τρ0,[],i0,Nat.le_refl _,Ri,F0,aS,.nil,fun _ h=>h⟩,fun i m τ H2 ⟨him,ys,τρ,xs,iv,hy,r2,F2,eD,fD,hw⟩=>?_⟩
 have kk:aN (OO A ρ1 σ) H1 (OO Ai τρ τ) H2:=fun b o nn e=>(F2.keepsR hRr) b o (kD b o nn e).1 (kD b o nn e).2
 obtain ⟨go,stop⟩:=W _ H2 kk r2.dom2
 by_cases hk:i < n
 .obtain ⟨g1,g2⟩:=go i hk
  refine .inr ⟨g1,fun x H3 y=>?_⟩
  obtain ⟨gr,fv⟩:=g2 x H3 y
  have AiD:Ai D:=.inr (.inl rfl)
  refine hgi fxi Ai Rr H0' τρ τ H3 _ x _ _ rfl (F2.fr gr.fr) (r2.gr gr) fv (turn i ys τρ _ hk rfl iv) fun τρ2 τ2 q2 r3 F3 w3=>?_
  refine ht Ai τρ2 τ2 H3 _ _ r3 q2 fun ok H5 τρ3 q3 f5 r5=>?_
  have F5:=F3.fr f5
  have fD5:FVs K (OO Ai τρ3 τ2) H5 xs ys:=((fD.keeps (gr.fr (ρ:=τρ) (σ:=τ)).keeps).keeps (aN.less fun b z=>z.imp id (w3 b))).keeps f5.keeps
  have eD5:H5 D=some (.lst xs):=f5.kp D _ (r3.sep D AiD) (gr D _ eD)
  cases ok with
  | true =>
   refine he Ai τρ3 τ2 H5 _ _ r5 q3 fun v H6 p τρ4 q4 f6 o6=>?_
   obtain ⟨r6,fv6⟩:=o6.frz
   have F6:=F5.fr f6
   have eD6:H6 D=some (.lst xs):=f6.kp D _ (r5.sep D AiD) eD5
   have kw:aN (OO Ai τρ4 τ2) H6 (OO Ai τρ4 τ2) (upd H6 D (.lst (xs++[v]))):=fun b o nn e=>⟨nn,by rw [aB (fun z=>nn (by rw [z];exact .inl AiD))];exact e⟩
   refine ⟨xs,eD6,?_,m - 1,by omega,by omega,ys++[p.d],τρ4,xs++[v],q4,by rw [List.length_append];show _ + 1<=_;omega,r6.amb AiD,⟨fun b o nn e=>?_,fun b z=>?_,F6.ow,F6.fx⟩,aS,((fD5.keeps f6.keeps).append (.cons fv6 .nil)).keeps kw,fun b z=>hw b (w3 b (f5.ow b (f6.ow b z)))⟩
   .have:xs.length=ys.length:=fD.length
    exact Nat.lt_of_lt_of_le (by omega:xs.length < 1000000) (sz _ (Nat.le_refl _))
   .rw [aB (fun z=>nn (.inr z))];exact F6.kp b o nn e
   .by_cases zz:b=D
    .rw [zz,aS];exact nofun
    .rw [aB zz];exact F6.dm b z
  | false=>exact ⟨m - 1,by omega,by omega,ys,τρ3,xs,q3,by omega,r5,F5,eD5,fD5,fun b z=>hw b (w3 b (f5.ow b z))⟩
 .have e:i=n:=by omega
  subst e
  refine .inl ⟨stop,?_⟩
  have q':=after ys τρ iv
  have cap:∀(m j:Nat),ix[m]?=some (some j)->∃p v,ρ1[j]?=some (some p)/\σ[j]?=some (some v)/\τ[m]?=some (some v):=fun m j e=>by
   have h1:=List.all_eq_true.mp hcap _ (List.mem_of_getElem? e)
   have h1:(match ρ1[j]? with | some (some _)=>true | _=>false)=true:=h1
   split at h1
   .rename_i p ep
    obtain ⟨v,hv,_⟩:=R1.get j p ep
    exact ⟨p,v,ep,hv,F2.fx _ (fxget m j v e hv)⟩
   .cases h1
  have get':∀(j:Nat) (p:PV),(dP ix ρ1 τρ)[j]?=some (some p)->(∃m v,ix[m]?=some (some j)/\σ[j]?=some (some v)/\τ[m]?=some (some v)/\τρ[m]?=some (some p))\/(some j∉ix/\ρ1[j]?=some (some p)):=fun j p e=>by
   by_cases hj:some j∈ix
   .obtain ⟨m,hm,em⟩:=List.getElem_of_mem hj
    have em':ix[m]?=some (some j):=by rw [List.getElem?_eq_getElem hm,em]
    obtain ⟨p0,v,h1,h2,h3⟩:=cap m j em'
    rw [jJ ix ρ1 τρ j m hix em' (by rw [r2.len];exact (List.getElem?_eq_some_iff.mp h3).1) (List.getElem?_eq_some_iff.mp h1).1] at e
    exact .inl ⟨m,v,em',h2,h3,e⟩
   .rw [fX ix ρ1 τρ j hj] at e
    exact .inr ⟨hj,e⟩
  have nocap:∀(j:Nat) (p:PV) (b:Addr),some j∉ix->ρ1[j]?=some (some p)->p.isOwn=true->σ[j]?=some (some (.ref b))->¬ Wr τρ0 τσ0 b:=fun j p b hj e o s ⟨m,q,e1,o1,s1⟩=>by
   obtain ⟨j',h1,h2⟩:=dQ e1
   obtain ⟨v,hv,_⟩:=R1.get j' q h2
   have:=dY h1 hv
   rw [s1] at this
   cases this
   have:=R1.dj j j' p q _ e h2 o o1 s hv
   subst this
   exact hj (List.mem_of_getElem? h1)
  have w':∀b,Wr (dP ix ρ1 τρ) σ b->Wr τρ τ b\/(Wr ρ1 σ b/\¬ Wr τρ0 τσ0 b):=fun b ⟨j,p,e,o,s⟩=>by
   rcases get' j p e with ⟨m,v,h1,h2,h3,h4⟩ | ⟨hj,h1⟩
   .rw [s] at h2;cases h2;exact .inl ⟨m,p,h4,o,h3⟩
   .exact .inr ⟨⟨j,p,h1,o,s⟩,nocap j p b hj h1 o s⟩
  have oo':∀b,OO (cB A D) (dP ix ρ1 τρ) σ b->OO Ai τρ τ b:=fun b z=>by
   rcases z with (z | z) | z
   .exact .inl (.inl z)
   .exact .inl (.inr (.inl z))
   .rcases w' b z with z | z
    .exact .inr z
    .exact .inl (.inr (.inr z))
  have kp1:∀b o,¬ Wr τρ0 τσ0 b->b≠D->H1 b=some o->H2 b=some o:=fun b o n1 n2 e=>F2.kp b o (fun z=>z.elim n1 n2) (by rw [show H0' b=H1 b from aB n2];exact e)
  have k1:aN (OO A ρ1 σ) H1 (OO (cB A D) (dP ix ρ1 τρ) σ) H2:=fun b o nn e=>⟨fun z=>(kk b o nn e).1 (oo' b z),(kk b o nn e).2⟩
  have AiD:Ai D:=.inr (.inl rfl)
  have R':Rel K (cB A D) (dP ix ρ1 τρ) σ H2:=by
   refine ⟨by rw [iu];exact R1.len,fun j p e=>?_,fun j l p q v e1 e2 o1 o2 s1 s2=>?_,fun b z=>?_,fun b z w=>?_⟩
   .rcases get' j p e with ⟨m,v,h1,h2,h3,h4⟩ | ⟨hj,h1⟩
    .obtain ⟨v',hv',r⟩:=r2.get m p h4
     rw [h3] at hv';cases hv'
     exact ⟨v,h2,r.keeps (aN.less oo') fun _ _ _=>rfl⟩
    .obtain ⟨v,hv,r⟩:=R1.get j p h1
     refine ⟨v,hv,r.keeps k1 fun ow a ea=>?_⟩
     subst ea
     obtain ⟨a',u,e1,e2⟩:=r.ref ow
     cases e1
     rw [e2]
     exact kp1 a u (nocap j p a hj h1 ow hv) (fun z=>by rw [z,hD] at e2;cases e2) e2
   .rcases get' j p e1 with ⟨m,v1,h1,h2,h3,h4⟩ | ⟨hj,h1⟩
    .rw [s1] at h2;cases h2
     rcases get' l q e2 with ⟨m',v2,g1,g2,g3,g4⟩ | ⟨hl,g1⟩
     .rw [s2] at g2;cases g2
      have:=r2.dj m m' p q _ h4 g4 o1 o2 h3 g3
      subst this
      rw [h1] at g1;cases g1;rfl
     .exfalso
      obtain ⟨v',hv',r⟩:=r2.get m p h4
      rw [h3] at hv';cases hv'
      obtain ⟨a,u,ea,_⟩:=r.ref o1
      subst ea
      exact nocap l q a hl g1 o2 s2 (hw a ⟨m,p,h4,o1,h3⟩)
    .rcases get' l q e2 with ⟨m',v2,g1,g2,g3,g4⟩ | ⟨hl,g1⟩
     .rw [s2] at g2;cases g2
      exfalso
      obtain ⟨v',hv',r⟩:=r2.get m' q g4
      rw [g3] at hv';cases hv'
      obtain ⟨a,u,ea,_⟩:=r.ref o2
      subst ea
      exact nocap j p a hj h1 o1 s1 (hw a ⟨m',q,g4,o2,g3⟩)
     .exact R1.dj j l p q v h1 g1 o1 o2 s1 s2
   .rcases z with z | z
    .exact r2.dom b (.inl z)
    .rw [z,eD];exact nofun
   .rcases w' b w with w | w
    .rcases z with z | z
     .exact r2.sep b (.inl z) w
     .rw [z] at w;exact r2.sep D AiD w
    .rcases z with z | z
     .exact R1.sep b z w.1
     .rw [z] at w;exact nD w.1
  have f2:Fr ρ1 σ H1 (dP ix ρ1 τρ) H2:=by
   refine ⟨fun b o nn e=>kp1 b o (fun z=>nn (wsub b z)) (fun z=>by rw [z,hD] at e;cases e) e,fun b z=>F2.dm b ?_,fun b z=>?_⟩
   .intro e
    by_cases zz:b=D
    .exact z (by rw [zz];exact hD)
    .rw [show H0' b=H1 b from aB zz] at e;exact z e
   .rcases w' b z with z | z
    .exact wsub b (hw b z)
    .exact z.1
  have hD0:H D=none:=by
   cases e:H D with
   | none=>rfl
   | some o=>exact absurd hD (f1.dm D (by rw [e];exact nofun))
  exact k _ H2 (.own ys) _ q' (f1.trans f2) ⟨D,xs,rfl,fun z=>R1.dom D z hD,hD0,eD,R',fD.keeps (aN.less oo')⟩
section
variable {K:PySem.W.Frag}{A A':Addr->Prop}{ρ:PSt}{σ:St}{H H':Hp}
theorem Rel.step (R:Rel K A ρ σ H) {i:Nat}{p q:PV}{a:Addr} (e:ρ[i]?=some (some p)) (ow:p.isOwn=true) (ow':q.isOwn=true) (es:σ[i]?=some (some (.ref a)))
  (kp:∀b o,b≠a->H b=some o->H' b=some o) (ha:H' a≠none) (h1:∀b,A b->A' b) (h2:∀b,A' b->A b\/H b=none) (dom':∀b,A' b->H' b≠none)
  (new:RS K (OO A' ρ σ) H' q (.ref a)):Rel K A' (ρ.set i (some q)) σ H'/\Fr ρ σ H (ρ.set i (some q)) H':=by
 have hi:i < ρ.length:=(List.getElem?_eq_some_iff.mp e).1
 have wa:Wr ρ σ a:=⟨i,p,e,ow,es⟩
 have weq:∀b,Wr (ρ.set i (some q)) σ b ↔ Wr ρ σ b:=fun b=>by
  constructor
  .rintro ⟨j,r,e1,o1,s1⟩
   by_cases z:i=j
   .subst z;exact ⟨i,p,e,ow,s1⟩
   .rw [List.getElem?_set_ne z] at e1;exact ⟨j,r,e1,o1,s1⟩
  .rintro ⟨j,r,e1,o1,s1⟩
   by_cases z:i=j
   .subst z;exact ⟨i,q,List.getElem?_set_self hi,ow',s1⟩
   .exact ⟨j,r,by rw [List.getElem?_set_ne z];exact e1,o1,s1⟩
 have oeq:OO A' (ρ.set i (some q)) σ=OO A' ρ σ:=funext fun b=>propext (or_congr Iff.rfl (weq b))
 have kp1:∀b u,¬ Wr ρ σ b->H b=some u->H' b=some u:=fun b u n h=>kp b u (fun z=>n (by rw [z];exact wa)) h
 have k:aN (OO A ρ σ) H (OO A' ρ σ) H':=fun b u n h=>by
  refine ⟨fun z=>?_,kp1 b u (fun z=>n (.inr z)) h⟩
  rcases z with z | z
  .rcases h2 b z with z | z
   .exact n (.inl z)
   .rw [z] at h;cases h
  .exact n (.inr z)
 have dm:∀b,H b≠none->H' b≠none:=fun b n=>by
  by_cases z:b=a
  .rw [z];exact ha
  .cases eb:H b with
   | none=>exact absurd eb n
   | some o=>rw [kp b o z eb];exact nofun
 refine ⟨⟨by rw [List.length_set];exact R.len,fun j r e1=>?_,fun j l p1 q1 v e1 e2 o1 o2 s1 s2=>?_,dom',fun b z w=>?_⟩,⟨kp1,dm,fun b w=>(weq b).mp w⟩⟩
 .rw [oeq]
  by_cases z:i=j
  .subst z
   rw [List.getElem?_set_self hi] at e1
   cases e1
   exact ⟨_,es,new⟩
  .rw [List.getElem?_set_ne z] at e1
   obtain ⟨v,s,rr⟩:=R.get j r e1
   refine ⟨v,s,rr.keeps k fun ow2 b eb=>?_⟩
   obtain ⟨b',u,e3,e4⟩:=rr.ref ow2
   rw [eb] at e3;cases e3
   rw [e4]
   refine kp b u (fun zz=>?_) e4
   subst zz
   rw [eb] at s
   exact z (R.dj i j p r _ e e1 ow ow2 es s)
 .have ex:∀(m:Nat) (x:PV),(ρ.set i (some q))[m]?=some (some x)->x.isOwn=true->∃y:PV,ρ[m]?=some (some y)/\y.isOwn=true:=fun m x em ox=>by
   by_cases z:i=m
   .subst z;exact ⟨p,e,ow⟩
   .rw [List.getElem?_set_ne z] at em;exact ⟨x,em,ox⟩
  obtain ⟨y1,g1,g2⟩:=ex j p1 e1 o1
  obtain ⟨y2,g3,g4⟩:=ex l q1 e2 o2
  exact R.dj j l y1 y2 v g1 g3 g2 g4 s1 s2
 .rcases h2 b z with z | z
  .exact R.sep b z ((weq b).mp w)
  .exact R.wr ((weq b).mp w) z
theorem Rel.lstw (R:Rel K A ρ σ H) {i:Nat}{ds es:List D}{a:Addr}{ys:List V} (e:ρ[i]?=some (some (.own ds))) (es':σ[i]?=some (some (.ref a))) (f:FVs K (OO A ρ σ) H ys es) :
  Rel K A (ρ.set i (some (.own es))) σ (upd H a (.lst ys))/\Fr ρ σ H (ρ.set i (some (.own es))) (upd H a (.lst ys)):=by
 have wa:OO A ρ σ a:=.inr ⟨i,_,e,rfl,es'⟩
 exact R.write (q:=.own es) e rfl rfl es' ⟨a,ys,rfl,aS,f.keeps fun b u n h=>⟨n,by rw [aB (fun z=>n (by rw [z];exact wa))];exact h⟩⟩
theorem Rel.ownAt (R:Rel K A ρ σ H) {i:Nat}{ds:List D} (e:ρ[i]?=some (some (.own ds))):∃a xs,σ[i]?=some (some (.ref a))/\H a=some (.lst xs)/\FVs K (OO A ρ σ) H xs ds:=by
 obtain ⟨v,s,a,xs,rfl,g,f⟩:=R.get i _ e
 exact ⟨a,xs,s,g,f⟩
end
def qv (i:Nat) (pe:PTE):PTE:=fun ρ Q=>match ρ[i]? with
 | some (some (.own _))=>pe ρ fun p ρ1=>(match ρ1[i]? with
  | some (some (.own ds))=>ds.length < 1000000/\Q (.dat .non) (ρ1.set i (some (.own (ds++[p.d]))))
  | _=>False)
 | _=>False
def uG (i:Nat):PTE:=fun ρ Q=>match ρ[i]? with
 | some (some (.own ds))=>∃d,ds[ds.length - 1]?=some d/\Q (.dat d) (ρ.set i (some (.own ds.dropLast)))
 | _=>False
section
variable {K:PySem.W.Frag}{te tk:TE}{pe pk:PTE}{fs:List Nat}
theorem jc {i:Nat} (h:LE K te pe):LE K (tBM K "list" lL (gK i) (dJ te j2)) (qv i pe):=fun A ρ σ H Q Q' R q k=>by
 unfold qv at q
 split at q
 .rename_i ds0 e0
  obtain ⟨a0,xs0,s0,g0,f0⟩:=R.ownAt e0
  refine ⟨_,s0,.inl ⟨rfl,xs0,SqL.of g0⟩,h A ρ σ H _ _ R q fun v H1 p ρ1 q1 f1 o1=>?_⟩
  obtain ⟨R1,fv⟩:=o1.frz
  split at q1
  .rename_i ds e1
   obtain ⟨a,xs,s,g,f⟩:=R1.ownAt e1
   rw [s0] at s;cases s
   obtain ⟨R2,f2⟩:=R1.lstw e1 s0 (f.append (.cons fv .nil))
   exact ⟨a0,xs,v,rfl,rfl,g,Nat.lt_of_lt_of_le (by rw [f.length];exact q1.1) (sz _ (Nat.le_refl _)),k _ _ _ _ q1.2 (f1.trans f2) ⟨R2,.non⟩⟩
  .exact q1.elim
 .exact q.elim
theorem sS {i:Nat}:LE K (vd K "list" ve (gK i)) (uG i):=fun A ρ σ H Q Q' R q k=>by
 unfold uG at q
 split at q
 .rename_i ds e
  obtain ⟨d,hd,q⟩:=q
  obtain ⟨a,xs,s,g,f⟩:=R.ownAt e
  obtain ⟨v,hv,fv⟩:=f.getD hd
  obtain ⟨R2,f2⟩:=R.lstw (es:=ds.dropLast) (ys:=xs.dropLast) e s (by rw [List.dropLast_eq_take,List.dropLast_eq_take,f.length];exact f.take _)
  exact ⟨_,s,.inl ⟨rfl,xs,SqL.of g⟩,a,xs,v,rfl,rfl,g,by rw [f.length];exact hv,k _ _ _ _ q f2 ⟨R2,(fv.keeps f2.keeps)⟩⟩
 .exact q.elim
end
def spP (K:PySem.W.Frag) (c:FN):Sp:=fun vs H Q _=>∃(O:Addr->Prop) (ds:List D) (Qc:PV->Prop),(∀b,O b->H b≠none)/\FVs K O H vs ds/\c ds Qc/\∀r,Qc r->∀v H',Gr H H'->kZ K O H H' r v->Q v H'
def cY (c:FN) (pr:PTA):PTE:=fun ρ Q=>pr ρ fun as ρ1=>match avD as with
 | some ds=>c ds fun r=>Q r ρ1
 | none=>False
theorem gy {N:List Str}{vs:List V}{i:Nat}{v:V} (h:vs[i]?=some v):(start N vs)[i]?=some (some v):=by
 unfold start
 rw [List.getElem?_append_left (by rw [List.length_map];exact (List.getElem?_eq_some_iff.mp h).1),List.getElem?_map,h];rfl
def cq (n:Nat) (ps:List PV):PSt:=ps.map some++List.replicate (n - ps.length) none
theorem cZ {n:Nat}{ps:List PV}{i:Nat}{p:PV} (h:(cq n ps)[i]?=some (some p)):ps[i]?=some p:=by
 unfold cq at h
 by_cases hi:i < ps.length
 .rw [List.getElem?_append_left (by rw [List.length_map];exact hi),List.getElem?_map] at h
  cases e:ps[i]? with
  | none=>rw [e] at h;cases h
  | some q=>rw [e] at h;cases h;rfl
 .rw [List.getElem?_append_right (by rw [List.length_map];omega)] at h
  have:=List.mem_of_getElem? h
  rw [List.mem_replicate] at this
  cases this.2
section
variable {K:PySem.W.Frag}{tr:TA}{pr:PTA}{ts:TS}{ps:PTS}
theorem bO {c:FN} (h:LAs K tr pr):LE K (kK (spP K c) [] E0 tr) (cY c pr):=fun A ρ σ H Q Q' R q k=>h A ρ σ H _ _ R q fun vs H1 as ρ1 q1 f1 R1 o1=>by
 split at q1
 .rename_i ds e
  rw [List.append_nil]
  exact ⟨OO A ρ1 σ,ds,_,R1.dom2,o1.avD e,q1,fun r qr v H' g ov=>k v H' r ρ1 qr (f1.trans g.fr) ((ov.out R1 g).h0 f1.dm)⟩
 .exact q1.elim
theorem Out.outV {O:Addr->Prop}{ρ:PSt}{σ:St}{H H':Hp}{p:PV}{v:V} (h:Out K O ρ σ H H' p v):kZ K O H H' p v:=by
 cases p with
 | dat d=>exact h.2.keeps (aN.less fun b z=>.inl z)
 | own ds =>
  obtain ⟨a,xs,e1,na,e2,e3,R,f⟩:=h
  exact ⟨a,xs,e1,e2,e3,f.keeps (aN.less fun b z=>.inl z)⟩
 | ins c ns ds =>
  obtain ⟨a,dx,fs,e1,na,e2,e3,m,R,f⟩:=h
  exact ⟨a,dx,fs,e1,e2,e3,m,f.keeps (aN.less fun b z=>.inl z)⟩
theorem fnP {c:FN}{N:List Str} (hl:LS K [] ts ps) (hn:∀ds Q,c ds Q->ds.length<=N.length) (hc:∀ds Q,c ds Q->ps { nx:=fun _=>Q (.dat .non),rt:=fun p _=>Q p } (cq N.length (ds.map .dat)))
  {vs:List V}{H:Hp}{Q:VK}{E:XK} (h:spP K c vs H Q E):ts { nx:=fun _ H'=>Q .non H',rt:=Q } (start N vs) H:=by
 obtain ⟨O,ds,Qc,dom,fv,hq,k⟩:=h
 have nw:∀(ρ:PSt) (b:Addr),ρ=cq N.length (ds.map .dat)->¬ Wr ρ (start N vs) b:=fun ρ b e ⟨i,p,e1,o1,s1⟩=>by
  rw [e] at e1
  have:=cZ e1
  rw [List.getElem?_map] at this
  cases e2:ds[i]? with
  | none=>rw [e2] at this;cases this
  | some d=>rw [e2] at this;cases this;cases o1
 have lenv:=fv.length
 have hle:=hn ds Qc hq
 have R0:Rel K O (cq N.length (ds.map .dat)) (start N vs) H:=by
  refine ⟨?_,fun i p e=>?_,fun i j p q v e1 e2 o1 o2 s1 s2=>?_,dom,fun b _ w=>nw _ b rfl w⟩
  .unfold cq start
   rw [List.length_append,List.length_append,List.length_map,List.length_map,List.length_map,List.length_replicate,List.length_replicate,lenv]
  .have:=cZ e
   rw [List.getElem?_map] at this
   cases e2:ds[i]? with
   | none=>rw [e2] at this;cases this
   | some d =>
    rw [e2] at this;cases this
    obtain ⟨v,hv,f⟩:=fv.getD e2
    exact ⟨v,gy hv,f.keeps (aN.less fun b z=>z.elim id fun w=>absurd w (nw _ b rfl))⟩
  .have:=cZ e1
   rw [List.getElem?_map] at this
   cases e3:ds[i]? with
   | none=>rw [e3] at this;cases this
   | some d=>rw [e3] at this;cases this;cases o1
 refine hl [] O (fun _=>False) H _ _ H _ _ rfl R0 ⟨fun _ _ _ h=>h,fun _ h=>h,fun b w=>absurd w (nw _ b rfl),fun p hp=>nomatch hp⟩ (hc ds Qc hq) (fun ρ' σ' H' q r F=>?_) (fun v p ρ' σ' H' q o F=>?_) (fun _ _ _ z=>z.elim) (fun _ _ _ z=>z.elim)
 .exact k _ q .non H' (fun b o e=>F.kp b o id e) .non
 .exact k _ q v H' (fun b o e=>F.kp b o id e) o.outV
abbrev FR:=PV->List D->(PV->PV->Prop)->Prop
def spR (K:PySem.W.Frag) (c:FR):Sp:=fun vs H Q _=>∃(A:Addr->Prop) (a:Addr) (p:PV) (ws:List V) (ds:List D) (Qc:PV->PV->Prop),vs=.ref a::ws/\p.isOwn=true/\(∀b,A b->H b≠none)/\¬ A a/\RS K (cB A a) H p (.ref a)/\FVs K (cB A a) H ws ds/\c p ds Qc /\
 ∀r p',Qc r p'->p'.isOwn=true->∀v H',(∀b o,b≠a->H b=some o->H' b=some o)->H' a≠none->RS K (cB A a) H' p' (.ref a)->kZ K (cB A a) H H' r v->(∀a',v=.ref a'->r.isOwn=true->RS K (cB (cB A a) a') H' p' (.ref a))->Q v H'
def cj (c:FR) (i:Nat) (pr:PTA):PTE:=fun ρ Q=>match ρ[i]? with
 | some (some _)=>pr ρ fun as ρ1=>(match ρ1[i]?,avD as with
  | some (some p),some ds=>p.isOwn=true/\c p ds fun r p'=>Q r (ρ1.set i (some p'))
  | _,_=>False)
 | _=>False
theorem bo {c:FR}{i:Nat} (h:LAs K tr pr):LE K (kK (spR K c) [] E0 (dJ (gK i) tr)) (cj c i pr):=fun A ρ σ H Q Q' R q k=>by
 unfold cj at q
 split at q
 .rename_i p0 e0
  obtain ⟨v0,s0,_⟩:=R.get i p0 e0
  refine ⟨v0,s0,h A ρ σ H _ _ R q fun vs H1 as ρ1 q1 f1 R1 o1=>?_⟩
  split at q1
  .rename_i p ds e1 ed
   obtain ⟨ow,q1⟩:=q1
   obtain ⟨v1,s1,rs⟩:=R1.get i p e1
   rw [s0] at s1;cases s1
   obtain ⟨a,u,rfl,ea⟩:=rs.ref ow
   rw [List.append_nil]
   have wa:Wr ρ1 σ a:=⟨i,p,e1,ow,s0⟩
   have oeq:cB (fun b=>(OO A ρ1 σ b)/\b≠a) a=OO A ρ1 σ:=funext fun b=>propext ⟨fun z=>z.elim (fun z=>z.1) (fun z=>by rw [z];exact .inr wa),fun z=>by
    by_cases e:b=a
    .exact .inr e
    .exact .inl ⟨z,e⟩⟩
   refine ⟨fun b=>(OO A ρ1 σ b)/\b≠a,a,p,vs,ds,_,rfl,ow,fun b z=>R1.dom2 b z.1,fun z=>z.2 rfl,by rw [oeq];exact rs,by rw [oeq];exact o1.avD ed,q1,fun r p' qr ow' v H' kp ha rs' ov hx=>?_⟩
   rw [oeq] at rs' ov hx
   have domA:∀b,A b->H' b≠none:=fun b z=>by
    have:b≠a:=fun e=>R1.sep b z (by rw [e];exact wa)
    cases eb:H1 b with
    | none=>exact absurd eb (R1.dom b z)
    | some o=>rw [kp b o this eb];exact nofun
   cases r with
   | dat d =>
    obtain ⟨R2,f2⟩:=R1.step (A':=A) e1 ow ow' s0 kp ha (fun _ h=>h) (fun _ h=>.inl h) domA rs'
    exact k v H' _ _ qr (f1.trans f2) ⟨R2,FV.keeps (aN.less fun b z=>z.imp id (f2.ow b)) ov⟩
   | own es =>
    obtain ⟨a',xs,rfl,n1,e2,f⟩:=ov
    have hx:=hx a' rfl rfl
    have na:a'≠a:=fun e=>by rw [e,ea] at n1;cases n1
    have oo2:∀b,OO (cB A a') ρ1 σ b ↔ cB (OO A ρ1 σ) a' b:=fun b=>⟨fun z=>by
     rcases z with (z | z) | z
     .exact .inl (.inl z)
     .exact .inr z
     .exact .inl (.inr z),fun z=>by
     rcases z with (z | z) | z
     .exact .inl (.inl z)
     .exact .inr z
     .exact .inl (.inr z)⟩
    have oo2':OO (cB A a') ρ1 σ=cB (OO A ρ1 σ) a':=funext fun b=>propext (oo2 b)
    obtain ⟨R2,f2⟩:=R1.step (A':=cB A a') e1 ow ow' s0 kp ha (fun _ h=>.inl h) (fun b z=>z.imp id fun z=>by rw [z];exact n1) (fun b z=>z.elim (domA b) fun z=>by rw [z,e2];exact nofun) (by rw [oo2'];exact hx)
    .refine k _ H' (.own es) _ qr (f1.trans f2) ⟨a',xs,rfl,fun z=>R1.dom a' z n1,?_,e2,R2,f.keeps (aN.less fun b z=>?_)⟩
     .cases eb:H a' with
      | none=>rfl
      | some o=>exact absurd n1 (f1.dm a' (by rw [eb];exact nofun))
     .rw [<- oo2'];exact z.imp id (f2.ow b)
   | ins c ns es =>
    obtain ⟨a',dx,fs,rfl,n1,e2,m,f⟩:=ov
    have hx:=hx a' rfl rfl
    have oo2':OO (cB A a') ρ1 σ=cB (OO A ρ1 σ) a':=funext fun b=>propext ⟨fun z=>by
     rcases z with (z | z) | z
     .exact .inl (.inl z)
     .exact .inr z
     .exact .inl (.inr z),fun z=>by
     rcases z with (z | z) | z
     .exact .inl (.inl z)
     .exact .inr z
     .exact .inl (.inr z)⟩
    obtain ⟨R2,f2⟩:=R1.step (A':=cB A a') e1 ow ow' s0 kp ha (fun _ h=>.inl h) (fun b z=>z.imp id fun z=>by rw [z];exact n1) (fun b z=>z.elim (domA b) fun z=>by rw [z,e2];exact nofun) (by rw [oo2'];exact hx)
    .refine k _ H' (.ins c ns es) _ qr (f1.trans f2) ⟨a',dx,fs,rfl,fun z=>R1.dom a' z n1,?_,e2,m,R2,f.keeps (aN.less fun b z=>?_)⟩
     .cases eb:H a' with
      | none=>rfl
      | some o=>exact absurd n1 (f1.dm a' (by rw [eb];exact nofun))
     .rw [<- oo2'];exact z.imp id (f2.ow b)
  .exact q1.elim
 .exact q.elim
def qV (Q:PV->PV->Prop) (r:PV) (ρ:PSt):Prop:=match ρ[0]? with
 | some (some p)=>p.isOwn=true/\Q r p
 | _=>False
theorem fnR {c:FR}{N:List Str} (hl:LS K [0] ts ps) (hn:∀p ds Q,c p ds Q->ds.length + 1<=N.length) (hc:∀p ds Q,p.isOwn=true->c p ds Q->ps { nx:=qV Q (.dat .non),rt:=qV Q } (cq N.length (p::ds.map .dat)))
  {vs:List V}{H:Hp}{Q:VK}{E:XK} (h:spR K c vs H Q E):ts { nx:=fun _ H'=>Q .non H',rt:=Q } (start N vs) H:=by
 obtain ⟨A,a,p,ws,ds,Qc,rfl,ow,dom,na,rs,fv,hq,k⟩:=h
 have s0:(start N (V.ref a::ws))[0]?=some (some (.ref a)):=gy rfl
 have b0:(cq N.length (p::ds.map .dat))[0]?=some (some p):=rfl
 have wr:∀b,Wr (cq N.length (p::ds.map .dat)) (start N (.ref a::ws)) b->b=a:=fun b ⟨i,q,e1,o1,s1⟩=>by
  have:=cZ e1
  cases i with
  | zero=>rw [s0] at s1;cases s1;rfl
  | succ i =>
   rw [List.getElem?_cons_succ,List.getElem?_map] at this
   cases e2:ds[i]? with
   | none=>rw [e2] at this;cases this
   | some d=>rw [e2] at this;cases this;cases o1
 have wa:Wr (cq N.length (p::ds.map .dat)) (start N (.ref a::ws)) a:=⟨0,p,b0,ow,s0⟩
 have oeq:OO A (cq N.length (p::ds.map .dat)) (start N (.ref a::ws))=cB A a:=funext fun b=>propext ⟨fun z=>z.imp id (wr b),fun z=>z.imp id fun z=>by rw [z];exact wa⟩
 have lenv:=fv.length
 have hle:=hn p ds Qc hq
 have R0:Rel K A (cq N.length (p::ds.map .dat)) (start N (.ref a::ws)) H:=by
  refine ⟨?_,fun i q e=>?_,fun i j q1 q2 v e1 e2 o1 o2 s1 s2=>?_,dom,fun b z w=>?_⟩
  .unfold cq start
   simp only [List.length_append,List.length_map,List.length_replicate,List.length_cons,lenv]
  .have:=cZ e
   rw [oeq]
   cases i with
   | zero=>cases this;exact ⟨_,s0,rs⟩
   | succ i =>
    rw [List.getElem?_cons_succ,List.getElem?_map] at this
    cases e2:ds[i]? with
    | none=>rw [e2] at this;cases this
    | some d =>
     rw [e2] at this;cases this
     obtain ⟨v,hv,f⟩:=fv.getD e2
     exact ⟨v,gy (by rw [List.getElem?_cons_succ];exact hv),f⟩
  .have own0:∀(i:Nat) (q:PV),(cq N.length (p::ds.map .dat))[i]?=some (some q)->q.isOwn=true->i=0:=fun i q e o=>by
    have:=cZ e
    cases i with
    | zero=>rfl
    | succ i =>
     rw [List.getElem?_cons_succ,List.getElem?_map] at this
     cases e2:ds[i]? with
     | none=>rw [e2] at this;cases this
     | some d=>rw [e2] at this;cases this;cases o
   rw [own0 i q1 e1 o1,own0 j q2 e2 o2]
  .rw [wr b w] at z;exact na z
 have fin:∀(v:V) (r:PV) (ρ':PSt) (σ':St) (H':Hp),qV Qc r ρ'->Out K A ρ' σ' H H' r v->dI [(0,.ref a)] (fun b=>b=a) H ρ' σ' H'->Q v H':=fun v r ρ' σ' H' q o F=>by
  unfold qV at q
  split at q
  .rename_i p' e'
   obtain ⟨ow',q⟩:=q
   have sa:=F.fx (0,.ref a) (List.mem_singleton.mpr rfl)
   have wa':Wr ρ' σ' a:=⟨0,p',e',ow',sa⟩
   have kpa:∀b o,b≠a->H b=some o->H' b=some o:=fun b o n e=>F.kp b o n e
   cases r with
   | dat d =>
    obtain ⟨R1,f1⟩:=o
    obtain ⟨v1,s1,rs1⟩:=R1.get 0 p' e'
    rw [sa] at s1;cases s1
    have less:∀b,cB A a b->OO A ρ' σ' b:=fun b z=>z.imp id fun z=>by rw [z];exact wa'
    exact k _ p' q ow' v H' kpa (R1.wr wa') (rs1.keeps (aN.less less) fun _ _ _=>rfl) (f1.keeps (aN.less less)) (fun _ _ z=>nomatch z)
   | own es =>
    obtain ⟨a',xs,rfl,n1,n2,e3,R1,f1⟩:=o
    obtain ⟨v1,s1,rs1⟩:=R1.get 0 p' e'
    rw [sa] at s1;cases s1
    have less:∀b,cB (cB A a) a' b->OO (cB A a') ρ' σ' b:=fun b z=>by
     rcases z with (z | z) | z
     .exact .inl (.inl z)
     .exact .inr (by rw [z];exact wa')
     .exact .inl (.inr z)
    exact k _ p' q ow' _ H' kpa (R1.wr wa') (rs1.keeps (aN.less fun b z=>less b (.inl z)) fun _ _ _=>rfl) ⟨a',xs,rfl,n2,e3,f1.keeps (aN.less less)⟩ (fun a'' e _=>by cases e;exact rs1.keeps (aN.less less) fun _ _ _=>rfl)
   | ins c ns es =>
    obtain ⟨a',dx,fs,rfl,n1,n2,e3,m,R1,f1⟩:=o
    obtain ⟨v1,s1,rs1⟩:=R1.get 0 p' e'
    rw [sa] at s1;cases s1
    have less:∀b,cB (cB A a) a' b->OO (cB A a') ρ' σ' b:=fun b z=>by
     rcases z with (z | z) | z
     .exact .inl (.inl z)
     .exact .inr (by rw [z];exact wa')
     .exact .inl (.inr z)
    exact k _ p' q ow' _ H' kpa (R1.wr wa') (rs1.keeps (aN.less fun b z=>less b (.inl z)) fun _ _ _=>rfl) ⟨a',dx,fs,rfl,n2,e3,m,f1.keeps (aN.less less)⟩ (fun a'' e _=>by cases e;exact rs1.keeps (aN.less less) fun _ _ _=>rfl)
  .exact q.elim
 refine hl [(0,.ref a)] A (fun b=>b=a) H _ _ H _ _ rfl R0 ⟨fun _ _ _ h=>h,fun _ h=>h,fun b w=>.inl (wr b w),fun q hq=>by rw [List.mem_singleton.mp hq];exact s0⟩ (hc p ds Qc ow hq) (fun ρ' σ' H' q r F=>fin .non (.dat .non) ρ' σ' H' q ⟨r,.non⟩ F) (fun v p ρ' σ' H' q o F=>fin v p ρ' σ' H' q o F) (fun _ _ _ z=>z.elim) (fun _ _ _ z=>z.elim)
end
def vq:FN:=fun as Q=>∃ns:List Int,as=[.scr ns]/\ns.length<=63/\Q (.dat (.bl true))
theorem qw {K:PySem.W.Frag}{vs:List V}{H:Hp}{Q:VK}{E:XK} (h:kR K vs H Q E):spP K vq vs H Q E:=by
 obtain ⟨a,ns,rfl,hS,h63,q⟩:=h
 refine ⟨fun _=>False,[.scr ns],fun r=>r=.dat (.bl true),nofun,.cons (.scr ?_) .nil,⟨ns,rfl,h63,rfl⟩,fun r e v H' g o=>?_⟩
 .rcases hS with h | h
  .exact .inl ⟨id,h⟩
  .exact .inr h
 .subst e
  cases o
  exact q H'
section
variable {K:PySem.W.Frag}{X:Cx}
def sU:List V->Hp->VK->Prop:=fun xs H Q=>∃i j,xs=[.int i,.int j]/\Q (.int (if j < i then j else i)) H
theorem sV (hc:X.calm=true):ci X (.builtin "min") sU:=lB hc
def qx:FN
 | [.int i,.int j],Q=>Q (.dat (.int (if j < i then j else i)))
 | _,_=>False
theorem qy:LC K sU qx:=by
 intro O H xs as Q Q' dom fs q k
 unfold qx at q
 split at q
 .cases fs with
  | cons a b=>cases b with | cons b c=>cases c;rw [a.int,b.int];exact ⟨_,_,rfl,k _ H _ q (Gr.refl _) (.int _)⟩
 .exact q.elim
def sW (K:PySem.W.Frag):List V->Hp->VK->Prop:=fun xs H Q=>∃p ys,xs=[.ref p]/\((SqL K H p ys/\∀l,H l=none->Q (.ref l) (upd H l (.tup ys)))\/(SqT K H p ys/\Q (.ref p) H))
theorem mB (K:PySem.W.Frag) (e:X.K=K):ci X (.type "tuple") (sW K):=by subst e;exact ii
theorem oN (K:PySem.W.Frag) (e:X.K=K):ci X (.type "list") (mw K):=by subst e;exact iV
def kd:FN
 | [.lst ds],Q=>Q (.dat (.tup ds))
 | [.tup ds],Q=>Q (.dat (.tup ds))
 | [.scr ns],Q=>Q (.dat (.tup (ns.map .int)))
 | _,_=>False
def nW:FN
 | [.lst ds],Q=>Q (.own ds)
 | [.tup ds],Q=>Q (.own ds)
 | [.scr ns],Q=>Q (.own (ns.map .int))
 | _,_=>False
theorem ke:LC K (sW K) kd:=by
 intro O H xs as Q Q' dom fs q k
 unfold kd at q
 split at q
 .cases fs with
  | cons a b =>
   cases b
   obtain ⟨p,ys,rfl,e1,f1⟩:=a.lst
   exact ⟨p,ys,rfl,.inl ⟨SqL.of e1,fun l hl=>k _ _ _ q (Gr.new hl) (ir dom hl f1)⟩⟩
 .cases fs with
  | cons a b =>
   cases b
   obtain ⟨p,ys,rfl,n1,e1,f1⟩:=a.tup
   exact ⟨p,ys,rfl,.inr ⟨SqT.of e1,k _ H _ q (Gr.refl _) (.tup n1 e1 f1)⟩⟩
 .cases fs with
  | cons a b =>
   cases b
   obtain ⟨p,rfl,e1⟩:=a.scr
   exact ⟨p,_,rfl,.inl ⟨e1,fun l hl=>k _ _ _ q (Gr.new hl) (ir dom hl (FVs.of_ints _))⟩⟩
 .exact q.elim
theorem mC:LC K (mw K) nW:=by
 intro O H xs as Q Q' dom fs q k
 unfold nW at q
 split at q
 .cases fs with
  | cons a b =>
   cases b
   obtain ⟨p,ys,rfl,e1,f1⟩:=a.lst
   exact ⟨p,ys,rfl,.inl (SqL.of e1),fun l hl=>k _ _ _ q (Gr.new hl) (dk hl f1)⟩
 .cases fs with
  | cons a b =>
   cases b
   obtain ⟨p,ys,rfl,n1,e1,f1⟩:=a.tup
   exact ⟨p,ys,rfl,.inr (SqT.of e1),fun l hl=>k _ _ _ q (Gr.new hl) (dk hl f1)⟩
 .cases fs with
  | cons a b =>
   cases b
   obtain ⟨p,rfl,e1⟩:=a.scr
   exact ⟨p,_,rfl,.inl e1,fun l hl=>k _ _ _ q (Gr.new hl) (dk hl (FVs.of_ints _))⟩
 .exact q.elim
variable {ta:TE}{pa:PA1}{tr:TA}{pr:PTA}{pe:PTE}
def mkL (tup:Bool) (ds:List D):PV:=match tup with | true=>.dat (.tup ds) | false=>.own ds
def kf (pa:PA1):PTE:=fun ρ Q=>pa ρ fun x ρ1=>match cont ρ1 x with
 | some (.lst ds)=>Q (.own ds.reverse) ρ1
 | _=>False
def kg (K:PySem.W.Frag) (te:TE):TE:=fun σ H Q=>te σ H fun x H1=>∃a xs,x=.ref a/\SqL K H1 a xs/\∀l,H1 l=none->Q (.ref l) (upd H1 l (.lst xs.reverse))
theorem jL {e:Expr}{te:TE}{p p1 p2 pos:Pos} (K:PySem.W.Frag) (eK:X.K=K) (hc:X.calm=true) (he:PE X e te) (hg1:Gl X "list") (hm1:X.mg "list"=none) (hg2:Gl X "reversed") (hm2:X.mg "reversed"=none)
  (hs:starEach [.Call (.Name "reversed" p1) [e] [] p2] X.env=[(false,eval (.Call (.Name "reversed" p1) [e] [] p2) X.env)]:=by rfl) (hs2:starEach [e] X.env=[(false,eval e X.env)]:=by rfl) :
  PE X (.Call (.Name "list" p) [.Call (.Name "reversed" p1) [e] [] p2] [] pos) (kg K te):=by subst eK;exact kU hc he hg1 hm1 hg2 hm2 hs hs2
theorem la (h:LA1 K ta pa):LE K (kg K ta) (kf pa):=fun A ρ σ H Q Q' R q k=>h A ρ σ H _ _ R q fun v H1 a ρ1 q1 f1 R1 o1=>by
 split at q1
 .rename_i ds e
  obtain ⟨p,xs,rfl,e1,fs⟩:=(R1.cont o1 e).lst
  refine ⟨p,xs,rfl,SqL.of e1,fun l hl=>?_⟩
  have g:Gr H1 (upd H1 l (.lst xs.reverse)):=Gr.new hl
  exact k _ _ _ ρ1 q1 (f1.trans g.fr) ((kZ.out (p:=.own ds.reverse) R1 g (dk hl fs.reverse)).h0 f1.dm)
 .exact q1.elim
def cD (f:Str):List Str->Option Nat
 | []=>none
 | n::r=>if n=f then some 0 else (cD f r).map (· + 1)
theorem jd {f:Str}:∀{fs:List (Str×V)}{k:Nat},cD f (fs.map Prod.fst)=some k->fs.lookup f=(fs.map Prod.snd)[k]?
 | [],k,h=>by cases h
 | (n,v)::r,k,h=>by
  unfold cD at h
  rw [List.map_cons] at h
  simp only at h
  rw [List.lookup_cons]
  by_cases e:n=f
  .rw [if_pos e] at h;cases h
   rw [show (f == n)=true by rw [e];exact beq_self_eq_true _];rfl
  .rw [if_neg e] at h
   rw [show (f == n)=false from beq_eq_false_iff_ne.mpr fun z=>e z.symm]
   cases e2:cD f (r.map Prod.fst) with
   | none=>rw [e2] at h;cases h
   | some j=>rw [e2] at h;cases h;show List.lookup f r=_;rw [jd e2];simp
theorem gz {f:Str}:∀{fs:List (Str×V)},cD f (fs.map Prod.fst)=none->fs.lookup f=none
 | [],h=>rfl
 | (n,v)::r,h=>by
  unfold cD at h
  rw [List.map_cons] at h
  simp only at h
  rw [List.lookup_cons]
  by_cases e:n=f
  .rw [if_pos e] at h;cases h
  .rw [if_neg e] at h
   rw [show (f == n)=false from beq_eq_false_iff_ne.mpr fun z=>e z.symm]
   cases e2:cD f (r.map Prod.fst) with
   | none=>exact gz e2
   | some j=>rw [e2] at h;cases h
theorem fY {f:Str}{v:V}:∀{fs:List (Str×V)},cD f (fs.map Prod.fst)=none->gL f v fs=fs++[(f,v)]
 | [],h=>rfl
 | (n,x)::r,h=>by
  unfold cD at h
  rw [List.map_cons] at h
  simp only at h
  by_cases e:n=f
  .rw [if_pos e] at h;cases h
  .rw [if_neg e] at h
   cases e2:cD f (r.map Prod.fst) with
   | none=>unfold gL;rw [if_neg e,fY e2];rfl
   | some j=>rw [e2] at h;cases h
theorem FVc.obj {O:Addr->Prop}{H:Hp}{v:V}{c:Str}{ns:List Str}{ds:List D} (h:FVc K O H v (.obj c ns ds)):∃a dx fs,v=.ref a/\H a=some (.ins (aY K c) dx fs)/\fs.map Prod.fst=ns/\FVs K O H (fs.map Prod.snd) ds:=by
 rcases h with h | ⟨a,xs,ds',e1,e2,e3,f⟩ | ⟨a,dx,c,fs,ns,ds',e1,e2,e3,m,f⟩
 .cases h with
  | obj n e m f=>exact ⟨_,_,_,rfl,e,m,f⟩
 .cases e2
 .cases e2;exact ⟨a,dx,fs,e1,e3,m,f⟩
def sX (c0:Str) (ns0:List Str) (k:Nat) (pa:PA1):PTE:=fun ρ Q=>pa ρ fun x ρ1=>match cont ρ1 x with
 | some (.obj c ns ds)=>(c=c0/\ns=ns0)/\∃d,ds[k]?=some d/\Q (.dat d) ρ1
 | _=>False
theorem kh {c0 f:Str}{ns0:List Str}{i:Nat} (hc:Cls K (aY K c0)) (hn:cG K (aY K c0) f) (hk:cD f ns0=some i) (h:LA1 K ta pa):LE K (pA K ta f) (sX c0 ns0 i pa):=fun A ρ σ H Q Q' R q k=>h A ρ σ H _ _ R q fun v H1 a ρ1 q1 f1 R1 o1=>by
 split at q1
 .rename_i c ns ds e
  obtain ⟨⟨rfl,rfl⟩,d,hd,q1⟩:=q1
  obtain ⟨a,dx,fs,rfl,e1,m,f⟩:=(R1.cont o1 e).obj
  obtain ⟨v,hv,fv⟩:=f.getD hd
  exact ⟨a,_,dx,fs,v,rfl,e1,hc,hn,by rw [jd (k:=i) (by rw [m];exact hk)];exact hv,k v H1 _ ρ1 q1 f1 ⟨R1,fv⟩⟩
 .exact q1.elim
def oO (c0:Str) (ns0:List Str) (f:Str) (i:Nat) (pe:PTE):PTS:=fun D ρ=>pe ρ fun p ρ1=>match ρ1[i]? with
 | some (some (.ins c ns ds))=>(c=c0/\ns=ns0/\ns0.length < 1000)/\D.nx (ρ1.set i (some (.ins c0 (ns0++[f]) (ds++[p.d]))))
 | _=>False
theorem qz {fs':List Nat}{c0 f:Str}{ns0:List Str}{i:Nat} (hc:Cls K (aY K c0)) (hn:cG K (aY K c0) f) (hk:cD f ns0=none) (h:LE K ta pe):LS K fs' (ua K (gK i) ta f) (oO c0 ns0 f i pe):=fun fx A R H0 ρ σ H D D' hf r F q k1 k2 k3 k4=>h A ρ σ H _ _ r q fun v H1 p ρ1 q1 f1 o1=>by
 obtain ⟨R1,fv⟩:=o1.frz
 split at q1
 .rename_i c ns ds e
  obtain ⟨⟨rfl,rfl,hl⟩,q1⟩:=q1
  obtain ⟨w,s,a,dx,fs,rfl,g,m,ff⟩:=R1.get i _ e
  have hk':cD f (fs.map Prod.fst)=none:=by rw [m];exact hk
  have wa:OO A ρ1 σ a:=.inr ⟨i,_,e,rfl,s⟩
  have kw:∀o,aN (OO A ρ1 σ) H1 (OO A ρ1 σ) (upd H1 a o):=fun o b u n h=>⟨n,by rw [aB (fun z=>n (by rw [z];exact wa))];exact h⟩
  obtain ⟨R2,f2⟩:=R1.write (o:=.ins (aY K c) dx (gL f v fs)) (q:=.ins c (ns++[f]) (ds++[p.d])) e rfl rfl s ⟨a,dx,gL f v fs,rfl,aS,by rw [fY hk',List.map_append,m];rfl,by rw [fY hk',List.map_append];exact (ff.append (.cons fv .nil)).keeps (kw _)⟩
  refine ⟨_,s,a,_,dx,fs,rfl,g,hc,hn,?_,k1 _ _ _ q1 R2 ((F.fr f1).fr f2)⟩
  have:fs.length=ns.length:=by rw [<- m,List.length_map]
  omega
 .exact q1.elim
def sY (c0:Str) (c:FR) (pr:PTA):PTE:=fun ρ Q=>pr ρ fun as ρ1=>match avD as with
 | some ds=>c (.ins c0 [] []) ds fun r p'=>(match r,p' with
  | .dat .non,.ins c1 ns es=>c1=c0/\Q (.ins c1 ns es) ρ1
  | _,_=>False)
 | none=>False
theorem qA {c0:Str}{c:FR} (h:LAs K tr pr):LE K (lG (aY K c0) (spR K c) [] E0 tr) (sY c0 c pr):=fun A ρ σ H Q Q' R q k=>h A ρ σ H _ _ R q fun vs H1 as ρ1 q1 f1 R1 o1=>by
 split at q1
 .rename_i ds e
  intro x dx hx hdx hne
  rw [List.append_nil]
  let H2:=upd (upd H1 dx (.own x)) x (.ins (aY K c0) dx [])
  have g2:Gr H1 H2:=fun b o z=>by
   show upd (upd H1 dx (.own x)) x _ b=_
   rw [aB (aI z hx),aB (aI z hdx)];exact z
  have nx:¬ OO A ρ1 σ x:=R1.oo hx
  have keep2:aN (OO A ρ1 σ) H1 (cB (OO A ρ1 σ) x) H2:=fun b o n z=>by
   refine ⟨fun y=>?_,g2 b o z⟩
   rcases y with y | y
   .exact n y
   .rw [y,hx] at z;cases z
  refine ⟨OO A ρ1 σ,x,.ins c0 [] [],vs,ds,_,rfl,rfl,fun b z=>(g2.fr (ρ:=ρ1) (σ:=σ)).dm b (R1.dom2 b z),nx,⟨x,dx,[],rfl,aS,rfl,.nil⟩,(o1.avD e).keeps keep2,q1,fun r p' qr ow' v H' kp ha rs ov _=>?_⟩
  split at qr
  .obtain ⟨rfl,qr⟩:=qr
   cases ov
   refine ⟨rfl,?_⟩
   obtain ⟨a',dx',fs,ea,e2,m,f⟩:=rs
   cases ea
   have g:Gr H1 H':=fun b o z=>kp b o (aI z hx) (g2 b o z)
   have hx0:H x=none:=by
    cases eb:H x with
    | none=>rfl
    | some o=>exact absurd hx (f1.dm x (by rw [eb];exact nofun))
   refine k _ H' _ ρ1 qr (f1.trans g.fr) ⟨x,dx',fs,rfl,fun z=>nx (.inl z),hx0,e2,m,R1.grA g hx (by rw [e2];exact nofun),f.keeps (aN.less fun b z=>?_)⟩
   rcases z with (z | z) | z
   .exact .inl (.inl z)
   .exact .inr z
   .exact .inl (.inr z)
  .exact qr.elim
 .exact q1.elim
def eX (c0:Str) (ns0:List Str) (c:FN) (pe:PTE) (pr:PTA):PTE:=fun ρ Q=>pe ρ fun p ρ1=>match p.d with
 | .obj c1 ns ds=>(c1=c0/\ns=ns0)/\pr ρ1 fun as ρ2=>(match avD as with
  | some es=>c (.obj c1 ns ds::es) fun r=>Q r ρ2
  | none=>False)
 | _=>False
theorem cI {c0 m:Str}{ns0:List Str}{c:FN} (hm:cD m ns0=none) (he:LE K ta pe) (hr:LAs K tr pr):LE K (lF (aY K c0) m (spP K c) [] E0 ta tr) (eX c0 ns0 c pe pr):=fun A ρ σ H Q Q' R q k=>he A ρ σ H _ _ R q fun v H1 p ρ1 q1 f1 o1=>by
 obtain ⟨R1,fv⟩:=o1.frz
 split at q1
 .rename_i c1 ns ds e
  rw [e] at fv
  obtain ⟨⟨rfl,rfl⟩,q1⟩:=q1
  obtain ⟨a,dx,fs,rfl,e1,mm,f⟩:=FVc.obj (.inl fv)
  refine ⟨a,dx,fs,rfl,e1,gz (by rw [mm];exact hm),hr A ρ1 σ H1 _ _ R1 q1 fun vs H2 as ρ2 q2 f2 R2 o2=>?_⟩
  split at q2
  .rename_i es e3
   rw [List.append_nil]
   exact ⟨OO A ρ2 σ,_::es,_,R2.dom2,.cons (fv.keeps f2.keeps) (o2.avD e3),q2,fun r qr v H' g ov=>k v H' r ρ2 qr ((f1.trans f2).trans g.fr) ((ov.out R2 g).h0 fun b z=>f2.dm b (f1.dm b z))⟩
  .exact q2.elim
 .exact q1.elim
end
abbrev uH:R2:=rI0 fun i j=>.int (i - j)
abbrev sZ:R2:=rI (fun _ j=>0 < j) fun i j=>.int (i % j)
abbrev uI:R2:=rI t3 fun i j=>.int (i / j)
abbrev uJ:R2:=rI t4 fun i j=>.int (i ^ j.toNat)
abbrev vI:R2:=rI0 fun i j=>.bl (decide (j < i))
abbrev uK:V->Hp->VK->Prop:=rU fun i=>.int (-i)
abbrev tX:F2:=fI0 fun i j=>.int (i - j)
abbrev fh:F2:=fI (fun _ j=>0 < j) fun i j=>.int (i % j)
abbrev qW:F2:=fI (fun _ j=>0 < j/\j < 1073741824) fun i j=>.int (i / j)
abbrev vJ:F2:=fI (fun i j=>0<=j/\j<=1000000/\i.natAbs < 2 ^ 64) fun i j=>.int (i ^ j.toNat)
abbrev fGt:F2:=fI0 fun i j=>.bl (decide (j < i))
def ti:D->(PV->Prop)->Prop
 | .int i,Q=>Q (.dat (.int (-i)))
 | _,_=>False
section
variable {K:PySem.W.Frag}{X:Cx}{ta:TE}{tr:TA}{pr:PTA}{ts:TS}{ps:PTS}
theorem nX:OpR X (binaryOp .Sub) uH:=rE
theorem b3:OpR X (binaryOp .Mod) sZ:=rG
theorem hJ:OpR X (binaryOp .FloorDiv) uI:=o9
theorem uL:OpR X (binaryOp .Pow) uJ:=rH
theorem uM:OpR X (compareOp .Gt) vI:=t9
theorem mD:LU K uK ti:=by
 intro O H x a Q Q' dom fx q k
 unfold ti at q
 split at q
 .rename_i i;exact ⟨i,fx.int,k _ H _ q (Gr.refl _) (.int _)⟩
 .exact q.elim
theorem vr {ix:List (Option Nat)}{fs:List Nat}{i:Nat} (h:∀k∈fs,k∈qU ix) (hi:(qU ix).contains i=false):fs.contains i=false:=by
 cases e:fs.contains i with
 | false=>rfl
 | true =>
  have:=h i (List.contains_iff_mem.mp e)
  rw [List.contains_iff_mem.mpr this] at hi;cases hi
theorem ng {c:FN}{n:Nat} (hn:∀ds Q,c ds Q->ds.length=n) {vs:List V}{H:Hp}{Q:VK}{E:XK} (h:spP K c vs H Q E):vs.length=n:=by
 obtain ⟨O,ds,Qc,_,f,hq,_⟩:=h
 rw [f.length];exact hn ds Qc hq
theorem qX {c:FR}{n:Nat} (hn:∀p ds Q,c p ds Q->ds.length + 1=n) {vs:List V}{H:Hp}{Q:VK}{E:XK} (h:spR K c vs H Q E):vs.length=n:=by
 obtain ⟨A,a,p,ws,ds,Qc,rfl,_,_,_,_,f,hq,_⟩:=h
 rw [List.length_cons,f.length];exact hn p ds Qc hq
abbrev hU (pp:PTS) (n:Nat) (ds:List D) (Q:PV->Prop):Prop:=pp { nx:=fun _=>Q (.dat .non),rt:=fun p _=>Q p } (cq n (ds.map .dat))
abbrev lc (pp:PTS) (n:Nat) (p:PV) (ds:List D) (Q:PV->PV->Prop):Prop:=pp { nx:=qV Q (.dat .non),rt:=qV Q } (cq n (p::ds.map .dat))
end
end L2
namespace L2
theorem Cal.imp {P:PySem.Program}{w:PySem.World}{K:PySem.W.Frag}{mg:PySem.Str->Option PySem.Value}{base:PySem.Heap}{k:Nat}{x:PySem.Str}{ps:List PySem.Str}{sp sp':Sp} (C:Cal P w K mg base k x ps sp) (h:∀vs H Q E,sp' vs H Q E->sp vs H Q E):Cal P w K mg base k x ps sp':=by
 obtain ⟨f,fd,F,r⟩:=C.ex
 exact ⟨f,fd,F.imp h,r⟩
end L2
namespace L2
open PySem PySem.Spec PyProof.Rows
theorem cfm {ix:List (Option Nat)}{ρ1:PSt}{n:Nat}{it:Nat->D}{g:PTG}{pt:PTT}{pe:PTE}{Q:PKt} (T:PSt->Prop) (f:Nat->Option D) (h0:T (b8 ix ρ1))
  (hs:∀k τ d,k < n->d=it k->T τ->∀(K1:D->PSt->Prop) (K2:PSt->Prop),(∀d τ',f k=some d->T τ'->K1 d τ')->(∀τ',f k=none->T τ'->K2 τ')->g (.dat d) τ fun τ2=>pt τ2 fun ok τ3=>gp ok (pe τ3 fun p τ4=>K1 p.d τ4) (K2 τ3))
  (hq:∀τ,T τ->Q (.own ((List.range n).filterMap f)) (dP ix ρ1 τ)) :
  jK ix ρ1 n it g pt pe Q:=by
 refine ⟨fun k ys τ=>ys=(List.range k).filterMap f/\T τ,⟨rfl,h0⟩,fun k ys τ dd hk ed ⟨e,t⟩=>?_,fun ys τ ⟨e,t⟩=>by rw [e];exact hq τ t⟩
 have r:(List.range (k + 1)).filterMap f=(List.range k).filterMap f++(f k).toList:=by
  rw [List.range_succ,List.filterMap_append]
  cases e:f k with
  | none=>rw [show [k].filterMap f=[] by simp [e]];rfl
  | some d=>rw [show [k].filterMap f=[d] by simp [e]];rfl
 refine hs k τ dd hk ed t (fun d τ'=>(ys++[d]=(List.range (k + 1)).filterMap f/\T τ')) (fun τ'=>(ys=(List.range (k + 1)).filterMap f/\T τ')) (fun d τ' h t'=>⟨?_,t'⟩) (fun τ' h t'=>⟨?_,t'⟩)
 .rw [r,e,h];rfl
 .rw [r,e,h];simp
theorem vK {ix:List (Option Nat)}{ρ1:PSt}{n:Nat}{it:Nat->D}{g:PTG}{pe:PTE}{Q:PKt} (T:PSt->Prop) (f:Nat->D) (h0:T (b8 ix ρ1))
  (hs:∀k τ d,k < n->d=it k->T τ->∀K1:D->PSt->Prop,(∀τ',T τ'->K1 (f k) τ')->g (.dat d) τ fun τ2=>pe τ2 fun p τ4=>K1 p.d τ4)
  (hq:∀τ,T τ->Q (.own ((List.range n).map f)) (dP ix ρ1 τ)) :
  jK ix ρ1 n it g qu pe Q:=by
 refine cfm T (fun k=>some (f k)) h0 (fun k τ d hk ed t K1 K2 k1 k2=>?_) fun τ t=>?_
 .exact hs k τ d hk ed t K1 fun τ' t'=>k1 _ τ' rfl t'
 .have:(List.range n).filterMap (fun k=>some (f k))=(List.range n).map f:=by rw [<- List.filterMap_eq_map];rfl
  rw [this];exact hq τ t
def pw (ws:List (List Nat)) (k:Nat):List Nat:=ws.getD k []
theorem je {ws:List (List Nat)}{k:Nat} (h:k < ws.length):ws[k]?=some (pw ws k):=by unfold pw;rw [List.getD_eq_getElem?_getD,List.getElem?_eq_getElem h];rfl
theorem c5 {ws:List (List Nat)}{k:Nat} (h:k < ws.length):pw ws k∈ws:=List.mem_of_getElem? (je h)
theorem jM {ws:List (List Nat)}{k:Nat} (h:k < (ws.map D.str).length):itD (ws.map D.str) k=.str (pw ws k):=jb (by rw [List.getElem?_map,je (by rwa [List.length_map] at h)];rfl)
theorem mE {ns:List Int}{k:Nat} (h:k < (ns.map D.int).length):itD (ns.map D.int) k=.int (ns.getD k 0):=jb (by
 have h:k < ns.length:=by rwa [List.length_map] at h
 rw [List.getElem?_map,List.getD_eq_getElem?_getD,List.getElem?_eq_getElem h];rfl)
theorem iy {ws:List (List Nat)}{i:Int}{k:Nat} (h:k < ws.length) (e:i=(k:Int)):atI (ws.map D.str) i=some (.str (pw ws k)):=lZ (j:=k) (by rw [List.getElem?_map,je h];rfl) e
theorem jN:∀ws:List (List Nat),D.pys (ws.map .str)=ws.map fun w=>PyData.str (S w)
 | []=>rfl
 | w::r=>by rw [List.map_cons,List.map_cons,<- jN r];rfl
theorem hV:∀ws:List (List Nat),D.plains (ws.map .str)=true
 | []=>rfl
 | w::r=>by rw [List.map_cons];show (true && D.plains (r.map .str))=true;rw [hV r];rfl
theorem mF:∀ns:List Int,D.pys (ns.map .int)=ns.map PyData.int
 | []=>rfl
 | n::r=>by rw [List.map_cons,List.map_cons,<- mF r];rfl
theorem hX:∀ns:List Int,D.plains (ns.map .int)=true
 | []=>rfl
 | n::r=>by rw [List.map_cons];show (true && D.plains (r.map .int))=true;rw [hX r];rfl
def Sh (d:D):Prop:=d.plain=true/\SeqAt.shaped d.py=true
theorem oJ.of {a b:D} (h:Sh a) (h':Sh b):oJ a b:=⟨h.1,h'.1,h.2,h'.2⟩
theorem Sh.lstS {ws:List (List Nat)} (h:∀w∈ws,Lts w):Sh (.lst (ws.map .str)):=⟨hV ws,by show SeqAt.shaped (.list (D.pys _))=true;rw [jN];exact i8 h⟩
theorem Sh.lstI (ns:List Int):Sh (.lst (ns.map .int)):=⟨hX ns,by show SeqAt.shaped (.list (D.pys _))=true;rw [mF];exact (jx.list (mi ns)).shaped (by decide)⟩
theorem nY {d:D} (h:Sh d):deq d d=true:=nM h.2
section
variable {X:Cx}{K:PySem.W.Frag}
def mG (neg:Bool):R2:=fun x y H Q=>∃a b,x=.ref a/\y=.ref b/\H a=some (.dK [])/\H b=some (.dK [])/\Q (.bl (!neg)) H
theorem nZ (hu:X.A.units + 64 < cLine):OpR X (compareOp .Eq) (mG false):=by
 intro pins s σ H x y v u Q I rx ry ⟨a,b,e1,e2,h1,h2,q⟩
 subst e1 e2
 cases rx
 cases ry
 obtain ⟨_,y1,vs,r1,p1⟩:=(show bJ X.prog X.w H s.heap a (.dK []) from I.hok a _ h1)
 obtain ⟨_,y2,ws,r2,p2⟩:=(show bJ X.prog X.w H s.heap b (.dK []) from I.hok b _ h2)
 cases r1
 cases r2
 exact PySem.W.keq_eq (r:=true) y1 y2 p1 p2 (by omega) (fun _=>.nil) ⟨.bl true,H,I,rfl,q⟩
theorem n4 (hu:X.A.units + 64 < cLine):OpR X (compareOp .NotEq) (mG true):=by
 intro pins s σ H x y v u Q I rx ry ⟨a,b,e1,e2,h1,h2,q⟩
 subst e1 e2
 cases rx
 cases ry
 obtain ⟨_,y1,vs,r1,p1⟩:=(show bJ X.prog X.w H s.heap a (.dK []) from I.hok a _ h1)
 obtain ⟨_,y2,ws,r2,p2⟩:=(show bJ X.prog X.w H s.heap b (.dK []) from I.hok b _ h2)
 cases r1
 cases r2
 exact PySem.W.keq_ne (r:=true) y1 y2 p1 p2 (by omega) (fun _=>.nil) ⟨.bl false,H,I,rfl,q⟩
def n5 (K:PySem.W.Frag) (neg:Bool):R2:=fun x y H Q=>sK K neg x y H Q\/mG neg x y H Q
theorem gN (K:PySem.W.Frag) (e:X.K=K) (hu:X.A.units + 64 < cLine):OpR X (compareOp .Eq) (n5 K false):=OpR.or (vF K e hu) (nZ hu)
theorem iz (K:PySem.W.Frag) (e:X.K=K) (hu:X.A.units + 64 < cLine):OpR X (compareOp .NotEq) (n5 K true):=OpR.or (vG K e hu) (n4 hu)
def lf:F2
 | .dic [] [],.dic [] [],Q=>Q (.dat (.bl true))
 | a,b,Q=>fEq a b Q
def mH:F2
 | .dic [] [],.dic [] [],Q=>Q (.dat (.bl false))
 | a,b,Q=>fNe a b Q
theorem FVc.dic0 {O:Addr->Prop}{H:Hp}{v:V} (h:FVc K O H v (.dic [] [])):∃a,v=.ref a/\H a=some (.dK []):=by
 cases h.fv nofun nofun with
 | dic n e m f =>
  rename_i a kvs
  cases kvs with
  | nil=>exact ⟨a,rfl,e⟩
  | cons x r=>cases m
theorem ef:LO K (n5 K false) lf:=by
 intro O H x y a b Q Q' dom fx fy q k
 unfold lf at q
 split at q
 .obtain ⟨a,rfl,e1⟩:=fx.dic0
  obtain ⟨b,rfl,e2⟩:=fy.dic0
  exact .inr ⟨a,b,rfl,rfl,e1,e2,k _ H _ q (Gr.refl _) (.bl _)⟩
 .exact .inl (ux O H x y _ _ Q Q' dom fx fy q k)
theorem eY:LO K (n5 K true) mH:=by
 intro O H x y a b Q Q' dom fx fy q k
 unfold mH at q
 split at q
 .obtain ⟨a,rfl,e1⟩:=fx.dic0
  obtain ⟨b,rfl,e2⟩:=fy.dic0
  exact .inr ⟨a,b,rfl,rfl,e1,e2,k _ H _ q (Gr.refl _) (.bl _)⟩
 .exact .inl (uy O H x y _ _ Q Q' dom fx fy q k)
end
section
variable {K:PySem.W.Frag}{te:TE}{pe:PTE}{tr:TA}{pr:PTA}
def mI (c:FR) (pe:PTE) (pr:PTA):PTE:=fun ρ Q=>pe ρ fun p ρ1=>match p with
 | .own es=>pr ρ1 fun as ρ2=>(match avD as with
  | some ds=>c (.own es) ds fun r _=>Q (.dat r.d) ρ2
  | none=>False)
 | _=>False
theorem mJ {c:FR} (h1:LE K te pe) (h2:LAs K tr pr):LE K (kK (spR K c) [] E0 (dJ te tr)) (mI c pe pr):=fun A ρ σ H Q Q' R q k=>h1 A ρ σ H _ _ R q fun v H1 p ρ1 q1 f1 o1=>by
 cases p with
 | dat d=>exact q1.elim
 | ins c ns ds=>exact q1.elim
 | own es =>
  obtain ⟨a,xs,rfl,na,n0,e,R1,fv⟩:=o1
  refine h2 (cB A a) ρ1 σ H1 _ _ R1 q1 fun vs H2 as ρ2 q2 f2 R2 o2=>?_
  split at q2
  .rename_i ds ed
   have e2:H2 a=some (.lst xs):=f2.kp a _ (R1.sep a (.inr rfl)) e
   have fv2:=fv.keeps (f2.keeps (A:=cB A a))
   have nw:¬ Wr ρ2 σ a:=R2.sep a (.inr rfl)
   have oeq:cB (OO A ρ2 σ) a=OO (cB A a) ρ2 σ:=funext fun b=>propext ⟨fun z=>by
    rcases z with (z | z) | z
    .exact .inl (.inl z)
    .exact .inr z
    .exact .inl (.inr z),fun z=>by
    rcases z with (z | z) | z
    .exact .inl (.inl z)
    .exact .inr z
    .exact .inl (.inr z)⟩
   rw [List.append_nil]
   refine ⟨OO A ρ2 σ,a,.own es,vs,ds,_,rfl,rfl,fun b z=>R2.dom2 b (z.imp .inl id),fun z=>z.elim na nw,by rw [oeq];exact ⟨a,xs,rfl,e2,fv2⟩,by rw [oeq];exact o2.avD ed,q2,fun r p' qr ow' v H' kp ha rs' ov hx=>?_⟩
   rw [oeq] at ov
   have fvr:FV K (OO (cB A a) ρ2 σ) H' v r.d:=by
    cases r with
    | dat d=>exact ov
    | own es =>
     obtain ⟨w,ys,rfl,ew0,ew,f⟩:=ov
     exact .lst (fun z=>R2.dom2 w z ew0) ew (f.keeps (aN.less fun b z=>.inl z))
    | ins c ns es =>
     obtain ⟨w,dx,fs,rfl,ew0,ew,m,f⟩:=ov
     exact .obj (fun z=>R2.dom2 w z ew0) ew m (f.keeps (aN.less fun b z=>.inl z))
   have kk:aN (OO (cB A a) ρ2 σ) H2 (OO A ρ2 σ) H':=fun b o n hb=>⟨fun z=>n (z.imp .inl id),kp b o (fun z=>n (.inl (.inr z))) hb⟩
   have kl:aN (OO (cB A a) ρ2 σ) H' (OO A ρ2 σ) H':=aN.less fun b z=>z.imp .inl id
   have ne:∀b,Wr ρ2 σ b->b≠a:=fun b z e=>nw (by rw [<- e];exact z)
   have R3:Rel K A ρ2 σ H':=by
    refine ⟨R2.len,fun i p e=>?_,R2.dj,fun b z=>?_,fun b z=>R2.sep b (.inl z)⟩
    .obtain ⟨v,s,rs⟩:=R2.get i p e
     refine ⟨v,s,?_⟩
     cases p with
     | dat d=>exact FV.keeps kk rs
     | own es =>
      obtain ⟨w,ys,rfl,ew,f⟩:=rs
      exact ⟨w,ys,rfl,kp w _ (ne w ⟨i,_,e,rfl,s⟩) ew,f.keeps kk⟩
     | ins c ns es =>
      obtain ⟨w,dx,fs,rfl,ew,m,f⟩:=rs
      exact ⟨w,dx,fs,rfl,kp w _ (ne w ⟨i,_,e,rfl,s⟩) ew,m,f.keeps kk⟩
    .cases eb:H2 b with
     | none=>exact absurd eb (R2.dom b (.inl z))
     | some o=>rw [kp b o (fun y=>na (by rw [<- y];exact z)) eb];exact nofun
   have f12:=f1.trans f2
   refine k v H' (.dat r.d) ρ2 qr ⟨fun b o n hb=>?_,fun b hb=>?_,f12.ow⟩ ⟨R3,FV.keeps kl fvr⟩
   .exact kp b o (aI hb n0) (f12.kp b o n hb)
   .cases eb:H2 b with
    | none=>exact absurd eb (f12.dm b hb)
    | some o=>rw [kp b o (fun y=>hb (by rw [y];exact n0)) eb];exact nofun
  .exact q2.elim
end
def qB (d:D) (xs:List D):Prop:=d=.lst xs\/d=.tup xs
theorem qB.lst (xs:List D):qB (.lst xs) xs:=.inl rfl
theorem qB.tup (xs:List D):qB (.tup xs) xs:=.inr rfl
def nSt:Expr->Bool
 | .Starred _ _=>false
 | _=>true
theorem ft {e:Expr}{es:List Expr}{env:Env} (h:nSt e=true):starEach (e::es) env=(false,eval e env)::starEach es env:=by
 cases e <;> first | rfl | cases h
theorem eZ {env:Env}{pos:Pos}:∀{es:List Expr},es.all nSt=true->(backTo pos (starEach es env)).any (·.1)=false
 | [],_=>rfl
 | e::es,h=>by
  rw [List.all_cons,Bool.and_eq_true] at h
  rw [ft h.1]
  show (false || (backTo pos (starEach es env)).any (·.1))=false
  rw [eZ h.2];rfl
section
variable {X:Cx}{k:Nat}{x:Str}{ps:List Str}{sp:Sp}{e:Expr}{es:List Expr}{te:TE}{t:TA}{p pos:Pos}{dvs:List V}{C:Addr}{id T:String}{r:List V->Hp->VK->Prop}
theorem paC (ha:PE X e te) (hr:PA X es t) (hn:nSt e=true:=by rfl):PA X (e::es) (dJ te t):=pD ha hr (ft hn)
theorem aR (C:Cal X.prog X.w X.K X.mg X.base k x ps sp) (hr:dX k X.A) (ha:PA X (e::es) t) (hg:Gl X x:=by rfl) (hdb:(x == ("__debug__":Str))=false:=by decide) (hn:nSt e=true:=by rfl) (hp:es.all nSt=true:=by rfl) :
  PE X (.Call (.Name x p) (e::es) [] pos) (kK sp [] E0 t):=sj C hr ha hg hdb (ft hn) (eZ hp)
theorem ki (M:sB X.prog X.w X.K X.mg X.base k C x ps sp) (hr:dX (k + 1) X.A) (ha:PA X (e::es) t) (hg:Gl X x:=by rfl) (hdb:(x == ("__debug__":Str))=false:=by decide) (hn:nSt e=true:=by rfl) (hp:es.all nSt=true:=by rfl) :
  PE X (.Call (.Name x p) (e::es) [] pos) (lG C sp [] E0 t):=qc M hr ha hg hdb (ft hn) (eZ hp)
theorem ay (hc:ci X (.builtin id) r) (hg:Gl X x) (hm:X.mg x=none) (hv:bootBuiltins x=some (.builtin id)) (ha:PA X (e::es) t) (hnn:x≠"__name__":=by decide) (hdb:(x == ("__debug__":Str))=false:=by decide) (hn:nSt e=true:=by rfl) (hp:es.all nSt=true:=by rfl) :
  PE X (.Call (.Name x p) (e::es) [] pos) (tCB r t):=nA hc hg hm hv ha hnn hdb (ft hn) (eZ hp)
theorem dZ (hc:ci X (.type T) r) (hg:Gl X x) (hm:X.mg x=none) (hv:bootBuiltins x=some (.type T)) (ha:PA X (e::es) t) (hnn:x≠"__name__":=by decide) (hdb:(x == ("__debug__":Str))=false:=by decide) (hn:nSt e=true:=by rfl) (hp:es.all nSt=true:=by rfl) :
  PE X (.Call (.Name x p) (e::es) [] pos) (tCB r t):=lJ hc hg hm hv ha hnn hdb (ft hn) (eZ hp)
end
def plT:Expr->Bool
 | .Call _ _ _ _=>true
 | .Name _ _=>true
 | .Subscript _ _ _=>true
 | .Attribute _ _ _=>true
 | _=>false
theorem qC {e:Expr}{env:Env} (h:plT e=true):∀whole,isTrue e env whole=(do let v <- whole;standAt e.pos;holding [v] (truthy v)):=by
 cases e <;> first | (intro _;rfl) | cases h
theorem gA {X:Cx}{e:Expr}{t:TE} (h:PE X e t) (hp:plT e=true:=by rfl):PT X e (tB t):=rm h (qC hp)
def qY (a b:List Nat):Bool:=decide (0<=fnd b a 0)
theorem iA (w:List Nat):∀ws:List (List Nat),inD (.str w) (ws.map .str)=decide (w∈ws)
 | []=>by simp [inD]
 | v::r=>by
  have ih:=iA w r
  unfold inD at ih ⊢
  rw [List.map_cons,List.any_cons,ih]
  show ((v == w) || decide (w∈r))=_
  by_cases h:v=w
  .subst h;simp
  .rw [beq_eq_false_iff_ne.mpr h,Bool.false_or]
   by_cases h2:w∈r
   .rw [decide_eq_true h2,decide_eq_true (List.mem_cons_of_mem _ h2)]
   .rw [decide_eq_false h2,decide_eq_false (fun z=>(List.mem_cons.mp z).elim (fun e=>h e.symm) h2)]
theorem mK (ws:List (List Nat)):(ws.map D.str).all D.fl=true:=by rw [List.all_map];exact List.all_eq_true.mpr fun _ _=>rfl
open PySem.Builtin PySem.Builtin.ObjectAttr
open PySem.Builtin PySem.Builtin.ObjectAttr
open PySem.Builtin PySem.Builtin.ObjectAttr
open PySem.Builtin PySem.Builtin.ObjectAttr
theorem mL (d:D):(PV.dat d).d=d:=rfl
theorem mM (ds:List D):(PV.own ds).d=.lst ds:=rfl
theorem mN (c:Str) (ns:List Str) (ds:List D):(PV.ins c ns ds).d=.obj c ns ds:=rfl
theorem tj (ds:List D):mkL false ds=.own ds:=rfl
theorem tm (ds:List D):mkL true ds=.dat (.tup ds):=rfl
def pkm (ρ:PSt) (j:Nat):Option PV:=match ρ[j]? with
 | some v=>v
 | none=>none
theorem kj (v:Option PV) (r:PSt):pkm (v::r) 0=v:=rfl
theorem km (v:Option PV) (r:PSt) (n:Nat):pkm (v::r) (n + 1)=pkm r n:=rfl
theorem jf (ρ:PSt):b8 [] ρ=[]:=rfl
theorem hZ (ix:List (Option Nat)) (ρ:PSt):b8 (none::ix) ρ=none::b8 ix ρ:=rfl
theorem h8 (j:Nat) (ix:List (Option Nat)) (ρ:PSt):b8 (some j::ix) ρ=pkm ρ j::b8 ix ρ:=rfl
theorem jg (j:Nat) (ix:List (Option Nat)) (ρ:PSt) (t:Option PV) (τ:PSt):dP (some j::ix) ρ (t::τ)=dP ix (ρ.set j t) τ:=rfl
theorem jh (ix:List (Option Nat)) (ρ:PSt) (t:Option PV) (τ:PSt):dP (none::ix) ρ (t::τ)=dP ix ρ τ:=rfl
theorem kn (ρ τ:PSt):dP [] ρ τ=ρ:=rfl
theorem qD {α:Type}{e:α->D}{xs:List α}{k:Nat} (h:k < xs.length):itD (xs.map e) k=e xs[k]:=jb (by rw [List.getElem?_map,List.getElem?_eq_getElem h];rfl)
theorem mO {α β:Type} (f:α->β) (xs:List α) (g:Nat->β) (h:∀k (hk:k < xs.length),g k=f xs[k]):(List.range xs.length).map g=xs.map f:=by
 apply List.ext_getElem?
 intro i
 rw [List.getElem?_map,List.getElem?_map]
 by_cases hi:i < xs.length
 .rw [List.getElem?_range hi,List.getElem?_eq_getElem hi]
  exact congrArg some (h i hi)
 .rw [List.getElem?_eq_none (by rw [List.length_range];omega),List.getElem?_eq_none (by omega)];rfl
section
variable {α:Type}{e:α->D}{xs:List α}{ix:List (Option Nat)}{ρ1:PSt}{g:PTG}{pt:PTT}{pe:PTE}{Q:PKt}
theorem vL (T:PSt->Prop) (f:α->Option D) (h0:T (b8 ix ρ1))
  (hs:∀x∈xs,∀τ,T τ->∀(K1:D->PSt->Prop) (K2:PSt->Prop),(∀d τ',f x=some d->T τ'->K1 d τ')->(∀τ',f x=none->T τ'->K2 τ')->g (.dat (e x)) τ fun τ2=>pt τ2 fun ok τ3=>gp ok (pe τ3 fun p τ4=>K1 p.d τ4) (K2 τ3))
  (hq:∀τ,T τ->Q (.own (xs.filterMap f)) (dP ix ρ1 τ)):jK ix ρ1 (xs.map e).length (itD (xs.map e)) g pt pe Q:=by
 refine cfm T (fun k=>(xs[k]?).bind f) h0 (fun k τ d hk ed t K1 K2 k1 k2=>?_) fun τ t=>?_
 .rw [List.length_map] at hk
  rw [qD hk] at ed
  subst ed
  have eg:(xs[k]?).bind f=f xs[k]:=by rw [List.getElem?_eq_getElem hk];rfl
  rw [eg] at k1 k2
  exact hs _ (List.getElem_mem hk) τ t K1 K2 k1 k2
 .have e1:(List.range (xs.map e).length).filterMap (fun k=>(xs[k]?).bind f)=xs.filterMap f:=by
   rw [List.length_map]
   have h1:(List.range xs.length).map (fun k=>(xs[k]?).bind f)=xs.map f:=mO f xs _ fun k hk=>by rw [List.getElem?_eq_getElem hk];rfl
   have h2:∀l:List Nat,l.filterMap (fun k=>(xs[k]?).bind f)=(l.map fun k=>(xs[k]?).bind f).filterMap id:=fun l=>by rw [List.filterMap_map];rfl
   rw [h2,h1,List.filterMap_map];rfl
  rw [e1];exact hq τ t
theorem uN (T:PSt->Prop) (f:α->D) (h0:T (b8 ix ρ1))
  (hs:∀x∈xs,∀τ,T τ->∀K1:D->PSt->Prop,(∀τ',T τ'->K1 (f x) τ')->g (.dat (e x)) τ fun τ2=>pe τ2 fun p τ4=>K1 p.d τ4)
  (hq:∀τ,T τ->Q (.own (xs.map f)) (dP ix ρ1 τ)):jK ix ρ1 (xs.map e).length (itD (xs.map e)) g qu pe Q:=by
 refine vL T (fun x=>some (f x)) h0 (fun x hx τ t K1 K2 k1 k2=>?_) fun τ t=>?_
 .exact hs x hx τ t K1 fun τ' t'=>k1 _ τ' rfl t'
 .rw [show xs.filterMap (fun x=>some (f x))=xs.map f by rw [<- List.filterMap_eq_map];rfl];exact hq τ t
theorem cm1 (f:α->D)
  (hs:∀x∈xs,∀(v:Option PV) (K1:D->PSt->Prop),(∀v',K1 (f x) (v'::(b8 ix ρ1).tail))->g (.dat (e x)) (v::(b8 ix ρ1).tail) fun τ2=>pe τ2 fun p τ4=>K1 p.d τ4)
  (hq:∀v:Option PV,Q (.own (xs.map f)) (dP ix ρ1 (v::(b8 ix ρ1).tail))) (hx:b8 ix ρ1=none::(b8 ix ρ1).tail:=by rfl):jK ix ρ1 (xs.map e).length (itD (xs.map e)) g qu pe Q:=by
 refine uN (fun τ=>∃v,τ=v::(b8 ix ρ1).tail) f ⟨none,hx⟩ ?_ ?_
 .rintro x hx τ ⟨v,rfl⟩ K1 k1
  exact hs x hx v K1 fun v'=>k1 _ ⟨v',rfl⟩
 .rintro τ ⟨v,rfl⟩
  exact hq v
end
theorem cmR {ix:List (Option Nat)}{ρ1:PSt}{g:PTG}{pe:PTE}{Q:PKt}{n:Nat}{it:Nat->D} (f:Nat->D)
  (hs:∀k,k < n->∀(v:Option PV) (K1:D->PSt->Prop),(∀v',K1 (f k) (v'::(b8 ix ρ1).tail))->g (.dat (it k)) (v::(b8 ix ρ1).tail) fun τ2=>pe τ2 fun p τ4=>K1 p.d τ4)
  (hq:∀v:Option PV,Q (.own ((List.range n).map f)) (dP ix ρ1 (v::(b8 ix ρ1).tail))) (hx:b8 ix ρ1=none::(b8 ix ρ1).tail:=by rfl):jK ix ρ1 n it g qu pe Q:=by
 refine vK (fun τ=>∃v,τ=v::(b8 ix ρ1).tail) f ⟨none,hx⟩ ?_ ?_
 .rintro k τ d hk rfl ⟨v,rfl⟩ K1 k1
  exact hs k hk v K1 fun v'=>k1 _ ⟨v',rfl⟩
 .rintro τ ⟨v,rfl⟩
  exact hq v
theorem mP (a b:List Nat):(!(Builtin.Str.occurrences (S b) (S a) 0 (S b).length 1).isEmpty)=qY a b:=by
 have e:=pZ b a 0
 unfold qY
 rw [<- e]
 cases Builtin.Str.occurrences (S b) (S a) 0 (S b).length 1 with
 | nil=>rfl
 | cons k r=>exact (decide_eq_true (by omega:(0:Int)<=(k:Int))).symm
section
variable {X:Cx}{K:PySem.W.Frag}
def uO (neg:Bool):R2:=fun x y H Q=>∃a b,x=.str (S a)/\y=.str (S b)/\Q (.bl (if neg then !qY a b else qY a b)) H
theorem tq:OpR X (compareOp .In) (uO false):=by
 intro pins s σ H x y v u Q I rx ry h
 obtain ⟨a,b,rfl,rfl,q⟩:=h
 obtain ⟨t,rfl⟩:=rx
 obtain ⟨t',rfl⟩:=ry
 exact P.in_str ⟨.bl _,H,I,rfl,by rw [mP];exact q⟩
theorem mQ:OpR X (compareOp .NotIn) (uO true):=by
 intro pins s σ H x y v u Q I rx ry h
 obtain ⟨a,b,rfl,rfl,q⟩:=h
 obtain ⟨t,rfl⟩:=rx
 obtain ⟨t',rfl⟩:=ry
 exact P.notIn_str ⟨.bl _,H,I,rfl,by rw [mP];exact q⟩
def uP (K:PySem.W.Frag) (neg:Bool):R2:=fun x y H Q=>rIn K neg x y H Q\/uO neg x y H Q
theorem uQ (K:PySem.W.Frag) (e:X.K=K):OpR X (compareOp .In) (uP K false):=OpR.or (vH K e) tq
theorem ko (K:PySem.W.Frag) (e:X.K=K):OpR X (compareOp .NotIn) (uP K true):=OpR.or (qk K e) mQ
def tu (neg:Bool):F2
 | .str a,.str b,Q=>Q (.dat (.bl (if neg then !qY a b else qY a b)))
 | a,.lst ds,Q=>(a.fl=true/\ds.all D.fl=true)/\Q (.dat (.bl (if neg then !inD a ds else inD a ds)))
 | a,.tup ds,Q=>(a.fl=true/\ds.all D.fl=true)/\Q (.dat (.bl (if neg then !inD a ds else inD a ds)))
 | _,_,_=>False
theorem mR {neg:Bool}:LO K (uP K neg) (tu neg):=by
 intro O H x y a b Q Q' dom fx fy q k
 unfold tu at q
 split at q
 .obtain ⟨rfl,_⟩:=fx.str
  obtain ⟨rfl,_⟩:=fy.str
  exact .inr ⟨_,_,rfl,rfl,k _ H _ q (Gr.refl _) (.bl _)⟩
 .exact .inl (sM O H x y _ _ Q Q' dom fx fy q k)
 .exact .inl (sM O H x y _ _ Q Q' dom fx fy q k)
 .exact q.elim
end
section
variable {X:Cx}{K:PySem.W.Frag}
def oP (K:PySem.W.Frag):R2:=fun x y H Q=>∃a b ys,x=.ref a/\y=.ref b/\SqT K H a []/\SqT K H b ys/\Q (.ref b) H
theorem n6:OpR X (binaryOp .Add) (oP X.K):=by
 intro pins s σ H x y v u Q I rx ry h
 obtain ⟨a,b,ys,rfl,rfl,ha,hb,q⟩:=h
 cases rx
 cases ry
 obtain ⟨its,r1,p1,_⟩:=I.tuple ha
 obtain ⟨its2,r2,p2,_⟩:=I.tuple hb
 have e0:its=[]:=r1.nil_iff.mpr rfl
 subst e0
 obtain ⟨⟨cls,dd,data,sl⟩,ho,hc,n,hd⟩:=id p1
 obtain ⟨⟨cls2,dd2,data2,sl2⟩,ho2,hc2,n2,hd2⟩:=id p2
 simp only at hc hd hc2 hd2
 subst hc hd hc2 hd2
 exact concat_meets ⟨_,ho,rfl⟩ ⟨_,ho2,rfl⟩ noFill_tuple_add seq_tuple_add PySem.F.slot_tuple_add PySem.F.entry_tuple_add (PySem.F.args_tuple_add_2 _ _) (tuple_addW0 a b _ _ n n2 dd dd2 sl sl2 rfl) ⟨ho,ho2,.ref b,H,I,rfl,q⟩
def n8 (K:PySem.W.Frag):R2:=fun x y H Q=>qg K x y H Q\/oP K x y H Q
theorem bD (K:PySem.W.Frag) (e:X.K=K):OpR X (binaryOp .Add) (n8 K):=OpR.or (ut K e) (by subst e;exact n6)
def cA:F2
 | .tup a,.tup b,Q=>a.length + b.length<=1000000/\Q (.dat (.tup (a++b)))
 | a,b,Q=>uu a b Q
theorem bb:LO K (n8 K) cA:=by
 intro O H x y a b Q Q' dom fx fy q k
 unfold cA at q
 split at q
 .rename_i Q ds es
  cases ds with
  | cons d ds=>exact .inl (oI O H x y _ _ _ Q' dom fx fy ⟨nofun,q⟩ k)
  | nil =>
   obtain ⟨p1,xs1,rfl,n1,e1,f1⟩:=fx.tup
   obtain ⟨p2,xs2,rfl,n2,e2,f2⟩:=fy.tup
   cases f1
   exact .inr ⟨p1,p2,xs2,rfl,rfl,SqT.of e1,SqT.of e2,k _ H _ q.2 (Gr.refl _) (.tup n2 e2 f2)⟩
 .exact .inl (oI O H x y _ _ _ Q' dom fx fy q k)
end
section
variable {X:Cx}
def vt:Expr->Bool
 | .ListComp .. | .SetComp .. | .DictComp ..=>false
 | _=>true
theorem mS {o i e:Expr}{p:Pos}{l:Nat}{env:Env} (h:vt e=true):swapsWithSole [.Subscript o i p] e l env=pure false:=by
 show swapsWith e (some (.Subscript o i p)) l env=pure false
 cases e <;> first | rfl | cases h
theorem jO {o i e:Expr}{p:Pos}{env:Env}:swappedStores [.Subscript o i p] e env=pure none:=rfl
theorem uR {o i e:Expr}{p:Pos}{te:TE}{g:TG}{pos:Pos} (he:PE X e te) (hg:PG X (.Subscript o i p) g) (hn:vt e=true:=by rfl):PS X (.Assign [.Subscript o i p] e pos) (tQ te g) :=
 rA he hg (mS hn) jO rfl
end
def kq (K:PySem.W.Frag) (x:Str) (st:Stmt):Prop:=∃(f:Addr) (oc kV dc pm cd ct:Value) (od an:Option Addr) (sl:Array (Option Value)),PySem.W.nsIn K mainGlobals x=some (some (.ref f)) /\
 K.lookup f=some ⟨oc,od,.func (PySem.W.fnOf x x (bQ st) (bn st) (ap st) .none kV dc pm an cd ct),sl⟩/\PySem.W.codeIn K cd x=true/\PySem.W.keepIn K (.ref f)=true
theorem tw {K:PySem.W.Frag}{x:Str}{st:Stmt}{f:Addr}{oc kV dc pm cd ct:Value}{od an:Option Addr}{sl:Array (Option Value)} (a:PySem.W.nsIn K mainGlobals x=some (some (.ref f))) (l:K.lookup f=some ⟨oc,od,.func (PySem.W.fnOf x x (bQ st) (bn st) (ap st) .none kV dc pm an cd ct),sl⟩)
  (c:PySem.W.codeIn K cd x=true) (k:PySem.W.keepIn K (.ref f)=true):kq K x st:=⟨f,oc,kV,dc,pm,cd,ct,od,an,sl,a,l,c,k⟩
theorem dG {K:PySem.W.Frag}{h:Heap}{mg:Str->Option Value}{x:Str}{st:Stmt} (q:kq K x st) (X:K.In h) (G:h.Ns mainGlobals mg):dH K mg x st:=by
 obtain ⟨f,oc,kV,dc,pm,cd,ct,od,an,sl,a,l,c,k⟩:=q
 exact .mk' X G a l c k
section
open PySem.AutoSeq1 (wpAny_loadPart')
open PySem.MeetsSeq PySem.MeetsSeq2 PySem.MeetsSeq3
variable {P:Program}{w:World}{A:Around}
end
def gB (ks:List Key) (ds:List D) (k:Key):Option D:=((ks.zip ds).find? fun p=>decide (p.1=k)).map (·.2)
section
variable {X:Cx}{K:PySem.W.Frag}{O:Addr->Prop}{H:Hp}{ta td te:TE}{pa:PA1}{pe:PTE}
theorem FVc.dic {v:V}{ks:List Key}{ds:List D} (h:FVc K O H v (.dic ks ds)):∃a kvs,v=.ref a/\H a=some (.dK kvs)/\kvs.map Prod.fst=ks/\FVs K O H (kvs.map Prod.snd) ds:=by
 cases h.fv nofun nofun with
 | dic n e m f=>exact ⟨_,_,rfl,e,m,f⟩
theorem jP (k:Key):∀{kvs:List (Key×V)}{ks:List Key}{ds:List D},kvs.map Prod.fst=ks->FVs K O H (kvs.map Prod.snd) ds ->
  (fU kvs k=none/\gB ks ds k=none)\/∃v d,fU kvs k=some v/\gB ks ds k=some d/\FV K O H v d
 | [],_,_,rfl,.nil=>.inl ⟨rfl,rfl⟩
 | p::r,_,_,rfl,.cons (d:=d) (ds:=ds) a b=>by
  have u:∀ds',gB ((p::r).map Prod.fst) (d::ds') k=if p.1=k then some d else gB (r.map Prod.fst) ds' k:=fun ds'=>by
   unfold gB
   rw [List.map_cons,List.zip_cons_cons,List.find?_cons]
   by_cases e:p.1=k
   .rw [if_pos e,decide_eq_true e];rfl
   .rw [if_neg e,decide_eq_false e]
  by_cases e:p.1=k
  .exact .inr ⟨p.2,d,fV e,by rw [u,if_pos e],a⟩
  .rw [fW e,u,if_neg e]
   exact jP k rfl b
def vv:R2:=fun x y H Q=>∃a kvs k,y=.ref a/\x=kV k/\H a=some (.dK kvs)/\Q (.bl (fU kvs k).isSome) H
theorem uS (hu:X.A.units + 64 < cLine):OpR X (compareOp .In) vv:=by
 intro pins s σ H x y v u Q I rx ry h
 obtain ⟨a,kvs,k,rfl,rfl,e,q⟩:=h
 cases (show u=Value.ref a from ry)
 exact vB (by omega) I (p6.k e) rx fun s' I'=>⟨.bl _,H,I',rfl,q⟩
def uT:F2
 | .str w,.dic ks ds,Q=>Q (.dat (.bl (gB ks ds (.inr (S w))).isSome))
 | _,_,_=>False
theorem tz:LO K vv uT:=by
 intro O H x y a b Q Q' dom fx fy q k
 unfold uT at q
 split at q
 .rename_i w ks ds
  obtain ⟨a,kvs,rfl,e,m,f⟩:=fy.dic
  have fx:=fx.fv nofun nofun
  cases fx
  refine ⟨a,kvs,.inr (S w),rfl,rfl,e,k _ H _ q (Gr.refl _) ?_⟩
  rcases jP (.inr (S w)) m f with ⟨h1,h2⟩ | ⟨v,d,h1,h2,_⟩
  .rw [h1,h2];exact .bl _
  .rw [h1,h2];exact .bl _
 .exact q.elim
def tD (pa:PA1) (pe:PTE):PTE:=fun ρ Q=>pa ρ fun x ρ1=>match cont ρ1 x with
 | some (.dic _ _)=>pe ρ1 fun p ρ2=>(match cont ρ2 x,p with
  | some (.dic ks ds),.dat (.str w)=>Q (.dat ((gB ks ds (.inr (S w))).getD .non)) ρ2
  | _,_=>False)
 | _=>False
theorem n9 (ha:LA1 K ta pa) (he:LE K te pe):LE K (oG ta te) (tD pa pe):=fun A ρ σ H Q Q' R q k =>
 ha A ρ σ H _ _ R q fun v H1 a ρ1 q1 f1 R1 o1=>by
  split at q1
  .rename_i ks0 ds0 e1
   obtain ⟨a0,kvs0,rfl,g0,m0,f0⟩:=(R1.cont o1 e1).dic
   refine ⟨a0,rfl,.inl ⟨kvs0,.inl g0⟩,he A ρ1 σ H1 _ _ R1 q1 fun w H2 p ρ2 q2 f2 o2=>?_⟩
   obtain ⟨R2,fv⟩:=o2.frz
   split at q2
   .rename_i ks ds u e2
    cases (show FV K _ H2 w (.str u) from fv)
    obtain ⟨a1,kvs,e3,g1,m,f⟩:=(R2.cont (o1.keeps f2.keeps) e2).dic
    cases e3
    refine ⟨_,p6.k (k:=.inr (S u)) g1,?_⟩
    rcases jP (.inr (S u)) m f with ⟨h1,h2⟩ | ⟨v,d,h1,h2,fd⟩
    .rw [h2] at q2
     rw [h1]
     exact k _ H2 _ ρ2 q2 (f1.trans f2) ⟨R2,.non⟩
    .rw [h2] at q2
     rw [h1]
     exact k _ H2 _ ρ2 q2 (f1.trans f2) ⟨R2,fd⟩
   .exact q2.elim
  .exact q1.elim
def tY (x:Str):Value->Bool
 | .str y _=>y == x
 | _=>false
theorem kr {ws:List (List Nat)}{its:List Value} (r:br (ws.map tx) its) {j:Nat} (h:j < ws.length):∃t,its[j]?=some (.str (S (ws.getD j [])) t):=by
 obtain ⟨u,hu,t,rfl⟩:=r.get (i:=j) (x:=tx (ws.getD j [])) (by rw [List.getElem?_map,List.getElem?_eq_getElem h,List.getD_eq_getElem?_getD,List.getElem?_eq_getElem h];rfl)
 exact ⟨t,hu⟩
def tE (K:PySem.W.Frag):V->List V->Hp->VK->Prop:=fun x xs H Q=>∃(p:Addr) (ws:List (List Nat)) (w:List Nat),x=.ref p/\xs=[tx w]/\SqL K H p (ws.map tx)/\(ws.length<=1000000/\w∈ws)/\Q (.int (ws.idxOf w:Nat)) H
theorem qE (K:PySem.W.Frag) (e:X.K=K):MtR X "list.index" (tE K):=by
 subst e
 intro pins s σ H x xs v us Q I rx rs h
 obtain ⟨p,ws,w,rfl,rfl,hS,⟨h1,h2⟩,q⟩:=h
 cases (show v=Value.ref p from rx)
 obtain ⟨u,rfl,t,rfl⟩:=jB rs
 obtain ⟨its,rv,pl,hz⟩:=I.list hS
 obtain ⟨⟨cls,dd,data,sl⟩,ho,hc,n,hd⟩:=pl.isList
 simp only at hc hd
 subst hc hd
 have hlen:its.length=ws.length:=by rw [<- rv.length,List.length_map]
 have hj:ws.idxOf w < ws.length:=List.idxOf_lt_length_iff.mpr h2
 have eS:∀a b:List Nat,(S a == S b)=decide (a=b):=fun a b=>by
  by_cases z:a=b
  .rw [z,decide_eq_true rfl];exact beq_self_eq_true _
  .rw [decide_eq_false z]
   exact beq_eq_false_iff_ne.mpr fun y=>z (lO y)
 have at_:∀j (hh:j < its.length),tY (S w) its[j]=decide (ws.getD j []=w):=fun j hh=>by
  obtain ⟨t',ht⟩:=kr rv (j:=j) (by omega)
  rw [List.getElem?_eq_getElem hh] at ht
  rw [Option.some.inj ht]
  exact eS _ _
 refine call_meets PySem.F.slot_list_index ⟨_,ho,rfl⟩ PySem.F.entry_list_index (PySem.F.args_list_index_2 _ _)
  (PySem.SeqAt.list_indexAt p its.toArray n dd sl (.str (S w) t) (tY (S w)) (ws.idxOf w) (by simpa [hlen] using hj) (by omega) ?_ ?_) ⟨ho,fun y hy=>?_,⟨.int _,H,I.tok _,⟨_,rfl⟩,q⟩⟩
 .show tY (S w) its[ws.idxOf w]=true
  rw [at_ _ (by omega)]
  refine decide_eq_true ?_
  rw [List.getD_eq_getElem?_getD,List.getElem?_eq_getElem hj]
  exact List.getElem_idxOf hj
 .intro j hjs hlt
  have hjs:j < its.length:=by simpa using hjs
  show tY (S w) its[j]=false
  rw [at_ j hjs]
  refine decide_eq_false fun z=>?_
  have hjw:j < ws.length:=by omega
  have h9:=List.not_of_lt_findIdx (p:=(· == w)) (xs:=ws) (i:=j) hlt
  rw [List.getD_eq_getElem?_getD,List.getElem?_eq_getElem hjw] at z
  exact (beq_eq_false_iff_ne.mp h9) z
 .obtain ⟨j,hj2,rfl⟩:=List.mem_iff_getElem.mp (show y∈its by simpa using hy)
  obtain ⟨t',ht⟩:=kr rv (j:=j) (by omega)
  rw [List.getElem?_eq_getElem hj2] at ht
  rw [Option.some.inj ht]
  exact PySem.SeqAt.EqAt.str_str _ _ _ _
def tF (pa:PA1) (pe:PTE):PTE:=fun ρ Q=>pa ρ fun x ρ1=>match cont ρ1 x with
 | some (.lst _)=>pe ρ1 fun p ρ2=>(match cont ρ2 x,p with
  | some (.lst ds),.dat (.str w)=>∃ws:List (List Nat),ds=ws.map .str/\(ws.length<=1000000/\w∈ws)/\Q (.dat (.int (ws.idxOf w:Nat))) ρ2
  | _,_=>False)
 | _=>False
theorem qF (ha:LA1 K ta pa) (he:LE K te pe):LE K (tBM K "list" (tE K) ta (dJ te j2)) (tF pa pe):=fun A ρ σ H Q Q' R q k =>
 ha A ρ σ H _ _ R q fun v H1 a ρ1 q1 f1 R1 o1=>by
  split at q1
  .rename_i ds0 e1
   obtain ⟨a0,xs0,rfl,g0,f0⟩:=(R1.cont o1 e1).lst
   refine ⟨.inl ⟨rfl,xs0,SqL.of g0⟩,he A ρ1 σ H1 _ _ R1 q1 fun w H2 p ρ2 q2 f2 o2=>?_⟩
   obtain ⟨R2,fv⟩:=o2.frz
   split at q2
   .rename_i ds j e2
    obtain ⟨ns,rfl,hn,q2⟩:=q2
    cases (show FV K _ H2 w (.str j) from fv)
    obtain ⟨a1,xs1,e3,g1,g2⟩:=(R2.cont (o1.keeps f2.keeps) e2).lst
    cases e3
    rw [g2.strs] at g1
    exact ⟨a0,ns,j,rfl,rfl,SqL.of g1,hn,k _ H2 _ ρ2 q2 (f1.trans f2) ⟨R2,.int _⟩⟩
   .exact q2.elim
  .exact q1.elim
end
def jy (bs:List (List Nat)) (w:List Nat):List (List Nat):=if w∈bs then bs else bs++[w]
def fJ (bs:List (List Nat)) (w:List Nat):Nat->List (List Nat)
 | 0=>bs
 | j + 1=>jy (fJ bs w j) (w.take (j + 1))
def e5 (ws:List (List Nat)):Nat->List (List Nat)
 | 0=>[[]]
 | i + 1=>fJ (e5 ws i) (pw ws i) (pw ws i).length
def cb (ws:List (List Nat)):List (List Nat):=e5 ws ws.length
theorem oa (bs:List (List Nat)) (w:List Nat):(jy bs w).length<=bs.length + 1:=by
 unfold jy
 split
 .omega
 .rw [List.length_append];exact Nat.le_refl _
theorem fZ (bs:List (List Nat)) (w:List Nat):∀j,(fJ bs w j).length<=bs.length + j
 | 0=>Nat.le_refl _
 | j + 1=>by have:=fZ bs w j;have:=oa (fJ bs w j) (w.take (j + 1));show (jy _ _).length<=_;omega
theorem f7 {ws:List (List Nat)} (h:∀w∈ws,w.length<=60):∀i,i<=ws.length->(e5 ws i).length<=1 + 60 * i
 | 0,_=>Nat.le_refl _
 | i + 1,hi=>by
  have h1:=f7 h i (by omega)
  have h2:=fZ (e5 ws i) (pw ws i) (pw ws i).length
  have h3:=h _ (c5 (show i < ws.length by omega))
  show (fJ _ _ _).length<=_
  omega
abbrev kS (w:List Nat):Key:=.inr (S w)
def dq (bs:List (List Nat)):List (Key×V):=(List.range bs.length).map fun i=>(kS (bs.getD i []),V.int (i:Int))
abbrev tG (bs:List (List Nat)):D:=.dic (bs.map kS) ((List.range bs.length).map fun i:Nat=>D.int (i:Int))
theorem mT (bs:List (List Nat)):(dq bs).length=bs.length:=by unfold dq;rw [List.length_map,List.length_range]
theorem mU (bs:List (List Nat)) (w:List Nat):dq (bs++[w])=dq bs++[(kS w,V.int (bs.length:Int))]:=by
 unfold dq
 rw [List.length_append]
 show (List.range (bs.length + 1)).map _=_
 rw [List.range_succ,List.map_append]
 congr 1
 .refine List.map_congr_left fun i hi=>?_
  have hi:=List.mem_range.mp hi
  rw [List.getD_eq_getElem?_getD,List.getD_eq_getElem?_getD,List.getElem?_append_left hi]
 .show [(kS ((bs++[w]).getD bs.length []),V.int (bs.length:Int))]=_
  rw [List.getD_eq_getElem?_getD,List.getElem?_append_right (Nat.le_refl _),Nat.sub_self];rfl
theorem ji {bs:List (List Nat)}{w:List Nat}:fU (dq bs) (kS w)=none ↔ w∉bs:=by
 have h:=ip (kS w) (dq bs)
 constructor
 .intro e z
  rw [e] at h
  obtain ⟨i,hi,rfl⟩:=List.mem_iff_getElem.mp z
  have:((dq bs).any fun kv=>decide (kv.1=kS bs[i]))=true:=List.any_eq_true.mpr ⟨_,List.mem_map.mpr ⟨i,List.mem_range.mpr hi,rfl⟩,decide_eq_true (by show kS (bs.getD i [])=_;rw [List.getD_eq_getElem?_getD,List.getElem?_eq_getElem hi];rfl)⟩
  rw [this] at h;cases h
 .intro n
  cases e:fU (dq bs) (kS w) with
  | none=>rfl
  | some v =>
   rw [e] at h
   obtain ⟨kv,h1,h2⟩:=List.any_eq_true.mp h
   obtain ⟨i,hi,rfl⟩:=List.mem_map.mp h1
   have hi:=List.mem_range.mp hi
   have z:kS (bs.getD i [])=kS w:=of_decide_eq_true h2
   have z:=lO (Sum.inr.inj z)
   refine absurd ?_ n
   rw [<- z,List.getD_eq_getElem?_getD,List.getElem?_eq_getElem hi]
   exact List.getElem_mem hi
theorem mV (bs:List (List Nat)):(dq bs).map Prod.fst=bs.map kS:=by
 unfold dq
 rw [List.map_map]
 refine List.ext_getElem (by rw [List.length_map,List.length_map,List.length_range]) fun i h1 h2=>?_
 rw [List.length_map,List.length_range] at h1
 rw [List.getElem_map,List.getElem_map,List.getElem_range]
 show kS (bs.getD i [])=_
 rw [List.getD_eq_getElem?_getD,List.getElem?_eq_getElem h1];rfl
theorem mW {K:PySem.W.Frag}{O:Addr->Prop}{H:Hp} (bs:List (List Nat)):FVs K O H ((dq bs).map Prod.snd) ((List.range bs.length).map fun i:Nat=>D.int (i:Int)):=by
 unfold dq
 rw [List.map_map]
 have:∀l:List Nat,FVs K O H (l.map fun i:Nat=>V.int (i:Int)) (l.map fun i:Nat=>D.int (i:Int)):=fun l=>by
  induction l with
  | nil=>exact .nil
  | cons a r ih=>exact .cons (.int _) ih
 exact this _
section
variable {K:PySem.W.Frag}{A:Addr->Prop}{ρ:PSt}{σ:St}{H:Hp}
theorem Rel.any {i:Nat}{v:Option V} (R:Rel K A ρ σ H) (e:ρ[i]?=some none):Rel K A ρ (σ.set i v) H/\∀b,Wr ρ (σ.set i v) b ↔ Wr ρ σ b:=by
 have ne:∀{j:Nat}{p:PV},ρ[j]?=some (some p)->i≠j:=fun {j p} h z=>by rw [<- z,e] at h;cases h
 have w:∀b,Wr ρ (σ.set i v) b ↔ Wr ρ σ b:=fun b=>⟨fun ⟨j,p,h1,h2,h3⟩=>⟨j,p,h1,h2,by rw [List.getElem?_set_ne (ne h1)] at h3;exact h3⟩,fun ⟨j,p,h1,h2,h3⟩=>⟨j,p,h1,h2,by rw [List.getElem?_set_ne (ne h1)];exact h3⟩⟩
 have o:OO A ρ (σ.set i v)=OO A ρ σ:=funext fun b=>propext (or_congr Iff.rfl (w b))
 refine ⟨⟨by rw [List.length_set];exact R.len,fun j p h=>?_,fun j l p q u h1 h2 o1 o2 s1 s2=>?_,R.dom,fun b z y=>R.sep b z ((w b).mp y)⟩,w⟩
 .obtain ⟨u,h1,h2⟩:=R.get j p h
  exact ⟨u,by rw [List.getElem?_set_ne (ne h)];exact h1,by rw [o];exact h2⟩
 .rw [List.getElem?_set_ne (ne h1)] at s1
  rw [List.getElem?_set_ne (ne h2)] at s2
  exact R.dj j l p q u h1 h2 o1 o2 s1 s2
theorem dI.any {fx:List (Nat×V)}{fs:List Nat}{R:Addr->Prop}{H0:Hp}{i:Nat}{v:Option V} (hf:fx.map Prod.fst=fs) (hi:fs.contains i=false) (F:dI fx R H0 ρ σ H) (w:∀b,Wr ρ (σ.set i v) b ↔ Wr ρ σ b):dI fx R H0 ρ (σ.set i v) H :=
 ⟨F.kp,F.dm,fun b z=>F.ow b ((w b).mp z),fun q hq=>by
  have:q.1≠i:=fun z=>by
   have h1:i∈fs:=by rw [<- hf,<- z];exact List.mem_map_of_mem hq
   rw [List.contains_iff_mem.mpr h1] at hi;cases hi
  rw [List.getElem?_set_ne (fun z=>this z.symm)];exact F.fx q hq⟩
end
def gO (t d:Addr):List (Str×V):=[(("words":Str),.ref t),(("numbers":Str),.ref d)]
def oQ:PTS:=fun D ρ=>∃(ws:List (List Nat)) (v1:Option PV),ρ=[some (.ins "Beginnings" ["words"] [.tup (ws.map .str)]),v1,none,none]/\(ws.length<=40/\∀w∈ws,w.length<=60) /\
 D.nx [some (.ins "Beginnings" ["words","numbers"] [.tup (ws.map .str),tG (cb ws)]),v1,none,none]
abbrev qG (K:PySem.W.Frag):TS:=tP (ua K (gK 0) (sx [(tC (kV (Sum.inr (S []))),(tC (V.int 0)))]) "numbers") (tR (sQ K (pA K (gK 0) "words")) (iK 2) (tR (o5 (dJ (tC (V.int 1)) (dJ (tOp (n8 K) (tCB (my K) (dJ (gK 2) j2)) (tC (V.int 1))) j2))) (iK 3) (oZ (sA (pA K (gK 0) "numbers") (tSl (tW K) (gK 2) jD (pI (gK 3))) (tCB (my K) (dJ (pA K (gK 0) "numbers") j2))))))
theorem og {K:PySem.W.Frag}{D':ll}{H:Hp}{x t dx:Addr}{s1 s2 s3:Option V}{ws:List (List Nat)} (hc:Cls K (aY K "Beginnings")) (hw:cG K (aY K "Beginnings") "words") (hn:cG K (aY K "Beginnings") "numbers")
  (hx:H x=some (.ins (aY K "Beginnings") dx [(("words":Str),V.ref t)])) (ht:H t=some (.tup (ws.map tx))) (hl:ws.length<=40) (hw60:∀w∈ws,w.length<=60)
  (q:∀(d:Addr) (v2 v3:Option V) (H':Hp),H d=none->H' x=some (.ins (aY K "Beginnings") dx (gO t d))->H' d=some (.dK (dq (cb ws)))->(∀b o,b≠x->H b=some o->H' b=some o)->D'.nx [some (.ref x),s1,v2,v3] H') :
  qG K D' [some (.ref x),s1,s2,s3] H:=by
 have hxt:x≠t:=fun z=>by rw [z,ht] at hx;cases hx
 unfold qG tP
 intro d hd
 refine ⟨aS,[(Sum.inr (S []),.int 0)],rfl,by decide,?_⟩
 rw [oX]
 have hxd:x≠d:=aI hx hd
 have htd:t≠d:=aI ht hd
 have efl:gL "numbers" (V.ref d) ([(("words":Str),V.ref t)]:List (Str×V))=(gO t d):=by rw [fY (show cD ("numbers":Str) [("words":Str)]=none by decide +kernel)];rfl
 refine ⟨_,rfl,x,_,dx,_,rfl,(by rw [aB hxd];exact hx),hc,hn,(by show 1 < 1000;decide),?_⟩
 rw [efl]
 have em:gX [] [(Sum.inr (S []),V.int 0)]=dq [[]]:=rfl
 rw [em]
 let J (bs:List (List Nat)) (H':Hp):Prop:=H' x=some (.ins (aY K "Beginnings") dx (gO t d))/\H' t=some (.tup (ws.map tx))/\H' d=some (.dK (dq bs))/\∀b o,b≠x->H b=some o->H' b=some o
 have J0:J [[]] (upd (upd H d (.dK (dq [[]]))) x (.ins (aY K "Beginnings") dx (gO t d))):=⟨aS,by rw [aB hxt.symm,aB htd];exact ht,by rw [aB hxd.symm,aS],fun b o hb h=>by rw [aB hb,aB (aI h hd)];exact h⟩
 generalize upd (upd H d (.dK (dq [[]]))) x (.ins (aY K "Beginnings") dx (gO t d))=H2 at J0
 have lw:(gO t d).lookup ("words":Str)=some (.ref t):=by unfold gO;rw [List.lookup_cons_self]
 have ln:(gO t d).lookup ("numbers":Str)=some (.ref d):=by unfold gO;rw [List.lookup_cons,show (("numbers":Str) == ("words":Str))=false by decide +kernel];exact List.lookup_cons_self
 refine ⟨_,rfl,x,_,dx,_,_,rfl,J0.1,hc,hw,lw,.inl ⟨true,t,ws.map tx,rfl,SqT.of J0.2.1,p4 (k:=true) (K:=K) (a:=t) (xs:=ws.map tx)
  (fun i σ H'=>(∃v2 v3,σ=[some (.ref x),s1,v2,v3])/\J (e5 ws i) H') ⟨⟨_,_,rfl⟩,J0⟩ (fun i σ H' _ z=>SqT.of z.2.2.1) ?_ ?_⟩⟩
 .rintro i y σ H3 hi ⟨⟨v2,v3,rfl⟩,j3⟩
  obtain ⟨w,hwi,rfl⟩:=su hi
  have hil:i < ws.length:=(List.getElem?_eq_some_iff.mp hwi).1
  have hwe:pw ws i=w:=by unfold pw;rw [List.getD_eq_getElem?_getD,hwi];rfl
  have hwl:=hw60 w (List.mem_of_getElem? hwi)
  have hzw:w.length<=sizeLine:=sz _ (by omega)
  have hbl:=f7 hw60 i (by omega)
  refine ⟨_,rfl,.inl ⟨w,rfl,hzw,.inl (.inl ⟨_,_,rfl,rfl,_,_,rfl,⟨by decide,by decide,by omega,by omega⟩,?_⟩)⟩⟩
  rw [show ((w.length:Int) + 1 - 1).toNat=w.length by omega]
  refine lu (fun j σ H'=>(∃v3,σ=[some (.ref x),s1,some (.str (S w)),v3])/\J (fJ (e5 ws i) w j) H') ⟨⟨_,rfl⟩,j3⟩ ?_ ?_
  .rintro j σ H4 hj ⟨⟨v3,rfl⟩,j4⟩
   have hbp:=fZ (e5 ws i) w j
   have hkl:=mT (fJ (e5 ws i) w j)
   have hltk:(dq (fJ (e5 ws i) w j)).length < sizeLine:=Nat.lt_of_lt_of_le (show _ < 1000000 by omega) (sz _ (Nat.le_refl _))
   have ecut:dL w none (some (1 + (j:Int)))=w.take (j + 1):=by rw [show (1 + (j:Int))=((j + 1:Nat):Int) by omega];exact gi ..
   refine ⟨_,rfl,x,_,dx,_,_,rfl,j4.1,hc,hn,ln,d,rfl,.inl ⟨_,.inl j4.2.2.1⟩,_,rfl,_,rfl,_,rfl,.inr (.inl ⟨w,rfl,hzw,_,rfl,x,_,dx,_,_,rfl,j4.1,hc,hn,ln,.inr (.inr (.inr ⟨d,_,rfl,.inl j4.2.2.1,_,kS (dL w none (some (1 + (j:Int)))),j4.2.2.1,rfl,hltk,fun v hv=>?_,fun hv=>?_⟩))⟩)⟩
   .refine ⟨⟨_,rfl⟩,?_⟩
    have e:jy (fJ (e5 ws i) w j) (w.take (j + 1))=fJ (e5 ws i) w j:=by
     unfold jy
     rw [if_pos]
     refine Classical.byContradiction fun z=>?_
     rw [ecut,ji.mpr z] at hv;cases hv
    show J (jy (fJ (e5 ws i) w j) (w.take (j + 1))) H4
    rw [e];exact j4
   .refine ⟨⟨_,rfl⟩,?_⟩
    rw [ecut] at hv
    have e:jy (fJ (e5 ws i) w j) (w.take (j + 1))=fJ (e5 ws i) w j++[w.take (j + 1)]:=by
     unfold jy
     rw [if_neg (ji.mp hv)]
    show J (jy (fJ (e5 ws i) w j) (w.take (j + 1))) _
    rw [e,ecut,nN _ hv,hkl,<- mU]
    exact ⟨by rw [aB hxd];exact j4.1,by rw [aB htd];exact j4.2.1,aS,fun b o hb h=>by rw [aB (aI h hd)];exact j4.2.2.2 b o hb h⟩
  .rintro σ H4 ⟨⟨v3,rfl⟩,j4⟩
   refine ⟨⟨_,_,rfl⟩,?_⟩
   show J (fJ (e5 ws i) (pw ws i) (pw ws i).length) H4
   rw [hwe];exact j4
 .rintro σ H3 ⟨⟨v2,v3,rfl⟩,j3⟩
  rw [List.length_map] at j3
  exact q d v2 v3 H3 hd j3.1 j3.2.2.1 j3.2.2.2
theorem qH {K:PySem.W.Frag}{fs:List Nat} (h2:fs.contains 2=false) (h3:fs.contains 3=false) (hc:Cls K (aY K "Beginnings")) (hw:cG K (aY K "Beginnings") "words") (hn:cG K (aY K "Beginnings") "numbers"):LS K fs (qG K) oQ:=fun fx A R H0 ρ σ H D D' hf r F q k1 k2 k3 k4=>by
 obtain ⟨ws,v1,rfl,⟨hl,hw60⟩,q⟩:=q
 have hlen:=r.len
 obtain ⟨s0,s1,s2,s3,rfl⟩:∃s0 s1 s2 s3,σ=[s0,s1,s2,s3]:=by
  match σ,hlen with
  | [a,b,c,d],_=>exact ⟨a,b,c,d,rfl⟩
 obtain ⟨v,hs,x,dx,f0,rfl,hx,m,ff⟩:=r.get 0 _ rfl
 cases hs
 obtain ⟨t,rfl,ht,hno⟩:∃t,f0=[(("words":Str),V.ref t)]/\H t=some (.tup (ws.map tx))/\¬ OO A [some (.ins "Beginnings" ["words"] [.tup (ws.map .str)]),v1,none,none] [some (V.ref x),s1,s2,s3] t:=by
  match f0,m,ff with
  | [(n,u)],m,.cons a .nil =>
   cases m
   cases a with
   | tup no e f =>
    rw [f.strs] at e
    exact ⟨_,rfl,e,no⟩
 refine og hc hw hn hx ht hl hw60 fun d v2 v3 H' hd hx' hd' kp=>?_
 have st:=r.step (i:=0) (p:=.ins "Beginnings" ["words"] [.tup (ws.map .str)]) (q:=.ins "Beginnings" ["words","numbers"] [.tup (ws.map .str),tG (cb ws)]) (H':=H') (A':=A) (a:=x) rfl rfl rfl rfl kp (by rw [hx'];exact nofun) (fun _ h=>h) (fun _ h=>.inl h)
  (fun b z=>by
   by_cases e:b=x
   .rw [e,hx'];exact nofun
   .cases eb:H b with
    | none=>exact absurd eb (r.dom b z)
    | some o=>rw [kp b o e eb];exact nofun)
  ⟨x,dx,gO t d,rfl,hx',rfl,.cons (.tup hno (kp t _ (fun z=>by rw [z,hx] at ht;cases ht) ht) (FVs.of_strs ws fun w hw=>Nat.le_trans (hw60 w hw) (by decide))) (.cons (.dic (r.oo hd) hd' (mV _) (mW _)) .nil)⟩
 obtain ⟨R1,F1⟩:=st
 have FF:=F.fr F1
 obtain ⟨R2,w2⟩:=R1.any (i:=2) (v:=v2) rfl
 have F2:=FF.any hf h2 w2
 obtain ⟨R3,w3⟩:=R2.any (i:=3) (v:=v3) rfl
 exact k1 _ _ H' q R3 (F2.any hf h3 w3)
section
variable {P:Program}{w:World}{A:Around}{R:Result->Shared->Prop}{I:Addr}{fp wr:List Addr}{n:Nat}{Pv:Nat->Value->Prop}{St:Nat->Heap->Prop}{d:Value}
abbrev dfl (d:Value):List (Str×Value):=[((Str.ofString "default"),d)]
theorem mxn:(toString "max"++toString ".loop":String)="max.loop":=by decide
theorem jQ (W:Walks P w A.in1 I fp wr n Pv St) (bt:Nat->Nat->Bool) (hcmp:CmpOf P w A.in1 .Gt Pv bt) (B:Addr) (hB:B∉fp):∀(k j:Nat) (z:Shared) (vb:Value) (c:Nat),n=j + 1 + k->St (j + 1) z.heap->Pv (argBest bt j) vb ->
  z.heap.get? B=some { cls:=.type "list",dict:=none,data:=.seq #[vb,vb] c,slots:=#[] } ->
  (∀v h' tk,Pv (argBest bt (n - 1)) v->(∀b o,b∉wr->b≠B->z.heap.get? b=some o->h'.get? b=some o)->R (.ok (.ret v)) { z with heap:=h',toks:=tk }) ->
  codeAny (model P w) A (.builtin "max.loop" ⟨[.ref I,.none,.ref B],dfl d⟩) R z
 | 0,j,z,vb,c,hn,st,pb,hS,hR=>by
  refine codeAny_builtin F.entry_max_loop ?_
  rw [Around.under_plainId F.plain_max_loop _]
  show wpAny _ A.in1 (seqItems? (.ref B) >>= _) _ _ z
  refine wpAny_bind (wpAny_seqItems hS rfl ?_)
  show wpAny _ A.in1 (tryCatch (pyNext (.ref I)) _ >>= _) _ _ z
  refine wpAny_bind (wpAny_tryCatch (W.done z _ _ (by rw [hn];exact st) fun h' tk old=>?_))
  have hS':=old B _ (fun q=>hB (W.sub _ q)) hS
  show wpAny _ A.in1 (updateSeq B (fun _=>#[]) >>= _) _ _ _
  refine wpAny_bind (wpAny_updateSeq hS' rfl (wpAny_bind (wpAny_letGo (wpAny_pure ?_))))
  exact hR vb _ tk (by rw [hn];exact pb) fun b o h1 h2 e=>(Heap.get?_update_other _ _ (Ne.symm h2)).trans (old b o h1 e)
 | k + 1,j,z,vb,c,hn,st,pb,hS,hR=>by
  refine codeAny_builtin F.entry_max_loop ?_
  rw [Around.under_plainId F.plain_max_loop _]
  show wpAny _ A.in1 (seqItems? (.ref B) >>= _) _ _ z
  refine wpAny_bind (wpAny_seqItems hS rfl ?_)
  show wpAny _ A.in1 (tryCatch (pyNext (.ref I)) _ >>= _) _ _ z
  refine wpAny_bind (wpAny_tryCatch (W.item (j + 1) z _ _ (by omega) st fun v h' tk hv st' old=>?_))
  have hS':=old B _ (fun q=>hB (W.sub _ q)) hS
  show wpAny _ A.in1 (tryCatch (holding [v,v] (richCompare .Gt v vb >>= _)) _ >>= _) _ _ _
  refine wpAny_bind (wpAny_tryCatch (wpAny_holding (wpAny_bind (hcmp (j + 1) (argBest bt j) v vb _ _ _ hv pb ?_))))
  refine wpAny_bind (wpAny_holding (wpAny_truthy_bool ?_))
  refine wpAny_bind (wpAny_letGo (wpAny_pure ?_))
  cases hb:bt (j + 1) (argBest bt j) with
  | true =>
   simp only [if_true]
   refine wpAny_bind (wpAny_updateSeq hS' rfl (wpAny_bind (wpAny_letGo ?_)))
   rw [mxn]
   refine wpAny_pure ⟨plainId_quiet F.plain_max_loop _,jQ W bt hcmp B hB k (j + 1) _ v _ (by omega) (W.frame _ _ _ st' fun b hb o e=>(Heap.get?_update_other _ _ (fun q:B=b=>hB (by rw [q];exact hb))).trans e) (by show Pv (if bt (j + 1) (argBest bt j) then j + 1 else argBest bt j) v;rw [hb];exact hv) (Heap.get?_update_self _ hS' rfl) fun v' h2 t2 p2 o2=>?_⟩
   exact hR v' h2 t2 p2 fun b o h1 h3 e=>o2 b o h1 h3 ((Heap.get?_update_other _ _ (Ne.symm h3)).trans (old b o h1 e))
  | false =>
   simp only [Bool.false_eq_true,if_false]
   refine wpAny_bind (wpAny_letGo ?_)
   rw [mxn]
   refine wpAny_pure ⟨plainId_quiet F.plain_max_loop _,jQ W bt hcmp B hB k (j + 1) _ vb c (by omega) st' (by show Pv (if bt (j + 1) (argBest bt j) then j + 1 else argBest bt j) vb;rw [hb];exact pb) hS' fun v' h2 t2 p2 o2=>?_⟩
   exact hR v' h2 t2 p2 fun b o h1 h3 e=>o2 b o h1 h3 (old b o h1 e)
theorem oh (W:Walks P w A.in1 I fp wr n Pv St) (bt:Nat->Nat->Bool) (hcmp:CmpOf P w A.in1 .Gt Pv bt) (B:Addr) (hB:B∉fp) {z:Shared}{c:Nat} (st:St 0 z.heap)
  (hS:z.heap.get? B=some { cls:=.type "list",dict:=none,data:=.seq #[] c,slots:=#[] })
  (hR0:n=0->∀h' tk,(∀b o,b∉wr->b≠B->z.heap.get? b=some o->h'.get? b=some o)->R (.ok (.ret d)) { z with heap:=h',toks:=tk })
  (hR:0 < n->∀v h' tk,Pv (argBest bt (n - 1)) v->(∀b o,b∉wr->b≠B->z.heap.get? b=some o->h'.get? b=some o)->R (.ok (.ret v)) { z with heap:=h',toks:=tk }) :
  codeAny (model P w) A (.builtin "max.loop" ⟨[.ref I,.none,.ref B],dfl d⟩) R z:=by
 refine codeAny_builtin F.entry_max_loop ?_
 rw [Around.under_plainId F.plain_max_loop _]
 show wpAny _ A.in1 (seqItems? (.ref B) >>= _) _ _ z
 refine wpAny_bind (wpAny_seqItems hS rfl ?_)
 show wpAny _ A.in1 (tryCatch (pyNext (.ref I)) _ >>= _) _ _ z
 by_cases hn:n=0
 .refine wpAny_bind (wpAny_tryCatch (W.done z _ _ (by rw [hn];exact st) fun h' tk old=>?_))
  show wpAny _ A.in1 (rule _ >>= _) _ _ _
  refine wpAny_bind (wpAny_rule (wpAny_pure ?_))
  exact hR0 hn h' tk fun b o h1 _ e=>old b o h1 e
 .refine wpAny_bind (wpAny_tryCatch (W.item 0 z _ _ (by omega) st fun v h' tk hv st' old=>?_))
  have hS':=old B _ (fun q=>hB (W.sub _ q)) hS
  show wpAny _ A.in1 (updateSeq B (fun _=>#[v,v]) >>= _) _ _ _
  refine wpAny_bind (wpAny_updateSeq hS' rfl ?_)
  rw [mxn]
  refine wpAny_pure ⟨plainId_quiet F.plain_max_loop _,jQ W bt hcmp B hB (n - 1) 0 _ v _ (by omega) (W.frame _ _ _ st' fun b hb o e=>(Heap.get?_update_other _ _ (fun q:B=b=>hB (by rw [q];exact hb))).trans e) hv (Heap.get?_update_self _ hS' rfl) fun v' h2 t2 p2 o2=>?_⟩
  exact hR (by omega) v' h2 t2 p2 fun b o h1 h3 e=>o2 b o h1 h3 ((Heap.get?_update_other _ _ (Ne.symm h3)).trans (old b o h1 e))
end
theorem mX (a v:Value):argsOk "max" ⟨[a],dfl v⟩:=by unfold argsOk;kernel_rfl
theorem mY {P:Program}{w:World}{A:Around}{z:Shared}{l:Addr}{xs:Array (Int×Tok)}{d:Value}{Q:Value->Shared->Prop}{E:Value->Shared->Prop} (hh:A.handled=none) (hl:z.heap.IsList l (intItems xs))
  (k0:xs.size=0->∀h' tk,(∀b o,z.heap.get? b=some o->h'.get? b=some o)->Q d { z with heap:=h',toks:=tk })
  (k:0 < xs.size->∀v h' tk,(intItems xs)[argBest (fun i j=>decide (numAt xs i > numAt xs j)) (xs.size - 1)]?=some v->(∀b o,z.heap.get? b=some o->h'.get? b=some o)->Q v { z with heap:=h',toks:=tk }) :
  wpAny (model P w) A (call (.builtin "max") [.ref l] (dfl d)) Q E z:=by
 have hsz:(intItems xs).size=xs.size:=by simp [intItems]
 refine kmk_tree F.kind_max F.plain_max F.entry_max (mX _ _) ?_
 show wpAny _ A.in1 (Builtin.Builtins.bindParams "max" ["key","default"] 0 ⟨[],dfl d⟩ >>= _) _ _ z
 refine wpAny_bind (wpAny_of_eq (show Builtin.Builtins.bindParams "max" ["key","default"] 0 ⟨[],dfl d⟩=pure [none,some d] from rfl) ?_)
 refine wpAny_bind (wpAny_pure ?_)
 refine wpAny_bind (iter_intList hl fun s₂ e st hfp hlI=>?_)
 subst e
 refine wpAny_bind (wpAny_newObj_type ?_)
 rw [mxn]
 have W:=Walks.list (prog:=P) (w:=w) (A:=A.in1) hh _ l hlI (intItems xs)
 refine wpAny_pure ⟨plainId_quiet F.plain_max_loop _,oh W _ (CmpOf.ints_gt (numAt xs) (fun _ _=>intItems_at)) _ (fun hm=>Nat.lt_irrefl _ (hfp _ hm)) (W.frame _ _ _ st fun b _ o e=>Heap.get?_push_of_some _ e) (Heap.get?_push_size _ rfl) (fun e0 h' tk old=>?_) fun e0 v h' tk hv old=>?_⟩
 .exact k0 (by omega) h' tk (old_kept fun b o hb e=>old b o hb (Nat.ne_of_lt (Heap.lt_size e)) (Heap.get?_push_of_some _ e))
 .exact k (by omega) v h' tk (by rw [hsz] at hv;exact hv) (old_kept fun b o hb e=>old b o hb (Nat.ne_of_lt (Heap.lt_size e)) (Heap.get?_push_of_some _ e))
section
variable {X:Cx}{K:PySem.W.Frag}{te tf:TE}{pa:PA1}{pe:PTE}
def qI (K:PySem.W.Frag) (x d:V) (H:Hp) (Q:VK):Prop:=∃(p:Addr) (ns:List Int),x=.ref p/\SqL K H p (ns.map V.int)/\(ns=[]->Q d H)/\(0 < ns.length->∀m:Int,m∈ns->(∀a∈ns,a<=m)->Q (.int m) H)
def tH (K:PySem.W.Frag) (te tf:TE):TE:=fun σ H Q=>te σ H fun x H1=>tf σ H1 fun d H2=>qI K x d H2 Q
theorem tI (K:PySem.W.Frag) (e:X.K=K) (hc:X.calm=true) {pins:List (Addr×Obj)}{s:Shared}{σ:St}{H:Hp}{x d:V}{u v:Value}{Q:VK} (I:Inv X pins σ H s) (rx:bP x u) (rd:bP d v) (h:qI K x d H Q) :
  wpAny (model X.prog X.w) X.A (call (.builtin "max") [u] (dfl v)) (EP X pins σ Q) X.xe s:=by
 subst e
 obtain ⟨p,ns,rfl,hS,q0,q⟩:=h
 cases (show u=Value.ref p from rx)
 obtain ⟨its,rv,pl,hz⟩:=I.list hS
 have hi:IntsAre its ns:=kN rv
 have hl:=pl.isList
 obtain ⟨ys,e⟩:=hi.allInts.items
 have hns:ns=ys.toList.map (·.1):=by rw [<- hi.numsOf,<- nums_intItems,<- e]
 have hsz:ns.length=ys.size:=by rw [hns,List.length_map,Array.length_toList]
 rw [e] at hl
 refine mY (by exact I.ok.hd hc) hl (fun h0 h' tk hk=>?_) fun h0 v h' tk hv hk=>?_
 .exact ⟨d,H,I.kept (t':=tk) hk,rd,q0 (List.eq_nil_of_length_eq_zero (by omega))⟩
 .obtain ⟨t,rfl⟩:=intItems_at hv
  obtain ⟨h1,h2⟩:=argBest_gt (numAt ys) (ys.size - 1)
  refine ⟨.int _,H,I.kept (t':=tk) hk,⟨t,rfl⟩,q (by omega) _ ?_ fun a ha=>?_⟩
  .rw [hns,numAt_eq];exact getD_mem (by rw [List.length_map,Array.length_toList];omega)
  .rw [hns] at ha
   obtain ⟨j,hj,rfl⟩:=mem_getD ha
   rw [List.length_map,Array.length_toList] at hj
   rw [<- numAt_eq];exact h2 j (by omega)
theorem qJ {e f:Expr}{p kp pos:Pos} (K:PySem.W.Frag) (eK:X.K=K) (hc:X.calm=true) (hg:Gl X "max") (hm:X.mg "max"=none) (ha:PA X [e] (dJ te j2)) (hf:PE X f tf)
  (hs:backTo pos (starEach [e] X.env)=(false,eval e X.env)::backTo pos (starEach [] X.env):=by rfl) (hpl:(backTo pos (starEach [e] X.env)).any (·.1)=false:=by rfl) :
  PE X (.Call (.Name "max" p) [e] [⟨some (Str.ofString "default"),f,kp⟩] pos) (tH K te tf):=by
 intro pins s σ H Q I h
 refine wpAny_Call_Name_kw (eN I hg hm boot_max ?_)
 refine PyProof.Rows.callWith_kw (thn (ha pos pins s σ H (fun vs H1=>match vs with | [x]=>tf σ H1 fun d H2=>qI K x d H2 Q | _=>False) I h) fun us s1 ⟨vs,H1,I1,r1,q1⟩=>?_) hs hpl
 match vs,r1,q1 with
 | [x],r1,q1 =>
  obtain ⟨u,rfl,ru⟩:=jB r1
  refine PyProof.Rows.kws_cons (thn (hf pins s1 σ H1 _ I1 q1) fun v s2 ⟨d,H2,I2,rd,q2⟩=>PyProof.Rows.kws_nil ?_)
  exact tI K eK hc I2 ru rd q2
def tJ (pa:PA1) (pe:PTE):PTE:=fun ρ Q=>pa ρ fun x ρ1=>pe ρ1 fun p ρ2=>match cont ρ2 x,p with
 | some (.lst ds),.dat (.int d)=>∃ns:List Int,ds=ns.map .int/\(ns=[]->Q (.dat (.int d)) ρ2)/\(0 < ns.length->∀m:Int,m∈ns->(∀a∈ns,a<=m)->Q (.dat (.int m)) ρ2)
 | _,_=>False
theorem qK (ha:LA1 K te pa) (he:LE K tf pe):LE K (tH K te tf) (tJ pa pe):=fun A ρ σ H Q Q' R q k =>
 ha A ρ σ H _ _ R q fun v H1 a ρ1 q1 f1 R1 o1=>he A ρ1 σ H1 _ _ R1 q1 fun u H2 p ρ2 q2 f2 o2=>by
  obtain ⟨R2,fv⟩:=o2.frz
  split at q2
  .rename_i ds d e2
   obtain ⟨ns,rfl,q0,q2⟩:=q2
   cases (show FV K _ H2 u (.int d) from fv)
   obtain ⟨a1,xs1,rfl,g1,g2⟩:=(R2.cont (o1.keeps f2.keeps) e2).lst
   rw [g2.ints] at g1
   exact ⟨a1,ns,rfl,SqL.of g1,fun e=>k _ H2 _ ρ2 (q0 e) (f1.trans f2) ⟨R2,.int _⟩,fun h m h1 h2=>k _ H2 _ ρ2 (q2 h m h1 h2) (f1.trans f2) ⟨R2,.int _⟩⟩
  .exact q2.elim
end
def D.noL:D->Bool
 | .tup ds=>ds.all D.flat
 | .dic _ ds=>ds.all D.flat
 | d=>d.flat
section
variable {K:PySem.W.Frag}{O O':Addr->Prop}{H H':Hp}{A:Addr->Prop}{ρ:PSt}{σ:St}
theorem FVs.flats:∀{vs:List V}{ds:List D},FVs K O H vs ds->ds.all D.flat=true->FVs K O' H' vs ds
 | _,_,.nil,_=>.nil
 | _,_,.cons a b,h=>by
  rw [List.all_cons,Bool.and_eq_true] at h
  exact .cons (a.of_flat h.1) (b.flats h.2)
theorem FV.noL {a:Addr}{xs:List V}{v:V}{d:D} (h:FV K O H v d) (n:d.noL=true) (e:H a=some (.lst xs)):FV K (cB O a) H v d:=by
 have ne:∀{t:Addr}{o:HO},H t=some o->(∀ys,o≠.lst ys)->t≠a:=fun {t o} h1 h2 z=>by rw [z,e] at h1;cases h1;exact h2 _ rfl
 cases h with
 | non=>exact .non
 | bl b=>exact .bl b
 | int i=>exact .int i
 | str l h=>exact .str l h
 | ty m=>exact .ty m
 | tup no e1 f=>exact .tup (fun z=>z.elim no (ne e1 nofun)) e1 (f.flats n)
 | dic no e1 m f=>exact .dic (fun z=>z.elim no (ne e1 nofun)) e1 m (f.flats n)
 | scr _=>cases n
 | lst _ _ _=>cases n
 | obj _ _ _ _=>cases n
 | exc0 _ _=>cases n
 | exc1 _ _ _ _ _ _=>cases n
theorem FVs.noL {a:Addr}{xs:List V}:∀{vs:List V}{ds:List D},FVs K O H vs ds->ds.all D.noL=true->H a=some (.lst xs)->FVs K (cB O a) H vs ds
 | _,_,.nil,_,_=>.nil
 | _,_,.cons x y,h,e=>by
  rw [List.all_cons,Bool.and_eq_true] at h
  exact .cons (x.noL h.1 e) (y.noL h.2 e)
end
section
variable {K:PySem.W.Frag}
def mZ (c0:Str) (c:FR) (i:Nat):PTE:=fun ρ Q=>match ρ[i]? with
 | some (some (.own ds))=>c (.ins c0 [] []) [.lst ds] fun r p'=>(match r,p' with
  | .dat .non,.ins c1 ns es=>(c1=c0/\es.all D.noL=true)/\Q (.ins c1 ns es) ρ
  | _,_=>False)
 | _=>False
theorem oi {c0:Str}{c:FR}{i:Nat}:LE K (lG (aY K c0) (spR K c) [] E0 (dJ (gK i) j2)) (mZ c0 c i):=fun A ρ σ H Q Q' R q k=>by
 unfold mZ at q
 split at q
 .rename_i ds e
  have hi:i < ρ.length:=(List.getElem?_eq_some_iff.mp e).1
  obtain ⟨v,s,a,xs,rfl,ea,fx⟩:=R.get i _ e
  obtain ⟨R1,F1⟩:=R.frz e
  obtain ⟨v',s',fa⟩:=R1.get i _ (List.getElem?_set_self hi)
  rw [s] at s'
  cases s'
  have wr:∀b,Wr ρ σ b->Wr (ρ.set i (some (.dat (PV.own ds).d))) σ b\/b=a:=fun b ⟨j,p,h1,h2,h3⟩=>by
   by_cases z:j=i
   .subst z
    rw [s] at h3;cases h3;exact .inr rfl
   .exact .inl ⟨j,p,by rw [List.getElem?_set_ne (fun y=>z y.symm)];exact h1,h2,h3⟩
  refine ⟨.ref a,s,?_⟩
  intro x dx hx hdx hne
  rw [List.append_nil]
  let H2:=upd (upd H dx (.own x)) x (.ins (aY K c0) dx [])
  have g2:Gr H H2:=fun b o z=>by
   show upd (upd H dx (.own x)) x _ b=_
   rw [aB (aI z hx),aB (aI z hdx)];exact z
  generalize hρ:ρ.set i (some (.dat (PV.own ds).d))=ρ1 at R1 F1 fa wr
  have nx:¬ OO A ρ1 σ x:=R1.oo hx
  have keep2:aN (OO A ρ1 σ) H (cB (OO A ρ1 σ) x) H2:=fun b o n z=>by
   refine ⟨fun y=>?_,g2 b o z⟩
   rcases y with y | y
   .exact n y
   .rw [y,hx] at z;cases z
  refine ⟨OO A ρ1 σ,x,.ins c0 [] [],[.ref a],[.lst ds],_,rfl,rfl,fun b z=>(g2.fr (ρ:=ρ1) (σ:=σ)).dm b (R1.dom2 b z),nx,⟨x,dx,[],rfl,aS,rfl,.nil⟩,(FVs.cons (show FV K (OO A ρ1 σ) H (.ref a) (.lst ds) from fa) .nil).keeps keep2,q,fun r p' qr ow' v H' kp ha rs ov _=>?_⟩
  split at qr
  .obtain ⟨⟨rfl,nl⟩,qr⟩:=qr
   cases ov
   refine ⟨rfl,?_⟩
   obtain ⟨a',dx',fs,ea',e2,m,f⟩:=rs
   cases ea'
   have g:Gr H H':=fun b o z=>kp b o (aI z hx) (g2 b o z)
   refine k _ H' _ ρ qr g.fr ⟨x,dx',fs,rfl,fun z=>R.oo hx (.inl z),hx,e2,m,R.grA g hx (by rw [e2];exact nofun),(f.noL nl (g _ _ ea)).keeps (aN.less fun b z=>?_)⟩
   rcases z with (z | z) | z
   .exact .inl (.inl (.inl z))
   .exact .inl (.inr z)
   .exact (wr b z).elim (fun y=>.inl (.inl (.inr y))) .inr
  .exact qr.elim
 .exact q.elim
end
theorem hu1 {u:Nat} (h:u + 64 < cLine):u + 1 < cLine:=by omega
end L2
namespace K09
open PySem PySem.Spec PyProof.Rows L2
def top (i:Nat):Stmt:=PySem.Challenge.pw_shortglue_k09_beginnings.main.body.getD i (.Pass ⟨0,0,0,0⟩)
abbrev aT:Stmt:=ij (top 2) 0
abbrev aU:Stmt:=ij (top 2) 1
abbrev aJ:Stmt:=ij (top 2) 2
abbrev aE:Stmt:=ij (top 2) 3
abbrev eE:Stmt:=top 4
abbrev fu:Stmt:=top 5
abbrev fw:Stmt:=top 6
abbrev dr:Stmt:=top 7
abbrev eF:Stmt:=top 8
abbrev eG:Stmt:=top 9
abbrev cp:Stmt:=top 10
abbrev fz:Stmt:=top 11
abbrev eH:Stmt:=top 12
abbrev dt:Stmt:=top 13
abbrev bS:Stmt:=top 14
abbrev oj:Stmt:=top 15
theorem bV:ba ["self","words","word","k"] ["self","words"] (ap aT):=⟨rfl,rfl,rfl,by decide +kernel,rfl,by decide +kernel,by decide +kernel⟩
theorem e6:ba ["self"] ["self"] (ap aU):=⟨rfl,rfl,rfl,by decide +kernel,rfl,by decide +kernel,by decide +kernel⟩
theorem du:ba ["self","text"] ["self","text"] (ap aJ):=⟨rfl,rfl,rfl,by decide +kernel,rfl,by decide +kernel,by decide +kernel⟩
theorem bc:ba ["self","text","longest","k"] ["self","text"] (ap aE):=⟨rfl,rfl,rfl,by decide +kernel,rfl,by decide +kernel,by decide +kernel⟩
theorem bE:ba ["_law_cell","_law_k","_law_number"] ["_law_cell","_law_k"] (ap eE):=⟨rfl,rfl,rfl,by decide +kernel,rfl,by decide +kernel,by decide +kernel⟩
theorem bp:ba ["_law_script","_law_many","_law_cells","_law_found","_law_turn","_law_cell","_law_rest"] ["_law_script","_law_many"] (ap fu):=⟨rfl,rfl,rfl,by decide +kernel,rfl,by decide +kernel,by decide +kernel⟩
theorem jR:ba ["_law_deck_here"] ["_law_deck_here"] (ap fw):=⟨rfl,rfl,rfl,by decide +kernel,rfl,by decide +kernel,by decide +kernel⟩
theorem cc:ba ["_law_deck_here","_law_many","_law_first","_law_step"] ["_law_deck_here"] (ap dr):=⟨rfl,rfl,rfl,by decide +kernel,rfl,by decide +kernel,by decide +kernel⟩
theorem cJ:ba ["_law_deck_here","_law_letters_here","_law_many","_law_found","_law_k"] ["_law_deck_here","_law_letters_here","_law_many"] (ap eF):=⟨rfl,rfl,rfl,by decide +kernel,rfl,by decide +kernel,by decide +kernel⟩
theorem aQ:ba ["_law_deck_here","_law_letters_here","_law_many","_law_base","_law_found","_law_k","_law_sort","_law_begin","_law_word"] ["_law_deck_here","_law_letters_here","_law_many"] (ap eG):=⟨rfl,rfl,rfl,by decide +kernel,rfl,by decide +kernel,by decide +kernel⟩
theorem bG:ba ["_law_words_here","_law_found","_law_word","_law_k"] ["_law_words_here"] (ap cp):=⟨rfl,rfl,rfl,by decide +kernel,rfl,by decide +kernel,by decide +kernel⟩
theorem bF:ba ["_law_deck_here","_law_letters_here","_law_words_here","_law_found","_law_k","_law_number","_law_letter","_law_word"] ["_law_deck_here","_law_letters_here","_law_words_here"] (ap fz):=⟨rfl,rfl,rfl,by decide +kernel,rfl,by decide +kernel,by decide +kernel⟩
theorem jj:ba ["_law_found"] ["_law_found"] (ap eH):=⟨rfl,rfl,rfl,by decide +kernel,rfl,by decide +kernel,by decide +kernel⟩
theorem ce:ba ["_law_begun","_law_text_here","_law_best","_law_one"] ["_law_begun","_law_text_here"] (ap dt):=⟨rfl,rfl,rfl,by decide +kernel,rfl,by decide +kernel,by decide +kernel⟩
theorem bg:ba ["_law_held","_law_begun","_law_letters_here","_law_k","_law_longer","_law_told"] ["_law_held","_law_begun","_law_letters_here"] (ap bS):=⟨rfl,rfl,rfl,by decide +kernel,rfl,by decide +kernel,by decide +kernel⟩
theorem cr:ba ["_law_script","_law_deck_here","_law_letters_here","_law_many","_law_words_here","_law_others","_law_handed","_law_held","_law_beside","_law_begun","_law_k","_law_text_here","_law_end","_law_told","_law_one"] ["_law_script"] (ap oj):=⟨rfl,rfl,rfl,by decide +kernel,rfl,by decide +kernel,by decide +kernel⟩
structure Txt (mg:Str->Option Value):Prop where
 b_bool:mg "bool"=none
 b_int:mg "int"=none
 b_isinstance:mg "isinstance"=none
 b_len:mg "len"=none
 b_list:mg "list"=none
 b_max:mg "max"=none
 b_min:mg "min"=none
 b_range:mg "range"=none
 b_reversed:mg "reversed"=none
 b_tuple:mg "tuple"=none
structure TxC (K:PySem.W.Frag):Prop where
 cl_Beginnings:Cls K (aY K "Beginnings")
 n_Beginnings_words:cG K (aY K "Beginnings") "words"
 n_Beginnings_numbers:cG K (aY K "Beginnings") "numbers"
local macro_rules | `(tactic| walk_at "s")=>`(tactic| first | (with_reducible omega) | (with_reducible assumption) | (with_reducible rfl) | exact Nat.le_of_ble_eq_true rfl | (simp only [List.length_cons,List.length_nil,List.length_append,List.length_map];(with_reducible omega)) | assumption | rfl | (refine ⟨?_,?_⟩ <;> first | (with_reducible omega) | (with_reducible assumption) | (with_reducible rfl) | exact Nat.le_of_ble_eq_true rfl | assumption | rfl | (refine ⟨?_,?_⟩ <;> first | (with_reducible omega) | (with_reducible assumption) | (with_reducible rfl) | exact Nat.le_of_ble_eq_true rfl | assumption | rfl | (refine ⟨?_,?_⟩ <;> first | (with_reducible omega) | (with_reducible assumption) | (with_reducible rfl) | exact Nat.le_of_ble_eq_true rfl | assumption | rfl | fail) | fail) | fail) | omega | fail)
local macro_rules | `(tactic| walk_at "r")=>`(tactic| ((try dsimp only [List.set_cons_zero,List.set_cons_succ,mL,mM,mN,tj,tm,jf,hZ,h8,kj,km,List.tail_cons,jg,jh,kn]);(conv=>whnf);(repeat (first | ((with_reducible refine And.intro ?_ ?_);(next=>walk_at "s");(conv=>whnf)) | ((with_reducible refine (show Exists _ from ?_));(first | (refine ⟨_,rfl,?_⟩) | (refine ⟨_,qB.lst _,?_⟩) | (refine ⟨_,qB.tup _,?_⟩));(conv=>whnf)) | ((refine (show gp _ _ _ from ?_));(first | (with_reducible refine vC (by assumption) ?_) | (with_reducible refine vD (by assumption) ?_) | (with_reducible refine um (by assumption) ?_) | (with_reducible refine uo (by assumption) ?_) | ((with_reducible refine uk ?_ ?_);(next=>(first | (with_reducible rfl) | (with_reducible assumption) | (with_reducible omega)))) | ((with_reducible refine ul ?_ ?_);(next=>(first | (with_reducible rfl) | (with_reducible assumption) | (with_reducible omega)))) | ((with_reducible refine sC ?_ ?_);(next=>(first | (with_reducible rfl) | (with_reducible assumption) | (with_reducible omega)))) | ((with_reducible refine sD ?_ ?_);(next=>(first | (with_reducible rfl) | (with_reducible assumption) | (with_reducible omega)))));(conv=>whnf))));(try refine (show gp _ _ _ from ?_));(try dsimp only [List.set_cons_zero,List.set_cons_succ,mL,mM,mN,tj,tm,jf,hZ,h8,kj,km,List.tail_cons,jg,jh,kn])))
def cK:Nat:=4
abbrev d2:List Str:=["words","numbers"]
abbrev dR (ws:List (List Nat)):List D:=[.tup (ws.map .str),tG (cb ws)]
def aF:FR
 | .ins "Beginnings" [] [],[d],Q=>∃ws:List (List Nat),qB d (ws.map .str)/\(ws.length<=40/\∀w∈ws,w.length<=60)/\Q (.dat .non) (.ins "Beginnings" d2 (dR ws))
 | _,_,_=>False
def cM:Nat:=1
def ax:FN
 | [.obj c ns fs],Q=>c="Beginnings"/\ns=d2/\∃ws:List (List Nat),fs=dR ws/\Q (.dat (.int ((cb ws).length:Int)))
 | _,_=>False
def bW:Nat:=2
def oR (bs:List (List Nat)) (w:List Nat):D:=if w∈bs then .int (bs.idxOf w:Nat) else .non
theorem ol (bs:List (List Nat)) (w:List Nat):∀(a:Nat),gB (bs.map kS) ((List.range' a bs.length).map fun i:Nat=>D.int (i:Int)) (kS w)=if w∈bs then some (.int ((a + bs.idxOf w:Nat):Int)) else none:=by
 induction bs with
 | nil=>intro a;rfl
 | cons b r ih =>
  intro a
  unfold gB
  rw [List.map_cons,List.length_cons,List.range'_succ,List.map_cons,List.zip_cons_cons,List.find?_cons]
  by_cases e:b=w
  .subst e
   rw [decide_eq_true (rfl:kS b=kS b),if_pos (List.mem_cons_self ..),List.idxOf_cons_self]
   rfl
  .have n:¬ (kS b=kS w):=fun z=>e (lO (Sum.inr.inj z))
   rw [decide_eq_false n]
   have h:=ih (a + 1)
   unfold gB at h
   show Option.map _ (List.find? _ _)=_
   rw [h]
   by_cases m:w∈r
   .rw [if_pos m,if_pos (List.mem_cons_of_mem _ m),List.idxOf_cons,show (b == w)=false from beq_eq_false_iff_ne.mpr e]
    exact congrArg (fun z:Nat=>some (D.int (z:Int))) (by show a + 1 + r.idxOf w=a + (r.idxOf w + 1);omega)
   .rw [if_neg m,if_neg (fun z=>(List.mem_cons.mp z).elim (fun z=>e z.symm) m)]
theorem iB (bs:List (List Nat)) (w:List Nat):gB (bs.map kS) ((List.range bs.length).map fun i:Nat=>D.int (i:Int)) (kS w)=if w∈bs then some (.int (bs.idxOf w:Nat)) else none:=by
 rw [List.range_eq_range',ol bs w 0]
 simp only [Nat.zero_add]
def ai:FN
 | [.obj c ns fs,.str t],Q=>c="Beginnings"/\ns=d2/\∃ws:List (List Nat),fs=dR ws/\Q (.dat (oR (cb ws) t))
 | _,_=>False
def bL:Nat:=4
def tZ (bs:List (List Nat)) (t:List Nat) (k:Nat):Prop:=k<=t.length/\t.drop (t.length - k)∈bs
def m3 (bs:List (List Nat)) (t:List Nat) (k:Nat):Prop:=tZ bs t k/\∀j,tZ bs t j->j<=k
theorem kt {bs:List (List Nat)}{w x:List Nat}:x∈jy bs w ↔ x∈bs\/x=w:=by
 unfold jy
 split
 .rename_i h;exact ⟨.inl,fun z=>z.elim id fun z=>by rw [z];exact h⟩
 .rw [List.mem_append,List.mem_singleton]
theorem m4 {bs:List (List Nat)}{w:List Nat}{m:Nat} (h:∀b∈bs,b.length<=m) (hw:w.length<=m):∀j,∀b∈fJ bs w j,b.length<=m
 | 0=>h
 | j + 1=>fun b hb=>by
  rcases kt.mp hb with hb | rfl
  .exact m4 h hw j b hb
  .rw [List.length_take];omega
theorem iC {ws:List (List Nat)}{m:Nat} (h:∀w∈ws,w.length<=m):∀i,i<=ws.length->∀b∈e5 ws i,b.length<=m
 | 0,_=>fun b hb=>by rw [List.mem_singleton.mp hb];exact Nat.zero_le _
 | i + 1,hi=>m4 (iC h i (by omega)) (h _ (c5 (show i < ws.length by omega))) _
theorem ku {bs:List (List Nat)}{w x:List Nat} (h:x∈bs):∀j,x∈fJ bs w j
 | 0=>h
 | j + 1=>kt.mpr (.inl (ku h j))
theorem kx (ws:List (List Nat)):∀i,[]∈e5 ws i
 | 0=>List.mem_cons_self ..
 | i + 1=>ku (kx ws i) _
theorem f8 (ws:List (List Nat)):[]∈cb ws:=kx ws _
theorem iD {ws:List (List Nat)}{t:List Nat}{m:Int}{k:Nat} (hb:∀w∈ws,(w.length:Int)<=m) (h0:0<=m) (h:tZ (cb ws) t k):(k:Int)<=m/\k<=t.length:=by
 have:=iC (ws:=ws) (m:=m.toNat) (fun w hw=>by have:=hb w hw;omega) ws.length (Nat.le_refl _) _ h.2
 rw [List.length_drop] at this
 have:=h.1
 omega
def ag:FN
 | [.obj c ns fs,.str t],Q=>c="Beginnings"/\ns=d2/\∃ws:List (List Nat),fs=dR ws/\((t.length<=100000/\ws.length<=1000)/\∀w∈ws,w.length<=60)/\∀k:Nat,m3 (cb ws) t k->Q (.dat (.int (k:Int)))
 | _,_=>False
def fK:Nat:=3
def Dk (zs:List Int):Prop:=∀x∈zs,0<=x/\x < 1000
def a7:FN
 | [.int c,.int k],Q=>(0<=k/\k<=100000)/\∀z:Int,0<=z->Q (.dat (.int z))
 | _,_=>False
def gC:Nat:=7
def aZ:FN
 | [d,.int mo],Q=>∃ns:List Int,(d=.scr ns\/d=.lst (ns.map .int))/\(ns.length<=64/\0<=mo/\mo<=2000)/\∀zs:List Int,Dk zs->zs.length=mo.toNat->Q (.own (zs.map .int))
 | _,_=>False
def gD:Nat:=1
def az:FR
 | .own ds,[],Q=>∃zs:List Int,ds=zs.map .int/\(Dk zs/\0 < zs.length/\zs.length<=100000)/\∀(z:Int) (ys:List Int),0<=z->z < 1000->Dk ys->ys.length + 1=zs.length->Q (.dat (.int z)) (.own (ys.map .int))
 | _,_,_=>False
def eh:Nat:=4
def oS (n f st:Nat):List Nat:=(List.range n).map fun k=>97 + (f + st * k) % 26
theorem qL {n f st:Nat} (hn:n=2\/n=3\/n=26) (hs:st=1\/st=5\/st=25) (hf:f < 26):(oS n f st).Nodup:=by
 have h:∀n∈[2,3,26],∀st∈[1,5,25],∀f:Fin 26,decide (oS n f.1 st).Nodup=true:=by decide +kernel
 exact of_decide_eq_true (h n (by rcases hn with rfl | rfl | rfl <;> decide) st (by rcases hs with rfl | rfl | rfl <;> decide) ⟨f,hf⟩)
theorem om (n f st:Nat):Lts (oS n f st):=fun c hc=>by
 obtain ⟨k,_,rfl⟩:=List.mem_map.mp hc
 have:=Nat.mod_lt (f + st * k) (show 0 < 26 by decide)
 exact ⟨by omega,by omega⟩
theorem tK {j:Nat} (h:j < 26):atI [97,98,99,100,101,102,103,104,105,106,107,108,109,110,111,112,113,114,115,116,117,118,119,120,121,122] (j:Int)=some (97 + j):=by
 have:∀j:Fin 26,atI [97,98,99,100,101,102,103,104,105,106,107,108,109,110,111,112,113,114,115,116,117,118,119,120,121,122] (j.1:Int)=some (97 + j.1):=by decide +kernel
 exact this ⟨j,h⟩
def aV:FR
 | .own ds,[],Q=>∃zs:List Int,ds=zs.map .int/\(Dk zs/\3<=zs.length/\zs.length<=100000)/\∀(ls:List Nat) (ys:List Int),2<=ls.length->ls.length<=26->Lts ls->ls.Nodup->Dk ys->ys.length + 3=zs.length->Q (.own (ls.map fun c=>.str [c])) (.own (ys.map .int))
 | _,_,_=>False
def fL:Nat:=5
def a8:FR
 | .own ds,[.lst es,.int n],Q=>∃zs:List Int,ds=zs.map .int/\∃ls:List Nat,es=ls.map (fun c=>.str [c])/\(0 < ls.length/\ls.length<=26/\Lts ls)/\(Dk zs/\zs.length<=100000)/\(0<=n/\n<=(zs.length:Int))/\∀(w:List Nat) (ys:List Int),w.length=n.toNat->Lts w->(∀c∈w,c∈ls)->Dk ys->ys.length + n.toNat=zs.length->Q (.dat (.str w)) (.own (ys.map .int))
 | _,_,_=>False
def fM:Nat:=9
def Wd (w:List Nat):Prop:=w.length<=60/\Lts w
theorem eI {ws:List (List Nat)} (h:∀w∈ws,Wd w):oJ (.lst (ws.map .str)) (.lst []):=oJ.of (Sh.lstS fun w hw=>(h w hw).2) (Sh.lstI [])
theorem dS (ws:List (List Nat)):deq (.lst (ws.map .str)) (.lst [])=decide (ws=[]):=by
 show PyData.eqv (.list (D.pys (ws.map .str))) (.list [])=_
 rw [jN]
 cases ws <;> simp [PyData.eqv,PyData.eqvAll]
theorem f9 {ls:List Nat}{j:Nat} (h:j < ls.length):atI (ls.map fun c=>D.str [c]) (j:Int)=some (.str [ls.getD j 0]) :=
 lZ (j:=j) (by rw [List.getElem?_map,List.getElem?_eq_getElem h,List.getD_eq_getElem?_getD,List.getElem?_eq_getElem h];rfl) rfl
theorem tL {ls:List Nat} (hL:Lts ls) {j:Nat} (h:j < ls.length):Lts [ls.getD j 0]:=by
 rw [List.getD_eq_getElem?_getD,List.getElem?_eq_getElem h]
 exact Lts.one (hL _ (List.getElem_mem h))
theorem qM {ps:List (List Nat)} (h:0 < ps.length):atI (ps.map D.str) (-1)=some (.str (pw ps (ps.length - 1))):=by
 unfold atI ixN
 rw [List.length_map,if_neg (by decide),if_pos (by omega),show ((-1:Int) + (ps.length:Int)).toNat=ps.length - 1 by omega]
 show (ps.map D.str)[ps.length - 1]?=_
 rw [List.getElem?_map,je (by omega)];rfl
def a9:FR
 | .own ds,[.lst es,.int mo],Q=>∃zs:List Int,ds=zs.map .int/\∃ls:List Nat,es=ls.map (fun c=>.str [c])/\(0 < ls.length/\ls.length<=26/\Lts ls)/\(Dk zs/\zs.length<=10000)/\(0<=mo/\mo<=40/\16 + 8 * mo<=(zs.length:Int))/\∀(ps:List (List Nat)) (ys:List Int),(ps.length:Int)=mo->(∀w∈ps,Wd w)->Dk ys->(zs.length:Int)<=ys.length + 16 + 8 * mo->ys.length<=zs.length->Q (.dat (.lst (ps.map .str))) (.own (ys.map .int))
 | _,_,_=>False
def c6:Nat:=4
def aA:FN
 | [.lst ds],Q=>∃ws:List (List Nat),ds=ws.map .str/\(ws.length<=40/\∀w∈ws,Wd w)/\Q (.dat (.lst ((cb ws).map .str)))
 | _,_=>False
def gE:Nat:=8
def bq:FR
 | .own ds,[.lst es,.lst fs],Q=>∃zs:List Int,ds=zs.map .int/\∃ls:List Nat,es=ls.map (fun c=>.str [c])/\∃ws:List (List Nat),fs=ws.map .str/\(0 < ls.length/\ls.length<=26/\Lts ls)/\(Dk zs/\5<=zs.length/\zs.length<=10000)/\(∀w∈ws,Wd w)/\∀(t:List Nat) (ys:List Int),t.length<=240->Dk ys->zs.length<=ys.length + 5->ys.length<=zs.length->Q (.dat (.str t)) (.own (ys.map .int))
 | _,_,_=>False
def fN:Nat:=1
def aL:FN
 | [.int z],Q=>Q (.dat (.bl true))
 | _,_=>False
def ei:Nat:=4
def aP:FN
 | [.lst ds,.str t],Q=>∃bs:List (List Nat),ds=bs.map .str/\(t.length<=100000/\[]∈bs)/\∀k:Nat,m3 bs t k->Q (.dat (.int (k:Int)))
 | _,_=>False
def cu:Nat:=6
theorem qN {bs:List (List Nat)} (h:bs.Nodup) (w:List Nat):(jy bs w).Nodup:=by
 unfold jy
 split
 .exact h
 .rename_i n
  rw [List.nodup_append]
  exact ⟨h,List.nodup_cons.mpr ⟨(fun h=>nomatch h),.nil⟩,fun x hx y hy z=>n (by rw [<- List.mem_singleton.mp hy,<- z];exact hx)⟩
theorem m5 {bs:List (List Nat)} (h:bs.Nodup) (w:List Nat):∀j,(fJ bs w j).Nodup
 | 0=>h
 | j + 1=>qN (m5 h w j) _
theorem m7 (ws:List (List Nat)):∀i,(e5 ws i).Nodup
 | 0=>List.nodup_cons.mpr ⟨(fun h=>nomatch h),.nil⟩
 | i + 1=>m5 (m7 ws i) _ _
theorem qO (ws:List (List Nat)):(cb ws).Nodup:=m7 ws _
theorem qP {bs:List (List Nat)} (nd:bs.Nodup) {k:Nat} (h:k < bs.length):oR bs (pw bs k)=.int (k:Int):=by
 have m:=c5 h
 unfold oR
 rw [if_pos m]
 have l:=List.idxOf_lt_length_iff.mpr m
 have e:=List.getElem_idxOf l
 have g:pw bs k=bs[k]:=by unfold pw;rw [List.getD_eq_getElem?_getD,List.getElem?_eq_getElem h];rfl
 rw [(List.getElem_inj (h₀:=l) (h₁:=h) nd).mp (e.trans g)]
theorem m8 (ws:List (List Nat)):(dR ws).all D.noL=true:=by
 have h1:(ws.map D.str).all D.flat=true:=by rw [List.all_map];exact List.all_eq_true.mpr fun _ _=>rfl
 have h2:((List.range (cb ws).length).map fun i:Nat=>D.int (i:Int)).all D.flat=true:=by rw [List.all_map];exact List.all_eq_true.mpr fun _ _=>rfl
 show (D.noL (.tup (ws.map .str)) && (D.noL (tG (cb ws)) && true))=true
 rw [show D.noL (.tup (ws.map .str))=true from h1,show D.noL (tG (cb ws))=true from h2];rfl
theorem jk {bs:List (List Nat)}{t:List Nat}{j k:Nat} (h1:m3 bs t j) (h2:m3 bs t k):j=k:=Nat.le_antisymm (h2.2 j h1.1) (h1.2 k h2.1)
theorem m9 {bs:List (List Nat)}{b:List Nat}{k:Nat} (h:b∈bs) (hk:m3 bs b k):k=b.length:=Nat.le_antisymm hk.1.1 (hk.2 _ ⟨Nat.le_refl _,by rw [Nat.sub_self];exact h⟩)
def al:FN
 | [.obj c ns fs,.lst ds,.lst es],Q=>c="Beginnings"/\ns=d2/\∃ws:List (List Nat),fs=dR ws/\ds=(cb ws).map .str/\∃ls:List Nat,es=ls.map (fun c=>.str [c])/\(0 < ls.length/\ls.length<=26)/\(ws.length<=40/\∀w∈ws,Wd w)/\Q (.dat (.bl true))
 | _,_=>False
def oT:Nat:=15
abbrev ky:FN:=vq
def bA:PTS:=(aM (oO "Beginnings" [] "words" 0 (pCB kd (aj (pSl 1) aC))) oQ)
theorem eJ (d:D) (Q:PV->PV->Prop) (h:aF (.ins "Beginnings" [] []) ([d]) Q):lc bA cK (.ins "Beginnings" [] []) ([d]) Q:=by
 show bA _ [some (.ins "Beginnings" [] []),some (.dat (d)),none,none]
 obtain ⟨ws,hd,hw,q⟩:=h
 rcases hd with rfl | rfl
 .walk_at "r"
  refine ⟨ws,_,rfl,hw,?_⟩
  walk_at "r"
  exact q
 .walk_at "r"
  refine ⟨ws,_,rfl,hw,?_⟩
  walk_at "r"
  exact q
theorem e8:∀p ds Q,p.isOwn=true->aF p ds Q->lc bA cK p ds Q:=fun p ds Q _ h=>by
 unfold aF at h
 split at h
 .exact eJ _ _ h
 .exact h.elim
def bB:PTS:=(ck (pCB fg (aj (pFz (sX "Beginnings" ["words","numbers"] 1 (pSl 0))) aC)))
theorem eM (c:Str) (ns:List Str) (fs:List D) (Q:PV->Prop) (h:ax ([.obj c ns fs]) Q):hU bB cM ([.obj c ns fs]) Q:=by
 show bB _ [some (.dat (.obj c ns fs))]
 obtain ⟨rfl,rfl,ws,rfl,q⟩:=h
 walk_at "r"
 rw [List.length_map]
 exact q
theorem e9:∀ds Q,ax ds Q->hU bB cM ds Q:=fun ds Q h=>by
 unfold ax at h
 split at h
 .exact eM _ _ _ _ h
 .exact h.elim
def a6:PTS:=(ck (tD (pFz (sX "Beginnings" ["words","numbers"] 1 (pSl 0))) (bY 1)))
theorem c7 (c:Str) (ns:List Str) (fs:List D) (t:List Nat) (Q:PV->Prop) (h:ai ([.obj c ns fs,.str t]) Q):hU a6 bW ([.obj c ns fs,.str t]) Q:=by
 show a6 _ [some (.dat (.obj c ns fs)),some (.dat (.str t))]
 obtain ⟨rfl,rfl,ws,rfl,q⟩:=h
 have e:=iB (cb ws) t
 walk_at "r"
 rw [show (Sum.inr (S t):Key)=kS t from rfl,e]
 unfold oR at q
 by_cases m:t∈cb ws
 .rw [if_pos m] at q ⊢;exact q
 .rw [if_neg m] at q ⊢;exact q
theorem dw:∀ds Q,ai ds Q->hU a6 bW ds Q:=fun ds Q h=>by
 unfold ai at h
 split at h
 .exact c7 _ _ _ _ _ h
 .exact h.elim
def aW:PTS:=(aM (aX (tJ (pFz (qt [none] (jH (sX "Beginnings" ["words","numbers"] 0 (pSl 0))) (au 0) qu (pCB fg (aj (pSl 0) aC)))) (pC (.int 0))) (au 2)) (aM (fq (vp (aj (pFz (pCB qx (aj (pSl 2) (aj (pFz (pCB fg (aj (pSl 1) aC))) aC)))) (aj (pFz (pC (.int 0))) (aj (pFz (pUn ti (pFz (pC (.int 1))))) aC)))) (au 3) (hE (pB (pOp uT (pFz (dO (pSl 1) (cX (pOp tX (pFz (pCB fg (aj (pSl 1) aC))) (pSl 3))) eW)) (pFz (sX "Beginnings" ["words","numbers"] 1 (pSl 0))))) (ck (bY 3)) bU)) (ck (pC (.int 0)))))
theorem cE (c:Str) (ns:List Str) (fs:List D) (t:List Nat) (Q:PV->Prop) (h:ag ([.obj c ns fs,.str t]) Q):hU aW bL ([.obj c ns fs,.str t]) Q:=by
 show aW _ [some (.dat (.obj c ns fs)),some (.dat (.str t)),none,none]
 obtain ⟨rfl,rfl,ws,rfl,⟨hl,hw⟩,q⟩:=h
 have hl1:=hl.1
 have hwl:ws.length<=1000:=hl.2
 have hlm:(ws.map D.str).length=ws.length:=List.length_map _
 walk_at "r"
 refine cm1 (e:=D.str) (xs:=ws) (fun w=>.int (w.length:Int)) (fun w hw v K1 k1=>?_) (fun v=>?_)
 .walk_at "r"
  exact k1 _
 rw [show ws.map (fun w=>D.int (w.length:Int))=(ws.map fun w=>(w.length:Int)).map D.int by rw [List.map_map];rfl]
 walk_at "r"
 refine ⟨fun he=>?_,fun _ m hm hmax=>?_⟩
 .have hb:∀w∈ws,(w.length:Int)<=0:=fun w hw=>by rw [List.map_eq_nil_iff.mp he] at hw;cases hw
  have h0:(0:Int)<=0:=Int.le_refl 0
  walk_at "r"
  have hM:(if (t.length:Int) < 0 then (t.length:Int) else 0)=((min t.length (0:Int).toNat:Nat):Int):=by split <;> omega
  rw [hM]
  generalize hMd:min t.length (0:Int).toNat=M
  have hM2:M<=t.length/\M<=60:=by omega
  walk_at "r"
  refine ⟨fun i ρ=>(∃v3:Option PV,ρ=[some (.dat (.obj "Beginnings" d2 (dR ws))),some (.dat (.str t)),some (.dat (.int 0)),v3])/\∀j,M - i < j->j<=M->t.drop (t.length - j)∉cb ws,⟨⟨_,rfl⟩,fun j h1 h2=>by omega⟩,?_,?_⟩
  .rintro i ρ d hi ed ⟨⟨v3,rfl⟩,ih⟩
   have hi:i < ((M:Int) - 0).toNat:=hi
   obtain ⟨k,hk,hk2⟩:∃k:Nat,(M:Int) - (i:Int)=(k:Int)/\k=M - i:=⟨M - i,by omega,rfl⟩
   have ed:d=.int ((M:Int) - (i:Int)):=ed
   rw [hk] at ed
   subst ed
   walk_at "r"
   have e1:dL t (some ((t.length:Int) - (k:Int))) none=t.drop (t.length - k):=by
    rw [show (t.length:Int) - (k:Int)=((t.length - k:Nat):Int) by omega,gj]
   rw [e1,show (Sum.inr (S (t.drop (t.length - k))):Key)=kS (t.drop (t.length - k)) from rfl,iB]
   by_cases c:t.drop (t.length - k)∈cb ws
   .rw [if_pos c]
    walk_at "r"
    refine q k ⟨⟨by omega,c⟩,fun j hj=>?_⟩
    have:=iD hb h0 hj
    rcases Nat.lt_or_ge k j with h | h
    .exact absurd hj.2 (ih j (by omega) (by omega))
    .exact h
   .rw [if_neg c]
    walk_at "r"
    intro j h1 h2
    by_cases hj:j=k
    .rw [hj];exact c
    .exact ih j (by omega) h2
  .rintro ρ ⟨⟨v3,rfl⟩,ih⟩
   have ih:∀j,M - ((M:Int) - 0).toNat < j->j<=M->t.drop (t.length - j)∉cb ws:=ih
   walk_at "r"
   refine q 0 ⟨⟨Nat.zero_le _,by rw [Nat.sub_zero,List.drop_length];exact f8 ws⟩,fun j hj=>?_⟩
   have:=iD hb h0 hj
   rcases Nat.lt_or_ge 0 j with h | h
   .exact absurd hj.2 (ih j (by omega) (by omega))
   .exact h
 .have hb:∀w∈ws,(w.length:Int)<=m:=fun w hw=>hmax _ (List.mem_map.mpr ⟨w,hw,rfl⟩)
  obtain ⟨w0,hw0,e0⟩:=List.mem_map.mp hm
  have h0:0<=m:=by have e0:(w0.length:Int)=m:=e0;omega
  have hm60:m<=60:=by have e0:(w0.length:Int)=m:=e0;have:=hw w0 hw0;omega
  walk_at "r"
  have hM:(if (t.length:Int) < m then (t.length:Int) else m)=((min t.length (m).toNat:Nat):Int):=by split <;> omega
  rw [hM]
  generalize hMd:min t.length (m).toNat=M
  have hM2:M<=t.length/\M<=60:=by omega
  walk_at "r"
  refine ⟨fun i ρ=>(∃v3:Option PV,ρ=[some (.dat (.obj "Beginnings" d2 (dR ws))),some (.dat (.str t)),some (.dat (.int m)),v3])/\∀j,M - i < j->j<=M->t.drop (t.length - j)∉cb ws,⟨⟨_,rfl⟩,fun j h1 h2=>by omega⟩,?_,?_⟩
  .rintro i ρ d hi ed ⟨⟨v3,rfl⟩,ih⟩
   have hi:i < ((M:Int) - 0).toNat:=hi
   obtain ⟨k,hk,hk2⟩:∃k:Nat,(M:Int) - (i:Int)=(k:Int)/\k=M - i:=⟨M - i,by omega,rfl⟩
   have ed:d=.int ((M:Int) - (i:Int)):=ed
   rw [hk] at ed
   subst ed
   walk_at "r"
   have e1:dL t (some ((t.length:Int) - (k:Int))) none=t.drop (t.length - k):=by
    rw [show (t.length:Int) - (k:Int)=((t.length - k:Nat):Int) by omega,gj]
   rw [e1,show (Sum.inr (S (t.drop (t.length - k))):Key)=kS (t.drop (t.length - k)) from rfl,iB]
   by_cases c:t.drop (t.length - k)∈cb ws
   .rw [if_pos c]
    walk_at "r"
    refine q k ⟨⟨by omega,c⟩,fun j hj=>?_⟩
    have:=iD hb h0 hj
    rcases Nat.lt_or_ge k j with h | h
    .exact absurd hj.2 (ih j (by omega) (by omega))
    .exact h
   .rw [if_neg c]
    walk_at "r"
    refine ⟨⟨_,rfl⟩,fun j h1 h2=>?_⟩
    by_cases hj:j=k
    .rw [hj];exact c
    .exact ih j (by omega) h2
  .rintro ρ ⟨⟨v3,rfl⟩,ih⟩
   have ih:∀j,M - ((M:Int) - 0).toNat < j->j<=M->t.drop (t.length - j)∉cb ws:=ih
   walk_at "r"
   refine q 0 ⟨⟨Nat.zero_le _,by rw [Nat.sub_zero,List.drop_length];exact f8 ws⟩,fun j hj=>?_⟩
   have:=iD hb h0 hj
   rcases Nat.lt_or_ge 0 j with h | h
   .exact absurd hj.2 (ih j (by omega) (by omega))
   .exact h
theorem cT:∀ds Q,ag ds Q->hU aW bL ds Q:=fun ds Q h=>by
 unfold ag at h
 split at h
 .exact cE _ _ _ _ _ h
 .exact h.elim
def cN:PTS:=(aM (aX (pOp cA (pFz (pOp fh (pSl 0) (pFz (pC (.int 2305843009213693951))))) (pFz (pOp k8 (pFz (pOp k8 (pSl 1) (pSl 1))) (pFz (pC (.int 48271)))))) (au 2)) (aM (aX (pOp fh (pFz (pOp cA (pFz (pOp cA (pSl 2) (pFz (pOp k8 (pSl 1) (pFz (pC (.int 9973))))))) (pFz (pC (.int 20021))))) (pFz (pC (.int 2305843009213693951)))) (au 2)) (aM (aX (pOp fh (pFz (pOp k8 (pSl 2) (pSl 2))) (pFz (pC (.int 2305843009213693951)))) (au 2)) (aM (aX (pOp k8 (pFz (pOp cA (pFz (pOp cA (pSl 2) (pFz (pOp k8 (pSl 1) (pFz (pC (.int 16807))))))) (pFz (pC (.int 11))))) (pFz (pC (.int 69621)))) (au 2)) (aM (aX (pOp fh (pSl 2) (pFz (pC (.int 2305843009213693951)))) (au 2)) (aM (aX (pOp fh (pFz (pOp k8 (pSl 2) (pSl 2))) (pFz (pC (.int 2305843009213693951)))) (au 2)) (ck (pOp qW (pSl 2) (pFz (pC (.int 4096)))))))))))
theorem iE (c k:Int) (Q:PV->Prop) (h:a7 ([.int c,.int k]) Q):hU cN fK ([.int c,.int k]) Q:=by
 show cN _ [some (.dat (.int c)),some (.dat (.int k)),none]
 obtain ⟨⟨h0,h1⟩,q⟩:=h
 walk_at "r"
 exact q _ (Int.ediv_nonneg (Int.emod_nonneg _ (by decide)) (by decide))
theorem jl:∀ds Q,a7 ds Q->hU cN fK ds Q:=fun ds Q h=>by
 unfold a7 at h
 split at h
 .exact iE _ _ _ h
 .exact h.elim
def dy:PTS:=(aM (aX (pOp cA (pFz (pCB nW (aj (pSl 0) aC))) (pFz (k6 (aj (pFz (pCB fg (aj (pSl 0) aC))) aC)))) (au 2)) (aM (aX (k6 aC) (au 3)) (aM (aX (pC (.int 0)) (au 4)) (aM (jI (pB (pOp fLt (pFz (pCB fg (aj (pSl 3) aC))) (pSl 1))) (aM (fq (jH (bY 2)) (au 5) (aM (aX (bY 5) (au 6)) (aM (fH (hE (pOr (pB (pOp fGt (pSl 4) (pFz (pC (.int 0))))) (pB (pOp fLt (pSl 5) (pFz (pOp vJ (pFz (pC (.int 10))) (pFz (pC (.int 18)))))))) (aM (hC (qv 3 (pOp fh (pFz (cY a7 (aj (pFz (bY 5)) (aj (pFz (pOp cA (pFz (pCB fg (aj (pSl 3) aC))) (pFz (pC (.int 1))))) aC)))) (pFz (pC (.int 1000)))))) (aX (pC (.int 0)) (au 6))) bU)) (jI (nU (pB (pOp fGt (pSl 6) (pFz (pC (.int 0))))) (pB (pOp fLt (pFz (pCB fg (aj (pSl 3) aC))) (pSl 1)))) (aM (hC (qv 3 (pOp fh (pSl 6) (pFz (pC (.int 1000)))))) (aX (pOp qW (pSl 6) (pFz (pC (.int 1000)))) (au 6))))))) (aX (pOp cA (pSl 4) (pFz (pC (.int 1)))) (au 4)))) (ck (kf (pFz (dO (pSl 3) eW (cX (bY 1))))))))))
theorem jm (d:D) (mo:Int) (Q:PV->Prop) (h:aZ ([d,.int mo]) Q):hU dy gC ([d,.int mo]) Q:=by
 show dy _ [some (.dat (d)),some (.dat (.int mo)),none,none,none,none,none]
 obtain ⟨ns,hd,⟨hn,h0,h1⟩,q⟩:=h
 obtain ⟨n,rfl⟩:∃n:Nat,mo=(n:Int):=⟨mo.toNat,by omega⟩
 have ecs:ns.map D.int++[D.int (ns.length:Int)]=(ns++[(ns.length:Int)]).map D.int:=by rw [List.map_append];rfl
 have hnm:(ns.map D.int).length=ns.length:=List.length_map _
 rcases hd with rfl | rfl
 .walk_at "r"
  rw [ecs]
  generalize D.scr ns=d0
  generalize hcs:ns++[(ns.length:Int)]=cs
  have hcl:cs.length=ns.length + 1:=by rw [<- hcs,List.length_append];rfl
  have hcm:(cs.map D.int).length=cs.length:=List.length_map _
  refine ⟨fun m ρ=>∃(x:Option PV) (zs:List Int) (tn:Nat) (v5 v6:Option PV),(x=some (.own (cs.map .int))\/x=some (.dat (.lst (cs.map .int))))/\Dk zs/\zs.length<=n + 65/\tn<=zs.length/\m=n - zs.length/\ρ=[some (.dat d0),some (.dat (.int (n:Int))),x,some (.own (zs.map .int)),some (.dat (.int (tn:Int))),v5,v6],⟨n,_,[],0,_,_,.inl rfl,nofun,Nat.zero_le _,Nat.zero_le _,rfl,rfl⟩,?_⟩
  rintro m ρ ⟨x,zs,tn,v5,v6,hx,hz,hzl,htn,hm,rfl⟩
  have hzm:(zs.map D.int).length=zs.length:=List.length_map _
  have fin:∀zs:List Int,Dk zs->n<=zs.length->Q (.own ((zs.take n).map D.int).reverse):=fun zs hz hl=>by
   rw [<- List.map_reverse]
   refine q _ (fun x hx=>hz x (List.mem_of_mem_take (List.mem_reverse.mp hx))) ?_
   rw [List.length_reverse,List.length_take,Int.toNat_natCast];omega
  have p18:((10:Int) ^ (18:Nat))=1000000000000000000:=by decide
  rcases hx with rfl | rfl <;> (
   walk_at "r"
   refine cw (fun c0=>?_) (fun c0=>?_)
   .have c0:zs.length < n:=by omega
    walk_at "r"
    refine ⟨fun k ρ=>∃(ys:List Int) (w5 w6:Option PV),Dk ys/\ys.length<=n + k/\zs.length<=ys.length/\(0 < k->zs.length < ys.length)/\ρ=[some (.dat d0),some (.dat (.int (n:Int))),some (.dat (.lst (cs.map .int))),some (.own (ys.map .int)),some (.dat (.int (tn:Int))),w5,w6],⟨zs,_,_,hz,by omega,Nat.le_refl _,fun z=>absurd z (Nat.lt_irrefl _),rfl⟩,?_,?_⟩
    .rintro k ρ d hk ed ⟨ys,w5,w6,hy,hyl,hzy,hpr,rfl⟩
     have hk:k < cs.length:=by rw [hcm] at hk;exact hk
     have ed:d=.int (cs.getD k 0):=by rw [ed];exact mE (by rw [hcm];exact hk)
     subst ed
     generalize cs.getD k 0=c
     have hym:(ys.map D.int).length=ys.length:=List.length_map _
     walk_at "r"
     refine ⟨fun ρ=>∃(us:List Int) (r:Int),Dk us/\0<=r/\((us.length=ys.length + 1/\r=0)\/(us.length=ys.length/\0 < r))/\ρ=[some (.dat d0),some (.dat (.int (n:Int))),some (.dat (.lst (cs.map .int))),some (.own (us.map .int)),some (.dat (.int (tn:Int))),some (.dat (.int c)),some (.dat (.int r))],?_,?_⟩
     .have dm:∀(us:List Int) (z:Int),Dk us->Dk (us++[z % 1000]):=fun us z hu x hx=>by
       rcases List.mem_append.mp hx with w | w
       .exact hu x w
       .rw [List.mem_singleton.mp w];exact ⟨Int.emod_nonneg _ (by decide),Int.emod_lt_of_pos _ (by decide)⟩
      have app:∀(us:List Int) (z:Int),us.map D.int++[D.int (z % 1000)]=(us++[z % 1000]).map D.int:=fun us z=>by rw [List.map_append];rfl
      walk_at "r"
      refine cw (fun c1=>?_) (fun c1=>?_)
      .walk_at "r"
       rintro z hz0
       walk_at "r"
       exact ⟨ys++[z % 1000],0,dm ys z hy,by decide,.inl ⟨by rw [List.length_append];rfl,rfl⟩,by rw [<- app]⟩
      .walk_at "r"
       refine cw (fun c2=>?_) (fun c2=>?_)
       .walk_at "r"
        rintro z hz0
        walk_at "r"
        exact ⟨ys++[z % 1000],0,dm ys z hy,by decide,.inl ⟨by rw [List.length_append];rfl,rfl⟩,by rw [<- app]⟩
       .have c3:¬ (c < 1000000000000000000):=c2
        walk_at "r"
        exact ⟨ys,c,hy,by omega,.inr ⟨rfl,by omega⟩,rfl⟩
     .rintro ρ ⟨us,r,hu,hr,hc,rfl⟩
      have dm:∀(us:List Int) (z:Int),Dk us->Dk (us++[z % 1000]):=fun us z hu x hx=>by
       rcases List.mem_append.mp hx with w | w
       .exact hu x w
       .rw [List.mem_singleton.mp w];exact ⟨Int.emod_nonneg _ (by decide),Int.emod_lt_of_pos _ (by decide)⟩
      have app:∀(us:List Int) (z:Int),us.map D.int++[D.int (z % 1000)]=(us++[z % 1000]).map D.int:=fun us z=>by rw [List.map_append];rfl
      walk_at "r"
      refine ⟨fun m ρ=>∃(vs:List Int) (r:Int),Dk vs/\0<=r/\us.length<=vs.length/\(vs.length<=n\/vs.length=us.length)/\(vs.length=us.length->us.length=ys.length->0 < r)/\m=n - vs.length/\ρ=[some (.dat d0),some (.dat (.int (n:Int))),some (.dat (.lst (cs.map .int))),some (.own (vs.map .int)),some (.dat (.int (tn:Int))),some (.dat (.int c)),some (.dat (.int r))],⟨_,us,r,hu,hr,Nat.le_refl _,.inr rfl,fun _ e=>by omega,rfl,rfl⟩,?_⟩
      rintro m ρ ⟨vs,r,hv,hr0,huv,hvn,hrp,hm2,rfl⟩
      have hvm:(vs.map D.int).length=vs.length:=List.length_map _
      have done:¬ (0 < r/\vs.length < n)->∃(ys:List Int) (w5 w6:Option PV),Dk ys/\ys.length<=n + (k + 1)/\zs.length<=ys.length/\(0 < k + 1->zs.length < ys.length)/\[some (.dat d0),some (.dat (.int (n:Int))),some (.dat (.lst (cs.map .int))),some (.own (vs.map .int)),some (.dat (.int (tn:Int))),some (.dat (.int c)),some (.dat (.int r))]=[some (PV.dat d0),some (.dat (.int (n:Int))),some (.dat (.lst (cs.map .int))),some (.own (ys.map .int)),some (.dat (.int (tn:Int))),w5,w6]:=fun hd=>by
       refine ⟨vs,_,_,hv,by omega,by omega,fun _=>?_,rfl⟩
       rcases hc with ⟨e1,e2⟩ | ⟨e1,e2⟩
       .omega
       .by_cases g:vs.length=us.length
        .have:=hrp g e1
         by_cases k0:0 < k
         .have:=hpr k0;omega
         .omega
        .omega
      walk_at "r"
      refine cw (fun c3=>?_) (fun c3=>?_)
      .walk_at "r"
       refine cw (fun c4=>?_) (fun c4=>?_)
       .walk_at "r"
        refine ⟨_,?_,vs++[r % 1000],r / 1000,dm vs r hv,Int.ediv_nonneg hr0 (by decide),?_,?_,?_,rfl,by rw [<- app]⟩
        .rw [List.length_append];show n - (vs.length + 1) < m;omega
        .rw [List.length_append];omega
        .rw [List.length_append];show vs.length + 1<=n\/_;omega
        .rw [List.length_append];intro e;exfalso;have e:vs.length + 1=us.length:=e;omega
       .exact done (by omega)
      .exact done (by omega)
    .rintro ρ ⟨ys,w5,w6,hy,hyl,hzy,hpr,rfl⟩
     rw [hcm] at hyl hpr
     walk_at "r"
     exact ⟨_,by omega,_,ys,tn + 1,_,_,.inr rfl,hy,by omega,by have:=hpr (by omega);omega,rfl,by rw [show ((tn:Int) + 1)=((tn + 1:Nat):Int) by omega]⟩
   .have c0:n<=zs.length:=by omega
    walk_at "r"
    rw [gi,<- List.map_take]
    exact fin zs hz c0)
 .walk_at "r"
  rw [hnm,ecs]
  generalize D.lst (ns.map D.int)=d0
  generalize hcs:ns++[(ns.length:Int)]=cs
  have hcl:cs.length=ns.length + 1:=by rw [<- hcs,List.length_append];rfl
  have hcm:(cs.map D.int).length=cs.length:=List.length_map _
  refine ⟨fun m ρ=>∃(x:Option PV) (zs:List Int) (tn:Nat) (v5 v6:Option PV),(x=some (.own (cs.map .int))\/x=some (.dat (.lst (cs.map .int))))/\Dk zs/\zs.length<=n + 65/\tn<=zs.length/\m=n - zs.length/\ρ=[some (.dat d0),some (.dat (.int (n:Int))),x,some (.own (zs.map .int)),some (.dat (.int (tn:Int))),v5,v6],⟨n,_,[],0,_,_,.inl rfl,nofun,Nat.zero_le _,Nat.zero_le _,rfl,rfl⟩,?_⟩
  rintro m ρ ⟨x,zs,tn,v5,v6,hx,hz,hzl,htn,hm,rfl⟩
  have hzm:(zs.map D.int).length=zs.length:=List.length_map _
  have fin:∀zs:List Int,Dk zs->n<=zs.length->Q (.own ((zs.take n).map D.int).reverse):=fun zs hz hl=>by
   rw [<- List.map_reverse]
   refine q _ (fun x hx=>hz x (List.mem_of_mem_take (List.mem_reverse.mp hx))) ?_
   rw [List.length_reverse,List.length_take,Int.toNat_natCast];omega
  have p18:((10:Int) ^ (18:Nat))=1000000000000000000:=by decide
  rcases hx with rfl | rfl <;> (
   walk_at "r"
   refine cw (fun c0=>?_) (fun c0=>?_)
   .have c0:zs.length < n:=by omega
    walk_at "r"
    refine ⟨fun k ρ=>∃(ys:List Int) (w5 w6:Option PV),Dk ys/\ys.length<=n + k/\zs.length<=ys.length/\(0 < k->zs.length < ys.length)/\ρ=[some (.dat d0),some (.dat (.int (n:Int))),some (.dat (.lst (cs.map .int))),some (.own (ys.map .int)),some (.dat (.int (tn:Int))),w5,w6],⟨zs,_,_,hz,by omega,Nat.le_refl _,fun z=>absurd z (Nat.lt_irrefl _),rfl⟩,?_,?_⟩
    .rintro k ρ d hk ed ⟨ys,w5,w6,hy,hyl,hzy,hpr,rfl⟩
     have hk:k < cs.length:=by rw [hcm] at hk;exact hk
     have ed:d=.int (cs.getD k 0):=by rw [ed];exact mE (by rw [hcm];exact hk)
     subst ed
     generalize cs.getD k 0=c
     have hym:(ys.map D.int).length=ys.length:=List.length_map _
     walk_at "r"
     refine ⟨fun ρ=>∃(us:List Int) (r:Int),Dk us/\0<=r/\((us.length=ys.length + 1/\r=0)\/(us.length=ys.length/\0 < r))/\ρ=[some (.dat d0),some (.dat (.int (n:Int))),some (.dat (.lst (cs.map .int))),some (.own (us.map .int)),some (.dat (.int (tn:Int))),some (.dat (.int c)),some (.dat (.int r))],?_,?_⟩
     .have dm:∀(us:List Int) (z:Int),Dk us->Dk (us++[z % 1000]):=fun us z hu x hx=>by
       rcases List.mem_append.mp hx with w | w
       .exact hu x w
       .rw [List.mem_singleton.mp w];exact ⟨Int.emod_nonneg _ (by decide),Int.emod_lt_of_pos _ (by decide)⟩
      have app:∀(us:List Int) (z:Int),us.map D.int++[D.int (z % 1000)]=(us++[z % 1000]).map D.int:=fun us z=>by rw [List.map_append];rfl
      walk_at "r"
      refine cw (fun c1=>?_) (fun c1=>?_)
      .walk_at "r"
       rintro z hz0
       walk_at "r"
       exact ⟨ys++[z % 1000],0,dm ys z hy,by decide,.inl ⟨by rw [List.length_append];rfl,rfl⟩,by rw [<- app]⟩
      .walk_at "r"
       refine cw (fun c2=>?_) (fun c2=>?_)
       .walk_at "r"
        rintro z hz0
        walk_at "r"
        exact ⟨ys++[z % 1000],0,dm ys z hy,by decide,.inl ⟨by rw [List.length_append];rfl,rfl⟩,by rw [<- app]⟩
       .have c3:¬ (c < 1000000000000000000):=c2
        walk_at "r"
        exact ⟨ys,c,hy,by omega,.inr ⟨rfl,by omega⟩,rfl⟩
     .rintro ρ ⟨us,r,hu,hr,hc,rfl⟩
      have dm:∀(us:List Int) (z:Int),Dk us->Dk (us++[z % 1000]):=fun us z hu x hx=>by
       rcases List.mem_append.mp hx with w | w
       .exact hu x w
       .rw [List.mem_singleton.mp w];exact ⟨Int.emod_nonneg _ (by decide),Int.emod_lt_of_pos _ (by decide)⟩
      have app:∀(us:List Int) (z:Int),us.map D.int++[D.int (z % 1000)]=(us++[z % 1000]).map D.int:=fun us z=>by rw [List.map_append];rfl
      walk_at "r"
      refine ⟨fun m ρ=>∃(vs:List Int) (r:Int),Dk vs/\0<=r/\us.length<=vs.length/\(vs.length<=n\/vs.length=us.length)/\(vs.length=us.length->us.length=ys.length->0 < r)/\m=n - vs.length/\ρ=[some (.dat d0),some (.dat (.int (n:Int))),some (.dat (.lst (cs.map .int))),some (.own (vs.map .int)),some (.dat (.int (tn:Int))),some (.dat (.int c)),some (.dat (.int r))],⟨_,us,r,hu,hr,Nat.le_refl _,.inr rfl,fun _ e=>by omega,rfl,rfl⟩,?_⟩
      rintro m ρ ⟨vs,r,hv,hr0,huv,hvn,hrp,hm2,rfl⟩
      have hvm:(vs.map D.int).length=vs.length:=List.length_map _
      have done:¬ (0 < r/\vs.length < n)->∃(ys:List Int) (w5 w6:Option PV),Dk ys/\ys.length<=n + (k + 1)/\zs.length<=ys.length/\(0 < k + 1->zs.length < ys.length)/\[some (.dat d0),some (.dat (.int (n:Int))),some (.dat (.lst (cs.map .int))),some (.own (vs.map .int)),some (.dat (.int (tn:Int))),some (.dat (.int c)),some (.dat (.int r))]=[some (PV.dat d0),some (.dat (.int (n:Int))),some (.dat (.lst (cs.map .int))),some (.own (ys.map .int)),some (.dat (.int (tn:Int))),w5,w6]:=fun hd=>by
       refine ⟨vs,_,_,hv,by omega,by omega,fun _=>?_,rfl⟩
       rcases hc with ⟨e1,e2⟩ | ⟨e1,e2⟩
       .omega
       .by_cases g:vs.length=us.length
        .have:=hrp g e1
         by_cases k0:0 < k
         .have:=hpr k0;omega
         .omega
        .omega
      walk_at "r"
      refine cw (fun c3=>?_) (fun c3=>?_)
      .walk_at "r"
       refine cw (fun c4=>?_) (fun c4=>?_)
       .walk_at "r"
        refine ⟨_,?_,vs++[r % 1000],r / 1000,dm vs r hv,Int.ediv_nonneg hr0 (by decide),?_,?_,?_,rfl,by rw [<- app]⟩
        .rw [List.length_append];show n - (vs.length + 1) < m;omega
        .rw [List.length_append];omega
        .rw [List.length_append];show vs.length + 1<=n\/_;omega
        .rw [List.length_append];intro e;exfalso;have e:vs.length + 1=us.length:=e;omega
       .exact done (by omega)
      .exact done (by omega)
    .rintro ρ ⟨ys,w5,w6,hy,hyl,hzy,hpr,rfl⟩
     rw [hcm] at hyl hpr
     walk_at "r"
     exact ⟨_,by omega,_,ys,tn + 1,_,_,.inr rfl,hy,by omega,by have:=hpr (by omega);omega,rfl,by rw [show ((tn:Int) + 1)=((tn + 1:Nat):Int) by omega]⟩
   .have c0:n<=zs.length:=by omega
    walk_at "r"
    rw [gi,<- List.map_take]
    exact fin zs hz c0)
theorem jS:∀ds Q,aZ ds Q->hU dy gC ds Q:=fun ds Q h=>by
 unfold aZ at h
 split at h
 .exact jm _ _ _ h
 .exact h.elim
def dz:PTS:=(ck (uG 0))
theorem jn (ds:List D) (Q:PV->PV->Prop) (h:az (.own ds) ([]) Q):lc dz gD (.own ds) ([]) Q:=by
 show dz _ [some (.own ds)]
 obtain ⟨zs,rfl,⟨hz,h0,h1⟩,q⟩:=h
 obtain ⟨ys,z,rfl⟩:∃ys z,zs=ys++[z]:=⟨zs.dropLast,zs.getLast (List.ne_nil_of_length_pos h0),(List.dropLast_concat_getLast _).symm⟩
 have hm:((ys++[z]).map D.int)=ys.map D.int++[D.int z]:=by rw [List.map_append];rfl
 have hl:(ys.map D.int++[D.int z]).length - 1=(ys.map D.int).length:=by rw [List.length_append];rfl
 rw [hm]
 walk_at "r"
 refine ⟨.int z,by rw [hl,List.getElem?_append_right (Nat.le_refl _),Nat.sub_self];rfl,?_⟩
 walk_at "r"
 rw [List.dropLast_concat]
 have hzz:=hz z (List.mem_append_right _ (List.mem_singleton.mpr rfl))
 exact q z ys hzz.1 hzz.2 (fun x hx=>hz x (List.mem_append_left _ hx)) (by rw [List.length_append];rfl)
theorem jT:∀p ds Q,p.isOwn=true->az p ds Q->lc dz gD p ds Q:=fun p ds Q _ h=>by
 unfold az at h
 split at h
 .exact jn _ _ h
 .exact h.elim
def cf:PTS:=(aM (aX (pOp fIx (pFz (k6 (aj (pFz (pC (.int 2))) (aj (pFz (pC (.int 2))) (aj (pFz (pC (.int 3))) (aj (pFz (pC (.int 26))) aC)))))) (pFz (pOp fh (pFz (cj az 0 aC)) (pFz (pC (.int 4)))))) (au 1)) (aM (aX (pOp fh (pFz (cj az 0 aC)) (pFz (pC (.int 26)))) (au 2)) (aM (aX (pOp fIx (pFz (k6 (aj (pFz (pC (.int 1))) (aj (pFz (pC (.int 5))) (aj (pFz (pC (.int 25))) aC))))) (pFz (pOp fh (pFz (cj az 0 aC)) (pFz (pC (.int 3)))))) (au 3)) (ck (qt [none,some 2,some 3] (qp (aj (pFz (bY 1)) aC)) (au 0) qu (pOp fIx (pFz (pC (.str [97,98,99,100,101,102,103,104,105,106,107,108,109,110,111,112,113,114,115,116,117,118,119,120,121,122]))) (pFz (pOp fh (pFz (pOp cA (pSl 1) (pFz (pOp k8 (pSl 2) (pSl 0))))) (pFz (pC (.int 26)))))))))))
theorem gF (ds:List D) (Q:PV->PV->Prop) (h:aV (.own ds) ([]) Q):lc cf eh (.own ds) ([]) Q:=by
 show cf _ [some (.own ds),none,none,none]
 obtain ⟨zs,rfl,⟨hz,h3,h1⟩,q⟩:=h
 have g0:Dk zs/\0 < zs.length/\zs.length<=100000:=⟨hz,by omega,h1⟩
 walk_at "r"
 rintro a y1 ha0 ha1 hd1 hl1
 have g1:Dk y1/\0 < y1.length/\y1.length<=100000:=⟨hd1,by omega,by omega⟩
 have hm:∃n:Nat,atI [D.int 2,D.int 2,D.int 3,D.int 26] (a % 4)=some (.int (n:Int))/\(n=2\/n=3\/n=26):=by
  rcases (show a % 4=0\/a % 4=1\/a % 4=2\/a % 4=3 by omega) with e | e | e | e <;> rw [e]
  .exact ⟨2,rfl,.inl rfl⟩
  .exact ⟨2,rfl,.inl rfl⟩
  .exact ⟨3,rfl,.inr (.inl rfl)⟩
  .exact ⟨26,rfl,.inr (.inr rfl)⟩
 obtain ⟨n,en,hn⟩:=hm
 walk_at "r"
 refine ⟨_,en,?_⟩
 walk_at "r"
 rintro b y2 hb0 hb1 hd2 hl2
 have g2:Dk y2/\0 < y2.length/\y2.length<=100000:=⟨hd2,by omega,by omega⟩
 walk_at "r"
 rintro c y3 hc0 hc1 hd3 hl3
 have hst:∃st:Nat,atI [D.int 1,D.int 5,D.int 25] (c % 3)=some (.int (st:Int))/\(st=1\/st=5\/st=25):=by
  rcases (show c % 3=0\/c % 3=1\/c % 3=2 by omega) with e | e | e <;> rw [e]
  .exact ⟨1,rfl,.inl rfl⟩
  .exact ⟨5,rfl,.inr (.inl rfl)⟩
  .exact ⟨25,rfl,.inr (.inr rfl)⟩
 obtain ⟨st,est,hst⟩:=hst
 walk_at "r"
 refine ⟨_,est,?_⟩
 obtain ⟨f,hf⟩:∃f:Nat,b % 26=(f:Int):=⟨(b % 26).toNat,by omega⟩
 rw [hf]
 have hf26:f < 26:=by omega
 have hn26:n<=26:=by omega
 have hst25:st<=25:=by omega
 walk_at "r"
 refine cmR (fun k=>.str [97 + (f + st * k) % 26]) (fun k hk v K1 k1=>?_) (fun v=>?_)
 .have hk:k < n:=by rw [Int.toNat_natCast] at hk;exact hk
  have hk26:k < 26:=by omega
  walk_at "r"
  rw [show ((f:Int) + (st:Int) * (k:Int)) % 26=(((f + st * k) % 26:Nat):Int) by rw [Int.natCast_emod,Int.natCast_add,Int.natCast_mul];rfl]
  exact ⟨_,tK (Nat.mod_lt _ (by decide)),k1 _⟩
 .walk_at "r"
  rw [Int.toNat_natCast,show (List.range n).map (fun k=>D.str [97 + (f + st * k) % 26])=(oS n f st).map fun c=>.str [c] by unfold oS;rw [List.map_map];rfl]
  have hll:(oS n f st).length=n:=by unfold oS;rw [List.length_map,List.length_range]
  exact q (oS n f st) y3 (by omega) (by omega) (om n f st) (qL hn hst hf26) hd3 (by omega)
theorem gP:∀p ds Q,p.isOwn=true->aV p ds Q->lc cf eh p ds Q:=fun p ds Q _ h=>by
 unfold aV at h
 split at h
 .exact gF _ _ h
 .exact h.elim
def cO:PTS:=(aM (aX (pC (.str [])) (au 3)) (aM (fq (qp (aj (pFz (bY 2)) aC)) (au 4) (aX (pOp cA (pSl 3) (pFz (pOp fIx (pSl 1) (pFz (pOp fh (pFz (cj az 0 aC)) (pFz (pCB fg (aj (pSl 1) aC)))))))) (au 3))) (ck (bY 3))))
theorem iF (ds es:List D) (n:Int) (Q:PV->PV->Prop) (h:a8 (.own ds) ([.lst es,.int n]) Q):lc cO fL (.own ds) ([.lst es,.int n]) Q:=by
 show cO _ [some (.own ds),some (.dat (.lst es)),some (.dat (.int n)),none,none]
 obtain ⟨zs,rfl,ls,rfl,⟨hl0,hl1,hL⟩,⟨hz,h1⟩,⟨hn0,hn1⟩,q⟩:=h
 have hlm:(ls.map fun c=>D.str [c]).length=ls.length:=List.length_map _
 walk_at "r"
 refine ⟨fun k ρ=>∃(w:List Nat) (ys:List Int) (v4:Option PV),w.length=k/\Lts w/\(∀c∈w,c∈ls)/\Dk ys/\ys.length + k=zs.length/\ρ=[some (.own (ys.map .int)),some (.dat (.lst (ls.map fun c=>.str [c]))),some (.dat (.int n)),some (.dat (.str w)),v4],⟨[],zs,_,rfl,Lts.nil,(fun c hc=>nomatch hc),hz,rfl,rfl⟩,?_,?_⟩
 .rintro k ρ _ hk rfl ⟨w,ys,v4,hw,hwL,hwc,hy,hyl,rfl⟩
  have hk2:(k:Int) < n:=by omega
  have g1:Dk ys/\0 < ys.length/\ys.length<=100000:=⟨hy,by omega,by omega⟩
  walk_at "r"
  rintro z y2 hz0 hz1 hd2 hl2
  obtain ⟨j,hj⟩:∃j:Nat,z % (ls.length:Int)=(j:Int):=⟨(z % (ls.length:Int)).toNat,by have:=Int.emod_nonneg z (show (ls.length:Int)≠0 by omega);omega⟩
  have hj2:j < ls.length:=by have:=Int.emod_lt_of_pos z (show 0 < (ls.length:Int) by omega);omega
  walk_at "r"
  rw [hlm,hj]
  refine ⟨_,lZ (j:=j) (by rw [List.getElem?_map,List.getElem?_eq_getElem hj2];rfl) rfl,?_⟩
  walk_at "r"
  refine ⟨w++[ls[j]],y2,_,by rw [List.length_append,hw];rfl,hwL.app (Lts.one (hL _ (List.getElem_mem hj2))),fun c hc=>?_,hd2,by omega,rfl⟩
  rcases List.mem_append.mp hc with x | x
  .exact hwc c x
  .rw [List.mem_singleton.mp x];exact List.getElem_mem hj2
 .rintro ρ ⟨w,ys,v4,hw,hwL,hwc,hy,hyl,rfl⟩
  walk_at "r"
  exact q w ys hw hwL hwc hy hyl
theorem jo:∀p ds Q,p.isOwn=true->a8 p ds Q->lc cO fL p ds Q:=fun p ds Q _ h=>by
 unfold a8 at h
 split at h
 .exact iF _ _ _ _ h
 .exact h.elim
def cP:PTS:=(aM (aX (cj a8 0 (aj (pFz (bY 1)) (aj (pFz (pC (.int 16))) aC))) (au 3)) (aM (aX (k6 aC) (au 4)) (aM (fq (qp (aj (pFz (bY 2)) aC)) (au 5) (aM (aX (pOp fh (pFz (cj az 0 aC)) (pFz (pC (.int 8)))) (au 6)) (aM (aX (pOp fh (pFz (cj az 0 aC)) (pFz (pC (.int 12)))) (au 7)) (aM (aX (dO (pSl 3) (cX (bY 7)) (cX (pOp cA (pFz (pOp cA (pSl 7) (pFz (pC (.int 1))))) (pFz (pOp fh (pFz (cj az 0 aC)) (pFz (pC (.int 6)))))))) (au 8)) (aM (fH (hE (pB (pOp lf (pSl 6) (pFz (pC (.int 0))))) (aX (cj a8 0 (aj (pFz (bY 1)) (aj (pFz (pOp cA (pFz (pC (.int 1))) (pFz (pOp fh (pSl 7) (pFz (pC (.int 5))))))) aC))) (au 8)) bU)) (aM (fH (hE (nU (pB (pOp lf (pSl 6) (pFz (pC (.int 1))))) (pB (pOp mH (pSl 4) (pFz (k6 aC))))) (aX (pOp fIx (pSl 4) (pFz (pOp fh (pSl 7) (pFz (pCB fg (aj (pSl 4) aC)))))) (au 8)) bU)) (aM (fH (hE (nU (pB (pOp lf (pSl 6) (pFz (pC (.int 2))))) (pB (pOp mH (pSl 4) (pFz (k6 aC))))) (aX (pOp cA (pFz (dO (pFz (pOp fIx (pSl 4) (pFz (pUn ti (pFz (pC (.int 1))))))) (cX (pUn ti (pFz (pC (.int 3))))) eW)) (pSl 8)) (au 8)) bU)) (aM (fH (hE (pB (pOp lf (pSl 6) (pFz (pC (.int 3))))) (aX (pOp k8 (pFz (pOp fIx (pSl 1) (pFz (pOp fh (pSl 7) (pFz (pCB fg (aj (pSl 1) aC))))))) (pFz (pOp cA (pFz (pC (.int 1))) (pFz (pOp fh (pSl 7) (pFz (pC (.int 4)))))))) (au 8)) bU)) (aM (fH (hE (nU (pB (pOp lf (pSl 6) (pFz (pC (.int 4))))) (pB (pOp fLt (pSl 2) (pFz (pC (.int 10)))))) (aX (dO (pFz (pOp k8 (pSl 8) (pFz (pC (.int 60))))) eW (cX (pOp tX (pFz (pC (.int 60))) (pSl 7)))) (au 8)) bU)) (hC (qv 4 (dO (pSl 8) eW (cX (pC (.int 60))))))))))))))) (ck (bY 4)))))
theorem iG (ds es:List D) (mo:Int) (Q:PV->PV->Prop) (h:a9 (.own ds) ([.lst es,.int mo]) Q):lc cP fM (.own ds) ([.lst es,.int mo]) Q:=by
 show cP _ [some (.own ds),some (.dat (.lst es)),some (.dat (.int mo)),none,none,none,none,none,none]
 obtain ⟨zs,rfl,ls,rfl,⟨hl0,hl1,hL⟩,⟨hz,h1⟩,⟨hm0,hm1,hm2⟩,q⟩:=h
 obtain ⟨n,rfl⟩:∃n:Nat,mo=(n:Int):=⟨mo.toNat,by omega⟩
 have gl:0 < ls.length/\ls.length<=26/\Lts ls:=⟨hl0,hl1,hL⟩
 have hlm:(ls.map fun c=>D.str [c]).length=ls.length:=List.length_map _
 have g0:Dk zs/\zs.length<=100000:=⟨hz,by omega⟩
 walk_at "r"
 rintro b y1 hb hbL _ hd1 hl1'
 have hb:b.length=16:=hb
 have hl1':y1.length + 16=zs.length:=hl1'
 walk_at "r"
 rw [Int.toNat_natCast]
 refine ⟨fun k ρ=>∃(ps:List (List Nat)) (ys:List Int) (v5 v6 v7 v8:Option PV),ps.length=k/\(∀w∈ps,Wd w)/\Dk ys/\y1.length<=ys.length + 8 * k/\ys.length<=y1.length/\ρ=[some (.own (ys.map .int)),some (.dat (.lst (ls.map fun c=>.str [c]))),some (.dat (.int (n:Int))),some (.dat (.str b)),some (.own (ps.map .str)),v5,v6,v7,v8],⟨[],y1,_,_,_,_,rfl,(fun w hw=>nomatch hw),hd1,Nat.le_refl _,Nat.le_refl _,rfl⟩,?_,?_⟩
 .rintro k ρ _ hk rfl ⟨ps,ys,v5,v6,v7,v8,hpl,hps,hdy,hyl,hyl',rfl⟩
  have hpm:(ps.map D.str).length=ps.length:=List.length_map _
  have g5:Dk ys/\0 < ys.length/\ys.length<=100000:=⟨hdy,by omega,by omega⟩
  walk_at "r"
  rintro zs1 y2 hs0 hs1 hd2 hy2
  have g6:Dk y2/\0 < y2.length/\y2.length<=100000:=⟨hd2,by omega,by omega⟩
  walk_at "r"
  rintro zb y3 hb0 hb1 hd3 hy3
  have g7:Dk y3/\0 < y3.length/\y3.length<=100000:=⟨hd3,by omega,by omega⟩
  obtain ⟨be,hbe,hbe2⟩:∃be:Nat,zb % 12=(be:Int)/\be < 12:=⟨(zb % 12).toNat,by omega,by omega⟩
  walk_at "r"
  rintro zc y4 hc0 hc1 hd4 hy4
  rw [hbe]
  walk_at "r"
  generalize zs1 % 8=so
  have ca:=bK b (some (be:Int)) (some ((be:Int) + 1 + zc % 6))
  have cL:Lts (dL b (some (be:Int)) (some ((be:Int) + 1 + zc % 6))):=hbL.cut _ _
  generalize dL b (some (be:Int)) (some ((be:Int) + 1 + zc % 6))=w0 at ca cL
  have e1:=eI hps
  have e2:=dS ps
  refine ⟨fun ρ=>∃(p:List Nat) (yy:List Int),Lts p/\p.length<=60/\Dk yy/\y4.length<=yy.length + 5/\yy.length<=y4.length/\ρ=[some (.own (yy.map .int)),some (.dat (.lst (ls.map fun c=>.str [c]))),some (.dat (.int (n:Int))),some (.dat (.str b)),some (.own (ps.map .str)),some (.dat (.int (k:Int))),some (.dat (.int so)),some (.dat (.int (be:Int))),some (.dat (.str p))],?_,?_⟩
  .walk_at "r"
   refine cw (fun c=>?_) (fun c=>?_)
   .have b5:0<=(be:Int) % 5/\(be:Int) % 5 < 5:=by omega
    have g8:Dk y4/\y4.length<=100000:=⟨hd4,by omega⟩
    have g9:0<=1 + (be:Int) % 5/\1 + (be:Int) % 5<=(y4.length:Int):=⟨by omega,by omega⟩
    walk_at "r"
    rintro w y5 hw hwL _ hd5 hl5
    walk_at "r"
    exact ⟨w,y5,hwL,by omega,hd5,by omega,by omega,rfl⟩
   .exact ⟨w0,y4,cL,by omega,hd4,by omega,by omega,rfl⟩
  rintro ρ ⟨p,y5,pL,pl,hd5,hl5,hl5',rfl⟩
  walk_at "r"
  refine ⟨fun ρ=>∃(p:List Nat),Lts p/\p.length<=60/\ρ=[some (.own (y5.map .int)),some (.dat (.lst (ls.map fun c=>.str [c]))),some (.dat (.int (n:Int))),some (.dat (.str b)),some (.own (ps.map .str)),some (.dat (.int (k:Int))),some (.dat (.int so)),some (.dat (.int (be:Int))),some (.dat (.str p))],?_,?_⟩
  .walk_at "r"
   refine cw (fun c=>?_) (fun c=>?_)
   .walk_at "r"
    rw [e2]
    refine kY (fun c2=>?_) (fun c2=>?_)
    .have hp0:0 < ps.length:=List.length_pos_iff.mpr c2
     obtain ⟨i,hi,hi2⟩:∃i:Nat,(be:Int) % (ps.length:Int)=(i:Int)/\i < ps.length:=⟨((be:Int) % (ps.length:Int)).toNat,by have:=Int.emod_nonneg (be:Int) (show (ps.length:Int)≠0 by omega);omega,by have:=Int.emod_lt_of_pos (be:Int) (show 0 < (ps.length:Int) by omega);omega⟩
     walk_at "r"
     rw [hpm,hi]
     refine ⟨_,iy hi2 rfl,?_⟩
     walk_at "r"
     exact ⟨_,(hps _ (c5 hi2)).2,(hps _ (c5 hi2)).1,rfl⟩
    .exact ⟨p,pL,pl,rfl⟩
   .exact ⟨p,pL,pl,rfl⟩
  clear pL pl p
  rintro ρ ⟨p,pL,pl,rfl⟩
  walk_at "r"
  refine ⟨fun ρ=>∃(p:List Nat),Lts p/\p.length<=120/\ρ=[some (.own (y5.map .int)),some (.dat (.lst (ls.map fun c=>.str [c]))),some (.dat (.int (n:Int))),some (.dat (.str b)),some (.own (ps.map .str)),some (.dat (.int (k:Int))),some (.dat (.int so)),some (.dat (.int (be:Int))),some (.dat (.str p))],?_,?_⟩
  .walk_at "r"
   refine cw (fun c=>?_) (fun c=>?_)
   .walk_at "r"
    rw [e2]
    refine kY (fun c2=>?_) (fun c2=>?_)
    .have hp0:0 < ps.length:=List.length_pos_iff.mpr c2
     walk_at "r"
     refine ⟨_,qM hp0,?_⟩
     have cm:=bK (pw ps (ps.length - 1)) (some (-3)) none
     have lw:=(hps _ (c5 (show ps.length - 1 < ps.length by omega)))
     have lw1:=lw.1
     have cmL:Lts (dL (pw ps (ps.length - 1)) (some (-3)) none):=lw.2.cut _ _
     walk_at "r"
     exact ⟨_,cmL.app pL,by rw [List.length_append];omega,rfl⟩
    .exact ⟨p,pL,by omega,rfl⟩
   .exact ⟨p,pL,by omega,rfl⟩
  clear pL pl p
  rintro ρ ⟨p,pL,pl,rfl⟩
  walk_at "r"
  refine ⟨fun ρ=>∃(p:List Nat),Lts p/\p.length<=120/\ρ=[some (.own (y5.map .int)),some (.dat (.lst (ls.map fun c=>.str [c]))),some (.dat (.int (n:Int))),some (.dat (.str b)),some (.own (ps.map .str)),some (.dat (.int (k:Int))),some (.dat (.int so)),some (.dat (.int (be:Int))),some (.dat (.str p))],?_,?_⟩
  .walk_at "r"
   refine cw (fun c=>?_) (fun c=>?_)
   .obtain ⟨i,hi,hi2⟩:∃i:Nat,(be:Int) % (ls.length:Int)=(i:Int)/\i < ls.length:=⟨((be:Int) % (ls.length:Int)).toNat,by have:=Int.emod_nonneg (be:Int) (show (ls.length:Int)≠0 by omega);omega,by have:=Int.emod_lt_of_pos (be:Int) (show 0 < (ls.length:Int) by omega);omega⟩
    have b4:0<=(be:Int) % 4/\(be:Int) % 4 < 4:=by omega
    have w2:(-1000000:Int)<=1 + (be:Int) % 4/\1 + (be:Int) % 4<=1000000/\(1 + (be:Int) % 4).toNat * [ls.getD i 0].length<=1000000:=⟨by omega,by omega,by show _ * 1<=_;omega⟩
    walk_at "r"
    rw [hlm,hi]
    refine ⟨_,f9 hi2,?_⟩
    walk_at "r"
    exact ⟨_,(tL hL hi2).rep _,by rw [df];show _ * 1<=_;omega,rfl⟩
   .exact ⟨p,pL,by omega,rfl⟩
  clear pL pl p
  rintro ρ ⟨p,pL,pl,rfl⟩
  walk_at "r"
  refine ⟨fun ρ=>∃(p:List Nat),Lts p/\p.length<=100000/\ρ=[some (.own (y5.map .int)),some (.dat (.lst (ls.map fun c=>.str [c]))),some (.dat (.int (n:Int))),some (.dat (.str b)),some (.own (ps.map .str)),some (.dat (.int (k:Int))),some (.dat (.int so)),some (.dat (.int (be:Int))),some (.dat (.str p))],?_,?_⟩
  .walk_at "r"
   refine cw (fun c=>?_) (fun c=>?_)
   .walk_at "r"
    refine cw (fun c2=>?_) (fun c2=>?_)
    .walk_at "r"
     have w2:(-1000000:Int)<=60/\(60:Int)<=1000000/\Int.toNat 60 * p.length<=1000000:=⟨by decide,by decide,by show 60 * _<=_;omega⟩
     walk_at "r"
     exact ⟨_,(pL.rep 60).cut _ _,Nat.le_trans (bK ..) (by rw [df];show 60 * _<=_;omega),rfl⟩
    .exact ⟨p,pL,by omega,rfl⟩
   .exact ⟨p,pL,by omega,rfl⟩
  clear pL pl p
  rintro ρ ⟨p,pL,pl,rfl⟩
  have cz:=(show dL p none (some ((60:Nat):Int))=p.take 60 from gi p 60)
  walk_at "r"
  refine ⟨ps++[_],y5,_,_,_,_,by rw [List.length_append,hpl];rfl,fun w hw=>?_,hd5,by omega,by omega,by rw [List.map_append];rfl⟩
  rcases List.mem_append.mp hw with h | h
  .exact hps w h
  .rw [List.mem_singleton.mp h,show (60:Int)=((60:Nat):Int) from rfl,cz]
   exact ⟨by rw [List.length_take];omega,pL.take 60⟩
 .rintro ρ ⟨ps,ys,v5,v6,v7,v8,hpl,hps,hdy,hyl,hyl',rfl⟩
  walk_at "r"
  exact q ps ys (by omega) hps hdy (by omega) (by omega)
theorem jp:∀p ds Q,p.isOwn=true->a9 p ds Q->lc cP fM p ds Q:=fun p ds Q _ h=>by
 unfold a9 at h
 split at h
 .exact iG _ _ _ _ h
 .exact h.elim
def bH:PTS:=(aM (aX (k6 (aj (pFz (pC (.str []))) aC)) (au 1)) (aM (fq (jH (bY 0)) (au 2) (fq (vo (aj (pFz (pC (.int 1))) (aj (pFz (pOp cA (pFz (pCB fg (aj (pSl 2) aC))) (pFz (pC (.int 1))))) aC))) (au 3) (hE (pB (pOp (tu true) (pFz (dO (pSl 2) eW (cX (bY 3)))) (pSl 1))) (hC (qv 1 (dO (pSl 2) eW (cX (bY 3))))) bU))) (ck (bY 1))))
theorem fb (ds:List D) (Q:PV->Prop) (h:aA ([.lst ds]) Q):hU bH c6 ([.lst ds]) Q:=by
 show bH _ [some (.dat (.lst ds)),none,none,none]
 obtain ⟨ws,rfl,⟨hn,hw⟩,q⟩:=h
 have hlm:(ws.map D.str).length=ws.length:=List.length_map _
 walk_at "r"
 refine ⟨fun i ρ=>∃v2 v3:Option PV,ρ=[some (.dat (.lst (ws.map .str))),some (.own ((e5 ws i).map .str)),v2,v3],⟨_,_,rfl⟩,?_,?_⟩
 .rintro i ρ d hi ed ⟨v2,v3,rfl⟩
  have hi:i < ws.length:=by rw [<- hlm];exact hi
  obtain rfl:d=.str (pw ws i):=by rw [ed];exact jM (by rw [hlm];exact hi)
  have hwl:=(hw _ (c5 hi)).1
  have hb1:=f7 (fun w h=>(hw w h).1) i (by omega)
  walk_at "r"
  rw [show (((pw ws i).length:Int) + 1 - 1).toNat=(pw ws i).length by omega]
  refine ⟨fun j ρ=>∃v3:Option PV,ρ=[some (.dat (.lst (ws.map .str))),some (.own ((fJ (e5 ws i) (pw ws i) j).map .str)),some (.dat (.str (pw ws i))),v3],⟨_,rfl⟩,?_,?_⟩
  .rintro j ρ _ hj rfl ⟨v3,rfl⟩
   have hb2:=fZ (e5 ws i) (pw ws i) j
   have ecut:dL (pw ws i) none (some (1 + (j:Int)))=(pw ws i).take (j + 1):=by rw [show (1 + (j:Int))=((j + 1:Nat):Int) by omega];exact gi ..
   have hfl:=mK (fJ (e5 ws i) (pw ws i) j)
   have hin:=iA ((pw ws i).take (j + 1)) (fJ (e5 ws i) (pw ws i) j)
   have hbm:((fJ (e5 ws i) (pw ws i) j).map D.str).length=(fJ (e5 ws i) (pw ws i) j).length:=List.length_map _
   have es:fJ (e5 ws i) (pw ws i) (j + 1)=jy (fJ (e5 ws i) (pw ws i) j) ((pw ws i).take (j + 1)):=rfl
   walk_at "r"
   rw [ecut,hin]
   unfold jy at es
   refine kY (fun c=>?_) (fun c=>?_)
   .rw [if_neg c] at es
    walk_at "r"
    rw [ecut]
    exact ⟨_,by rw [es,List.map_append];rfl⟩
   .have c:(pw ws i).take (j + 1)∈fJ (e5 ws i) (pw ws i) j:=c
    rw [if_pos c] at es
    exact ⟨_,by rw [es]⟩
  .rintro ρ ⟨v3,rfl⟩
   exact ⟨_,_,rfl⟩
 .rintro ρ ⟨v2,v3,rfl⟩
  rw [hlm]
  walk_at "r"
  exact q
theorem fA:∀ds Q,aA ds Q->hU bH c6 ds Q:=fun ds Q h=>by
 unfold aA at h
 split at h
 .exact fb _ _ h
 .exact h.elim
def dA:PTS:=(aM (aX (pC (.str [])) (au 3)) (aM (fq (qp (aj (pFz (pOp fh (pFz (cj az 0 aC)) (pFz (pC (.int 5))))) aC)) (au 4) (aM (aX (cj az 0 aC) (au 5)) (hE (pOr (pB (pOp lf (pSl 2) (pFz (k6 aC)))) (pB (pOp lf (pFz (pOp fh (pSl 5) (pFz (pC (.int 4))))) (pFz (pC (.int 0)))))) (aM (aX (pOp fIx (pSl 1) (pFz (pOp fh (pFz (pOp qW (pSl 5) (pFz (pC (.int 4))))) (pFz (pCB fg (aj (pSl 1) aC)))))) (au 6)) (aX (pOp cA (pSl 3) (pFz (pOp k8 (pSl 6) (pFz (pOp cA (pFz (pC (.int 1))) (pFz (pOp qW (pSl 5) (pFz (pC (.int 200)))))))))) (au 3))) (aM (aX (pOp fIx (pSl 2) (pFz (pOp fh (pFz (pOp qW (pSl 5) (pFz (pC (.int 4))))) (pFz (pCB fg (aj (pSl 2) aC)))))) (au 7)) (aX (pOp cA (pSl 3) (pFz (dO (pSl 7) (cX (pOp fh (pSl 5) (pFz (pC (.int 3))))) (cX (pOp tX (pFz (pCB fg (aj (pSl 7) aC))) (pFz (pOp fh (pFz (pOp qW (pSl 5) (pFz (pC (.int 12))))) (pFz (pC (.int 3)))))))))) (au 3)))))) (ck (bY 3))))
theorem jq (ds es fs:List D) (Q:PV->PV->Prop) (h:bq (.own ds) ([.lst es,.lst fs]) Q):lc dA gE (.own ds) ([.lst es,.lst fs]) Q:=by
 show dA _ [some (.own ds),some (.dat (.lst es)),some (.dat (.lst fs)),none,none,none,none,none]
 obtain ⟨zs,rfl,ls,rfl,ws,rfl,⟨hl0,hl1,hL⟩,⟨hz,h5,h1⟩,hw,q⟩:=h
 have hlm:(ls.map fun c=>D.str [c]).length=ls.length:=List.length_map _
 have hwm:(ws.map D.str).length=ws.length:=List.length_map _
 have g0:Dk zs/\0 < zs.length/\zs.length<=100000:=⟨hz,by omega,by omega⟩
 have e1:=eI hw
 have e2:=dS ws
 walk_at "r"
 rintro za y1 ha0 ha1 hd1 hy1
 obtain ⟨N,hN,hN5⟩:∃N:Nat,za % 5=(N:Int)/\N < 5:=⟨(za % 5).toNat,by omega,by omega⟩
 walk_at "r"
 rw [hN,Int.toNat_natCast]
 refine ⟨fun k ρ=>∃(t:List Nat) (ys:List Int) (v4 v5 v6 v7:Option PV),t.length<=60 * k/\Dk ys/\ys.length + k=y1.length/\ρ=[some (.own (ys.map .int)),some (.dat (.lst (ls.map fun c=>.str [c]))),some (.dat (.lst (ws.map .str))),some (.dat (.str t)),v4,v5,v6,v7],⟨[],y1,_,_,_,_,Nat.zero_le _,hd1,rfl,rfl⟩,?_,?_⟩
 .rintro k ρ _ hk rfl ⟨t,ys,v4,v5,v6,v7,htl,hdy,hyl,rfl⟩
  have g1:Dk ys/\0 < ys.length/\ys.length<=100000:=⟨hdy,by omega,by omega⟩
  walk_at "r"
  rintro x y2 hx0 hx1 hd2 hy2
  have one:∃i:Nat,x / 4 % (ls.length:Int)=(i:Int)/\i < ls.length:=⟨(x / 4 % (ls.length:Int)).toNat,by have:=Int.emod_nonneg (x / 4) (show (ls.length:Int)≠0 by omega);omega,by have:=Int.emod_lt_of_pos (x / 4) (show 0 < (ls.length:Int) by omega);omega⟩
  obtain ⟨i,hi,hi2⟩:=one
  have x5:0<=x / 200/\x / 200 < 5:=by omega
  have w2:(-1000000:Int)<=1 + x / 200/\1 + x / 200<=1000000/\(1 + x / 200).toNat * [ls.getD i 0].length<=1000000:=⟨by omega,by omega,by show _ * 1<=_;omega⟩
  have rl:(lb [ls.getD i 0] (1 + x / 200)).length<=5:=by rw [df];show _ * 1<=_;omega
  have nx:∀(t':List Nat) (v4 v5 v6 v7:Option PV),t'.length<=60->∃(t2:List Nat) (ys:List Int) (u4 u5 u6 u7:Option PV),t2.length<=60 * (k + 1)/\Dk ys/\ys.length + (k + 1)=y1.length/\[some (.own (y2.map .int)),some (.dat (.lst (ls.map fun c=>.str [c]))),some (.dat (.lst (ws.map .str))),some (.dat (.str (t++t'))),v4,v5,v6,v7]=[some (PV.own (ys.map .int)),some (.dat (.lst (ls.map fun c=>.str [c]))),some (.dat (.lst (ws.map .str))),some (.dat (.str t2)),u4,u5,u6,u7]:=fun t' v4 v5 v6 v7 h=>⟨t++t',y2,_,_,_,_,by rw [List.length_append];omega,hd2,by omega,rfl⟩
  walk_at "r"
  rw [e2]
  refine cw (fun c=>?_) (fun c=>?_)
  .walk_at "r"
   rw [hlm,hi]
   refine ⟨_,f9 hi2,?_⟩
   walk_at "r"
   exact nx _ _ _ _ _ (by omega)
  .have hw0:0 < ws.length:=List.length_pos_iff.mpr c
   walk_at "r"
   refine cw (fun c2=>?_) (fun c2=>?_)
   .walk_at "r"
    rw [hlm,hi]
    refine ⟨_,f9 hi2,?_⟩
    walk_at "r"
    exact nx _ _ _ _ _ (by omega)
   .obtain ⟨m,hm,hm2⟩:∃m:Nat,x / 4 % (ws.length:Int)=(m:Int)/\m < ws.length:=⟨(x / 4 % (ws.length:Int)).toNat,by have:=Int.emod_nonneg (x / 4) (show (ws.length:Int)≠0 by omega);omega,by have:=Int.emod_lt_of_pos (x / 4) (show 0 < (ws.length:Int) by omega);omega⟩
    have hm6:=(hw _ (c5 hm2)).1
    have cl:=bK (pw ws m) (some (x % 3)) (some (((pw ws m).length:Int) - x / 12 % 3))
    walk_at "r"
    rw [hwm,hm]
    refine ⟨_,iy hm2 rfl,?_⟩
    walk_at "r"
    exact nx _ _ _ _ _ (by omega)
 .rintro ρ ⟨t,ys,v4,v5,v6,v7,htl,hdy,hyl,rfl⟩
  walk_at "r"
  exact q t ys (by omega) hdy (by omega) (by omega)
theorem jU:∀p ds Q,p.isOwn=true->bq p ds Q->lc dA gE p ds Q:=fun p ds Q _ h=>by
 unfold bq at h
 split at h
 .exact jq _ _ _ _ h
 .exact h.elim
def cQ:PTS:=(ck (qf (uB .int (pSl 0)) (sG (uB .bool (pSl 0)))))
theorem iH (z:Int) (Q:PV->Prop) (h:aL ([.int z]) Q):hU cQ fN ([.int z]) Q:=by
 show cQ _ [some (.dat (.int z))]
 walk_at "r"
 exact h
theorem jr:∀ds Q,aL ds Q->hU cQ fN ds Q:=fun ds Q h=>by
 unfold aL at h
 split at h
 .exact iH _ _ h
 .exact h.elim
def cg:PTS:=(aM (aX (pC (.int 0)) (au 2)) (aM (fq (jH (bY 0)) (au 3) (hE (nU (pB (pOp fGt (pFz (pCB fg (aj (pSl 3) aC))) (pSl 2))) (nU (pB (pOp fLe (pFz (pCB fg (aj (pSl 3) aC))) (pFz (pCB fg (aj (pSl 1) aC))))) (pB (pOp lf (pFz (dO (pSl 1) (cX (pOp tX (pFz (pCB fg (aj (pSl 1) aC))) (pFz (pCB fg (aj (pSl 3) aC))))) eW)) (pSl 3))))) (aX (pCB fg (aj (pSl 3) aC)) (au 2)) bU)) (ck (bY 2))))
theorem gG (ds:List D) (t:List Nat) (Q:PV->Prop) (h:aP ([.lst ds,.str t]) Q):hU cg ei ([.lst ds,.str t]) Q:=by
 show cg _ [some (.dat (.lst ds)),some (.dat (.str t)),none,none]
 obtain ⟨bs,rfl,⟨ht,hnil⟩,q⟩:=h
 have hlm:(bs.map D.str).length=bs.length:=List.length_map _
 walk_at "r"
 refine ⟨fun i ρ=>∃(k:Nat) (v3:Option PV),tZ bs t k/\(∀b∈bs.take i,b.length<=t.length->t.drop (t.length - b.length)=b->b.length<=k)/\ρ=[some (.dat (.lst (bs.map .str))),some (.dat (.str t)),some (.dat (.int (k:Int))),v3],⟨0,_,⟨Nat.zero_le _,by rw [Nat.sub_zero,List.drop_length];exact hnil⟩,(fun b hb=>nomatch hb),rfl⟩,?_,?_⟩
 .rintro i ρ d hi ed ⟨k,v3,hk,hm,rfl⟩
  have hi:i < bs.length:=by rw [<- hlm];exact hi
  obtain rfl:d=.str (pw bs i):=by rw [ed];exact jM (by rw [hlm];exact hi)
  have tk:∀b∈bs.take (i + 1),b∈bs.take i\/b=pw bs i:=fun b hb=>by
   rw [List.take_add_one,je hi] at hb
   exact (List.mem_append.mp hb).imp id fun z=>by simpa using z
  have stay:¬ (k < (pw bs i).length/\(pw bs i).length<=t.length/\t.drop (t.length - (pw bs i).length)=pw bs i)->∀b∈bs.take (i + 1),b.length<=t.length->t.drop (t.length - b.length)=b->b.length<=k:=fun z b hb h1 h2=>by
   rcases tk b hb with hb | rfl
   .exact hm b hb h1 h2
   .exact Nat.le_of_not_lt fun y=>z ⟨y,h1,h2⟩
  walk_at "r"
  refine cw (fun c=>?_) (fun c=>?_)
  .walk_at "r"
   refine cw (fun c2=>?_) (fun c2=>?_)
   .have c2:(pw bs i).length<=t.length:=by omega
    have e1:dL t (some ((t.length:Int) - ((pw bs i).length:Int))) none=t.drop (t.length - (pw bs i).length):=by
     rw [show (t.length:Int) - ((pw bs i).length:Int)=((t.length - (pw bs i).length:Nat):Int) by omega,gj]
    walk_at "r"
    rw [e1]
    refine cw (fun c3=>?_) (fun c3=>?_)
    .walk_at "r"
     refine ⟨(pw bs i).length,_,⟨c2,by rw [c3];exact c5 hi⟩,fun b hb h1 h2=>?_,rfl⟩
     rcases tk b hb with hb | rfl
     .have:=hm b hb h1 h2;omega
     .exact Nat.le_refl _
    .exact ⟨k,_,hk,stay fun z=>c3 z.2.2,rfl⟩
   .exact ⟨k,_,hk,stay fun z=>c2 (by omega),rfl⟩
  .exact ⟨k,_,hk,stay fun z=>c (by omega),rfl⟩
 .rintro ρ ⟨k,v3,hk,hm,rfl⟩
  rw [hlm,List.take_length] at hm
  walk_at "r"
  refine q k ⟨hk,fun j hj=>?_⟩
  have hl:(t.drop (t.length - j)).length=j:=by rw [List.length_drop];have:=hj.1;omega
  have:=hm _ hj.2 (by rw [hl];exact hj.1) (by rw [hl])
  rw [hl] at this
  exact this
theorem gQ:∀ds Q,aP ds Q->hU cg ei ds Q:=fun ds Q h=>by
 unfold aP at h
 split at h
 .exact gG _ _ _ h
 .exact h.elim
def bh:PTS:=(aM (hE (pOr (qT (pB (cY aL (aj (pFz (eX "Beginnings" ["words","numbers"] ax (bY 0) aC)) aC)))) (pB (pOp mH (pFz (eX "Beginnings" ["words","numbers"] ax (bY 0) aC)) (pFz (pCB fg (aj (pSl 1) aC)))))) (ck (pC (.bl false))) bU) (aM (fq (qp (aj (pFz (pCB fg (aj (pSl 1) aC))) aC)) (au 3) (aM (hE (pOr (qT (pB (cY aL (aj (pFz (eX "Beginnings" ["words","numbers"] ai (bY 0) (aj (pFz (pOp fIx (pSl 1) (pSl 3))) aC))) aC)))) (pB (pOp mH (pFz (eX "Beginnings" ["words","numbers"] ai (bY 0) (aj (pFz (pOp fIx (pSl 1) (pSl 3))) aC))) (pSl 3)))) (ck (pC (.bl false))) bU) (aM (aX (pOp cA (pFz (pOp fIx (pSl 1) (pSl 3))) (pFz (pOp fIx (pSl 2) (pFz (pOp fh (pSl 3) (pFz (pCB fg (aj (pSl 2) aC)))))))) (au 4)) (aM (aX (eX "Beginnings" ["words","numbers"] ai (bY 0) (aj (pFz (bY 4)) aC)) (au 5)) (hE (pOr (nU (pB (pOp (tu true) (pSl 4) (pSl 1))) (pB (pOp (fIs true) (pSl 5) (pFz (pC .non))))) (nU (pB (pOp (tu false) (pSl 4) (pSl 1))) (pB (pOp mH (pSl 5) (pFz (tF (pSl 1) (bY 4))))))) (ck (pC (.bl false))) bU))))) (ck (pC (.bl true)))))
theorem dU (c:Str) (ns:List Str) (fs ds es:List D) (Q:PV->Prop) (h:al ([.obj c ns fs,.lst ds,.lst es]) Q):hU bh cu ([.obj c ns fs,.lst ds,.lst es]) Q:=by
 show bh _ [some (.dat (.obj c ns fs)),some (.dat (.lst ds)),some (.dat (.lst es)),none,none,none]
 obtain ⟨rfl,rfl,ws,rfl,rfl,ls,rfl,⟨hl0,hl1⟩,⟨hn,hw⟩,q⟩:=h
 have hlm:(ls.map fun c=>D.str [c]).length=ls.length:=List.length_map _
 have hbm:((cb ws).map D.str).length=(cb ws).length:=List.length_map _
 have hbl:=f7 (fun w h=>(hw w h).1) ws.length (Nat.le_refl _)
 have hbl:(cb ws).length<=2401:=Nat.le_trans hbl (by omega)
 have hb60:=iC (fun w h=>(hw w h).1) ws.length (Nat.le_refl _)
 have hnd:=qO ws
 walk_at "r"
 rw [hbm]
 walk_at "r"
 refine ⟨fun k ρ=>∃v3 v4 v5:Option PV,ρ=[some (.dat (.obj "Beginnings" d2 (dR ws))),some (.dat (.lst ((cb ws).map .str))),some (.dat (.lst (ls.map fun c=>.str [c]))),v3,v4,v5],⟨_,_,_,rfl⟩,?_,?_⟩
 .rintro k ρ d hk ed ⟨v3,v4,v5,rfl⟩
  have hk:k < (cb ws).length:=by omega
  subst ed
  have nk:=qP hnd hk
  have hat:atI ((cb ws).map D.str) (k:Int)=some (.str (pw (cb ws) k)):=iy hk rfl
  have hp6:=hb60 _ (c5 hk)
  obtain ⟨i,hi,hi2⟩:∃i:Nat,(k:Int) % (ls.length:Int)=(i:Int)/\i < ls.length:=⟨((k:Int) % (ls.length:Int)).toNat,by have:=Int.emod_nonneg (k:Int) (show (ls.length:Int)≠0 by omega);omega,by have:=Int.emod_lt_of_pos (k:Int) (show 0 < (ls.length:Int) by omega);omega⟩
  walk_at "r"
  refine ⟨_,hat,?_⟩
  walk_at "r"
  rw [nk]
  walk_at "r"
  refine ⟨_,hat,?_⟩
  walk_at "r"
  rw [nk]
  walk_at "r"
  refine ⟨_,hat,?_⟩
  walk_at "r"
  rw [hlm,hi]
  refine ⟨_,f9 hi2,?_⟩
  have hl1:[ls.getD i 0].length=1:=rfl
  have hp6:(pw (cb ws) k).length<=60:=hp6
  have hfl:=mK (cb ws)
  have hin:=iA (pw (cb ws) k++[ls.getD i 0]) (cb ws)
  by_cases m:pw (cb ws) k++[ls.getD i 0]∈cb ws
  .have hnum:oR (cb ws) (pw (cb ws) k++[ls.getD i 0])=.int ((cb ws).idxOf (pw (cb ws) k++[ls.getD i 0]):Nat):=by unfold oR;rw [if_pos m]
   rw [decide_eq_true m] at hin
   walk_at "r"
   rw [hin,hnum]
   walk_at "r"
   rw [hin]
   walk_at "r"
   exact ⟨_,_,_,rfl⟩
  .have hnum:oR (cb ws) (pw (cb ws) k++[ls.getD i 0])=.non:=by unfold oR;rw [if_neg m]
   rw [decide_eq_false m] at hin
   walk_at "r"
   rw [hin,hnum]
   walk_at "r"
   rw [hin]
   walk_at "r"
   exact ⟨_,_,_,rfl⟩
 .rintro ρ ⟨v3,v4,v5,rfl⟩
  walk_at "r"
  exact q
theorem d3:∀ds Q,al ds Q->hU bh cu ds Q:=fun ds Q h=>by
 unfold al at h
 split at h
 .exact dU _ _ _ _ _ _ h
 .exact h.elim
def kz:PTS:=(aM (aX (cY aZ (aj (pFz (bY 0)) (aj (pFz (pC (.int 460))) aC))) (au 1)) (aM (aX (cj aV 1 aC) (au 2)) (aM (aX (pOp fh (pFz (cj az 1 aC)) (pFz (pC (.int 11)))) (au 3)) (aM (fH (hE (pB (pOp lf (pSl 3) (pFz (pC (.int 10))))) (aX (pC (.int 40)) (au 3)) bU)) (aM (aX (cj a9 1 (aj (pFz (bY 2)) (aj (pFz (bY 3)) aC))) (au 4)) (aM (aX (mI a9 (cY aZ (aj (pFz (pOp cA (pSl 0) (pFz (k6 (aj (pFz (pC (.int 7))) aC))))) (aj (pFz (pC (.int 90))) aC))) (aj (pFz (bY 2)) (aj (pFz (pC (.int 3))) aC))) (au 5)) (aM (aX (pCB nW (aj (pSl 4) aC)) (au 6)) (aM (aX (mZ "Beginnings" aF 6) (au 7)) (aM (aX (sY "Beginnings" aF (aj (pFz (pCB kd (aj (pSl 5) aC))) aC)) (au 8)) (aM (hE (pB (pOp mH (pSl 6) (pSl 4))) (ck (pC (.bl false))) bU) (aM (hC (qv 6 (pC (.str [122,122])))) (aM (aX (cY aA (aj (pFz (bY 4)) aC)) (au 9)) (aM (hE (qT (pB (cY al (aj (pFz (bY 7)) (aj (pFz (bY 9)) (aj (pFz (bY 2)) aC)))))) (ck (pC (.bl false))) bU) (aM (hE (qT (pB (cY al (aj (pFz (bY 8)) (aj (pFz (cY aA (aj (pFz (bY 5)) aC))) (aj (pFz (bY 2)) aC)))))) (ck (pC (.bl false))) bU) (aM (fq (qp (aj (pFz (pC (.int 12))) aC)) (au 10) (aM (aX (cj bq 1 (aj (pFz (bY 2)) (aj (pFz (bY 4)) aC))) (au 11)) (fq (jH (k6 (aj (pFz (bY 11)) (aj (pFz (pIf (pB (pOp mH (pSl 4) (pFz (k6 aC)))) (pOp cA (pSl 11) (pFz (pOp fIx (pSl 4) (pFz (pOp fh (pSl 10) (pFz (pCB fg (aj (pSl 4) aC)))))))) (bY 11))) aC)))) (au 12) (aM (aX (eX "Beginnings" ["words","numbers"] ag (bY 7) (aj (pFz (bY 12)) aC)) (au 13)) (hE (pOr (qT (pB (cY aL (aj (pFz (bY 13)) aC)))) (pB (pOp mH (pSl 13) (pFz (cY aP (aj (pFz (bY 9)) (aj (pFz (bY 12)) aC))))))) (ck (pC (.bl false))) bU))))) (aM (fq (jH (bY 9)) (au 14) (hE (pB (pOp mH (pFz (eX "Beginnings" ["words","numbers"] ag (bY 7) (aj (pFz (bY 14)) aC))) (pFz (pCB fg (aj (pSl 14) aC))))) (ck (pC (.bl false))) bU)) (ck (qf (pOp lf (pFz (eX "Beginnings" ["words","numbers"] ag (bY 7) (aj (pFz (pC (.str []))) aC))) (pFz (pC (.int 0)))) (cY al (aj (pFz (bY 7)) (aj (pFz (bY 9)) (aj (pFz (bY 2)) aC))))))))))))))))))))))
theorem qQ (ns:List Int) (h63:ns.length<=63) (Q:PV->Prop) (q:Q (.dat (.bl true))):hU kz oT [.scr ns] Q:=by
 show kz _ [some (.dat (.scr ns)),none,none,none,none,none,none,none,none,none,none,none,none,none,none]
 walk_at "r"
 refine ⟨ns,.inl rfl,⟨by omega,by decide,by decide⟩,fun z1 hz1 hl1=>?_⟩
 have hl1:z1.length=460:=hl1
 have g1:Dk z1/\3<=z1.length/\z1.length<=100000:=⟨hz1,by omega,by omega⟩
 walk_at "r"
 rintro ls z2 hs2 hs26 hsL _ hz2 hl2
 have g2:Dk z2/\0 < z2.length/\z2.length<=100000:=⟨hz2,by omega,by omega⟩
 walk_at "r"
 rintro za z3 ha0 ha1 hz3 hl3
 walk_at "r"
 refine ⟨fun ρ=>∃n:Nat,n<=40/\ρ=[some (.dat (.scr ns)),some (.own (z3.map .int)),some (.own (ls.map fun c=>.str [c])),some (.dat (.int (n:Int))),none,none,none,none,none,none,none,none,none,none,none],?_,?_⟩
 .walk_at "r"
  refine cw (fun c=>?_) (fun c=>?_)
  .walk_at "r"
   exact ⟨40,by decide,rfl⟩
  .exact ⟨(za % 11).toNat,by omega,by rw [Int.toNat_of_nonneg (by omega)]⟩
 rintro ρ ⟨n,hn,rfl⟩
 have gl:0 < ls.length/\ls.length<=26/\Lts ls:=⟨by omega,hs26,hsL⟩
 have g3:Dk z3/\z3.length<=10000:=⟨hz3,by omega⟩
 have g4:(0:Int)<=(n:Int)/\(n:Int)<=40/\16 + 8 * (n:Int)<=(z3.length:Int):=⟨by omega,by omega,by omega⟩
 walk_at "r"
 rintro ws z4 hwn hws hz4 hl4 hl4'
 have e7:ns.map D.int++[D.int 7]=(ns++[(7:Int)]).map D.int:=by rw [List.map_append];rfl
 have h7:(ns++[(7:Int)]).length=ns.length + 1:=by rw [List.length_append];rfl
 have l7:[D.int 7].length=1:=rfl
 walk_at "r"
 rw [e7]
 refine ⟨ns++[(7:Int)],.inr rfl,⟨by omega,by decide,by decide⟩,fun y1 hy1 hyl1=>?_⟩
 have hyl1:y1.length=90:=hyl1
 have g5:Dk y1/\y1.length<=10000:=⟨hy1,by omega⟩
 have g6:(0:Int)<=3/\(3:Int)<=40/\16 + 8 * (3:Int)<=(y1.length:Int):=⟨by decide,by decide,by omega⟩
 walk_at "r"
 rintro vs y2 hvn hvs hy2 hyl2 hyl2'
 have hwl:ws.length<=40:=by omega
 have hvl:vs.length<=40:=by omega
 have gw:ws.length<=40/\∀w∈ws,w.length<=60:=⟨hwl,fun w h=>(hws w h).1⟩
 have gv:vs.length<=40/\∀w∈vs,w.length<=60:=⟨hvl,fun w h=>(hvs w h).1⟩
 have gw2:ws.length<=40/\∀w∈ws,Wd w:=⟨hwl,hws⟩
 have gv2:vs.length<=40/\∀w∈vs,Wd w:=⟨hvl,hvs⟩
 have eqO:oJ (.lst (ws.map .str)) (.lst (ws.map .str)):=oJ.of (Sh.lstS fun w h=>(hws w h).2) (Sh.lstS fun w h=>(hws w h).2)
 have eqD:=nY (Sh.lstS (ws:=ws) fun w h=>(hws w h).2)
 have hwm:(ws.map D.str).length=ws.length:=List.length_map _
 have gl2:0 < ls.length/\ls.length<=26:=⟨by omega,hs26⟩
 walk_at "r"
 refine ⟨⟨rfl,m8 ws⟩,?_⟩
 walk_at "r"
 rw [eqD]
 walk_at "r"
 refine ⟨fun k ρ=>∃(zz:List Int) (v10 v11 v12 v13 v14:Option PV),Dk zz/\z4.length<=zz.length + 5 * k/\zz.length<=z4.length/\ρ=[some (.dat (.scr ns)),some (.own (zz.map .int)),some (.dat (.lst (ls.map fun c=>.str [c]))),some (.dat (.int (n:Int))),some (.dat (.lst (ws.map .str))),some (.dat (.lst (vs.map .str))),some (.own (ws.map .str++[.str [122,122]])),some (.dat (.obj "Beginnings" d2 (dR ws))),some (.dat (.obj "Beginnings" d2 (dR vs))),some (.dat (.lst ((cb ws).map .str))),v10,v11,v12,v13,v14],⟨z4,_,_,_,_,_,hz4,Nat.le_refl _,Nat.le_refl _,rfl⟩,?_,?_⟩
 .rintro k ρ d hk ed ⟨zz,v10,v11,v12,v13,v14,hzz,hzl,hzl',rfl⟩
  have hk:k < 12:=hk
  subst ed
  have g7:0 < ls.length/\ls.length<=26/\Lts ls:=gl
  have g8:Dk zz/\5<=zz.length/\zz.length<=10000:=⟨hzz,by omega,by omega⟩
  walk_at "r"
  rintro t z5 htl hz5 hl5 hl5'
  have ew1:=eI hws
  have ew2:=dS ws
  walk_at "r"
  rw [ew2]
  refine kY (fun c=>?_) (fun c=>?_)
  .have hw0:0 < ws.length:=List.length_pos_iff.mpr c
   obtain ⟨i,hi,hi2⟩:∃i:Nat,(k:Int) % (ws.length:Int)=(i:Int)/\i < ws.length:=⟨((k:Int) % (ws.length:Int)).toNat,by have:=Int.emod_nonneg (k:Int) (show (ws.length:Int)≠0 by omega);omega,by have:=Int.emod_lt_of_pos (k:Int) (show 0 < (ws.length:Int) by omega);omega⟩
   have hi6:=(hws _ (c5 hi2)).1
   have hu:(t++pw ws i).length<=300:=by rw [List.length_append];omega
   walk_at "r"
   rw [hwm,hi]
   refine ⟨_,iy hi2 rfl,?_⟩
   walk_at "r"
   refine ⟨fun m ρ=>∃v12 v13:Option PV,ρ=[some (.dat (.scr ns)),some (.own (z5.map .int)),some (.dat (.lst (ls.map fun c=>.str [c]))),some (.dat (.int (n:Int))),some (.dat (.lst (ws.map .str))),some (.dat (.lst (vs.map .str))),some (.own (ws.map .str++[.str [122,122]])),some (.dat (.obj "Beginnings" d2 (dR ws))),some (.dat (.obj "Beginnings" d2 (dR vs))),some (.dat (.lst ((cb ws).map .str))),some (.dat (.int (k:Int))),some (.dat (.str t)),v12,v13,v14],⟨_,_,rfl⟩,?_,?_⟩
   .rintro m ρ d hm ed2 ⟨v12,v13,rfl⟩
    have hm:m < 2:=hm
    obtain ⟨e,rfl,he⟩:∃e:List Nat,d=.str e/\e.length<=300:=by
     rw [ed2]
     have:m=0\/m=1:=by omega
     rcases this with rfl | rfl
     .exact ⟨t,rfl,by omega⟩
     .exact ⟨t++pw ws i,rfl,hu⟩
    have g10:(e.length<=100000/\ws.length<=1000)/\∀w∈ws,w.length<=60:=⟨⟨by omega,by omega⟩,gw.2⟩
    have g11:e.length<=100000/\[]∈cb ws:=⟨by omega,f8 ws⟩
    walk_at "r"
    rintro a ha
    walk_at "r"
    rintro b hb
    rw [jk hb ha]
    walk_at "r"
    exact ⟨_,_,rfl⟩
   .rintro ρ ⟨v12,v13,rfl⟩
    exact ⟨z5,_,_,_,_,_,hz5,by omega,by omega,rfl⟩
  .have hu:t.length<=300:=by omega
   walk_at "r"
   refine ⟨fun m ρ=>∃v12 v13:Option PV,ρ=[some (.dat (.scr ns)),some (.own (z5.map .int)),some (.dat (.lst (ls.map fun c=>.str [c]))),some (.dat (.int (n:Int))),some (.dat (.lst (ws.map .str))),some (.dat (.lst (vs.map .str))),some (.own (ws.map .str++[.str [122,122]])),some (.dat (.obj "Beginnings" d2 (dR ws))),some (.dat (.obj "Beginnings" d2 (dR vs))),some (.dat (.lst ((cb ws).map .str))),some (.dat (.int (k:Int))),some (.dat (.str t)),v12,v13,v14],⟨_,_,rfl⟩,?_,?_⟩
   .rintro m ρ d hm ed2 ⟨v12,v13,rfl⟩
    have hm:m < 2:=hm
    obtain ⟨e,rfl,he⟩:∃e:List Nat,d=.str e/\e.length<=300:=by
     rw [ed2]
     have:m=0\/m=1:=by omega
     rcases this with rfl | rfl
     .exact ⟨t,rfl,by omega⟩
     .exact ⟨t,rfl,hu⟩
    have g10:(e.length<=100000/\ws.length<=1000)/\∀w∈ws,w.length<=60:=⟨⟨by omega,by omega⟩,gw.2⟩
    have g11:e.length<=100000/\[]∈cb ws:=⟨by omega,f8 ws⟩
    walk_at "r"
    rintro a ha
    walk_at "r"
    rintro b hb
    rw [jk hb ha]
    walk_at "r"
    exact ⟨_,_,rfl⟩
   .rintro ρ ⟨v12,v13,rfl⟩
    exact ⟨z5,_,_,_,_,_,hz5,by omega,by omega,rfl⟩
 .rintro ρ ⟨zz,v10,v11,v12,v13,v14,hzz,hzl,hzl',rfl⟩
  walk_at "r"
  refine ⟨fun k ρ=>∃v14:Option PV,ρ=[some (.dat (.scr ns)),some (.own (zz.map .int)),some (.dat (.lst (ls.map fun c=>.str [c]))),some (.dat (.int (n:Int))),some (.dat (.lst (ws.map .str))),some (.dat (.lst (vs.map .str))),some (.own (ws.map .str++[.str [122,122]])),some (.dat (.obj "Beginnings" d2 (dR ws))),some (.dat (.obj "Beginnings" d2 (dR vs))),some (.dat (.lst ((cb ws).map .str))),v10,v11,v12,v13,v14],⟨_,rfl⟩,?_,?_⟩
  .rintro k ρ d hk ed ⟨v14,rfl⟩
   have hbm:((cb ws).map D.str).length=(cb ws).length:=List.length_map _
   have hk:k < (cb ws).length:=by rw [<- hbm];exact hk
   obtain rfl:d=.str (pw (cb ws) k):=by rw [ed];exact jM (by rw [hbm];exact hk)
   have hb6:=iC (fun w h=>(hws w h).1) ws.length (Nat.le_refl _) _ (c5 hk)
   have hb6:(pw (cb ws) k).length<=60:=hb6
   have g9:((pw (cb ws) k).length<=100000/\ws.length<=1000)/\∀w∈ws,w.length<=60:=⟨⟨by omega,by omega⟩,gw.2⟩
   walk_at "r"
   rintro m hm
   rw [m9 (c5 hk) hm]
   walk_at "r"
   exact ⟨_,rfl⟩
  .rintro ρ ⟨v14,rfl⟩
   have g9:(([]:List Nat).length<=100000/\ws.length<=1000)/\∀w∈ws,w.length<=60:=⟨⟨Nat.zero_le _,by omega⟩,gw.2⟩
   walk_at "r"
   rintro m hm
   have m0:m=0:=by have:=hm.1.1;exact Nat.le_zero.mp this
   subst m0
   walk_at "r"
   exact q
theorem tM:∀ds Q,ky ds Q->hU kz oT ds Q:=fun ds Q h=>by
 obtain ⟨ns,rfl,h63,q⟩:=h
 exact qQ ns h63 Q q
section
variable {P:Program}{w:World}{K:PySem.W.Frag}{mg:Str->Option Value}{base:Heap}
theorem cR:∀p ds Q,aF p ds Q->ds.length + 1=2:=fun p ds Q h=>by unfold aF at h;split at h;(first | rfl | exact h.elim);(first | rfl | exact h.elim)
theorem fc (D:j7 K mg (aY K "Beginnings") "Beginnings" "Beginnings.__init__" aT) (T:Txt mg) (TC:TxC K):sB P w K mg base 1 (aY K "Beginnings") "Beginnings" ["self","words"] (spR K aF):=by
 refine D.ok bV (fun _ _ _ _ _ _ us hl=>match us,hl with | [_,_],_=>rfl) (fun vs H Q E h=>?_) (fun f cdv A outer s H vs Q E hr h=>?_)
 .exact qX cR h
 .have hu:=hr.units
  exact ⟨_,(af (oA (pv 0) (dZ (mB K rfl) rfl T.b_tuple boot_tuple (paC (pv 1) ah)) rfl) (af (oA (pv 0) (p8 (nP (tk:=tC (kV (Sum.inr (S [])))) (er (l:=[]) (by decide +kernel)) am p7) rfl rfl (by intro z;cases z) (by decide)) rfl) (aq (cF PassesOwn.never rfl (gx K rfl (eA K rfl (pv 0) rfl)) (bI (i:=2) bV.nd rfl (by first | exact Or.inl rfl | exact Or.inr rfl)) (aq (cF PassesOwn.never rfl (iL rfl T.b_range (paC am (paC (aK (bD K rfl) (ay (bZ K rfl) rfl T.b_len PySem.boot_len (paC (pv 2) ah)) am) ah))) (bI (i:=3) bV.nd rfl (by first | exact Or.inl rfl | exact Or.inr rfl)) (aq (fi (p9 (eA K rfl (pv 0) rfl) (bT (mx K rfl) (pv 2) de (b7 (pv 3))) (ay (bZ K rfl) rfl T.b_len PySem.boot_len (paC (eA K rfl (pv 0) rfl) ah)) ⟨rfl,rfl,rfl,rfl⟩))))))))),fnR (K:=K) (c:=aF) (ps:=bA) (N:=["self","words","word","k"]) (aw (qz (c0:="Beginnings") (ns0:=[]) (i:=0) TC.cl_Beginnings TC.n_Beginnings_words (by decide +kernel) (bR ke (aa (ak (i:=1)) ae))) (qH rfl rfl TC.cl_Beginnings TC.n_Beginnings_words TC.n_Beginnings_numbers)) (fun p ds Q h=>Nat.le_trans (Nat.le_of_eq (cR p ds Q h)) (by decide)) e8 h⟩
theorem cS:∀ds Q,ax ds Q->ds.length=1:=fun ds Q h=>by unfold ax at h;split at h;(first | rfl | exact h.elim);(first | rfl | exact h.elim)
theorem fe (D:fF K (aY K "Beginnings") "many" "Beginnings.many" aU) (T:Txt mg) (TC:TxC K):nT P w K mg base 1 (aY K "Beginnings") "many" ["self"] (spP K ax):=by
 refine D.ok e6 (fun _ _ _ _ _ _ us hl=>match us,hl with | [_],_=>rfl) (fun vs H Q E h=>?_) (fun f cdv A outer s H vs Q E hr h=>?_)
 .exact ng cS h
 .have hu:=hr.units
  exact ⟨_,(aq (bw (ay (bZ K rfl) rfl T.b_len PySem.boot_len (paC (eA K rfl (pv 0) rfl) ah)))),fnP (K:=K) (c:=ax) (ps:=bB) (N:=["self"]) (bz (bR bi (aa (ac (kh (ns0:=["words","numbers"]) TC.cl_Beginnings TC.n_Beginnings_numbers (i:=1) (by decide +kernel) (ak (i:=0)))) ae))) (fun ds Q h=>Nat.le_trans (Nat.le_of_eq (cS ds Q h)) (by decide)) e9 h⟩
theorem bX:∀ds Q,ai ds Q->ds.length=2:=fun ds Q h=>by unfold ai at h;split at h;(first | rfl | exact h.elim);(first | rfl | exact h.elim)
theorem dB (D:fF K (aY K "Beginnings") "number_of" "Beginnings.number_of" aJ) (T:Txt mg) (TC:TxC K):nT P w K mg base 1 (aY K "Beginnings") "number_of" ["self","text"] (spP K ai):=by
 refine D.ok du (fun _ _ _ _ _ _ us hl=>match us,hl with | [_,_],_=>rfl) (fun vs H Q E h=>?_) (fun f cdv A outer s H vs Q E hr h=>?_)
 .exact ng bX h
 .have hu:=hr.units
  exact ⟨_,(aq (bw (nQ (hu1 hu) (eA K rfl (pv 0) rfl) (pv 1) ⟨rfl,rfl,rfl,rfl⟩))),fnP (K:=K) (c:=ai) (ps:=a6) (N:=["self","text"]) (bz (n9 (ac (kh (ns0:=["words","numbers"]) TC.cl_Beginnings TC.n_Beginnings_numbers (i:=1) (by decide +kernel) (ak (i:=0)))) (aD (i:=1)))) (fun ds Q h=>Nat.le_trans (Nat.le_of_eq (bX ds Q h)) (by decide)) dw h⟩
theorem bM:∀ds Q,ag ds Q->ds.length=2:=fun ds Q h=>by unfold ag at h;split at h;(first | rfl | exact h.elim);(first | rfl | exact h.elim)
theorem cU (D:fF K (aY K "Beginnings") "longest_end" "Beginnings.longest_end" aE) (T:Txt mg) (TC:TxC K):nT P w K mg base 1 (aY K "Beginnings") "longest_end" ["self","text"] (spP K ag):=by
 refine D.ok bc (fun _ _ _ _ _ _ us hl=>match us,hl with | [_,_],_=>rfl) (fun vs H Q E h=>?_) (fun f cdv A outer s H vs Q E hr h=>?_)
 .exact ng bM h
 .have hu:=hr.units
  exact ⟨_,(af (aG (i:=2) bc.nd rfl (by first | exact Or.inl rfl | exact Or.inr rfl) (qJ K rfl rfl rfl T.b_max (paC (me (wi:=(sQ K (pA K (gK 0) "words"))) (g:=(iK 0)) (tts:=tT) (te:=(tCB (my K) (dJ (gK 0) j2))) ["word"] [none] rfl (gx K rfl (eA K rfl (pv 0) rfl)) (fun _ _ _ _=>⟨(bI (i:=0) (by show List.Nodup (["word"]:List Str);decide +kernel) rfl (by first | exact Or.inl rfl | exact Or.inr rfl)),ma,(ay (bZ K rfl) rfl T.b_len PySem.boot_len (paC (pv 0) ah))⟩) (by kernel_rfl)) ah) am)) (af (cF PassesOwn.never rfl (lV rfl T.b_range (paC (ay (sV rfl) rfl T.b_min boot_min (paC (pv 2) (paC (ay (bZ K rfl) rfl T.b_len PySem.boot_len (paC (pv 1) ah)) ah))) (paC am (paC (o8 lv am) ah)))) (bI (i:=3) bc.nd rfl (by first | exact Or.inl rfl | exact Or.inr rfl)) (aq (c9 (aO (uS hu) (bT (mx K rfl) (pv 1) (b7 (aK nX (ay (bZ K rfl) rfl T.b_len PySem.boot_len (paC (pv 1) ah)) (pv 3))) de) (eA K rfl (pv 0) rfl) (by with_unfolding_all rfl)) (aq (bw (pv 3))) bu))) (aq (bw am)))),fnP (K:=K) (c:=ag) (ps:=aW) (N:=["self","text","longest","k"]) (aw (aH (qK (ac (mz (ix:=[none]) rfl (hG (kh (ns0:=["words","numbers"]) TC.cl_Beginnings TC.n_Beginnings_words (i:=0) (by decide +kernel) (ak (i:=0)))) (fun fs hc=>(bx (i:=0) (vr hc (by decide)))) oM (bR bi (aa (ak (i:=0)) ae)))) le_int) (ar (i:=2) rfl)) (aw (dF (uE (aa (ac (bR qy (aa (ak (i:=2)) (aa (ac (bR bi (aa (ak (i:=1)) ae))) ae)))) (aa (ac le_int) (aa (ac (qe mD (ac le_int))) ae)))) (bx (i:=3) rfl) (dn (eB (ao tz (ac (b9 (ak (i:=1)) (bN (ao j9 (ac (bR bi (aa (ak (i:=1)) ae))) (ak (i:=3)))) cH)) (ac (kh (ns0:=["words","numbers"]) TC.cl_Beginnings TC.n_Beginnings_numbers (i:=1) (by decide +kernel) (ak (i:=0)))))) (bz (aD (i:=3))) bv)) (bz le_int))) (fun ds Q h=>Nat.le_trans (Nat.le_of_eq (bM ds Q h)) (by decide)) cT h⟩
theorem fO:∀ds Q,a7 ds Q->ds.length=2:=fun ds Q h=>by unfold a7 at h;split at h;(first | rfl | exact h.elim);(first | rfl | exact h.elim)
theorem js (D:dH K mg "_law_mixed" eE) (T:Txt mg) (TC:TxC K):Cal P w K mg base 1 "_law_mixed" ["_law_cell","_law_k"] (spP K a7):=by
 refine D.ok bE (fun _ _ _ _ _ _ us hl=>match us,hl with | [_,_],_=>rfl) (fun vs H Q E h=>?_) (fun f cdv A outer s H vs Q E hr h=>?_)
 .exact ng fO h
 .have hu:=hr.units
  exact ⟨_,(af (aG (i:=2) bE.nd rfl (by first | exact Or.inl rfl | exact Or.inr rfl) (aK (bD K rfl) (aK b3 (pv 0) am) (aK gq (aK gq (pv 1) (pv 1)) am))) (af (aG (i:=2) bE.nd rfl (by first | exact Or.inl rfl | exact Or.inr rfl) (aK b3 (aK (bD K rfl) (aK (bD K rfl) (pv 2) (aK gq (pv 1) am)) am) am)) (af (aG (i:=2) bE.nd rfl (by first | exact Or.inl rfl | exact Or.inr rfl) (aK b3 (aK gq (pv 2) (pv 2)) am)) (af (aG (i:=2) bE.nd rfl (by first | exact Or.inl rfl | exact Or.inr rfl) (aK gq (aK (bD K rfl) (aK (bD K rfl) (pv 2) (aK gq (pv 1) am)) am) am)) (af (aG (i:=2) bE.nd rfl (by first | exact Or.inl rfl | exact Or.inr rfl) (aK b3 (pv 2) am)) (af (aG (i:=2) bE.nd rfl (by first | exact Or.inl rfl | exact Or.inr rfl) (aK b3 (aK gq (pv 2) (pv 2)) am)) (aq (bw (aK hJ (pv 2) am))))))))),fnP (K:=K) (c:=a7) (ps:=cN) (N:=["_law_cell","_law_k","_law_number"]) (aw (aH (ao bb (ac (ao bf (ak (i:=0)) (ac le_int))) (ac (ao dN (ac (ao dN (ak (i:=1)) (ak (i:=1)))) (ac le_int)))) (ar (i:=2) rfl)) (aw (aH (ao bf (ac (ao bb (ac (ao bb (ak (i:=2)) (ac (ao dN (ak (i:=1)) (ac le_int))))) (ac le_int))) (ac le_int)) (ar (i:=2) rfl)) (aw (aH (ao bf (ac (ao dN (ak (i:=2)) (ak (i:=2)))) (ac le_int)) (ar (i:=2) rfl)) (aw (aH (ao dN (ac (ao bb (ac (ao bb (ak (i:=2)) (ac (ao dN (ak (i:=1)) (ac le_int))))) (ac le_int))) (ac le_int)) (ar (i:=2) rfl)) (aw (aH (ao bf (ak (i:=2)) (ac le_int)) (ar (i:=2) rfl)) (aw (aH (ao bf (ac (ao dN (ak (i:=2)) (ak (i:=2)))) (ac le_int)) (ar (i:=2) rfl)) (bz (ao fm (ak (i:=2)) (ac le_int))))))))) (fun ds Q h=>Nat.le_trans (Nat.le_of_eq (fO ds Q h)) (by decide)) jl h⟩
theorem gH:∀ds Q,aZ ds Q->ds.length=2:=fun ds Q h=>by unfold aZ at h;split at h;(first | rfl | exact h.elim);(first | rfl | exact h.elim)
theorem jV (D:dH K mg "_law_deck" fu) (T:Txt mg) (TC:TxC K) (C_law_mixed:Cal P w K mg base 1 "_law_mixed" ["_law_cell","_law_k"] (spP K a7)):Cal P w K mg base 2 "_law_deck" ["_law_script","_law_many"] (spP K aZ):=by
 refine D.ok bp (fun _ _ _ _ _ _ us hl=>match us,hl with | [_,_],_=>rfl) (fun vs H Q E h=>?_) (fun f cdv A outer s H vs Q E hr h=>?_)
 .exact ng gH h
 .have hu:=hr.units
  exact ⟨_,(af (aG (i:=2) bp.nd rfl (by first | exact Or.inl rfl | exact Or.inr rfl) (aK (bD K rfl) (dZ (oN K rfl) rfl T.b_list boot_list (paC (pv 0) ah)) (dC (paC (ay (bZ K rfl) rfl T.b_len PySem.boot_len (paC (pv 0) ah)) ah)))) (af (aG (i:=3) bp.nd rfl (by first | exact Or.inl rfl | exact Or.inr rfl) (dC ah)) (af (aG (i:=4) bp.nd rfl (by first | exact Or.inl rfl | exact Or.inr rfl) am) (af (j0 PassesOwn.never (aO tV (ay (bZ K rfl) rfl T.b_len PySem.boot_len (paC (pv 3) ah)) (pv 1) (bd _)) (af (cF PassesOwn.never rfl (gx K rfl (pv 2)) (bI (i:=5) bp.nd rfl (by first | exact Or.inl rfl | exact Or.inr rfl)) (af (aG (i:=6) bp.nd rfl (by first | exact Or.inl rfl | exact Or.inr rfl) (pv 5)) (af (et (c9 (PW.pt (kB (aO uM (pv 4) am (bd _)) (gT (aO tV (pv 5) (aK uL am am) (bd _))))) (af (fi (gZ K rfl PySem.F.plainAttrs_list PySem.F.slot_list_append PySem.F.type_list_append cW (pv 3) (paC (aK b3 (aR C_law_mixed (hr.mono (by decide)) (paC (pv 5) (paC (aK (bD K rfl) (ay (bZ K rfl) rfl T.b_len PySem.boot_len (paC (pv 3) ah)) am) ah))) am) ah))) (aq (aG (i:=6) bp.nd rfl (by first | exact Or.inl rfl | exact Or.inr rfl) am))) bu)) (aq (j0 PassesOwn.never (PW.pt (fC (aO uM (pv 6) am (bd _)) (eo (aO tV (ay (bZ K rfl) rfl T.b_len PySem.boot_len (paC (pv 3) ah)) (pv 1) (bd _))))) (af (fi (gZ K rfl PySem.F.plainAttrs_list PySem.F.slot_list_append PySem.F.type_list_append cW (pv 3) (paC (aK b3 (pv 6) am) ah))) (aq (aG (i:=6) bp.nd rfl (by first | exact Or.inl rfl | exact Or.inr rfl) (aK hJ (pv 6) am))))))))) (aq (aG (i:=4) bp.nd rfl (by first | exact Or.inl rfl | exact Or.inr rfl) (aK (bD K rfl) (pv 4) am))))) (aq (bw (jL K rfl rfl (bT (mx K rfl) (pv 3) de (b7 (pv 1))) rfl T.b_list rfl T.b_reversed))))))),fnP (K:=K) (c:=aZ) (ps:=dy) (N:=["_law_script","_law_many","_law_cells","_law_found","_law_turn","_law_cell","_law_rest"]) (aw (aH (ao bb (ac (bR mC (aa (ak (i:=0)) ae))) (ac (dE (aa (ac (bR bi (aa (ak (i:=0)) ae))) ae)))) (ar (i:=2) rfl)) (aw (aH (dE ae) (ar (i:=3) rfl)) (aw (aH le_int (ar (i:=4) rfl)) (aw (kc (eB (ao nV (ac (bR bi (aa (ak (i:=3)) ae))) (ak (i:=1)))) (aw (dF (hG (aD (i:=2))) (bx (i:=5) rfl) (aw (aH (aD (i:=5)) (ar (i:=6) rfl)) (aw (eC (dn (k7 (eB (ao qi (ak (i:=4)) (ac le_int))) (eB (ao nV (ak (i:=5)) (ac (ao sJ (ac le_int) (ac le_int)))))) (aw (gu (jc (i:=3) (ao bf (ac (bO (c:=a7) (aa (ac (aD (i:=5))) (aa (ac (ao bb (ac (bR bi (aa (ak (i:=3)) ae))) (ac le_int))) ae)))) (ac le_int)))) (aH le_int (ar (i:=6) rfl))) bv)) (kc (fG (eB (ao qi (ak (i:=6)) (ac le_int))) (eB (ao nV (ac (bR bi (aa (ak (i:=3)) ae))) (ak (i:=1))))) (aw (gu (jc (i:=3) (ao bf (ak (i:=6)) (ac le_int)))) (aH (ao fm (ak (i:=6)) (ac le_int)) (ar (i:=6) rfl))))))) (aH (ao bb (ak (i:=4)) (ac le_int)) (ar (i:=4) rfl)))) (bz (la (ac (b9 (ak (i:=3)) cH (bN (aD (i:=1))))))))))) (fun ds Q h=>Nat.le_trans (Nat.le_of_eq (gH ds Q h)) (by decide)) jS h⟩
theorem gI:∀p ds Q,az p ds Q->ds.length + 1=1:=fun p ds Q h=>by unfold az at h;split at h;(first | rfl | exact h.elim);(first | rfl | exact h.elim)
theorem jW (D:dH K mg "_law_next" fw) (T:Txt mg) (TC:TxC K):Cal P w K mg base 1 "_law_next" ["_law_deck_here"] (spR K az):=by
 refine D.ok jR (fun _ _ _ _ _ _ us hl=>match us,hl with | [_],_=>rfl) (fun vs H Q E h=>?_) (fun f cdv A outer s H vs Q E hr h=>?_)
 .exact qX gI h
 .have hu:=hr.units
  exact ⟨_,(aq (bw (rS PySem.F.plainAttrs_list PySem.F.slot_list_pop PySem.F.type_list_pop rT (pv 0)))),fnR (K:=K) (c:=az) (ps:=dz) (N:=["_law_deck_here"]) (bz (sS (i:=0))) (fun p ds Q h=>Nat.le_trans (Nat.le_of_eq (gI p ds Q h)) (by decide)) jT h⟩
theorem ej:∀p ds Q,aV p ds Q->ds.length + 1=1:=fun p ds Q h=>by unfold aV at h;split at h;(first | rfl | exact h.elim);(first | rfl | exact h.elim)
theorem gR (D:dH K mg "_law_letters" dr) (T:Txt mg) (TC:TxC K) (C_law_next:Cal P w K mg base 1 "_law_next" ["_law_deck_here"] (spR K az)):Cal P w K mg base 2 "_law_letters" ["_law_deck_here"] (spR K aV):=by
 refine D.ok cc (fun _ _ _ _ _ _ us hl=>match us,hl with | [_],_=>rfl) (fun vs H Q E h=>?_) (fun f cdv A outer s H vs Q E hr h=>?_)
 .exact qX ej h
 .have hu:=hr.units
  exact ⟨_,(af (aG (i:=1) cc.nd rfl (by first | exact Or.inl rfl | exact Or.inr rfl) (eO (ka K rfl) (dC (paC am (paC am (paC am (paC am ah))))) (aK b3 (aR C_law_next (hr.mono (by decide)) (paC (pv 0) ah)) am) (fun _ _=>rfl))) (af (aG (i:=2) cc.nd rfl (by first | exact Or.inl rfl | exact Or.inr rfl) (aK b3 (aR C_law_next (hr.mono (by decide)) (paC (pv 0) ah)) am)) (af (aG (i:=3) cc.nd rfl (by first | exact Or.inl rfl | exact Or.inr rfl) (eO (ka K rfl) (dC (paC am (paC am (paC am ah)))) (aK b3 (aR C_law_next (hr.mono (by decide)) (paC (pv 0) ah)) am) (fun _ _=>rfl))) (aq (bw (me (wi:=(o4 (dJ (gK 1) j2))) (g:=(iK 0)) (tts:=tT) (te:=(tOp (uA K) (tC (V.str (S [97,98,99,100,101,102,103,104,105,106,107,108,109,110,111,112,113,114,115,116,117,118,119,120,121,122]))) (tOp sZ (tOp (n8 K) (gK 1) (tOp qh (gK 2) (gK 0))) (tC (V.int 26))))) ["_law_k","_law_first","_law_step"] [none,some 2,some 3] rfl (cV rfl T.b_range (paC (pv 1) ah)) (fun _ _ _ _=>⟨(bI (i:=0) (by show List.Nodup (["_law_k","_law_first","_law_step"]:List Str);decide +kernel) rfl (by first | exact Or.inl rfl | exact Or.inr rfl)),ma,(eO (ka K rfl) (er (l:=[97,98,99,100,101,102,103,104,105,106,107,108,109,110,111,112,113,114,115,116,117,118,119,120,121,122]) (by decide +kernel)) (aK b3 (aK (bD K rfl) (pv 1) (aK gq (pv 2) (pv 0))) am) (fun _ _=>rfl))⟩) (by kernel_rfl))))))),fnR (K:=K) (c:=aV) (ps:=cf) (N:=["_law_deck_here","_law_many","_law_first","_law_step"]) (aw (aH (ao eV (ac (dE (aa (ac le_int) (aa (ac le_int) (aa (ac le_int) (aa (ac le_int) ae)))))) (ac (ao bf (ac (bo (i:=0) ae)) (ac le_int)))) (ar (i:=1) rfl)) (aw (aH (ao bf (ac (bo (i:=0) ae)) (ac le_int)) (ar (i:=2) rfl)) (aw (aH (ao eV (ac (dE (aa (ac le_int) (aa (ac le_int) (aa (ac le_int) ae))))) (ac (ao bf (ac (bo (i:=0) ae)) (ac le_int)))) (ar (i:=3) rfl)) (bz (mz (ix:=[none,some 2,some 3]) rfl (k9 (aa (ac (aD (i:=1))) ae)) (fun fs hc=>(bx (i:=0) (vr hc (by decide)))) oM (ao eV (ac (le_str (l:=[97,98,99,100,101,102,103,104,105,106,107,108,109,110,111,112,113,114,115,116,117,118,119,120,121,122]))) (ac (ao bf (ac (ao bb (ak (i:=1)) (ac (ao dN (ak (i:=2)) (ak (i:=0)))))) (ac le_int))))))))) (fun p ds Q h=>Nat.le_trans (Nat.le_of_eq (ej p ds Q h)) (by decide)) gP h⟩
theorem fP:∀p ds Q,a8 p ds Q->ds.length + 1=3:=fun p ds Q h=>by unfold a8 at h;split at h;(first | rfl | exact h.elim);(first | rfl | exact h.elim)
theorem jt (D:dH K mg "_law_signs" eF) (T:Txt mg) (TC:TxC K) (C_law_next:Cal P w K mg base 1 "_law_next" ["_law_deck_here"] (spR K az)):Cal P w K mg base 2 "_law_signs" ["_law_deck_here","_law_letters_here","_law_many"] (spR K a8):=by
 refine D.ok cJ (fun _ _ _ _ _ _ us hl=>match us,hl with | [_,_,_],_=>rfl) (fun vs H Q E h=>?_) (fun f cdv A outer s H vs Q E hr h=>?_)
 .exact qX fP h
 .have hu:=hr.units
  exact ⟨_,(af (aG (i:=3) cJ.nd rfl (by first | exact Or.inl rfl | exact Or.inr rfl) (er (l:=[]) (by decide +kernel))) (af (cF PassesOwn.never rfl (cV rfl T.b_range (paC (pv 2) ah)) (bI (i:=4) cJ.nd rfl (by first | exact Or.inl rfl | exact Or.inr rfl)) (aq (aG (i:=3) cJ.nd rfl (by first | exact Or.inl rfl | exact Or.inr rfl) (aK (bD K rfl) (pv 3) (eO (ka K rfl) (pv 1) (aK b3 (aR C_law_next (hr.mono (by decide)) (paC (pv 0) ah)) (ay (bZ K rfl) rfl T.b_len PySem.boot_len (paC (pv 1) ah))) (fun _ _=>rfl)))))) (aq (bw (pv 3))))),fnR (K:=K) (c:=a8) (ps:=cO) (N:=["_law_deck_here","_law_letters_here","_law_many","_law_found","_law_k"]) (aw (aH (le_str (l:=[])) (ar (i:=3) rfl)) (aw (dF (k9 (aa (ac (aD (i:=2))) ae)) (bx (i:=4) rfl) (aH (ao bb (ak (i:=3)) (ac (ao eV (ak (i:=1)) (ac (ao bf (ac (bo (i:=0) ae)) (ac (bR bi (aa (ak (i:=1)) ae)))))))) (ar (i:=3) rfl))) (bz (aD (i:=3))))) (fun p ds Q h=>Nat.le_trans (Nat.le_of_eq (fP p ds Q h)) (by decide)) jo h⟩
theorem fQ:∀p ds Q,a9 p ds Q->ds.length + 1=3:=fun p ds Q h=>by unfold a9 at h;split at h;(first | rfl | exact h.elim);(first | rfl | exact h.elim)
theorem ju (D:dH K mg "_law_words" eG) (T:Txt mg) (TC:TxC K) (C_law_next:Cal P w K mg base 1 "_law_next" ["_law_deck_here"] (spR K az)) (C_law_signs:Cal P w K mg base 2 "_law_signs" ["_law_deck_here","_law_letters_here","_law_many"] (spR K a8)):Cal P w K mg base 3 "_law_words" ["_law_deck_here","_law_letters_here","_law_many"] (spR K a9):=by
 refine D.ok aQ (fun _ _ _ _ _ _ us hl=>match us,hl with | [_,_,_],_=>rfl) (fun vs H Q E h=>?_) (fun f cdv A outer s H vs Q E hr h=>?_)
 .exact qX fQ h
 .have hu:=hr.units
  exact ⟨_,(af (aG (i:=3) aQ.nd rfl (by first | exact Or.inl rfl | exact Or.inr rfl) (aR C_law_signs (hr.mono (by decide)) (paC (pv 0) (paC (pv 1) (paC am ah))))) (af (aG (i:=4) aQ.nd rfl (by first | exact Or.inl rfl | exact Or.inr rfl) (dC ah)) (af (cF PassesOwn.never rfl (cV rfl T.b_range (paC (pv 2) ah)) (bI (i:=5) aQ.nd rfl (by first | exact Or.inl rfl | exact Or.inr rfl)) (af (aG (i:=6) aQ.nd rfl (by first | exact Or.inl rfl | exact Or.inr rfl) (aK b3 (aR C_law_next (hr.mono (by decide)) (paC (pv 0) ah)) am)) (af (aG (i:=7) aQ.nd rfl (by first | exact Or.inl rfl | exact Or.inr rfl) (aK b3 (aR C_law_next (hr.mono (by decide)) (paC (pv 0) ah)) am)) (af (aG (i:=8) aQ.nd rfl (by first | exact Or.inl rfl | exact Or.inr rfl) (bT (mx K rfl) (pv 3) (b7 (pv 7)) (b7 (aK (bD K rfl) (aK (bD K rfl) (pv 7) am) (aK b3 (aR C_law_next (hr.mono (by decide)) (paC (pv 0) ah)) am))))) (af (et (c9 (aO (gN K rfl hu) (pv 6) am (bd _)) (aq (aG (i:=8) aQ.nd rfl (by first | exact Or.inl rfl | exact Or.inr rfl) (aR C_law_signs (hr.mono (by decide)) (paC (pv 0) (paC (pv 1) (paC (aK (bD K rfl) am (aK b3 (pv 7) am)) ah)))))) bu)) (af (et (c9 (PW.pt (fC (aO (gN K rfl hu) (pv 6) am (bd _)) (eo (aO (iz K rfl hu) (pv 4) (dC ah) (bd _))))) (aq (aG (i:=8) aQ.nd rfl (by first | exact Or.inl rfl | exact Or.inr rfl) (eO (ka K rfl) (pv 4) (aK b3 (pv 7) (ay (bZ K rfl) rfl T.b_len PySem.boot_len (paC (pv 4) ah))) (fun _ _=>rfl)))) bu)) (af (et (c9 (PW.pt (fC (aO (gN K rfl hu) (pv 6) am (bd _)) (eo (aO (iz K rfl hu) (pv 4) (dC ah) (bd _))))) (aq (aG (i:=8) aQ.nd rfl (by first | exact Or.inl rfl | exact Or.inr rfl) (aK (bD K rfl) (bT (mx K rfl) (eO (ka K rfl) (pv 4) (o8 lv am) (fun _ _=>rfl)) (b7 (o8 lv am)) de) (pv 8)))) bu)) (af (et (c9 (aO (gN K rfl hu) (pv 6) am (bd _)) (aq (aG (i:=8) aQ.nd rfl (by first | exact Or.inl rfl | exact Or.inr rfl) (aK gq (eO (ka K rfl) (pv 1) (aK b3 (pv 7) (ay (bZ K rfl) rfl T.b_len PySem.boot_len (paC (pv 1) ah))) (fun _ _=>rfl)) (aK (bD K rfl) am (aK b3 (pv 7) am))))) bu)) (af (et (c9 (PW.pt (fC (aO (gN K rfl hu) (pv 6) am (bd _)) (eo (aO tV (pv 2) am (bd _))))) (aq (aG (i:=8) aQ.nd rfl (by first | exact Or.inl rfl | exact Or.inr rfl) (bT (mx K rfl) (aK gq (pv 8) am) de (b7 (aK nX am (pv 7)))))) bu)) (aq (fi (gZ K rfl PySem.F.plainAttrs_list PySem.F.slot_list_append PySem.F.type_list_append cW (pv 4) (paC (bT (mx K rfl) (pv 8) de (b7 am)) ah))))))))))))) (aq (bw (pv 4)))))),fnR (K:=K) (c:=a9) (ps:=cP) (N:=["_law_deck_here","_law_letters_here","_law_many","_law_base","_law_found","_law_k","_law_sort","_law_begin","_law_word"]) (aw (aH (bo (i:=0) (aa (ac (aD (i:=1))) (aa (ac le_int) ae))) (ar (i:=3) rfl)) (aw (aH (dE ae) (ar (i:=4) rfl)) (aw (dF (k9 (aa (ac (aD (i:=2))) ae)) (bx (i:=5) rfl) (aw (aH (ao bf (ac (bo (i:=0) ae)) (ac le_int)) (ar (i:=6) rfl)) (aw (aH (ao bf (ac (bo (i:=0) ae)) (ac le_int)) (ar (i:=7) rfl)) (aw (aH (b9 (ak (i:=3)) (bN (aD (i:=7))) (bN (ao bb (ac (ao bb (ak (i:=7)) (ac le_int))) (ac (ao bf (ac (bo (i:=0) ae)) (ac le_int)))))) (ar (i:=8) rfl)) (aw (eC (dn (eB (ao ef (ak (i:=6)) (ac le_int))) (aH (bo (i:=0) (aa (ac (aD (i:=1))) (aa (ac (ao bb (ac le_int) (ac (ao bf (ak (i:=7)) (ac le_int))))) ae))) (ar (i:=8) rfl)) bv)) (aw (eC (dn (fG (eB (ao ef (ak (i:=6)) (ac le_int))) (eB (ao eY (ak (i:=4)) (ac (dE ae))))) (aH (ao eV (ak (i:=4)) (ac (ao bf (ak (i:=7)) (ac (bR bi (aa (ak (i:=4)) ae)))))) (ar (i:=8) rfl)) bv)) (aw (eC (dn (fG (eB (ao ef (ak (i:=6)) (ac le_int))) (eB (ao eY (ak (i:=4)) (ac (dE ae))))) (aH (ao bb (ac (b9 (ac (ao eV (ak (i:=4)) (ac (qe mD (ac le_int))))) (bN (qe mD (ac le_int))) cH)) (ak (i:=8))) (ar (i:=8) rfl)) bv)) (aw (eC (dn (eB (ao ef (ak (i:=6)) (ac le_int))) (aH (ao dN (ac (ao eV (ak (i:=1)) (ac (ao bf (ak (i:=7)) (ac (bR bi (aa (ak (i:=1)) ae))))))) (ac (ao bb (ac le_int) (ac (ao bf (ak (i:=7)) (ac le_int)))))) (ar (i:=8) rfl)) bv)) (aw (eC (dn (fG (eB (ao ef (ak (i:=6)) (ac le_int))) (eB (ao nV (ak (i:=2)) (ac le_int)))) (aH (b9 (ac (ao dN (ak (i:=8)) (ac le_int))) cH (bN (ao j9 (ac le_int) (ak (i:=7))))) (ar (i:=8) rfl)) bv)) (gu (jc (i:=4) (b9 (ak (i:=8)) cH (bN le_int))))))))))))) (bz (aD (i:=4)))))) (fun p ds Q h=>Nat.le_trans (Nat.le_of_eq (fQ p ds Q h)) (by decide)) jp h⟩
theorem c8:∀ds Q,aA ds Q->ds.length=1:=fun ds Q h=>by unfold aA at h;split at h;(first | rfl | exact h.elim);(first | rfl | exact h.elim)
theorem fB (D:dH K mg "_law_beginnings" cp) (T:Txt mg) (TC:TxC K):Cal P w K mg base 1 "_law_beginnings" ["_law_words_here"] (spP K aA):=by
 refine D.ok bG (fun _ _ _ _ _ _ us hl=>match us,hl with | [_],_=>rfl) (fun vs H Q E h=>?_) (fun f cdv A outer s H vs Q E hr h=>?_)
 .exact ng c8 h
 .have hu:=hr.units
  exact ⟨_,(af (aG (i:=1) bG.nd rfl (by first | exact Or.inl rfl | exact Or.inr rfl) (dC (paC (er (l:=[]) (by decide +kernel)) ah))) (af (cF PassesOwn.never rfl (gx K rfl (pv 0)) (bI (i:=2) bG.nd rfl (by first | exact Or.inl rfl | exact Or.inr rfl)) (aq (cF PassesOwn.never rfl (iL rfl T.b_range (paC am (paC (aK (bD K rfl) (ay (bZ K rfl) rfl T.b_len PySem.boot_len (paC (pv 2) ah)) am) ah))) (bI (i:=3) bG.nd rfl (by first | exact Or.inl rfl | exact Or.inr rfl)) (aq (c9 (aO (ko K rfl) (bT (mx K rfl) (pv 2) de (b7 (pv 3))) (pv 1) (by with_unfolding_all rfl)) (aq (fi (gZ K rfl PySem.F.plainAttrs_list PySem.F.slot_list_append PySem.F.type_list_append cW (pv 1) (paC (bT (mx K rfl) (pv 2) de (b7 (pv 3))) ah)))) bu))))) (aq (bw (pv 1))))),fnP (K:=K) (c:=aA) (ps:=bH) (N:=["_law_words_here","_law_found","_law_word","_law_k"]) (aw (aH (dE (aa (ac (le_str (l:=[]))) ae)) (ar (i:=1) rfl)) (aw (dF (hG (aD (i:=0))) (bx (i:=2) rfl) (dF (uD (aa (ac le_int) (aa (ac (ao bb (ac (bR bi (aa (ak (i:=2)) ae))) (ac le_int))) ae))) (bx (i:=3) rfl) (dn (eB (ao mR (ac (b9 (ak (i:=2)) cH (bN (aD (i:=3))))) (ak (i:=1)))) (gu (jc (i:=1) (b9 (ak (i:=2)) cH (bN (aD (i:=3)))))) bv))) (bz (aD (i:=1))))) (fun ds Q h=>Nat.le_trans (Nat.le_of_eq (c8 ds Q h)) (by decide)) fA h⟩
theorem gJ:∀p ds Q,bq p ds Q->ds.length + 1=3:=fun p ds Q h=>by unfold bq at h;split at h;(first | rfl | exact h.elim);(first | rfl | exact h.elim)
theorem jX (D:dH K mg "_law_text" fz) (T:Txt mg) (TC:TxC K) (C_law_next:Cal P w K mg base 1 "_law_next" ["_law_deck_here"] (spR K az)):Cal P w K mg base 2 "_law_text" ["_law_deck_here","_law_letters_here","_law_words_here"] (spR K bq):=by
 refine D.ok bF (fun _ _ _ _ _ _ us hl=>match us,hl with | [_,_,_],_=>rfl) (fun vs H Q E h=>?_) (fun f cdv A outer s H vs Q E hr h=>?_)
 .exact qX gJ h
 .have hu:=hr.units
  exact ⟨_,(af (aG (i:=3) bF.nd rfl (by first | exact Or.inl rfl | exact Or.inr rfl) (er (l:=[]) (by decide +kernel))) (af (cF PassesOwn.never rfl (cV rfl T.b_range (paC (aK b3 (aR C_law_next (hr.mono (by decide)) (paC (pv 0) ah)) am) ah)) (bI (i:=4) bF.nd rfl (by first | exact Or.inl rfl | exact Or.inr rfl)) (af (aG (i:=5) bF.nd rfl (by first | exact Or.inl rfl | exact Or.inr rfl) (aR C_law_next (hr.mono (by decide)) (paC (pv 0) ah))) (aq (c9 (PW.pt (kB (aO (gN K rfl hu) (pv 2) (dC ah) (bd _)) (gT (aO (gN K rfl hu) (aK b3 (pv 5) am) am (bd _))))) (af (aG (i:=6) bF.nd rfl (by first | exact Or.inl rfl | exact Or.inr rfl) (eO (ka K rfl) (pv 1) (aK b3 (aK hJ (pv 5) am) (ay (bZ K rfl) rfl T.b_len PySem.boot_len (paC (pv 1) ah))) (fun _ _=>rfl))) (aq (aG (i:=3) bF.nd rfl (by first | exact Or.inl rfl | exact Or.inr rfl) (aK (bD K rfl) (pv 3) (aK gq (pv 6) (aK (bD K rfl) am (aK hJ (pv 5) am))))))) (af (aG (i:=7) bF.nd rfl (by first | exact Or.inl rfl | exact Or.inr rfl) (eO (ka K rfl) (pv 2) (aK b3 (aK hJ (pv 5) am) (ay (bZ K rfl) rfl T.b_len PySem.boot_len (paC (pv 2) ah))) (fun _ _=>rfl))) (aq (aG (i:=3) bF.nd rfl (by first | exact Or.inl rfl | exact Or.inr rfl) (aK (bD K rfl) (pv 3) (bT (mx K rfl) (pv 7) (b7 (aK b3 (pv 5) am)) (b7 (aK nX (ay (bZ K rfl) rfl T.b_len PySem.boot_len (paC (pv 7) ah)) (aK b3 (aK hJ (pv 5) am) am)))))))))))) (aq (bw (pv 3))))),fnR (K:=K) (c:=bq) (ps:=dA) (N:=["_law_deck_here","_law_letters_here","_law_words_here","_law_found","_law_k","_law_number","_law_letter","_law_word"]) (aw (aH (le_str (l:=[])) (ar (i:=3) rfl)) (aw (dF (k9 (aa (ac (ao bf (ac (bo (i:=0) ae)) (ac le_int))) ae)) (bx (i:=4) rfl) (aw (aH (bo (i:=0) ae) (ar (i:=5) rfl)) (dn (k7 (eB (ao ef (ak (i:=2)) (ac (dE ae)))) (eB (ao ef (ac (ao bf (ak (i:=5)) (ac le_int))) (ac le_int)))) (aw (aH (ao eV (ak (i:=1)) (ac (ao bf (ac (ao fm (ak (i:=5)) (ac le_int))) (ac (bR bi (aa (ak (i:=1)) ae)))))) (ar (i:=6) rfl)) (aH (ao bb (ak (i:=3)) (ac (ao dN (ak (i:=6)) (ac (ao bb (ac le_int) (ac (ao fm (ak (i:=5)) (ac le_int)))))))) (ar (i:=3) rfl))) (aw (aH (ao eV (ak (i:=2)) (ac (ao bf (ac (ao fm (ak (i:=5)) (ac le_int))) (ac (bR bi (aa (ak (i:=2)) ae)))))) (ar (i:=7) rfl)) (aH (ao bb (ak (i:=3)) (ac (b9 (ak (i:=7)) (bN (ao bf (ak (i:=5)) (ac le_int))) (bN (ao j9 (ac (bR bi (aa (ak (i:=7)) ae))) (ac (ao bf (ac (ao fm (ak (i:=5)) (ac le_int))) (ac le_int)))))))) (ar (i:=3) rfl)))))) (bz (aD (i:=3))))) (fun p ds Q h=>Nat.le_trans (Nat.le_of_eq (gJ p ds Q h)) (by decide)) jU h⟩
theorem fR:∀ds Q,aL ds Q->ds.length=1:=fun ds Q h=>by unfold aL at h;split at h;(first | rfl | exact h.elim);(first | rfl | exact h.elim)
theorem jv (D:dH K mg "_law_whole" eH) (T:Txt mg) (TC:TxC K):Cal P w K mg base 1 "_law_whole" ["_law_found"] (spP K aL):=by
 refine D.ok jj (fun _ _ _ _ _ _ us hl=>match us,hl with | [_],_=>rfl) (fun vs H Q E h=>?_) (fun f cdv A outer s H vs Q E hr h=>?_)
 .exact ng fR h
 .have hu:=hr.units
  exact ⟨_,(aq (bw (ou (ay (sO K rfl) rfl T.b_isinstance boot_isinstance (paC (pv 0) (paC (lp (v:=.ty "int") rfl T.b_int boot_int rfl) ah))) (ot (rp (ay (sO K rfl) rfl T.b_isinstance boot_isinstance (paC (pv 0) (paC (lp (v:=.ty "bool") rfl T.b_bool boot_bool rfl) ah)))))))),fnP (K:=K) (c:=aL) (ps:=cQ) (N:=["_law_found"]) (bz (oH (oK .int (ak (i:=0))) (sH (oK .bool (ak (i:=0)))))) (fun ds Q h=>Nat.le_trans (Nat.le_of_eq (fR ds Q h)) (by decide)) jr h⟩
theorem ek:∀ds Q,aP ds Q->ds.length=2:=fun ds Q h=>by unfold aP at h;split at h;(first | rfl | exact h.elim);(first | rfl | exact h.elim)
theorem gS (D:dH K mg "_law_longest" dt) (T:Txt mg) (TC:TxC K):Cal P w K mg base 1 "_law_longest" ["_law_begun","_law_text_here"] (spP K aP):=by
 refine D.ok ce (fun _ _ _ _ _ _ us hl=>match us,hl with | [_,_],_=>rfl) (fun vs H Q E h=>?_) (fun f cdv A outer s H vs Q E hr h=>?_)
 .exact ng ek h
 .have hu:=hr.units
  exact ⟨_,(af (aG (i:=2) ce.nd rfl (by first | exact Or.inl rfl | exact Or.inr rfl) am) (af (cF PassesOwn.never rfl (gx K rfl (pv 0)) (bI (i:=3) ce.nd rfl (by first | exact Or.inl rfl | exact Or.inr rfl)) (aq (c9 (PW.pt (fC (aO uM (ay (bZ K rfl) rfl T.b_len PySem.boot_len (paC (pv 3) ah)) (pv 2) (bd _)) (fC (aO vE (ay (bZ K rfl) rfl T.b_len PySem.boot_len (paC (pv 3) ah)) (ay (bZ K rfl) rfl T.b_len PySem.boot_len (paC (pv 1) ah)) (bd _)) (eo (aO (gN K rfl hu) (bT (mx K rfl) (pv 1) (b7 (aK nX (ay (bZ K rfl) rfl T.b_len PySem.boot_len (paC (pv 1) ah)) (ay (bZ K rfl) rfl T.b_len PySem.boot_len (paC (pv 3) ah)))) de) (pv 3) (bd _)))))) (aq (aG (i:=2) ce.nd rfl (by first | exact Or.inl rfl | exact Or.inr rfl) (ay (bZ K rfl) rfl T.b_len PySem.boot_len (paC (pv 3) ah)))) bu))) (aq (bw (pv 2))))),fnP (K:=K) (c:=aP) (ps:=cg) (N:=["_law_begun","_law_text_here","_law_best","_law_one"]) (aw (aH le_int (ar (i:=2) rfl)) (aw (dF (hG (aD (i:=0))) (bx (i:=3) rfl) (dn (fG (eB (ao qi (ac (bR bi (aa (ak (i:=3)) ae))) (ak (i:=2)))) (fG (eB (ao uw (ac (bR bi (aa (ak (i:=3)) ae))) (ac (bR bi (aa (ak (i:=1)) ae))))) (eB (ao ef (ac (b9 (ak (i:=1)) (bN (ao j9 (ac (bR bi (aa (ak (i:=1)) ae))) (ac (bR bi (aa (ak (i:=3)) ae))))) cH)) (ak (i:=3)))))) (aH (bR bi (aa (ak (i:=3)) ae)) (ar (i:=2) rfl)) bv)) (bz (aD (i:=2))))) (fun ds Q h=>Nat.le_trans (Nat.le_of_eq (ek ds Q h)) (by decide)) gQ h⟩
theorem cv:∀ds Q,al ds Q->ds.length=3:=fun ds Q h=>by unfold al at h;split at h;(first | rfl | exact h.elim);(first | rfl | exact h.elim)
theorem d4 (D:dH K mg "_law_numbers_right" bS) (T:Txt mg) (TC:TxC K) (C_Beginnings_many:nT P w K mg base 1 (aY K "Beginnings") "many" ["self"] (spP K ax)) (C_Beginnings_number_of:nT P w K mg base 1 (aY K "Beginnings") "number_of" ["self","text"] (spP K ai)) (C_law_whole:Cal P w K mg base 1 "_law_whole" ["_law_found"] (spP K aL)):Cal P w K mg base 2 "_law_numbers_right" ["_law_held","_law_begun","_law_letters_here"] (spP K al):=by
 refine D.ok bg (fun _ _ _ _ _ _ us hl=>match us,hl with | [_,_,_],_=>rfl) (fun vs H Q E h=>?_) (fun f cdv A outer s H vs Q E hr h=>?_)
 .exact ng cv h
 .have hu:=hr.units
  exact ⟨_,(af (c9 (PW.pt (kB (iJ (gA (aR C_law_whole (hr.mono (by decide)) (paC (j8 (pv 0) TC.cl_Beginnings C_Beginnings_many (hr.mono (by decide))) ah)))) (gT (aO (iz K rfl hu) (j8 (pv 0) TC.cl_Beginnings C_Beginnings_many (hr.mono (by decide))) (ay (bZ K rfl) rfl T.b_len PySem.boot_len (paC (pv 1) ah)) (bd _))))) (aq (bw ib)) bu) (af (cF PassesOwn.never rfl (cV rfl T.b_range (paC (ay (bZ K rfl) rfl T.b_len PySem.boot_len (paC (pv 1) ah)) ah)) (bI (i:=3) bg.nd rfl (by first | exact Or.inl rfl | exact Or.inr rfl)) (af (c9 (PW.pt (kB (iJ (gA (aR C_law_whole (hr.mono (by decide)) (paC (fk (pv 0) TC.cl_Beginnings C_Beginnings_number_of (hr.mono (by decide)) (paC (eO (ka K rfl) (pv 1) (pv 3) (fun _ _=>rfl)) ah)) ah)))) (gT (aO (iz K rfl hu) (fk (pv 0) TC.cl_Beginnings C_Beginnings_number_of (hr.mono (by decide)) (paC (eO (ka K rfl) (pv 1) (pv 3) (fun _ _=>rfl)) ah)) (pv 3) (bd _))))) (aq (bw ib)) bu) (af (aG (i:=4) bg.nd rfl (by first | exact Or.inl rfl | exact Or.inr rfl) (aK (bD K rfl) (eO (ka K rfl) (pv 1) (pv 3) (fun _ _=>rfl)) (eO (ka K rfl) (pv 2) (aK b3 (pv 3) (ay (bZ K rfl) rfl T.b_len PySem.boot_len (paC (pv 2) ah))) (fun _ _=>rfl)))) (af (aG (i:=5) bg.nd rfl (by first | exact Or.inl rfl | exact Or.inr rfl) (fk (pv 0) TC.cl_Beginnings C_Beginnings_number_of (hr.mono (by decide)) (paC (pv 4) ah))) (aq (c9 (PW.pt (kB (PW.pt (fC (aO (ko K rfl) (pv 4) (pv 1) (by with_unfolding_all rfl)) (eo (aO qj (pv 5) ri (bd _))))) (gT (PW.pt (fC (aO (uQ K rfl) (pv 4) (pv 1) (by with_unfolding_all rfl)) (eo (aO (iz K rfl hu) (pv 5) (gZ K rfl PySem.F.plainAttrs_list PySem.F.slot_list_index PySem.F.type_list_index (qE K rfl) (pv 1) (paC (pv 4) ah)) (bd _)))))))) (aq (bw ib)) bu)))))) (aq (bw ib)))),fnP (K:=K) (c:=al) (ps:=bh) (N:=["_law_held","_law_begun","_law_letters_here","_law_k","_law_longer","_law_told"]) (aw (dn (k7 (ja (qS (bO (c:=aL) (aa (ac (cI (c0:="Beginnings") (m:="many") (ns0:=["words","numbers"]) (c:=ax) (by decide +kernel) (aD (i:=0)) ae)) ae)))) (eB (ao eY (ac (cI (c0:="Beginnings") (m:="many") (ns0:=["words","numbers"]) (c:=ax) (by decide +kernel) (aD (i:=0)) ae)) (ac (bR bi (aa (ak (i:=1)) ae)))))) (bz iq) bv) (aw (dF (k9 (aa (ac (bR bi (aa (ak (i:=1)) ae))) ae)) (bx (i:=3) rfl) (aw (dn (k7 (ja (qS (bO (c:=aL) (aa (ac (cI (c0:="Beginnings") (m:="number_of") (ns0:=["words","numbers"]) (c:=ai) (by decide +kernel) (aD (i:=0)) (aa (ac (ao eV (ak (i:=1)) (ak (i:=3)))) ae))) ae)))) (eB (ao eY (ac (cI (c0:="Beginnings") (m:="number_of") (ns0:=["words","numbers"]) (c:=ai) (by decide +kernel) (aD (i:=0)) (aa (ac (ao eV (ak (i:=1)) (ak (i:=3)))) ae))) (ak (i:=3))))) (bz iq) bv) (aw (aH (ao bb (ac (ao eV (ak (i:=1)) (ak (i:=3)))) (ac (ao eV (ak (i:=2)) (ac (ao bf (ak (i:=3)) (ac (bR bi (aa (ak (i:=2)) ae)))))))) (ar (i:=4) rfl)) (aw (aH (cI (c0:="Beginnings") (m:="number_of") (ns0:=["words","numbers"]) (c:=ai) (by decide +kernel) (aD (i:=0)) (aa (ac (aD (i:=4))) ae)) (ar (i:=5) rfl)) (dn (k7 (fG (eB (ao mR (ak (i:=4)) (ak (i:=1)))) (eB (ao uz (ak (i:=5)) (ac sE)))) (fG (eB (ao mR (ak (i:=4)) (ak (i:=1)))) (eB (ao eY (ak (i:=5)) (ac (qF (ak (i:=1)) (aD (i:=4)))))))) (bz iq) bv))))) (bz iq))) (fun ds Q h=>Nat.le_trans (Nat.le_of_eq (cv ds Q h)) (by decide)) d3 h⟩
theorem oU:∀ds Q,ky ds Q->ds.length=1:=fun ds Q h=>by obtain ⟨_,rfl,_⟩:=h;rfl
theorem tN (D:dH K mg "law" oj) (T:Txt mg) (TC:TxC K) (C_Beginnings_init:sB P w K mg base 1 (aY K "Beginnings") "Beginnings" ["self","words"] (spR K aF)) (C_Beginnings_longest_end:nT P w K mg base 1 (aY K "Beginnings") "longest_end" ["self","text"] (spP K ag)) (C_law_beginnings:Cal P w K mg base 1 "_law_beginnings" ["_law_words_here"] (spP K aA)) (C_law_deck:Cal P w K mg base 2 "_law_deck" ["_law_script","_law_many"] (spP K aZ)) (C_law_letters:Cal P w K mg base 2 "_law_letters" ["_law_deck_here"] (spR K aV)) (C_law_longest:Cal P w K mg base 1 "_law_longest" ["_law_begun","_law_text_here"] (spP K aP)) (C_law_next:Cal P w K mg base 1 "_law_next" ["_law_deck_here"] (spR K az)) (C_law_numbers_right:Cal P w K mg base 2 "_law_numbers_right" ["_law_held","_law_begun","_law_letters_here"] (spP K al)) (C_law_text:Cal P w K mg base 2 "_law_text" ["_law_deck_here","_law_letters_here","_law_words_here"] (spR K bq)) (C_law_whole:Cal P w K mg base 1 "_law_whole" ["_law_found"] (spP K aL)) (C_law_words:Cal P w K mg base 3 "_law_words" ["_law_deck_here","_law_letters_here","_law_many"] (spR K a9)):Cal P w K mg base 4 "law" ["_law_script"] (spP K ky):=by
 refine D.ok cr (fun _ _ _ _ _ _ us hl=>match us,hl with | [_],_=>rfl) (fun vs H Q E h=>?_) (fun f cdv A outer s H vs Q E hr h=>?_)
 .exact ng oU h
 .have hu:=hr.units
  exact ⟨_,(af (aG (i:=1) cr.nd rfl (by first | exact Or.inl rfl | exact Or.inr rfl) (aR C_law_deck (hr.mono (by decide)) (paC (pv 0) (paC am ah)))) (af (aG (i:=2) cr.nd rfl (by first | exact Or.inl rfl | exact Or.inr rfl) (aR C_law_letters (hr.mono (by decide)) (paC (pv 1) ah))) (af (aG (i:=3) cr.nd rfl (by first | exact Or.inl rfl | exact Or.inr rfl) (aK b3 (aR C_law_next (hr.mono (by decide)) (paC (pv 1) ah)) am)) (af (et (c9 (aO (gN K rfl hu) (pv 3) am (bd _)) (aq (aG (i:=3) cr.nd rfl (by first | exact Or.inl rfl | exact Or.inr rfl) am)) bu)) (af (aG (i:=4) cr.nd rfl (by first | exact Or.inl rfl | exact Or.inr rfl) (aR C_law_words (hr.mono (by decide)) (paC (pv 1) (paC (pv 2) (paC (pv 3) ah))))) (af (aG (i:=5) cr.nd rfl (by first | exact Or.inl rfl | exact Or.inr rfl) (aR C_law_words (hr.mono (by decide)) (paC (aR C_law_deck (hr.mono (by decide)) (paC (aK (bD K rfl) (pv 0) (dC (paC am ah))) (paC am ah))) (paC (pv 2) (paC am ah))))) (af (aG (i:=6) cr.nd rfl (by first | exact Or.inl rfl | exact Or.inr rfl) (dZ (oN K rfl) rfl T.b_list boot_list (paC (pv 4) ah))) (af (aG (i:=7) cr.nd rfl (by first | exact Or.inl rfl | exact Or.inr rfl) (ki C_Beginnings_init (hr.mono (by decide)) (paC (pv 6) ah))) (af (aG (i:=8) cr.nd rfl (by first | exact Or.inl rfl | exact Or.inr rfl) (ki C_Beginnings_init (hr.mono (by decide)) (paC (dZ (mB K rfl) rfl T.b_tuple boot_tuple (paC (pv 5) ah)) ah))) (af (c9 (aO (iz K rfl hu) (pv 6) (pv 4) (bd _)) (aq (bw ib)) bu) (af (fi (gZ K rfl PySem.F.plainAttrs_list PySem.F.slot_list_append PySem.F.type_list_append cW (pv 6) (paC (er (l:=[122,122]) (by decide +kernel)) ah))) (af (aG (i:=9) cr.nd rfl (by first | exact Or.inl rfl | exact Or.inr rfl) (aR C_law_beginnings (hr.mono (by decide)) (paC (pv 4) ah))) (af (c9 (iJ (gA (aR C_law_numbers_right (hr.mono (by decide)) (paC (pv 7) (paC (pv 9) (paC (pv 2) ah)))))) (aq (bw ib)) bu) (af (c9 (iJ (gA (aR C_law_numbers_right (hr.mono (by decide)) (paC (pv 8) (paC (aR C_law_beginnings (hr.mono (by decide)) (paC (pv 5) ah)) (paC (pv 2) ah)))))) (aq (bw ib)) bu) (af (cF PassesOwn.never rfl (cV rfl T.b_range (paC am ah)) (bI (i:=10) cr.nd rfl (by first | exact Or.inl rfl | exact Or.inr rfl)) (af (aG (i:=11) cr.nd rfl (by first | exact Or.inl rfl | exact Or.inr rfl) (aR C_law_text (hr.mono (by decide)) (paC (pv 1) (paC (pv 2) (paC (pv 4) ah))))) (aq (cF PassesOwn.never rfl (gx K rfl (dC (paC (pv 11) (paC (nq (aO (iz K rfl hu) (pv 4) (dC ah) (bd _)) (aK (bD K rfl) (pv 11) (eO (ka K rfl) (pv 4) (aK b3 (pv 10) (ay (bZ K rfl) rfl T.b_len PySem.boot_len (paC (pv 4) ah))) (fun _ _=>rfl))) (pv 11)) ah)))) (bI (i:=12) cr.nd rfl (by first | exact Or.inl rfl | exact Or.inr rfl)) (af (aG (i:=13) cr.nd rfl (by first | exact Or.inl rfl | exact Or.inr rfl) (fk (pv 7) TC.cl_Beginnings C_Beginnings_longest_end (hr.mono (by decide)) (paC (pv 12) ah))) (aq (c9 (PW.pt (kB (iJ (gA (aR C_law_whole (hr.mono (by decide)) (paC (pv 13) ah)))) (gT (aO (iz K rfl hu) (pv 13) (aR C_law_longest (hr.mono (by decide)) (paC (pv 9) (paC (pv 12) ah))) (bd _))))) (aq (bw ib)) bu))))))) (af (cF PassesOwn.never rfl (gx K rfl (pv 9)) (bI (i:=14) cr.nd rfl (by first | exact Or.inl rfl | exact Or.inr rfl)) (aq (c9 (aO (iz K rfl hu) (fk (pv 7) TC.cl_Beginnings C_Beginnings_longest_end (hr.mono (by decide)) (paC (pv 14) ah)) (ay (bZ K rfl) rfl T.b_len PySem.boot_len (paC (pv 14) ah)) (bd _)) (aq (bw ib)) bu))) (aq (bw (ou (pf (gN K rfl hu) (fk (pv 7) TC.cl_Beginnings C_Beginnings_longest_end (hr.mono (by decide)) (paC (er (l:=[]) (by decide +kernel)) ah)) am (bd _)) (ot (aR C_law_numbers_right (hr.mono (by decide)) (paC (pv 7) (paC (pv 9) (paC (pv 2) ah)))))))))))))))))))))))),fnP (K:=K) (c:=ky) (ps:=kz) (N:=["_law_script","_law_deck_here","_law_letters_here","_law_many","_law_words_here","_law_others","_law_handed","_law_held","_law_beside","_law_begun","_law_k","_law_text_here","_law_end","_law_told","_law_one"]) (aw (aH (bO (c:=aZ) (aa (ac (aD (i:=0))) (aa (ac le_int) ae))) (ar (i:=1) rfl)) (aw (aH (bo (i:=1) ae) (ar (i:=2) rfl)) (aw (aH (ao bf (ac (bo (i:=1) ae)) (ac le_int)) (ar (i:=3) rfl)) (aw (eC (dn (eB (ao ef (ak (i:=3)) (ac le_int))) (aH le_int (ar (i:=3) rfl)) bv)) (aw (aH (bo (i:=1) (aa (ac (aD (i:=2))) (aa (ac (aD (i:=3))) ae))) (ar (i:=4) rfl)) (aw (aH (mJ (bO (c:=aZ) (aa (ac (ao bb (ak (i:=0)) (ac (dE (aa (ac le_int) ae))))) (aa (ac le_int) ae))) (aa (ac (aD (i:=2))) (aa (ac le_int) ae))) (ar (i:=5) rfl)) (aw (aH (bR mC (aa (ak (i:=4)) ae)) (ar (i:=6) rfl)) (aw (aH (oi (i:=6)) (ar (i:=7) rfl)) (aw (aH (qA (aa (ac (bR ke (aa (ak (i:=5)) ae))) ae)) (ar (i:=8) rfl)) (aw (dn (eB (ao eY (ak (i:=6)) (ak (i:=4)))) (bz iq) bv) (aw (gu (jc (i:=6) (le_str (l:=[122,122])))) (aw (aH (bO (c:=aA) (aa (ac (aD (i:=4))) ae)) (ar (i:=9) rfl)) (aw (dn (ja (qS (bO (c:=al) (aa (ac (aD (i:=7))) (aa (ac (aD (i:=9))) (aa (ac (aD (i:=2))) ae)))))) (bz iq) bv) (aw (dn (ja (qS (bO (c:=al) (aa (ac (aD (i:=8))) (aa (ac (bO (c:=aA) (aa (ac (aD (i:=5))) ae))) (aa (ac (aD (i:=2))) ae)))))) (bz iq) bv) (aw (dF (k9 (aa (ac le_int) ae)) (bx (i:=10) rfl) (aw (aH (bo (i:=1) (aa (ac (aD (i:=2))) (aa (ac (aD (i:=4))) ae))) (ar (i:=11) rfl)) (dF (hG (dE (aa (ac (aD (i:=11))) (aa (ac (up (eB (ao eY (ak (i:=4)) (ac (dE ae)))) (ao bb (ak (i:=11)) (ac (ao eV (ak (i:=4)) (ac (ao bf (ak (i:=10)) (ac (bR bi (aa (ak (i:=4)) ae)))))))) (aD (i:=11)))) ae)))) (bx (i:=12) rfl) (aw (aH (cI (c0:="Beginnings") (m:="longest_end") (ns0:=["words","numbers"]) (c:=ag) (by decide +kernel) (aD (i:=7)) (aa (ac (aD (i:=12))) ae)) (ar (i:=13) rfl)) (dn (k7 (ja (qS (bO (c:=aL) (aa (ac (aD (i:=13))) ae)))) (eB (ao eY (ak (i:=13)) (ac (bO (c:=aP) (aa (ac (aD (i:=9))) (aa (ac (aD (i:=12))) ae))))))) (bz iq) bv))))) (aw (dF (hG (aD (i:=9))) (bx (i:=14) rfl) (dn (eB (ao eY (ac (cI (c0:="Beginnings") (m:="longest_end") (ns0:=["words","numbers"]) (c:=ag) (by decide +kernel) (aD (i:=7)) (aa (ac (aD (i:=14))) ae))) (ac (bR bi (aa (ak (i:=14)) ae))))) (bz iq) bv)) (bz (oH (ao ef (ac (cI (c0:="Beginnings") (m:="longest_end") (ns0:=["words","numbers"]) (c:=ag) (by decide +kernel) (aD (i:=7)) (aa (ac (le_str (l:=[]))) ae))) (ac le_int)) (bO (c:=al) (aa (ac (aD (i:=7))) (aa (ac (aD (i:=9))) (aa (ac (aD (i:=2))) ae)))))))))))))))))))))) (fun ds Q h=>Nat.le_trans (Nat.le_of_eq (oU ds Q h)) (by decide)) tM h⟩
end
theorem tO {l:PySem.W.OpenLaw}{w:World}{K:PySem.W.Frag}{h:Heap}{mg:Str->Option Value}{fa:Addr} (X:K.In h) (G:h.Ns mainGlobals mg) (hfa:mg "law"=some (.ref fa))
  {C_Beginnings:Addr} (aC_Beginnings:PySem.W.nsIn K mainGlobals "Beginnings"=some (some (.ref C_Beginnings))) (pg_Beginnings:PySem.W.plainGet K C_Beginnings Str.empty=true) (hd_Beginnings:PySem.W.hasDictIn K C_Beginnings=true) (po_Beginnings:PySem.W.plainOver K C_Beginnings=true) (sa_Beginnings:PySem.W.findIn K (.ref C_Beginnings) "__setattr__"=some (some (.builtin "object.__setattr__"))) (mk_Beginnings:PySem.W.makesIn K C_Beginnings=true) (kc_Beginnings:PySem.W.keepIn K (.ref C_Beginnings)=true)
  (n_Beginnings_words:PySem.W.findIn K (.ref C_Beginnings) "words"=some none)
  (n_Beginnings_numbers:PySem.W.findIn K (.ref C_Beginnings) "numbers"=some none)
  {f1:Addr}{oc1 kV1 dc1 pm1 cd1 ct1:Value}{od1 an1:Option Addr}{sl1:Array (Option Value)} (a1:PySem.W.findIn K (.ref C_Beginnings) "__init__"=some (some (.ref f1))) (i1:PySem.W.isFn K (.ref f1)=true) (l1:K.lookup f1=some ⟨oc1,od1,.func (PySem.W.fnOf "__init__" "Beginnings.__init__" (bQ aT) (bn aT) (ap aT) .none kV1 dc1 pm1 an1 cd1 ct1),sl1⟩) (c1:PySem.W.codeIn K cd1 "Beginnings.__init__"=true) (k1:PySem.W.keepIn K (.ref f1)=true)
  {f2:Addr}{oc2 kV2 dc2 pm2 cd2 ct2:Value}{od2 an2:Option Addr}{sl2:Array (Option Value)} (a2:PySem.W.findIn K (.ref C_Beginnings) "many"=some (some (.ref f2))) (i2:PySem.W.isFn K (.ref f2)=true) (l2:K.lookup f2=some ⟨oc2,od2,.func (PySem.W.fnOf "many" "Beginnings.many" (bQ aU) (bn aU) (ap aU) .none kV2 dc2 pm2 an2 cd2 ct2),sl2⟩) (c2:PySem.W.codeIn K cd2 "Beginnings.many"=true) (k2:PySem.W.keepIn K (.ref f2)=true)
  {f3:Addr}{oc3 kV3 dc3 pm3 cd3 ct3:Value}{od3 an3:Option Addr}{sl3:Array (Option Value)} (a3:PySem.W.findIn K (.ref C_Beginnings) "number_of"=some (some (.ref f3))) (i3:PySem.W.isFn K (.ref f3)=true) (l3:K.lookup f3=some ⟨oc3,od3,.func (PySem.W.fnOf "number_of" "Beginnings.number_of" (bQ aJ) (bn aJ) (ap aJ) .none kV3 dc3 pm3 an3 cd3 ct3),sl3⟩) (c3:PySem.W.codeIn K cd3 "Beginnings.number_of"=true) (k3:PySem.W.keepIn K (.ref f3)=true)
  {f4:Addr}{oc4 kV4 dc4 pm4 cd4 ct4:Value}{od4 an4:Option Addr}{sl4:Array (Option Value)} (a4:PySem.W.findIn K (.ref C_Beginnings) "longest_end"=some (some (.ref f4))) (i4:PySem.W.isFn K (.ref f4)=true) (l4:K.lookup f4=some ⟨oc4,od4,.func (PySem.W.fnOf "longest_end" "Beginnings.longest_end" (bQ aE) (bn aE) (ap aE) .none kV4 dc4 pm4 an4 cd4 ct4),sl4⟩) (c4:PySem.W.codeIn K cd4 "Beginnings.longest_end"=true) (k4:PySem.W.keepIn K (.ref f4)=true)
  (d5:kq K "_law_mixed" eE)
  (d6:kq K "_law_next" fw)
  (d7:kq K "_law_beginnings" cp)
  (d8:kq K "_law_whole" eH)
  (d9:kq K "_law_longest" dt)
  (d10:kq K "_law_deck" fu)
  (d11:kq K "_law_letters" dr)
  (d12:kq K "_law_signs" eF)
  (d13:kq K "_law_text" fz)
  (d14:kq K "_law_numbers_right" bS)
  (d15:kq K "_law_words" eG)
  (d16:kq K "law" oj)
  (z1:PySem.W.nsIn K mainGlobals "bool"=some none)
  (z2:PySem.W.nsIn K mainGlobals "int"=some none)
  (z3:PySem.W.nsIn K mainGlobals "isinstance"=some none)
  (z4:PySem.W.nsIn K mainGlobals "len"=some none)
  (z5:PySem.W.nsIn K mainGlobals "list"=some none)
  (z6:PySem.W.nsIn K mainGlobals "max"=some none)
  (z7:PySem.W.nsIn K mainGlobals "min"=some none)
  (z8:PySem.W.nsIn K mainGlobals "range"=some none)
  (z9:PySem.W.nsIn K mainGlobals "reversed"=some none)
  (z10:PySem.W.nsIn K mainGlobals "tuple"=some none) :
  ∃fd:FuncData,(∀(s:Shared) (v:Value),BindsTo s fd ⟨[v],[]⟩ [("_law_script",v)])/\∀base:Heap,K.In base->base.Ns mainGlobals mg->ie l.prog w K mg base CX0 4 fa fd ["_law_script"] (kR K):=by
 have eC_Beginnings:=nS aC_Beginnings
 have TC:TxC K:=⟨by rw [eC_Beginnings];exact ⟨pg_Beginnings,hd_Beginnings,po_Beginnings,sa_Beginnings⟩,by show PySem.W.findIn K (.ref (aY K "Beginnings")) "words"=some none;rw [eC_Beginnings];exact n_Beginnings_words,by show PySem.W.findIn K (.ref (aY K "Beginnings")) "numbers"=some none;rw [eC_Beginnings];exact n_Beginnings_numbers⟩
 have D_Beginnings_init:j7 K mg (aY K "Beginnings") "Beginnings" "Beginnings.__init__" aT:=by rw [eC_Beginnings];exact ⟨⟨f1,_,iY (st:=aT) l1 c1 k1,⟨mk_Beginnings,a1,i1,kc_Beginnings⟩,PySem.W.mg_of X G aC_Beginnings⟩⟩
 have D_Beginnings_many:fF K (aY K "Beginnings") "many" "Beginnings.many" aU:=by rw [eC_Beginnings];exact ⟨⟨f2,_,iY (st:=aU) l2 c2 k2,⟨a2,i2,k2⟩⟩⟩
 have D_Beginnings_number_of:fF K (aY K "Beginnings") "number_of" "Beginnings.number_of" aJ:=by rw [eC_Beginnings];exact ⟨⟨f3,_,iY (st:=aJ) l3 c3 k3,⟨a3,i3,k3⟩⟩⟩
 have D_Beginnings_longest_end:fF K (aY K "Beginnings") "longest_end" "Beginnings.longest_end" aE:=by rw [eC_Beginnings];exact ⟨⟨f4,_,iY (st:=aE) l4 c4 k4,⟨a4,i4,k4⟩⟩⟩
 have D_law_mixed:=dG d5 X G
 have D_law_next:=dG d6 X G
 have D_law_beginnings:=dG d7 X G
 have D_law_whole:=dG d8 X G
 have D_law_longest:=dG d9 X G
 have D_law_deck:=dG d10 X G
 have D_law_letters:=dG d11 X G
 have D_law_signs:=dG d12 X G
 have D_law_text:=dG d13 X G
 have D_law_numbers_right:=dG d14 X G
 have D_law_words:=dG d15 X G
 have D_law:=dG d16 X G
 have T:Txt mg:=⟨PySem.W.mg_none_of X G z1,PySem.W.mg_none_of X G z2,PySem.W.mg_none_of X G z3,PySem.W.mg_none_of X G z4,PySem.W.mg_none_of X G z5,PySem.W.mg_none_of X G z6,PySem.W.mg_none_of X G z7,PySem.W.mg_none_of X G z8,PySem.W.mg_none_of X G z9,PySem.W.mg_none_of X G z10⟩
 refine sk (st:=oj) hfa D_law (fun _ _ _ _ _ _ s v=>.of_eq rfl) fun base=>?_
 have C_Beginnings_init:=fc (P:=l.prog) (w:=w) (base:=base) D_Beginnings_init T TC
 have C_Beginnings_many:=fe (P:=l.prog) (w:=w) (base:=base) D_Beginnings_many T TC
 have C_Beginnings_number_of:=dB (P:=l.prog) (w:=w) (base:=base) D_Beginnings_number_of T TC
 have C_Beginnings_longest_end:=cU (P:=l.prog) (w:=w) (base:=base) D_Beginnings_longest_end T TC
 have C_law_mixed:=js (P:=l.prog) (w:=w) (base:=base) D_law_mixed T TC
 have C_law_next:=jW (P:=l.prog) (w:=w) (base:=base) D_law_next T TC
 have C_law_beginnings:=fB (P:=l.prog) (w:=w) (base:=base) D_law_beginnings T TC
 have C_law_whole:=jv (P:=l.prog) (w:=w) (base:=base) D_law_whole T TC
 have C_law_longest:=gS (P:=l.prog) (w:=w) (base:=base) D_law_longest T TC
 have C_law_deck:=jV (P:=l.prog) (w:=w) (base:=base) D_law_deck T TC C_law_mixed
 have C_law_letters:=gR (P:=l.prog) (w:=w) (base:=base) D_law_letters T TC C_law_next
 have C_law_signs:=jt (P:=l.prog) (w:=w) (base:=base) D_law_signs T TC C_law_next
 have C_law_text:=jX (P:=l.prog) (w:=w) (base:=base) D_law_text T TC C_law_next
 have C_law_numbers_right:=d4 (P:=l.prog) (w:=w) (base:=base) D_law_numbers_right T TC C_Beginnings_many C_Beginnings_number_of C_law_whole
 have C_law_words:=ju (P:=l.prog) (w:=w) (base:=base) D_law_words T TC C_law_next C_law_signs
 exact (tN (P:=l.prog) (w:=w) (base:=base) D_law T TC C_Beginnings_init C_Beginnings_longest_end C_law_beginnings C_law_deck C_law_letters C_law_longest C_law_next C_law_numbers_right C_law_text C_law_whole C_law_words).imp fun _ _ _ _ h=>qw h
end K09

open PySem PySem.W PyProof.Rows
local macro_rules | `(tactic| walk_at "fn") => `(tactic| (refine' L2.tw ?a ?l ?c ?k; (case a => k_is); (case l => k_is); (case c => k_is); (case k => k_is)))
set_option maxRecDepth 100000 in
set_option maxHeartbeats 0 in
theorem PySem.Challenge.cw_shortglue_k09_beginnings_holds : PySem.Challenge.rw_shortglue_k09_beginnings.Holds := by
  refine topHd ?_
  k_fill
  refine L2.sm (l := PySem.Challenge.rw_shortglue_k09_beginnings) (k := 4) (x := "_law_script") rfl rfl ⟨rfl, by decide, by decide⟩ (fun w h Y => PySem.W.kIn_of Y) ?F
  case F =>
    intro w mg fa h KX G hmg
    refine' K09.tO KX G hmg ?aC_Beginnings ?pg_Beginnings ?hd_Beginnings ?po_Beginnings ?sa_Beginnings ?mk_Beginnings ?kc_Beginnings ?n_Beginnings_words ?n_Beginnings_numbers ?a1 ?i1 ?l1 ?c1 ?k1 ?a2 ?i2 ?l2 ?c2 ?k2 ?a3 ?i3 ?l3 ?c3 ?k3 ?a4 ?i4 ?l4 ?c4 ?k4 ?d5 ?d6 ?d7 ?d8 ?d9 ?d10 ?d11 ?d12 ?d13 ?d14 ?d15 ?d16 ?z1 ?z2 ?z3 ?z4 ?z5 ?z6 ?z7 ?z8 ?z9 ?z10
    (case aC_Beginnings => k_is)
    (case pg_Beginnings => k_is)
    (case hd_Beginnings => k_is)
    (case po_Beginnings => k_is)
    (case sa_Beginnings => k_is)
    (case mk_Beginnings => k_is)
    (case kc_Beginnings => k_is)
    (case n_Beginnings_words => k_is)
    (case n_Beginnings_numbers => k_is)
    (case a1 => k_is)
    (case i1 => k_is)
    (case l1 => k_is)
    (case c1 => k_is)
    (case k1 => k_is)
    (case a2 => k_is)
    (case i2 => k_is)
    (case l2 => k_is)
    (case c2 => k_is)
    (case k2 => k_is)
    (case a3 => k_is)
    (case i3 => k_is)
    (case l3 => k_is)
    (case c3 => k_is)
    (case k3 => k_is)
    (case a4 => k_is)
    (case i4 => k_is)
    (case l4 => k_is)
    (case c4 => k_is)
    (case k4 => k_is)
    (case d5 => walk_at "fn")
    (case d6 => walk_at "fn")
    (case d7 => walk_at "fn")
    (case d8 => walk_at "fn")
    (case d9 => walk_at "fn")
    (case d10 => walk_at "fn")
    (case d11 => walk_at "fn")
    (case d12 => walk_at "fn")
    (case d13 => walk_at "fn")
    (case d14 => walk_at "fn")
    (case d15 => walk_at "fn")
    (case d16 => walk_at "fn")
    (case z1 => k_is)
    (case z2 => k_is)
    (case z3 => k_is)
    (case z4 => k_is)
    (case z5 => k_is)
    (case z6 => k_is)
    (case z7 => k_is)
    (case z8 => k_is)
    (case z9 => k_is)
    (case z10 => k_is)
