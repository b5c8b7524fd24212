import PyProof.Rows.All
import Wide.All
import OpenK.AllK
import Wide.FinOn
import Lean
import PyProof.EqAt
import PyProof.EqKinds
import PyProof.TupleCall
import KE.KSortTup
import PyProof.FString
import PyProof.StrBlock
import KE.KRevSl
import PyProof.StrLawsReplace
import PyProof.StrCalls6
import PyProof.MinMaxWalk
import PyProof.WalkInts
import PyProof.NeKinds
import KE.KEqDict
import PyProof.Rows.SumAny
import KE.KMinKey
import PyProof.Rows.CallKwBuiltin
import PyProof.SetRoads
import PyProof.SetNew
import PyProof.CollectIter
import PyProof.WalksMore
import PyProof.DictKinds
import PyProof.Rows.SetFrom
import PyProof.TupleIter
import PyProof.Rows.SortShell
import PyProof.Rows.SortWalk
import PySem.Challenge.RW_shortglue_k64_whole_reads_stand
set_option Elab.async false
set_option linter.all false
set_option maxRecDepth 100000
open List (all_cons all_eq_true all_map any_cons any_eq_false append_assoc append_eq_nil_iff append_nil append_toArray cons_lt_cons_iff contains_iff_mem dropLast_concat dropLast_concat_getLast dropLast_eq_take drop_eq_getElem_cons drop_eq_nil_of_le drop_one drop_sublist drop_zero eq_of_mem_replicate eraseIdxIfInBounds_toArray eraseIdx_cons_succ ext_getElem ext_getElem? extract_eq_take_drop extract_toArray filterMap_append filterMap_cons filterMap_eq_map filterMap_map filter_append filter_cons filter_cons_of_neg filter_cons_of_pos filter_eq_nil_iff filter_nil find?_cons findIdx?_eq_none_iff flatten_cons foldl_cons forIn_cons forIn_nil forIn_toArray getD_eq_getElem?_getD getElem?_append_left getElem?_append_right getElem?_cons_succ getElem?_drop getElem?_eq_getElem getElem?_eq_none getElem?_map getElem?_of_mem getElem?_range getElem?_replicate getElem?_reverse getElem?_set_ne getElem?_set_self getElem?_take getElem?_take_of_lt getElem?_toArray getElem?_zip_eq_some getElem_cons_drop getElem_cons_succ getElem_inj getElem_mem getElem_of_mem getElem_tail getElem_toArray getElem_zip length_append length_cons length_drop length_dropLast length_eq_one_iff length_eq_zero_iff length_eraseIdx_of_lt length_filter_le length_flatten length_map length_nil length_pos_iff length_range length_replicate length_reverse length_set length_singleton length_tail length_take length_zip lookup_append lookup_cons map_append map_congr_left map_cons map_drop map_map map_nil map_replicate map_reverse map_take mem_append mem_append_left mem_append_right mem_cons mem_cons_of_mem mem_cons_self mem_filter mem_filterMap mem_flatten mem_iff_getElem mem_map mem_map_of_mem mem_of_getElem? mem_of_mem_drop mem_of_mem_take mem_range mem_range'_1 mem_replicate mem_reverse mem_singleton mem_take_iff_getElem ne_nil_of_length_pos nil_append nil_perm nodup_cons not_mem_nil of_mem_zip pairwise_append pairwise_cons pairwise_iff_getElem pairwise_lt_range pairwise_map perm_nil range_add range_succ range_succ_eq_map rel_of_pairwise_cons replicate_succ reverse_append reverse_cons reverse_reverse set_cons_succ set_cons_zero singleton_inj size_toArray sum_replicate_nat tail_cons take_add_one take_append_drop take_length take_nil take_of_length_le take_sublist take_succ take_succ_cons take_zero zipIdx_cons zipIdx_nil zip_append)
open Nat (add_comm add_le_add_left le_add_right le_antisymm le_of_ble_eq_true le_of_eq le_of_lt le_of_not_lt le_of_succ_le le_refl le_succ le_succ_of_le le_trans le_zero lt_of_le_of_lt lt_of_lt_of_le lt_of_succ_le lt_of_succ_lt_succ lt_or_eq_of_le lt_or_ge lt_succ_of_le lt_succ_of_lt lt_succ_self lt_trans lt_trichotomy max_le min_eq_left min_eq_right min_le_right min_self mod_lt mul_comm mul_le_mul_right ne_of_gt not_lt_of_lt not_lt_zero not_succ_le_self pos_of_ne_zero sub_self succ_mul succ_ne_zero succ_pos zero_le zero_lt_succ)
open Int (add_zero ediv_nonneg ediv_one emod_lt_of_pos emod_nonneg fdiv_eq_ediv_of_nonneg fmod_eq_emod_of_nonneg le_ediv_of_mul_le mul_le_mul_of_nonneg_left mul_one natCast_add natCast_emod natCast_mul natCast_zero neg_neg not_le toNat_natCast zero_mul)
open Bool (and_eq_true and_eq_true_iff beq_eq_decide_eq false_eq_true not_eq_true or_eq_true)
local macro_rules | `(tactic| walk_at "o")=>`(tactic| first | exact Or.inl rfl | exact Or.inr rfl | exact Or.inr (Or.inl rfl) | exact Or.inr (Or.inr rfl))
set_option maxHeartbeats 4000000
noncomputable section
namespace L2
open PySem PySem.W
def i7(tb:String->Option Builtin)(p:Program)(w:World)(n₀:Nat)(ann:Option Value):Nat->SharedT->Thread->Option SharedT
 | 0,_,_=>none
 | n+1,s,t=>match through t with
  | true=>some s
  | false=>match stepOk n₀ ann t with
   | false=>none
   | true=>match stepT (denote tb) p w s t with
    | some (s',t')=>i7 tb p w n₀ ann n s' t'
    | none=>none
theorem jT{tb:String->Option Builtin}{p:Program}{w:World}{n₀:Nat}{ann:Option Value}:∀{n:Nat}{s s':SharedT}{t:Thread},i7 tb p w n₀ ann n s t=some s'->topRun tb p w n₀ ann n s.abs t=some s'.abs
 | 0,_,_,_,h=>by cases h
 | n+1,s,s',t,h=>by
  unfold i7 at h;unfold topRun
  cases he:through t with
  | true=>rw [he] at h;cases h;rfl
  | false =>
   rw [he] at h
   cases hk:stepOk n₀ ann t with
   | false=>rw [hk] at h;cases h
   | true =>
    rw [hk] at h
    cases hs:stepT (denote tb) p w s t with
    | none=>rw [hs] at h;cases h
    | some r=>obtain⟨s₂,t₂⟩:=r;rw [hs] at h;rw [stepT_spec hs];exact jT h
def rh:List Obj->Nat->BT->BT
 | [],_,t=>t
 | o::r,i,t=>rh r (i+1) (t.ins i o)
def rY(P:Params):BT:=rh (boot_heap P).objs.toList 0 .nil
theorem qe:∀P,absHeap (rY P) (boot_heap P).objs.size (boot_heap P).life=boot_heap P:=fun P=>by kernel_rfl
theorem uo{p q:Program}{loose:List Str}{Xt:Shared->Bool}{α:Type}{Yf:Shared->α}{Ya:World->α}{N:Nat}{g0:Bool}{m₀:Nat}{ann:Option Value}
  (e:opening p=plainProg p.main.scope.names) (hN:Nat.ble 600 N=true) (f:∀s,fenceModules? p s=some s)
  (size:∀w:World,((boot_heap w.params).isNs mainGlobals && (Array.mk []:Array GenState).size == 0,(boot_heap w.params).objs.size,(boot_heap w.params).nsMap mainGlobals "__annotations__")=(true,m₀,ann))
  (run:∀(w:World) (os:OsState),(i7 treeTable p w m₀ ann N ⟨rY w.params,m₀,(boot_heap w.params).life,Array.mk [],boot_drawn,boot_toks,os⟩ (topStub p)).map (fun sT=>((staticsOk (importedModules p.main.body) (boot_heap w.params) sT.abs.heap && namesBound p sT.abs.heap && gensDone sT.abs && laidKept (boot_heap w.params) sT.abs.heap),openSeen q loose (importedModules p.main.body) Xt g0 sT.abs,Yf sT.abs))=some (true,openGood q loose,Ya w)):LeftO p q loose Xt Yf Ya N g0:=fun w=>by
 obtain⟨⟨h,gs,d,k,os⟩,e,e'⟩:=Option.map_eq_some_iff.mp (boot_open e hN f w);obtain⟨rfl,rfl,rfl,rfl⟩:h=boot_heap w.params/\gs=Array.mk []/\d=boot_drawn/\k=boot_toks:=by simpa using e'
 obtain⟨z1,z2,z3⟩:_/\_/\_:=by simpa only [Prod.mk.injEq] using size w
 obtain⟨sT,r,l⟩:=Option.map_eq_some_iff.mp (run w os);obtain⟨l1,l2,l3⟩:_/\_/\_:=by simpa only [Prod.mk.injEq] using l
 have r:=jT r
 rw [show SharedT.abs ⟨rY w.params,m₀,(boot_heap w.params).life,Array.mk [],boot_drawn,boot_toks,os⟩=⟨boot_heap w.params,Array.mk [],boot_drawn,boot_toks,os⟩ by
  unfold SharedT.abs;dsimp only;rw [<- z2,qe]] at r
 have t:topFrom treeTable p w N ⟨boot_heap w.params,Array.mk [],boot_drawn,boot_toks,os⟩=some sT.abs:=by
  unfold topFrom;dsimp only;rw [z1,z2,z3,r];show (match staticsOk (importedModules p.main.body) (boot_heap w.params) sT.abs.heap && namesBound p sT.abs.heap && gensDone sT.abs && laidKept (boot_heap w.params) sT.abs.heap with|true=>_|false=>_)=_;rw [l1]
 unfold openEnds;rw [e];show (topFrom treeTable p w N _).map _=_;rw [t];exact congrArg some (Prod.ext l2 l3)
end L2
section
open PySem PySem.W PyProof.Rows
def rZ:Program:=PySem.W.view PySem.Challenge.pw_shortglue_k64_whole_reads_stand [1,2,3,4,6,7,8,11,13,14,15,16,18,19,20,21,22,23,24,25,26,27,28,29,30,31]
local macro_rules | `(tactic| o_head $H)=>`(tactic| (refine holds_open (q:=rZ) (loose:=[PySem.Str.ofString "is_text"]) (Xt:=fun s=>xlAt rZ [] s && recOk (RowW.records (OpenRow.toRowW (OpenLaw.row PySem.Challenge.rw_shortglue_k64_whole_reads_stand))) s) (XP:=XL rZ []) (Yf:=Hook.obs $H) (Ya:=Hook.val $H) (YP:=Hook.says $H) (N:=3282) ?hl (Hook.of $H) (Hook.keeps $H) (fun s e=>xl_of s (and_eq_true_iff.mp e).1) XL.keeps (by rfl) (by rfl) (by rfl) (fun s e=>recFacts_of (and_eq_true_iff.mp e).2) (by rfl) (by first | assumption | decide +kernel) (by decide +kernel) ⟨rfl,rfl,rfl,rfl,rfl,by decide +kernel⟩ ?hw ?hc;(case hl=>(refine L2.uo (m₀:=11) (ann:=some (.ref 6)) (by kernel_rfl) (by rfl) (fun s=>by kernel_rfl) (fun w=>by kernel_rfl) ?_;intro w os;kernel_rfl))))
set_option maxRecDepth 100000 in
set_option maxHeartbeats 0 in
open_top topHd for PySem.Challenge.rw_shortglue_k64_whole_reads_stand
end
-- CHANGE: your row's module here,as the last of these rows
namespace L2
open PySem PySem.Spec PyProof.Rows
abbrev Key:=Sum Int Str
def uq:Key->Value->Bool
 | .inl k,v=>Value.isInt k v
 | .inr x,v=>Value.isStrOf x v
def yA(w:World):Key->Int
 | .inl k=>hashInt k
 | .inr x=>hashStr w x
theorem bL:∀{k:Key}{v:Value},uq k v=true->(∃i t,k=Sum.inl i/\v=Value.int i t)\/(∃x t,k=Sum.inr x/\v=Value.str x t)
 | .inl i,v,h=>by
  obtain⟨t,e⟩:=Value.isInt_shape (k:=i) (v:=v) h;exact .inl ⟨i,t,rfl,e⟩
 | .inr x,v,h=>by
  obtain⟨t,e⟩:=Value.isStrOf_shape (x:=x) (v:=v) h;exact .inr ⟨x,t,rfl,e⟩
theorem ur(a b:Int):decide ((Sum.inl a:Key)=Sum.inl b)=(a == b):=by
 by_cases e:a=b
 .subst e;simp
 .have h:¬ (Sum.inl a:Key)=Sum.inl b:=fun q=>e (Sum.inl.inj q);rw [decide_eq_false h];exact (beq_eq_false_iff_ne.mpr e).symm
theorem ut(a b:Str):decide ((Sum.inr a:Key)=Sum.inr b)=decide (a=b):=by
 by_cases e:a=b
 .subst e;simp
 .have h:¬ (Sum.inr a:Key)=Sum.inr b:=fun q=>e (Sum.inr.inj q);rw [decide_eq_false h,decide_eq_false e]
theorem uu(a:Int)(b:Str):decide ((Sum.inl a:Key)=Sum.inr b)=false:=decide_eq_false (fun q=>nomatch q)
theorem uv(a:Str)(b:Int):decide ((Sum.inr a:Key)=Sum.inl b)=false:=decide_eq_false (fun q=>nomatch q)
def k9(prog:Program)(w:World):PySem.KeyKind prog w Key where
 is:=uq
 hash:=yA w
 inj:=fun v a b ha hb=>by
  rcases bL ha with ⟨i,t,rfl,rfl⟩|⟨x,t,rfl,rfl⟩
  .rcases bL hb with ⟨j,u,rfl,e⟩|⟨y,u,rfl,e⟩
   .injection e with e1 _;rw [e1]
   .exact nomatch e
  .rcases bL hb with ⟨j,u,rfl,e⟩|⟨y,u,rfl,e⟩
   .exact nomatch e
   .injection e with e1 _;rw [e1]
 byValue:=fun k v h=>by
  rcases bL h with ⟨i,t,rfl,rfl⟩|⟨x,t,rfl,rfl⟩ <;> rfl
 pyHash:=fun hv h=>by
  rcases bL hv with ⟨i,t,rfl,rfl⟩|⟨x,t,rfl,rfl⟩
  .exact wpAny_pyHash_int h
  .exact wpAny_pyHash_str h
 eqBool:=fun hu hv h=>by
  rcases bL hu with ⟨i,t,rfl,rfl⟩|⟨x,t,rfl,rfl⟩
  .rcases bL hv with ⟨j,u,rfl,rfl⟩|⟨y,u,rfl,rfl⟩
   .rw [ur] at h;exact wpAny_eqBool_int h
   .rw [uu] at h;exact SeqAt.EqAt.int_str i t y u _ _ _ _ h
  .rcases bL hv with ⟨j,u,rfl,rfl⟩|⟨y,u,rfl,rfl⟩
   .rw [uv] at h;exact SeqAt.EqAt.str_int x t j u _ _ _ _ h
   .rw [ut] at h;exact wpAny_eqBool_str h
 «strs»:=fun k x t v h=>by
  rcases bL h with ⟨i,u,rfl,e⟩|⟨y,u,rfl,e⟩
  .exact nomatch e
  .injection e with e1 _;subst e1;cases v <;> rfl
inductive V where
 | non|bl (b:Bool)|int (i:Int)|str (x:Str)|byt (b:Array UInt8)|flt (b:UInt64)|ref (a:Addr)|ty (n:String)
 deriving DecidableEq
def cZ:V->Value->Prop
 | .non,u=>u=Value.none
 | .bl b,u=>u=Value.bool b
 | .int i,u=>∃t,u=Value.int i t
 | .str x,u=>∃t,u=Value.str x t
 | .byt b,u=>∃t,u=Value.bytes b t
 | .flt b,u=>∃t,u=Value.float b t
 | .ref a,u=>u=Value.ref a
 | .ty n,u=>u=Value.type n
abbrev bP:List V->List Value->Prop:=Paired cZ
theorem bP.length{xs:List V}{us:List Value}(r:bP xs us):xs.length=us.length:=Paired.length r
theorem bP.get:∀{xs:List V}{us:List Value}{i:Nat}{x:V},bP xs us->xs[i]?=some x->∃u,us[i]?=some u/\cZ x u
 | _,_,_,_,.nil,e=>by simp at e
 | _,_,0,_,.cons r _,e=>by simp at e;subst e;exact⟨_,rfl,r⟩
 | _,_,i+1,x,.cons _ t,e=>by
  obtain⟨u,h1,h2⟩:=bP.get (i:=i) (x:=x) t (by simpa using e);exact⟨u,by simpa using h1,h2⟩
theorem bP.append:∀{xs ys:List V}{us ws:List Value},bP xs us->bP ys ws->bP (xs++ys) (us++ws)
 | _,_,_,_,.nil,s=>s
 | _,_,_,_,.cons r t,s=>.cons r (bP.append t s)
theorem bP.take:∀{xs:List V}{us:List Value} (n:Nat),bP xs us->bP (xs.take n) (us.take n)
 | _,_,0,_=>.nil
 | _,_,_+1,.nil=>.nil
 | _,_,n+1,.cons r t=>.cons r (bP.take n t)
theorem bP.drop:∀{xs:List V}{us:List Value} (n:Nat),bP xs us->bP (xs.drop n) (us.drop n)
 | _,_,0,r=>r
 | _,_,_+1,.nil=>.nil
 | _,_,n+1,.cons _ t=>bP.drop n t
def wE:Option V->Option Value->Prop
 | some v,some u=>cZ v u
 | none,none=>True
 | _,_=>False
def KV{κ:Type}:List (κ×V)->List (κ×Value)->Prop:=Paired fun (p:κ×V) (q:κ×Value)=>p.1=q.1/\cZ p.2 q.2
def kV:Key->V
 | .inl i=>.int i
 | .inr x=>.str x
inductive HO where
 | lst (xs:List V)
 | tup (xs:List V)
 | dK (kvs:List (Key×V))|dT (kvs:List (List Key×V))
 | set (S:Int->Bool) (n:Nat)
 | ins (C dx:Addr) (fs:List (Str×V))
 | own (x:Addr)
 | xd (fs:List (Str×V))
 | met (f x:Addr)
 | rng (lo hi:Int)
 | frz (o:Obj) (u:HO)
 | tbl (ps:Array Value)
 | ext (φ:Heap->Prop)
abbrev Hp:=Addr->Option HO
def upd(H:Hp)(a:Addr)(o:HO):Hp:=fun b=>if b=a then some o else H b
theorem aT{H:Hp}{a:Addr}{o:HO}:upd H a o a=some o:=by unfold upd;rw [if_pos rfl]
theorem au{H:Hp}{a b:Addr}{o:HO}(h:b≠a):upd H a o b=H b:=by unfold upd;rw [if_neg h]
theorem aQ{H:Hp}{a b:Addr}{o:HO}(h:H a=some o)(h':H b=none):a≠b:=by
 intro e;subst e;rw [h] at h';cases h'
section
variable (P:Program) (w:World)
def cv(H:Hp)(h:Heap)(a:Addr):HO->Prop
 | .lst xs=>xs.length<=sizeLine/\∃(its:List Value) (n:Nat),bP xs its/\h.get? a=some { cls:=.type "list",data:=.seq its.toArray n }
 | .tup xs=>xs.length<=sizeLine/\∃its:List Value,bP xs its/\IsTup h a its.toArray
 | .dK kvs=>kvs.length<=sizeLine/\(a == sysModules)=false/\∃vs,KV kvs vs/\h.DictOf (k9 P w) a vs
 | .dT kvs=>kvs.length<=sizeLine/\(a == sysModules)=false/\∃xs:List (List Key×Addr×Value),
   Paired (fun (p:List Key×V) (q:List Key×Addr×Value)=>p.1=q.1/\H q.2.1=some (.tup (p.1.map kV))/\cZ p.2 q.2.2) kvs xs /\
   ∃o es ep,h.get? a=some o/\o.ExactDict/\o.data=.dict es ep/\es.toList=xs.map (entryOfKey (tupleKind (k9 P w)))/\(xs.map (·.1)).Nodup
 | .set S n=>h.SetOf (intKind P w) a S n
 | .ins C dx fs=>H dx=some (.own a)/\fs.length<=1000/\dx≠a/\h.get? a=some (PySem.W.instObj C dx) /\
   ∃mA,h.Ns1 dx mA/\(∀f,wE (fs.lookup f) (mA f))/\PySem.Within mA (fs.map (·.1))
 | .own _=>∃o,h.get? a=some o
 | .xd fs=>∃mA,h.Ns1 a mA/\∀f,wE (fs.lookup f) (mA f)
 | .rng lo hi=>∃t u v,h.get? a=some { cls:=.type "range",data:=.fields #[.int lo t,.int hi u,.int 1 v] }
 | .frz o u=>h.get? a=some o/\cv H h a u
 | .tbl ps=>h.get? a=some { cls:=.none,data:=.fields ps }
 | .met f x=>h.get? a=some (PySem.W.methodObj (.ref f) (.ref x))
 | .ext φ=>φ h/\(∃o,h.get? a=some o)/\∀h1 h2:Heap,φ h1->(∀o,h1.get? a=some o->h2.get? a=some o)->φ h2
def HOk(H:Hp)(h:Heap):Prop:=∀a o,H a=some o->cv P w H h a o
end
section
variable {P:Program}{w:World}{H H':Hp}{h h':Heap}{a:Addr}{o:HO}
theorem cv.lt(x:cv P w H h a o):a<h.objs.size:=by
 cases o with
 | lst xs=>obtain⟨_,_,_,_,e⟩:=x;exact Heap.lt_size e
 | tup xs=>obtain⟨_,_,_,p⟩:=x;exact p.lt
 | dK kvs=>obtain⟨_,_,_,_,o,_,_,e,_⟩:=x;exact Heap.lt_size e
 | dT kvs=>obtain⟨_,_,_,_,o,_,_,e,_⟩:=x;exact Heap.lt_size e
 | set S n=>obtain⟨o,_,_,_,e,_⟩:=x;exact Heap.lt_size e
 | ins C dx fs=>obtain⟨_,_,_,e,_⟩:=x;exact Heap.lt_size e
 | own y=>obtain⟨_,e⟩:=x;exact Heap.lt_size e
 | xd fs=>obtain⟨_,⟨_,_,_,e,_⟩,_⟩:=x;exact Heap.lt_size e
 | rng lo hi=>obtain⟨_,_,_,e⟩:=x;exact Heap.lt_size e
 | frz ob u=>obtain⟨e,_⟩:=x;exact Heap.lt_size e
 | tbl ps=>exact Heap.lt_size (show h.get? a=some _ from x)
 | met f y=>exact Heap.lt_size (show h.get? a=some _ from x)
 | ext φ=>obtain⟨_,⟨_,e⟩,_⟩:=x;exact Heap.lt_size e
theorem Paired.mapP{α β:Type}{F G:α->β->Prop}:∀{l₁:List α}{l₂:List β},Paired F l₁ l₂->(∀a b,F a b->G a b)->Paired G l₁ l₂
 | _,_,.nil,_=>.nil
 | _,_,.cons r t,f=>.cons (f _ _ r) (Paired.mapP t f)
theorem cv.stay(x:cv P w H h a o)(k:∀b u,(b=a\/H b=some (.own a))->h.get? b=some u->h'.get? b=some u)
  (ho:∀b,H b=some (.own a)->H' b=some (.own a)) (ht:∀b xs,H b=some (.tup xs)->H' b=some (.tup xs)):cv P w H' h' a o:=by
 induction o with
 | lst xs=>obtain⟨z,its,n,r,e⟩:=x;exact⟨z,its,n,r,k _ _ (.inl rfl) e⟩
 | tup xs=>obtain⟨z,its,r,ob,e,c⟩:=x;exact⟨z,its,r,ob,k _ _ (.inl rfl) e,c⟩
 | dK kvs=>obtain⟨z,y,vs,r,ob,es,ep,e,c⟩:=x;exact⟨z,y,vs,r,ob,es,ep,k _ _ (.inl rfl) e,c⟩
 | dT kvs =>
  obtain⟨z,y,xs,r,ob,es,ep,e,c⟩:=x;exact⟨z,y,xs,Paired.mapP r fun p q z=>⟨z.1,ht _ _ z.2.1,z.2.2⟩,ob,es,ep,k _ _ (.inl rfl) e,c⟩
 | set S n=>obtain⟨ob,es,ep,t,e,c⟩:=x;exact⟨ob,es,ep,t,k _ _ (.inl rfl) e,c⟩
 | ins C dx fs =>
  obtain⟨d,z,ne,e,mA,⟨od,es,ep,e2,c⟩,r⟩:=x;exact⟨ho _ d,z,ne,k _ _ (.inl rfl) e,mA,⟨od,es,ep,k _ _ (.inr d) e2,c⟩,r⟩
 | own y=>obtain⟨ob,e⟩:=x;exact⟨ob,k _ _ (.inl rfl) e⟩
 | xd fs=>obtain⟨mA,⟨od,es,ep,e,c⟩,r⟩:=x;exact⟨mA,⟨od,es,ep,k _ _ (.inl rfl) e,c⟩,r⟩
 | rng lo hi=>obtain⟨t,u,v,e⟩:=x;exact⟨t,u,v,k _ _ (.inl rfl) e⟩
 | frz ob u ih=>obtain⟨e,q⟩:=x;exact⟨k _ _ (.inl rfl) e,ih q⟩
 | tbl ps =>
  have e:h.get? a=some { cls:=.none,data:=.fields ps }:=x;show h'.get? a=some { cls:=.none,data:=.fields ps };exact k a _ (.inl rfl) e
 | met f y =>
  have e:h.get? a=some (PySem.W.methodObj (.ref f) (.ref y)):=x;show h'.get? a=some (PySem.W.methodObj (.ref f) (.ref y));exact k a _ (.inl rfl) e
 | ext φ=>obtain⟨p,⟨o,e⟩,st⟩:=x;exact⟨st _ _ p fun o q=>k _ _ (.inl rfl) q,⟨o,k _ _ (.inl rfl) e⟩,st⟩
theorem HOk.lt(x:HOk P w H h)(e:H a=some o):a<h.objs.size:=(x a o e).lt
theorem HOk.fresh(x:HOk P w H h)(e:h.objs.size<=a):H a=none:=by
 cases q:H a with
 | none=>rfl
 | some u=>exact absurd (lt_of_lt_of_le (x.lt q) e) (Nat.lt_irrefl _)
theorem HOk.kept(x:HOk P w H h)(k:∀b u,h.get? b=some u->h'.get? b=some u):HOk P w H h':=fun a o e =>
 (x a o e).stay (fun b u _ q=>k b u q) (fun _ q=>q) fun _ _ q=>q
theorem HOk.laid(x:HOk P w H h)(k:∀b u,h.get? b=some u->h'.get? b=some u)(hp:h.objs.size<=a)(new:cv P w (upd H a o) h' a o):HOk P w (upd H a o) h':=fun b u e=>by
 have hn:=x.fresh hp
 by_cases hb:b=a
 .subst hb;rw [aT] at e;cases e;exact new
 .rw [au hb] at e;exact (x b u e).stay (fun c v _ q=>k c v q) (fun c q=>by rw [au (aQ q hn)];exact q) fun c xs q=>by rw [au (aQ q hn)];exact q
end
def Rd(H:Hp)(a:Addr)(u:HO):Prop:=H a=some u\/∃o,H a=some (.frz o u)
theorem Rd.ok{P:Program}{w:World}{H:Hp}{h:Heap}{a:Addr}{u:HO}(r:Rd H a u)(x:HOk P w H h):cv P w H h a u:=by
 rcases r with r|⟨o,r⟩
 .exact x a u r
 .obtain⟨_,q⟩:=x a _ r;exact q
def Mut:Option HO->Prop
 | some (.lst _)=>True
 | some (.dK _)=>True
 | some (.dT _)=>True
 | some (.set _ _)=>True
 | some (.ins _ _ _)=>True
 | some (.ext _)=>True
 | _=>False
section
variable {P:Program}{w:World}{H:Hp}{h h':Heap}{x e:Addr}{o':HO}
theorem HOk.write(ok:HOk P w H h)(mu:Mut (H x))(he:e=x\/H e=some (.own x))(k:∀b u,b≠e->h.get? b=some u->h'.get? b=some u)(heo:∃u,h'.get? e=some u)
  (new:cv P w (upd H x o') h' x o'):HOk P w (upd H x o') h':=fun b u q=>by
 have nown:∀c y,H c=some (.own y)->c≠x:=fun c y r z=>by subst z;rw [r] at mu;exact mu
 have ntup:∀c xs,H c=some (.tup xs)->c≠x:=fun c xs r z=>by subst z;rw [r] at mu;exact mu
 by_cases hb:b=x
 .subst hb;rw [aT] at q;cases q;exact new
 .rw [au hb] at q
  by_cases hbe:b=e
  .have q':H b=some (.own x):=by
    rcases he with z|z
    .exact absurd (hbe.trans z) hb
    .rw [hbe];exact z
   rw [q] at q';cases q';obtain⟨v,hv⟩:=heo;exact⟨v,by rw [hbe];exact hv⟩
  .refine (ok b u q).stay (fun c v hc r=>k c v ?_ r) (fun c r=>by rw [au (nown c b r)];exact r) fun c xs r=>by rw [au (ntup c xs r)];exact r
   rcases hc with rfl|hc
   .exact hbe
   .rintro rfl
    rcases he with z|z
    .exact nown c b hc z
    .rw [hc] at z;cases z;exact hb rfl
end
structure Un (fs ex:List Addr) (H H':Hp) (h h':Heap):Prop where
 keep:∀b o,h.get? b=some o->H b=none->b∉fs->b∉ex->h'.get? b=some o
 slot:∀b o,h.get? b=some o->H b=none->b∈fs->b∉ex->∃sl,h'.get? b=some { o with slots:=sl }
 free:∀b o,h.get? b=some o->H b=none->b∉ex->H' b=none
 there:∀b o,h.get? b=some o->b∉ex->∃o',h'.get? b=some o'
 tups:∀b xs,H b=some (.tup xs)->H' b=some (.tup xs)
 frzs:∀b o u,H b=some (.frz o u)->H' b=some (.frz o u)
 tbls:∀b ps,H b=some (.tbl ps)->∃more,H' b=some (.tbl (ps++more))
section
variable {fs fs' ex ex':List Addr}{H H1 H2:Hp}{h h1 h2 h':Heap}{a x e:Addr}{o:HO}
theorem Un.any(u:Un fs ex H H1 h h1){b:Addr}{ob:Obj}(q:h.get? b=some ob)(n:H b=none)(hx:b∉ex):∃sl,h1.get? b=some { ob with slots:=sl }:=by
 by_cases hb:b∈fs
 .exact u.slot b ob q n hb hx
 .exact⟨ob.slots,u.keep b ob q n hb hx⟩
theorem Un.kept(k:∀b u,h.get? b=some u->h'.get? b=some u):Un fs ex H H h h' :=
 ⟨fun b ob q _ _ _=>k b ob q,fun b ob q _ _ _=>⟨ob.slots,k b ob q⟩,fun _ _ _ n _=>n,fun b ob q _=>⟨ob,k b ob q⟩,fun _ _ q=>q,fun _ _ _ q=>q,fun _ ps q=>⟨#[],by rw [q];simp⟩⟩
theorem Un.refl:Un fs ex H H h h:=Un.kept fun _ _ q=>q
theorem Un.laid(k:∀b u,h.get? b=some u->h'.get? b=some u)(hp:h.objs.size<=a)(hn:H a=none):Un fs ex H (upd H a o) h h' where
 keep:=fun b u q _ _ _=>k b u q
 slot:=fun b u q _ _ _=>⟨u.slots,k b u q⟩
 free:=fun b u q n _=>by rw [au (Nat.ne_of_lt (lt_of_lt_of_le (Heap.lt_size q) hp))];exact n
 there:=fun b u q _=>⟨u,k b u q⟩
 tups:=fun b xs q=>by rw [au (aQ q hn)];exact q
 frzs:=fun b u xs q=>by rw [au (aQ q hn)];exact q
 tbls:=fun b ps q=>⟨#[],by rw [au (aQ q hn),q];simp⟩
theorem Un.write(mu:Mut (H x))(he:e=x\/H e=some (.own x))(k:∀b u,b≠e->h.get? b=some u->h'.get? b=some u)(heo:∃u,h'.get? e=some u):Un fs ex H (upd H x o) h h':=by
 have hx:∀b,H b=none->b≠x:=fun b n z=>by subst z;rw [n] at mu;exact mu
 have hb:∀b,H b=none->b≠e:=fun b n z=>by
  subst z
  rcases he with r|r
  .exact hx b n r
  .rw [n] at r;cases r
 have hm:∀b u,H b=some u->¬ Mut (some u)->b≠x:=fun b u q nm z=>by subst z;rw [q] at mu;exact nm mu
 refine⟨fun b u q n _ _=>k b u (hb b n) q,fun b u q n _ _=>⟨u.slots,k b u (hb b n) q⟩,fun b u q n _=>by rw [au (hx b n)];exact n,fun b u q _=>?_,
  fun b xs q=>by rw [au (hm b _ q fun z=>z)];exact q,fun b u xs q=>by rw [au (hm b _ q fun z=>z)];exact q,fun b ps q=>⟨#[],by rw [au (hm b _ q fun z=>z),q];simp⟩⟩
 by_cases hbe:b=e
 .subst hbe;exact heo
 .exact⟨u,k b u hbe q⟩
end
def trk(h:Heap)(H:Hp):List Addr:=(List.range h.objs.size).filter fun a=>(H a).isSome
def qf(h:Heap)(H:Hp):Heap:=PySem.W.hideAll h (trk h H)
theorem nM(h:Heap)(H:Hp):(qf h H).objs.size=h.objs.size:=PySem.W.hideAll_size _ _
theorem qg{h:Heap}{H:Hp}{b:Addr}{o:Obj}(e:h.get? b=some o)(n:H b=none):(qf h H).get? b=some o :=
 PySem.W.hideAll_get _ e fun hm=>by
  have q:(H b).isSome=true:=(mem_filter.mp hm).2;rw [n] at q;simp at q
theorem r8{h:Heap}{H:Hp}{b:Addr}{o:Obj}(e:(qf h H).get? b=some o):h.get? b=some o/\H b=none:=by
 have e':h.get? b=some o:=PySem.W.of_hideAll (trk h H) e;refine⟨e',?_⟩
 cases q:H b with
 | none=>rfl
 | some x =>
  have hm:b∈trk h H:=mem_filter.mpr ⟨mem_range.mpr (Heap.lt_size e'),by simp [q]⟩;have z:(qf h H).get? b=none:=PySem.W.hideAll_none (trk h H) hm;rw [z] at e;cases e
structure Mod (K:PySem.W.Frag) (mg:Str->Option Value) (base:Heap):Prop where
 kin:K.In base
 glob:base.Ns mainGlobals mg
 blt:∃mb,base.Ns builtinsNs mb/\∀x:Str,x≠"__name__"->mb x=bootBuiltins x
 nolimit:base.NoLimit
structure Cx where
 prog:Program
 w:World
 K:PySem.W.Frag
 mg:Str->Option Value
 base:Heap
 A:Around
 N:List Str
 s₀:Shared
 H₀:Hp
 env:Env
 outer:List Env
 stack:List Env
 ex:List Addr
 fn:Str->Bool
 calm:Bool
 pn:List (Addr×Obj)
 xe:Value->Shared->Prop
def frs(l:List Env):List Addr:=l.filterMap (·.frame)
abbrev Cx.fs(X:Cx):List Addr:=frs X.outer
def Vis(sc:Scope)(x:Str):Prop:=sc.names.lookup x=some .local\/sc.names.lookup x=some .cell\/sc.names.lookup x=some .free
def Loc(sc:Scope)(x:Str):Prop:=sc.names.lookup x=some .local\/sc.names.lookup x=some .cell
def yB(env:Env)(h:Heap)(m:Str->Option Value)(x:Str)(u:Value):Prop :=
 (env.kindOf x=some .local/\m x=some u)\/((env.kindOf x=some .cell\/env.kindOf x=some .free)/\∃c,env.cells.lookup x=some c/\h.IsCell c (some u))
structure Cx.Ok (X:Cx):Prop where
 mod:Mod X.K X.mg X.base
 kind:X.env.scope.kind=.function
 glob:X.env.globals=mainGlobals
 blt:X.env.builtins=builtinsNs
 above:X.s₀.heap.objs.size<=X.env.locals
 inj:∀x y c,X.env.cells.lookup x=some c->X.env.cells.lookup y=some c->x=y
 has:∀x,(X.env.kindOf x=some .cell\/X.env.kindOf x=some .free)->∃c,X.env.cells.lookup x=some c
 cab:∀x c,X.fn x=true->X.env.cells.lookup x=some c->X.s₀.heap.objs.size<=c
 hd:X.calm=true->X.A.handled=none
 frames:X.A.frames=some X.stack
 stk:X.stack=X.outer\/(X.stack=X.env::X.outer/\X.env.frame=some X.env.locals)
 exf:∀b∈X.ex,b≠X.env.locals/\∀x c,X.env.cells.lookup x=some c->c≠b
 bs:∀b o,X.base.get? b=some o->X.s₀.heap.get? b=some o/\X.H₀ b=none
 bsz:X.base.objs.size<=X.s₀.heap.objs.size
 noex:∀b o,X.base.get? b=some o->b∉X.ex
 exfs:∀b∈X.ex,b∉X.fs
 funs:X.s₀.heap.FunFrames X.base X.outer
 frf:∀b∈X.fs,X.H₀ b=none
structure Inv (X:Cx) (pins:List (Addr×Obj)) (σ:List (Option V)) (H:Hp) (s:Shared):Prop where
 ok:X.Ok
 os:s.os=X.s₀.os
 bare:AllBare s.gens
 base:Un X.fs X.ex X.H₀ H X.s₀.heap s.heap
 loc:∃m,s.heap.Ns X.env.locals m/\∀(i:Nat) (x:Str) (v:V),X.N[i]?=some x->σ[i]?=some (some v)->Vis X.env.scope x->∃u,cZ v u/\yB X.env s.heap m x u
 cell:∀x c,X.env.cells.lookup x=some c->∃v,s.heap.IsCell c v
 free:H X.env.locals=none
 freeC:∀x c,X.env.cells.lookup x=some c->H c=none
 pin:∀p∈X.pn++pins,s.heap.get? p.1=some p.2/\H p.1=none/\p.1≠X.env.locals/\p.1∉X.fs/\∀v,p.2.data≠.cell v
 hok:HOk X.prog X.w H s.heap
 len:σ.length=X.N.length
section
variable {X:Cx}{pins:List (Addr×Obj)}{σ:List (Option V)}{H H':Hp}{s:Shared}{h':Heap}
theorem Cx.Ok.nofr(ok:X.Ok){b:Addr}{o:Obj}(e:X.base.get? b=some o):b∉X.fs:=fun hb=>by
 have:=(ok.funs.mem hb).1;rw [e] at this;cases this
theorem Inv.bs(I:Inv X pins σ H s):∀b o,X.base.get? b=some o->s.heap.get? b=some o/\H b=none:=fun b o e =>
 ⟨I.base.keep b o (I.ok.bs b o e).1 (I.ok.bs b o e).2 (I.ok.nofr e) (I.ok.noex b o e),I.base.free b o (I.ok.bs b o e).1 (I.ok.bs b o e).2 (I.ok.noex b o e)⟩
theorem Inv.bk(I:Inv X pins σ H s):∀b o,X.base.get? b=some o->s.heap.get? b=some o:=fun b o e=>(I.bs b o e).1
theorem Inv.mod(I:Inv X pins σ H s):Mod X.K X.mg X.base:=I.ok.mod
theorem Inv.kIn(I:Inv X pins σ H s):X.K.In s.heap:=I.ok.mod.kin.keeps I.bk
theorem Inv.lt(I:Inv X pins σ H s):X.env.locals<s.heap.objs.size:=let ⟨_,hn,_⟩:=I.loc;hn.lt
theorem Inv.sz(I:Inv X pins σ H s):X.s₀.heap.objs.size<=s.heap.objs.size:=le_trans I.ok.above (le_of_lt I.lt)
theorem Inv.nofs(I:Inv X pins σ H s){a:Addr}(h:s.heap.objs.size<=a):a∉X.fs:=fun hb=>by
 obtain⟨_,o,ho,_⟩:=I.ok.funs.mem hb;exact absurd (lt_of_lt_of_le (Heap.lt_size ho) (le_trans I.sz h)) (Nat.lt_irrefl _)
theorem Inv.cne(I:Inv X pins σ H s):∀x c,X.env.cells.lookup x=some c->c≠X.env.locals:=fun x c e z=>by
 obtain⟨v,o,ho,hd⟩:=I.cell x c e;obtain⟨m,⟨o',es,ep,ho',hd',_⟩,_⟩:=I.loc;rw [z,ho'] at ho;cases ho;rw [hd'] at hd;cases hd
theorem Inv.funs(I:Inv X pins σ H s):s.heap.FunFrames X.base X.outer:=by
 have all:∀(l:List Env),(∀b∈frs l,b∈X.fs)->X.s₀.heap.FunFrames X.base l->s.heap.FunFrames X.base l:=by
  intro l
  induction l with
  | nil=>intro _ _;trivial
  | cons env r ih =>
   intro hs hl;obtain⟨hk,⟨L,o,hf,hn,ho,hd⟩,hr⟩:=hl;have hL:L∈X.fs:=hs L (by unfold frs;rw [filterMap_cons,hf];exact mem_cons_self);obtain⟨sl,e⟩:=I.base.slot L o ho (I.ok.frf L hL) hL fun z=>I.ok.exfs L z hL;exact⟨hk,⟨L,_,hf,hn,e,hd⟩,ih (fun b hb=>hs b (by unfold frs;rw [filterMap_cons,hf];exact mem_cons_of_mem _ hb)) hr⟩
 exact all X.outer (fun _ hb=>hb) I.ok.funs
theorem Inv.stack(I:Inv X pins σ H s):s.heap.FunFrames X.base X.stack:=by
 rcases I.ok.stk with e|⟨e,hf⟩
 .rw [e];exact I.funs
 .rw [e];obtain⟨m,hn,_⟩:=I.loc;refine .cons (by rw [I.ok.kind];decide) hf hn ?_ I.funs;exact Heap.get?_none_of_le (le_trans I.ok.bsz I.ok.above)
theorem Inv.stkSub(I:Inv X pins σ H s):∀b∈frs X.stack,b∈X.env.locals::X.fs:=fun b hb=>by
 rcases I.ok.stk with e|⟨e,hf⟩
 .rw [e] at hb;exact mem_cons_of_mem _ hb
 .rw [e] at hb;unfold frs at hb;rw [filterMap_cons,hf] at hb;exact hb
theorem Inv.stkFree(I:Inv X pins σ H s):∀b∈frs X.stack,H b=none:=fun b hb=>by
 rcases mem_cons.mp (I.stkSub b hb) with e|hb
 .rw [e];exact I.free
 .obtain⟨_,o,ho,_⟩:=I.ok.funs.mem hb;exact I.base.free b o ho (I.ok.frf b hb) fun z=>I.ok.exfs b z hb
theorem Inv.step{g':Array GenState}{t':Nat}{d':Drawn}{ch:List Addr}(I:Inv X pins σ H s)
  (hch:∀b∈ch,(b∈X.ex\/X.s₀.heap.objs.size<=b)/\b≠X.env.locals/\(∀x c,X.env.cells.lookup x=some c->c≠b)/\∀p∈X.pn++pins,p.1≠b)
  (keep:∀b o,b≠X.env.locals->b∉X.fs->b∉ch->s.heap.get? b=some o->H b=none->h'.get? b=some o)
  (slot:∀b o,b≠X.env.locals->b∈X.fs->b∉ch->s.heap.get? b=some o->H b=none->∃sl,h'.get? b=some { o with slots:=sl }) (free:∀b o,b∉ch->s.heap.get? b=some o->H b=none->H' b=none)
  (there:∀b o,b∉ch->s.heap.get? b=some o->∃o',h'.get? b=some o')
  (tups:∀b xs,H b=some (.tup xs)->H' b=some (.tup xs)) (frzs:∀b o u,H b=some (.frz o u)->H' b=some (.frz o u)) (tbls:∀b ps,H b=some (.tbl ps)->∃more,H' b=some (.tbl (ps++more)))
  (ns:∀m,s.heap.Ns X.env.locals m->h'.Ns X.env.locals m) (hok:HOk X.prog X.w H' h') (hg:AllBare g') :
  Inv X pins σ H' { s with heap:=h',gens:=g',drawn:=d',toks:=t' }:=by
 have neL:∀b o,X.s₀.heap.get? b=some o->b≠X.env.locals:=fun b o e=>Nat.ne_of_lt (lt_of_lt_of_le (Heap.lt_size e) I.ok.above)
 have neC:∀b o,X.s₀.heap.get? b=some o->b∉X.ex->b∉ch:=fun b o e hx hb=>by
  rcases (hch b hb).1 with z|z
  .exact hx z
  .exact absurd (lt_of_lt_of_le (Heap.lt_size e) z) (Nat.lt_irrefl _)
 have cellK:∀x c,X.env.cells.lookup x=some c->∀v,s.heap.IsCell c v->h'.IsCell c v:=fun x c e v ⟨o,ho,hd⟩=>by
  have nch:c∉ch:=fun z=>(hch c z).2.2.1 x c e rfl
  by_cases hc:c∈X.fs
  .obtain⟨sl,q⟩:=slot c o (I.cne x c e) hc nch ho (I.freeC x c e);exact⟨_,q,hd⟩
  .exact⟨o,keep c o (I.cne x c e) hc nch ho (I.freeC x c e),hd⟩
 refine⟨I.ok,I.os,hg,⟨fun b o e n hb hx=>?_,fun b o e n hb hx=>?_,fun b o e n hx=>?_,fun b o e hx=>?_,fun b xs e=>tups b xs (I.base.tups b xs e),fun b o xs e=>frzs b o xs (I.base.frzs b o xs e),fun b ps e=>?_⟩,?_,fun x c e=>?_,?_,fun x c e=>?_,fun p hp=>?_,hok,I.len⟩
 .exact keep b o (neL b o e) hb (neC b o e hx) (I.base.keep b o e n hb hx) (I.base.free b o e n hx)
 .obtain⟨sl,e1⟩:=I.base.slot b o e n hb hx;obtain⟨sl',e2⟩:=slot b _ (neL b o e) hb (neC b o e hx) e1 (I.base.free b o e n hx);exact⟨sl',e2⟩
 .obtain⟨o',e1⟩:=I.base.there b o e hx;exact free b o' (neC b o e hx) e1 (I.base.free b o e n hx)
 .obtain⟨o',e1⟩:=I.base.there b o e hx;exact there b o' (neC b o e hx) e1
 .obtain⟨m1,e1⟩:=I.base.tbls b ps e;obtain⟨m2,e2⟩:=tbls b _ e1;exact⟨m1++m2,by rw [e2,Array.append_assoc]⟩
 .obtain⟨m,hn,hl⟩:=I.loc;refine⟨m,ns m hn,fun i x v e1 e2 e3=>?_⟩;obtain⟨u,r,l⟩:=hl i x v e1 e2 e3;refine⟨u,r,?_⟩
  rcases l with l|⟨k,c,e,z⟩
  .exact .inl l
  .exact .inr ⟨k,c,e,cellK x c e _ z⟩
 .obtain⟨v,z⟩:=I.cell x c e;exact⟨v,cellK x c e v z⟩
 .obtain⟨m,⟨o,_,_,ho,_⟩,_⟩:=I.loc;exact free _ o (fun z=>(hch _ z).2.1 rfl) ho I.free
 .obtain⟨v,o,ho,hd⟩:=I.cell x c e;exact free c o (fun z=>(hch c z).2.2.1 x c e rfl) ho (I.freeC x c e)
 .obtain⟨e,n,ne,nf,d⟩:=I.pin p hp;have nch:p.1∉ch:=fun z=>(hch p.1 z).2.2.2 p hp rfl;exact⟨keep p.1 p.2 ne nf nch e n,free p.1 p.2 nch e n,ne,nf,d⟩
theorem Inv.un{t':Nat}(I:Inv X pins σ H s)(u:Un X.fs [] H H' s.heap h')(hok:HOk X.prog X.w H' h'):Inv X pins σ H' { s with heap:=h',toks:=t' }:=by
 obtain⟨m,⟨o,es,ep,ho,r⟩,_⟩:=id I.loc;obtain⟨sl,hL⟩:=u.any ho I.free (by simp)
 exact I.step (g':=s.gens) (d':=s.drawn) (ch:=[]) (fun _ z=>nomatch z) (fun b o _ hb _ e n=>u.keep b o e n hb (by simp)) (fun b o _ hb _ e n=>u.slot b o e n hb (by simp)) (fun b o _ e n=>u.free b o e n (by simp)) (fun b o _ e=>u.there b o e (by simp)) u.tups u.frzs u.tbls (fun m' hm=>by
  obtain⟨o',es',ep',ho',r'⟩:=hm;rw [ho] at ho';cases ho';exact⟨_,es',ep',hL,r'⟩) hok I.bare
theorem Inv.call{g':Array GenState}{t':Nat}{d':Drawn}{ch:List Addr}(I:Inv X pins σ H s)(u:Un (frs X.stack) ch H H' s.heap h')(hok:HOk X.prog X.w H' h')(hg:AllBare g')
  (hch:∀b∈ch,(b∈X.ex\/X.s₀.heap.objs.size<=b)/\b≠X.env.locals/\(∀x c,X.env.cells.lookup x=some c->c≠b)/\∀p∈X.pn++pins,p.1≠b) :
  Inv X pins σ H' { s with heap:=h',gens:=g',drawn:=d',toks:=t' }:=by
 obtain⟨m,⟨o,es,ep,ho,r⟩,_⟩:=id I.loc;obtain⟨sl,hL⟩:=u.any ho I.free fun z=>(hch _ z).2.1 rfl
 exact I.step (ch:=ch) hch (fun b o hL hb hc e n=>u.keep b o e n (fun z=>(mem_cons.mp (I.stkSub b z)).elim hL hb) hc) (fun b o _ _ hc e n=>u.any e n hc) (fun b o hc e n=>u.free b o e n hc) (fun b o hc e=>u.there b o e hc) u.tups u.frzs u.tbls (fun m' hm=>by
  obtain⟨o',es',ep',ho',r'⟩:=hm;rw [ho] at ho';cases ho';exact⟨_,es',ep',hL,r'⟩) hok hg
theorem Inv.turned{t':Nat}{it:Addr}(I:Inv X pins σ H s)(k:∀b o,b≠it->s.heap.get? b=some o->h'.get? b=some o)(hn:H it=none)(hL:it≠X.env.locals)
  (h1:it∈X.ex\/X.s₀.heap.objs.size<=it) (h2:∀x c,X.env.cells.lookup x=some c->c≠it) (h3:∀p∈X.pn++pins,p.1≠it):Inv X pins σ H { s with heap:=h',toks:=t' }:=by
 have nit:∀b u,H b=some u->b≠it:=fun b u e z=>by rw [z,hn] at e;cases e
 refine I.step (g':=s.gens) (d':=s.drawn) (ch:=[it]) (fun b hb=>?_) (fun b o _ _ hc e _=>k b o (fun z=>hc (by simp [z])) e) (fun b o _ _ hc e _=>⟨o.slots,k b o (fun z=>hc (by simp [z])) e⟩) (fun _ _ _ _ n=>n)
  (fun b o hc e=>⟨o,k b o (fun z=>hc (by simp [z])) e⟩) (fun _ _ e=>e) (fun _ _ _ e=>e) (fun b ps e=>⟨#[],by rw [e];simp⟩) (fun m hm=>?_) (fun b u e=>?_) I.bare
 .have e:b=it:=by simpa using hb
  subst e;exact⟨h1,hL,h2,h3⟩
 .obtain⟨o,es,ep,ho,r⟩:=hm;exact⟨o,es,ep,k _ o (Ne.symm hL) ho,r⟩
 .refine (I.hok b u e).stay (fun c v hc q=>k c v ?_ q) (fun _ q=>q) fun _ _ q=>q
  rcases hc with z|z
  .rw [z];exact nit b u e
  .exact nit c _ z
theorem Inv.tok(I:Inv X pins σ H s)(t:Nat):Inv X pins σ H { s with toks:=t }:=I.un (h':=s.heap) (t':=t) Un.refl I.hok
theorem Inv.kept{t':Nat}(I:Inv X pins σ H s)(k:∀b u,s.heap.get? b=some u->h'.get? b=some u):Inv X pins σ H { s with heap:=h',toks:=t' }:=I.un (Un.kept k) (I.hok.kept k)
theorem Inv.laid{a:Addr}{o:HO}{t':Nat}(I:Inv X pins σ H s)(k:∀b u,s.heap.get? b=some u->h'.get? b=some u)(hp:s.heap.objs.size<=a)(new:cv X.prog X.w (upd H a o) h' a o) :
  Inv X pins σ (upd H a o) { s with heap:=h',toks:=t' }:=I.un (Un.laid k hp (I.hok.fresh hp)) (I.hok.laid k hp new)
theorem Inv.write{x e:Addr}{o:HO}{t':Nat}(I:Inv X pins σ H s)(mu:Mut (H x))(he:e=x\/H e=some (.own x))(k:∀b u,b≠e->s.heap.get? b=some u->h'.get? b=some u)(heo:∃u,h'.get? e=some u)
  (new:cv X.prog X.w (upd H x o) h' x o):Inv X pins σ (upd H x o) { s with heap:=h',toks:=t' }:=I.un (Un.write mu he k heo) (I.hok.write mu he k heo new)
theorem Inv.pins_of{pins':List (Addr×Obj)}(I:Inv X pins σ H s)(h:∀p∈pins',s.heap.get? p.1=some p.2/\H p.1=none/\p.1≠X.env.locals/\p.1∉X.fs/\∀v,p.2.data≠.cell v):Inv X pins' σ H s :=
 ⟨I.ok,I.os,I.bare,I.base,I.loc,I.cell,I.free,I.freeC,fun p hp=>(mem_append.mp hp).elim (fun z=>I.pin p (mem_append_left _ z)) (h p),I.hok,I.len⟩
theorem l6{N:List Str}(hN:N.Nodup){i j:Nat}{x:Str}(a:N[i]?=some x)(b:N[j]?=some x):i=j:=by
 obtain⟨h1,e1⟩:=List.getElem?_eq_some_iff.mp a;obtain⟨h2,e2⟩:=List.getElem?_eq_some_iff.mp b;exact (getElem_inj hN).mp (e1.trans e2.symm)
theorem nN{M:Model}{A:Around}{E:Value->Shared->Prop}{i:Nat}{x:Str}{v:V}{u:Value}{Q:Unit->Shared->Prop}(I:Inv X pins σ H s)(hN:X.N.Nodup)(hi:X.N[i]?=some x)(hx:Loc X.env.scope x)(r:cZ v u)
  (h:∀s',Inv X pins (σ.set i (some v)) H s'->(∃a,Heap.SameBut a s.heap s'.heap/\(a=X.env.locals\/X.env.cells.lookup x=some a))->Q () s') (hf:X.fn x=true\/X.env.scope.names.lookup x=some .local:=by first|exact .inl rfl|exact .inr rfl|assumption):wpAny M A (storeName X.env x u) Q E s:=by
 obtain⟨m,hn,hl⟩:=id I.loc;have hcls:(X.env.scope.kind == .class || (X.env.scope.kind == .module && X.env.locals != X.env.globals))=false:=by rw [I.ok.kind];rfl
 have hiσ:i<σ.length:=by rw [I.len];exact (List.getElem?_eq_some_iff.mp hi).1
 have cne:=I.cne
 have tracked:∀{a:Addr}{h':Heap},(∃o,s.heap.get? a=some o/\H a=none)->Heap.SameBut a s.heap h'->HOk X.prog X.w H h':=fun {a h'} ha hs b ob e=>by
  obtain⟨_,_,hfree⟩:=ha;refine (I.hok b ob e).stay (fun c w' hc q=>(hs.2 c ?_).trans q) (fun _ q=>q) fun _ _ q=>q;rintro rfl
  rcases hc with rfl|hc
  .rw [hfree] at e;cases e
  .rw [hfree] at hc;cases hc
 rcases hx with hk|hk
 .refine wpAny_storeName_local hk hn (fun h' hn' hs=>?_) hcls;obtain⟨oL,_,_,hoL,_⟩:=id hn
  refine h _ ⟨I.ok,I.os,I.bare,⟨fun b o e n hb hx=>?_,fun b o e n hb hx=>?_,I.base.free,fun b o e hx=>?_,I.base.tups,I.base.frzs,I.base.tbls⟩,⟨_,hn',fun j y v' e1 e2 e3=>?_⟩,fun y c e=>?_,I.free,I.freeC,fun p hp=>?_,tracked ⟨oL,hoL,I.free⟩ hs,by simpa using I.len⟩ ⟨_,hs,.inl rfl⟩
  .exact (hs.2 b (Nat.ne_of_lt (lt_of_lt_of_le (Heap.lt_size e) I.ok.above))).trans (I.base.keep b o e n hb hx)
  .obtain⟨sl,e1⟩:=I.base.slot b o e n hb hx;exact⟨sl,(hs.2 b (Nat.ne_of_lt (lt_of_lt_of_le (Heap.lt_size e) I.ok.above))).trans e1⟩
  .obtain⟨o',e1⟩:=I.base.there b o e hx;exact⟨o',(hs.2 b (Nat.ne_of_lt (lt_of_lt_of_le (Heap.lt_size e) I.ok.above))).trans e1⟩
  .by_cases hj:j=i
   .subst hj;rw [hi] at e1;cases e1;rw [getElem?_set_self hiσ] at e2;cases e2;exact⟨u,r,.inl ⟨hk,by simp⟩⟩
   .rw [getElem?_set_ne (Ne.symm hj)] at e2;obtain⟨u',r',q⟩:=hl j y v' e1 e2 e3;refine⟨u',r',?_⟩
    rcases q with ⟨k,e⟩|⟨k,c,e,z⟩
    .refine .inl ⟨k,?_⟩;have:y≠x:=fun e=>hj (l6 hN e1 (e ▸ hi));simp [this,e]
    .exact .inr ⟨k,c,e,z.sameBut hs (cne y c e)⟩
  .obtain⟨w',z⟩:=I.cell y c e;exact⟨w',z.sameBut hs (cne y c e)⟩
  .obtain⟨e,n,ne,nf,d⟩:=I.pin p hp;exact⟨(hs.2 p.1 ne).trans e,n,ne,nf,d⟩
 .have hfn:X.fn x=true:=by
   rcases hf with z|z
   .exact z
   .rw [z] at hk;cases hk
  obtain⟨c,hc⟩:=I.ok.has x (.inl hk);obtain⟨w',z⟩:=I.cell x c hc;refine wpAny_storeName_cell I.ok.kind hk hc z (fun h' hc' hs=>?_);obtain⟨oc,hoc,hocd⟩:=id z
  refine h { s with heap:=h' } ⟨I.ok,I.os,I.bare,⟨fun b o e n hb hx=>?_,fun b o e n hb hx=>?_,I.base.free,fun b o e hx=>?_,I.base.tups,I.base.frzs,I.base.tbls⟩,⟨m,hn.sameBut hs (Ne.symm (cne x c hc)),fun j y v' e1 e2 e3=>?_⟩,fun y c' e=>?_,I.free,I.freeC,fun p hp=>?_,tracked ⟨oc,hoc,I.freeC x c hc⟩ hs,by simpa using I.len⟩ ⟨c,hs,.inr hc⟩
  .exact (hs.2 b (Nat.ne_of_lt (lt_of_lt_of_le (Heap.lt_size e) (I.ok.cab x c hfn hc)))).trans (I.base.keep b o e n hb hx)
  .obtain⟨sl,e1⟩:=I.base.slot b o e n hb hx;exact⟨sl,(hs.2 b (Nat.ne_of_lt (lt_of_lt_of_le (Heap.lt_size e) (I.ok.cab x c hfn hc)))).trans e1⟩
  .obtain⟨o',e1⟩:=I.base.there b o e hx;exact⟨o',(hs.2 b (Nat.ne_of_lt (lt_of_lt_of_le (Heap.lt_size e) (I.ok.cab x c hfn hc)))).trans e1⟩
  .by_cases hj:j=i
   .subst hj;rw [hi] at e1;cases e1;rw [getElem?_set_self hiσ] at e2;cases e2;exact⟨u,r,.inr ⟨.inl hk,c,hc,hc'⟩⟩
   .rw [getElem?_set_ne (Ne.symm hj)] at e2;obtain⟨u',r',q⟩:=hl j y v' e1 e2 e3;refine⟨u',r',?_⟩
    rcases q with q|⟨k,c',e,z'⟩
    .exact .inl q
    .refine .inr ⟨k,c',e,z'.sameBut hs ?_⟩;rintro rfl;exact hj (l6 hN e1 (I.ok.inj _ _ _ e hc ▸ hi))
  .by_cases hcc:c'=c
   .subst hcc;exact⟨_,hc'⟩
   .obtain⟨w2,z2⟩:=I.cell y c' e;exact⟨w2,z2.sameBut hs hcc⟩
  .obtain⟨e,n,ne,nf,d⟩:=I.pin p hp;refine⟨(hs.2 p.1 ?_).trans e,n,ne,nf,d⟩;intro q;rw [q,hoc] at e;have q':oc=p.2:=Option.some.inj e;exact d w' (by rw [<- q'];exact hocd)
theorem i8{M:Model}{A:Around}{E:Value->Shared->Prop}{i:Nat}{x:Str}{v:V}{u:Value}{Q:Unit->Shared->Prop}(I:Inv X pins σ H s)(hN:X.N.Nodup)(hi:X.N[i]?=some x)(hx:Loc X.env.scope x)(r:cZ v u)
  (h:∀s',Inv X pins (σ.set i (some v)) H s'->Q () s') (hf:X.fn x=true\/X.env.scope.names.lookup x=some .local:=by first|exact .inl rfl|exact .inr rfl|assumption):wpAny M A (storeName X.env x u) Q E s :=
 nN I hN hi hx r (fun s' I' _=>h s' I') hf
theorem Inv.call'{s':Shared}{ch:List Addr}(I:Inv X pins σ H s)(ho:s'.os=s.os)(u:Un (frs X.stack) ch H H' s.heap s'.heap)(hok:HOk X.prog X.w H' s'.heap)(hg:AllBare s'.gens)
  (hch:∀b∈ch,(b∈X.ex\/X.s₀.heap.objs.size<=b)/\b≠X.env.locals/\(∀x c,X.env.cells.lookup x=some c->c≠b)/\∀p∈X.pn++pins,p.1≠b):Inv X pins σ H' s':=by
 obtain⟨h',g',d',t',o'⟩:=s';have e:o'=s.os:=ho;subst e;exact I.call (g':=g') (t':=t') (d':=d') u hok hg hch
end
abbrev XK:=Value->Option Addr->Hp->Prop
abbrev St:=List (Option V)
abbrev VK:=V->Hp->Prop
abbrev TE:=St->Hp->VK->Prop
abbrev TT:=St->Hp->(Bool->Hp->Prop)->Prop
abbrev TA:=St->Hp->(List V->Hp->Prop)->Prop
structure ud where
 nx:St->Hp->Prop
 rt:VK
 bk:St->Hp->Prop:=fun _ _=>False
 ct:St->Hp->Prop:=fun _ _=>False
abbrev TS:=ud->St->Hp->Prop
def EP(X:Cx)(pins:List (Addr×Obj))(σ:St)(Q:VK)(u:Value)(s':Shared):Prop:=∃v H',Inv X pins σ H' s'/\cZ v u/\Q v H'
def TP(X:Cx)(pins:List (Addr×Obj))(σ:St)(Q:Bool->Hp->Prop)(b:Bool)(s':Shared):Prop:=∃H',Inv X pins σ H' s'/\Q b H'
def AP(X:Cx)(pins:List (Addr×Obj))(σ:St)(Q:List V->Hp->Prop)(us:List Value)(s':Shared):Prop:=∃vs H',Inv X pins σ H' s'/\bP vs us/\Q vs H'
def SP(X:Cx)(pins:List (Addr×Obj))(D:ud)(f:Flow)(s':Shared):Prop :=
 match f with
 | .next=>∃σ' H',Inv X pins σ' H' s'/\D.nx σ' H'
 | .brk=>∃σ' H',Inv X pins σ' H' s'/\D.bk σ' H'
 | .cont=>∃σ' H',Inv X pins σ' H' s'/\D.ct σ' H'
 | .ret u=>∃v σ' H',Inv X pins σ' H' s'/\cZ v u/\D.rt v H'
def PE(X:Cx)(e:Expr)(t:TE):Prop :=
 ∀(pins:List (Addr×Obj)) (s:Shared) (σ:St) (H:Hp) (Q:VK),Inv X pins σ H s->t σ H Q->wpAny (model X.prog X.w) X.A (eval e X.env) (EP X pins σ Q) X.xe s
def PT(X:Cx)(e:Expr)(t:TT):Prop :=
 ∀(pins:List (Addr×Obj)) (s:Shared) (σ:St) (H:Hp) (Q:Bool->Hp->Prop),Inv X pins σ H s->t σ H Q->wpAny (model X.prog X.w) X.A (isTrue e X.env (eval e X.env)) (TP X pins σ Q) X.xe s
def PW(X:Cx)(e:Expr)(t:TT):Prop :=
 ∀(whole:Sem Value) (pins:List (Addr×Obj)) (s:Shared) (σ:St) (H:Hp) (Q:Bool->Hp->Prop),Inv X pins σ H s->t σ H Q->wpAny (model X.prog X.w) X.A (isTrue e X.env whole) (TP X pins σ Q) X.xe s
theorem PW.pt{X:Cx}{e:Expr}{t:TT}(h:PW X e t):PT X e t:=h _
def PA(X:Cx)(es:List Expr)(t:TA):Prop :=
 ∀(pos:Pos) (pins:List (Addr×Obj)) (s:Shared) (σ:St) (H:Hp) (Q:List V->Hp->Prop),Inv X pins σ H s->t σ H Q->wpAny (model X.prog X.w) X.A (spliced (backTo pos (starEach es X.env))) (AP X pins σ Q) X.xe s
def PS(X:Cx)(st:Stmt)(t:TS):Prop :=
 ∀(pins:List (Addr×Obj)) (s:Shared) (σ:St) (H:Hp) (D:ud),Inv X pins σ H s->t D σ H->wpAny (model X.prog X.w) X.A (exec st X.env) (SP X pins D) X.xe s
def PSs(X:Cx)(st:List Stmt)(t:TS):Prop :=
 ∀(pins:List (Addr×Obj)) (s:Shared) (σ:St) (H:Hp) (D:ud),Inv X pins σ H s->t D σ H->wpAny (model X.prog X.w) X.A (execs st X.env) (SP X pins D) X.xe s
theorem thn{α:Type}{t:Sem α}{Q Q':α->Shared->Prop}{M:Model}{A:Around}{E:Value->Shared->Prop}{s:Shared}(h:wpAny M A t Q E s)(hQ:∀a s,Q a s->Q' a s):wpAny M A t Q' E s:=wpAny_mono h hQ fun _ _ x=>x
section
variable {X:Cx}
def dB(i:Nat):TE:=fun σ H Q=>∃v,σ[i]?=some (some v)/\Q v H
def tC(v:V):TE:=fun _ H Q=>Q v H
theorem uw{i:Nat}{x:Str}{pos:Pos}(hN:X.N[i]?=some x)(hv:Vis X.env.scope x)(hd:(x == ("__debug__":Str))=false:=by decide)(hcd:(x == ("__classdict__":Str))=false:=by decide):PE X (.Name x pos) (dB i):=by
 intro pins s σ H Q I h;obtain⟨v,e,h⟩:=h;obtain⟨m,hn,hl⟩:=I.loc;obtain⟨u,r,l⟩:=hl i x v hN e hv;have fin:EP X pins σ Q u s:=⟨v,H,I,r,h⟩
 rcases l with ⟨hk,hm⟩|⟨hk,c,hc,hcell⟩
 .exact wpAny_Name (wpAny_loadName_local I.ok.kind hk hn hm fin) hd
 .rcases hk with hk|hk
  .exact wpAny_Name (wpAny_loadName_cell I.ok.kind hk hc hcell fin) hd
  .exact wpAny_Name (wpAny_loadName_free I.ok.kind hk hc hcell fin hcd) hd
theorem al{i j pos}:PE X (.Constant (.int i) j pos) (tC (.int i)):=fun _ _ _ H _ I h=>wpAny_Constant_int ⟨.int i,H,I.tok _,⟨_,rfl⟩,h⟩
theorem eQ{b j pos}:PE X (.Constant (.bool b) j pos) (tC (.bl b)):=fun _ _ _ H _ I h=>Constant_bool ⟨.bl b,H,I,rfl,h⟩
theorem uz{x j pos}:PE X (.Constant (.str x) j pos) (tC (.str x)):=fun _ _ _ H _ I h=>Calls.Constant_str ⟨.str x,H,I.tok _,⟨_,rfl⟩,h⟩
def Gl(X:Cx)(x:Str):Prop:=X.env.kindOf x=some .globalImplicit
theorem nO{E:Value->Shared->Prop}{pins:List (Addr×Obj)}{s:Shared}{σ:St}{H:Hp}{x:Str}{u:Value}{pos:Pos}{Q:Value->Shared->Prop}(I:Inv X pins σ H s)(hg:Gl X x)(hm:X.mg x=some u)(h:Q u s)
  (hd:(x == ("__debug__":Str))=false:=by decide):wpAny (model X.prog X.w) X.A (eval (.Name x pos) X.env) Q E s :=
 Calls.Name_function_global I.ok.kind hg (Calls.loadGlobal_global (by rw [I.ok.glob];exact I.mod.glob.keeps I.bk) hm h) hd
theorem c5{E:Value->Shared->Prop}{pins:List (Addr×Obj)}{s:Shared}{σ:St}{H:Hp}{x:Str}{u:Value}{pos:Pos}{Q:Value->Shared->Prop}(I:Inv X pins σ H s)(hg:Gl X x)(hm:X.mg x=none)(hv:bootBuiltins x=some u)(h:Q u s)
  (hn:x≠"__name__":=by decide) (hd:(x == ("__debug__":Str))=false:=by decide):wpAny (model X.prog X.w) X.A (eval (.Name x pos) X.env) Q E s:=by
 obtain⟨mb,h1,h2⟩:=I.mod.blt;exact Calls.Name_function_global I.ok.kind hg (Calls.loadGlobal_builtin (by rw [I.ok.glob];exact I.mod.glob.keeps I.bk) hm (by rw [I.ok.blt];exact h1.keeps I.bk) ((h2 x hn).trans hv) h) hd
theorem r9{x:Str}{v:V}{u:Value}{pos:Pos}(hg:Gl X x)(hm:X.mg x=some u)(r:cZ v u)(hd:(x == ("__debug__":Str))=false:=by decide):PE X (.Name x pos) (tC v) :=
 fun _ _ _ H _ I h=>nO I hg hm ⟨v,H,I,r,h⟩ hd
theorem lc{x:Str}{v:V}{u:Value}{pos:Pos}(hg:Gl X x)(hm:X.mg x=none)(hv:bootBuiltins x=some u)(r:cZ v u)(hn:x≠"__name__":=by decide)(hd:(x == ("__debug__":Str))=false:=by decide):PE X (.Name x pos) (tC v) :=
 fun _ _ _ H _ I h=>c5 I hg hm hv ⟨v,H,I,r,h⟩ hn hd
variable {a b:Expr}{ta tb:TE}{pos:Pos}
def tB(t:TE):TT:=fun σ H Q=>t σ H fun x H1=>∃c,x=.bl c/\Q c H1
theorem uA{e:Expr}{t:TE}(h:PE X e t)(he:∀whole,isTrue e X.env whole=(do let v <- whole;standAt e.pos;holding [v] (truthy v)):=by intro _;rfl):PT X e (tB t):=by
 intro pins s σ H Q I hw;refine isTrue_plain (thn (h pins s σ H _ I hw) fun v s1 ⟨x,H1,I1,r1,q1⟩=>?_) (he _);obtain⟨d,rfl,q⟩:=q1;cases r1;exact wpAny_truthy_bool ⟨H1,I1,q⟩
variable {tA tB':TT}{rest:List Expr}
def xP(t u:TT):TT:=fun σ H Q=>t σ H fun c H1=>if c=true then u σ H1 Q else Q false H1
def tOr(t u:TT):TT:=fun σ H Q=>t σ H fun c H1=>if c=true then Q true H1 else u σ H1 Q
def wF(t:TT):TT:=fun σ H Q=>t σ H fun c H1=>Q (!c) H1
theorem i9(ha:PT X a tA):PW X (.BoolOp .And [a] pos) tA:=by
 intro wh pins s σ H Q I h;refine isTrue_and (thn (ha pins s σ H Q I h) fun c s1 e=>?_)
 cases c with
 | true=>exact isTrue_and_nil e
 | false=>exact e
theorem gP(ha:PT X a tA):PW X (.BoolOp .Or [a] pos) tA:=by
 intro wh pins s σ H Q I h;refine isTrue_or (thn (ha pins s σ H Q I h) fun c s1 e=>?_)
 cases c with
 | false=>exact isTrue_or_nil e
 | true=>exact e
theorem l7(ha:PT X a tA)(hb:PW X (.BoolOp .And (b::rest) pos) tB'):PW X (.BoolOp .And (a::b::rest) pos) (xP tA tB'):=by
 intro wh pins s σ H Q I h;refine isTrue_and (thn (ha pins s σ H _ I h) fun c s1 ⟨H1,I1,q1⟩=>?_)
 cases c with
 | true=>exact hb wh pins s1 σ H1 Q I1 q1
 | false=>exact⟨H1,I1,q1⟩
theorem jU(ha:PT X a tA)(hb:PW X (.BoolOp .Or (b::rest) pos) tB'):PW X (.BoolOp .Or (a::b::rest) pos) (tOr tA tB'):=by
 intro wh pins s σ H Q I h;refine isTrue_or (thn (ha pins s σ H _ I h) fun c s1 ⟨H1,I1,q1⟩=>?_)
 cases c with
 | true=>exact⟨H1,I1,q1⟩
 | false=>exact hb wh pins s1 σ H1 Q I1 q1
theorem jV(ha:PT X a tA):PT X (.UnaryOp .Not a pos) (wF tA):=by
 intro pins s σ H Q I h;exact isTrue_not (ha pins s σ H (fun c H1=>Q (!c) H1) I h)
def uB(ta tb:TE):TE:=fun σ H Q=>ta σ H fun x H1=>∃c,x=.bl c/\if c=true then tb σ H1 Q else Q (.bl false) H1
def uC(ta:TE):TE:=fun σ H Q=>ta σ H fun x H1=>∃c,x=.bl c/\Q (.bl (!c)) H1
theorem nP{op}{t:TE}(h:PE X a t):PE X (.BoolOp op [a] pos) t:=fun pins s σ H Q I hw=>BoolOp_one (h pins s σ H Q I hw)
theorem nQ(ha:PE X a ta)(hb:PE X (.BoolOp .And (b::rest) pos) tb):PE X (.BoolOp .And (a::b::rest) pos) (uB ta tb):=by
 intro pins s σ H Q I h;refine BoolOp_and (thn (ha pins s σ H _ I h) fun v s1 ⟨x,H1,I1,r1,q1⟩=>?_);obtain⟨c,rfl,q1⟩:=q1;cases r1;refine wpAny_truthy_bool ?_
 cases c with
 | true=>exact hb pins s1 σ H1 Q I1 q1
 | false=>exact⟨.bl false,H1,I1,rfl,q1⟩
theorem uD(ha:PE X a ta):PE X (.UnaryOp .Not a pos) (uC ta):=by
 intro pins s σ H Q I h;refine UnaryOp_ (thn (ha pins s σ H _ I h) fun v s1 ⟨x,H1,I1,r1,q1⟩=>?_);obtain⟨c,rfl,q1⟩:=q1;cases r1;exact not_of (wpAny_truthy_bool ⟨.bl (!c),H1,I1,rfl,q1⟩)
end
def SqL(K:PySem.W.Frag)(H:Hp)(a:Addr)(xs:List V):Prop :=
 Rd H a (.lst xs) \/
  ∃(o:Obj) (its:Array Value) (n:Nat),K.lookup a=some o/\o.cls=.type "list"/\o.dict=none/\o.data=.seq its n/\its.size<=sizeLine/\bP xs its.toList
def SqT(K:PySem.W.Frag)(H:Hp)(a:Addr)(xs:List V):Prop :=
 Rd H a (.tup xs) \/
  ∃(o:Obj) (its:Array Value) (n:Nat),K.lookup a=some o/\o.cls=.type "tuple"/\o.data=.seq its n/\its.size<=sizeLine/\bP xs its.toList
def yC:Value->Option V
 | .none=>some .non
 | .bool b=>some (.bl b)
 | .int i _=>some (.int i)
 | .str x _=>some (.str x)
 | .bytes b _=>some (.byt b)
 | .float b _=>some (.flt b)
 | .ref a=>some (.ref a)
 | .type n=>some (.ty n)
 | _=>none
theorem cZ.abs{x:V}{u:Value}(r:cZ x u):yC u=some x:=by
 cases x with
 | non=>cases r;rfl
 | bl _=>cases r;rfl
 | int _=>obtain⟨t,rfl⟩:=r;rfl
 | str _=>obtain⟨t,rfl⟩:=r;rfl
 | byt _=>obtain⟨t,rfl⟩:=r;rfl
 | flt _=>obtain⟨t,rfl⟩:=r;rfl
 | ref _=>cases r;rfl
 | ty _=>cases r;rfl
theorem cZ.inj{x y:V}{u:Value}(r:cZ x u)(q:cZ y u):x=y:=Option.some.inj (r.abs.symm.trans q.abs)
theorem bP.inj:∀{xs ys:List V}{us:List Value},bP xs us->bP ys us->xs=ys
 | _,_,_,.nil,.nil=>rfl
 | _,_,_,.cons r t,.cons r' t'=>by rw [r.inj r',bP.inj t t']
section
variable {X:Cx}{pins:List (Addr×Obj)}{σ:St}{H:Hp}{s:Shared}{a:Addr}{xs ys:List V}
theorem SqL.of{K:PySem.W.Frag}(h:H a=some (.lst xs)):SqL K H a xs:=.inl (.inl h)
theorem SqT.of{K:PySem.W.Frag}(h:H a=some (.tup xs)):SqT K H a xs:=.inl (.inl h)
theorem Inv.list(I:Inv X pins σ H s)(h:SqL X.K H a xs):∃its:List Value,bP xs its/\PlainL s.heap a its.toArray/\xs.length<=sizeLine:=by
 rcases h with h|⟨o,its,n,hk,hc,hd,hs,hz,r⟩
 .obtain⟨z,its,n,r,e⟩:=h.ok I.hok;exact⟨its,r,⟨_,n,e,rfl,rfl,rfl⟩,z⟩
 .refine⟨its.toList,r,⟨o,n,I.kIn a o hk,hc,hd,by simpa using hs⟩,?_⟩;have e:=r.length;simp only [Array.length_toList] at e;omega
theorem Inv.tuple(I:Inv X pins σ H s)(h:SqT X.K H a xs):∃its:List Value,bP xs its/\IsTup s.heap a its.toArray/\xs.length<=sizeLine:=by
 rcases h with h|⟨o,its,n,hk,hc,hs,hz,r⟩
 .obtain⟨z,its,r,p⟩:=h.ok I.hok;exact⟨its,r,p,z⟩
 .refine⟨its.toList,r,⟨o,I.kIn a o hk,hc,n,by simpa using hs⟩,?_⟩;have e:=r.length;simp only [Array.length_toList] at e;omega
theorem Inv.list_inj(I:Inv X pins σ H s)(h:SqL X.K H a xs)(h':SqL X.K H a ys):xs=ys:=by
 obtain⟨its,r,⟨o,n,e,_,_,d⟩,_⟩:=I.list h;obtain⟨its',r',⟨o',n',e',_,_,d'⟩,_⟩:=I.list h';rw [e] at e';cases e';rw [d] at d';injection d' with d1 _;have:its=its':=by simpa using congrArg Array.toList d1
 subst this;exact r.inj r'
theorem Inv.tuple_inj(I:Inv X pins σ H s)(h:SqT X.K H a xs)(h':SqT X.K H a ys):xs=ys:=by
 obtain⟨its,r,⟨o,e,_,n,d⟩,_⟩:=I.tuple h;obtain⟨its',r',⟨o',e',_,n',d'⟩,_⟩:=I.tuple h';rw [e] at e';cases e';rw [d] at d';injection d' with d1 _;have:its=its':=by simpa using congrArg Array.toList d1
 subst this;exact r.inj r'
end
abbrev Cx.wish(X:Cx)(E:Value->Shared->Prop):Cx:={ X with xe:=E }
abbrev Cx.nox(X:Cx):Cx:=X.wish fun _ _=>False
theorem Cx.Ok.wish{X:Cx}(ok:X.Ok)(E:Value->Shared->Prop):(X.wish E).Ok :=
 ⟨ok.mod,ok.kind,ok.glob,ok.blt,ok.above,ok.inj,ok.has,ok.cab,ok.hd,ok.frames,ok.stk,ok.exf,ok.bs,ok.bsz,ok.noex,ok.exfs,ok.funs,ok.frf⟩
theorem Cx.Ok.unwish{X:Cx}{E:Value->Shared->Prop}(ok:(X.wish E).Ok):X.Ok :=
 ⟨ok.mod,ok.kind,ok.glob,ok.blt,ok.above,ok.inj,ok.has,ok.cab,ok.hd,ok.frames,ok.stk,ok.exf,ok.bs,ok.bsz,ok.noex,ok.exfs,ok.funs,ok.frf⟩
section
variable {X:Cx}{pins:List (Addr×Obj)}{σ:St}{H:Hp}{s:Shared}{E:Value->Shared->Prop}
theorem Inv.wish(I:Inv X pins σ H s)(E:Value->Shared->Prop):Inv (X.wish E) pins σ H s:=⟨I.ok.wish E,I.os,I.bare,I.base,I.loc,I.cell,I.free,I.freeC,I.pin,I.hok,I.len⟩
theorem Inv.unwish(I:Inv (X.wish E) pins σ H s):Inv X pins σ H s:=⟨I.ok.unwish,I.os,I.bare,I.base,I.loc,I.cell,I.free,I.freeC,I.pin,I.hok,I.len⟩
theorem SP.unwish{D:ud}{f:Flow}{s':Shared}(h:SP (X.wish E) pins D f s'):SP X pins D f s':=by
 cases f with
 | next=>obtain⟨σ',H',I,q⟩:=h;exact⟨σ',H',I.unwish,q⟩
 | brk=>obtain⟨σ',H',I,q⟩:=h;exact⟨σ',H',I.unwish,q⟩
 | cont=>obtain⟨σ',H',I,q⟩:=h;exact⟨σ',H',I.unwish,q⟩
 | ret u=>obtain⟨v,σ',H',I,r,q⟩:=h;exact⟨v,σ',H',I.unwish,r,q⟩
theorem PSs.nox{st:List Stmt}{t:TS}(h:PSs X.nox st t):PSs X st t:=fun pins s σ H D I hw =>
 wpAny_mono (h pins s σ H D (I.wish _) hw) (fun _ _ q=>q.unwish) fun _ _ z=>False.elim z
end
section
variable {X:Cx}{st:Stmt}{rest:List Stmt}{t u:TS}{e:Expr}{te:TE}{pos:Pos}
def uE:TS:=fun D σ H=>D.nx σ H
def xQ(t u:TS):TS:=fun D σ H=>t { D with nx:=u D } σ H
theorem bf:PSs X [] uE:=fun _ _ σ H _ I h=>wpAny_execs_nil ⟨σ,H,I,h⟩
theorem ai(h1:PS X st t)(h2:PSs X rest u):PSs X (st::rest) (xQ t u):=by
 intro pins s σ H D I h;refine wpAny_execs_cons (thn (h1 pins s σ H { D with nx:=u D } I h) fun f s1 q=>?_)
 cases f with
 | next =>
  obtain⟨σ',H',I',q⟩:=q;exact h2 pins s1 σ' H' D I' q
 | ret v=>exact q
 | brk=>exact q
 | cont=>exact q
theorem am(h1:PS X st t):PSs X [st] t:=by
 intro pins s σ H D I h;refine wpAny_execs_cons (thn (h1 pins s σ H D I h) fun f s1 q=>?_)
 cases f with
 | next=>exact wpAny_execs_nil q
 | ret v=>exact q
 | brk=>exact q
 | cont=>exact q
theorem Inv.quiet{pins:List (Addr×Obj)}{σ:St}{H:Hp}{s:Shared}(I:Inv X pins σ H s):interactive X.env=false:=by simp [interactive,I.ok.kind]
def uF(te:TE):TS:=fun D σ H=>te σ H fun _ H1=>D.nx σ H1
theorem fO(he:PE X e te)(hs:swapsWith e none pos.line X.env=pure false:=by rfl):PS X (.Expr e pos) (uF te):=by
 intro pins s σ H D I h;exact wpAny_Expr_any (thn (he pins s σ H _ I h) fun v s1 ⟨x,H1,I1,r1,q1⟩=>⟨σ,H1,I1,q1⟩) I.quiet hs
def xR(te:TE):TS:=fun D σ H=>te σ H D.rt
theorem bc(he:PE X e te):PS X (.Return (some e) pos) (xR te):=by
 intro pins s σ H D I h;exact wpAny_Return_some (thn (he pins s σ H _ I h) fun v s1 ⟨x,H1,I1,r1,q1⟩=>⟨x,σ,H1,I1,r1,q1⟩)
def xS(c:TT)(t u:TS):TS:=fun D σ H=>c σ H fun b H1=>if b=true then t D σ H1 else u D σ H1
theorem cK{c:Expr}{a b:List Stmt}{tc:TT}(hc:PT X c tc)(ha:PSs X a t)(hb:PSs X b u):PS X (.If c a b pos) (xS tc t u):=by
 intro pins s σ H D I h;refine wpAny_If (thn (hc pins s σ H _ I h) fun d s1 ⟨H1,I1,q1⟩=>?_)
 cases d with
 | true=>exact ha pins s1 σ H1 D I1 q1
 | false=>exact hb pins s1 σ H1 D I1 q1
def rj:TS:=fun _ _ _=>False
theorem ja:PS X st rj:=fun _ _ _ _ _ _ h=>h.elim
end
abbrev TG:=V->St->Hp->(St->Hp->Prop)->Prop
abbrev TGs:=List V->St->Hp->(St->Hp->Prop)->Prop
def PG(X:Cx)(target:Expr)(t:TG):Prop :=
 ∀(pins:List (Addr×Obj)) (s:Shared) (σ:St) (H:Hp) (v:V) (u:Value) (Q:St->Hp->Prop),Inv X pins σ H s->cZ v u->t v σ H Q ->
  wpAny (model X.prog X.w) X.A (assign target X.env u) (fun _ s'=>∃σ' H',Inv X pins σ' H' s'/\Q σ' H') X.xe s
def PGs(X:Cx)(ts:List Expr)(t:TGs):Prop :=
 ∀(pins:List (Addr×Obj)) (s:Shared) (σ:St) (H:Hp) (vs:List V) (us:List Value) (Q:St->Hp->Prop),Inv X pins σ H s->bP vs us->t vs σ H Q ->
  wpAny (model X.prog X.w) X.A (assignInOrder ((assignEach ts X.env).map (·.2)) us) (fun _ s'=>∃σ' H',Inv X pins σ' H' s'/\Q σ' H') X.xe s
section
variable {X:Cx}{pos:Pos}
def eY(i:Nat):TG:=fun v σ H Q=>Q (σ.set i (some v)) H
theorem aN{i:Nat}{x:Str}(hN:X.N.Nodup)(hi:X.N[i]?=some x)(hx:Loc X.env.scope x)(hf:X.fn x=true\/X.env.scope.names.lookup x=some .local:=by first|exact .inl rfl|exact .inr rfl|assumption):PG X (.Name x pos) (eY i):=by
 intro pins s σ H v u Q I r h;exact wpAny_assign_Name (i8 I hN hi hx r (fun s' I'=>⟨_,H,I',h⟩) hf)
def uG:TGs:=fun vs σ H Q=>vs=[]/\Q σ H
def jW(t:TG)(u:TGs):TGs:=fun vs σ H Q=>∃v r,vs=v::r/\t v σ H fun σ' H'=>u r σ' H' Q
theorem fP:PGs X [] uG:=by
 intro pins s σ H vs us Q I r h;obtain⟨e,h⟩:=h;subst e;cases r;exact assignInOrder_nil ⟨σ,H,I,h⟩
theorem bU{e:Expr}{es:List Expr}{t:TG}{u:TGs}(h1:PG X e t)(h2:PGs X es u)
  (hs:(assignEach (e::es) X.env).map (·.2)=assign e X.env::(assignEach es X.env).map (·.2):=by rfl):PGs X (e::es) (jW t u):=by
 intro pins s σ H vs us Q I r h;obtain⟨v,vr,e1,h⟩:=h;subst e1
 cases r with
 | cons r rr =>
  rw [hs];refine assignInOrder_cons (thn (h1 pins s σ H _ _ _ I r h) fun _ s1 ⟨σ1,H1,I1,q1⟩=>?_);exact h2 pins s1 σ1 H1 _ _ Q I1 rr q1
def yD(K:PySem.W.Frag)(n:Nat)(t:TGs):TG:=fun v σ H Q=>∃a xs,v=.ref a/\SqT K H a xs/\xs.length=n/\t xs σ H Q
theorem uH{es:List Expr}{k:Nat}{t:TGs}{n:Nat}(hc:X.calm=true)(h:PGs X es t)
  (hn:(assignEach es X.env).length=n:=by rfl) (hst:(assignEach es X.env).findIdx? (·.1)=none:=by rfl):PG X (.Tuple es k pos) (yD X.K n t):=by
 intro pins s σ H v u Q I r hw;obtain⟨a,xs,e1,hq,hl,hw⟩:=hw;subst e1;cases r;obtain⟨its,rv,ht,hz⟩:=I.tuple hq;refine assign_Tuple_tuple (I.ok.hd hc) ht (by simp [hn,<- hl,rv.length]) hst fun h' hx=>?_;have I1:Inv X pins σ H { s with heap:=h' }:=I.kept (t':=s.toks) fun b o e=>hx b o (Nat.ne_of_lt (Heap.lt_size e)) e;exact h pins _ σ H xs _ Q I1 (by simpa using rv) hw
def uI(te:TE)(g:TG):TS:=fun D σ H=>te σ H fun x H1=>g x σ H1 D.nx
theorem rk{tg e:Expr}{te:TE}{g:TG}(he:PE X e te)(hg:PG X tg g)(hs:swapsWithSole [tg] e pos.line X.env=pure false:=by rfl)(hw:swappedStores [tg] e X.env=pure none:=by rfl)
  (h1:(assignEach [tg] X.env).map (·.2)=[assign tg X.env]:=by rfl):PS X (.Assign [tg] e pos) (uI te g):=by
 intro pins s σ H D I h;refine wpAny_Assign_stores (thn (he pins s σ H _ I h) fun v s1 ⟨x,H1,I1,r1,q1⟩=>?_) hs hw;rw [h1];exact thn (hg pins s1 σ H1 x v _ I1 r1 q1) fun _ s2 q=>q
theorem aJ{i:Nat}{x:Str}{e:Expr}{te:TE}{pos':Pos}(hN:X.N.Nodup)(hi:X.N[i]?=some x)(hx:Loc X.env.scope x)(he:PE X e te)(hs:swapsWith e (some (.Name x pos')) pos.line X.env=pure false:=by rfl)(hf:X.fn x=true\/X.env.scope.names.lookup x=some .local:=by first|exact .inl rfl|exact .inr rfl|assumption) :
  PS X (.Assign [.Name x pos'] e pos) (uI te (eY i)):=by
 intro pins s σ H D I h;refine wpAny_Assign_Name (thn (he pins s σ H _ I h) fun v s1 ⟨y,H1,I1,r1,q1⟩=>?_) hs;exact i8 I1 hN hi hx r1 (fun s2 I2=>⟨_,H1,I2,q1⟩) hf
end
section
variable {X:Cx}{pos:Pos}
def rm(c:TT)(tb:TS):TS:=fun D σ H=>∃W:Nat->St->Hp->Prop,(∃m,W m σ H)/\∀m σ H,W m σ H ->
 c σ H fun b H1=>if b=true then ∃N:St->Hp->Prop,(∀σ' H',N σ' H'->∃m',m'<m/\W m' σ' H')/\tb { D with nx:=N,ct:=N,bk:=D.nx } σ H1 else D.nx σ H1
theorem l8{c:Expr}{body:List Stmt}{tc:TT}{tb:TS}(hp:PassesOwn (model X.prog X.w) X.A X.env X.xe)(hc:PT X c tc)(hb:PSs X body tb):PS X (.While c body [] pos) (rm tc tb):=by
 intro pins s σ H D I h;obtain⟨W,⟨m0,w0⟩,turn⟩:=h;refine wpAny_While (codeAny_whileLoop (fun n s'=>∃σ' H',Inv X pins σ' H' s'/\W n σ' H') ?_ m0 ⟨σ,H,I,w0⟩);rintro n s1 ⟨σ1,H1,I1,w1⟩;refine wpAny_passesOwn hp (thn (hc pins s1 σ1 H1 _ I1 (turn n σ1 H1 w1)) fun b s2 ⟨H2,I2,q2⟩=>?_)
 cases b with
 | true =>
  obtain⟨N,hN,q2⟩:=q2;rw [if_pos rfl];refine wpAny_passesOwn hp (thn (hb pins s2 σ1 H2 _ I2 q2) fun f s3 q3=>?_)
  cases f with
  | next =>
   obtain⟨σ3,H3,I3,n3⟩:=q3;obtain⟨m',hm,w3⟩:=hN σ3 H3 n3;exact⟨m',hm,σ3,H3,I3,w3⟩
  | cont =>
   obtain⟨σ3,H3,I3,n3⟩:=q3;obtain⟨m',hm,w3⟩:=hN σ3 H3 n3;exact⟨m',hm,σ3,H3,I3,w3⟩
  | brk=>exact q3
  | ret v=>exact q3
 | false =>
  rw [if_neg Bool.false_ne_true];exact wpAny_execs_nil ⟨σ1,H2,I2,q2⟩
end
structure It where
 go:Nat->Hp->Prop
 yld:Nat->Hp->V->Hp->Prop
 stop:Nat->Hp->Prop
def mX(X:Cx)(pins:List (Addr×Obj))(H:Hp)(b:Addr):Prop :=
 H b=none/\b≠X.env.locals/\b∉X.fs/\(b∈X.ex\/X.s₀.heap.objs.size<=b)/\(∀x c,X.env.cells.lookup x=some c->c≠b)/\∀p∈X.pn++pins,p.1≠b
theorem Inv.fpOk{X:Cx}{pins:List (Addr×Obj)}{σ:St}{H H':Hp}{s:Shared}{b:Addr}(I:Inv X pins σ H s)(hb:s.heap.objs.size<=b)(hn:H' b=none):mX X pins H' b:=by
 refine⟨hn,ne_of_gt (lt_of_lt_of_le I.lt hb),I.nofs hb,.inr (le_trans I.sz hb),fun x c e z=>?_,fun p hp z=>?_⟩
 .obtain⟨v,q⟩:=I.cell x c e;exact absurd (lt_of_lt_of_le q.lt (by rw [z];exact hb)) (Nat.lt_irrefl _)
 .exact absurd (lt_of_lt_of_le (Heap.lt_size (I.pin p hp).1) (by rw [z];exact hb)) (Nat.lt_irrefl _)
structure qh (P:Program) (w:World) (K:PySem.W.Frag) (tg:Expr) (J:It) (fp:List Addr) (it:Addr) (tn:Nat->Heap->Prop):Prop where
 mem:it∈fp
 obj:∀i h,tn i h->∀b∈fp,∃o,h.get? b=some o/\∀v,o.data≠.cell v
 keep:∀i h h',tn i h->(∀b∈fp,∀o,h.get? b=some o->h'.get? b=some o)->tn i h'
 item:∀(X:Cx),X.prog=P->X.w=w->X.K=K->X.calm=true->∀(i:Nat) (pins:List (Addr×Obj)) (s:Shared) (σ:St) (H:Hp) (E:Value->Shared->Prop),Inv X pins σ H s->(∀b∈fp,mX X pins H b)->tn i s.heap->J.go i H ->
  wpAny (model P w) X.A (pyNext (.ref it)) (fun r s1=>∃u,r=some u /\
   wpAny (model P w) X.A (letOwnedTupleGo tg (.ref it) u) (fun _ s2=>∃x H',Inv X pins σ H' s2/\cZ x u/\J.yld i H x H'/\tn (i+1) s2.heap/\∀b∈fp,H' b=none) E s1) E s
 done:∀(X:Cx),X.prog=P->X.w=w->X.K=K->X.calm=true->∀(i:Nat) (pins:List (Addr×Obj)) (s:Shared) (σ:St) (H:Hp) (E:Value->Shared->Prop),Inv X pins σ H s->(∀b∈fp,mX X pins H b)->tn i s.heap->J.stop i H ->
  wpAny (model P w) X.A (pyNext (.ref it)) (fun r s1=>r=none/\Inv X pins σ H s1) E s
 self:∀(A:Around) (i:Nat) (s:Shared) (Q:Value->Shared->Prop) (E:Value->Shared->Prop),tn i s.heap->Q (.ref it) s->wpAny (model P w) A (pyIter (.ref it)) Q E s
abbrev TI:=St->Hp->(It->Hp->Prop)->Prop
def PIE(X:Cx)(pins:List (Addr×Obj))(σ:St)(tg:Expr)(R:It->Hp->Prop)(itv:Value)(s2:Shared):Prop :=
 ∃(it:Addr) (fp:List Addr) (tn:Nat->Heap->Prop) (J:It) (H':Hp),itv=.ref it/\Inv X pins σ H' s2/\qh X.prog X.w X.K tg J fp it tn/\tn 0 s2.heap/\(∀b∈fp,mX X pins H' b)/\R J H'
def PI(X:Cx)(tg iter:Expr)(wi:TI):Prop :=
 ∀(pins:List (Addr×Obj)) (s:Shared) (σ:St) (H:Hp) (R:It->Hp->Prop),Inv X pins σ H s->wi σ H R ->
  wpAny (model X.prog X.w) X.A (eval iter X.env) (fun v s1=>wpAny (model X.prog X.w) X.A (pyIter v) (PIE X pins σ tg R) X.xe s1) X.xe s
theorem sd{M:Model}{A:Around}{E:Value->Shared->Prop}{s:Shared}{tg:Expr}{it:Addr}{u:Value}{o:Obj}{n:String}{vs:Array Value}{Q:Unit->Shared->Prop}(ho:s.heap.get? it=some o)(hc:o.cls=.type n)(hd:o.data=.fields vs)
    (hn:["enumerate","zip","dict_itemiterator","dict_reverseitemiterator","odict_iterator","itertools.zip_longest","itertools.pairwise"].contains n=false) (hQ:Q () s):wpAny M A (letOwnedTupleGo tg (.ref it) u) Q E s:=by
  unfold letOwnedTupleGo
  cases tg <;> first
    | exact wpAny_pure hQ
    | (cases u <;> first
        | exact wpAny_pure hQ
        | (refine wpAny_bind (wpAny_load ho ?_)
           rw [hc,hd];show wpAny M A (if (["enumerate","zip","dict_itemiterator","dict_reverseitemiterator","odict_iterator","itertools.zip_longest","itertools.pairwise"].contains n && vs[0]? == some (rawInt _))=true then _ else _) Q E s;rw [if_neg (by intro h;rw [hn,Bool.false_and] at h;cases h)];exact wpAny_pure hQ))
def Itl(K:PySem.W.Frag)(a:Addr):It :=
 ⟨fun i H=>∃xs x,SqL K H a xs/\xs[i]?=some x,fun i H x H'=>H'=H/\∀xs,SqL K H a xs->xs[i]?=some x,fun i H=>∃xs,SqL K H a xs/\xs.length<=i⟩
def Itt(K:PySem.W.Frag)(a:Addr):It :=
 ⟨fun i H=>∃xs x,SqT K H a xs/\xs[i]?=some x,fun i H x H'=>H'=H/\∀xs,SqT K H a xs->xs[i]?=some x,fun i H=>∃xs,SqT K H a xs/\xs.length<=i⟩
def Itr(lo:Int)(n:Nat):It:=⟨fun i _=>i<n,fun i H x H'=>H'=H/\x=.int (lo+i),fun i _=>n<=i⟩
theorem nR{P:Program}{w:World}{K:PySem.W.Frag}{tg:Expr}(a it:Addr):qh P w K tg (Itl K a) [it] it (fun i h=>h.IsListIter it a i) where
 mem:=by simp
 obj:=fun i h st b hb=>by
  have e:b=it:=by simpa using hb
  subst e;obtain⟨o,e,c,d⟩:=st;exact⟨o,e,fun v z=>by rw [d] at z;cases z⟩
 keep:=fun i h h' st k=>st.at fun o e=>k it (by simp) o e
 item:=by
  intro X hP hw hK hc i pins s σ H E I hf st hg;subst hP hw hK;obtain⟨xs,x,hq,hx⟩:=hg;obtain⟨its,rv,p,hz⟩:=I.list hq;obtain⟨u,hu,ru⟩:=rv.get hx;obtain⟨f0,f1,f2,f3,f4,f5⟩:=hf it (by simp);refine wpAny_pyNext_list_item st p.isList (x:=u) (by simpa using hu) fun h' st' sb=>?_;have I1:Inv X pins σ H { s with heap:=h' }:=I.turned (t':=s.toks) (fun b o hb e=>(sb.2 b hb).trans e) f0 f1 f3 f4 f5;obtain⟨o,e,c,d⟩:=id st'
  exact⟨u,rfl,sd (s:={ s with heap:=h' }) e c d (by decide) ⟨x,H,I1,ru,⟨rfl,fun ys hy=>by rw [I.list_inj hy hq];exact hx⟩,st',fun b hb=>(hf b hb).1⟩⟩
 done:=by
  intro X hP hw hK hc i pins s σ H E I hf st hg;subst hP hw hK;obtain⟨xs,hq,hx⟩:=hg;obtain⟨its,rv,p,hz⟩:=I.list hq;obtain⟨f0,f1,f2,f3,f4,f5⟩:=hf it (by simp);have hl:=rv.length;exact wpAny_pyNext_list_end (I.ok.hd hc) st p.isList (by simp;omega) fun h' eb=>⟨rfl,I.turned (t':=s.toks) (fun b o hb e=>eb b o hb e) f0 f1 f3 f4 f5⟩
 self:=fun _ _ _ _ _ st h=>wpAny_pyIter_listiter st h
theorem mY{P:Program}{w:World}{K:PySem.W.Frag}{tg:Expr}(a it:Addr):qh P w K tg (Itt K a) [it] it (fun i h=>h.IsTupleIter it a i) where
 mem:=by simp
 obj:=fun i h st b hb=>by
  have e:b=it:=by simpa using hb
  subst e;obtain⟨o,e,c,d⟩:=st;exact⟨o,e,fun v z=>by rw [d] at z;cases z⟩
 keep:=fun i h h' st k=>st.at fun o e=>k it (by simp) o e
 item:=by
  intro X hP hw hK hc i pins s σ H E I hf st hg;subst hP hw hK;obtain⟨xs,x,hq,hx⟩:=hg;obtain⟨its,rv,p,hz⟩:=I.tuple hq;obtain⟨u,hu,ru⟩:=rv.get hx;obtain⟨f0,f1,f2,f3,f4,f5⟩:=hf it (by simp);refine wpAny_pyNext_tuple_item st (show s.heap.IsTuple a its.toArray from p) (x:=u) (by simpa using hu) fun h' st' sb=>?_;have I1:Inv X pins σ H { s with heap:=h' }:=I.turned (t':=s.toks) (fun b o hb e=>(sb.2 b hb).trans e) f0 f1 f3 f4 f5
  obtain⟨o,e,c,d⟩:=id st';exact⟨u,rfl,sd (s:={ s with heap:=h' }) e c d (by decide) ⟨x,H,I1,ru,⟨rfl,fun ys hy=>by rw [I.tuple_inj hy hq];exact hx⟩,st',fun b hb=>(hf b hb).1⟩⟩
 done:=by
  intro X hP hw hK hc i pins s σ H E I hf st hg;subst hP hw hK;obtain⟨xs,hq,hx⟩:=hg;obtain⟨its,rv,p,hz⟩:=I.tuple hq;obtain⟨f0,f1,f2,f3,f4,f5⟩:=hf it (by simp);have hl:=rv.length;exact wpAny_pyNext_tuple_end (I.ok.hd hc) st (show s.heap.IsTuple a its.toArray from p) (by simp;omega) fun h' eb=>⟨rfl,I.turned (t':=s.toks) (fun b o hb e=>eb b o hb e) f0 f1 f3 f4 f5⟩
 self:=fun _ _ _ _ _ st h=>wpAny_pyIter_tupleiter st h
theorem mZ{P:Program}{w:World}{K:PySem.W.Frag}{tg:Expr}(it:Addr)(lo:Int)(n:Nat):qh P w K tg (Itr lo n) [it] it (fun i h=>IsRangeIter h it (lo+(i:Nat)*1) ((n:Int) - (i:Nat)) 1) where
 mem:=by simp
 obj:=fun i h st b hb=>by
  have e:b=it:=by simpa using hb
  subst e
  exact⟨_,st,fun v z=>by
   have z':Data.fields _=Data.cell v:=z;cases z'⟩
 keep:=fun i h h' st k=>k it (by simp) _ st
 item:=by
  intro X hP hw hK hc i pins s σ H E I hf st hg;subst hP hw hK;obtain⟨f0,f1,f2,f3,f4,f5⟩:=hf it (by simp);have W:=Walks.range (prog:=X.prog) (w:=X.w) (I.ok.hd hc) it lo 1 n;refine W.item i s _ _ hg st fun v h' tk hv st' kk=>?_;obtain⟨t,rfl⟩:=hv;have I1:Inv X pins σ H { s with heap:=h',toks:=tk }:=I.turned (fun b o hb e=>kk b o (by simpa using hb) e) f0 f1 f3 f4 f5;refine⟨_,rfl,sd (s:={ s with heap:=h',toks:=tk }) (n:="range_iterator") st' rfl rfl (by decide) ⟨.int (lo+i),H,I1,⟨t,?_⟩,⟨rfl,rfl⟩,st',fun b hb=>(hf b hb).1⟩⟩
  rw [mul_one]
 done:=by
  intro X hP hw hK hc i pins s σ H E I hf st hg;subst hP hw hK;obtain⟨f0,f1,f2,f3,f4,f5⟩:=hf it (by simp);exact wpAny_pyNext_range_end (I.ok.hd hc) st (by have:n<=i:=hg;omega) fun h' eb=>⟨rfl,I.turned (t':=s.toks) (fun b o hb e=>eb b o hb e) f0 f1 f3 f4 f5⟩
 self:=fun _ _ _ _ _ st h=>wpAny_pyIter_rangeiter st h
section
variable {X:Cx}{tg:Expr}
theorem l9{pins:List (Addr×Obj)}{σ:St}{H:Hp}{s:Shared}{R:It->Hp->Prop}{E:Value->Shared->Prop}{lo hi:Int}{t u v:Tok}{tk:Nat}(I:Inv X pins σ H s)(h1:-(2^62)<=lo)(h2:lo<2^62)(h3:-(2^62)<=hi)(h4:hi<2^62)
  (q:R (Itr lo (hi - lo).toNat) H):wpAny (model X.prog X.w) X.A (pyIter (.ref s.heap.objs.size)) (PIE X pins σ tg R) E { s with heap:=s.heap.push { cls:=.type "range",data:=.fields #[.int lo t,.int hi u,.int 1 v] },toks:=tk }:=by
 refine wpAny_pyIter_range (IsRange.new ..) (small_one h1 h2 h3 h4) ?_;have I1:Inv X pins σ H { s with heap:=s.heap.push { cls:=.type "range",data:=.fields #[.int lo t,.int hi u,.int 1 v] },toks:=tk }:=I.kept fun b o e=>Heap.get?_push_of_some _ e
 refine⟨(s.heap.push { cls:=.type "range",data:=.fields #[.int lo t,.int hi u,.int 1 v] }).objs.size,[(s.heap.push { cls:=.type "range",data:=.fields #[.int lo t,.int hi u,.int 1 v] }).objs.size],_,_,H,rfl,
  I1.kept (t':=tk) fun b o e=>Heap.get?_push_of_some _ e,mZ _ lo (hi - lo).toNat,?_,fun b hb=>?_,q⟩
 .have e1:lo+((0:Nat):Int)*1=lo:=by simp
  have e2:(((hi - lo).toNat:Nat):Int) - ((0:Nat):Int)=Builtin.Range.rangeSize lo hi 1:=by rw [rangeSize_one];split <;> omega
  show IsRangeIter _ _ (lo+((0:Nat):Int)*1) ((((hi - lo).toNat:Nat):Int) - ((0:Nat):Int)) 1;rw [e1,e2];exact Heap.get?_push_size _ rfl
 .have e:b=(s.heap.push { cls:=.type "range",data:=.fields #[.int lo t,.int hi u,.int 1 v] }).objs.size:=by simpa using hb
  subst e;exact I1.fpOk (le_refl _) (I1.hok.fresh (le_refl _))
def qi(ta:TA):TI:=fun σ H R=>ta σ H fun vs H1=>∃j:Int,vs=[.int j]/\-(2^62)<=j/\j<2^62/\R (Itr 0 j.toNat) H1
def uJ(ta:TA):TI:=fun σ H R=>ta σ H fun vs H1=>∃i j:Int,vs=[.int i,.int j]/\(-(2^62)<=i/\i<2^62/\-(2^62)<=j/\j<2^62)/\R (Itr i (j - i).toNat) H1
theorem cP{a:Expr}{ta:TA}{p pos:Pos}(hg:Gl X "range")(hm:X.mg "range"=none)(ha:PA X [a] ta)(hs:starEach [a] X.env=[(false,eval a X.env)]:=by rfl):PI X tg (.Call (.Name "range" p) [a] [] pos) (qi ta):=by
 intro pins s σ H R I h;refine Call_ (c5 I hg hm boot_range (PyProof.Rows.callWith_type1 (thn (ha pos pins s σ H _ I h) fun us s1 ⟨vs,H1,I1,r1,q1⟩=>?_) hs rfl));obtain⟨j,e,q1,q2,q⟩:=q1;subst e
 cases r1 with
 | cons r rr =>
  cases rr;obtain⟨t,rfl⟩:=r;exact call_range_1 (l9 I1 (by omega) (by omega) q1 q2 (by simpa using q))
theorem gQ{a b:Expr}{ta:TA}{p pos:Pos}(hg:Gl X "range")(hm:X.mg "range"=none)(ha:PA X [a,b] ta)(hs:starEach [a,b] X.env=[(false,eval a X.env),(false,eval b X.env)]:=by rfl)(hs2:starEach [b] X.env=[(false,eval b X.env)]:=by rfl) :
  PI X tg (.Call (.Name "range" p) [a,b] [] pos) (uJ ta):=by
 intro pins s σ H R I h;refine Call_ (c5 I hg hm boot_range (PyProof.Rows.callWith_type1 (thn (ha pos pins s σ H _ I h) fun us s1 ⟨vs,H1,I1,r1,q1⟩=>?_) (by rw [hs,hs2]) (by rw [hs2];rfl)));obtain⟨i,j,e,⟨q1,q2,q3,q4⟩,q⟩:=q1;subst e
 cases r1 with
 | cons r rr =>
  cases rr with
  | cons r' rr =>
   cases rr;obtain⟨t,rfl⟩:=r;obtain⟨t',rfl⟩:=r';exact call_range_2 (l9 I1 q1 q2 q3 q4 q)
def xT(wi:TI)(g:TG)(tb:TS):TS:=fun D σ H=>wi σ H fun J H1=>∃W:Nat->Nat->St->Hp->Prop,(∃m,W 0 m σ H1)/\∀i m σ H,W i m σ H ->
 (J.stop i H/\D.nx σ H)\/(J.go i H/\∃N:St->Hp->Prop,(∀σ' H',N σ' H'->∃m',m'<m/\W (i+1) m' σ' H')/\∀x H',J.yld i H x H'->g x σ H' fun σ2 H2=>tb { D with nx:=N,ct:=N,bk:=D.nx } σ2 H2)
def jX(fp:List Addr)(h:Heap):List (Addr×Obj):=fp.filterMap fun b=>(h.get? b).map fun o=>(b,o)
theorem eN{fp:List Addr}{h:Heap}{b:Addr}{o:Obj}(hb:b∈fp)(e:h.get? b=some o):(b,o)∈jX fp h:=mem_filterMap.mpr ⟨b,hb,by rw [e];rfl⟩
theorem nS{fp:List Addr}{h:Heap}{p:Addr×Obj}(hp:p∈jX fp h):p.1∈fp/\h.get? p.1=some p.2:=by
 obtain⟨b,hb,e⟩:=mem_filterMap.mp hp
 cases q:h.get? b with
 | none=>rw [q] at e;cases e
 | some o =>
  rw [q] at e;have e':(b,o)=p:=Option.some.inj e;subst e';exact⟨hb,q⟩
theorem Inv.pinned{pins:List (Addr×Obj)}{σ:St}{H:Hp}{s:Shared}{fp:List Addr}(I:Inv X pins σ H s)(hf:∀b∈fp,mX X pins H b)(ho:∀b∈fp,∃o,s.heap.get? b=some o/\∀v,o.data≠.cell v):Inv X (pins++jX fp s.heap) σ H s :=
 I.pins_of fun p hp=>(mem_append.mp hp).elim (fun z=>I.pin p (mem_append_right _ z)) fun z=>by
  obtain⟨hb,e⟩:=nS z;obtain⟨f0,f1,f2,_⟩:=hf p.1 hb;obtain⟨o,e',d⟩:=ho p.1 hb;rw [e] at e';cases e';exact⟨e,f0,f1,f2,d⟩
theorem Inv.unpinned{pins pl:List (Addr×Obj)}{σ:St}{H:Hp}{s:Shared}(I:Inv X (pins++pl) σ H s):Inv X pins σ H s:=I.pins_of fun p hp=>I.pin p (mem_append_right _ (mem_append_left _ hp))
theorem c6{iter:Expr}{body:List Stmt}{wi:TI}{g:TG}{tb:TS}{pos:Pos}(hp:PassesOwn (model X.prog X.w) X.A X.env X.xe)(hc:X.calm=true)(hi:PI X tg iter wi)(hg:PG X tg g)(hb:PSs X body tb)
  (hs:∀x,foldedSetIterable iter X.env x=pure x:=by intro _;rfl):PS X (.For tg iter body [] pos) (xT wi g tb):=by
 intro pins s σ H D I h;refine wpAny_For (thn (hi pins s σ H _ I h) fun v s1 h1=>thn h1 fun itv s2 h2=>?_) hs;obtain⟨it,fp,tn,J,H2,e,I2,T,st2,f2,W,⟨m0,w0⟩,turn⟩:=h2;subst e
 -- what stays true of the iterator's objects through the loop
 have stat:∀{H':Hp},(∀b∈fp,H' b=none)->∀b∈fp,mX X pins H' b:=fun hn b hb=>⟨hn b hb,(f2 b hb).2⟩
 refine codeAny_forLoop_any (fun n s'=>∃i σ' H',Inv X pins σ' H' s'/\tn i s'.heap/\(∀b∈fp,H' b=none)/\W i n σ' H') ?_ m0 ⟨0,σ,H2,I2,st2,fun b hb=>(f2 b hb).1,w0⟩;rintro n s3 ⟨i,σ3,H3,I3,st3,fr3,w3⟩
 rcases turn i n σ3 H3 w3 with ⟨stop,qn⟩|⟨go,N,hN,step⟩
 .refine wpAny_passesOwn hp (thn (T.done X rfl rfl rfl hc i pins s3 σ3 H3 X.xe I3 (stat fr3) st3 stop) fun r s4 ⟨hr,I4⟩=>?_);subst hr;exact wpAny_execs_nil ⟨σ3,H3,I4,qn⟩
 .refine wpAny_passesOwn hp (thn (T.item X rfl rfl rfl hc i pins s3 σ3 H3 X.xe I3 (stat fr3) st3 go) fun r s4 ⟨u,hr,h4⟩=>?_);subst hr;refine wpAny_passesOwn hp (thn h4 fun _ s5 ⟨x,H5,I5,r5,y5,st5,fr5⟩=>?_);have I5':=I5.pinned (stat fr5) (T.obj _ _ st5);refine wpAny_passesOwn hp (thn (hg _ s5 σ3 H5 x u _ I5' r5 (step x H5 y5)) fun _ s6 ⟨σ6,H6,I6,q6⟩=>?_);refine wpAny_passesOwn hp (thn (hb _ s6 σ6 H6 _ I6 q6) fun f s7 q7=>?_)
  have again:∀{σ7:St}{H7:Hp},Inv X (pins++jX fp s5.heap) σ7 H7 s7->N σ7 H7->∃m,m<n/\∃i σ' H',Inv X pins σ' H' s7/\tn i s7.heap/\(∀b∈fp,H' b=none)/\W i m σ' H':=fun {σ7 H7} I7 n7=>by
   obtain⟨m',hm,w7⟩:=hN σ7 H7 n7;refine⟨m',hm,i+1,σ7,H7,I7.unpinned,T.keep _ _ _ st5 fun b hb o e=>(I7.pin (b,o) (mem_append_right _ (mem_append_right _ (eN hb e)))).1,fun b hb=>?_,w7⟩;obtain⟨o,e,d⟩:=T.obj _ _ st5 b hb;exact (I7.pin (b,o) (mem_append_right _ (mem_append_right _ (eN hb e)))).2.1
  cases f with
  | next=>obtain⟨σ7,H7,I7,n7⟩:=q7;exact again I7 n7
  | cont=>obtain⟨σ7,H7,I7,n7⟩:=q7;exact again I7 n7
  | brk=>obtain⟨σ7,H7,I7,q7⟩:=q7;exact⟨σ7,H7,I7.unpinned,q7⟩
  | ret v=>obtain⟨x7,σ7,H7,I7,r7,q7⟩:=q7;exact⟨x7,σ7,H7,I7.unpinned,r7,q7⟩
end
abbrev R2:=V->V->Hp->VK->Prop
def OpR(X:Cx)(f:Value->Value->Sem Value)(r:R2):Prop :=
 ∀(pins:List (Addr×Obj)) (s:Shared) (σ:St) (H:Hp) (x y:V) (v u:Value) (Q:VK),Inv X pins σ H s->cZ x v->cZ y u->r x y H Q ->
  wpAny (model X.prog X.w) X.A (f v u) (EP X pins σ Q) X.xe s
def UnR(X:Cx)(f:Value->Sem Value)(r:V->Hp->VK->Prop):Prop :=
 ∀(pins:List (Addr×Obj)) (s:Shared) (σ:St) (H:Hp) (x:V) (v:Value) (Q:VK),Inv X pins σ H s->cZ x v->r x H Q ->
  wpAny (model X.prog X.w) X.A (f v) (EP X pins σ Q) X.xe s
def cw(X:Cx)(f:Value)(r:List V->Hp->VK->Prop):Prop :=
 ∀(pins:List (Addr×Obj)) (s:Shared) (σ:St) (H:Hp) (xs:List V) (us:List Value) (Q:VK),Inv X pins σ H s->bP xs us->r xs H Q ->
  wpAny (model X.prog X.w) X.A (call f us) (EP X pins σ Q) X.xe s
def tOp(r:R2)(ta tb:TE):TE:=fun σ H Q=>ta σ H fun x H1=>tb σ H1 fun y H2=>r x y H2 Q
def tUn(r:V->Hp->VK->Prop)(ta:TE):TE:=fun σ H Q=>ta σ H fun x H1=>r x H1 Q
def rI(C:Int->Int->Prop)(g:Int->Int->V):R2:=fun x y H Q=>∃i j,x=.int i/\y=.int j/\C i j/\Q (g i j) H
def rI0(g:Int->Int->V):R2:=fun x y H Q=>∃i j,x=.int i/\y=.int j/\Q (g i j) H
def rU(g:Int->V):V->Hp->VK->Prop:=fun x H Q=>∃i,x=.int i/\Q (g i) H
section
variable {X:Cx}{a b c:Expr}{ta tb tc:TE}{pos:Pos}
theorem wG(ha:PE X a ta)(hb:PE X b tb){pins:List (Addr×Obj)}{s:Shared}{σ:St}{H:Hp}{R:V->V->Hp->Prop}(I:Inv X pins σ H s)
  (h:ta σ H fun x H1=>tb σ H1 fun y H2=>R x y H2) {Q:Value->Shared->Prop}{f:Value->Value->Sem Value}
  (hf:∀v u s2 x y H2,Inv X pins σ H2 s2->cZ x v->cZ y u->R x y H2->wpAny (model X.prog X.w) X.A (f v u) Q X.xe s2) :
  wpAny (model X.prog X.w) X.A (eval a X.env) (fun v s₁=>wpAny (model X.prog X.w) X.A (eval b X.env) (fun u s₂=>wpAny (model X.prog X.w) X.A (f v u) Q X.xe s₂) X.xe s₁) X.xe s:=by
 refine thn (ha pins s σ H _ I h) fun v s1 ⟨x,H1,I1,r1,q1⟩=>?_;refine thn (hb pins s1 σ H1 _ I1 q1) fun u s2 ⟨y,H2,I2,r2,q2⟩=>?_;exact hf v u s2 x y H2 I2 r1 r2 q2
theorem aC{op:Operator}{r:R2}(ho:OpR X (binaryOp op) r)(ha:PE X a ta)(hb:PE X b tb):PE X (.BinOp a op b pos) (tOp r ta tb):=by
 intro pins s σ H Q I h;exact wpAny_BinOp (wG ha hb I h fun v u s2 x y H2 I2 rx ry q=>ho pins s2 σ H2 x y v u Q I2 rx ry q)
theorem lg{op:UnaryOp}{r:V->Hp->VK->Prop}(ho:UnR X (unaryOp op) r)(ha:PE X a ta):PE X (.UnaryOp op a pos) (tUn r ta):=by
 intro pins s σ H Q I h;exact UnaryOp_ (thn (ha pins s σ H _ I h) fun v s1 ⟨x,H1,I1,r1,q1⟩=>ho pins s1 σ H1 x v Q I1 r1 q1)
theorem opI{f:Value->Value->Sem Value}{C:Int->Int->Prop}{g:Int->Int->Int}
  (rule:∀(i j:Int) (t u:Tok) (s:Shared) (Q:Value->Shared->Prop) (E:Value->Shared->Prop),C i j->Q (.int (g i j) s.toks) { s with toks:=s.toks+1 }->wpAny (model X.prog X.w) X.A (f (.int i t) (.int j u)) Q E s) :
  OpR X f (rI C fun i j=>.int (g i j)):=by
 intro pins s σ H x y v u Q I rx ry h;obtain⟨i,j,rfl,rfl,hc,q⟩:=h;obtain⟨t,rfl⟩:=rx;obtain⟨t',rfl⟩:=ry;exact rule i j t t' s _ _ hc ⟨.int (g i j),H,I.tok _,⟨_,rfl⟩,q⟩
theorem xU{f:Value->Value->Sem Value}{g:Int->Int->Int}
  (rule:∀(i j:Int) (t u:Tok) (s:Shared) (Q:Value->Shared->Prop) (E:Value->Shared->Prop),Q (.int (g i j) s.toks) { s with toks:=s.toks+1 }->wpAny (model X.prog X.w) X.A (f (.int i t) (.int j u)) Q E s) :
  OpR X f (rI0 fun i j=>.int (g i j)):=by
 intro pins s σ H x y v u Q I rx ry h;obtain⟨i,j,rfl,rfl,q⟩:=h;obtain⟨t,rfl⟩:=rx;obtain⟨t',rfl⟩:=ry;exact rule i j t t' s _ _ ⟨.int (g i j),H,I.tok _,⟨_,rfl⟩,q⟩
theorem ue{f:Value->Value->Sem Value}{g:Int->Int->Bool}
  (rule:∀(i j:Int) (t u:Tok) (s:Shared) (Q:Value->Shared->Prop) (E:Value->Shared->Prop),Q (.bool (g i j)) s->wpAny (model X.prog X.w) X.A (f (.int i t) (.int j u)) Q E s) :
  OpR X f (rI0 fun i j=>.bl (g i j)):=by
 intro pins s σ H x y v u Q I rx ry h;obtain⟨i,j,rfl,rfl,q⟩:=h;obtain⟨t,rfl⟩:=rx;obtain⟨t',rfl⟩:=ry;exact rule i j t t' s _ _ ⟨.bl (g i j),H,I,rfl,q⟩
def wH(i j:Int):Prop:=0<j/\j<1073741824
def wI(i j:Int):Prop:=0<=j/\j<=1000000/\i.natAbs<2^64
def ww(i j:Int):Prop:=(-(2^64)<i/\i<2^64)\/(-(2^64)<j/\j<2^64)
theorem ww.ok{i j:Int}(h:ww i j):IntMulOk i j:=by
 rcases h with ⟨h1,h2⟩|⟨h1,h2⟩
 .exact .of_left (intBits_le_64 h1 h2)
 .exact .of_right (intBits_le_64 h1 h2)
theorem uK:OpR X (binaryOp .Add) (rI0 fun i j=>.int (i+j)):=xU fun _ _ _ _ _ _ _ q=>add_int q
theorem uM:OpR X (binaryOp .Sub) (rI0 fun i j=>.int (i - j)):=xU fun _ _ _ _ _ _ _ q=>sub_int q
theorem uN:OpR X (binaryOp .Mult) (rI ww fun i j=>.int (i*j)):=opI fun _ _ _ _ _ _ _ hc q=>mul_int q hc.ok
theorem sj:OpR X (binaryOp .FloorDiv) (rI wH fun i j=>.int (i / j)):=opI fun i j _ _ _ _ _ hc q=>by
 have h1:(0:Int)<j:=hc.1;have h2:j<1073741824:=hc.2;exact floordiv_int (by omega) (by rw [fdiv_eq_ediv_of_nonneg i (by omega)];exact q) (.inl (PyProof.noPylong_small (by omega)))
theorem uO:OpR X (binaryOp .Mod) (rI (fun _ j=>0<j) fun i j=>.int (i % j)):=opI fun i j _ _ _ _ _ hc q=>by
 have h1:(0:Int)<j:=hc;exact mod_int' (by omega) (by rw [fmod_eq_emod_of_nonneg i (by omega)];exact q)
theorem uP:OpR X (binaryOp .Pow) (rI wI fun i j=>.int (i^j.toNat)):=opI fun _ _ _ _ _ _ _ hc q=>pow_int_small hc.1 hc.2.1 hc.2.2 q
theorem unI{f:Value->Sem Value}{g:Int->Int}
  (rule:∀(i:Int) (t:Tok) (s:Shared) (Q:Value->Shared->Prop) (E:Value->Shared->Prop),Q (.int (g i) s.toks) { s with toks:=s.toks+1 }->wpAny (model X.prog X.w) X.A (f (.int i t)) Q E s) :
  UnR X f (rU fun i=>.int (g i)):=by
 intro pins s σ H x v Q I rx h;obtain⟨i,rfl,q⟩:=h;obtain⟨t,rfl⟩:=rx;exact rule i t s _ _ ⟨.int (g i),H,I.tok _,⟨_,rfl⟩,q⟩
theorem gR:UnR X (unaryOp .USub) (rU fun i=>.int (-i)):=unI fun _ _ _ _ _ q=>neg_int q
end
def xV:V->V->Bool
 | .non,.non=>true|.non,.int _=>true|.int _,.non=>true|.non,.bl _=>true|.bl _,.non=>true|.non,.str _=>true|.str _,.non=>true
 | .int _,.int _=>true|.bl _,.bl _=>true|.str _,.str _=>true|.byt _,.byt _=>true
 | .int _,.str _=>true|.str _,.int _=>true|.bl _,.str _=>true|.str _,.bl _=>true
 | _,_=>false
def rEq:R2:=fun x y H Q=>xV x y=true/\Q (.bl (decide (x=y))) H
def rNe:R2:=fun x y H Q=>xV x y=true/\Q (.bl (!decide (x=y))) H
theorem nW{i j:Int}:decide (V.int i=V.int j)=(i == j):=by
 rw [Bool.eq_iff_iff];simp
theorem rn{i j:Bool}:decide (V.bl i=V.bl j)=(i == j):=by
 rw [Bool.eq_iff_iff];simp
theorem nX{i j:Str}:decide (V.str i=V.str j)=(i == j):=by
 rw [Bool.eq_iff_iff];simp
theorem nY{i j:Array UInt8}:decide (V.byt i=V.byt j)=(i.toList == j.toList):=by
 rw [Bool.eq_iff_iff];cases i;cases j;simp
section
variable {X:Cx}{a b c:Expr}{ta tb tc:TE}{pos:Pos}
theorem bq{pins:List (Addr×Obj)}{σ:St}{H:Hp}{s:Shared}{Q:VK}{k k':Bool}(I:Inv X pins σ H s)(q:Q (.bl k) H)(e:k=k'):EP X pins σ Q (.bool k') s:=by
 subst e;exact⟨.bl k,H,I,rfl,q⟩
theorem wJ:OpR X (compareOp .Eq) rEq:=by
 intro pins s σ H x y v u Q I rx ry h;obtain⟨hs,q⟩:=h
 cases x with
 | non =>
  cases rx
  cases y with
  | non=>cases ry;exact PySem.EqNone.eq_none_none (bq I q (by simp))
  | bl j=>cases ry;exact PySem.EqNone.eq_none_bool (bq I q (by simp))
  | int j=>obtain⟨t',rfl⟩:=ry;exact PySem.EqNone.eq_none_int (bq I q (by simp))
  | str j=>obtain⟨t',rfl⟩:=ry;exact PySem.EqNone.eq_none_str (bq I q (by simp))
  | _=>exact absurd (show false=true from hs) Bool.false_ne_true
 | bl i =>
  cases rx
  cases y with
  | non=>cases ry;exact PySem.EqNone.eq_bool_none (bq I q (by simp))
  | bl j=>cases ry;exact eq_bool (bq I q rn)
  | str j=>obtain⟨t',rfl⟩:=ry;exact PySem.EqMixed.eq_bool_str (bq I q (by simp))
  | _=>exact absurd (show false=true from hs) Bool.false_ne_true
 | int i =>
  obtain⟨t,rfl⟩:=rx
  cases y with
  | non=>cases ry;exact PySem.EqNone.eq_int_none (bq I q (by simp))
  | int j=>obtain⟨t',rfl⟩:=ry;exact eq_int (bq I q nW)
  | str j=>obtain⟨t',rfl⟩:=ry;exact PySem.EqMixed.eq_int_str (bq I q (by simp))
  | _=>exact absurd (show false=true from hs) Bool.false_ne_true
 | str i =>
  obtain⟨t,rfl⟩:=rx
  cases y with
  | non=>cases ry;exact PySem.EqNone.eq_str_none (bq I q (by simp))
  | bl j=>cases ry;exact PySem.EqMixed.eq_str_bool (bq I q (by simp))
  | int j=>obtain⟨t',rfl⟩:=ry;exact PySem.EqMixed.eq_str_int (bq I q (by simp))
  | str j=>obtain⟨t',rfl⟩:=ry;exact eq_str (bq I q nX)
  | _=>exact absurd (show false=true from hs) Bool.false_ne_true
 | byt i =>
  obtain⟨t,rfl⟩:=rx
  cases y with
  | byt j=>obtain⟨t',rfl⟩:=ry;exact PySem.W.eq_bytes (bq I q nY)
  | _=>exact absurd (show false=true from hs) Bool.false_ne_true
 | _=>cases y <;> exact absurd (show false=true from hs) Bool.false_ne_true
theorem wK:OpR X (compareOp .NotEq) rNe:=by
 intro pins s σ H x y v u Q I rx ry h;obtain⟨hs,q⟩:=h
 cases x with
 | non =>
  cases rx
  cases y with
  | non=>cases ry;exact PySem.EqNone.ne_none_none (bq I q (by simp))
  | bl j=>cases ry;exact PySem.EqNone.ne_none_bool (bq I q (by simp))
  | int j=>obtain⟨t',rfl⟩:=ry;exact PySem.EqNone.ne_none_int (bq I q (by simp))
  | str j=>obtain⟨t',rfl⟩:=ry;exact PySem.EqNone.ne_none_str (bq I q (by simp))
  | _=>exact absurd (show false=true from hs) Bool.false_ne_true
 | bl i =>
  cases rx
  cases y with
  | non=>cases ry;exact PySem.EqNone.ne_bool_none (bq I q (by simp))
  | bl j=>cases ry;exact ne_bool (bq I q (congrArg not rn))
  | str j=>obtain⟨t',rfl⟩:=ry;exact PySem.EqMixed.ne_bool_str (bq I q (by simp))
  | _=>exact absurd (show false=true from hs) Bool.false_ne_true
 | int i =>
  obtain⟨t,rfl⟩:=rx
  cases y with
  | non=>cases ry;exact PySem.EqNone.ne_int_none (bq I q (by simp))
  | int j=>obtain⟨t',rfl⟩:=ry;exact ne_int (bq I q (congrArg not nW))
  | str j=>obtain⟨t',rfl⟩:=ry;exact PySem.EqMixed.ne_int_str (bq I q (by simp))
  | _=>exact absurd (show false=true from hs) Bool.false_ne_true
 | str i =>
  obtain⟨t,rfl⟩:=rx
  cases y with
  | non=>cases ry;exact PySem.EqNone.ne_str_none (bq I q (by simp))
  | bl j=>cases ry;exact PySem.EqMixed.ne_str_bool (bq I q (by simp))
  | int j=>obtain⟨t',rfl⟩:=ry;exact PySem.EqMixed.ne_str_int (bq I q (by simp))
  | str j=>obtain⟨t',rfl⟩:=ry;exact ne_str (bq I q (congrArg not nX))
  | _=>exact absurd (show false=true from hs) Bool.false_ne_true
 | byt i =>
  obtain⟨t,rfl⟩:=rx
  cases y with
  | byt j=>obtain⟨t',rfl⟩:=ry;exact PySem.W.ne_bytes (bq I q (congrArg not nY))
  | _=>exact absurd (show false=true from hs) Bool.false_ne_true
 | _=>cases y <;> exact absurd (show false=true from hs) Bool.false_ne_true
theorem wL:OpR X (compareOp .Lt) (rI0 fun i j=>.bl (decide (i<j))):=ue fun _ _ _ _ _ _ _ q=>lt_int q
theorem wM:OpR X (compareOp .LtE) (rI0 fun i j=>.bl (decide (i<=j))):=ue fun _ _ _ _ _ _ _ q=>le_int q
theorem wN:OpR X (compareOp .Gt) (rI0 fun i j=>.bl (decide (j<i))):=ue fun _ _ _ _ _ _ _ q=>gt_int q
theorem wO:OpR X (compareOp .GtE) (rI0 fun i j=>.bl (decide (j<=i))):=ue fun _ _ _ _ _ _ _ q=>ge_int q
theorem nZ:OpR X (compareOp .Lt) (fun x y H Q=>∃i j,x=.str i/\y=.str j/\Q (.bl (decide (i.cps.toList<j.cps.toList))) H):=by
 intro pins s σ H x y v u Q I rx ry h;obtain⟨i,j,rfl,rfl,q⟩:=h;obtain⟨t,rfl⟩:=rx;obtain⟨t',rfl⟩:=ry;exact lt_str (bq I q rfl)
theorem OpR.or{f:Value->Value->Sem Value}{r r':R2}(h:OpR X f r)(h':OpR X f r'):OpR X f (fun x y H Q=>r x y H Q\/r' x y H Q):=by
 intro pins s σ H x y v u Q I rx ry q
 rcases q with q|q
 .exact h pins s σ H x y v u Q I rx ry q
 .exact h' pins s σ H x y v u Q I rx ry q
theorem aR(b:Expr){op:CmpOp}(h:op≠.In:=by decide)(h2:op≠.NotIn:=by decide):behindInMarks op b=false:=by
 have e1:(op == CmpOp.In)=false:=by cases op <;> first|rfl|exact absurd rfl h
 have e2:(op == CmpOp.NotIn)=false:=by cases op <;> first|rfl|exact absurd rfl h2
 cases b <;> simp [behindInMarks,e1,e2]
theorem jb{op:CmpOp}{r:R2}(ho:OpR X (compareOp op) r)(ha:PE X a ta)(hb:PE X b tb)(hm:behindInMarks op b=false):PE X (.Compare a [op] [b] pos) (tOp r ta tb):=by
 intro pins s σ H Q I h;exact wpAny_Compare1 (wG ha hb I h fun v u s2 x y H2 I2 rx ry q=>ho pins s2 σ H2 x y v u Q I2 rx ry q) hm
def m5(t:TE):TT:=fun σ H Q=>t σ H fun x H'=>∃k,x=.bl k/\Q k H'
theorem aF{op:CmpOp}{r:R2}(ho:OpR X (compareOp op) r)(ha:PE X a ta)(hb:PE X b tb)(hm:behindInMarks op b=false):PT X (.Compare a [op] [b] pos) (m5 (tOp r ta tb)):=by
 intro pins s σ H Q I h
 refine wpAny_isTrue_Compare1 (thn (ha pins s σ H _ I h) fun v s1 ⟨x,H1,I1,r1,q1⟩=>thn (hb pins s1 σ H1 _ I1 q1) fun u s2 ⟨y,H2,I2,r2,q2⟩ =>
  thn (ho pins s2 σ H2 x y v u _ I2 r1 r2 q2) fun c s3 ⟨z,H3,I3,r3,k,e,q3⟩=>?_) hm
 subst e;cases r3;exact wpAny_truthy_bool ⟨H3,I3,q3⟩
def ma(r r':R2)(ta tb tc:TE):TE:=fun σ H Q=>ta σ H fun x H1=>tb σ H1 fun y H2=>r x y H2 fun z H3=>∃k,z=.bl k /\
 (if k=true then tc σ H3 fun w' H4=>r' y w' H4 Q else Q (.bl false) H3)
theorem qj{op op':CmpOp}{r r':R2}(ho:OpR X (compareOp op) r)(ho':OpR X (compareOp op') r')(ha:PE X a ta)(hb:PE X b tb)(hc:PE X c tc)
  (hm:lastMarks [op,op'] [b,c]=false:=by with_unfolding_all rfl):PE X (.Compare a [op,op'] [b,c] pos) (ma r r' ta tb tc):=by
 intro pins s σ H Q I h
 refine Compare_chain (thn (ha pins s σ H _ I h) fun v s1 ⟨x,H1,I1,r1,q1⟩=>chain_link (thn (hb pins s1 σ H1 _ I1 q1) fun u s2 ⟨y,H2,I2,r2,q2⟩ =>
  thn (ho pins s2 σ H2 x y v u _ I2 r1 r2 q2) fun d s3 ⟨z,H3,I3,r3,k,e,q3⟩=>?_)) hm
 subst e;cases r3;refine wpAny_truthy_bool ?_
 cases k with
 | false=>exact ite_ff ⟨.bl false,H3,I3,rfl,q3⟩
 | true=>exact ite_tt (chain_last (thn (hc pins s3 σ H3 _ I3 q3) fun w' s4 ⟨z',H4,I4,r4,q4⟩=>ho' pins s4 σ H4 y z' u w' Q I4 r2 r4 q4))
theorem qk{op op':CmpOp}{r r':R2}(ho:OpR X (compareOp op) r)(ho':OpR X (compareOp op') r')(ha:PE X a ta)(hb:PE X b tb)(hc:PE X c tc)
  (hm:lastMarks [op,op'] [b,c]=false:=by with_unfolding_all rfl):PT X (.Compare a [op,op'] [b,c] pos) (m5 (ma r r' ta tb tc)):=by
 intro pins s σ H Q I h
 refine isTrue_chain (thn (ha pins s σ H _ I h) fun v s1 ⟨x,H1,I1,r1,q1⟩=>test_link (thn (hb pins s1 σ H1 _ I1 q1) fun u s2 ⟨y,H2,I2,r2,q2⟩ =>
  thn (ho pins s2 σ H2 x y v u _ I2 r1 r2 q2) fun d s3 ⟨z,H3,I3,r3,k,e,q3⟩=>?_)) hm
 subst e;cases r3;refine wpAny_truthy_bool ?_
 cases k with
 | false =>
  obtain⟨k',e',q'⟩:=q3;cases e';exact ite_ff ⟨H3,I3,q'⟩
 | true =>
  refine ite_tt (test_last (thn (hc pins s3 σ H3 _ I3 q3) fun w' s4 ⟨z',H4,I4,r4,q4⟩=>thn (ho' pins s4 σ H4 y z' u w' _ I4 r2 r4 q4) fun d' s5 ⟨z2,H5,I5,r5,k2,e2,q5⟩=>?_));subst e2;cases r5;exact wpAny_truthy_bool ⟨H5,I5,q5⟩
theorem jY:(sizeLine:Nat)<2^63:=by rw [sizeLine_eq];decide
theorem m7:OpR X (binaryOp .Add) (fun x y H Q=>∃i j,x=.str i/\y=.str j/\i.length+j.length<=sizeLine/\Q (.str (i++j)) H):=by
 intro pins s σ H x y v u Q I rx ry h;obtain⟨i,j,rfl,rfl,hz,q⟩:=h;obtain⟨t,rfl⟩:=rx;obtain⟨t',rfl⟩:=ry;exact add_str (fun t' tk=>⟨.str (i++j),H,I.tok _,⟨_,rfl⟩,q⟩) hz
theorem lh{x:V}{us:List Value}(r:bP [x] us):∃u,us=[u]/\cZ x u:=by
 cases r with
 | cons r1 r2=>cases r2;exact⟨_,rfl,r1⟩
theorem uQ{x y:V}{us:List Value}(r:bP [x,y] us):∃u w',us=[u,w']/\cZ x u/\cZ y w':=by
 cases r with
 | cons r1 r2 =>
  cases r2 with
  | cons r3 r4=>cases r4;exact⟨_,_,rfl,r1,r3⟩
theorem n0(hc:X.calm=true):cw X (.builtin "min") (fun xs H Q=>∃i j,xs=[.int i,.int j]/\Q (.int (if j<i then j else i)) H):=by
 intro pins s σ H xs us Q I r h;obtain⟨i,j,rfl,q⟩:=h;obtain⟨u,w',rfl,⟨t,rfl⟩,⟨t',rfl⟩⟩:=uQ r;refine min_two_ints (I.ok.hd hc) fun h' tk k=>⟨_,H,I.kept k,?_,q⟩
 by_cases hj:j<i
 .rw [if_pos hj,if_pos hj];exact⟨_,rfl⟩
 .rw [if_neg hj,if_neg hj];exact⟨_,rfl⟩
end
structure wP (h:Heap) (x dx C:Addr) (mA:Str->Option Value):Prop where
 obj:h.get? x=some (PySem.W.instObj C dx)
 ns:h.Ns1 dx mA
 ne:dx≠x
theorem n5{h:Heap}{dx:Addr}{mA:Str->Option Value}(n:h.Ns1 dx mA):∃od,h.get? dx=some od/\∀name,PySem.W.lookIn name od=some (mA name):=by
 obtain⟨o,es,ep,ho,hd,hk,_,hm⟩:=n;refine⟨o,ho,fun name=>?_⟩;have e:=hm name;unfold nsFind findBy at e;rw [<- Array.find?_toList] at e;unfold PySem.W.lookIn;rw [hd];dsimp only
 split
 .rename_i y q;rw [q] at e;exact congrArg some e
 .rename_i q;rw [q] at e
  have a:es.toList.any (·.refKey)=false:=by
   rw [any_eq_false];intro y hy;obtain⟨z,t,hkey⟩:=hk y (Array.mem_toList_iff.mp hy);simp [DictEntry.refKey,hkey]
  have a':¬ es.toList.any (·.refKey)=true:=by rw [a];exact Bool.false_ne_true
  rw [if_neg a'];exact congrArg some e
theorem wP.look{h:Heap}{x dx C:Addr}{mA:Str->Option Value}(I:wP h x dx C mA):∃od,PySem.W.InstAt h x (PySem.W.instObj C dx) C (some od)/\∀name,PySem.W.lookIn name od=some (mA name) :=
 let ⟨od,ho,hl⟩:=n5 I.ns
 ⟨od,⟨I.obj,rfl,rfl,ho⟩,hl⟩
section
variable {P:Program}{w:World}{H H':Hp}{h h':Heap}{a C dx:Addr}{fs fs':List (Str×V)}
theorem sk(hok:HOk P w H h)(e:H a=some (.ins C dx fs)):∃mA,wP h a dx C mA/\(∀f,wE (fs.lookup f) (mA f))/\PySem.Within mA (fs.map (·.1))/\fs.length<=1000/\H dx=some (.own a):=by
 obtain⟨d,z,ne,ob,mA,n,r,q⟩:=(show cv P w H h a (.ins C dx fs) from hok a _ e)
 exact⟨mA,⟨ob,n,ne⟩,r,q,z,d⟩
end
structure Cls (K:PySem.W.Frag) (C:Addr):Prop where
 pg:PySem.W.plainGet K C Str.empty=true
 hd:PySem.W.hasDictIn K C=true
 po:PySem.W.plainOver K C=true
 sa:PySem.W.findIn K (.ref C) "__setattr__"=some (some (.builtin "object.__setattr__"))
theorem Cls.get{K:PySem.W.Frag}{C:Addr}(c:Cls K C)(f:Str):PySem.W.plainGet K C f=true:=c.pg
section
variable {X:Cx}{pins:List (Addr×Obj)}{σ:St}{H:Hp}{s:Shared}{A:Around}{E:Value->Shared->Prop}{Q:Value->Shared->Prop}{c:Value}{b:Bool}
inductive li (K:PySem.W.Frag) (H:Hp):V->Value->Prop where
 | non:li K H .non (.type "NoneType")
 | bl (x:Bool):li K H (.bl x) (.type "bool")
 | int (i:Int):li K H (.int i) (.type "int")
 | str (x:Str):li K H (.str x) (.type "str")
 | flt (x:UInt64):li K H (.flt x) (.type "float")
 | lst {a:Addr}{xs:List V} (e:H a=some (.lst xs)):li K H (.ref a) (.type "list")
 | frz {a:Addr}{o:Obj}{xs:List V} (e:H a=some (.frz o (.lst xs))):li K H (.ref a) (.type "list")
 | tup {a:Addr}{xs:List V} (e:H a=some (.tup xs)):li K H (.ref a) (.type "tuple")
 | dK {a:Addr}{kvs:List (Key×V)} (e:H a=some (.dK kvs)):li K H (.ref a) (.type "dict")
 | dT {a:Addr}{kvs:List (List Key×V)} (e:H a=some (.dT kvs)):li K H (.ref a) (.type "dict")
 | ins {a C dx:Addr}{fs:List (Str×V)} (e:H a=some (.ins C dx fs)) (cl:Cls K C) (ha:PySem.W.findIn K (.ref C) "__class__"=some (some (.builtin "object.__class__")))
   (hn:PySem.W.specialIn K (.builtin "object.__class__") "__get__"=some (some (.builtin "getset_descriptor.__get__"))) (htk:PySem.W.takesIn K (.builtin "object.__class__")=some true)
   (hm:PySem.W.mroIn K C (.type "object")=some true):li K H (.ref a) (.ref C)
theorem n6{x:V}{u t:Value}(I:Inv X pins σ H s)(rx:cZ x u)(ty:li X.K H x t)(e:PySem.W.kitOne X.K t c=some b)(h:∀tk,Q (.bool b) { s with toks:=tk }) :
  wpAny (model X.prog X.w) A (call (.builtin "isinstance") [u,c]) Q E s:=by
 cases ty with
 | non=>cases (show u=Value.none from rx);exact PySem.W.kia_one PySem.W.kitx_none I.kIn True.intro e (fun z=>nomatch z) h
 | bl y=>cases (show u=Value.bool y from rx);exact PySem.W.kia_one PySem.W.kitx_bool I.kIn True.intro e (fun z=>nomatch z) h
 | int i=>obtain⟨t,q⟩:=(show ∃t,u=Value.int i t from rx);cases q;exact PySem.W.kia_one PySem.W.kitx_int I.kIn True.intro e (fun z=>nomatch z) h
 | str y=>obtain⟨t,q⟩:=(show ∃t,u=Value.str y t from rx);cases q;exact PySem.W.kia_one PySem.W.kitx_str I.kIn True.intro e (fun z=>nomatch z) h
 | flt y=>obtain⟨t,q⟩:=(show ∃t,u=Value.float y t from rx);cases q;exact PySem.W.kia_one PySem.W.kitx_float I.kIn True.intro e (fun z=>nomatch z) h
 | @lst a xs ea =>
  cases (show u=Value.ref a from rx);obtain⟨_,_,n,_,h1⟩:=(show cv X.prog X.w H s.heap a (.lst xs) from I.hok a _ ea)
  exact PySem.W.kia_one PySem.W.kitx_list I.kIn ⟨_,h1,rfl⟩ e (fun z=>nomatch z) h
 | @frz a ob xs ea =>
  cases (show u=Value.ref a from rx);obtain⟨_,_,_,n,_,h1⟩:=(show cv X.prog X.w H s.heap a (.frz ob (.lst xs)) from I.hok a _ ea)
  exact PySem.W.kia_one PySem.W.kitx_list I.kIn ⟨_,h1,rfl⟩ e (fun z=>nomatch z) h
 | @tup a xs ea =>
  cases (show u=Value.ref a from rx);obtain⟨_,_,_,p⟩:=(show cv X.prog X.w H s.heap a (.tup xs) from I.hok a _ ea)
  obtain⟨o,h1,h2,_⟩:=p;exact PySem.W.kia_one PySem.W.kitx_tuple I.kIn ⟨o,h1,h2⟩ e (fun z=>nomatch z) h
 | @dK a kvs ea =>
  cases (show u=Value.ref a from rx);obtain⟨_,_,vs,_,p⟩:=(show cv X.prog X.w H s.heap a (.dK kvs) from I.hok a _ ea)
  obtain⟨o,es,ep,h1,h2,_⟩:=p;exact PySem.W.kia_one PySem.W.kitx_dict I.kIn ⟨o,h1,h2.1⟩ e (fun z=>nomatch z) h
 | @dT a kvs ea =>
  cases (show u=Value.ref a from rx);obtain⟨_,_,xs,_,o,es,ep,h1,h2,_⟩:=(show cv X.prog X.w H s.heap a (.dT kvs) from I.hok a _ ea)
  exact PySem.W.kia_one PySem.W.kitx_dict I.kIn ⟨o,h1,h2.1⟩ e (fun z=>nomatch z) h
 | @ins a C dx fs ea cl ha hn htk hm =>
  cases (show u=Value.ref a from rx);obtain⟨mA,O,_⟩:=sk I.hok ea;obtain⟨od,J,_⟩:=O.look;exact PySem.W.kia_one (PySem.W.kitx_own (cl.get _) cl.hd ha hn htk hm) I.kIn J e (fun z=>nomatch z) h
end
structure gN (k:Nat) (A:Around):Prop where
 hd:A.handled=none
 dp:A.depth+3*k+5<recursionLimit
 un:A.units+16*k+200<cLine
theorem gN.mono{j k:Nat}{A:Around}(r:gN k A)(h:j<=k):gN j A:=⟨r.hd,by have:=r.dp;omega,by have:=r.un;omega⟩
theorem gN.deeper{k:Nat}{A:Around}(r:gN (k+1) A)(env:Env):gN k (A.deeper env) :=
 ⟨r.hd,by have:=r.dp;show A.depth+1+3*k+5<_;omega,by have:=r.un;show A.units+3+16*k+200<_;omega⟩
theorem gN.depth{k:Nat}{A:Around}(r:gN k A):A.depth<recursionLimit:=by have:=r.dp;omega
theorem gN.units{k:Nat}{A:Around}(r:gN k A):A.units+64<cLine:=by have:=r.un;omega
def md:TA:=fun _ H Q=>Q [] H
def cX(ta:TE)(tr:TA):TA:=fun σ H Q=>ta σ H fun x H1=>tr σ H1 fun xs H2=>Q (x::xs) H2
section
variable {X:Cx}{e:Expr}{es:List Expr}{te:TE}{t:TA}{pos:Pos}
theorem ah:PA X [] md:=fun _ _ _ _ H Q I h=>Calls.spliced_nil ⟨[],H,I,.nil,h⟩
theorem sm(ha:PE X e te)(hr:PA X es t)(hs:starEach (e::es) X.env=(false,eval e X.env)::starEach es X.env:=by rfl):PA X (e::es) (cX te t):=by
 intro pos pins s σ H Q I h;rw [hs];show wpAny _ _ (spliced ((false,eval e X.env)::backTo pos (starEach es X.env))) _ _ s;refine Calls.spliced_cons (thn (ha pins s σ H _ I h) fun u s1 ⟨x,H1,I1,r1,q1⟩=>?_);exact thn (hr pos pins s1 σ H1 _ I1 q1) fun us s2 ⟨xs,H2,I2,r2,q2⟩=>⟨x::xs,H2,I2,.cons r1 r2,q2⟩
def xW(t:TA):TE:=fun σ H Q=>t σ H fun xs H1=>xs.length<=sizeLine/\∀p,H1 p=none->Q (.ref p) (upd H1 p (.tup xs))
def xX(t:TA):TE:=fun σ H Q=>t σ H fun xs H1=>xs.length<=sizeLine/\∀p,H1 p=none->Q (.ref p) (upd H1 p (.lst xs))
theorem uR{x1}(h:PA X es t):PE X (.Tuple es x1 pos) (xW t):=by
 intro pins s σ H Q I hq;refine wpAny_Tuple_spliced (thn (h pos pins s σ H _ I hq) fun us s1 ⟨xs,H1,I1,r,z,q⟩=>⟨by rw [<- r.length];exact z,?_⟩);have hf:H1 s1.heap.objs.size=none:=I1.hok.fresh (le_refl _);refine⟨.ref s1.heap.objs.size,upd H1 s1.heap.objs.size (.tup xs),I1.laid (t':=s1.toks) (fun b u e=>Heap.get?_push_of_some _ e) (le_refl _) ?_,rfl,q _ hf⟩;exact⟨z,us,r,⟨_,Heap.get?_push_size _ rfl,rfl,_,rfl⟩⟩
theorem dD(h:PA X es t):PE X (.List es pos) (xX t):=by
 intro pins s σ H Q I hq;refine wpAny_List_spliced (thn (h pos pins s σ H _ I hq) fun us s1 ⟨xs,H1,I1,r,z,q⟩=>⟨by rw [<- r.length];exact z,?_⟩);have hf:H1 s1.heap.objs.size=none:=I1.hok.fresh (le_refl _);refine⟨.ref s1.heap.objs.size,upd H1 s1.heap.objs.size (.lst xs),I1.laid (t':=s1.toks) (fun b u e=>Heap.get?_push_of_some _ e) (le_refl _) ?_,rfl,q _ hf⟩;exact⟨z,us,0,r,Heap.get?_push_size _ rfl⟩
end
abbrev Sp:=List V->Hp->VK->XK->Prop
abbrev CXT:=List Env->Hp->Shared->XK->Value->Shared->Prop
structure wx (P:Program) (w:World) (K:PySem.W.Frag) (mg:Str->Option Value) (base:Heap) (A:Around) (outer:List Env) (s:Shared) (H:Hp):Prop where
 frames:A.frames=some outer
 mod:Mod K mg base
 bs:∀b o,base.get? b=some o->s.heap.get? b=some o/\H b=none
 bsz:base.objs.size<=s.heap.objs.size
 funs:s.heap.FunFrames base outer
 frf:∀b∈frs outer,H b=none
 hok:HOk P w H s.heap
 bare:AllBare s.gens
def CE(outer:List Env)(P:Program)(w:World)(H:Hp)(s:Shared)(Q:VK)(u:Value)(s':Shared):Prop :=
 ∃v H',s'.os=s.os/\AllBare s'.gens/\Un (frs outer) [] H H' s.heap s'.heap/\HOk P w H' s'.heap/\cZ v u/\Q v H'
def CR(CX:CXT)(outer:List Env)(P:Program)(w:World)(H:Hp)(s:Shared)(Q:VK)(E:XK)(r:Result)(s':Shared):Prop :=
 match r with
 | .ok (.ret u)=>CE outer P w H s Q u s'
 | .ok _=>False
 | .error e=>CX outer H s E e s'
structure me (P:Program) (w:World) (K:PySem.W.Frag) (mg:Str->Option Value) (base:Heap) (CX:CXT) (k:Nat) (f:Addr) (fd:FuncData) (ps:List Str) (sp:Sp):Prop where
 len:∀vs H Q E,sp vs H Q E->vs.length=ps.length
 run:∀(A:Around) (outer:List Env) (s:Shared) (H:Hp) (args:Args) (us:List Value) (vs:List V) (Q:VK) (E:XK),gN k A->wx P w K mg base A outer s H->BindsTo s fd args (ps.zip us)->bP vs us->sp vs H Q E ->
  codeAny (model P w) A (.call (.ref f) args) (CR CX outer P w H s Q E) s
theorem me.imp{P:Program}{w:World}{K:PySem.W.Frag}{mg:Str->Option Value}{base:Heap}{CX:CXT}{k:Nat}{f:Addr}{fd:FuncData}{ps:List Str}{sp sp':Sp}(F:me P w K mg base CX k f fd ps sp)
  (h:∀vs H Q E,sp' vs H Q E->sp vs H Q E):me P w K mg base CX k f fd ps sp' :=
 ⟨fun vs H Q E q=>F.len vs H Q E (h _ _ _ _ q),fun A outer s H args us vs Q E hr he hb hv hs=>F.run A outer s H args us vs Q E hr he hb hv (h _ _ _ _ hs)⟩
section
variable {X:Cx}{pins:List (Addr×Obj)}{σ:St}{H:Hp}{s s':Shared}
theorem Inv.env0(I:Inv X pins σ H s):wx X.prog X.w X.K X.mg X.base X.A X.stack s H :=
 ⟨I.ok.frames,I.ok.mod,I.bs,le_trans I.ok.bsz I.sz,I.stack,I.stkFree,I.hok,I.bare⟩
theorem Inv.after{Q:VK}{u:Value}(I:Inv X pins σ H s)(h:CE X.stack X.prog X.w H s Q u s'):EP X pins σ Q u s':=by
 obtain⟨v,H',os,bare,un,hok,r,q⟩:=h;obtain⟨hh,g,d,t,os'⟩:=s';obtain rfl:os'=s.os:=os;exact⟨v,H',I.call (h':=hh) (g':=g) (d':=d) (t':=t) (ch:=[]) un hok bare (fun b z=>absurd z (by simp)),r,q⟩
end
def gS(sp:Sp)(dvs:List V)(E:XK)(t:TA):TE:=fun σ H Q=>t σ H fun vs H1=>sp (vs++dvs) H1 Q E
def lj(K:PySem.W.Frag)(fd:FuncData)(ps:List Str)(ds:List Value):Prop :=
 ∀(s:Shared) (us:List Value),K.In s.heap->(us++ds).length=ps.length->BindsTo s fd ⟨us,[]⟩ (ps.zip (us++ds))
theorem lj.all{K:PySem.W.Frag}{fd:FuncData}{ps:List Str}(h:∀us:List Value,us.length=ps.length->bindArgs fd ⟨us,[]⟩=pure (ps.zip us)):lj K fd ps []:=fun s us _ hl=>by
 rw [append_nil] at hl ⊢;exact .of_eq (h us hl)
def n8(CX:CXT)(X:Cx)(E:XK):Prop:=∀(pins:List (Addr×Obj)) (σ:St) (H:Hp) (s:Shared) (e:Value) (s':Shared),Inv X pins σ H s->CX X.stack H s E e s'->X.xe e s'
section
variable {X:Cx}{CX:CXT}{k:Nat}{f C:Addr}{fd:FuncData}{ps:List Str}{sp:Sp}{dvs:List V}{ds:List Value}{E:XK}{x m:Str}{p pos apos:Pos}{e o:Expr}{es:List Expr}{ta:TE}{t:TA}
theorem uS{pins:List (Addr×Obj)}{σ:St}{H:Hp}{s:Shared}{Q:VK}{us:List Value}{vs:List V}(F:me X.prog X.w X.K X.mg X.base CX k f fd ps sp)(hr:gN k X.A)(hb:lj X.K fd ps ds)(hd:bP dvs ds)(hx:n8 CX X E)
  (I:Inv X pins σ H s) (r:bP vs us) (h:sp (vs++dvs) H Q E):wpAny (model X.prog X.w) X.A (call (.ref f) us) (EP X pins σ Q) X.xe s:=by
 have r2:bP (vs++dvs) (us++ds):=r.append hd;have hl:(us++ds).length=ps.length:=by rw [<- r2.length];exact F.len _ _ _ _ h
 refine wpAny_call (codeAny_mono (F.run X.A X.stack s H ⟨us,[]⟩ (us++ds) (vs++dvs) Q E hr I.env0 (hb s us I.kIn hl) r2 h) fun r s' hq=>?_)
 cases r with
 | error e=>exact hx pins σ H s e s' I hq
 | ok fl =>
  cases fl with
  | ret u=>exact I.after hq
  | next=>exact False.elim hq
  | brk=>exact False.elim hq
  | cont=>exact False.elim hq
theorem n9(F:me X.prog X.w X.K X.mg X.base CX k f fd ps sp)(hr:gN k X.A)(hg:Gl X x)(hm:X.mg x=some (.ref f))(hk:PySem.W.keepIn X.K (.ref f)=true)(hb:lj X.K fd ps ds)(hd:bP dvs ds)(hx:n8 CX X E)
  (ha:PA X (e::es) t) (hdb:(x == ("__debug__":Str))=false:=by decide) (he:starEach (e::es) X.env=(false,eval e X.env)::starEach es X.env:=by rfl) (hpl:(backTo pos (starEach es X.env)).any (·.1)=false:=by rfl) :
  PE X (.Call (.Name x p) (e::es) [] pos) (gS sp dvs E t):=by
 intro pins s σ H Q I h;refine wpAny_Call_Name_kw (nO I hg hm ?_ hdb);refine PySem.W.callWith_K (h₀:=X.base) I.ok.mod.kin hk (thn (ha pos pins s σ H _ I h) fun us s1 ⟨vs,H1,I1,r,q⟩=>⟨I1.kIn,?_⟩) he hpl;exact uS F hr hb hd hx I1 r q
end
structure ba (N P:List Str) (sc:Scope):Prop where
 kind:sc.kind=.function
 co:sc.isCoroutine=false
 gen:sc.isGenerator=false
 nd:N.Nodup
 pre:N.take P.length=P
 par:∀x∈P,sc.names.lookup x=some .local\/sc.names.lookup x=some .cell
 nofree:∀y∈sc.names,y.2≠.free
theorem jZ{kindOf:Str->Option NameKind}{x:Str}:∀{binds:List (Str×Value)}{m:Str->Option Value},(∀v,(x,v)∉binds)->bindL kindOf binds m x=m x
 | [],_,_=>rfl
 | (n,v)::r,m,h=>by
  unfold bindL;rw [jZ fun w hw=>h w (mem_cons_of_mem _ hw)]
  split
  .have:x≠n:=by rintro rfl;exact h v mem_cons_self
   simp [this]
  .rfl
theorem j0{kindOf:Str->Option NameKind}{x:Str}:∀{binds:List (Str×Value)}{m:Str->Option Value},(∀v,(x,v)∉binds)->bindC kindOf binds m x=m x
 | [],_,_=>rfl
 | (n,v)::r,m,h=>by
  unfold bindC;rw [j0 fun w hw=>h w (mem_cons_of_mem _ hw)]
  split
  .rfl
  .have:x≠n:=by rintro rfl;exact h v mem_cons_self
   simp [this]
theorem j1{kindOf:Str->Option NameKind}{x:Str}{v:Value}:∀{P:List Str}{vs:List Value}{i:Nat}{m:Str->Option Value},P.Nodup->P[i]?=some x->vs[i]?=some v->kindOf x=some .local ->
  bindL kindOf (P.zip vs) m x=some v
 | [],_,_,_,_,h,_,_=>by simp at h
 | _::_,[],_,_,_,_,h,_=>by simp at h
 | p::P,w::vs,0,m,nd,h1,h2,hk=>by
  simp at h1 h2;subst h1;subst h2;show bindL kindOf ((p,w)::P.zip vs) m p=_;unfold bindL;rw [jZ fun v hv=>(nodup_cons.mp nd).1 (of_mem_zip hv).1,if_pos hk];simp
 | p::P,w::vs,i+1,m,nd,h1,h2,hk=>by
  show bindL kindOf ((p,w)::P.zip vs) m x=_;unfold bindL;exact j1 (i:=i) (nodup_cons.mp nd).2 (by simpa using h1) (by simpa using h2) hk
theorem j2{kindOf:Str->Option NameKind}{x:Str}{v:Value}:∀{P:List Str}{vs:List Value}{i:Nat}{m:Str->Option Value},P.Nodup->P[i]?=some x->vs[i]?=some v->kindOf x≠some .local ->
  bindC kindOf (P.zip vs) m x=some v
 | [],_,_,_,_,h,_,_=>by simp at h
 | _::_,[],_,_,_,_,h,_=>by simp at h
 | p::P,w::vs,0,m,nd,h1,h2,hk=>by
  simp at h1 h2;subst h1;subst h2;show bindC kindOf ((p,w)::P.zip vs) m p=_;unfold bindC;rw [j0 fun v hv=>(nodup_cons.mp nd).1 (of_mem_zip hv).1,if_neg hk];simp
 | p::P,w::vs,i+1,m,nd,h1,h2,hk=>by
  show bindC kindOf ((p,w)::P.zip vs) m x=_;unfold bindC;exact j2 (i:=i) (nodup_cons.mp nd).2 (by simpa using h1) (by simpa using h2) hk
def start(N:List Str)(vs:List V):St:=vs.map some++List.replicate (N.length - vs.length) none
def ro(CX:CXT)(P:Program)(w:World)(K:PySem.W.Frag)(mg:Str->Option Value)(base:Heap)(N:List Str)(qual:Str)(scope:Scope)(f:Addr)(cd:Value)(A:Around)(outer:List Env)(s:Shared)(H:Hp)(E:XK):Cx where
 prog:=P
 w:=w
 K:=K
 mg:=mg
 base:=base
 A:=A.deeper (envOfC qual scope s.heap.objs.size f cd)
 N:=N
 s₀:=s
 H₀:=H
 env:=envOfC qual scope s.heap.objs.size f cd
 outer:=outer
 stack:=envOfC qual scope s.heap.objs.size f cd::outer
 ex:=[]
 calm:=true
 fn:=fun _=>true
 pn:=[]
 xe:=fun e s'=>wpAny (model P w) (A.deeper (envOfC qual scope s.heap.objs.size f cd)) (leaving (envOfC qual scope s.heap.objs.size f cd) e) (fun _ s''=>CX outer H s E e s'') (fun e' s''=>CX outer H s E e' s'') s'
theorem mf{sc:Scope}{n:Nat}{x:Str}(h:sc.names.lookup x=some .cell):∃c,(cellsFrom n sc.names []).lookup x=some c:=by
 have q:=PySem.W.cellsFrom_some sc.names n [] (.inl h);exact Option.isSome_iff_exists.mp q
theorem oa{CX:CXT}{P:Program}{w:World}{K:PySem.W.Frag}{mg:Str->Option Value}{base:Heap}{N ps:List Str}{qual:Str}{scope:Scope}{f:Addr}{cd:Value}{A:Around}{outer:List Env}{s s1:Shared}{H:Hp}{E:XK}{us:List Value}{vs:List V}
  (S:ba N ps scope) (hd:A.handled=none) (e0:wx P w K mg base A outer s H) (hl:vs.length=ps.length) (r:bP vs us)
  (x:InCallC s s.heap.objs.size (bindL (envOfC qual scope s.heap.objs.size f cd).kindOf (ps.zip us) fun _=>none) (cellsFrom (s.heap.objs.size+1) scope.names []) (bindC (envOfC qual scope s.heap.objs.size f cd).kindOf (ps.zip us) fun _=>none) s1) :
  Inv (ro CX P w K mg base N qual scope f cd A outer s H E) [] (start N vs) H s1:=by
 have hpl:ps.length<=N.length:=by have:=congrArg List.length S.pre;rw [length_take] at this;omega
 obtain⟨h1,tk,rfl,hk⟩:=x.done;have noA:∀b:Addr,b∉(ro CX P w K mg base N qual scope f cd A outer s H E).ex:=fun b z=>absurd (show b∈([]:List Addr) from z) (by simp)
 refine⟨⟨e0.mod,S.kind,rfl,rfl,le_refl _,fun y z c h1 h2=>?_,fun y hy=>?_,fun y c _ h=>?_,fun _=>hd,Around.frames_deeper e0.frames,.inr ⟨rfl,rfl⟩,fun b z=>absurd z (noA b),e0.bs,e0.bsz,fun b _ _=>noA b,fun b z=>absurd z (noA b),e0.funs,e0.frf⟩,
  rfl,e0.bare,Un.kept hk,⟨_,x.toInCall.ns,fun i y v h1 h2 h3=>?_⟩,fun y c h=>⟨_,x.cell y c h⟩,e0.hok.fresh (le_refl _),fun y c h=>?_,fun p hp=>absurd (show p∈([]:List (Addr×Obj)) from hp) (by simp),e0.hok.kept hk,?_⟩
 .exact name_of_addr x.apart (PySem.mem_of_lookup h1) (PySem.mem_of_lookup h2)
 .have hy:scope.names.lookup y=some .cell\/scope.names.lookup y=some .free:=hy
  rcases hy with hy|hy
  .exact mf hy
  .exact absurd rfl (S.nofree _ (PySem.mem_of_lookup hy))
 .exact le_of_lt (x.above y c (PySem.mem_of_lookup h))
 .have hi:i<vs.length:=by
   unfold start at h2
   by_cases hi:i<vs.length
   .exact hi
   .rw [getElem?_append_right (by simpa using hi)] at h2;rw [getElem?_replicate] at h2;split at h2 <;> cases h2
  have ha:vs[i]?=some v:=by
   unfold start at h2;rw [getElem?_append_left (by simpa using hi),getElem?_map] at h2
   cases e:vs[i]? with
   | none=>rw [e] at h2;cases h2
   | some a=>rw [e] at h2;cases h2;rfl
  obtain⟨u,hu,rv⟩:=r.get ha
  have hp:ps[i]?=some y:=by
   rw [<- S.pre,getElem?_take_of_lt (by omega)];exact h1
  have ndP:ps.Nodup:=by rw [<- S.pre];exact S.nd.sublist (take_sublist _ _)
  refine⟨u,rv,?_⟩
  rcases S.par y (mem_of_getElem? hp) with k|k
  .exact .inl ⟨k,j1 ndP hp hu k⟩
  .obtain⟨c,e⟩:=mf (n:=s.heap.objs.size+1) k;refine .inr ⟨.inl k,c,e,?_⟩;have q:=x.cell y c e;rw [j2 ndP hp hu (by show scope.names.lookup y≠_;rw [k];decide)] at q;exact q
 .exact e0.hok.fresh (le_of_lt (x.above y c (PySem.mem_of_lookup h)))
 .unfold start;show _=N.length;rw [length_append,length_map,length_replicate];omega
theorem uT{CX:CXT}{P:Program}{w:World}{K:PySem.W.Frag}{mg:Str->Option Value}{base:Heap}{k:Nat}{f:Addr}{name qual:Str}{params:Arguments}{body:List Stmt}{scope:Scope}{dV kV doc pm cdv ct oc:Value}{an od:Option Addr}
  {osl:Array (Option Value)}{N ps:List Str}{sp:Sp} (lk:K.lookup f=some ⟨oc,od,.func (PySem.W.fnOf name qual params body scope dV kV doc pm an cdv ct),osl⟩) (hcd:PySem.W.codeIn K cdv qual=true) (S:ba N ps scope)
  (len:∀vs H Q E,sp vs H Q E->vs.length=ps.length)
  (hbody:∀(A:Around) (outer:List Env) (s:Shared) (H:Hp) (vs:List V) (Q:VK) (E:XK),gN k (A.deeper (envOfC qual scope s.heap.objs.size f cdv))->sp vs H Q E ->
   ∃t,PSs (ro CX P w K mg base N qual scope f cdv A outer s H E) body t/\t { nx:=fun _ H'=>Q .non H',rt:=Q } (start N vs) H) :
  me P w K mg base CX (k+1) f (PySem.W.fnOf name qual params body scope dV kV doc pm an cdv ct) ps sp:=by
 refine⟨len,fun A outer s H args us vs Q E hr e0 hb r hsp=>?_⟩;have hl:=len _ _ _ _ hsp;have KX:K.In s.heap:=e0.mod.kin.keeps fun b o e=>(e0.bs b o e).1;have lim:s.heap.NoLimit:=e0.mod.nolimit.keeps fun b o e=>(e0.bs b o e).1
 have hkind:∀y∈ps.zip us,scope.names.lookup y.1=some .local\/(scope.names.lookup y.1=some .cell/\((cellsFrom (s.heap.objs.size+1) scope.names []).lookup y.1).isSome=true):=fun ⟨n,v⟩ hy=>by
  rcases S.par n (of_mem_zip hy).1 with q|q
  .exact .inl q
  .exact .inr ⟨q,PySem.W.cellsFrom_some _ _ _ (.inl q)⟩
 refine codeAny_call_function hr.depth (KX _ _ lk) rfl S.co S.gen rfl (PySem.W.codeRec_of KX hcd) (hb _ _ _ _ ?_);refine wpAny_newFunctionEnv_cells S.kind hkind fun env he s1 x=>?_;subst he;refine⟨lim.keeps x.toInCall.keep,codeAny_func ?_⟩;obtain⟨t,ht,hq⟩:=hbody A outer s H vs Q E (hr.deeper _) hsp;have I:Inv (ro CX P w K mg base N qual scope f cdv A outer s H E) [] (start N vs) H s1:=oa S hr.hd e0 hl r x
 refine wpAny_mono (ht [] s1 (start N vs) H _ I hq) (fun fl s' hs=>?_) fun e s' hs=>hs
 have fin:∀{σ':St}{H':Hp}{v:V}{u:Value},Inv (ro CX P w K mg base N qual scope f cdv A outer s H E) [] σ' H' s'->cZ v u->Q v H'->CE outer P w H s Q u s' :=
  fun {σ' H' v u} J rv q=>⟨v,H',J.os,J.bare,J.base,J.hok,rv,q⟩
 cases fl with
 | ret u =>
  obtain⟨v,σ',H',J,rv,q⟩:=hs;exact fin J rv q
 | next =>
  obtain⟨σ',H',J,q⟩:=hs;exact fin (v:=V.non) (u:=Value.none) J rfl q
 | brk =>
  obtain⟨_,_,_,q⟩:=hs;exact False.elim q
 | cont =>
  obtain⟨_,_,_,q⟩:=hs;exact False.elim q
section
variable {X:Cx}{x:Str}{p pos:Pos}{e:Expr}{es:List Expr}{t:TA}{id T:String}{r:List V->Hp->VK->Prop}
def tCB(r:List V->Hp->VK->Prop)(t:TA):TE:=fun σ H Q=>t σ H fun vs H1=>r vs H1 Q
theorem ql(hc:cw X (.builtin id) r)(hg:Gl X x)(hm:X.mg x=none)(hv:bootBuiltins x=some (.builtin id))(ha:PA X (e::es) t)(hn:x≠"__name__":=by decide)(hdb:(x == ("__debug__":Str))=false:=by decide)
  (he:starEach (e::es) X.env=(false,eval e X.env)::starEach es X.env:=by rfl) (hpl:(backTo pos (starEach es X.env)).any (·.1)=false:=by rfl):PE X (.Call (.Name x p) (e::es) [] pos) (tCB r t):=by
 intro pins s σ H Q I h;refine wpAny_Call_Name_kw (c5 I hg hm hv ?_ hn hdb);exact PyProof.Rows.callWith_builtin1 (thn (ha pos pins s σ H _ I h) fun us s1 ⟨vs,H1,I1,r1,q1⟩=>hc pins s1 σ H1 vs us Q I1 r1 q1) he hpl
theorem og(hc:cw X (.type T) r)(hg:Gl X x)(hm:X.mg x=none)(hv:bootBuiltins x=some (.type T))(ha:PA X (e::es) t)(hn:x≠"__name__":=by decide)(hdb:(x == ("__debug__":Str))=false:=by decide)
  (he:starEach (e::es) X.env=(false,eval e X.env)::starEach es X.env:=by rfl) (hpl:(backTo pos (starEach es X.env)).any (·.1)=false:=by rfl):PE X (.Call (.Name x p) (e::es) [] pos) (tCB r t):=by
 intro pins s σ H Q I h;refine wpAny_Call_Name_kw (c5 I hg hm hv ?_ hn hdb);exact PyProof.Rows.callWith_type1 (thn (ha pos pins s σ H _ I h) fun us s1 ⟨vs,H1,I1,r1,q1⟩=>hc pins s1 σ H1 vs us Q I1 r1 q1) he hpl
end
end L2
namespace HT
open PySem PyProof.Rows
section
open PySem.SeqAt
open PySem.AutoSeq1 (wpAny_loadPart')
open PySem.MeetsSeq PySem.MeetsSeq2 PySem.MeetsSeq3
end
section
variable {prog:Program}{w:World}{A:Around}{E:Value->Shared->Prop}{s:Shared}
theorem cat_tup{t b:Addr}{vs ws:List Value}{Q:Value->Shared->Prop}(ht:IsTup s.heap t vs.toArray)(hb:IsTup s.heap b ws.toArray)(hv:vs≠[])
  (h1:ws=[]->Q (.ref t) s) (h2:ws≠[]->Q (.ref s.heap.objs.size) { s with heap:=s.heap.push { cls:=.type "tuple",data:=.seq (vs++ws).toArray } })
  (hsz:vs.length+ws.length<=sizeLine):wpAny (model prog w) A (binaryOp .Add (.ref t) (.ref b)) Q E s:=by
 obtain⟨⟨cls,dd,data,sl⟩,ho,hc,n,hd⟩:=id ht;obtain⟨⟨cls2,dd2,data2,sl2⟩,ho2,hc2,n2,hd2⟩:=id hb;simp only at hc hd hc2 hd2;subst hc hd hc2 hd2;have e:vs.toArray++ws.toArray=(vs++ws).toArray:=by simp
 by_cases hw:ws=[]
 .exact concat_meets ⟨_,ho,rfl⟩ ⟨_,ho2,rfl⟩ noFill_tuple_add seq_tuple_add PySem.F.slot_tuple_add PySem.F.entry_tuple_add (PySem.F.args_tuple_add_2 _ _)
   (tuple_addW1 t b vs.toArray ws.toArray n n2 dd dd2 sl sl2 (by simpa using hv) (by simp [hw])) ⟨ho,ho2,h1 hw⟩
 .refine concat_meets ⟨_,ho,rfl⟩ ⟨_,ho2,rfl⟩ noFill_tuple_add seq_tuple_add PySem.F.slot_tuple_add PySem.F.entry_tuple_add (PySem.F.args_tuple_add_2 _ _)
   (tuple_addW2 t b vs.toArray ws.toArray n n2 dd dd2 sl sl2 (by simpa using hv) (by simpa using hw) (by rw [size_toArray,size_toArray];exact hsz)) ⟨ho,ho2,?_⟩
  rw [e];exact h2 hw
def sIx(n d:Nat):Option Int->Nat
 | none=>d
 | some v=>if v<0 then (v+(n:Int)).toNat else min v.toNat n
theorem sIx_nat(n d k:Nat):sIx n d (some (k:Int))=min k n:=by
 show (if (k:Int)<0 then ((k:Int)+(n:Int)).toNat else min (k:Int).toNat n)=min k n;rw [if_neg (by omega),toNat_natCast]
theorem sIx_le(n d:Nat)(hd:d<=n)(o:Option Int):sIx n d o<=n:=by
 cases o with
 | none=>exact hd
 | some v =>
  show (if v<0 then (v+(n:Int)).toNat else min v.toNat n)<=n
  by_cases hv:v<0
  .rw [if_pos hv];omega
  .rw [if_neg hv];exact min_le_right _ _
theorem clip_eq(v:Int)(n d:Nat):(if v<0 then max (v+(n:Int)) 0 else min v (n:Int))=((sIx n d (some v):Nat):Int):=by
 show (if v<0 then max (v+(n:Int)) 0 else min v (n:Int))=(((if v<0 then (v+(n:Int)).toNat else min v.toNat n):Nat):Int)
 by_cases hv:v<0
 .simp only [if_pos hv];omega
 .simp only [if_neg hv];omega
theorem m8(lo hi:Option Int)(n:Nat):Builtin.Slice.sliceAdjust lo hi 1 (n:Int)=(((sIx n 0 lo:Nat):Int),((sIx n n hi:Nat):Int)):=by
 have h1:¬ ((1:Int)<0):=by omega
 unfold Builtin.Slice.sliceAdjust;simp only [h1,if_false]
 refine Prod.ext ?_ ?_
 .cases lo with
  | none=>rfl
  | some v=>exact clip_eq v n 0
 .cases hi with
  | none=>rfl
  | some v=>exact clip_eq v n n
theorem m9(i j:Nat):Builtin.Slice.slicePlaces (i:Int) (j:Int) 1=j - i:=by
 unfold Builtin.Slice.slicePlaces;have h1:(1:Int) > 0:=by omega
 simp only [h1,if_true,ediv_one];split <;> omega
theorem iN{v:Value}{o:Option Int}{Q:Option Int->Shared->Prop}(p:IsPart v o)(h:Q o s):wpAny (model prog w) A (Builtin.Slice.slicePartIndex v) Q E s:=by
 cases p with
 | none=>exact slicePart_none h
 | int i t=>exact slicePart_int h
theorem eh{sl:Addr}{vl vu:Value}{lo hi:Option Int}{n:Nat}{Q:Int×Int×Nat->Shared->Prop}(hs:s.heap.IsSliceOf sl vl vu .none)(pl:IsPart vl lo)(pu:IsPart vu hi)
  (h:Q (((sIx n 0 lo:Nat):Int),1,sIx n n hi - sIx n 0 lo) s):wpAny (model prog w) A (Builtin.Slice.sliceApplied (.ref sl) (pure (n:Int))) Q E s:=by
 obtain⟨os,hos,hcs,hds⟩:=id hs;unfold Builtin.Slice.sliceApplied Builtin.Slice.sliceFields;refine wpAny_bind (wpAny_bind (wpAny_field hos hds (x:=vl) rfl (wpAny_bind (wpAny_field hos hds (x:=vu) rfl (wpAny_bind (wpAny_field hos hds (x:=.none) rfl (wpAny_pure ?_)))))));refine wpAny_bind (slicePart_none ?_);show wpAny _ _ (if ((1:Int) == 0)=true then _ else _) _ _ s;rw [if_neg (by decide)];refine wpAny_bind (iN pl (wpAny_bind (iN pu (wpAny_bind (wpAny_pure ?_)))))
 show wpAny _ _ (match Builtin.Slice.sliceAdjust lo hi 1 (n:Int) with|(lo,hi)=>pure (lo,(1:Int),Builtin.Slice.slicePlaces lo hi 1)) _ _ s;rw [m8 lo hi n];show wpAny _ _ (pure (((sIx n 0 lo:Nat):Int),(1:Int),Builtin.Slice.slicePlaces ((sIx n 0 lo:Nat):Int) ((sIx n n hi:Nat):Int) 1)) _ _ s;rw [m9];exact wpAny_pure h
theorem qm(xs:Array Value)(i k:Nat):((List.range k).filterMap fun (m:Nat)=>xs[((i:Int)+(m:Int)*1).toNat]?).toArray=((xs.toList.drop i).take k).toArray:=by
 have e:(fun (m:Nat)=>xs[((i:Int)+(m:Int)*1).toNat]?)=fun m=>xs[i+m]?:=by
  funext m;have:((i:Int)+(m:Int)*1).toNat=i+m:=by omega
  rw [this]
 rw [e];have:=pick_run xs i k;rw [filterMap_map] at this;have e2:((fun x=>xs[x]?) ∘ fun x=>i+x)=fun m=>xs[i+m]?:=rfl;rw [e2] at this;rw [this]
theorem getItem_tuple_cut{t sl:Addr}{items:Array Value}{vl vu:Value}{lo hi:Option Int}{Q:Value->Shared->Prop}(ht:IsTup s.heap t items)(hs:s.heap.IsSliceOf sl vl vu .none)(pl:IsPart vl lo)(pu:IsPart vu hi)
  (hw:¬ (sIx items.size 0 lo=0/\sIx items.size items.size hi=items.size))
  (h:Q (.ref s.heap.objs.size) { s with heap:=s.heap.push { cls:=.type "tuple",data:=.seq ((items.toList.drop (sIx items.size 0 lo)).take (sIx items.size items.size hi - sIx items.size 0 lo)).toArray } })
  (hsz:items.size<=sizeLine):wpAny (model prog w) A (getItem (.ref t) (.ref sl)) Q E s:=by
 have htake:sizeOk (.seq ((items.toList.drop (sIx items.size 0 lo)).take (sIx items.size items.size hi - sIx items.size 0 lo)).toArray):=by
  show ((items.toList.drop (sIx items.size 0 lo)).take (sIx items.size items.size hi - sIx items.size 0 lo)).toArray.size<=sizeLine;rw [size_toArray,length_take,length_drop,Array.length_toList];omega
 have hj:sIx items.size items.size hi<=items.size:=sIx_le _ _ (le_refl _) hi;obtain⟨os,hos,hcs,hds⟩:=id hs;have hTs:s.TypeIs (.ref sl) "slice":=⟨os,hos,hcs⟩
 unfold getItem
 try with_reducible refine wpAny_holding ?_
 first|refine wpAny_bind (wpAny_pure ?_)|skip
 refine wpAny_bind (wpAny_sequenceKey ht.typeIs (by decide) ?_)
 refine wpAny_bind (wpAny_callSpecial?_slot (name:=Str.ofString "__getitem__") ht.typeIs PyProof.Rows.slot_tuple_getitem
  (wpAny_call_entry PyProof.Rows.slot_tuple_getitem ht.typeIs entry_tuple_getitem ?_ (args_tuple_getitem _ _)))
 show wpAny _ _ (Builtin.Tuple.tupleItemsOf (.ref t) >>= _) _ _ s;refine wpAny_bind (tupleItemsOf_ ht ?_);refine wpAny_bind (wpAny_typeOf hTs ?_);rw [if_pos (by decide)];refine wpAny_bind (eh hs pl pu ?_)
 have hno:¬ ((((sIx items.size 0 lo:Nat):Int) == 0 && (1:Int) == 1 && (sIx items.size items.size hi - sIx items.size 0 lo) == items.size)=true):=by
  intro q;rw [and_eq_true,and_eq_true] at q;have q1:((sIx items.size 0 lo:Nat):Int)=0:=eq_of_beq q.1.1;have q2:sIx items.size items.size hi - sIx items.size 0 lo=items.size:=eq_of_beq q.2;exact hw ⟨by omega,by omega⟩
 show wpAny _ _ (if (((sIx items.size 0 lo:Nat):Int) == 0 && (1:Int) == 1 && (sIx items.size items.size hi - sIx items.size 0 lo) == items.size)=true then _ else _) _ _ s;rw [if_neg hno,qm]
 first
  | exact wpAny_bind (m:=Builtin.Tuple.tupleExact _) (wpAny_newObj_type (wpAny_pure ⟨_,rfl,wpAny_pure h⟩) htake)
  | exact wpAny_bind (m:=Builtin.Tuple.tupleExact _) (wpAny_newObj_type (wpAny_bind (wpAny_pure (wpAny_pure ⟨_,rfl,wpAny_pure h⟩))) htake)
  | exact wpAny_bind (wpAny_bind (m:=Builtin.Tuple.tupleExact _) (wpAny_newObj_type (wpAny_pure (wpAny_pure ⟨_,rfl,wpAny_pure h⟩)) htake))
  | exact wpAny_bind (wpAny_bind (m:=Builtin.Tuple.tupleExact _) (wpAny_newObj_type (wpAny_pure ⟨_,rfl,wpAny_pure h⟩) htake))
end
end HT
namespace L2
open PySem PySem.Spec PyProof.Rows
abbrev TO:=St->Hp->(Option Int->Hp->Prop)->Prop
def PO(X:Cx)(e:Option Expr)(t:TO):Prop :=
 ∀(pins:List (Addr×Obj)) (s:Shared) (σ:St) (H:Hp) (Q:Option Int->Hp->Prop),Inv X pins σ H s->t σ H Q ->
  wpAny (model X.prog X.w) X.A (evalPart e X.env) (fun u s'=>∃o H',Inv X pins σ H' s'/\IsPart u o/\Q o H') X.xe s
def oh:TO:=fun _ H Q=>Q none H
def qo(t:TE):TO:=fun σ H Q=>t σ H fun x H1=>∃i,x=.int i/\Q (some i) H1
theorem ng{ns:List Int}:∀{us:List Value},bP (ns.map V.int) us->IntsAre us ns:=by
 induction ns with
 | nil=>intro us r;rw [map_nil] at r;cases r;exact .nil
 | cons n ns ih =>
  intro us r;rw [map_cons] at r
  cases r with
  | cons r1 r2 =>
   obtain⟨t,e⟩:=r1;subst e;exact .cons n t (ih r2)
section
variable {X:Cx}{e:Expr}{te:TE}{lo hi:Option Expr}{tl th:TO}{pos p2:Pos}
theorem b6:PO X none oh:=by
 intro pins s σ H Q I h;rw [evalPart_none];exact wpAny_pure ⟨none,H,I,.none,h⟩
theorem bG(h:PE X e te):PO X (some e) (qo te):=by
 intro pins s σ H Q I hw;rw [evalPart_some];refine thn (h pins s σ H _ I hw) fun u s1 ⟨x,H1,I1,r1,q1⟩=>?_;obtain⟨i,rfl,q⟩:=q1;obtain⟨t,rfl⟩:=r1;exact⟨some i,H1,I1,.int i t,q⟩
def SlR(X:Cx)(r:V->Option Int->Option Int->Hp->VK->Prop):Prop :=
 ∀(pins:List (Addr×Obj)) (s:Shared) (σ:St) (H:Hp) (x:V) (v vl vu:Value) (lo hi:Option Int) (sl:Addr) (Q:VK),Inv X pins σ H s->cZ x v->s.heap.IsSliceOf sl vl vu .none->IsPart vl lo->IsPart vu hi->r x lo hi H Q ->
  ∃T id,typeLookup (.type T) "__getitem__"=pure (some (.builtin id))/\s.TypeIs v T/\wpAny (model X.prog X.w) X.A (getItem v (.ref sl)) (EP X pins σ Q) X.xe s
theorem SlR.or{r r':V->Option Int->Option Int->Hp->VK->Prop}(h:SlR X r)(h':SlR X r'):SlR X (fun x lo hi H Q=>r x lo hi H Q\/r' x lo hi H Q):=by
 intro pins s σ H x v vl vu lo hi sl Q I rx hs pl pu q
 rcases q with q|q
 .exact h pins s σ H x v vl vu lo hi sl Q I rx hs pl pu q
 .exact h' pins s σ H x v vl vu lo hi sl Q I rx hs pl pu q
def tSl(r:V->Option Int->Option Int->Hp->VK->Prop)(te:TE)(tl th:TO):TE:=fun σ H Q=>te σ H fun x H1=>tl σ H1 fun l H2=>th σ H2 fun u H3=>r x l u H3 Q
theorem bt{r:V->Option Int->Option Int->Hp->VK->Prop}(hr:SlR X r)(he:PE X e te)(hl:PO X lo tl)(hu:PO X hi th):PE X (.Subscript e (.Slice lo hi none p2) pos) (tSl r te tl th):=by
 intro pins s σ H Q I h;refine Subscript_ (thn (he pins s σ H _ I h) fun v s1 ⟨x,H1,I1,r1,q1⟩=>?_);refine wpAny_Slice (thn (hl pins s1 σ H1 _ I1 q1) fun vl s2 ⟨l,H2,I2,pl,q2⟩=>thn (hu pins s2 σ H2 _ I2 q2) fun vu s3 ⟨u,H3,I3,pu,q3⟩=>?_);rw [evalPart_none];refine wpAny_pure ?_;have I4:Inv X pins σ H3 { s3 with heap:=s3.heap.push { cls:=.type "slice",data:=.fields #[vl,vu,.none] } }:=I3.kept (t':=s3.toks) fun b ob q=>Heap.get?_push_of_some _ q
 obtain⟨T,id,hT,ht,hg⟩:=hr pins { s3 with heap:=s3.heap.push { cls:=.type "slice",data:=.fields #[vl,vu,.none] } } σ H3 x v vl vu l u s3.heap.objs.size Q I4 r1 (Heap.IsSliceOf.new ..) pl pu q3;show wpAny (model X.prog X.w) X.A (subscriptTail e (.Slice lo hi none p2) v (.ref s3.heap.objs.size)) (EP X pins σ Q) X.xe { s3 with heap:=s3.heap.push { cls:=.type "slice",data:=.fields #[vl,vu,.none] } };exact tail_any (ops:=[.ref s3.heap.objs.size,v]) ht hT hg (by with_unfolding_all rfl)
def sr(xs:List V)(lo hi:Option Int):List V:=(xs.drop (HT.sIx xs.length 0 lo)).take (HT.sIx xs.length xs.length hi - HT.sIx xs.length 0 lo)
theorem gT(xs:List V)(lo hi:Option Int):(sr xs lo hi).length<=xs.length:=by
 unfold sr;rw [length_take,length_drop];omega
def xY(K:PySem.W.Frag):V->Option Int->Option Int->Hp->VK->Prop:=fun x lo hi H Q=>∃a xs,x=.ref a/\SqT K H a xs /\
 ¬ (HT.sIx xs.length 0 lo=0/\HT.sIx xs.length xs.length hi=xs.length)/\∀p,H p=none->Q (.ref p) (upd H p (.tup (sr xs lo hi)))
theorem uU:SlR X (xY X.K):=by
 intro pins s σ H x v vl vu lo hi sl Q I rx hs pl pu h;obtain⟨a,xs,rfl,hx,hw,q⟩:=h;cases rx;obtain⟨its,r,ht,hz⟩:=I.tuple hx;have hlen:its.toArray.size=xs.length:=by rw [size_toArray];exact r.length.symm
 refine⟨"tuple",_,PyProof.Rows.slot_tuple_getitem.lookup,ht.typeIs,?_⟩;refine HT.getItem_tuple_cut ht hs pl pu (by rw [hlen];exact hw) ?_ (by rw [hlen];exact hz);rw [hlen];refine⟨.ref s.heap.objs.size,_,I.laid (t':=s.toks) (o:=.tup (sr xs lo hi)) (fun b ob q=>Heap.get?_push_of_some _ q) (le_refl _) ?_,rfl,q _ (I.hok.fresh (le_refl _))⟩;exact⟨le_trans (gT xs lo hi) hz,_,(r.drop (HT.sIx xs.length 0 lo)).take (HT.sIx xs.length xs.length hi - HT.sIx xs.length 0 lo),IsTup.new _ _⟩
def uV(K:PySem.W.Frag):R2:=fun x y H Q=>∃a b xs ys,x=.ref a/\y=.ref b/\SqT K H a xs/\SqT K H b ys/\xs≠[]/\xs.length+ys.length<=sizeLine /\
 (ys=[]->Q (.ref a) H)/\(ys≠[]->∀p,H p=none->Q (.ref p) (upd H p (.tup (xs++ys))))
theorem bP.nil_iff{xs:List V}{us:List Value}(r:bP xs us):us=[] ↔ xs=[]:=by
 cases r with
 | nil=>simp
 | cons _ _=>simp
theorem su:OpR X (binaryOp .Add) (uV X.K):=by
 intro pins s σ H x y v u Q I rx ry h;obtain⟨a,b,xs,ys,rfl,rfl,ha,hb,hx,hz,q1,q2⟩:=h;cases rx;cases ry;obtain⟨its,r1,p1,_⟩:=I.tuple ha;obtain⟨its2,r2,p2,_⟩:=I.tuple hb;refine HT.cat_tup p1 p2 (fun z=>hx (r1.nil_iff.mp z)) (fun z=>⟨.ref a,H,I,rfl,q1 (r2.nil_iff.mp z)⟩) (fun z=>?_) (by rw [<- r1.length,<- r2.length];exact hz);refine⟨.ref s.heap.objs.size,_,I.laid (t':=s.toks) (o:=.tup (xs++ys)) (fun b ob q=>Heap.get?_push_of_some _ q) (le_refl _) ?_,rfl,q2 (fun w=>z (r2.nil_iff.mpr w)) _ (I.hok.fresh (le_refl _))⟩
 exact⟨by rw [length_append];exact hz,_,r1.append r2,IsTup.new _ _⟩
end
def ixN(n:Nat)(i:Int):Option Nat:=if 0<=i then (if i<n then some i.toNat else none) else if -(n:Int)<=i then some (i+n).toNat else none
def atI{α:Type}(xs:List α)(i:Int):Option α:=(ixN xs.length i).bind fun j=>xs[j]?
theorem sv{n:Nat}{i:Int}{j:Nat}(h:ixN n i=some j):seqIndex? i n=some j/\j<n/\-(n:Int)<=i/\i<n:=by
 unfold ixN at h
 by_cases h0:0<=i
 .rw [if_pos h0] at h
  by_cases h1:i<n
  .rw [if_pos h1] at h;have e:i.toNat=j:=Option.some.inj h;exact⟨by rw [seqIndex_of h0 h1,e],by omega,by omega,h1⟩
  .rw [if_neg h1] at h;cases h
 .rw [if_neg h0] at h
  by_cases h1:-(n:Int)<=i
  .rw [if_pos h1] at h;have e:(i+n).toNat=j:=Option.some.inj h;exact⟨by rw [seqIndex_neg (by omega) h1,e],by omega,h1,by omega⟩
  .rw [if_neg h1] at h;cases h
theorem ln{α:Type}{xs:List α}{i:Int}{v:α}(h:atI xs i=some v):∃j,seqIndex? i xs.length=some j/\xs[j]?=some v/\j<xs.length/\-(xs.length:Int)<=i/\i<xs.length:=by
 unfold atI at h
 cases e:ixN xs.length i with
 | none=>rw [e] at h;cases h
 | some j =>
  rw [e] at h;obtain⟨h1,h2,h3,h4⟩:=sv e;exact⟨j,h1,h,h2,h3,h4⟩
theorem sw{α:Type}{xs:List α}{j:Nat}{v:α}(h:xs[j]?=some v):atI xs (j:Int)=some v:=by
 have hj:j<xs.length:=(List.getElem?_eq_some_iff.mp h).1
 have e:ixN xs.length (j:Int)=some j:=by
  unfold ixN;rw [if_pos (by omega),if_pos (by omega)];simp
 unfold atI;rw [e];exact h
def sx(b:Expr):Prop:=∀o i,subscripted b false o i=operate [o,i] (getItem o i)
def IxR(X:Cx)(r:R2):Prop :=
 ∀(value slice:Expr) (pins:List (Addr×Obj)) (s:Shared) (σ:St) (H:Hp) (x y:V) (v u:Value) (Q:VK),Inv X pins σ H s->cZ x v->cZ y u->r x y H Q ->
  subscripted slice false v u=operate [v,u] (getItem v u)->wpAny (model X.prog X.w) X.A (subscriptTail value slice v u) (EP X pins σ Q) X.xe s
def MtR(X:Cx)(id:String)(r:V->List V->Hp->VK->Prop):Prop :=
 ∀(pins:List (Addr×Obj)) (s:Shared) (σ:St) (H:Hp) (x:V) (xs:List V) (v:Value) (us:List Value) (Q:VK),Inv X pins σ H s->cZ x v->bP xs us->r x xs H Q ->
  wpAny (model X.prog X.w) X.A (call (.builtin id) (v::us)) (EP X pins σ Q) X.xe s
section
variable {X:Cx}{a b:Expr}{ta tb:TE}{pos:Pos}
theorem IxR.or{r r':R2}(h:IxR X r)(h':IxR X r'):IxR X (fun x y H Q=>r x y H Q\/r' x y H Q):=by
 intro value slice pins s σ H x y v u Q I rx ry q hs
 rcases q with q|q
 .exact h value slice pins s σ H x y v u Q I rx ry q hs
 .exact h' value slice pins s σ H x y v u Q I rx ry q hs
theorem bH{r:R2}(hr:IxR X r)(ha:PE X a ta)(hb:PE X b tb)(hs:sx b):PE X (.Subscript a b pos) (tOp r ta tb):=by
 intro pins s σ H Q I h;exact Subscript_ (wG ha hb I h fun v u s2 x y H2 I2 rx ry q=>hr a b pins s2 σ H2 x y v u Q I2 rx ry q (hs _ _))
def xZ(K:PySem.W.Frag):R2:=fun x y H Q=>∃p xs i v,x=.ref p/\y=.int i/\SqL K H p xs/\atI xs i=some v/\Q v H
def x4(K:PySem.W.Frag):R2:=fun x y H Q=>∃p xs i v,x=.ref p/\y=.int i/\SqT K H p xs/\atI xs i=some v/\Q v H
def yE:R2:=fun x y H Q=>∃z i c,x=.str z/\y=.int i/\z.length<=sizeLine/\atI z.cps.toList i=some c/\Q (.str ⟨#[c]⟩) H
theorem sy:IxR X (xZ X.K):=by
 intro value slice pins s σ H x y v u Q I rx ry h hs;obtain⟨p,xs,i,z,rfl,rfl,hq,he,q⟩:=h;cases rx;obtain⟨t,rfl⟩:=ry;obtain⟨its,r,pl,hz⟩:=I.list hq;obtain⟨j,h1,h2,h3,h4,h5⟩:=ln he;obtain⟨w,ew,rw'⟩:=r.get h2;have hl:=r.length;have hn:=jY;have fin:EP X pins σ Q w s:=⟨z,H,I,rw',q⟩
 by_cases h0:0<=i
 .have hj:i.toNat=j:=by
   rw [seqIndex_of h0 h5] at h1;exact Option.some.inj h1
  exact item_listR pl.isList h0 (by omega) (by rw [hj];simpa using ew) fin hs
 .have hj:(i+(its.toArray.size:Int)).toNat=j:=by
   rw [seqIndex_neg (by omega) h4] at h1;rw [size_toArray,<- hl];exact Option.some.inj h1
  exact subscriptTail_builtinR (x:=w) pl.isList.typeIs slot_list_getitem.lookup
   (wpAny_getItem_list_neg (Q:=fun r s'=>r=w/\EP X pins σ Q r s') pl.isList (by omega) (by rw [size_toArray] <;> omega) (by omega) (by rw [hj];simpa using ew) ⟨rfl,fin⟩) hs
theorem uW:IxR X (x4 X.K):=by
 intro value slice pins s σ H x y v u Q I rx ry h hs;obtain⟨p,xs,i,z,rfl,rfl,hq,he,q⟩:=h;cases rx;obtain⟨t,rfl⟩:=ry;obtain⟨its,r,pl,hz⟩:=I.tuple hq;obtain⟨j,h1,h2,h3,h4,h5⟩:=ln he;obtain⟨w,ew,rw'⟩:=r.get h2;have hl:=r.length;have hn:=jY;have fin:EP X pins σ Q w s:=⟨z,H,I,rw',q⟩
 exact subscriptTail_builtinR (x:=w) pl.typeIs slot_tuple_getitem.lookup
  (getItem_tuple (j:=j) (Q:=fun r s'=>r=w/\EP X pins σ Q r s') pl (by omega) (by omega) (by rw [size_toArray,<- hl];exact h1) (by simpa using ew) ⟨rfl,fin⟩) hs
theorem uX:IxR X yE:=by
 intro value slice pins s σ H x y v u Q I rx ry h hs;obtain⟨z,i,c,rfl,rfl,hz,he,q⟩:=h;obtain⟨t,rfl⟩:=rx;obtain⟨t',rfl⟩:=ry;obtain⟨j,h1,h2,h3,h4,h5⟩:=ln he;have hl:z.cps.toList.length=z.length:=by simp [Str.length]
 rw [hl] at h1 h4 h5;have hn:=jY
 exact tail_any (typeIs_str s z t) slot_str_getitem.lookup (getItem_str (c:=c) (by
  have e1:decide (i < -(2^63:Int))=false:=decide_eq_false (by omega);have e2:decide (i >= 2^63)=false:=decide_eq_false (by omega);rw [e1,e2,Bool.or_false]) (by rw [h1];simpa using h2) ⟨.str ⟨#[c]⟩,H,I.tok _,⟨_,rfl⟩,q⟩) hs
theorem j3(lo hi:Option Int)(n:Nat):(sliceBounds lo hi none n).1=((HT.sIx n 0 lo:Nat):Int)/\(sliceBounds lo hi none n).2.1=((HT.sIx n n hi:Nat):Int)/\(sliceBounds lo hi none n).2.2=1:=by
 refine⟨?_,?_,rfl⟩
 .cases lo with
  | none=>simp [sliceBounds,HT.sIx]
  | some i =>
   simp only [sliceBounds,HT.sIx,Option.getD_none,show (1:Int) > 0 by decide,if_true]
   by_cases h:i<0
   .simp only [h,if_true] <;> omega
   .simp only [h,if_false] <;> omega
 .cases hi with
  | none=>simp [sliceBounds,HT.sIx]
  | some i =>
   simp only [sliceBounds,HT.sIx,Option.getD_none,show (1:Int) > 0 by decide,if_true]
   by_cases h:i<0
   .simp only [h,if_true] <;> omega
   .simp only [h,if_false] <;> omega
theorem jc(its:List Value)(lo hi:Option Int):slicePick its.toArray lo hi none=((its.drop (HT.sIx its.length 0 lo)).take (HT.sIx its.length its.length hi - HT.sIx its.length 0 lo)).toArray:=by
 obtain⟨h1,h2,h3⟩:=j3 lo hi its.toArray.size;unfold slicePick;rw [h1,h2,h3];simp only [sliceRange_one,pick_run,size_toArray] <;> rfl
def x5(K:PySem.W.Frag):V->Option Int->Option Int->Hp->VK->Prop:=fun x lo hi H Q=>∃a xs,x=.ref a/\SqL K H a xs/\∀p,H p=none->Q (.ref p) (upd H p (.lst (sr xs lo hi)))
theorem sA:SlR X (x5 X.K):=by
 intro pins s σ H x v vl vu lo hi sl Q I rx hs pl pu h;obtain⟨a,xs,rfl,hx,q⟩:=h;cases rx;obtain⟨its,r,ht,hz⟩:=I.list hx;have hlen:=r.length;refine⟨"list",_,slot_list_getitem.lookup,ht.isList.typeIs,?_⟩;refine wpAny_getItem_list_slice ht.isList hs pl pu .none (by simp) ?_ (by rw [size_toArray] <;> omega);rw [jc,<- hlen];refine⟨.ref s.heap.objs.size,_,I.laid (t':=s.toks) (o:=.lst (sr xs lo hi)) (fun b ob q=>Heap.get?_push_of_some _ q) (le_refl _) ?_,rfl,q _ (I.hok.fresh (le_refl _))⟩
 exact⟨le_trans (gT xs lo hi) hz,_,0,(r.drop (HT.sIx xs.length 0 lo)).take (HT.sIx xs.length xs.length hi - HT.sIx xs.length 0 lo),Heap.get?_push_size _ rfl⟩
def iy:V->Bool
 | .non=>true
 | .bl _=>true
 | .int _=>true
 | .str _=>true
 | _=>false
def eqV:V->V->Bool
 | .non,.non=>true
 | .bl a,.bl b=>a == b
 | .bl a,.int b=>(if a then 1 else 0) == b
 | .int a,.bl b=>a == (if b then 1 else 0)
 | .int a,.int b=>a == b
 | .str a,.str b=>a == b
 | _,_=>false
theorem uY{A:Around}{s:Shared}{y x:V}{u v:Value}(ry:cZ y u)(rx:cZ x v)(fy:iy y=true)(fx:iy x=true):SeqAt.EqAt A s u v (eqV y x):=by
 cases y with
 | non =>
  cases ry
  cases x with
  | non=>cases rx;exact SeqAt.EqAt.same _
  | bl b=>cases rx;exact SeqAt.EqAt.none_bool b
  | int b=>obtain⟨t,rfl⟩:=rx;exact SeqAt.EqAt.none_int b t
  | str b=>obtain⟨t,rfl⟩:=rx;exact SeqAt.EqAt.none_str b t
  | _=>exact absurd (show false=true from fx) Bool.false_ne_true
 | bl a =>
  cases ry
  cases x with
  | non=>cases rx;exact SeqAt.EqAt.bool_none a
  | bl b=>cases rx;exact SeqAt.EqAt.bool_bool a b
  | int b=>obtain⟨t,rfl⟩:=rx;exact SeqAt.EqAt.bool_int a b t
  | str b=>obtain⟨t,rfl⟩:=rx;exact SeqAt.EqAt.bool_str a b t
  | _=>exact absurd (show false=true from fx) Bool.false_ne_true
 | int a =>
  obtain⟨t',rfl⟩:=ry
  cases x with
  | non=>cases rx;exact SeqAt.EqAt.int_none a t'
  | bl b=>cases rx;exact SeqAt.EqAt.int_bool a t' b
  | int b=>obtain⟨t,rfl⟩:=rx;exact SeqAt.EqAt.int_int a t' b t
  | str b=>obtain⟨t,rfl⟩:=rx;exact SeqAt.EqAt.int_str a t' b t
  | _=>exact absurd (show false=true from fx) Bool.false_ne_true
 | str a =>
  obtain⟨t',rfl⟩:=ry
  cases x with
  | non=>cases rx;exact SeqAt.EqAt.str_none a t'
  | bl b=>cases rx;exact SeqAt.EqAt.str_bool a t' b
  | int b=>obtain⟨t,rfl⟩:=rx;exact SeqAt.EqAt.str_int a t' b t
  | str b=>obtain⟨t,rfl⟩:=rx;exact SeqAt.EqAt.str_str a t' b t
  | _=>exact absurd (show false=true from fx) Bool.false_ne_true
 | _=>exact absurd (show false=true from fy) Bool.false_ne_true
def eqU(x:V)(u:Value):Bool:=match u with
 | .none=>eqV .non x
 | .bool b=>eqV (.bl b) x
 | .int i _=>eqV (.int i) x
 | .str z _=>eqV (.str z) x
 | _=>false
theorem rq{x y:V}{u:Value}(r:cZ y u)(f:iy y=true):eqU x u=eqV y x:=by
 cases y with
 | non=>cases r;rfl
 | bl b=>cases r;rfl
 | int i=>obtain⟨t,rfl⟩:=r;rfl
 | str z=>obtain⟨t,rfl⟩:=r;rfl
 | _=>exact absurd (show false=true from f) Bool.false_ne_true
theorem lq{x:V}:∀{xs:List V}{us:List Value},bP xs us->xs.all iy=true->us.any (eqU x)=xs.any fun y=>eqV y x
 | _,_,.nil,_=>rfl
 | y::xs,u::us,.cons r t,f=>by
  rw [all_cons,and_eq_true] at f;rw [any_cons,any_cons,rq r f.1,lq t f.2]
theorem jd{A:Around}{s:Shared}{x:V}{v:Value}(rx:cZ x v)(fx:iy x=true):∀{xs:List V}{us:List Value},bP xs us->xs.all iy=true->∀u∈us,SeqAt.EqAt A s u v (eqU x u)
 | _,_,.nil,_=>fun u hu=>by cases hu
 | y::xs,u::us,.cons r t,f=>fun u' hu=>by
  rw [all_cons,and_eq_true] at f
  rcases mem_cons.mp hu with rfl|hu
  .rw [rq r f.1];exact uY r rx f.1 fx
  .exact jd rx fx t f.2 u' hu
def inV(x:V)(xs:List V):Bool:=xs.any fun y=>eqV y x
def rIn(K:PySem.W.Frag)(neg:Bool):R2:=fun x y H Q=>∃p xs,y=.ref p/\(SqL K H p xs\/SqT K H p xs)/\iy x=true/\xs.all iy=true/\Q (.bl (if neg then !inV x xs else inV x xs)) H
theorem oi:OpR X (compareOp .In) (rIn X.K false):=by
 intro pins s σ H x y v u Q I rx ry h;obtain⟨p,xs,rfl,hq,fx,fs,q⟩:=h;cases ry
 rcases hq with hq|hq
 .obtain⟨its,r,pl,hz⟩:=I.list hq;refine SeqAt.in_listAt (eqU x) pl.isList (fun w hw=>jd rx fx r fs w (by simpa using hw)) ⟨.bl _,H,I,rfl,?_⟩;rw [show its.toArray.any (eqU x)=its.any (eqU x) by simp,lq r fs];exact q
 .obtain⟨its,r,pl,hz⟩:=I.tuple hq;refine SeqAt.in_tupleAt (eqU x) pl (fun w hw=>jd rx fx r fs w (by simpa using hw)) ⟨.bl _,H,I,rfl,?_⟩;rw [show its.toArray.any (eqU x)=its.any (eqU x) by simp,lq r fs];exact q
theorem gi:cw X (.builtin "len") (fun xs H Q=>∃p ys,xs=[.ref p]/\(SqL X.K H p ys\/SqT X.K H p ys)/\Q (.int ys.length) H):=by
 intro pins s σ H xs us Q I r h;obtain⟨p,ys,rfl,hq,q⟩:=h;obtain⟨u,rfl,rx⟩:=lh r;cases rx;have hn:=jY
 rcases hq with hq|hq
 .obtain⟨its,r',pl,hz⟩:=I.list hq;have hlen:=r'.length;exact Calls.call_len_list pl.isList (by simp only [size_toArray] <;> omega) ⟨.int ys.length,H,I.tok _,⟨s.toks+1,by rw [size_toArray,hlen]⟩,q⟩
 .obtain⟨its,r',pl,hz⟩:=I.tuple hq;have hlen:=r'.length;exact len_tuple pl (by simp only [size_toArray] <;> omega) ⟨.int ys.length,H,I.tok _,⟨s.toks+1,by rw [size_toArray,hlen]⟩,q⟩
theorem j4:cw X (.builtin "len") (fun xs H Q=>∃z,xs=[.str z]/\z.length<=sizeLine/\Q (.int z.length) H):=by
 intro pins s σ H xs us Q I r h;obtain⟨z,rfl,hz,q⟩:=h;obtain⟨u,rfl,t,rfl⟩:=lh r;have hn:=jY;exact len_str (by omega) ⟨.int z.length,H,I.tok _,⟨_,rfl⟩,q⟩
theorem cw.or{f:Value}{r r':List V->Hp->VK->Prop}(h:cw X f r)(h':cw X f r'):cw X f (fun xs H Q=>r xs H Q\/r' xs H Q):=by
 intro pins s σ H xs us Q I rs q
 rcases q with q|q
 .exact h pins s σ H xs us Q I rs q
 .exact h' pins s σ H xs us Q I rs q
theorem j5:cw X (.type "list") (fun xs H Q=>∃p ys,xs=[.ref p]/\(SqL X.K H p ys\/SqT X.K H p ys)/\∀l,H l=none->Q (.ref l) (upd H l (.lst ys))):=by
 intro pins s σ H xs us Q I r h;obtain⟨p,ys,rfl,hq,q⟩:=h;obtain⟨u,rfl,rx⟩:=lh r;cases rx
 have fin:∀(its:List Value),bP ys its->ys.length<=sizeLine->∀(h':Heap) (c':Nat),(∀b o',s.heap.get? b=some o'->h'.get? b=some o') ->
   h'.get? s.heap.objs.size=some { cls:=.type "list",dict:=none,data:=.seq its.toArray c',slots:=#[] }->EP X pins σ Q (.ref s.heap.objs.size) { s with heap:=h' }:=fun its r' hz h' c' kp e =>
  ⟨.ref s.heap.objs.size,_,I.laid (t':=s.toks) kp (le_refl _) (show cv X.prog X.w _ h' _ (.lst ys) from ⟨hz,its,c',r',e⟩),rfl,q _ (I.hok.fresh (le_refl _))⟩
 rcases hq with hq|hq
 .obtain⟨its,r',pl,hz⟩:=I.list hq;have hlen:=r'.length;obtain⟨o,ho,hc,n,hd⟩:=pl.isList;exact call_list_seq p (.inl rfl) ho hc hd (fun h' c' kp e=>fin its r' hz h' c' kp e) (by simp only [size_toArray] <;> omega)
 .obtain⟨its,r',pl,hz⟩:=I.tuple hq;have hlen:=r'.length;obtain⟨o,ho,hc,n,hd⟩:=pl;exact call_list_seq p (.inr rfl) ho hc hd (fun h' c' kp e=>fin its r' hz h' c' kp e) (by simp only [size_toArray] <;> omega)
theorem je:cw X (.type "tuple") (fun xs H Q=>∃p ys,xs=[.ref p]/\((SqL X.K H p ys/\∀l,H l=none->Q (.ref l) (upd H l (.tup ys)))\/(SqT X.K H p ys/\Q (.ref p) H))):=by
 intro pins s σ H xs us Q I r h;obtain⟨p,ys,rfl,h⟩:=h;obtain⟨u,rfl,rx⟩:=lh r;cases rx
 rcases h with ⟨hq,q⟩|⟨hq,q⟩
 .obtain⟨its,r',pl,hz⟩:=I.list hq;have hlen:=r'.length;refine call_tuple_list pl.isList (fun h' kp=>?_) (by simp only [size_toArray] <;> omega);have I1:Inv X pins σ H { s with heap:=h' }:=I.kept (t':=s.toks) kp
  have I2:Inv X pins σ (upd H h'.objs.size (.tup ys)) { s with heap:=h'.push { cls:=.type "tuple",data:=.seq its.toArray } } :=
   I1.laid (t':=s.toks) (fun b o e=>Heap.get?_push_of_some _ e) (le_refl _) (show cv X.prog X.w _ _ _ (.tup ys) from ⟨hz,its,r',IsTup.new _ _⟩)
  exact⟨.ref h'.objs.size,_,I2,rfl,q _ (I1.hok.fresh (le_refl _))⟩
 .obtain⟨its,r',pl,hz⟩:=I.tuple hq;exact call_tuple_same pl ⟨.ref p,H,I,rfl,q⟩
def tyV(K:PySem.W.Frag)(T:String)(x:V)(H:Hp):Prop:=match x with
 | .str _=>T="str"
 | .int _=>T="int"
 | .ref p=>(T="list"/\∃xs,SqL K H p xs)\/(T="tuple"/\∃o,K.lookup p=some o/\o.cls=.type "tuple"/\o.dict=none) \/
   (T="dict"/\((∃kvs,H p=some (.dK kvs))\/∃kvs,H p=some (.dT kvs)))\/(T="set"/\∃S n,H p=some (.set S n))
 | _=>False
theorem rz{pins:List (Addr×Obj)}{σ:St}{H:Hp}{s:Shared}{T:String}{x:V}{v:Value}(I:Inv X pins σ H s)(r:cZ x v)(ty:tyV X.K T x H) :
  s.TypeIs v T/\∀a,v=.ref a->∃ob,s.heap.get? a=some ob/\ob.dict=none:=by
 cases x with
 | str z =>
  obtain⟨t,rfl⟩:=r;cases (show T="str" from ty);exact⟨typeIs_str s z t,fun _ e=>nomatch e⟩
 | int i =>
  obtain⟨t,rfl⟩:=r;cases (show T="int" from ty);exact⟨typeIs_int s i t,fun _ e=>nomatch e⟩
 | ref p =>
  cases r
  rcases ty with ⟨rfl,xs,hq⟩|⟨rfl,o,hk,hc,hd⟩|⟨rfl,hk⟩|⟨rfl,S,n,hk⟩
  .obtain⟨its,_,pl,_⟩:=I.list hq;refine⟨pl.isList.typeIs,fun a e=>?_⟩;cases e;obtain⟨o,n,e,c,hd,_⟩:=pl;exact⟨o,e,hd⟩
  .refine⟨⟨o,I.kIn p o hk,hc⟩,fun a e=>?_⟩;cases e;exact⟨o,I.kIn _ o hk,hd⟩
  .have z:∃o,s.heap.get? p=some o/\o.ExactDict:=by
    rcases hk with ⟨kvs,hk⟩|⟨kvs,hk⟩
    .obtain⟨_,_,_,_,o,_,_,e,ex,_⟩:=I.hok p _ hk;exact⟨o,e,ex⟩
    .obtain⟨_,_,_,_,o,_,_,e,ex,_⟩:=I.hok p _ hk;exact⟨o,e,ex⟩
   obtain⟨o,e,ex⟩:=z;refine⟨⟨o,e,ex.1⟩,fun a e2=>?_⟩;cases e2;exact⟨o,e,ex.2.1⟩
  .obtain⟨o,_,_,_,e,ex,_⟩:=I.hok p _ hk;refine⟨⟨o,e,ex.1⟩,fun a e2=>?_⟩;cases e2;exact⟨o,e,ex.2.1⟩
 | _=>exact False.elim ty
def x6(K:PySem.W.Frag)(T:String)(r:V->List V->Hp->VK->Prop)(to:TE):TE:=fun σ H Q=>to σ H fun x H1=>tyV K T x H1/\r x [] H1 Q
def tBM(K:PySem.W.Frag)(T:String)(r:V->List V->Hp->VK->Prop)(to:TE)(t:TA):TE:=fun σ H Q=>to σ H fun x H1=>tyV K T x H1/\t σ H1 fun xs H2=>r x xs H2 Q
variable {o e:Expr}{es:List Expr}{to:TE}{t:TA}{name:Str}{apos cpos:Pos}{T id:String}{r:V->List V->Hp->VK->Prop}
theorem uZ(pa:PlainAttrs T)(slot:Slot T name id)(hty:typeOf (.builtin id)=pure (.type "method_descriptor"))(hm:MtR X id r)(ho:PE X o to)
  (hbase:attributeBase o name X.env (eval o X.env)=eval o X.env:=by rfl) (hline:(apos.endLine == cpos.line)=true:=by rfl):PE X (.Call (.Attribute o name apos) [] [] cpos) (x6 X.K T r to):=by
 intro pins s σ H Q I h;refine wpAny_Call_method0_late hbase hline (thn (ho pins s σ H _ I h) fun v s1 ⟨x,H1,I1,r1,ty,q1⟩=>?_);obtain⟨h1,h2⟩:=rz I1 r1 ty;exact⟨T,id,pa,slot,hty,h1,h2,Calls.callWith_builtin rfl (PySem.evalArgs_none (hm pins s1 σ H1 x [] v [] Q I1 r1 .nil q1))⟩
theorem wQ(pa:PlainAttrs T)(slot:Slot T name id)(hty:typeOf (.builtin id)=pure (.type "method_descriptor"))(hm:MtR X id r)(ho:PE X o to)(ha:PA X (e::es) t)
  (hbase:attributeBase o name X.env (eval o X.env)=eval o X.env:=by rfl)
  (hfew:((backTo cpos (starEach (e::es) X.env)).all (fun x=>!x.1) && (backToKw cpos (keywordEach [] X.env)).all (fun x=>x.1.isSome)
   && decide ((e::es).length+([]:List Keyword).length+(if ([]:List Keyword).isEmpty then 0 else 1)<30))=true:=by rfl)
  (hline:(apos.endLine == cpos.line)=true:=by rfl) (hs:starEach (e::es) X.env=(false,eval e X.env)::starEach es X.env:=by rfl) (hplain:(backTo cpos (starEach es X.env)).any (·.1)=false:=by rfl) :
  PE X (.Call (.Attribute o name apos) (e::es) [] cpos) (tBM X.K T r to t):=by
 intro pins s σ H Q I h;refine wpAny_Call_method_late hbase hfew hline rfl (thn (ho pins s σ H _ I h) fun v s1 ⟨x,H1,I1,r1,ty,q1⟩=>?_);obtain⟨h1,h2⟩:=rz I1 r1 ty;refine⟨T,id,pa,slot,hty,h1,h2,?_⟩;have hA:=ha cpos pins s1 σ H1 _ I1 q1;rw [hs] at hA ⊢;refine Calls.callWith_builtin (by show (false || (backTo cpos (starEach es X.env)).any (·.1))=false;rw [hplain] <;> rfl) (Calls.evalArgs_plain ?_);exact thn hA fun us s2 ⟨vs,H2,I2,r2,q2⟩=>hm pins s2 σ H2 x vs v us Q I2 r1 r2 q2
end
def MtM(X:Cx)(id:String)(r:V->List V->Hp->VK->Prop):Prop :=
 ∀(pins:List (Addr×Obj)) (s:Shared) (σ:St) (H:Hp) (x:V) (xs:List V) (v:Value) (us:List Value) (Q:VK),Inv X pins σ H s->cZ x v->bP xs us->r x xs H Q ->
  wpAny (model X.prog X.w) X.A (call (.builtin id) (v::us)) (EP X pins σ Q) X.xe s
theorem bP.one:∀{x:V}{us:List Value},bP [x] us->∃u,us=[u]/\cZ x u
 | _,_,.cons r .nil=>⟨_,rfl,r⟩
theorem bP.zero:∀{us:List Value},bP [] us->us=[]
 | _,.nil=>rfl
theorem bP.dropLast{xs:List V}{us:List Value}(h:bP xs us):bP xs.dropLast us.dropLast:=by
 induction h with
 | nil=>exact .nil
 | cons r t ih =>
  cases t with
  | nil=>exact .nil
  | cons q t'=>exact .cons r ih
theorem bP.reverse{xs:List V}{us:List Value}(h:bP xs us):bP xs.reverse us.reverse:=by
 induction h with
 | nil=>exact .nil
 | cons r t ih=>rw [reverse_cons,reverse_cons];exact bP.append ih (.cons r .nil)
theorem bP.rep{xs:List V}{us:List Value}(h:bP xs us):∀k:Nat,bP (List.replicate k xs).flatten (List.replicate k us).flatten
 | 0=>.nil
 | k+1=>by
  rw [replicate_succ,replicate_succ,flatten_cons,flatten_cons];exact bP.append h (bP.rep h k)
theorem nh{α:Type}(l:List α):l.eraseIdx (l.length - 1)=l.dropLast:=by
 induction l with
 | nil=>rfl
 | cons a r ih =>
  cases r with
  | nil=>rfl
  | cons b r =>
   have e:(a::b::r).length - 1=((b::r).length - 1)+1:=by
    have h1:(a::b::r).length=r.length+2:=rfl;have h2:(b::r).length=r.length+1:=rfl;omega
   rw [e,eraseIdx_cons_succ,ih]
   all_goals rfl
theorem j6(its:List Value):∀(k:Nat) (acc:List Value),
  List.foldl (fun x1 x2=>x1++x2) acc.toArray (List.replicate k its.toArray)=(acc++(List.replicate k its).flatten).toArray
 | 0,acc=>by simp
 | k+1,acc=>by
  have e:acc.toArray++its.toArray=(acc++its).toArray:=by simp
  have e2:(acc++its)++(List.replicate k its).flatten=acc++(List.replicate (k+1) its).flatten:=by
   rw [replicate_succ,flatten_cons,append_assoc]
  rw [<- e2,<- j6 its k (acc++its),<- e,replicate_succ,foldl_cons]
section
variable {X:Cx}{pins:List (Addr×Obj)}{σ:St}{H:Hp}{s:Shared}{l b:Addr}{xs ys zs:List V}
theorem Inv.lset{its its':List Value}{n:Nat}{f:Array Value->Array Value}{t':Nat}(I:Inv X pins σ H s)(hH:H l=some (.lst xs))
  (e:s.heap.get? l=some { cls:=.type "list",data:=.seq its.toArray n }) (hf:f its.toArray=its'.toArray) (hv:bP ys its') (hz:ys.length<=sizeLine) :
  Inv X pins σ (upd H l (.lst ys)) { s with heap:=s.heap.update l (Obj.mapSeq f),toks:=t' }:=by
 have q:=PySem.IsL.update e f;rw [hf] at q;refine I.write (x:=l) (e:=l) (by rw [hH];exact trivial) (.inl rfl) (fun b' u hb hu=>(Heap.get?_update_other s.heap (Obj.mapSeq f) (Ne.symm hb)).trans hu) ⟨_,q⟩ ?_;exact⟨hz,its',_,hv,q⟩
theorem Inv.lnew{its:List Value}{t':Nat}(I:Inv X pins σ H s)(hv:bP ys its)(hz:ys.length<=sizeLine) :
  Inv X pins σ (upd H s.heap.objs.size (.lst ys)) { s with heap:=s.heap.push { cls:=.type "list",data:=.seq its.toArray },toks:=t' } :=
 I.laid (fun _ _ q=>Heap.get?_push_of_some _ q) (le_refl _) ⟨hz,its,0,hv,Heap.get?_push_size _ rfl⟩
theorem Inv.fresh(I:Inv X pins σ H s):H s.heap.objs.size=none:=I.hok.fresh (le_refl _)
theorem Inv.lstM(I:Inv X pins σ H s)(hH:H l=some (.lst xs)):xs.length<=sizeLine/\∃(its:List Value) (n:Nat),bP xs its/\xs.length=its.length/\s.heap.get? l=some { cls:=.type "list",data:=.seq its.toArray n }:=by
 obtain⟨z,its,n,r,e⟩:=I.hok l _ hH;exact⟨z,its,n,r,r.length,e⟩
theorem qp{n:Nat}(h:n<=sizeLine):Builtin.List.listTooLong n=false:=by
 unfold Builtin.List.listTooLong;exact decide_eq_false (by omega)
end
section
variable {X:Cx}
def oj:V->List V->Hp->VK->Prop:=fun x vs H Q=>∃l xs y,x=.ref l/\vs=[y]/\H l=some (.lst xs)/\xs.length<sizeLine/\Q .non (upd H l (.lst (xs++[y])))
theorem dE:MtM X "list.append" oj:=by
 intro pins s σ H x vs v us Q I rx rv h;obtain⟨l,xs,y,rfl,rfl,hH,hz,q⟩:=h;cases rx;obtain⟨u,rfl,ru⟩:=rv.one;obtain⟨z,its,n,r,hl,e⟩:=I.lstM hH;refine call_meets F.slot_list_append ⟨_,e,rfl⟩ F.entry_list_append (F.args_list_append_2 _ _) (PySem.list_append l its.toArray n u (by rw [size_toArray];omega)) ⟨e,?_⟩;refine⟨.non,_,I.lset (its':=its++[u]) hH e (by simp) (r.append (.cons ru .nil)) ?_,rfl,q⟩;rw [length_append,length_singleton]
 omega
def x8:V->List V->Hp->VK->Prop:=fun x vs H Q=>∃l xs y,x=.ref l/\vs=[]/\H l=some (.lst xs)/\xs[xs.length - 1]?=some y/\Q y (upd H l (.lst xs.dropLast))
theorem u4:MtM X "list.pop" x8:=by
 intro pins s σ H x vs v us Q I rx rv h;obtain⟨l,xs,y,rfl,rfl,hH,hy,q⟩:=h;cases rx;have hus:=rv.zero;subst hus;obtain⟨z,its,n,r,hl,e⟩:=I.lstM hH;obtain⟨u,hu,ru⟩:=r.get hy
 have hy':its.toArray[its.toArray.size - 1]?=some u:=by
  show its.toArray[its.length - 1]?=some u;rw [<- Array.getElem?_toList,<- hl];exact hu
 refine call_meets F.slot_list_pop ⟨_,e,rfl⟩ F.entry_list_pop (F.args_list_pop_1 _) (MeetsSeq.list_pop_last l its.toArray n u hy' (by rw [size_toArray];omega)) ⟨e,?_⟩
 refine⟨y,_,I.lset (its':=its.dropLast) hH e ?_ r.dropLast ?_,ru,q⟩
 .show its.toArray.eraseIdxIfInBounds (its.toArray.size - 1)=its.dropLast.toArray;rw [size_toArray,eraseIdxIfInBounds_toArray,nh]
 .rw [length_dropLast];omega
def x9:R2:=fun x y H Q=>∃l k xs,x=.ref l/\y=.int k/\H l=some (.lst xs)/\-(2^63)<=k/\k<2^63/\xs.length*k.toNat<=sizeLine /\
 ∀p,H p=none->Q (.ref p) (upd H p (.lst (List.replicate k.toNat xs).flatten))
theorem sB{α:Type}(xs:List α)(k:Nat):(List.replicate k xs).flatten.length=k*xs.length:=by
 induction k with
 | zero=>simp
 | succ k ih=>rw [replicate_succ,flatten_cons,length_append,ih,succ_mul,add_comm]
theorem u5:OpR X (binaryOp .Mult) x9:=by
 intro pins s σ H x y v u Q I rx ry h;obtain⟨l,k,xs,rfl,rfl,hH,h1,h2,hz,q⟩:=h;cases rx;obtain⟨t,rfl⟩:=ry;obtain⟨z,its,n,r,hl,e⟩:=I.lstM hH;have hlen:its.toArray.size*k.toNat<=sizeLine:=by rw [size_toArray,<- hl];exact hz
 have hcap:¬ its.toArray.size*k.toNat > (2^63 - 1) / 8:=by
  have:(sizeLine:Nat)<=(2^63 - 1) / 8:=by decide
  omega
 have hfit:¬ (!Builtin.List.listFitsIndex k)=true:=by
  rw [fitsIndex_both h1 h2];exact Bool.false_ne_true
 have hlong:¬ Builtin.List.listTooLong (its.toArray.size*k.toNat)=true:=by
  rw [qp hlen];exact Bool.false_ne_true
 have hnew:List.foldl (fun x1 x2=>x1++x2) #[] (List.replicate (if its.toArray.isEmpty=true then 0 else k.toNat) its.toArray)=(List.replicate k.toNat its).flatten.toArray:=by
  have f0:∀m:Nat,List.foldl (fun x1 x2=>x1++x2) #[] (List.replicate m its.toArray)=(List.replicate m its).flatten.toArray:=fun m=>by
   have:=j6 its m [];rw [nil_append] at this;exact this
  rw [f0]
  cases its with
  | nil=>simp
  | cons a r'=>rw [if_neg (by simp)]
 refine wpAny_binaryOp_repeat_ref (T:="list") (U:="int") (by decide) ⟨_,e,rfl⟩ (fun s'=>typeIs_int s' k t) noFill_list_mul F.fills_int_mul F.slot_int_rmul repeat_list F.slot_int_index.lookup
  (call_meets F.slot_int_rmul (typeIs_int s k t) F.entry_int_rmul (F.args_int_rmul_2 _ _) (int___rmul___int_list k t l its.toArray n)
   ⟨e,rfl,⟨_,e,rfl⟩,call_meets F.slot_list_mul ⟨_,e,rfl⟩ F.entry_list_mul (F.args_list_mul_2 _ _) (AutoListH.list___mul___list_int_3 l its.toArray n k t hfit hcap hlong) ⟨e,?_⟩⟩)
 rw [hnew];exact⟨.ref _,_,I.lnew (t':=s.toks) (r.rep k.toNat) (by rw [sB,mul_comm];exact hz),rfl,q _ I.fresh⟩
end
end L2
namespace Att
open PySem PySem.W PySem.Calls PyProof.Rows
theorem gU{P:Params}{h:Heap}:∀(ns:List Int) (vs:List Value),WellAll P h vs (ns.map WData.int)->IntsAre vs ns:=by
 intro ns
 induction ns with
 | nil =>
  intro vs w;rw [map_nil] at w;cases w;exact .nil
 | cons n ns ih =>
  intro vs w;rw [map_cons] at w
  cases w with
  | cons a b =>
   cases a;exact .cons _ _ (ih _ b)
theorem om{l:OpenLaw}{n:Nat}(hn:l.most=some n){P:Params}{h:Heap}{args:List WData}{vals:List Value}
  (hpre:l.row.toRowW.claim.pre args=true) (hwl:WellAll P h vals args) :
  ∃a vs ns,vals=[Value.ref a]/\args=[WData.list (ns.map WData.int)]/\h.get? a=some { cls:=.type "list",data:=.seq vs.toArray }/\IntsAre vs ns/\ns.length<=n:=by
 have hsh:WShape.hasAll [] args [.list .int]=true:=(pre_splitW hpre).1;have hc:l.pre.holds [] { args:=args }=true:=(pre_splitW hpre).2;obtain⟨d,r,rfl,h1,h2⟩:=hasAllW_cons hsh;obtain rfl:=hasAllW_nil h2;obtain⟨xs,rfl,h3⟩:=hasW_list h1;obtain⟨ns,rfl⟩:=items_int h3
 have hlen:ns.length<=n:=by
  unfold OpenLaw.pre at hc
  have h4:(WTm.not (.lt (.lit (.int (n:Int))) (.len (.arg 0)))).holds [] { args:=[.list (ns.map .int)] }=true:=by
   have h4:=(holds_andW hc).1;rw [hn] at h4;exact h4
  have h5:=condW_of h4 (w_not (w_lt w_lit (w_len_list (w_arg rfl))));rw [length_map] at h5;refine le_of_not_lt fun q=>?_;have q':(n:Int)<((ns.length:Nat):Int):=by omega
  first
   | (rw [decide_eq_true q'] at h5;exact absurd h5 (by decide))
   | (simp at h5;omega)
 cases hwl with
 | cons w1 w2 =>
  cases w2
  cases w1 with
  | list ho hall=>exact⟨_,_,ns,rfl,rfl,ho,gU ns _ hall,hlen⟩
theorem oq(l:OpenLaw)(args:List WData):l.row.toRowW.claim.post args (.bool true) args=true :=
 postW_of (r:=l.row.toRowW) (X:=(true == true))
  (show WShape.has [] (.bool true) .bool=true by first|rfl|decide|simp [WShape.has,WShape.arms,WShape.armsAll])
  (show (WTm.eq .res (.lit (.bool true))).value [] { args:=args,res:=some (.bool true),after:=args }=some (.bool (true == true)) from w_eq_bool (w_res rfl) w_lit) rfl
theorem attach_call{l:OpenLaw}{n:Nat}{q:Program}{loose:List Str}{XP:(Str->Option Value)->Heap->Prop}{YP:World->Heap->Prop}{d:DefRec}
  (hn:l.most=some n) (hdf:d.params.defaults=[])
  (call:∀(w:World) (s₀ s₁:Shared) (mg mb:Str->Option Value) (fa:Addr) (o:Obj) (pm cd doc:Value) (a:Addr) (vs:List Value) (ns:List Int),
   Ground q loose [] XP w s₀ mg mb s₁.heap->YP w s₁.heap ->
   s₁.heap.get? fa=some o->o.data=.func (docDef d.name d.params d.body d.scope pm cd doc)->s₁.heap.CodeRec cd d.name->mg d.name=some (.ref fa) ->
   s₁.heap.get? a=some { cls:=.type "list",data:=.seq vs.toArray }->IntsAre vs ns->ns.length<=n->s₁.gens=#[] ->
   codeAny (model l.prog w) callerA (.call (.ref fa) ⟨[.ref a],[]⟩) (fun r s'=>r=.ok (.ret (.bool true))/\OldK s₁.heap s'.heap/\s'.os=s₁.os/\AllBare s'.gens) s₁) :
  WalkO q loose XP YP l.row.toRowW d [] (fun f vs=>PySem.call f vs):=by
 intro w s₀ s₁ mg mb G Y fa o pm cd doc dV kV ho hd hcd hD hmg hg args vals as hpre hlay hrd hwl hlo;obtain rfl:dV=.none:=Dflts.none hD hdf;obtain rfl:kV=.none:=Dflts.noKw hD;obtain⟨a,vs,ns,rfl,rfl,hobj,hints,hlen⟩:=om hn hpre hwl;refine enter_call (codeAny_mono (call w s₀ s₁ mg mb fa o pm cd doc a vs ns G Y ho (fd_plain hd) hcd hmg hobj hints hlen hg) fun r s' hq=>?_);obtain⟨rfl,h2,h3,h4⟩:=hq;exact⟨.inl ⟨.bool true,.bool true,[],rfl,fun _=>rfl,.bool true,oq l _,fun _=>⟨List.Pairwise.nil,fun _ hm=>(nomatch hm)⟩⟩,h2,h3,h4⟩
end Att
namespace L2
open PySem PySem.Spec PyProof.Rows
theorem gW:∀{vs:List Value}{ns:List Int},IntsAre vs ns->bP (ns.map V.int) vs
 | _,_,.nil=>.nil
 | _,_,.cons n t h=>.cons ⟨t,rfl⟩ (gW h)
def wR(H:Hp):Prop:=∀b,H b=none\/∃o xs,H b=some (.frz o (.lst xs))
theorem qq{P:Program}{w:World}{K:PySem.W.Frag}{mg mb:Str->Option Value}{CX:CXT}{k:Nat}{fa a:Addr}{fd:FuncData}{x:Str}{sp:Sp}{s₁:Shared}{vs:List Value}{ns:List Int}
  (KX:K.In s₁.heap) (hns:s₁.heap.Ns mainGlobals mg) (hb:s₁.heap.Ns builtinsNs mb) (hbb:∀x:Str,x≠"__name__"->mb x=bootBuiltins x) (hlim:s₁.heap.NoLimit) (hg:s₁.gens=#[])
  (ha:s₁.heap.get? a=some { cls:=.type "list",data:=.seq vs.toArray }) (hi:IntsAre vs ns) (hl:ns.length<=sizeLine) (hr:gN k callerA)
  (F:∀base:Heap,K.In base->base.Ns mainGlobals mg->me P w K mg base CX k fa fd [x] sp) (hbind:∀(s:Shared) (u:Value),BindsTo s fd ⟨[u],[]⟩ [(x,u)])
  (hsp:∀H:Hp,wR H->SqL K H a (ns.map V.int)->sp [.ref a] H (fun v _=>v=.bl true) fun _ _ _=>False)
  (hCX:∀H e s',CX [] H s₁ (fun _ _ _=>False) e s'->False) :
  codeAny (model P w) callerA (.call (.ref fa) ⟨[.ref a],[]⟩) (fun r s'=>r=.ok (.ret (.bool true))/\OldK s₁.heap s'.heap/\s'.os=s₁.os/\AllBare s'.gens) s₁:=by
 have rv:=gW hi;have lenV:=hi.length
 -- from an abstract heap in which nothing but the script may be tracked
 have core:∀H:Hp,wR H->SqL K H a (ns.map V.int)->HOk P w H s₁.heap->(∀b,H b≠none->b=a)->(H a≠none->K.lookup a=none) ->
   codeAny (model P w) callerA (.call (.ref fa) ⟨[.ref a],[]⟩) (fun r s'=>r=.ok (.ret (.bool true))/\OldK s₁.heap s'.heap/\s'.os=s₁.os/\AllBare s'.gens) s₁:=by
  intro H hO hS hok hA hK;have base_of:∀{b:Addr}{o:Obj},s₁.heap.get? b=some o->H b=none->(qf s₁.heap H).get? b=some o:=fun e n=>qg e n
  have noA:∀{b:Addr}{o:Obj}{es:Array DictEntry}{ep:Nat},s₁.heap.get? b=some o->o.data=.dict es ep->H b=none:=fun {b o es ep} e d=>by
   cases q:H b with
   | none=>rfl
   | some u =>
    have e':b=a:=hA b (by rw [q];simp);subst e';rw [ha] at e;cases e;have d':Data.seq vs.toArray _=Data.dict es ep:=d;cases d'
  have nsK:∀{b:Addr}{m:Str->Option Value},s₁.heap.Ns b m->(qf s₁.heap H).Ns b m:=fun {b m} ⟨o,es,ep,e,d,r⟩=>⟨o,es,ep,base_of e (noA e d),d,r⟩
  have hKb:K.In (qf s₁.heap H):=fun b o e=>base_of (KX b o e) (by
   cases q:H b with
   | none=>rfl
   | some u =>
    have e':b=a:=hA b (by rw [q];simp);subst e';rw [hK (by rw [q];simp)] at e;cases e)
  have hM:Mod K mg (qf s₁.heap H):=⟨hKb,nsK hns,⟨mb,nsK hb,hbb⟩,let ⟨mc,h1,h2⟩:=hlim;⟨mc,nsK h1,h2⟩⟩
  have e0:wx P w K mg (qf s₁.heap H) callerA [] s₁ H:=⟨rfl,hM,fun b o e=>r8 e,le_of_eq (nM _ _),trivial,fun b hb=>absurd (show b∈([]:List Addr) from hb) (by simp),hok,.of_eq hg⟩
  refine codeAny_mono ((F _ hKb (nsK hns)).run callerA [] s₁ H ⟨[.ref a],[]⟩ [.ref a] [.ref a] _ _ hr e0 (hbind s₁ (.ref a)) (.cons rfl .nil) (hsp H hO hS)) fun r s' h=>?_
  cases r with
  | error e=>exact (hCX H e s' h).elim
  | ok fl =>
   cases fl with
   | next=>exact False.elim h
   | brk=>exact False.elim h
   | cont=>exact False.elim h
   | ret u =>
    obtain⟨v,H',os,bare,un,hok',r',q⟩:=h;have q':v=.bl true:=q;subst q';obtain rfl:u=Value.bool true:=r';refine⟨rfl,OldK.of_keep fun b o e=>?_,os,bare⟩
    cases q:H b with
    | none=>exact un.keep b o e q (by intro z;exact absurd (show b∈([]:List Addr) from z) (by simp)) (by simp)
    | some u =>
     rcases hO b with z|⟨ob,xs,z⟩
     .rw [q] at z;cases z
     .have z2:=un.frzs b ob _ z;obtain⟨e1,_⟩:=hok b _ z;obtain⟨e2,_⟩:=hok' b _ z2;rw [e] at e1;cases e1;exact e2
 cases hk:K.lookup a with
 | some o =>
  -- the script is one of the module's own objects
  have e:=KX a o hk;rw [ha] at e;cases e;refine core (fun _=>none) (fun _=>.inl rfl) (.inr ⟨_,vs.toArray,_,hk,rfl,rfl,rfl,by rw [size_toArray,lenV];exact hl,by simpa using rv⟩) (fun b u z=>by have z':(none:Option HO)=some u:=z;cases z') (fun b z=>absurd rfl z) fun z=>absurd rfl z
 | none =>
  refine core (fun b=>if b=a then some (.frz { cls:=.type "list",data:=.seq vs.toArray } (.lst (ns.map V.int))) else none) (fun b=>?_) (.inl (.inr ⟨{ cls:=.type "list",data:=.seq vs.toArray },if_pos rfl⟩)) (fun b u z=>?_) (fun b z=>?_) fun _=>hk
  .by_cases hb:b=a
   .exact .inr ⟨_,_,if_pos hb⟩
   .exact .inl (if_neg hb)
  .by_cases hb:b=a
   .have z':=(if_pos hb).symm.trans z;cases z';subst hb;exact⟨ha,by rw [length_map];exact hl,vs,_,rv,ha⟩
   .have z':=(if_neg hb).symm.trans z;cases z'
  .by_cases hb:b=a
   .exact hb
   .exact absurd (if_neg hb) z
theorem sC{l:PySem.W.OpenLaw}{n k:Nat}{q:Program}{loose:List Str}{XP:(Str->Option Value)->Heap->Prop}{YP:World->Heap->Prop}{d:DefRec}{K:Params->PySem.W.Frag}{CX:World->CXT}{sp:World->Sp}{x:Str}
  (hn:l.most=some n) (hn2:n<=sizeLine) (hdf:d.params.defaults=[]) (hr:gN k callerA)
  (hY:∀(w:World) (h:Heap),YP w h->(K w.params).In h)
  (F:∀(w:World) (mg:Str->Option Value) (fa:Addr) (h:Heap),(K w.params).In h->h.Ns mainGlobals mg->mg d.name=some (.ref fa) ->
   ∃fd:FuncData,(∀(s:Shared) (u:Value),BindsTo s fd ⟨[u],[]⟩ [(x,u)]) /\
    ∀base:Heap,(K w.params).In base->base.Ns mainGlobals mg->me l.prog w (K w.params) mg base (CX w) k fa fd [x] (sp w))
  (hsp:∀(w:World) (H:Hp) (a:Addr) (ns:List Int),ns.length<=n->wR H->SqL (K w.params) H a (ns.map V.int)->sp w [.ref a] H (fun v _=>v=.bl true) fun _ _ _=>False)
  (hCX:∀(w:World) (H:Hp) (s:Shared) (e:Value) (s':Shared),CX w [] H s (fun _ _ _=>False) e s'->False) :
  PySem.W.WalkO q loose XP YP l.row.toRowW d [] (fun f vs=>PySem.call f vs):=by
 refine Att.attach_call hn hdf fun w s₀ s₁ mg mb fa o pm cd doc a vs ns G Y ho hd hcd hmg hobj hints hlen hg=>?_;have KX:=hY w _ Y;obtain⟨fd,hb,hF⟩:=F w mg fa _ KX G.T.g hmg;exact qq KX G.T.g G.T.b G.T.builtins G.T.nolimit hg hobj hints (le_trans hlen hn2) hr hF hb (fun H hO hS=>hsp w H a ns hlen hO hS) fun H e s'=>hCX w H s₁ e s'
def cj(s:Stmt):Arguments:=match s with
 | .FunctionDef _ a _ _ _ _ _ _ _ _=>a
 | _=>{ posonlyargs:=[],args:=[],vararg:=none,kwonlyargs:=[],kw_defaults:=[],kwarg:=none,defaults:=[] }
def bR(s:Stmt):List Stmt:=match s with
 | .FunctionDef _ _ b _ _ _ _ _ _ _=>b
 | _=>[]
def aq(s:Stmt):Scope:=match s with
 | .FunctionDef _ _ _ _ _ _ sc _ _ _=>sc
 | _=>{ kind:=.function,names:=[],isGenerator:=false,isCoroutine:=false }
abbrev CX0:CXT:=fun _ _ _ _ _ _=>False
abbrev E0:XK:=fun _ _ _=>False
theorem u6{X:Cx}:n8 CX0 X E0:=fun _ _ _ _ _ _ _ h=>h.elim
structure Fun (K:PySem.W.Frag) (x qual:Str) (st:Stmt) (f:Addr) (fd:FuncData):Prop where
 ex:∃(oc:Value) (od:Option Addr) (kV doc pm:Value) (an:Option Addr) (cdv ct:Value) (osl:Array (Option Value)),
  fd=PySem.W.fnOf x qual (cj st) (bR st) (aq st) .none kV doc pm an cdv ct/\K.lookup f=some ⟨oc,od,.func fd,osl⟩/\PySem.W.codeIn K cdv qual=true
 kp:PySem.W.keepIn K (.ref f)=true
section
variable {P:Program}{w:World}{K:PySem.W.Frag}{mg:Str->Option Value}{base:Heap}
theorem Fun.ok{x qual:Str}{st:Stmt}{f:Addr}{fd:FuncData}{N ps:List Str}{k:Nat}{sp:Sp}(F:Fun K x qual st f fd)(S:ba N ps (aq st))(len:∀vs H Q E,sp vs H Q E->vs.length=ps.length)
  (hbody:∀(cdv:Value) (A:Around) (outer:List Env) (s:Shared) (H:Hp) (vs:List V) (Q:VK) (E:XK),gN k (A.deeper (envOfC qual (aq st) s.heap.objs.size f cdv))->sp vs H Q E ->
   ∃t,PSs (ro CX0 P w K mg base N qual (aq st) f cdv A outer s H E).nox (bR st) t/\t { nx:=fun _ H'=>Q .non H',rt:=Q } (start N vs) H):me P w K mg base CX0 (k+1) f fd ps sp:=by
 obtain⟨oc,od,kV,doc,pm,an,cdv,ct,osl,rfl,lk,hcd⟩:=F.ex;refine uT lk hcd S len fun A outer s H vs Q E hr hsp=>?_;obtain⟨t,h,q⟩:=hbody cdv A outer s H vs Q E hr hsp;exact⟨t,h.nox,q⟩
theorem Fun.binds{x qual:Str}{st:Stmt}{f:Addr}{fd:FuncData}{ps:List Str}(F:Fun K x qual st f fd)
  (h:∀(kV doc pm:Value) (an:Option Addr) (cdv ct:Value) (us:List Value),us.length=ps.length->bindArgs (PySem.W.fnOf x qual (cj st) (bR st) (aq st) .none kV doc pm an cdv ct) ⟨us,[]⟩=pure (ps.zip us)):lj K fd ps []:=by
 obtain⟨oc,od,kV,doc,pm,an,cdv,ct,osl,rfl,lk,hcd⟩:=F.ex;exact .all (h kV doc pm an cdv ct)
theorem u7{x qual:Str}{st:Stmt}{f:Addr}{oc:Value}{od an:Option Addr}{osl:Array (Option Value)}{kV doc pm cdv ct:Value}(l:K.lookup f=some ⟨oc,od,.func (PySem.W.fnOf x qual (cj st) (bR st) (aq st) .none kV doc pm an cdv ct),osl⟩)
  (c:PySem.W.codeIn K cdv qual=true) (k:PySem.W.keepIn K (.ref f)=true):Fun K x qual st f (PySem.W.fnOf x qual (cj st) (bR st) (aq st) .none kV doc pm an cdv ct):=⟨⟨oc,od,kV,doc,pm,an,cdv,ct,osl,rfl,l,c⟩,k⟩
end
section
variable {X:Cx}
theorem pv(i:Nat){x:Str}{pos:Pos}(hN:X.N[i]?=some x:=by rfl)(hv:Vis X.env.scope x:=by first|exact Or.inl rfl|exact Or.inr (Or.inl rfl)|exact Or.inr (Or.inr rfl))(hd:(x == ("__debug__":Str))=false:=by decide)
  (hcd:(x == ("__classdict__":Str))=false:=by decide):PE X (.Name x pos) (dB i):=uw hN hv hd hcd
end
def S(l:List Nat):Str:=⟨l.toArray⟩
theorem fj(l:List Nat):(S l).length=l.length:=by simp [S,Str.length]
theorem wS(a b:List Nat):S a++S b=S (a++b):=by
 show (⟨a.toArray++b.toArray⟩:Str)=⟨(a++b).toArray⟩
 rw [append_toArray]
theorem u8{a b:List Nat}(h:S a=S b):a=b:=by
 have h':=congrArg (fun x:Str=>x.cps.toList) h;simpa [S] using h'
theorem yF{a b:List Nat}(h:a≠b):S a≠S b:=fun e=>h (u8 e)
theorem u9{a b:List Nat}:V.str (S a)=V.str (S b) ↔ a=b:=⟨fun h=>u8 (V.str.inj h),fun h=>by rw [h]⟩
theorem va(a b:List Nat):decide (V.str (S a)=V.str (S b))=decide (a=b):=by
 by_cases h:a=b
 .rw [decide_eq_true h,decide_eq_true (u9.mpr h)]
 .rw [decide_eq_false h,decide_eq_false (fun z=>h (u9.mp z))]
def cW{α:Type}(xs:List α)(lo hi:Option Int):List α:=(xs.drop (HT.sIx xs.length 0 lo)).take (HT.sIx xs.length xs.length hi - HT.sIx xs.length 0 lo)
theorem aI{α:Type}(xs:List α)(lo hi:Option Int):(cW xs lo hi).length<=xs.length:=by
 unfold cW;rw [length_take,length_drop];omega
theorem ou(xs:List V)(lo hi:Option Int):sr xs lo hi=cW xs lo hi:=rfl
theorem vb(lo hi:Option Int)(n:Nat):Builtin.Str.strSliceIndices lo hi 1 n=(List.range (HT.sIx n n hi - HT.sIx n 0 lo)).map (fun k=>HT.sIx n 0 lo+k):=by
 have key:∀(o:Option Int) (d:Nat),d<=n->(match o with|none=>(d:Int)|some i=>max 0 (min (if i<0 then i+(n:Int) else i) (n:Int)))=((HT.sIx n d o:Nat):Int):=by
  intro o d hd
  cases o with
  | none=>rfl
  | some i =>
   show max 0 (min (if i<0 then i+(n:Int) else i) (n:Int))=_;rw [<- HT.clip_eq i n d]
   by_cases h:i<0
   .rw [if_pos h,if_pos h];omega
   .rw [if_neg h,if_neg h];omega
 have k1:=key lo 0 (zero_le _);have k2:=key hi n (le_refl _);unfold Builtin.Str.strSliceIndices;simp only [show (1:Int) > 0 by decide,if_true];refine Eq.trans (congrArg (fun a=>sliceRange a _ 1) k1) (Eq.trans (congrArg (fun b=>sliceRange _ b 1) k2) ?_);unfold sliceRange;simp only [show (1:Int) > 0 by decide,if_true];generalize HT.sIx n 0 lo=a;generalize HT.sIx n n hi=b
 have ec:(if (a:Int)<(b:Int) then ((b:Int) - (a:Int)+1 - 1) / 1 else 0).toNat=b - a:=by
  split <;> omega
 rw [ec];apply map_congr_left;intro k _;omega
theorem oy{α:Type}(l:List α)(a m:Nat):((List.range m).map (fun k=>a+k)).filterMap (fun i=>l[i]?)=(l.drop a).take m:=by
 induction m generalizing a with
 | zero=>simp
 | succ m ih =>
  rw [range_succ_eq_map,map_cons,map_map,filterMap_cons];have e:((fun k=>a+k) ∘ Nat.succ)=fun k=>(a+1)+k:=by funext k;simp;omega
  rw [e,ih (a+1)]
  cases h:l[a+0]? with
  | none =>
   have hl:l.length<=a:=by simpa using List.getElem?_eq_none_iff.mp h
   rw [drop_eq_nil_of_le hl,drop_eq_nil_of_le (by omega)];simp
  | some v =>
   have hl:a<l.length:=by simpa using (List.getElem?_eq_some_iff.mp h).1
   have hv:l[a]=v:=by simpa using (List.getElem?_eq_some_iff.mp h).2
   rw [drop_eq_getElem_cons hl,hv];rfl
theorem sD(l:List Nat)(lo hi:Option Int):Txt.slice (S l) lo hi=S (cW l lo hi):=by
 have e1:(Builtin.Str.strSliceIndices lo hi 1 (S l).length).filterMap ((S l).cps[·]?)=cW l lo hi:=by
  rw [vb,fj];have e:(fun i:Nat=>(S l).cps[i]?)=fun i:Nat=>l[i]?:=by funext i;simp [S]
  rw [e];exact oy l _ _
 unfold Txt.slice
 split
 .rename_i h;have h2:(Builtin.Str.strSliceIndices lo hi 1 (S l).length).length=(S l).length:=by simpa using h
  rw [vb,fj,length_map,length_range] at h2;have a0:=HT.sIx_le l.length 0 (zero_le _) lo;have b0:=HT.sIx_le l.length l.length (le_refl _) hi;unfold cW
  by_cases hz:l.length=0
  .have:l=[]:=length_eq_zero_iff.mp hz;subst this;simp
  .have ha:HT.sIx l.length 0 lo=0:=by omega
   have hb:HT.sIx l.length l.length hi=l.length:=by omega
   rw [ha,hb];simp
 .rw [e1];rfl
theorem dO{α:Type}(l:List α)(k:Nat):cW l none (some (k:Int))=l.take k:=by
 unfold cW;rw [HT.sIx_nat];show (l.drop 0).take (min k l.length - 0)=l.take k;rw [drop_zero,Nat.sub_zero]
 by_cases h:k<=l.length
 .rw [min_eq_left h]
 .rw [min_eq_right (by omega),take_of_length_le (le_refl _),take_of_length_le (by omega)]
theorem fk{α:Type}(l:List α)(k:Nat):cW l (some (k:Int)) none=l.drop k:=by
 unfold cW;rw [HT.sIx_nat];show (l.drop (min k l.length)).take (l.length - min k l.length)=l.drop k
 by_cases h:k<=l.length
 .rw [min_eq_left h,take_of_length_le (by rw [length_drop];exact le_refl _)]
 .rw [min_eq_right (by omega),sub_self,take_zero,drop_eq_nil_of_le (by omega)]
theorem gX{α:Type}(l:List α)(i j:Nat):cW l (some (i:Int)) (some (j:Int))=(l.drop i).take (j - i):=by
 unfold cW;rw [HT.sIx_nat,HT.sIx_nat]
 by_cases h:i<=l.length
 .rw [min_eq_left h]
  by_cases h2:j<=l.length
  .rw [min_eq_left h2]
  .rw [min_eq_right (by omega),take_of_length_le (by rw [length_drop];omega),take_of_length_le (by rw [length_drop];omega)]
 .have e:min i l.length=l.length:=min_eq_right (by omega);rw [e,drop_eq_nil_of_le (le_refl _),drop_eq_nil_of_le (by omega),take_nil,take_nil]
section
variable {X:Cx}
def yg:V->Option Int->Option Int->Hp->VK->Prop:=fun x lo hi H Q=>∃l,x=.str (S l)/\l.length<=sizeLine/\Q (.str (S (cW l lo hi))) H
theorem vc:SlR X yg:=by
 intro pins s σ H x v vl vu lo hi sl Q I rx hs pl pu h;obtain⟨l,rfl,hz,q⟩:=h;obtain⟨t,rfl⟩:=rx;refine⟨"str",_,slot_str_getitem.lookup,typeIs_str s _ t,?_⟩
 obtain⟨l',hl',el⟩:∃l':Option (Int×Tok),vl=partValue l'/\l'.map (·.1)=lo:=by
  cases pl with
  | none=>exact⟨none,rfl,rfl⟩
  | int i t=>exact⟨some (i,t),rfl,rfl⟩
 obtain⟨u',hu',eu⟩:∃l':Option (Int×Tok),vu=partValue l'/\l'.map (·.1)=hi:=by
  cases pu with
  | none=>exact⟨none,rfl,rfl⟩
  | int i t=>exact⟨some (i,t),rfl,rfl⟩
 subst hl' hu';refine wpAny_getItem_str_slice (l:=l') (u:=u') (st:=none) hs rfl ?_;have hm:∀t' k,EP X pins σ Q (.str (Txt.slice (S l) lo hi) t') { s with toks:=k }:=fun t' k=>⟨.str (S (cW l lo hi)),H,I.tok _,⟨t',by rw [sD]⟩,q⟩
 have hlen:(Txt.slice (S l) lo hi).length<=sizeLine:=le_trans (Txt.slice_le _ _ _) (by rw [fj];exact hz);subst el eu;exact post_val_or_str ⟨hlen,hm⟩
def mh{α:Type}(l:List α)(n:Int):List α:=(List.replicate n.toNat l).flatten
theorem oz(k:Nat)(l acc:List Nat):(List.replicate k l.toArray).foldl (·++·) acc.toArray=(acc++(List.replicate k l).flatten).toArray:=by
 induction k generalizing acc with
 | zero=>simp
 | succ k ih =>
  rw [replicate_succ,foldl_cons,append_toArray,ih (acc++l),replicate_succ,flatten_cons,append_assoc]
theorem wT(l:List Nat)(n:Int):Txt.mul (S l) n=S (mh l n):=by
 unfold Txt.mul mh
 by_cases h:n<1
 .rw [if_pos h];have:n.toNat=0:=by omega
  rw [this];rfl
 .rw [if_neg h]
  split
  .rename_i h2;rw [fj] at h2;simp only [or_eq_true,beq_iff_eq] at h2
   rcases h2 with h2|h2
   .subst h2;simp [S]
   .have:l=[]:=length_eq_zero_iff.mp h2;subst this;simp [S]
  .have e:=oz n.toNat l [];show (⟨_⟩:Str)=_
   have e':(List.replicate n.toNat (S l).cps).foldl (·++·) #[]=((List.replicate n.toNat l).flatten).toArray:=by
    simpa [S] using e
   rw [e'];rfl
theorem gY{α:Type}(l:List α)(n:Int):(mh l n).length=n.toNat*l.length:=by
 unfold mh;rw [length_flatten,map_replicate,sum_replicate_nat]
theorem nk:OpR X (binaryOp .Mult) (fun x y H Q=>∃l n,x=.str (S l)/\y=.int n/\-1000000<=n/\n<=1000000/\n.toNat*l.length<=sizeLine/\Q (.str (S (mh l n))) H):=by
 intro pins s σ H x y v u Q I rx ry h;obtain⟨l,n,rfl,rfl,h1,h2,hz,q⟩:=h;obtain⟨t,rfl⟩:=rx;obtain⟨t',rfl⟩:=ry;have hs:sizeLine=16777216:=sizeLine_eq;have hz':n.toNat*l.length<=16777216:=by rw [<- hs];exact hz
 refine SB.mul ⟨?_,fun hn hc=>?_,fun hn hc=>?_⟩ fun t' k=>⟨.str (S (mh l n)),H,I.tok _,⟨t',by rw [wT]⟩,q⟩
 .rw [decide_eq_false (by omega),decide_eq_false (by omega)];rfl
 .rw [fj];intro hgt
  have hl:l.length<=16777216:=by
   have:1*l.length<=n.toNat*l.length:=mul_le_mul_right _ (by omega);omega
  have hdiv:(2^63 - 1:Int) / 1000000<=(2^63 - 1) / n:=by
   apply le_ediv_of_mul_le (by omega);have:=mul_le_mul_of_nonneg_left h2 (show (0:Int)<=(2^63 - 1) / 1000000 by decide);have e2:((2^63 - 1:Int) / 1000000)*1000000<=2^63 - 1:=by decide
   omega
  have e3:(2^63 - 1:Int) / 1000000=9223372036854:=by decide
  omega
 .rw [fj];have:l.length*n.toNat<=16777216:=by rw [mul_comm];exact hz'
  exact decide_eq_false (by omega)
theorem oA:OpR X (compareOp .LtE) (fun x y H Q=>∃i j,x=.str i/\y=.str j/\Q (.bl (!decide (j.cps.toList<i.cps.toList))) H):=by
 intro pins s σ H x y v u Q I rx ry h;obtain⟨i,j,rfl,rfl,q⟩:=h;obtain⟨t,rfl⟩:=rx;obtain⟨t',rfl⟩:=ry;exact PySem.P.le_str ⟨.bl _,H,I,rfl,q⟩
end
def Its(xs:List V):It:=⟨fun i _=>i<xs.length,fun i H x H'=>H'=H/\xs[i]?=some x,fun i _=>xs.length=i⟩
theorem oB{M:Model}{A:Around}{E:Value->Shared->Prop}{s:Shared}{tg:Expr}{it:Addr}{u:Value}{Q:Unit->Shared->Prop}(hu:∀a,u≠.ref a)(hQ:Q () s):wpAny M A (letOwnedTupleGo tg (.ref it) u) Q E s:=by
 unfold letOwnedTupleGo
 cases tg <;> first
  | exact wpAny_pure hQ
  | (cases u <;> first
    | exact wpAny_pure hQ
    | exact absurd rfl (hu _))
theorem gZ{P:Program}{w:World}{K:PySem.W.Frag}{tg:Expr}{it:Addr}{xs:List V}{n:Nat}{Pt:Nat->Value->Prop}{St:Nat->Heap->Prop}
  (W:∀A:Around,A.handled=none->Walks P w A it [it] [it] n Pt St) (hn:xs.length=n)
  (hv:∀i v,i<n->Pt i v->∃x,xs[i]?=some x/\cZ x v) (hsc:∀i v,Pt i v->∀a,v≠.ref a)
  (hobj:∀i h,St i h->∃o,h.get? it=some o/\∀v,o.data≠.cell v)
  (hfr:∀i h h',St i h->(∀b∈[it],∀o,h.get? b=some o->h'.get? b=some o)->St i h')
  (hself:∀(A:Around) (i:Nat) (s:Shared) (Q:Value->Shared->Prop) (E:Value->Shared->Prop),St i s.heap->Q (.ref it) s->wpAny (model P w) A (pyIter (.ref it)) Q E s) :
  qh P w K tg (Its xs) [it] it St where
 mem:=by simp
 obj:=fun i h st b hb=>by
  have e:b=it:=by simpa using hb
  subst e;exact hobj i h st
 keep:=fun i h h' st k=>hfr i h h' st k
 item:=by
  intro X hP hw hK hc i pins s σ H E I hf st hg;subst hP hw hK;obtain⟨f0,f1,f2,f3,f4,f5⟩:=hf it (by simp);refine (W X.A (I.ok.hd hc)).item i s _ _ (by rw [<- hn];exact hg) st fun v h' tk hp st' kk=>?_;obtain⟨x,hx,rx⟩:=hv i v (by rw [<- hn];exact hg) hp;have I1:Inv X pins σ H { s with heap:=h',toks:=tk }:=I.turned (fun b o hb e=>kk b o (by simpa using hb) e) f0 f1 f3 f4 f5;exact⟨v,rfl,oB (s:={ s with heap:=h',toks:=tk }) (hsc i v hp) ⟨x,H,I1,rx,⟨rfl,hx⟩,st',fun b hb=>(hf b hb).1⟩⟩
 done:=by
  intro X hP hw hK hc i pins s σ H E I hf st hg;subst hP hw hK;obtain⟨f0,f1,f2,f3,f4,f5⟩:=hf it (by simp);have e:n=i:=hn.symm.trans hg;subst e;exact (W X.A (I.ok.hd hc)).done s _ _ st fun h' tk kk=>⟨rfl,I.turned (fun b o hb e=>kk b o (by simpa using hb) e) f0 f1 f3 f4 f5⟩
 self:=hself
section
variable {X:Cx}{tg:Expr}
def bS(l:List Nat):List V:=l.map fun c=>V.str (S [c])
theorem dF{l:List Nat}{i:Nat}{x:V}(h:(bS l)[i]?=some x):∃c,l[i]?=some c/\x=.str (S [c]):=by
 unfold bS at h;rw [getElem?_map] at h
 cases e:l[i]? with
 | none=>rw [e] at h;cases h
 | some c=>rw [e] at h;exact⟨c,rfl,(Option.some.inj h).symm⟩
theorem bV(l:List Nat):(bS l).length=l.length:=length_map _
def jf(i:Int)(n:Nat):List V:=(List.range n).map fun (k:Nat)=>V.int (i - k)
theorem g6(i:Int)(n:Nat):(jf i n).length=n:=by simp [jf]
theorem oD{i:Int}{n k:Nat}{x:V}(h:(jf i n)[k]?=some x):k<n/\x=.int (i - k):=by
 unfold jf at h;rw [getElem?_map] at h
 by_cases hk:k<n
 .rw [getElem?_range hk] at h;exact⟨hk,(Option.some.inj h).symm⟩
 .rw [getElem?_eq_none (by simp;omega)] at h;cases h
def vd(ta:TA):TI:=fun σ H R=>ta σ H fun vs H1=>∃i j:Int,vs=[.int i,.int j,.int (-1)]/\(-(2^60)<=i/\i<2^60/\-(2^60)<=j/\j<2^60)/\R (Its (jf i (i - j).toNat)) H1
theorem eS(i j:Int):Builtin.Range.rangeSize i j (-1)=(((i - j).toNat:Nat):Int):=by
 unfold Builtin.Range.rangeSize;rw [if_neg (by decide)];simp only [neg_neg,ediv_one];split <;> omega
theorem oE{a b c:Expr}{ta:TA}{p pos:Pos}(hg:Gl X "range")(hm:X.mg "range"=none)(ha:PA X [a,b,c] ta)
  (hs:starEach [a,b,c] X.env=[(false,eval a X.env),(false,eval b X.env),(false,eval c X.env)]:=by rfl) (hs2:starEach [b,c] X.env=[(false,eval b X.env),(false,eval c X.env)]:=by rfl) :
  PI X tg (.Call (.Name "range" p) [a,b,c] [] pos) (vd ta):=by
 intro pins s σ H R I h;refine Call_ (c5 I hg hm boot_range (PyProof.Rows.callWith_type1 (thn (ha pos pins s σ H _ I h) fun us s1 ⟨vs,H1,I1,r1,q1⟩=>?_) (by rw [hs,hs2]) (by rw [hs2];rfl)));obtain⟨i,j,e,⟨q1,q2,q3,q4⟩,q⟩:=q1;subst e
 cases r1 with
 | cons r rr =>
  cases rr with
  | cons r' rr =>
   cases rr with
   | cons r'' rr =>
    cases rr;obtain⟨t,rfl⟩:=r;obtain⟨t',rfl⟩:=r';obtain⟨t'',rfl⟩:=r'';refine call_range_3 (by decide) ?_ (.inl (PyProof.noPylong_small (by decide)))
    refine wpAny_pyIter_range (IsRange.new ..) ?_ ?_
    .unfold Builtin.Range.small;rw [eS];simp only [Builtin.Range.rangeFitsLong,and_eq_true,or_eq_true,decide_eq_true_eq,beq_iff_eq,show ¬ (-1:Int) > 0 by decide,if_false];omega
    have I2:Inv X pins σ H1 { s1 with heap:=s1.heap.push { cls:=.type "range",data:=.fields #[.int i t,.int j t',.int (-1) t''] },toks:=s1.toks }:=I1.kept fun b o e=>Heap.get?_push_of_some _ e
    refine⟨_,[(s1.heap.push { cls:=.type "range",data:=.fields #[.int i t,.int j t',.int (-1) t''] }).objs.size],_,Its (jf i (i - j).toNat),H1,rfl,I2.kept (t':=s1.toks) fun b o e=>Heap.get?_push_of_some _ e,
     gZ (fun A hA=>Walks.range hA _ i (-1) (i - j).toNat) (g6 _ _) ?_ ?_ ?_ ?_ (fun A i s Q E st q=>wpAny_pyIter_rangeiter st q),?_,fun b hb=>?_,q⟩
    .rintro k v hk ⟨t,rfl⟩
     refine⟨.int (i - k),?_,t,?_⟩
     .unfold jf;rw [getElem?_map,getElem?_range hk];rfl
     .have e:i+(k:Int)*(-1)=i - k:=by omega
      rw [e]
    .rintro k v ⟨t,rfl⟩ a z;cases z
    .exact fun k h st=>⟨_,st,fun v z=>by
      have z':Data.fields _=Data.cell v:=z;cases z'⟩
    .exact fun k h h' st kk=>kk _ (by simp) _ st
    .show IsRangeIter _ _ (i+((0:Nat):Int)*(-1)) ((((i - j).toNat:Nat):Int) - ((0:Nat):Int)) (-1);rw [<- eS];simp only [natCast_zero,zero_mul,add_zero,Int.sub_zero];exact Heap.get?_push_size _ rfl
    .have e:b=(s1.heap.push { cls:=.type "range",data:=.fields #[.int i t,.int j t',.int (-1) t''] }).objs.size:=by simpa using hb
     subst e;exact I2.fpOk (le_refl _) (I2.hok.fresh (le_refl _))
end
section
variable {X:Cx}
theorem lr:cw X (.builtin "isinstance") (fun xs H Q=>∃x n t b,xs=[x,.ty n]/\li X.K H x t/\PySem.W.kitOne X.K t (.type n)=some b/\Q (.bl b) H):=by
 intro pins s σ H xs us Q I r h;obtain⟨x,n,t,b,rfl,ty,e,q⟩:=h;obtain⟨u,w',rfl,rx,ry⟩:=uQ r;cases (show w'=Value.type n from ry);exact n6 I rx ty e fun tk=>⟨.bl b,H,I.tok _,rfl,q⟩
mutual
inductive DV (K:PySem.W.Frag) (H:Hp):V->PyData->Prop
 | non:DV K H .non .none
 | bl (b:Bool):DV K H (.bl b) (.bool b)
 | int (i:Int):DV K H (.int i) (.int i)
 | str (x:Str):DV K H (.str x) (.str x)
 | lst {a:Addr}{xs:List V}{ds:List PyData}:SqL K H a xs->DVs K H xs ds->DV K H (.ref a) (.list ds)
 | tup {a:Addr}{xs:List V}{ds:List PyData}:SqT K H a xs->DVs K H xs ds->DV K H (.ref a) (.tuple ds)
inductive DVs (K:PySem.W.Frag) (H:Hp):List V->List PyData->Prop
 | nil:DVs K H [] []
 | cons {x:V}{d:PyData}{xs:List V}{ds:List PyData}:DV K H x d->DVs K H xs ds->DVs K H (x::xs) (d::ds)
end
mutual
theorem DV.reads{pins:List (Addr×Obj)}{σ:St}{H:Hp}{s:Shared}(I:Inv X pins σ H s):∀{x:V}{d:PyData}{u:Value},DV X.K H x d->cZ x u->∃as,Reads s.heap u d as
 | _,_,u,.non,r=>by cases (show u=Value.none from r);exact⟨_,.none⟩
 | _,_,u,.bl b,r=>by cases (show u=Value.bool b from r);exact⟨_,.bool b⟩
 | _,_,u,.int i,r=>by obtain⟨t,e⟩:=(show ∃t,u=Value.int i t from r);subst e;exact⟨_,.int i t⟩
 | _,_,u,.str x,r=>by obtain⟨t,e⟩:=(show ∃t,u=Value.str x t from r);subst e;exact⟨_,.str x t⟩
 | _,_,u,.lst (a:=a) hq hs,r=>by
  cases (show u=Value.ref a from r);obtain⟨its,rv,pl,_⟩:=I.list hq;obtain⟨o,ho,hc,n,hd⟩:=pl.isList;obtain⟨as,ra⟩:=DVs.reads I hs rv;exact⟨_,.list ho hc hd ra⟩
 | _,_,u,.tup (a:=a) hq hs,r=>by
  cases (show u=Value.ref a from r);obtain⟨its,rv,pl,_⟩:=I.tuple hq;obtain⟨o,ho,hc,n,hd⟩:=pl;obtain⟨as,ra⟩:=DVs.reads I hs rv;exact⟨_,.tuple ho hc hd ra⟩
theorem DVs.reads{pins:List (Addr×Obj)}{σ:St}{H:Hp}{s:Shared}(I:Inv X pins σ H s):∀{xs:List V}{ds:List PyData}{us:List Value},DVs X.K H xs ds->bP xs us->∃as,ReadsAll s.heap us ds as
 | _,_,_,.nil,.nil=>⟨_,.nil⟩
 | _,_,_,.cons h hs,.cons r rs=>by
  obtain⟨as,ra⟩:=DV.reads I h r;obtain⟨bs,rb⟩:=DVs.reads I hs rs;exact⟨_,.cons ra rb⟩
end
def wU(K:PySem.W.Frag)(neg:Bool):R2:=fun x y H Q=>∃da db,DV K H x da/\DV K H y db/\SeqAt.shaped da=true/\SeqAt.shaped db=true/\Q (.bl (if neg then !PyData.eqv da db else PyData.eqv da db)) H
theorem ve(hu:X.A.units+64<cLine):OpR X (compareOp .Eq) (wU X.K false):=by
 intro pins s σ H x y v u Q I rx ry h;obtain⟨da,db,ha,hb,sa,sb,q⟩:=h;obtain⟨as,ra⟩:=DV.reads I ha rx;obtain⟨bs,rb⟩:=DV.reads I hb ry;exact eq_dataH ra rb sa sb hu ⟨.bl _,H,I,rfl,q⟩
theorem vf(hu:X.A.units+64<cLine):OpR X (compareOp .NotEq) (wU X.K true):=by
 intro pins s σ H x y v u Q I rx ry h;obtain⟨da,db,ha,hb,sa,sb,q⟩:=h;obtain⟨as,ra⟩:=DV.reads I ha rx;obtain⟨bs,rb⟩:=DV.reads I hb ry;exact ne_dataH ra rb sa sb hu ⟨.bl _,H,I,rfl,q⟩
theorem DVs.ints{K:PySem.W.Frag}{H:Hp}:∀ns:List Int,DVs K H (ns.map V.int) (ns.map PyData.int)
 | []=>.nil
 | n::ns=>.cons (.int n) (DVs.ints ns)
theorem g9:∀ns ms:List Int,PyData.eqvAll (ns.map PyData.int) (ms.map PyData.int)=decide (ns=ms)
 | [],[]=>by simp [PyData.eqvAll]
 | [],_::_=>by simp [PyData.eqvAll]
 | _::_,[]=>by simp [PyData.eqvAll]
 | a::r,b::t=>by
  simp only [map_cons,PyData.eqvAll,PyData.eqv,g9 r t]
  by_cases h:a=b <;> by_cases h':r=t <;> simp [h,h']
end
section
variable {X:Cx}{a b:Expr}{ta tb:TE}{pos:Pos}
theorem jg{x:Str}{l:List Nat}{j:Nat}(h:x=S l):PE X (.Constant (.str x) j pos) (tC (.str (S l))):=by
 subst h;exact uz
theorem oF:cw X (.builtin "len") (fun xs H Q=>∃l,xs=[.str (S l)]/\l.length<=sizeLine/\Q (.int l.length) H):=by
 intro pins s σ H xs us Q I r h;obtain⟨l,rfl,hz,q⟩:=h;exact j4 pins s σ H _ us Q I r ⟨S l,rfl,by rw [fj];exact hz,by rw [fj];exact q⟩
def vg:R2:=fun x y H Q=>∃l i c,x=.str (S l)/\y=.int i/\l.length<=sizeLine/\atI l i=some c/\Q (.str (S [c])) H
theorem sE:IxR X vg:=by
 intro value slice pins s σ H x y v u Q I rx ry q hs;obtain⟨l,i,c,rfl,rfl,hz,ha,q⟩:=q;exact uX value slice pins s σ H _ _ v u Q I rx ry ⟨S l,i,c,rfl,rfl,by rw [fj];exact hz,ha,q⟩ hs
theorem sF:OpR X (binaryOp .Add) (fun x y H Q=>∃i j,x=.str (S i)/\y=.str (S j)/\i.length+j.length<=sizeLine/\Q (.str (S (i++j))) H):=by
 intro pins s σ H x y v u Q I rx ry h;obtain⟨i,j,rfl,rfl,hz,q⟩:=h;exact m7 pins s σ H _ _ v u Q I rx ry ⟨S i,S j,rfl,rfl,by rw [fj,fj];exact hz,by rw [wS];exact q⟩
theorem vh:OpR X (compareOp .Eq) (fun x y H Q=>∃i j,x=.str (S i)/\y=.str (S j)/\Q (.bl (decide (i=j))) H):=by
 intro pins s σ H x y v u Q I rx ry h;obtain⟨i,j,rfl,rfl,q⟩:=h;exact wJ pins s σ H _ _ v u Q I rx ry ⟨rfl,by rw [va];exact q⟩
theorem vi:OpR X (compareOp .NotEq) (fun x y H Q=>∃i j,x=.str (S i)/\y=.str (S j)/\Q (.bl (!decide (i=j))) H):=by
 intro pins s σ H x y v u Q I rx ry h;obtain⟨i,j,rfl,rfl,q⟩:=h;exact wK pins s σ H _ _ v u Q I rx ry ⟨rfl,by rw [va];exact q⟩
theorem vj:OpR X (compareOp .Eq) (rI0 fun i j=>.bl (decide (i=j))):=ue fun _ _ _ _ _ _ _ q=>eq_int (by rw [beq_eq_decide_eq];exact q)
theorem vk:OpR X (compareOp .NotEq) (rI0 fun i j=>.bl (!decide (i=j))):=ue fun _ _ _ _ _ _ _ q=>ne_int (by rw [bne,beq_eq_decide_eq];exact q)
theorem oG:cw X (.builtin "len") (fun xs H Q=>∃p ys,xs=[.ref p]/\SqL X.K H p ys/\Q (.int ys.length) H):=by
 intro pins s σ H xs us Q I r h;obtain⟨p,ys,e,hq,q⟩:=h;exact gi pins s σ H xs us Q I r ⟨p,ys,e,.inl hq,q⟩
theorem oH:cw X (.builtin "len") (fun xs H Q=>∃p ys,xs=[.ref p]/\SqT X.K H p ys/\Q (.int ys.length) H):=by
 intro pins s σ H xs us Q I r h;obtain⟨p,ys,e,hq,q⟩:=h;exact gi pins s σ H xs us Q I r ⟨p,ys,e,.inr hq,q⟩
end
structure Cal (P:Program) (w:World) (K:PySem.W.Frag) (mg:Str->Option Value) (base:Heap) (k:Nat) (x:Str) (ps:List Str) (sp:Sp):Prop where
 ex:∃(f:Addr) (fd:FuncData),me P w K mg base CX0 k f fd ps sp/\lj K fd ps []/\PySem.W.keepIn K (.ref f)=true/\mg x=some (.ref f)/\∃oc od osl,K.lookup f=some ⟨oc,od,.func fd,osl⟩
structure cI (K:PySem.W.Frag) (mg:Str->Option Value) (x:Str) (st:Stmt):Prop where
 ex:∃(f:Addr) (fd:FuncData),Fun K x x st f fd/\mg x=some (.ref f)
section
variable {P:Program}{w:World}{K:PySem.W.Frag}{mg:Str->Option Value}{base:Heap}{x:Str}{st:Stmt}{N ps:List Str}{k:Nat}{sp:Sp}
theorem cI.ok(D:cI K mg x st)(S:ba N ps (aq st))
  (hb:∀(kV doc pm:Value) (an:Option Addr) (cdv ct:Value) (us:List Value),us.length=ps.length->bindArgs (PySem.W.fnOf x x (cj st) (bR st) (aq st) .none kV doc pm an cdv ct) ⟨us,[]⟩=pure (ps.zip us))
  (len:∀vs H Q E,sp vs H Q E->vs.length=ps.length)
  (hbody:∀(f:Addr) (cdv:Value) (A:Around) (outer:List Env) (s:Shared) (H:Hp) (vs:List V) (Q:VK) (E:XK),gN k (A.deeper (envOfC x (aq st) s.heap.objs.size f cdv))->sp vs H Q E ->
   ∃t,PSs (ro CX0 P w K mg base N x (aq st) f cdv A outer s H E).nox (bR st) t/\t { nx:=fun _ H'=>Q .non H',rt:=Q } (start N vs) H):Cal P w K mg base (k+1) x ps sp:=by
 obtain⟨f,fd,F,hm⟩:=D.ex
 have lk:∃oc od osl,K.lookup f=some ⟨oc,od,.func fd,osl⟩:=by
  obtain⟨oc,od,kV,doc,pm,an,cdv,ct,osl,rfl,lk,hcd⟩:=F.ex;exact⟨oc,od,osl,lk⟩
 exact⟨f,fd,F.ok S len fun cdv A outer s H vs Q E hr h=>hbody f cdv A outer s H vs Q E hr h,F.binds hb,F.kp,hm,lk⟩
theorem cI.mk'{K:PySem.W.Frag}{h:Heap}{mg:Str->Option Value}{x:Str}{st:Stmt}{f:Addr}{oc:Value}{od an:Option Addr}{osl:Array (Option Value)}{kV doc pm cdv ct:Value}(X:K.In h)(G:h.Ns mainGlobals mg)
  (a:PySem.W.nsIn K mainGlobals x=some (some (.ref f))) (l:K.lookup f=some ⟨oc,od,.func (PySem.W.fnOf x x (cj st) (bR st) (aq st) .none kV doc pm an cdv ct),osl⟩)
  (c:PySem.W.codeIn K cdv x=true) (k:PySem.W.keepIn K (.ref f)=true):cI K mg x st:=⟨f,_,u7 (st:=st) l c k,PySem.W.mg_of X G a⟩
end
section
variable {X:Cx}{k:Nat}{x:Str}{ps:List Str}{sp:Sp}{p pos:Pos}{e:Expr}{es:List Expr}{t:TA}
theorem vm(C:Cal X.prog X.w X.K X.mg X.base k x ps sp)(hr:gN k X.A)(ha:PA X (e::es) t)(hg:Gl X x:=by rfl)(hdb:(x == ("__debug__":Str))=false:=by decide)(he:starEach (e::es) X.env=(false,eval e X.env)::starEach es X.env:=by rfl)
  (hpl:(backTo pos (starEach es X.env)).any (·.1)=false:=by rfl):PE X (.Call (.Name x p) (e::es) [] pos) (gS sp [] E0 t):=by
 obtain⟨f,fd,F,hb,hk,hm,_⟩:=C.ex;exact n9 F hr hg hm hk hb .nil u6 ha hdb he hpl
end
def nq(K:PySem.W.Frag):Sp:=fun vs H Q _=>∃(a:Addr) (ns:List Int),vs=[.ref a]/\SqL K H a (ns.map V.int)/\ns.length<=63/\∀H',Q (.bl true) H'
theorem vn{P:Program}{w:World}{K:PySem.W.Frag}{mg:Str->Option Value}{fa:Addr}{st:Stmt}{k:Nat}{x:Str}(hfa:mg "law"=some (.ref fa))(D:cI K mg "law" st)
  (hbind:∀(kV doc pm:Value) (an:Option Addr) (cdv ct:Value) (s:Shared) (v:Value),BindsTo s (PySem.W.fnOf "law" "law" (cj st) (bR st) (aq st) .none kV doc pm an cdv ct) ⟨[v],[]⟩ [(x,v)])
  (h:∀base:Heap,Cal P w K mg base k "law" [x] (nq K)) :
  ∃fd:FuncData,(∀(s:Shared) (v:Value),BindsTo s fd ⟨[v],[]⟩ [(x,v)])/\∀base:Heap,K.In base->base.Ns mainGlobals mg->me P w K mg base CX0 k fa fd [x] (nq K):=by
 obtain⟨f,fd,F,hm⟩:=D.ex;have e:=hfa.symm.trans hm;cases e;obtain⟨oc,od,kV,doc,pm,an,cdv,ct,osl,rfl,lk,hcd⟩:=F.ex;refine⟨_,fun s v=>hbind kV doc pm an cdv ct s v,fun base kb nb=>?_⟩;obtain⟨f',fd',F',_,_,hm',oc',od',osl',lk'⟩:=(h base).ex;have e:=hfa.symm.trans hm';cases e;rw [lk] at lk';cases lk';exact F'
theorem vo{l:PySem.W.OpenLaw}{q:Program}{loose:List Str}{XP:(Str->Option Value)->Heap->Prop}{YP:World->Heap->Prop}{d:DefRec}{K:Params->PySem.W.Frag}{k:Nat}{x:Str}(hn:l.most=some 63)(hdf:d.params.defaults=[])(hr:gN k callerA)
  (hY:∀(w:World) (h:Heap),YP w h->(K w.params).In h)
  (F:∀(w:World) (mg:Str->Option Value) (fa:Addr) (h:Heap),(K w.params).In h->h.Ns mainGlobals mg->mg d.name=some (.ref fa) ->
   ∃fd:FuncData,(∀(s:Shared) (u:Value),BindsTo s fd ⟨[u],[]⟩ [(x,u)])/\∀base:Heap,(K w.params).In base->base.Ns mainGlobals mg->me l.prog w (K w.params) mg base CX0 k fa fd [x] (nq (K w.params))) :
  PySem.W.WalkO q loose XP YP l.row.toRowW d [] (fun f vs=>PySem.call f vs) :=
 sC (n:=63) (k:=k) (x:=x) (CX:=fun _=>CX0) (sp:=fun w=>nq (K w.params)) hn (by decide) hdf hr hY F (fun _ _ a ns hl _ hS=>⟨a,ns,rfl,hS,hl,fun _=>rfl⟩) fun _ _ _ _ _ z=>z
theorem sG{α β:Type}{f:α->β}{xs:List α}{i:Int}{v:α}(h:atI xs i=some v):atI (xs.map f) i=some (f v):=by
 unfold atI at h ⊢;rw [length_map]
 cases e:ixN xs.length i with
 | none=>rw [e] at h;cases h
 | some j =>
  rw [e] at h;show (xs.map f)[j]?=some (f v);have h':xs[j]?=some v:=h;rw [getElem?_map,h'];rfl
theorem cQ{α:Type}{xs:List α}{i:Int}{j:Nat}{v:α}(h:xs[j]?=some v)(e:i=(j:Int)):atI xs i=some v:=by subst e;exact sw h
theorem sz(n:Nat)(h:n<=1000000):n<=sizeLine:=by rw [sizeLine_eq];omega
theorem qs{ns:List Int}{i:Nat}{x:V}(h:(ns.map V.int)[i]?=some x):∃z,ns[i]?=some z/\x=.int z:=by
 rw [getElem?_map] at h
 cases e:ns[i]? with
 | none=>rw [e] at h;cases h
 | some z=>rw [e] at h;exact⟨z,rfl,(Option.some.inj h).symm⟩
section
variable {X:Cx}{st:Stmt}{t:TS}
def vp(t:TS):TS:=fun D σ H=>∃J:St->Hp->Prop,t { D with nx:=J } σ H/\∀σ' H',J σ' H'->D.nx σ' H'
theorem fQ(h:PS X st t):PS X st (vp t):=by
 intro pins s σ H D I q;obtain⟨J,q1,q2⟩:=q;refine thn (h pins s σ H _ I q1) fun f s' r=>?_
 cases f with
 | next=>obtain⟨σ',H',I',r'⟩:=r;exact⟨σ',H',I',q2 σ' H' r'⟩
 | brk=>exact r
 | cont=>exact r
 | ret u=>exact r
end
theorem qt{α β:Type}(f:α->β)(xs:List α)(lo hi:Option Int):cW (xs.map f) lo hi=(cW xs lo hi).map f:=by
 unfold cW;rw [length_map,map_take,map_drop]
theorem cR{x:Str}{c:Addr}:∀(names:List (Str×NameKind)) (n:Nat) (acc:List (Str×Addr)),(cellsFrom n names acc).lookup x=some c->(n<=c/\(x,NameKind.cell)∈names)\/acc.lookup x=some c
 | [],n,acc,h=>.inr h
 | (y,k)::r,n,acc,h=>by
  unfold cellsFrom at h
  split at h
  .rename_i hk;have hk':k=.cell:=by simpa using hk
   subst hk'
   rcases cR r (n+1) ((y,n)::acc) h with ⟨h1,h2⟩|h1
   .exact .inl ⟨by omega,mem_cons_of_mem _ h2⟩
   .rw [lookup_cons] at h1
    cases e:x == y with
    | true =>
     rw [e] at h1;have:n=c:=Option.some.inj h1;have ex:x=y:=by simpa using e
     subst ex;exact .inl ⟨by omega,mem_cons_self⟩
    | false=>rw [e] at h1;exact .inr h1
  .rcases cR r n acc h with ⟨h1,h2⟩|h1
   .exact .inl ⟨h1,mem_cons_of_mem _ h2⟩
   .exact .inr h1
theorem dP{x:Str}:∀(names:List (Str×NameKind)) (n:Nat) (acc:List (Str×Addr)),(x,NameKind.cell)∉names->(cellsFrom n names acc).lookup x=acc.lookup x
 | [],_,_,_=>rfl
 | (y,k)::r,n,acc,h=>by
  unfold cellsFrom
  split
  .rename_i hk;have hk':k=.cell:=by simpa using hk
   subst hk';rw [dP r (n+1) _ (fun z=>h (mem_cons_of_mem _ z)),lookup_cons]
   have:(x == y)=false:=by
    rw [beq_eq_false_iff_ne];intro e;subst e;exact h mem_cons_self
   rw [this]
  .exact dP r n acc (fun z=>h (mem_cons_of_mem _ z))
theorem dQ{x y:Str}{c:Addr}:∀(names:List (Str×NameKind)) (n:Nat) (acc:List (Str×Addr)),(∀z d,acc.lookup z=some d->d<n) ->
  (cellsFrom n names acc).lookup x=some c->(cellsFrom n names acc).lookup y=some c->n<=c->x=y
 | [],n,acc,ha,h1,h2,hc=>absurd (ha x c h1) (Nat.not_lt.mpr hc)
 | (z,k)::r,n,acc,ha,h1,h2,hc=>by
  unfold cellsFrom at h1 h2
  split at h1
  .rename_i hk;rw [if_pos hk] at h2
   have ha':∀w d,((z,n)::acc).lookup w=some d->d<n+1:=fun w d e=>by
    rw [lookup_cons] at e
    cases q:w == z with
    | true=>rw [q] at e;cases e;exact lt_succ_self _
    | false=>rw [q] at e;exact lt_succ_of_lt (ha w d e)
   by_cases hcn:n+1<=c
   .exact dQ r (n+1) _ ha' h1 h2 hcn
   .have e:c=n:=le_antisymm (Nat.not_lt.mp hcn) hc;subst e
    have key:∀w:Str,(cellsFrom (c+1) r ((z,c)::acc)).lookup w=some c->w=z:=fun w hw=>by
     rcases cR r (c+1) _ hw with ⟨q,_⟩|q
     .exact absurd q (not_succ_le_self _)
     .rw [lookup_cons] at q
      cases q2:w == z with
      | true=>simpa using q2
      | false=>rw [q2] at q;exact absurd (ha w c q) (Nat.lt_irrefl _)
    rw [key x h1,key y h2]
  .rename_i hk;rw [if_neg hk] at h2;exact dQ r n acc ha h1 h2 hc
def fm(env:Env):List (Str×NameKind)->List (Str×Addr)->List (Str×Addr)
 | [],acc=>acc
 | (n,k)::r,acc=>if (k == .free)=true then fm env r ((n,(env.cells.lookup n).getD 0)::acc) else fm env r acc
theorem dR{env:Env}{x:Str}{c:Addr}:∀(names:List (Str×NameKind)) (acc:List (Str×Addr)),(fm env names acc).lookup x=some c->((x,NameKind.free)∈names/\c=(env.cells.lookup x).getD 0)\/acc.lookup x=some c
 | [],acc,h=>.inr h
 | (y,k)::r,acc,h=>by
  unfold fm at h
  split at h
  .rename_i hk;have hk':k=.free:=by simpa using hk
   subst hk'
   rcases dR r _ h with ⟨h1,h2⟩|h1
   .exact .inl ⟨mem_cons_of_mem _ h1,h2⟩
   .rw [lookup_cons] at h1
    cases e:x == y with
    | true =>
     rw [e] at h1;have ex:x=y:=by simpa using e
     subst ex;exact .inl ⟨mem_cons_self,(Option.some.inj h1).symm⟩
    | false=>rw [e] at h1;exact .inr h1
  .rcases dR r acc h with ⟨h1,h2⟩|h1
   .exact .inl ⟨mem_cons_of_mem _ h1,h2⟩
   .exact .inr h1
theorem fo{env:Env}{x:Str}:∀(names:List (Str×NameKind)) (acc:List (Str×Addr)),((x,NameKind.free)∈names\/(acc.lookup x).isSome=true)->((fm env names acc).lookup x).isSome=true
 | [],acc,h=>h.elim (fun z=>nomatch z) id
 | (y,k)::r,acc,h=>by
  unfold fm
  split
  .rename_i hk;refine fo r _ ?_
   by_cases e:(x == y)=true
   .exact .inr (by rw [lookup_cons,e];rfl)
   .rcases h with h|h
    .rcases mem_cons.mp h with z|z
     .cases z;exact absurd (by simp) e
     .exact .inl z
    .exact .inr (by rw [lookup_cons];rw [not_eq_true] at e;rw [e];exact h)
  .rename_i hk;refine fo r acc ?_
   rcases h with h|h
   .rcases mem_cons.mp h with z|z
    .cases z;exact absurd rfl hk
    .exact .inl z
   .exact .inr h
theorem gI{scope:Scope}{env:Env}(h:∀x∈scope.names,x.2=.free->∃c,env.cells.lookup x.1=some c):closureFor scope env=pure (fm env scope.names []):=by
 unfold closureFor
 have key:∀(names:List (Str×NameKind)) (acc:List (Str×Addr)),(∀x∈names,x.2=.free->∃c,env.cells.lookup x.1=some c) ->
   (forIn names acc fun (x:Str×NameKind) (r:List (Str×Addr))=>(if (x.2 == NameKind.free)=true then do let y <- cellOf env x.1;pure (ForInStep.yield ((x.1,y)::r)) else pure (ForInStep.yield r):Sem _))=pure (fm env names acc):=by
  intro names
  induction names with
  | nil=>intro acc _;rfl
  | cons p r ih =>
   intro acc hp;obtain⟨n,k⟩:=p;rw [forIn_cons];have hr:∀x∈r,x.2=.free->∃c,env.cells.lookup x.1=some c:=fun x hx=>hp x (mem_cons_of_mem _ hx);unfold fm
   by_cases hk:(k == NameKind.free)=true
   .obtain⟨c,hc⟩:=hp (n,k) mem_cons_self (by simpa using hk);have hc':env.cells.lookup n=some c:=hc;have e1:cellOf env n=pure c:=by unfold cellOf;rw [hc']
    simp only [hk,if_true];rw [e1,hc'];simp only [pure_bind];exact ih _ hr
   .rw [if_neg hk,if_neg hk];simp only [pure_bind];exact ih _ hr
 have e:=key scope.names [] h;have e2:∀(m:Sem (List (Str×Addr))),(m >>= fun r=>pure r)=m:=fun m=>bind_pure m;rw [<- e]
 first
  | rfl
  | exact (e2 _)
def oI(scope:Scope)(C:Addr)(env:Env):Env :=
 { scope:=relabel scope env,locals:=C,globals:=env.globals,cells:=cellsFrom (C+1) scope.names (fm env scope.names []),qual:=env.qual,func:=none,code:=env.code,frame:=env.frame,builtins:=env.builtins }
def b9(X:Cx)(N':List Str)(scope:Scope)(s:Shared)(H:Hp)(fp:List Addr)(pins:List (Addr×Obj)):Cx :=
 { X with N:=N',s₀:=s,H₀:=H,env:=oI scope s.heap.objs.size X.env,outer:=X.stack,stack:=X.stack,ex:=fp,fn:=fun x=>decide ((x,NameKind.cell)∈scope.names),pn:=X.pn++pins,xe:=fun _ _=>False }
def jh(sc0:Scope)(N:List Str)(scope:Scope)(N':List Str)(ix:List (Option Nat)):Bool :=
 decide (scope.kind=.function) && scope.names.all (fun y=>(!decide (y.2=.local) || decide (scope.names.lookup y.1=some .local)) &&
  (!decide (y.2=.free) || ((decide (sc0.names.lookup y.1=some .cell) || decide (sc0.names.lookup y.1=some .free)) && !decide ((y.1,NameKind.cell)∈scope.names)))) &&
 decide (N'.length=ix.length) && (N'.zip ix).all (fun p=>match p.2 with|none=>true|some j=>decide (N[j]?=some p.1) && decide (scope.names.lookup p.1=some .free))
structure oJ (env:Env) (N:List Str) (scope:Scope) (N':List Str) (ix:List (Option Nat)):Prop where
 kind:scope.kind=.function
 loc:∀y∈scope.names,y.2=.local->scope.names.lookup y.1=some .local
 free:∀y∈scope.names,y.2=.free->(env.kindOf y.1=some .cell\/env.kindOf y.1=some .free)/\(y.1,NameKind.cell)∉scope.names
 len:N'.length=ix.length
 slot:∀(i:Nat) (x:Str) (j:Nat),N'[i]?=some x->ix[i]?=some (some j)->N[j]?=some x/\scope.names.lookup x=some .free
theorem j7{env:Env}{N:List Str}{scope:Scope}{N':List Str}{ix:List (Option Nat)}(h:jh env.scope N scope N' ix=true):oJ env N scope N' ix:=by
 unfold jh at h;simp only [and_eq_true,decide_eq_true_eq,all_eq_true] at h;obtain⟨⟨⟨h1,h2⟩,h3⟩,h4⟩:=h
 refine⟨h1,fun y hy e=>?_,fun y hy e=>?_,h3,fun i x j e1 e2=>?_⟩
 .have:=(h2 y hy).1;rw [e] at this;simpa using this
 .have:=(h2 y hy).2;rw [e] at this;simpa [Env.kindOf] using this
 .have hm:(x,some j)∈N'.zip ix:=by
   refine mem_of_getElem? (i:=i) ?_;rw [getElem?_zip_eq_some];exact⟨e1,e2⟩
  have:=h4 _ hm;simpa using this
def rlf(env:Env)(p:Str×NameKind):Str×NameKind:=match p with|(n,k)=>if (k == NameKind.free && env.scope.kind == .function && env.kindOf n == some .cell) then (n,.cell) else (n,k)
theorem oK(env:Env)(n:Str)(k:NameKind):∃k',rlf env (n,k)=(n,k')/\(k'=k\/(k=.free/\k'=.cell)):=by
 unfold rlf
 by_cases c:(k == NameKind.free && env.scope.kind == .function && env.kindOf n == some .cell)=true
 .refine⟨.cell,if_pos c,.inr ⟨?_,rfl⟩⟩;simp only [and_eq_true,beq_iff_eq] at c;exact c.1.1
 .exact⟨k,if_neg c,.inl rfl⟩
theorem mj{env:Env}:∀{names:List (Str×NameKind)}{x:Str},names.lookup x=some .free->(names.map (rlf env)).lookup x=some .cell\/(names.map (rlf env)).lookup x=some .free
 | [],_,h=>by simp at h
 | (n,k)::r,x,h=>by
  have ih:=@mj env r x;obtain⟨k',e,hk'⟩:=oK env n k;rw [map_cons,e]
  cases hx:x == n with
  | true =>
   simp only [lookup_cons,hx] at h ⊢;have hk:k=.free:=Option.some.inj h
   rcases hk' with z|z
   .right;rw [z,hk]
   .left;rw [z.2]
  | false =>
   simp only [lookup_cons,hx] at h ⊢;exact ih h
theorem ji{env:Env}:∀{names:List (Str×NameKind)}{x:Str}{k':NameKind},(names.map (rlf env)).lookup x=some k'->k'=.cell\/k'=.free->names.lookup x=some .cell\/names.lookup x=some .free
 | [],_,_,h,_=>by simp at h
 | (n,k)::r,x,k',h,hk'=>by
  have ih:=@ji env r x k';obtain⟨k2,e,hk2⟩:=oK env n k;rw [map_cons,e] at h
  cases hx:x == n with
  | true =>
   simp only [lookup_cons,hx] at h ⊢;have:k2=k':=Option.some.inj h;subst this
   rcases hk2 with z|z
   .rw [<- z]
    rcases hk' with q|q
    .left;rw [q]
    .right;rw [q]
   .right;rw [z.1]
  | false =>
   simp only [lookup_cons,hx] at h ⊢;exact ih h hk'
theorem j8{x:Str}{c:Addr}:∀(names:List (Str×NameKind)) (n:Nat) (acc:List (Str×Addr)),(cellsFrom n names acc).lookup x=some c->(x,c)∈cellsFrom n names []\/acc.lookup x=some c:=by
 have app:∀(names:List (Str×NameKind)) (n:Nat) (acc:List (Str×Addr)),cellsFrom n names acc=cellsFrom n names []++acc:=by
  intro names
  induction names with
  | nil=>intro n acc;rfl
  | cons p r ih =>
   intro n acc;obtain⟨y,k⟩:=p;unfold cellsFrom
   split
   .rw [ih (n+1) ((y,n)::acc),ih (n+1) [(y,n)],append_assoc];rfl
   .exact ih n acc
 intro names n acc h;rw [app] at h;rw [lookup_append] at h
 cases e:(cellsFrom n names []).lookup x with
 | some d =>
  rw [e] at h;have:d=c:=by simpa using h
  subst this;exact .inl (mem_of_lookup e)
 | none=>rw [e] at h;exact .inr (by simpa using h)
def oM(ix:List (Option Nat))(σ:St):St:=ix.map fun o=>match o with
 | none=>none
 | some j=>match σ[j]? with
  | some v=>v
  | none=>none
section
variable {X:Cx}{pins:List (Addr×Obj)}{σ:St}{H:Hp}{s:Shared}
theorem qu{N':List Str}{ix:List (Option Nat)}{scope:Scope}{fp:List Addr}(ok:oJ X.env X.N scope N' ix)(I:Inv X pins σ H s)(hf:∀b∈fp,mX X pins H b)(hfl:∀b∈fp,b<s.heap.objs.size) :
  Inv (b9 X N' scope s H fp pins) [] (oM ix σ) H { s with heap:=pushCells (s.heap.push { cls:=.type "dict",data:=.dict #[] }) scope.names }:=by
 have hk4:∀b o,s.heap.get? b=some o->(pushCells (s.heap.push { cls:=.type "dict",data:=.dict #[] }) scope.names).get? b=some o:=fun b o e=>pushCells_keeps _ _ b o (Heap.get?_push_of_some _ e)
 have hclo:∀x c,(fm X.env scope.names []).lookup x=some c->X.env.cells.lookup x=some c:=fun x c e=>by
  rcases dR scope.names [] e with ⟨h1,h2⟩|h1
  .obtain⟨d,hd⟩:=I.ok.has x (ok.free _ h1 rfl).1;rw [hd] at h2 ⊢;rw [h2];rfl
  .cases h1
 have hcl:∀x c,X.env.cells.lookup x=some c->c<s.heap.objs.size:=fun x c e=>by
  obtain⟨v,q⟩:=I.cell x c e;exact q.lt
 have own:=cellsFrom_ok scope.names (s.heap.push { cls:=.type "dict",data:=.dict #[] }) (s.heap.objs.size+1) [] ⟨fun _ _ hm=>(nomatch hm),List.Pairwise.nil⟩ (by rw [Heap.size_push];exact le_refl _);rw [Heap.size_push] at own
 have cases:∀x c,(cellsFrom (s.heap.objs.size+1) scope.names (fm X.env scope.names [])).lookup x=some c ->
   ((pushCells (s.heap.push { cls:=.type "dict",data:=.dict #[] }) scope.names).IsCell c none/\s.heap.objs.size+1<=c)\/X.env.cells.lookup x=some c:=fun x c e=>by
  rcases j8 _ _ _ e with h|h
  .exact .inl (own.empty x c h)
  .exact .inr (hclo x c h)
 have fs':∀b,b∈frs X.stack->b<s.heap.objs.size:=fun b hb=>by
  rcases mem_cons.mp (I.stkSub b hb) with z|z
  .rw [z];exact I.lt
  .by_cases q:b<s.heap.objs.size
   .exact q
   .exact absurd z (I.nofs (Nat.not_lt.mp q))
 have cix:(b9 X N' scope s H fp pins).Ok:=by
  refine⟨I.ok.mod,ok.kind,I.ok.glob,I.ok.blt,le_refl _,fun x y c h1 h2=>?_,fun x hx=>?_,fun x c hx e=>?_,I.ok.hd,I.ok.frames,.inl rfl,fun b hb=>⟨Nat.ne_of_lt (hfl b hb),fun x c e=>?_⟩,fun b o e=>I.bs b o e,le_trans I.ok.bsz I.sz,fun b o e hb=>?_,fun b hb=>?_,I.stack,I.stkFree⟩
  .rcases cases x c h1 with ⟨_,z⟩|z
   .exact dQ scope.names _ _ (fun w d e=>lt_succ_of_lt (hcl w d (hclo w d e))) h1 h2 z
   .rcases cases y c h2 with ⟨_,z2⟩|z2
    .exact absurd (hcl x c z) (Nat.not_lt.mpr (le_of_succ_le z2))
    .exact I.ok.inj x y c z z2
  .have hx':scope.names.lookup x=some .cell\/scope.names.lookup x=some .free:=by
    rcases hx with z|z
    .exact ji (env:=X.env) z (.inl rfl)
    .exact ji (env:=X.env) z (.inr rfl)
   rcases hx' with z|z
   .exact Option.isSome_iff_exists.mp (PySem.W.cellsFrom_some scope.names _ _ (.inl z))
   .exact Option.isSome_iff_exists.mp (PySem.W.cellsFrom_some scope.names _ _ (.inr (fo _ _ (.inl (mem_of_lookup z)))))
  .have hx':(x,NameKind.cell)∈scope.names:=of_decide_eq_true hx
   rcases cases x c e with ⟨_,z⟩|z
   .exact le_of_succ_le z
   .rcases j8 _ _ _ e with h|h
    .exact le_of_succ_le (own.empty x c h).2
    .rcases dR scope.names [] h with ⟨h1,_⟩|h1
     .exact absurd hx' (ok.free _ h1 rfl).2
     .cases h1
  .intro z
   rcases cases x c e with ⟨_,z2⟩|z2
   .rw [z] at z2;exact absurd (hfl b hb) (Nat.not_lt.mpr (le_of_succ_le z2))
   .exact (hf b hb).2.2.2.2.1 x c z2 z
  .rcases (hf b hb).2.2.2.1 with z|z
   .exact I.ok.noex b o e z
   .exact absurd (Heap.lt_size (I.ok.bs b o e).1) (Nat.not_lt.mpr z)
  .intro z
   rcases mem_cons.mp (I.stkSub b z) with q|q
   .exact (hf b hb).2.1 q
   .exact (hf b hb).2.2.1 q
 refine⟨cix,rfl,I.bare,Un.kept hk4,⟨fun _=>none,?_,fun i x v e1 e2 e3=>?_⟩,fun x c e=>?_,I.hok.fresh (le_refl _),fun x c e=>?_,fun p hp=>?_,I.hok.kept hk4,?_⟩
 .exact (Heap.Ns.new s.heap (.type "dict")).keeps (pushCells_keeps _ _)
 .have e2':∃j,ix[i]?=some (some j)/\σ[j]?=some (some v):=by
   unfold oM at e2;rw [getElem?_map] at e2
   cases q:ix[i]? with
   | none=>rw [q] at e2;cases e2
   | some o =>
    rw [q] at e2
    cases o with
    | none=>cases (Option.some.inj e2)
    | some j =>
     refine⟨j,rfl,?_⟩;have e2'':(match σ[j]? with|some v=>v|none=>none)=some v:=Option.some.inj e2
     cases r:σ[j]? with
     | none=>rw [r] at e2'';cases e2''
     | some w=>rw [r] at e2'';exact congrArg some e2''
  obtain⟨j,hj,hv⟩:=e2';obtain⟨hN,hfr⟩:=ok.slot i x j e1 hj;have hk:=(ok.free _ (mem_of_lookup hfr) rfl).1
  have hvis:Vis X.env.scope x:=by
   rcases hk with z|z
   .exact .inr (.inl z)
   .exact .inr (.inr z)
  obtain⟨m,hn,hl⟩:=I.loc;obtain⟨u,ru,lk⟩:=hl j x v hN hv hvis
  refine⟨u,ru,.inr ⟨?_,?_⟩⟩
  .exact mj (env:=X.env) hfr
  .rcases lk with ⟨z,_⟩|⟨_,c,hc,hcell⟩
   .rcases hk with q|q
    .rw [z] at q;cases q
    .rw [z] at q;cases q
   .refine⟨c,?_,hcell.keeps hk4⟩;show (cellsFrom (s.heap.objs.size+1) scope.names (fm X.env scope.names [])).lookup x=some c;rw [dP scope.names _ _ (ok.free _ (mem_of_lookup hfr) rfl).2];obtain⟨d,hd⟩:=Option.isSome_iff_exists.mp (fo (env:=X.env) scope.names [] (.inl (mem_of_lookup hfr)));rw [hd,<- hclo x d hd,hc]
 .rcases cases x c e with ⟨z,_⟩|z
  .exact⟨none,z⟩
  .obtain⟨v,q⟩:=I.cell x c z;exact⟨v,q.keeps hk4⟩
 .rcases cases x c e with ⟨_,z⟩|z
  .exact I.hok.fresh (le_of_succ_le z)
  .exact I.freeC x c z
 .have hp':p∈X.pn++pins:=by simpa [b9] using hp
  obtain⟨q1,q2,q3,q4,q5⟩:=I.pin p hp';refine⟨hk4 _ _ q1,q2,Nat.ne_of_lt (Heap.lt_size q1),fun z=>?_,q5⟩
  rcases mem_cons.mp (I.stkSub p.1 z) with q|q
  .exact q3 q
  .exact q4 q
 .unfold oM;rw [length_map];exact ok.len.symm
end
section
variable {M:Model}{A:Around}{E:Value->Shared->Prop}{s:Shared}
theorem eZ{scope:Scope}{globals:Addr}{cl:List (Str×Addr)}{qual:Str}{func:Option Addr}{code:Value}{env:Env}{Q:Env->Shared->Prop}
  (hQ:Q { scope:=scope,locals:=s.heap.objs.size,globals:=globals,cells:=cellsFrom (s.heap.objs.size+1) scope.names cl,qual:=qual,func:=func,code:=env.code,frame:=env.frame,builtins:=env.builtins }
   { s with heap:=pushCells (s.heap.push { cls:=.type "dict",data:=.dict #[] }) scope.names }) :
  wpAny M A (newFunctionEnv scope globals cl [] qual func code (some env)) Q E s:=by
 simp only [newFunctionEnv,Option.isSome_some,if_true];refine wpAny_bind (wpAny_alloc ?_);refine wpAny_bind (wpAny_layCells _ (fun name kind cells=>by cases hkc:kind == NameKind.cell <;> simp [hkc]) _ _ _ _ ?_);rw [show ({ s with heap:=s.heap.push { cls:=.type "dict",data:=.dict #[] } }:Shared).heap.objs.size=s.heap.objs.size+1 from Heap.size_push ..];simp only [forIn_nil];exact wpAny_bind (wpAny_pure (wpAny_pure hQ))
end
section
variable {prog:Program}{w:World}{A:Around}{R:Result->Shared->Prop}{s:Shared}
theorem j9{elt target iter:Expr}{ifs:List Expr}{scope:Scope}{pos:Pos}{it acc:Value}{env:Env}(I:Nat->Shared->Prop)
  (turn:∀n s,I n s->wpAny (model prog w) A (pyNext it) (fun r s₁=>match r with
   | none=>R (.ok .next) s₁
   | some v=>wpAny (model prog w) A (letOwnedTupleGo target it v) (fun _ s₂=>wpAny (model prog w) A (assign target env v) (fun _ s₃ =>
     wpAny (model prog w) A (forIn ifs true fun c r=>if r=true then do let ok <- isTrue c env (eval c env);pure (ForInStep.yield ok) else pure (ForInStep.yield r)) (fun ok s₄ =>
      if ok=true then wpAny (model prog w) A (eval elt env) (fun x s₅ =>
       wpAny (model prog w) A (call (.builtin "list.append") [acc,x]) (fun _ s₆=>∃m,m<n/\I m s₆) (fun _ _=>False) s₅) (fun _ _=>False) s₄
      else ∃m,m<n/\I m s₄) (fun _ _=>False) s₃) (fun _ _=>False) s₂) (fun _ _=>False) s₁) (fun _ _=>False) s)
  (n:Nat) (h:I n s) :
  codeAny (model prog w) A (.compLoop (.ListComp elt [⟨target,iter,ifs,0⟩] scope pos) 0 it acc env) R s:=by
 refine codeAny_loop rfl I (fun n s hI=>?_) n h;show wpAny _ A ((compTurn (.ListComp elt [⟨target,iter,ifs,0⟩] scope pos) 0 it acc env).onRaise (fun x=>do noteFrame x env;theTreesLotGoes x)) _ _ s;refine wpAny_noted ?_;rw [compTurn_list];refine wpAny_bind (wpAny_standAt (wpAny_bind (wpAny_mono (turn n s hI) (fun r s₁ h₁=>?_) fun _ _ h'=>h'.elim)))
 cases r with
 | none=>exact wpAny_pure h₁
 | some v =>
  refine wpAny_bind (wpAny_mono h₁ (fun _ s₂ h₂=>?_) fun _ _ h'=>h'.elim);refine wpAny_bind (wpAny_mono h₂ (fun _ s₃ h₃=>wpAny_bind (wpAny_mono h₃ (fun ok s₄ h₄=>?_) fun _ _ h'=>h'.elim)) fun _ _ h'=>h'.elim)
  cases ok with
  | false=>exact wpAny_pure ⟨rfl,h₄⟩
  | true =>
   exact wpAny_bind (wpAny_bind (wpAny_mono h₄ (fun x s₅ h₅=>wpAny_bind (wpAny_mono h₅ (fun _ s₆ h₆=>wpAny_pure (wpAny_pure ⟨rfl,h₆⟩)) fun _ _ h'=>h'.elim)) fun _ _ h'=>h'.elim))
end
def PIf(X:Cx)(ifs:List Expr)(t:TT):Prop :=
 ∀(pins:List (Addr×Obj)) (s:Shared) (σ:St) (H:Hp) (Q:Bool->Hp->Prop),Inv X pins σ H s->t σ H Q ->
  wpAny (model X.prog X.w) X.A (forIn ifs true fun c r=>if r=true then do let ok <- isTrue c X.env (eval c X.env);pure (ForInStep.yield ok) else pure (ForInStep.yield r)) (TP X pins σ Q) X.xe s
def vq:TT:=fun _ H Q=>Q true H
section
variable {X:Cx}
theorem lu:PIf X [] vq:=fun _ _ _ H _ I h=>wpAny_tests_nil ⟨H,I,h⟩
theorem jj{c:Expr}{t:TT}(h:PT X c t):PIf X [c] t:=fun pins s σ H Q I q=>wpAny_tests_one (h pins s σ H Q I q)
end
def qv(ix:List (Option Nat))(wi:TI)(g:TG)(tts:TT)(te:TE):TE:=fun σ H Q=>wi σ H fun J H1=>∀D,H1 D=none->∃W:Nat->Nat->St->Hp->Prop,(∃m,W 0 m (oM ix σ) (upd H1 D (.lst [])))/\∀i m τ H2,W i m τ H2 ->
 (J.stop i H2/\Q (.ref D) H2)\/(J.go i H2/\∀x H3,J.yld i H2 x H3->g x τ H3 fun τ2 H4=>tts τ2 H4 fun ok H5=>if ok=true then te τ2 H5 fun v H6=>∃ys,H6 D=some (.lst ys)/\ys.length<sizeLine/\∃m',m'<m/\W (i+1) m' τ2 (upd H6 D (.lst (ys++[v])))
  else ∃m',m'<m/\W (i+1) m' τ2 H5)
section
variable {X:Cx}{tg iter elt:Expr}{ifs:List Expr}{scope:Scope}{N':List Str}{ix:List (Option Nat)}{wi:TI}{g:TG}{tts:TT}{te:TE}
theorem ka{use:Option (Value->Sem Unit)}{Qf:Value->Shared->Prop}{pos p':Pos}{pins:List (Addr×Obj)}{σ:St}{H:Hp}{s:Shared}{Q:VK}(hc:X.calm=true)(ok:oJ X.env X.N scope N' ix)(hi:PI X tg iter wi)
  (blk:∀s H fp pn,PG (b9 X N' scope s H fp pn) tg g/\PIf (b9 X N' scope s H fp pn) ifs tts/\PE (b9 X N' scope s H fp pn) elt te)
  (hs:∀x,foldedSetIterable iter X.env x=pure x) (I:Inv X pins σ H s) (hw:qv ix wi g tts te σ H Q)
  (fin:∀D C H' s',Inv X pins σ H' s'->Q (.ref D) H'->(∃m,s'.heap.Ns C m)->H' C=none->X.s₀.heap.objs.size<=C->C≠X.env.locals->(∀x c,X.env.cells.lookup x=some c->c≠C)->C∉X.fs->(∀p∈X.pn++pins,p.1≠C) ->
   compPost (model X.prog X.w) X.A X.xe use Qf (.ref D) C (.ok .next) s') :
  wpAny (model X.prog X.w) X.A (comprehension (.ListComp elt [⟨tg,iter,ifs,0⟩] scope pos) scope X.env p' (newList []) false (eval iter X.env) use) Qf X.xe s:=by
 have hclos:closureFor scope X.env=pure (fm X.env scope.names []):=gI fun y hy e=>I.ok.has y.1 (ok.free y hy e).1;refine wpAny_comprehension_free (use:=use) rfl hs hclos ok.kind ok.loc (thn (hi pins s σ H _ I hw) fun v s1 h1=>thn h1 fun itv s2 h2=>?_);obtain⟨it,fp,tn,J,H2,e,I2,T,st2,f2,hW⟩:=h2;subst e;obtain⟨W,⟨m0,w0⟩,turn⟩:=hW s2.heap.objs.size (I2.hok.fresh (le_refl _))
 have hfl:∀b∈fp,b<s2.heap.objs.size:=fun b hb=>by
  obtain⟨o,e,_⟩:=T.obj 0 _ st2 b hb;exact Heap.lt_size e
 refine wpAny_newObj_type ?_
 have I3:Inv X pins σ (upd H2 s2.heap.objs.size (.lst [])) { s2 with heap:=s2.heap.push { cls:=.type "list",dict:=none,data:=.seq ([]:List Value).toArray } } :=
  I2.laid (t':=s2.toks) (fun b o e=>Heap.get?_push_of_some _ e) (le_refl _) (show cv X.prog X.w _ _ _ (.lst []) from ⟨zero_le _,[],0,.nil,Heap.get?_push_size _ rfl⟩)
 have st3:tn 0 (s2.heap.push { cls:=.type "list",dict:=none,data:=.seq ([]:List Value).toArray }):=T.keep 0 _ _ st2 fun b _ o e=>Heap.get?_push_of_some _ e;have f3:∀b∈fp,mX X pins (upd H2 s2.heap.objs.size (.lst [])) b:=fun b hb=>⟨by rw [au (Nat.ne_of_lt (hfl b hb))];exact (f2 b hb).1,(f2 b hb).2⟩
 have hfl3:∀b∈fp,b<(s2.heap.push { cls:=.type "list",dict:=none,data:=.seq ([]:List Value).toArray }).objs.size:=fun b hb=>by rw [Heap.size_push];exact lt_succ_of_lt (hfl b hb)
 generalize hs3:({ s2 with heap:=s2.heap.push { cls:=.type "list",dict:=none,data:=.seq ([]:List Value).toArray } }:Shared)=s3 at I3 ⊢;have eh3:s3.heap=s2.heap.push { cls:=.type "list",dict:=none,data:=.seq ([]:List Value).toArray }:=by rw [<- hs3]
 rw [<- eh3] at st3 hfl3;generalize hH3:upd H2 s2.heap.objs.size (.lst [])=H3 at I3 f3 w0;generalize hD:s2.heap.objs.size=D at *;refine eZ ?_;have I4:=qu ok I3 f3 hfl3;obtain⟨hg,ht,he⟩:=blk s3 H3 fp pins;have st4:tn 0 (pushCells (s3.heap.push { cls:=.type "dict",data:=.dict #[] }) scope.names):=T.keep 0 _ _ st3 fun b _ o e=>pushCells_keeps _ _ b o (Heap.get?_push_of_some _ e)
 have stat:∀{H':Hp},(∀b∈fp,H' b=none)->∀b∈fp,mX (b9 X N' scope s3 H3 fp pins) [] H' b:=fun hn b hb=>by
  refine⟨hn b hb,Nat.ne_of_lt (hfl3 b hb),I4.ok.exfs b hb,.inl hb,(I4.ok.exf b hb).2,fun p hp=>?_⟩;have hp':p∈X.pn++pins:=by simpa [b9] using hp
  exact (f2 b hb).2.2.2.2.2 p hp'
 have loop:∀(s4:Shared),Inv (b9 X N' scope s3 H3 fp pins) [] (oM ix σ) H3 s4->tn 0 s4.heap ->
   codeAny (model X.prog X.w) X.A (.compLoop (.ListComp elt [⟨tg,iter,ifs,0⟩] scope pos) 0 (.ref it) (.ref D) (oI scope s3.heap.objs.size X.env)) (compPost (model X.prog X.w) X.A X.xe use Qf (.ref D) s3.heap.objs.size) s4:=by
  intro s4 I4 st4;refine j9 (fun n s'=>∃i τ H',Inv (b9 X N' scope s3 H3 fp pins) [] τ H' s'/\tn i s'.heap/\(∀b∈fp,H' b=none)/\W i n τ H') ?_ m0 ⟨0,_,H3,I4,st4,fun b hb=>(f3 b hb).1,w0⟩;rintro n s5 ⟨i,τ,H5,I5,st5,fr5,w5⟩
  rcases turn i n τ H5 w5 with ⟨stop,qn⟩|⟨go,step⟩
  .refine thn (T.done (b9 X N' scope s3 H3 fp pins) rfl rfl rfl hc i [] s5 τ H5 (fun _ _=>False) I5 (stat fr5) st5 stop) fun r s6 ⟨hr,I6⟩=>?_;subst hr;have I7:Inv X pins σ H5 s6:=I3.call' (ch:=fp) I6.os I6.base I6.hok I6.bare fun b hb=>⟨(f2 b hb).2.2.2.1,(f2 b hb).2.1,(f2 b hb).2.2.2.2.1,(f2 b hb).2.2.2.2.2⟩
   obtain⟨m6,hn6,_⟩:=I6.loc
   refine fin D s3.heap.objs.size H5 s6 I7 qn ⟨m6,hn6⟩ I6.free ?_ ?_ ?_ ?_ ?_
   .exact I3.sz
   .exact ne_of_gt I3.lt
   .intro x c e z;obtain⟨v,q⟩:=I3.cell x c e;have:=q.lt;rw [z] at this;exact Nat.lt_irrefl _ this
   .exact I3.nofs (le_refl _)
   .intro p hp z;have:=Heap.lt_size (I3.pin p hp).1;rw [z] at this;exact Nat.lt_irrefl _ this
  .refine thn (T.item (b9 X N' scope s3 H3 fp pins) rfl rfl rfl hc i [] s5 τ H5 (fun _ _=>False) I5 (stat fr5) st5 go) fun r s6 ⟨u,hr,h6⟩=>?_;subst hr;refine thn h6 fun _ s7 ⟨x,H7,I7,r7,y7,st7,fr7⟩=>?_;have I7':=I7.pinned (stat fr7) (T.obj _ _ st7)
   have again:∀{s8:Shared}{τ8:St}{H8:Hp},Inv (b9 X N' scope s3 H3 fp pins) ([]++jX fp s7.heap) τ8 H8 s8->(∃m',m'<n/\W (i+1) m' τ8 H8) ->
     ∃m,m<n/\∃i τ H',Inv (b9 X N' scope s3 H3 fp pins) [] τ H' s8/\tn i s8.heap/\(∀b∈fp,H' b=none)/\W i m τ H':=fun {s8 τ8 H8} I8 ⟨m',hm,w8⟩=>by
    refine⟨m',hm,i+1,τ8,H8,I8.unpinned,T.keep _ _ _ st7 fun b hb o e=>(I8.pin (b,o) (mem_append_right _ (mem_append_right _ (eN hb e)))).1,fun b hb=>?_,w8⟩;obtain⟨o,e,d⟩:=T.obj _ _ st7 b hb;exact (I8.pin (b,o) (mem_append_right _ (mem_append_right _ (eN hb e)))).2.1
   refine thn (hg _ s7 τ H7 x u _ I7' r7 (step x H7 y7)) fun _ s8 ⟨τ8,H8,I8,q8⟩=>?_;refine thn (ht _ s8 τ8 H8 _ I8 q8) fun okb s9 ⟨H9,I9,q9⟩=>?_
   cases okb with
   | false =>
    rw [if_neg Bool.false_ne_true] at q9;rw [if_neg Bool.false_ne_true];exact again I9 q9
   | true =>
    rw [if_pos rfl] at q9;rw [if_pos rfl];refine thn (he _ s9 τ8 H9 _ I9 q9) fun v10 s10 ⟨x10,H10,I10,r10,q10⟩=>?_;obtain⟨ys,hD10,hz,m',hm,w10⟩:=q10;refine thn (dE (X:=b9 X N' scope s3 H3 fp pins) _ s10 τ8 H10 (.ref D) [x10] (.ref D) [v10] (fun _ H'=>∃m',m'<n/\W (i+1) m' τ8 H') I10 rfl (.cons r10 .nil) ⟨D,ys,x10,rfl,rfl,hD10,hz,m',hm,w10⟩) fun _ s11 ⟨_,H11,I11,_,q11⟩=>?_;exact again I11 q11
 exact codeAny_compStart_list (loop _ I4 st4) (T.self X.A 0 _ _ _ st4 (loop _ I4 st4))
theorem fR{pos:Pos}(N':List Str)(ix:List (Option Nat))(hc:X.calm=true)(hi:PI X tg iter wi)
  (blk:∀s H fp pn,PG (b9 X N' scope s H fp pn) tg g/\PIf (b9 X N' scope s H fp pn) ifs tts/\PE (b9 X N' scope s H fp pn) elt te)
  (chk:jh X.env.scope X.N scope N' ix=true) (hs:∀x,foldedSetIterable iter X.env x=pure x:=by intro _;rfl) :
  PE X (.ListComp elt [⟨tg,iter,ifs,0⟩] scope pos) (qv ix wi g tts te):=by
 intro pins s σ H Q I hw;rw [eval_ListComp];refine ka (use:=none) hc (j7 chk) hi blk hs I hw fun D C H' s' I' q hm hn h1 h2 h3 h4 h5=>?_;obtain⟨m,hm⟩:=hm;refine⟨m,hm,fun h' sb=>⟨.ref D,H',?_,rfl,q⟩⟩;exact I'.turned (t':=s'.toks) (fun b o hb e=>(sb.2 b hb).trans e) hn h2 (.inr h1) h3 h5
end
section
variable {X:Cx}{tg iter elt:Expr}{ifs:List Expr}{scope:Scope}{N':List Str}{ix:List (Option Nat)}{wi:TI}{g:TG}{tts:TT}{te:TE}
theorem sH{i:Nat}{x:Str}{pos pos' cpos:Pos}(N':List Str)(ix:List (Option Nat))(hN:X.N.Nodup)(hi:X.N[i]?=some x)(hx:Loc X.env.scope x)(hc:X.calm=true)(hit:PI X tg iter wi)
  (blk:∀s H fp pn,PG (b9 X N' scope s H fp pn) tg g/\PIf (b9 X N' scope s H fp pn) ifs tts/\PE (b9 X N' scope s H fp pn) elt te)
  (chk:jh X.env.scope X.N scope N' ix=true) (hsw:swapsWith (.ListComp elt [⟨tg,iter,ifs,0⟩] scope cpos) (some (.Name x pos')) pos.line X.env=pure true:=by rfl)
  (hs:∀x,foldedSetIterable iter X.env x=pure x:=by intro _;rfl) (hf:X.fn x=true\/X.env.scope.names.lookup x=some .local:=by first|exact .inl rfl|exact .inr rfl|assumption) :
  PS X (.Assign [.Name x pos'] (.ListComp elt [⟨tg,iter,ifs,0⟩] scope cpos) pos) (uI (qv ix wi g tts te) (eY i)):=by
 intro pins s σ H D I hw;rw [exec_Assign_Name_used _ _ _ _ hsw];refine wpAny_bind (wpAny_standAt (wpAny_bind ?_));show wpAny _ X.A (do let _ <- comprehension (.ListComp elt [⟨tg,iter,ifs,0⟩] scope cpos) scope X.env _ (newList []) false (eval iter X.env) (some (assign (.Name x pos') X.env))) _ _ s;refine wpAny_bind (thn (ka (use:=some (assign (.Name x pos') X.env)) (Qf:=fun _ s'=>SP X pins D .next s') hc (j7 chk) hit blk hs I hw fun D' C H' s' I' q hm hn h1 h2 h3 h4 h5=>?_) fun _ s' q=>wpAny_pure (wpAny_pure q))
 obtain⟨m,oC,es,ep,hoC,hdC,hrC⟩:=hm
 have Ip:Inv X (pins++[(C,oC)]) σ H' s':=I'.pins_of fun p hp=>(mem_append.mp hp).elim (fun z=>I'.pin p (mem_append_right _ z)) fun z=>by
  have e:p=(C,oC):=by simpa using z
  subst e;exact⟨hoC,hn,h2,h4,fun v z=>by rw [hdC] at z;cases z⟩
 refine wpAny_assign_Name (i8 (v:=.ref D') Ip hN hi hx rfl (fun s2 I2=>?_) hf);have hC2:s2.heap.get? C=some oC:=(I2.pin (C,oC) (by simp)).1;have I2':Inv X pins (σ.set i (some (.ref D'))) H' s2:=I2.pins_of fun p hp=>I2.pin p (mem_append_right _ (mem_append_left _ hp));refine⟨m,⟨oC,es,ep,hC2,hdC,hrC⟩,fun h' sb=>⟨_,H',?_,q⟩⟩;exact I2'.turned (t':=s2.toks) (fun b o hb e=>(sb.2 b hb).trans e) hn h2 (.inr h1) h3 h5
end
theorem oN:typeLookup (.type "list_reverseiterator") "__len__"=pure none:=by rw [typeLookup_type,builtinLookup_eq_fast];kernel_rfl
theorem qw:typeLookup (.type "list_reverseiterator") "__length_hint__"=pure (some (.builtin "list_reverseiterator.__length_hint__")):=by rw [typeLookup_type,builtinLookup_eq_fast];kernel_rfl
section
variable {prog:Program}{w:World}{A:Around}{E:Value->Shared->Prop}{s:Shared}{I l:Addr}{items:Array Value}
theorem qx{Q:Bool->Shared->Prop}{i:Int}(hit:s.heap.IsRevIter I l i)(h:Q false s):wpAny (model prog w) A (Builtin.List.listLengthHint (.ref I)) Q E s:=by
 unfold Builtin.List.listLengthHint;refine wpAny_bind (wpAny_specialOf hit.typeIs oN ?_);show wpAny _ A (specialOf (Value.ref I) (Str.ofString "__length_hint__") >>= _) _ _ _;refine wpAny_bind (wpAny_specialOf hit.typeIs qw ?_)
 (generalize hid:("list_reverseiterator.__length_hint__":String)=id0;(fail_if_success (clear hid id0));wp_delta;rw [show splitId id0=some ("list_reverseiterator","__length_hint__") from by subst hid;decide +kernel];subst hid)
 refine wpAny_bind (wpAny_isInstance (b:=true) hit.typeIs (by rw [isSubtype_type];kernel_rfl) ?_);exact wpAny_pure h
theorem nr{R:Result->Shared->Prop}(hh:A.handled=none)(hit:s.heap.IsRevIter I l ((items.size:Int) - 1))(hl:s.heap.IsList l items)(hlI:l≠I)(hsz:items.size<=sizeLine)(Sx:Addr)(res:Value)(c₀:Nat)
  (hS:s.heap.get? Sx=some { cls:=.type "list",data:=.seq #[] c₀ }) (hSI:Sx≠I) (hSl:Sx≠l)
  (hR:∀h' tk acc' c',(∀b o,b≠Sx->b≠I->s.heap.get? b=some o->h'.get? b=some o)->h'.get? Sx=some { cls:=.type "list",dict:=none,data:=.seq acc' c',slots:=#[] } ->
   ItemsOf (fun i v=>items[items.size - 1 - i]?=some v) acc' items.size->R (.ok (.ret res)) { s with heap:=h',toks:=tk }) :
  wpAny (model prog w) A.in1 (Builtin.List.listExtendWith (.ref Sx) (.ref I) res)
   (fun fin s'=>match fin with|.done f=>R (.ok f) s'|.again c'=>c'.quiet=true/\codeAny (model prog w) A c' R s') (fun e s'=>R (.error e) s') s:=by
 have hSf:Sx∉[I,l]:=fun hm=>by
  rcases mem_cons.mp hm with e|e
  .exact hSI e
  .exact hSl (mem_singleton.mp e)
 have W:=(Walks.listRev (prog:=prog) (w:=w) (A:=A.in1) hh I l hlI items).toS;unfold Builtin.List.listExtendWith;refine wpAny_bind (wpAny_typeOf (T:="list_reverseiterator") hit.typeIs ?_);have h1:Builtin.List.listSameRef (.ref Sx) (.ref I)=false:=by simp [Builtin.List.listSameRef,hSI]
 have h2:(Value.type "list_reverseiterator" == Value.type "list")=false:=by decide
 have h3:(Value.type "list_reverseiterator" == Value.type "tuple")=false:=by decide
 simp only [h1,h2,h3,Bool.or_false,false_eq_true,if_false];refine wpAny_bind (wpAny_pyIter_revIter hit ?_);refine wpAny_bind (wpAny_holding (qx hit ?_));refine wpAny_ite_split (fun hab=>absurd hab (by decide)) (fun _=>?_);refine wpAny_pure ⟨plainId_quiet F.plain_extend_loop _,codeAny_extend_loopS W hsz Sx hSf res items.size 0 _ #[] c₀ rfl (zero_le _) ⟨zero_le _,by simpa using hit,hl⟩ hS (ItemsOf.nil _) fun s' acc' c' hm hS' hacc=>?_⟩
 rw [Moved.eq_with hm];refine hR s'.heap s'.toks acc' c' (fun b o hb hbI e=>hm.heap b o (fun hmem=>?_) e) hS' hacc
 rcases mem_cons.mp hmem with e'|hmem
 .exact hb e'
 .exact hbI (mem_singleton.mp hmem)
theorem jk{R:Result->Shared->Prop}(hh:A.handled=none)(hit:s.heap.IsRevIter I l ((items.size:Int) - 1))(hl:s.heap.IsList l items)(hlI:l≠I)(hsz:items.size<=sizeLine)(Sx:Addr)
  (hS:s.heap.get? Sx=some { cls:=.type "list",data:=.seq #[] }) (hSI:Sx≠I) (hSl:Sx≠l)
  (hR:∀h' tk acc' c',(∀b o,b≠Sx->b≠I->s.heap.get? b=some o->h'.get? b=some o)->h'.get? Sx=some { cls:=.type "list",dict:=none,data:=.seq acc' c',slots:=#[] } ->
   ItemsOf (fun i v=>items[items.size - 1 - i]?=some v) acc' items.size->R (.ok (.ret .none)) { s with heap:=h',toks:=tk }) :
  wpAny (model prog w) A.in1 (Builtin.«list.__init__» ⟨[.ref Sx,.ref I],[]⟩)
   (fun fin s'=>match fin with|.done f=>R (.ok f) s'|.again c'=>c'.quiet=true/\codeAny (model prog w) A c' R s') (fun e s'=>R (.error e) s') s:=by
 show wpAny _ _ (do let old <- Builtin.List.listItems (.ref Sx);Builtin.List.listUpdate (.ref Sx) (fun _=>#[]);letGo old.toList.reverse;Builtin.List.listExtendWith (.ref Sx) (.ref I) .none) _ _ s;refine wpAny_bind ?_;unfold Builtin.List.listItems;refine wpAny_bind (wpAny_seqItems hS rfl (wpAny_pure ?_));show wpAny _ _ (updateSeq Sx (fun _=>#[]) >>= fun _=>letGo (#[]:Array Value).toList.reverse >>= fun _=>Builtin.List.listExtendWith (.ref Sx) (.ref I) .none) _ _ s
 refine wpAny_bind (wpAny_updateSeq hS rfl ?_);have hS₂:=Heap.get?_update_self (Obj.mapSeq (fun _=>(#[]:Array Value))) hS rfl
 have oth:∀b o,b≠Sx->s.heap.get? b=some o->(s.heap.update Sx (Obj.mapSeq (fun _=>(#[]:Array Value)))).get? b=some o :=
  fun b o hb e=>(Heap.get?_update_other _ _ (Ne.symm hb)).trans e
 refine wpAny_bind (wpAny_letGo ?_);refine nr hh (hit.at fun o e=>oth I o (Ne.symm hSI) e) (hl.at fun o e=>oth l o (Ne.symm hSl) e) hlI hsz Sx .none _ hS₂ hSI hSl fun h' tk acc' c' hk hS' hacc=>?_;exact hR h' tk acc' c' (fun b o hb hbI e=>hk b o hb hbI (oth b o hb e)) hS' hacc
theorem jl{Q:Value->Shared->Prop}(hh:A.handled=none)(hit:s.heap.IsRevIter I l ((items.size:Int) - 1))(hl:s.heap.IsList l items)(hlI:l≠I)(hsz:items.size<=sizeLine)
  (hQ:∀h' tk acc' c',(∀b o,b≠I->s.heap.get? b=some o->h'.get? b=some o) ->
   h'.get? s.heap.objs.size=some { cls:=.type "list",dict:=none,data:=.seq acc' c',slots:=#[] }->ItemsOf (fun i v=>items[items.size - 1 - i]?=some v) acc' items.size->Q (.ref s.heap.objs.size) { s with heap:=h',toks:=tk }) :
  wpAny (model prog w) A (call (.type "list") [.ref I]) Q E s:=by
 refine callType_codes (Q₁:=fun obj s₁=>obj=.ref s.heap.objs.size/\s₁={ s with heap:=s.heap.push { cls:=.type "list",data:=.seq #[] } }) F.called_list (F.typeCall_list_1 _) F.entry_list_init
  (code_list_new _ ⟨rfl,rfl⟩) fun obj s₁ h₁=>?_
 obtain⟨rfl,rfl⟩:=h₁;have hS:(s.heap.push { cls:=.type "list",data:=.seq #[] }).get? s.heap.objs.size=some { cls:=.type "list",data:=.seq #[] }:=Heap.get?_push_size _ rfl
 have hSI:s.heap.objs.size≠I:=by
  obtain⟨o,ho,_⟩:=hit;exact ne_of_gt (Heap.lt_size ho)
 have hSl:s.heap.objs.size≠l:=by
  obtain⟨o,ho,_⟩:=hl;exact ne_of_gt (Heap.lt_size ho)
 refine⟨⟨_,hS,rfl⟩,F.args_list_init_2 _ _,jk (A:=A.in1) hh (hit.at fun o e=>Heap.get?_push_of_some _ e) (hl.push _) hlI hsz _ hS hSI hSl fun h' tk acc' c' hk hS' hacc=>?_⟩;exact⟨rfl,hQ h' tk acc' c' (fun b o hb e=>hk b o (Nat.ne_of_lt (Heap.lt_size e)) hb (Heap.get?_push_of_some _ e)) hS' hacc⟩
end
theorem qy{xs:List V}{its:List Value}(r:bP xs its){acc:Array Value}(h:ItemsOf (fun i v=>its.toArray[its.toArray.size - 1 - i]?=some v) acc its.toArray.size):bP xs.reverse acc.toList:=by
 have e:acc.toList=its.reverse:=by
  obtain⟨hn,hi⟩:=h;apply ext_getElem?;intro i
  by_cases hil:i<its.length
  .have hia:i<acc.size:=by rw [hn];simpa using hil
   have:=hi i acc[i] (by simp);rw [getElem?_reverse hil];have e1:acc.toList[i]?=some acc[i]:=by simp
   rw [e1,<- this];simp
  .have hna:acc.toList.length=its.length:=by simpa using hn
   rw [getElem?_eq_none (by omega),getElem?_eq_none (by rw [length_reverse];omega)]
 rw [e];exact r.reverse
section
variable {X:Cx}{e:Expr}{te:TE}{p p1 p2 pos:Pos}
theorem nu(hc:X.calm=true)(he:PE X e te)(hg1:Gl X "list")(hm1:X.mg "list"=none)(hg2:Gl X "reversed")(hm2:X.mg "reversed"=none)
  (hs:starEach [.Call (.Name "reversed" p1) [e] [] p2] X.env=[(false,eval (.Call (.Name "reversed" p1) [e] [] p2) X.env)]:=by rfl) (hs2:starEach [e] X.env=[(false,eval e X.env)]:=by rfl) :
  PE X (.Call (.Name "list" p) [.Call (.Name "reversed" p1) [e] [] p2] [] pos) (fun σ H Q=>te σ H fun x H1=>∃a xs,x=.ref a/\SqL X.K H1 a xs/\∀l,H1 l=none->Q (.ref l) (upd H1 l (.lst xs.reverse))):=by
 intro pins s σ H Q I h;refine Call_ (c5 I hg1 hm1 boot_list (PyProof.Rows.callWith_type1 ?_ hs rfl));rw [hs];show wpAny _ _ (spliced ((false,eval (.Call (.Name "reversed" p1) [e] [] p2) X.env)::backTo pos [])) _ _ s;refine Calls.spliced_cons ?_;refine Call_ (c5 I hg2 hm2 boot_reversed (PyProof.Rows.callWith_type1 ?_ hs2 rfl));rw [hs2];show wpAny _ _ (spliced ((false,eval e X.env)::backTo p2 [])) _ _ s
 refine Calls.spliced_cons (thn (he pins s σ H _ I h) fun u s1 ⟨x,H1,I1,r1,q1⟩=>Calls.spliced_nil ?_);obtain⟨a,xs,rfl,hS,q⟩:=q1;cases r1;obtain⟨its,rv,pl,hz⟩:=I1.list hS;have hlen:=rv.length;refine call_reversed_list pl.isList ?_;refine Calls.spliced_nil ?_
 have hal:a<s1.heap.objs.size:=by
  obtain⟨o,ho,_⟩:=pl.isList;exact Heap.lt_size ho
 have I2:Inv X pins σ H1 { s1 with heap:=s1.heap.push (revObj a ((its.toArray.size:Int) - 1)) }:=I1.kept (t':=s1.toks) fun b o e=>Heap.get?_push_of_some _ e;refine jl (I1.ok.hd hc) (I:=s1.heap.objs.size) (l:=a) (items:=its.toArray) ⟨_,Heap.get?_push_size _ rfl,rfl,rfl⟩ (pl.isList.push _) (Nat.ne_of_lt hal) (by rw [size_toArray];omega) fun h' tk acc' c' hk eL hacc=>?_;have hfI:=I1.fpOk (H':=H1) (le_refl s1.heap.objs.size) (I1.hok.fresh (le_refl _))
 obtain⟨f0,f1,f2,f3,f4,f5⟩:=hfI;have hLn:H1 (s1.heap.push (revObj a ((its.toArray.size:Int) - 1))).objs.size=none:=I2.hok.fresh (le_refl _);have hLlt:∀b o,(s1.heap.push (revObj a ((its.toArray.size:Int) - 1))).get? b=some o->b≠(s1.heap.push (revObj a ((its.toArray.size:Int) - 1))).objs.size:=fun b o e=>Nat.ne_of_lt (Heap.lt_size e);have nit:∀b u,H1 b=some u->b≠s1.heap.objs.size:=fun b u e z=>by rw [z,f0] at e;cases e
 have neL:∀b u,H1 b=some u->b≠(s1.heap.push (revObj a ((its.toArray.size:Int) - 1))).objs.size:=fun b u e z=>by rw [z,hLn] at e;cases e
 have hokT:HOk X.prog X.w H1 h':=fun b u e=>by
  refine (I2.hok b u e).stay (fun c v hc q=>hk c v ?_ q) (fun _ q=>q) fun _ _ q=>q
  rcases hc with z|z
  .rw [z];exact nit b u e
  .exact nit c _ z
 refine⟨.ref _,upd H1 (s1.heap.push (revObj a ((its.toArray.size:Int) - 1))).objs.size (.lst xs.reverse),?_,rfl,q _ hLn⟩
 refine I2.step (g':=s1.gens) (d':=s1.drawn) (t':=tk) (ch:=[s1.heap.objs.size]) (fun b hb=>?_) (fun b o _ _ hc e _=>hk b o (fun z=>hc (by simp [z])) e) (fun b o _ _ hc e _=>⟨o.slots,hk b o (fun z=>hc (by simp [z])) e⟩)
  (fun b o _ e n=>by rw [au (hLlt b o e)];exact n) (fun b o hc e=>⟨o,hk b o (fun z=>hc (by simp [z])) e⟩) (fun b ys e=>by rw [au (neL b _ e)];exact e) (fun b o u e=>by rw [au (neL b _ e)];exact e)
  (fun b ps e=>⟨#[],by rw [au (neL b _ e),e];simp⟩) (fun m hm=>?_) ?_ I2.bare
 .have e:b=s1.heap.objs.size:=by simpa using hb
  subst e;exact⟨f3,f1,f4,f5⟩
 .obtain⟨o,es,ep,ho,r⟩:=hm;exact⟨o,es,ep,hk _ o (Ne.symm f1) ho,r⟩
 .intro b u e
  by_cases hb:b=(s1.heap.push (revObj a ((its.toArray.size:Int) - 1))).objs.size
  .subst hb;rw [aT] at e;cases e;exact⟨by rw [length_reverse];exact hz,acc'.toList,c',qy rv hacc,by simpa using eL⟩
  .rw [au hb] at e
   refine (hokT b u e).stay (fun c v _ q=>q) (fun c q=>?_) fun c ys q=>?_
   .rw [au (neL c _ q)];exact q
   .rw [au (neL c _ q)];exact q
end
def dy(k:Bool)(h:Heap)(a:Addr)(its:Array Value):Prop:=∃o,h.get? a=some o/\o.cls=.type (cond k "tuple" "list")/\∃n,o.data=.seq its n
def ca(k:Bool)(h:Heap)(it a:Addr)(i:Nat):Prop:=∃o,h.get? it=some o/\o.cls=.type (cond k "tuple_iterator" "list_iterator")/\o.data=.fields #[.ref a,.int i 0]
theorem dy.mv{k:Bool}{h h':Heap}{a:Addr}{its:Array Value}(r:dy k h a its)(f:∀o,h.get? a=some o->h'.get? a=some o):dy k h' a its:=let ⟨o,e,q⟩:=r;⟨o,f o e,q⟩
theorem ca.mv{k:Bool}{h h':Heap}{it a:Addr}{i:Nat}(r:ca k h it a i)(f:∀o,h.get? it=some o->h'.get? it=some o):ca k h' it a i:=let ⟨o,e,q⟩:=r;⟨o,f o e,q⟩
section
variable {P:Program}{w:World}{A:Around}{E:Value->Shared->Prop}{s:Shared}{k:Bool}{it a:Addr}{i:Nat}{its:Array Value}
theorem kc{x:Value}{Q:Value->Shared->Prop}(W:s.heap.IsTupleIter it a i)(R:s.heap.IsTuple a its)(hx:its[i]?=some x)
  (hQ:∀h',h'.IsTupleIter it a (i+1)->Heap.SameBut it s.heap h'->Q x { s with heap:=h' }):wpAny (model P w) A (Builtin.SmallTypes.nextOf (.ref it)) Q E s:=by
 have hT:=W.typeIs;obtain⟨o,ho,c,d⟩:=W;obtain⟨ol,hol,_,nl,dl⟩:=R;unfold Builtin.SmallTypes.nextOf;refine wpAny_bind (wpAny_callSpecial?_slot (name:=Str.ofString "__next__") hT F.slot_tuple_iterator_next (wpAny_call_entry F.slot_tuple_iterator_next hT F.entry_tuple_iterator_next ?_ (F.args_tuple_iterator_next_1 _)));refine wpAny_bind (m:=field (.ref it) 0) (wpAny_field ho d (x:=.ref a) rfl ?_);have nn:¬ ((Value.ref a == Value.none)=true):=Bool.false_ne_true
 show wpAny _ _ (if (Value.ref a == Value.none)=true then _ else _) _ _ s;rw [if_neg nn];refine wpAny_bind (m:=field (.ref it) 1) (wpAny_field ho d (x:=.int i 0) rfl ?_);refine wpAny_bind (m:=seqItems? (.ref a)) (wpAny_seqItems hol dl ?_);simp only [toNat_natCast,hx];exact wpAny_bind (wpAny_setField ho d (by simp) (wpAny_pure ⟨x,rfl,wpAny_pure (hQ _ ⟨_,Heap.get?_update_self _ ho (Obj.isFreed_of_fields (Obj.data_mapFields d _)),(Obj.cls_mapFields ..).trans c,by rw [Obj.data_mapFields d];simp [rawInt]⟩ (Heap.SameBut.update ..))⟩))
theorem lv{Q:Value->Shared->Prop}(hh:A.handled=none)(W:s.heap.IsTupleIter it a i)(R:s.heap.IsTuple a its)(hx:its[i]?=none)
  (hE:∀h' e,Heap.ExtBut it s.heap h'->(∃o,h'.get? e=some o/\o.cls=.type "StopIteration")->E (.ref e) { s with heap:=h' }):wpAny (model P w) A (Builtin.SmallTypes.nextOf (.ref it)) Q E s:=by
 have hT:=W.typeIs;obtain⟨o,ho,c,d⟩:=W;obtain⟨ol,hol,_,nl,dl⟩:=R;unfold Builtin.SmallTypes.nextOf;refine wpAny_bind (wpAny_callSpecial?_slot (name:=Str.ofString "__next__") hT F.slot_tuple_iterator_next (wpAny_call_entry F.slot_tuple_iterator_next hT F.entry_tuple_iterator_next ?_ (F.args_tuple_iterator_next_1 _)));refine wpAny_bind (m:=field (.ref it) 0) (wpAny_field ho d (x:=.ref a) rfl ?_);have nn:¬ ((Value.ref a == Value.none)=true):=Bool.false_ne_true
 show wpAny _ _ (if (Value.ref a == Value.none)=true then _ else _) _ _ s;rw [if_neg nn];refine wpAny_bind (m:=field (.ref it) 1) (wpAny_field ho d (x:=.int i 0) rfl ?_);refine wpAny_bind (m:=seqItems? (.ref a)) (wpAny_seqItems hol dl ?_);simp only [toNat_natCast,hx];refine wpAny_bind (wpAny_rule (wpAny_bind (wpAny_setField ho d (by simp) (wpAny_bind (m:=newExc (.type "StopIteration") []) ?_))));simp only [newExc,newTuple]
 refine wpAny_bind (wpAny_newObj_type (wpAny_bind (m:=firstArgMember _ _) (wpAny_of_eq (a:=Value.none) (by first|rfl|(simp only [firstArgMember];rfl)) (wpAny_newObj_type ?_ (by size_fits)))) (by size_fits));simp only [raiseNew];refine wpAny_bind (wpAny_handled ?_)
 first|rw [show A.in1.handled=none from hh]|rw [hh]
 exact wpAny_bind (wpAny_pure (wpAny_throw (hE _ _ (((Heap.SameBut.update ..).extBut.push _).push _) ⟨_,Heap.get?_push_size _ rfl,rfl⟩)))
theorem c7{x:Value}{Q:Value->Shared->Prop}(W:ca k s.heap it a i)(R:dy k s.heap a its)(hx:its[i]?=some x)
  (hQ:∀h',ca k h' it a (i+1)->Heap.SameBut it s.heap h'->Q x { s with heap:=h' }):wpAny (model P w) A (Builtin.SmallTypes.nextOf (.ref it)) Q E s:=by
 cases k with
 | false=>exact wpAny_nextOf_list_item W R hx hQ
 | true=>exact kc W R hx hQ
theorem dS{Q:Value->Shared->Prop}(hh:A.handled=none)(W:ca k s.heap it a i)(R:dy k s.heap a its)(hx:its[i]?=none)
  (hE:∀h' e,Heap.ExtBut it s.heap h'->(∃o,h'.get? e=some o/\o.cls=.type "StopIteration")->E (.ref e) { s with heap:=h' }):wpAny (model P w) A (Builtin.SmallTypes.nextOf (.ref it)) Q E s:=by
 cases k with
 | false=>exact wpAny_nextOf_list_end hh W R hx hE
 | true=>exact lv hh W R hx hE
end
structure ZA (z U V i j:Addr):Prop where
 Uz:U≠z
 Vz:V≠z
 iz:i≠z
 jz:j≠z
 UV:U≠V
 Ui:U≠i
 Uj:U≠j
 Vi:V≠i
 Vj:V≠j
 ij:i≠j
section
variable {P:Program}{w:World}{A:Around}{E:Value->Shared->Prop}{s:Shared}{k l:Bool}{z U V i j a c:Addr}{n:Nat}{xs ys:Array Value}{x y u v:Value}
theorem sI{Q:Value->Shared->Prop}(D:ZA z U V i j)(az:a≠z)(cz:c≠z)(ci:c≠i)(cV:c≠V)(hz:IsZip s.heap z U V .none)(hU:IsPair s.heap U (.ref i) (.ref j))(hV:IsPair s.heap V u v)
  (W1:ca k s.heap i a n) (W2:ca l s.heap j c n) (R1:dy k s.heap a xs) (R2:dy l s.heap c ys) (hx:xs[n]?=some x) (hy:ys[n]?=some y)
  (hQ:∀h',IsZip h' z U V (rawInt s.heap.objs.size)->IsPair h' V x y->ca k h' i a (n+1)->ca l h' j c (n+1)->IsPair h' s.heap.objs.size x y->h'.objs.size=s.heap.objs.size+1 ->
   (∀b o,b≠z->b≠V->b≠i->b≠j->s.heap.get? b=some o->h'.get? b=some o)->Q (.ref s.heap.objs.size) { s with heap:=h' }) :
  wpAny (model P w) A (Builtin.«zip.__next__» ⟨[.ref z],[]⟩) (fun f s'=>∃r,f=.done (.ret r)/\Q r s') E s:=by
 refine wpAny_bind (m:=field (.ref z) 2) (wpAny_field hz rfl (x:=.bool false) rfl (wpAny_bind (m:=field (.ref z) 3) (wpAny_field hz rfl (x:=.ref U) rfl (wpAny_bind (wpAny_seqItems hU rfl ?_)))));refine wpAny_bind (m:=Builtin.SmallTypes.ownedTupleIsFree (.ref z)) ?_;unfold Builtin.SmallTypes.ownedTupleIsFree;refine wpAny_bind (wpAny_field hz rfl (x:=.none) rfl (wpAny_pure ?_));simp only [if_true];refine wpAny_bind (wpAny_rule (wpAny_bind (wpAny_field hz rfl (x:=.ref V) rfl (wpAny_bind (wpAny_setField_rec hz (by simp) fun g1 z1 b1=>wpAny_bind ?_)))))
 replace z1:IsZip g1 z U V .ellipsis:=z1
 simp only [zipIdx_cons,zipIdx_nil,forIn_cons,forIn_nil];have e1:=b1.extBut;refine wpAny_bind (wpAny_bind (wpAny_onRaise (wpAny_bind (m:=Builtin.SmallTypes.nextOf (.ref i)) (c7 (W1.mv fun o e=>e1 _ o D.iz e) (R1.mv fun o e=>e1 _ o az e) hx fun g2 w1 b2=>wpAny_pure ?_))));have e2:=b2.extBut;have v2:IsPair g2 V u v:=e2 _ _ D.Vi (e1 _ _ D.Vz hV);refine wpAny_bind (wpAny_seqItems v2 rfl (wpAny_bind (wpAny_updateSeq_pair v2 fun g3 v3 b3=>wpAny_bind (wpAny_letGo (wpAny_pure ?_)))))
 replace v3:IsPair g3 V x v:=v3
 have e3:=b3.extBut;refine wpAny_bind (wpAny_bind (wpAny_onRaise (wpAny_bind (m:=Builtin.SmallTypes.nextOf (.ref j)) (c7 (W2.mv fun o e=>e3 _ o D.Vj.symm (e2 _ o D.ij.symm (e1 _ o D.jz e))) (R2.mv fun o e=>e3 _ o cV (e2 _ o ci (e1 _ o cz e))) hy fun g4 w2 b4=>wpAny_pure ?_))));have e4:=b4.extBut;have v4:IsPair g4 V x v:=e4 _ _ D.Vj v3;refine wpAny_bind (wpAny_seqItems v4 rfl (wpAny_bind (wpAny_updateSeq_pair v4 fun g5 v5 b5=>wpAny_bind (wpAny_letGo (wpAny_pure (wpAny_pure ?_))))))
 replace v5:IsPair g5 V x y:=v5
 have e5:=b5.extBut;refine wpAny_bind (wpAny_seqItems v5 rfl (wpAny_bind (wpAny_newTuple ?_)));have sz:g5.objs.size=s.heap.objs.size:=by rw [b5.1,b4.1,b3.1,b2.1,b1.1]
 have z5:IsZip g5 z U V .ellipsis:=e5 _ _ D.Vz.symm (e4 _ _ D.jz.symm (e3 _ _ D.Vz.symm (e2 _ _ D.iz.symm z1)));have k5:∀b o,b≠z->b≠V->b≠i->b≠j->s.heap.get? b=some o->g5.get? b=some o:=fun b o q1 q2 q3 q4 e=>e5 _ _ q2 (e4 _ _ q4 (e3 _ _ q2 (e2 _ _ q3 (e1 _ _ q1 e))));have w15:ca k g5 i a (n+1):=w1.mv fun o e=>e5 _ o D.Vi.symm (e4 _ o D.ij (e3 _ o D.Vi.symm e));have w25:ca l g5 j c (n+1):=w2.mv fun o e=>e5 _ o D.Vj.symm e
 have zlt:z<g5.objs.size:=Heap.lt_size z5;refine wpAny_bind (m:=Builtin.SmallTypes.ownedTupleHandOut (.ref z) (.ref g5.objs.size)) ?_;unfold Builtin.SmallTypes.ownedTupleHandOut;have z6:IsZip (g5.push { cls:=.type "tuple",data:=.seq #[x,y] }) z U V .ellipsis:=Heap.get?_push_of_some _ z5;refine wpAny_bind (wpAny_setField_rec z6 (by simp) fun g7 z7 b7=>?_)
 replace z7:IsZip g7 z U V (rawInt g5.objs.size):=z7
 refine wpAny_setField_rec z7 (by simp) fun g8 z8 b8=>?_
 replace z8:IsZip g8 z U V (rawInt g5.objs.size):=z8
 have up:∀b o,b≠z->g5.get? b=some o->g8.get? b=some o:=fun b o q e=>b8.extBut _ _ q (b7.extBut _ _ q (Heap.get?_push_of_some _ e));have t8:IsPair g8 g5.objs.size x y:=b8.extBut _ _ (ne_of_gt zlt) (b7.extBut _ _ (ne_of_gt zlt) (Heap.get?_push_size _ rfl));have s8:g8.objs.size=g5.objs.size+1:=by rw [b8.1,b7.1,Heap.size_push]
 rw [sz] at z8 t8 s8;refine wpAny_pure ⟨_,rfl,?_⟩;show Q (.ref g5.objs.size) _;rw [sz];exact hQ g8 z8 (up _ _ D.Vz v5) (w15.mv fun o e=>up _ o D.iz e) (w25.mv fun o e=>up _ o D.jz e) t8 s8 fun b o q1 q2 q3 q4 e=>up b o q1 (k5 b o q1 q2 q3 q4 e)
theorem vt{Q:Fin->Shared->Prop}(hh:A.handled=none)(D:ZA z U V i j)(az:a≠z)(cz:c≠z)(ci:c≠i)(cV:c≠V)(hz:IsZip s.heap z U V .none)(hU:IsPair s.heap U (.ref i) (.ref j))(hV:IsPair s.heap V u v)
  (W1:ca k s.heap i a n) (W2:ca l s.heap j c n) (R1:dy k s.heap a xs) (R2:dy l s.heap c ys) (hend:xs[n]?=none\/ys[n]?=none)
  (hE:∀h' e,(∀b o,b≠z->b≠V->b≠i->b≠j->s.heap.get? b=some o->h'.get? b=some o)->(∃o,h'.get? e=some o/\o.cls=.type "StopIteration")->E (.ref e) { s with heap:=h' }) :
  wpAny (model P w) A (Builtin.«zip.__next__» ⟨[.ref z],[]⟩) Q E s:=by
 refine wpAny_bind (m:=field (.ref z) 2) (wpAny_field hz rfl (x:=.bool false) rfl (wpAny_bind (m:=field (.ref z) 3) (wpAny_field hz rfl (x:=.ref U) rfl (wpAny_bind (wpAny_seqItems hU rfl ?_)))));refine wpAny_bind (m:=Builtin.SmallTypes.ownedTupleIsFree (.ref z)) ?_;unfold Builtin.SmallTypes.ownedTupleIsFree;refine wpAny_bind (wpAny_field hz rfl (x:=.none) rfl (wpAny_pure ?_));simp only [if_true];refine wpAny_bind (wpAny_rule (wpAny_bind (wpAny_field hz rfl (x:=.ref V) rfl (wpAny_bind (wpAny_setField_rec hz (by simp) fun g1 z1 b1=>wpAny_bind ?_)))))
 replace z1:IsZip g1 z U V .ellipsis:=z1
 simp only [zipIdx_cons,zipIdx_nil,forIn_cons,forIn_nil];have e1:=b1.extBut
 cases hx:xs[n]? with
 | none =>
  refine wpAny_bind (wpAny_bind (wpAny_onRaise (wpAny_bind (m:=Builtin.SmallTypes.nextOf (.ref i)) (dS hh (W1.mv fun o e=>e1 _ o D.iz e) (R1.mv fun o e=>e1 _ o az e) hx fun g2 e b2 he=>?_))));obtain⟨oe,ge,ce⟩:=he;have z2:IsZip g2 z U V .ellipsis:=b2 _ _ D.iz.symm z1;have ez:e≠z:=fun q=>by subst q;rw [z2] at ge;cases ge;simp at ce
  exact wpAny_setField_rec z2 (by simp) fun g3 _ b3=>hE g3 e (fun b o q1 _ q3 _ q=>b3.extBut _ _ q1 (b2 _ _ q3 (e1 _ _ q1 q))) ⟨oe,b3.extBut _ _ ez ge,ce⟩
 | some x =>
  have hy:ys[n]?=none:=by
   rcases hend with q|q
   .rw [hx] at q;cases q
   .exact q
  refine wpAny_bind (wpAny_bind (wpAny_onRaise (wpAny_bind (m:=Builtin.SmallTypes.nextOf (.ref i)) (c7 (W1.mv fun o e=>e1 _ o D.iz e) (R1.mv fun o e=>e1 _ o az e) hx fun g2 w1 b2=>wpAny_pure ?_))));have e2:=b2.extBut;have v2:IsPair g2 V u v:=e2 _ _ D.Vi (e1 _ _ D.Vz hV);refine wpAny_bind (wpAny_seqItems v2 rfl (wpAny_bind (wpAny_updateSeq_pair v2 fun g3 v3 b3=>wpAny_bind (wpAny_letGo (wpAny_pure ?_)))))
  have e3:=b3.extBut;refine wpAny_bind (wpAny_bind (wpAny_onRaise (wpAny_bind (m:=Builtin.SmallTypes.nextOf (.ref j)) (dS hh (W2.mv fun o e=>e3 _ o D.Vj.symm (e2 _ o D.ij.symm (e1 _ o D.jz e))) (R2.mv fun o e=>e3 _ o cV (e2 _ o ci (e1 _ o cz e))) hy fun g4 e b4 he=>?_))));obtain⟨oe,ge,ce⟩:=he;have z4:IsZip g4 z U V .ellipsis:=b4 _ _ D.jz.symm (e3 _ _ D.Vz.symm (e2 _ _ D.iz.symm z1));have ez:e≠z:=fun q=>by subst q;rw [z4] at ge;cases ge;simp at ce
  exact wpAny_setField_rec z4 (by simp) fun g5 _ b5=>hE g5 e (fun b o q1 q2 q3 q4 q=>b5.extBut _ _ q1 (b4 _ _ q4 (e3 _ _ q2 (e2 _ _ q3 (e1 _ _ q1 q))))) ⟨oe,b5.extBut _ _ ez ge,ce⟩
end
def Sq(k:Bool)(K:PySem.W.Frag)(H:Hp)(a:Addr)(xs:List V):Prop:=cond k (SqT K H a xs) (SqL K H a xs)
section
variable {X:Cx}{pins:List (Addr×Obj)}{σ:St}{H:Hp}{s:Shared}{k l:Bool}{a b c:Addr}{xs ys:List V}
theorem Inv.row(I:Inv X pins σ H s)(h:Sq k X.K H a xs):∃its:List Value,bP xs its/\dy k s.heap a its.toArray/\xs.length<=sizeLine:=by
 cases k with
 | false=>obtain⟨its,r,p,z⟩:=I.list h;exact⟨its,r,p.isList,z⟩
 | true=>obtain⟨its,r,p,z⟩:=I.tuple h;exact⟨its,r,p,z⟩
theorem Inv.row_inj(I:Inv X pins σ H s)(h:Sq k X.K H a xs)(h':Sq k X.K H a ys):xs=ys:=by
 cases k with
 | false=>exact I.list_inj h h'
 | true=>exact I.tuple_inj h h'
theorem oO{u:HO}(r:Rd H a u):∃v,H a=some v:=by
 rcases r with r|⟨o,r⟩ <;> exact⟨_,r⟩
theorem Inv.row_ne(I:Inv X pins σ H s)(h:Sq k X.K H a xs)(f:mX X pins H b):a≠b:=by
 have kk:∀o,X.K.lookup a=some o->a≠b:=fun o e z=>by
  have e1:=I.ok.mod.kin a o e
  rcases f.2.2.2.1 with q|q
  .exact I.ok.noex a o e1 (z ▸ q)
  .exact absurd (lt_of_lt_of_le (Heap.lt_size (I.ok.bs a o e1).1) (z ▸ q)) (Nat.lt_irrefl _)
 have hh:∀u,H a=some u->a≠b:=fun u e z=>by rw [z,f.1] at e;cases e
 cases k with
 | false =>
  rcases h with r|⟨o,its,n,e,_⟩
  .obtain⟨v,e⟩:=oO r;exact hh v e
  .exact kk o e
 | true =>
  rcases h with r|⟨o,its,n,e,_⟩
  .obtain⟨v,e⟩:=oO r;exact hh v e
  .exact kk o e
theorem Inv.yielded{h':Heap}{T:Addr}{zs:List V}{t':Nat}{ch:List Addr}(I:Inv X pins σ H s)(hf:∀b∈ch,mX X pins H b)(hT:s.heap.objs.size<=T)
  (kp:∀b o,b∉ch->s.heap.get? b=some o->h'.get? b=some o) (new:cv X.prog X.w (upd H T (.tup zs)) h' T (.tup zs)):Inv X pins σ (upd H T (.tup zs)) { s with heap:=h',toks:=t' }:=by
 have hn:H T=none:=I.hok.fresh hT;have nT:∀b u,H b=some u->b≠T:=fun b u e z=>by rw [z,hn] at e;cases e
 have oT:∀b o,s.heap.get? b=some o->b≠T:=fun b o e z=>absurd (lt_of_lt_of_le (Heap.lt_size e) (z ▸ hT)) (Nat.lt_irrefl _);have nc:∀b u,H b=some u->b∉ch:=fun b u e z=>by rw [(hf b z).1] at e;cases e
 refine I.step (g':=s.gens) (d':=s.drawn) (ch:=ch) (fun b hb=>⟨(hf b hb).2.2.2.1,(hf b hb).2.1,(hf b hb).2.2.2.2.1,(hf b hb).2.2.2.2.2⟩) (fun b o _ _ hc e _=>kp b o hc e) (fun b o _ _ hc e _=>⟨o.slots,kp b o hc e⟩)
  (fun b o _ e n=>by rw [au (oT b o e)];exact n) (fun b o hc e=>⟨o,kp b o hc e⟩) (fun b xs e=>by rw [au (nT b _ e)];exact e) (fun b o u e=>by rw [au (nT b _ e)];exact e)
  (fun b ps e=>⟨#[],by rw [au (nT b _ e),e];simp⟩) (fun m hm=>?_) (fun b u e=>?_) I.bare
 .obtain⟨o,es,ep,ho,r⟩:=hm;exact⟨o,es,ep,kp _ o (fun z=>(hf _ z).2.1 rfl) ho,r⟩
 .by_cases hb:b=T
  .subst hb;rw [aT] at e;cases e;exact new
  .rw [au hb] at e;refine (I.hok b u e).stay (fun c v hc q=>kp c v ?_ q) (fun c q=>by rw [au (nT c _ q)];exact q) fun c xs q=>by rw [au (nT c _ q)];exact q
   rcases hc with z|z
   .rw [z];exact nc b u e
   .exact nc c _ z
end
def Itz(k l:Bool)(K:PySem.W.Frag)(a c:Addr):It :=
  ⟨fun i H=>∃xs ys x y,Sq k K H a xs/\Sq l K H c ys/\xs[i]?=some x/\ys[i]?=some y,
   fun i H p H'=>∃T x y,H T=none/\p=.ref T/\(∀xs,Sq k K H a xs->xs[i]?=some x)/\(∀ys,Sq l K H c ys->ys[i]?=some y)/\H'=upd H T (.tup [x,y]),
   fun i H=>∃xs ys,Sq k K H a xs/\Sq l K H c ys/\(xs.length<=i\/ys.length<=i)⟩
theorem qz{P:Program}{w:World}{K:PySem.W.Frag}{es:List Expr}{ct:Nat}{tp:Pos}{k l:Bool}{a c z U V i j:Addr}(D:ZA z U V i j) :
  qh P w K (.Tuple es ct tp) (Itz k l K a c) [z,U,V,i,j] z (fun n h=>IsZip h z U V .none/\IsPair h U (.ref i) (.ref j)/\(∃u v,IsPair h V u v)/\ca k h i a n/\ca l h j c n) where
 mem:=by simp
 obj:=fun n h st b hb=>by
  obtain⟨hz,hU,⟨u,v,hV⟩,⟨o1,g1,c1,d1⟩,⟨o2,g2,c2,d2⟩⟩:=st;simp only [mem_cons,not_mem_nil,or_false] at hb
  rcases hb with rfl|rfl|rfl|rfl|rfl
  .exact⟨_,hz,fun v q=>by cases q⟩
  .exact⟨_,hU,fun v q=>by cases q⟩
  .exact⟨_,hV,fun v q=>by cases q⟩
  .exact⟨_,g1,fun v q=>by rw [d1] at q;cases q⟩
  .exact⟨_,g2,fun v q=>by rw [d2] at q;cases q⟩
 keep:=fun n h h' st kk=>by
  obtain⟨hz,hU,⟨u,v,hV⟩,w1,w2⟩:=st;exact⟨kk z (by simp) _ hz,kk U (by simp) _ hU,⟨u,v,kk V (by simp) _ hV⟩,w1.mv fun o e=>kk i (by simp) o e,w2.mv fun o e=>kk j (by simp) o e⟩
 item:=by
  intro X hP hw hK hc n pins s σ H E I hf st hg;subst hP hw hK;obtain⟨xs,ys,x,y,q1,q2,hx,hy⟩:=hg;obtain⟨hz,hU,⟨u,v,hV⟩,w1,w2⟩:=st;obtain⟨its,rv,p,_⟩:=I.row q1;obtain⟨jts,rv',p',_⟩:=I.row q2;obtain⟨ux,hux,rx⟩:=rv.get hx;obtain⟨uy,huy,ry⟩:=rv'.get hy;have hT:s.TypeIs (.ref z) "zip":=⟨_,hz,rfl⟩
  have nz:=I.row_ne q1 (hf z (by simp));have mz:=I.row_ne q2 (hf z (by simp));have mi:=I.row_ne q2 (hf i (by simp));have mV:=I.row_ne q2 (hf V (by simp));unfold pyNext
  refine wpAny_bind (wpAny_attempt (wpAny_callSpecial?_slot (name:=Str.ofString "__next__") hT F.slot_zip_next (wpAny_call_entry F.slot_zip_next hT F.entry_zip_next
   (sI (x:=ux) (y:=uy) D nz mz mi mV hz hU hV w1 w2 p p' (by simpa using hux) (by simpa using huy) fun h' a1 a2 a3 a4 a5 a6 a7=>wpAny_pure ?_) (F.args_zip_next_1 _))))
  refine⟨_,rfl,wpAny_letOwnedTupleGo_zip a1 fun g gz gs=>?_⟩;have lt:∀{b o},s.heap.get? b=some o->s.heap.objs.size≠b:=fun e=>ne_of_gt (Heap.lt_size e)
  have kp:∀b o,b∉[z,V,i,j]->s.heap.get? b=some o->g.get? b=some o:=fun b o hb e=>by
   simp only [mem_cons,not_mem_nil,or_false,not_or] at hb;exact gs.extBut _ _ hb.1 (a7 b o hb.1 hb.2.1 hb.2.2.1 hb.2.2.2 e)
  have I2:Inv X pins σ (upd H s.heap.objs.size (.tup [x,y])) { s with heap:=g,toks:=s.toks }:=I.yielded (ch:=[z,V,i,j]) (fun b hb=>hf b (by
   simp only [mem_cons,not_mem_nil,or_false] at hb ⊢;rcases hb with q|q|q|q <;> simp [q])) (le_refl _) kp ⟨by show 2<=sizeLine;decide,[ux,uy],.cons rx (.cons ry .nil),_,gs.extBut _ _ (lt hz) a5,rfl,_,rfl⟩
  refine⟨.ref s.heap.objs.size,_,I2,rfl,⟨_,x,y,I.hok.fresh (le_refl _),rfl,fun xs' q=>by rw [I.row_inj q q1];exact hx,fun ys' q=>by rw [I.row_inj q q2];exact hy,rfl⟩,
   ⟨gz,gs.extBut _ _ D.Uz (a7 _ _ D.Uz D.UV D.Ui D.Uj hU),⟨_,_,gs.extBut _ _ D.Vz a2⟩,a3.mv fun o e=>gs.extBut _ o D.iz e,a4.mv fun o e=>gs.extBut _ o D.jz e⟩,fun b hb=>?_⟩
  rw [au ?_]
  .exact (hf b hb).1
  .intro q;subst q;simp only [mem_cons,not_mem_nil,or_false] at hb;obtain⟨o1,g1,_⟩:=w1;obtain⟨o2,g2,_⟩:=w2
   rcases hb with q|q|q|q|q
   .exact lt hz q
   .exact lt hU q
   .exact lt hV q
   .exact lt g1 q
   .exact lt g2 q
 done:=by
  intro X hP hw hK hc n pins s σ H E I hf st hg;subst hP hw hK;obtain⟨xs,ys,q1,q2,hend⟩:=hg;obtain⟨hz,hU,⟨u,v,hV⟩,w1,w2⟩:=st;obtain⟨its,rv,p,_⟩:=I.row q1;obtain⟨jts,rv',p',_⟩:=I.row q2;have e1:=rv.length;have e2:=rv'.length;have hT:s.TypeIs (.ref z) "zip":=⟨_,hz,rfl⟩
  unfold pyNext
  refine wpAny_bind (wpAny_attempt (wpAny_callSpecial?_slot (name:=Str.ofString "__next__") hT F.slot_zip_next (wpAny_call_entry F.slot_zip_next hT F.entry_zip_next
   (vt (I.ok.hd hc) D (I.row_ne q1 (hf z (by simp))) (I.row_ne q2 (hf z (by simp))) (I.row_ne q2 (hf i (by simp))) (I.row_ne q2 (hf V (by simp))) hz hU hV w1 w2 p p' ?_ fun h' e hk he=>?_) (F.args_zip_next_1 _))))
  .rcases hend with q|q
   .exact .inl (by simp;omega)
   .exact .inr (by simp;omega)
  .obtain⟨o,ho,hcl⟩:=he;refine wpAny_bind (wpAny_isInstance (T:="StopIteration") (b:=true) ⟨o,ho,hcl⟩ isSubtype_stop (wpAny_pure ⟨rfl,?_⟩))
   exact I.step (g':=s.gens) (d':=s.drawn) (t':=s.toks) (ch:=[z,V,i,j]) (fun b hb=>by
     have q:=hf b (by
      simp only [mem_cons,not_mem_nil,or_false] at hb ⊢;rcases hb with q|q|q|q <;> simp [q])
     exact⟨q.2.2.2.1,q.2.1,q.2.2.2.2.1,q.2.2.2.2.2⟩) (fun b o _ _ hc e _=>by
     simp only [mem_cons,not_mem_nil,or_false,not_or] at hc;exact hk b o hc.1 hc.2.1 hc.2.2.1 hc.2.2.2 e) (fun b o _ _ hc e _=>⟨o.slots,by
     simp only [mem_cons,not_mem_nil,or_false,not_or] at hc;exact hk b o hc.1 hc.2.1 hc.2.2.1 hc.2.2.2 e⟩) (fun _ _ _ _ q=>q) (fun b o hc e=>⟨o,by
     simp only [mem_cons,not_mem_nil,or_false,not_or] at hc;exact hk b o hc.1 hc.2.1 hc.2.2.1 hc.2.2.2 e⟩) (fun _ _ e=>e) (fun _ _ _ e=>e) (fun b ps e=>⟨#[],by rw [e];simp⟩) (fun m hm=>by
     obtain⟨o,es,ep,ho,r⟩:=hm;exact⟨o,es,ep,hk _ o (hf z (by simp)).2.1.symm (hf V (by simp)).2.1.symm (hf i (by simp)).2.1.symm (hf j (by simp)).2.1.symm ho,r⟩) (fun b u e=>by
     have nn:∀b u,H b=some u->b≠z/\b≠V/\b≠i/\b≠j:=fun b u e=>⟨fun q=>(by rw [q,(hf z (by simp)).1] at e;cases e),fun q=>(by rw [q,(hf V (by simp)).1] at e;cases e),fun q=>(by rw [q,(hf i (by simp)).1] at e;cases e),fun q=>(by rw [q,(hf j (by simp)).1] at e;cases e)⟩
     refine (I.hok b u e).stay (fun c v hc q=>?_) (fun _ q=>q) fun _ _ q=>q
     have n4:c≠z/\c≠V/\c≠i/\c≠j:=by
      rcases hc with q|q
      .rw [q];exact nn b u e
      .exact nn c _ q
     exact hk c v n4.1 n4.2.1 n4.2.2.1 n4.2.2.2 q) I.bare
 self:=fun _ _ _ _ _ st h=>wpAny_pyIter_zip st.1 h
theorem sJ(n:Nat):ZA (n+4) (n+2) (n+3) n (n+1):=by
 refine⟨?_,?_,?_,?_,?_,?_,?_,?_,?_,?_⟩ <;> (intro h;have h2:@Eq Nat _ _:=h;omega)
section
variable {P:Program}{w:World}{A:Around}{E:Value->Shared->Prop}{s:Shared}{k l:Bool}
abbrev gJ(k:Bool)(a:Addr):Obj:={ cls:=.type (cond k "tuple_iterator" "list_iterator"),data:=.fields #[.ref a,.int 0 0] }
theorem dG{a:Addr}{its:Array Value}{Q:Value->Shared->Prop}(R:dy k s.heap a its)(hQ:Q (.ref s.heap.objs.size) { s with heap:=s.heap.push (gJ k a) }):wpAny (model P w) A (pyIter (.ref a)) Q E s:=by
 cases k with
 | false=>exact wpAny_pyIter_list R hQ
 | true=>exact wpAny_pyIter_tuple R hQ
abbrev zg1(h:Heap)(k:Bool)(a:Addr):Heap:=h.push (gJ k a)
abbrev zg2(h:Heap)(k l:Bool)(a c:Addr):Heap:=(zg1 h k a).push (gJ l c)
abbrev zg3(h:Heap)(k l:Bool)(a c:Addr):Heap:=(zg2 h k l a c).push { cls:=.type "tuple",data:=.seq #[.ref h.objs.size,.ref (zg1 h k a).objs.size] }
abbrev zg4(h:Heap)(k l:Bool)(a c:Addr):Heap:=(zg3 h k l a c).push { cls:=.type "tuple",data:=.seq #[.none,.none] }
abbrev zg5(h:Heap)(k l:Bool)(a c:Addr):Heap:=(zg4 h k l a c).push { cls:=.type "zip",data:=.fields #[.none,.bool false,.bool false,.ref (zg2 h k l a c).objs.size,.ref (zg3 h k l a c).objs.size] }
theorem sK(k l:Bool)(a c:Addr)(xs ys:Array Value):Meets (Builtin.«zip.__new__» ⟨[.type "zip",.ref a,.ref c],[]⟩) (fun _ R s=>dy k s.heap a xs/\dy l s.heap c ys /\
   R (.ok (.ret (.ref (zg4 s.heap k l a c).objs.size))) { s with heap:=zg5 s.heap k l a c }) :=
 .of_wp fun prog w A R s h=>by
  obtain⟨hp,g,d,tk,os⟩:=s;obtain⟨r1,r2,h⟩:=h;have hsub:=sub_zip;have R1:dy k (Shared.heap ⟨hp,g,d,tk,os⟩) a xs:=r1;have R2:dy l (Shared.heap ⟨hp.push (gJ k a),g,d,tk,os⟩) c ys:=r2.mv fun o e=>Heap.get?_push_of_some _ e
  wp_walk using dG R1,dG R2
  exact⟨_,rfl,h⟩
theorem sL{a c:Addr}{xs ys:Array Value}{Q:Value->Shared->Prop}(r1:dy k s.heap a xs)(r2:dy l s.heap c ys)
  (h:∀h',IsZip h' (s.heap.objs.size+4) (s.heap.objs.size+2) (s.heap.objs.size+3) .none->IsPair h' (s.heap.objs.size+2) (.ref s.heap.objs.size) (.ref (s.heap.objs.size+1)) ->
   IsPair h' (s.heap.objs.size+3) .none .none->ca k h' s.heap.objs.size a 0->ca l h' (s.heap.objs.size+1) c 0->(∀b o,s.heap.get? b=some o->h'.get? b=some o)->Q (.ref (s.heap.objs.size+4)) { s with heap:=h' }) :
  wpAny (model P w) A (call (.type "zip") [.ref a,.ref c]) Q E s:=by
 refine callType_new F.called_zip (by decide) (F.typeCall_zip_2 _ _) (F.newCall_zip_2 _ _) (fun obj=>F.args_object_init_3 obj _ _) F.entry_zip_new (sK k l a c xs ys) ⟨r1,r2,?_⟩;have z1:(zg1 s.heap k a).objs.size=s.heap.objs.size+1:=Heap.size_push ..;have z2:(zg2 s.heap k l a c).objs.size=s.heap.objs.size+2:=by rw [Heap.size_push,z1]
 have z3:(zg3 s.heap k l a c).objs.size=s.heap.objs.size+3:=by rw [Heap.size_push,z2]
 have z4:(zg4 s.heap k l a c).objs.size=s.heap.objs.size+4:=by rw [Heap.size_push,z3]
 have m4:∀b o,(zg4 s.heap k l a c).get? b=some o->(zg5 s.heap k l a c).get? b=some o:=fun b o e=>Heap.get?_push_of_some _ e;have m3:∀b o,(zg3 s.heap k l a c).get? b=some o->(zg5 s.heap k l a c).get? b=some o:=fun b o e=>m4 b o (Heap.get?_push_of_some _ e);have m2:∀b o,(zg2 s.heap k l a c).get? b=some o->(zg5 s.heap k l a c).get? b=some o:=fun b o e=>m3 b o (Heap.get?_push_of_some _ e);have m1:∀b o,(zg1 s.heap k a).get? b=some o->(zg5 s.heap k l a c).get? b=some o:=fun b o e=>m2 b o (Heap.get?_push_of_some _ e)
 have g5:(zg5 s.heap k l a c).get? (zg4 s.heap k l a c).objs.size=some _:=Heap.get?_push_size _ rfl;have g4:=m4 _ _ (Heap.get?_push_size (zg3 s.heap k l a c) (o:={ cls:=.type "tuple",data:=.seq #[.none,.none] }) rfl);have g3:=m3 _ _ (Heap.get?_push_size (zg2 s.heap k l a c) (o:={ cls:=.type "tuple",data:=.seq #[.ref s.heap.objs.size,.ref (zg1 s.heap k a).objs.size] }) rfl);have g2:=m2 _ _ (Heap.get?_push_size (zg1 s.heap k a) (o:=gJ l c) rfl)
 have g1:=m1 _ _ (Heap.get?_push_size s.heap (o:=gJ k a) rfl);show _/\_;rw [z2,z3,z4] at g5;rw [z1,z2] at g3;rw [z3] at g4;rw [z1] at g2;rw [z4];exact⟨⟨_,g5,rfl⟩,h _ g5 g3 g4 ⟨_,g1,rfl,rfl⟩ ⟨_,g2,rfl,rfl⟩ fun b o e=>m1 b o (Heap.get?_push_of_some _ e)⟩
end
def stA(a b:List Nat)(i:Nat):Bool:=decide (i+b.length<=a.length/\(a.drop i).take b.length=b)
def fnd(a b:List Nat)(lo:Nat):Int:=match (List.range' lo (a.length+1 - lo)).find? (stA a b) with|some k=>(k:Int)|none=>-1
theorem kd(s sub:Str)(hi:Nat):∀(l:List Nat) (st:Array Nat×Nat),st.fst.size=1->(forIn l st (StrLaws.occBody s sub hi 1)).run.fst=st.fst
 | [],_,_=>rfl
 | x::l,st,h=>by
  rw [forIn_cons];unfold StrLaws.occBody;rw [if_neg (fun z=>by have:=z.1.1.1;omega)];exact kd s sub hi l (st.fst,st.snd) h
theorem ke(s sub:Str)(hi:Nat)(p:Nat->Bool)(hp:∀i,p i=true ↔ (i+sub.length<=hi/\Builtin.Str.subAt s sub i=true)):∀(l:List Nat) (free:Nat),(∀i∈l,free<=i) ->
  (forIn l ((#[]:Array Nat),free) (StrLaws.occBody s sub hi 1)).run.fst=(match l.find? p with|some k=>#[k]|none=>#[])
 | [],_,_=>rfl
 | x::l,free,hf=>by
  rw [forIn_cons,find?_cons];unfold StrLaws.occBody;have hx:free<=x:=hf x (mem_cons_self ..)
  cases c:p x with
  | true =>
   have hc:=(hp x).mp c;rw [if_pos ⟨⟨⟨by simp,hx⟩,hc.1⟩,hc.2⟩];exact kd s sub hi l (#[x],x+sub.length) rfl
  | false =>
   rw [if_neg (fun z=>by
    have:=(hp x).mpr ⟨z.1.2,z.2⟩;rw [c] at this;cases this)]
   exact ke s sub hi p hp l free fun i h=>hf i (mem_cons_of_mem _ h)
theorem sM(a b:List Nat)(i:Nat):Builtin.Str.subAt (S a) (S b) i=decide ((a.drop i).take b.length=b):=by
 unfold Builtin.Str.subAt;rw [fj]
 have e1:((S a).cps.extract i (i+b.length))=((a.drop i).take b.length).toArray:=by
  show a.toArray.extract _ _=_;rw [extract_toArray,extract_eq_take_drop];congr 2;omega
 rw [e1];show (((a.drop i).take b.length).toArray == b.toArray)=_
 by_cases h:(a.drop i).take b.length=b
 .rw [decide_eq_true h,h];simp
 .rw [decide_eq_false h,beq_eq_false_iff_ne];intro z;exact h (by simpa using congrArg Array.toList z)
theorem sN(a b:List Nat)(lo:Nat):(match Builtin.Str.occurrences (S a) (S b) lo (S a).length 1 with|k::_=>(k:Int)|[]=>-1)=fnd a b lo:=by
 rw [StrLaws.occ_eq,fj,ke (S a) (S b) a.length (stA a b) (fun i=>?_) _ lo (fun i hi=>(mem_range'_1.mp hi).1)]
 .unfold fnd;cases (List.range' lo (a.length+1 - lo)).find? (stA a b) <;> rfl
 .unfold stA;rw [sM,fj];simp
section
variable {X:Cx}{tg:Expr}
def Itk(k:Bool)(K:PySem.W.Frag)(a:Addr):It:=cond k (Itt K a) (Itl K a)
def vv(K:PySem.W.Frag):R2:=fun x y H Q=>∃l b xs zs,x=.ref l/\y=.ref b/\SqL K H l xs/\SqL K H b zs/\xs.length+zs.length<=sizeLine/\∀p,H p=none->Q (.ref p) (upd H p (.lst (xs++zs)))
theorem sO:OpR X (binaryOp .Add) (vv X.K):=by
 intro pins s σ H x y v u Q I rx ry h;obtain⟨l,b,xs,zs,rfl,rfl,hH,hB,hz,q⟩:=h;cases rx;cases ry;obtain⟨its,r,pl,hl⟩:=I.list hH;obtain⟨its2,r2,pl2,hl2⟩:=I.list hB;obtain⟨⟨cls,dd,data,sl⟩,ho,hc,n,hd⟩:=pl.isList;obtain⟨⟨cls2,dd2,data2,sl2⟩,ho2,hc2,n2,hd2⟩:=pl2.isList;simp only at hc hd hc2 hd2;subst hc hd hc2 hd2;have n1:=r.length;have n2':=r2.length;have ea:its.toArray++its2.toArray=(its++its2).toArray:=by simp
 have fin:EP X pins σ Q (.ref s.heap.objs.size) { s with heap:=s.heap.push { cls:=.type "list",data:=.seq (its.toArray++its2.toArray) } }:=by
  rw [ea];exact⟨.ref _,_,I.lnew (t':=s.toks) (r.append r2) (by rw [length_append];omega),rfl,q _ I.fresh⟩
 exact concat_meets ⟨_,ho,rfl⟩ ⟨_,ho2,rfl⟩ noFill_list_add seq_list_add PySem.F.slot_list_add PySem.F.entry_list_add (PySem.F.args_list_add_2 _ _) (list_addW l b its.toArray its2.toArray n n2 dd dd2 sl sl2 (by simp;omega)) ⟨ho,ho2,fin⟩
end
def kZ(n:Nat)(d:PyData):Prop:=d.canLay0=true/\d.depth<=n
theorem kZ.shaped{n:Nat}{d:PyData}(h:kZ n d)(hn:n<=64):SeqAt.shaped d=true:=by
 unfold SeqAt.shaped;rw [h.1,decide_eq_true (le_trans h.2 hn)];rfl
theorem oP{n:Nat}:∀{ds:List PyData},(∀d∈ds,kZ n d)->PyData.canLayAll0 ds=true/\PyData.depthAll ds<=n
 | [],_=>⟨rfl,zero_le _⟩
 | d::ds,h=>by
  obtain⟨a,b⟩:=oP (ds:=ds) fun x hx=>h x (mem_cons_of_mem _ hx);obtain⟨c,e⟩:=h d mem_cons_self;simp only [PyData.canLayAll0,PyData.depthAll,a,c];exact⟨rfl,max_le.mpr ⟨e,b⟩⟩
theorem kZ.list{n:Nat}{ds:List PyData}(h:∀d∈ds,kZ n d):kZ (n+1) (.list ds):=by
 obtain⟨a,b⟩:=oP h;exact⟨by simp only [PyData.canLay0];exact a,by simp only [PyData.depth];omega⟩
theorem kZ.int(i:Int):kZ 0 (.int i):=⟨by simp [PyData.canLay0],by simp [PyData.depth]⟩
def Lts(l:List Nat):Prop:=∀c∈l,97<=c/\c<=122
theorem Lts.nil:Lts []:=fun c h=>nomatch h
theorem Lts.app{a b:List Nat}(x:Lts a)(y:Lts b):Lts (a++b):=fun c h=>(mem_append.mp h).elim (x c) (y c)
theorem Lts.one{c:Nat}(h:97<=c/\c<=122):Lts [c]:=fun d hd=>by
 have:d=c:=by simpa using hd
 subst this;exact h
theorem Lts.take{a:List Nat}(x:Lts a)(n:Nat):Lts (a.take n):=fun c h=>x c (mem_of_mem_take h)
theorem Lts.drop{a:List Nat}(x:Lts a)(n:Nat):Lts (a.drop n):=fun c h=>x c (mem_of_mem_drop h)
theorem Lts.cut{a:List Nat}(x:Lts a)(lo hi:Option Int):Lts (cW a lo hi):=(x.drop _).take _
theorem Lts.rep{a:List Nat}(x:Lts a)(n:Int):Lts (mh a n):=fun c h=>by
 unfold mh at h;obtain⟨l,h1,h2⟩:=mem_flatten.mp h;rw [eq_of_mem_replicate h1] at h2;exact x c h2
theorem kZ.str{l:List Nat}(h:Lts l):kZ 0 (.str (S l)):=by
 refine⟨?_,by simp [PyData.depth]⟩;simp only [PyData.canLay0,PyData.strOk,S];rw [Array.all_eq_true];intro i hi;have:=h l[i] (getElem_mem _);simp only [getElem_toArray,decide_eq_true_eq];omega
theorem oQ(ns:List Int):∀d∈ns.map PyData.int,kZ 0 d:=fun d hd=>by
 obtain⟨i,_,rfl⟩:=mem_map.mp hd;exact kZ.int i
theorem nv{ws:List (List Nat)}(h:∀w∈ws,Lts w):∀d∈ws.map (fun w=>PyData.str (S w)),kZ 0 d:=fun d hd=>by
 obtain⟨i,hi,rfl⟩:=mem_map.mp hd;exact kZ.str (h i hi)
theorem kf{ws:List (List Nat)}(h:∀w∈ws,Lts w):SeqAt.shaped (.list (ws.map fun w=>PyData.str (S w)))=true:=(kZ.list (nv h)).shaped (by decide)
theorem qA{d:PyData}(h:SeqAt.shaped d=true):PyData.eqv d d=true:=SeqAt.eqv_refl d (SeqAt.canLay_of_shaped h)
section
variable {κ:Type} [DecidableEq κ]
theorem KV.length{kvs:List (κ×V)}{vs:List (κ×Value)}(r:KV kvs vs):kvs.length=vs.length:=Paired.length r
end
section
variable {P:Program}{w:World}{H:Hp}{h:Heap}{a:Addr}
theorem wV{u:HO}(ok:HOk P w H h)(e:Rd H a u):cv P w H h a u:=e.ok ok
theorem wW{kvs:List (Key×V)}(ok:HOk P w H h)(e:Rd H a (.dK kvs)):kvs.length<=sizeLine/\(a == sysModules)=false/\∃vs,KV kvs vs/\h.DictOf (k9 P w) a vs :=
 show cv P w H h a (.dK kvs) from wV ok e
end
section
variable {X:Cx}{pins:List (Addr×Obj)}{σ:St}{H:Hp}{s:Shared}{a:Addr}{kvs:List (Key×V)}{k:Key}{u:Value}{A:Around}{E:Value->Shared->Prop}
theorem wX{Q:Value->Shared->Prop}(I:Inv X pins σ H s)(e:Rd H a (.dK kvs))(h:∀t s',Inv X pins σ H s'->Q (.int kvs.length t) s'):wpAny (model X.prog X.w) A (call (.builtin "len") [.ref a]) Q E s:=by
 obtain⟨z,hd,vs,rel,dd⟩:=wW I.hok e;refine call_len_dict hd dd (by rw [<- rel.length];rw [sizeLine_eq] at z;omega) ?_;rw [<- rel.length];exact h _ _ (I.tok _)
end
section
variable {X:Cx}
theorem ml{x:Str}{i:Int}{pos:Pos}(hg:Gl X x)(h:∃t,X.mg x=some (.int i t))(hd:(x == ("__debug__":Str))=false:=by decide):PE X (.Name x pos) (tC (.int i)):=by
 obtain⟨t,e⟩:=h;exact r9 (u:=.int i t) hg e ⟨t,rfl⟩ hd
end
structure vw (P:Program) (w:World) (K:PySem.W.Frag) (mg:Str->Option Value) (base:Heap) (k:Nat) (x:Str) (ps:List Str) (dvs:List V) (sp:Sp):Prop where
 ex:∃(f:Addr) (fd:FuncData),me P w K mg base CX0 k f fd ps sp/\(∀n,n<=dvs.length->∃ds,bP (dvs.drop n) ds/\lj K fd ps ds)/\PySem.W.keepIn K (.ref f)=true/\mg x=some (.ref f)
structure mm (K:PySem.W.Frag) (mg:Str->Option Value) (x:Str) (st:Stmt) (dvs:List V):Prop where
 ex:∃(f dT:Addr) (oc:Value) (od an dd:Option Addr) (kV doc pm cdv ct:Value) (osl sl:Array (Option Value)) (items:List Value) (n:Nat),
  K.lookup f=some ⟨oc,od,.func (PySem.W.fnOf x x (cj st) (bR st) (aq st) (.ref dT) kV doc pm an cdv ct),osl⟩/\PySem.W.codeIn K cdv x=true/\PySem.W.keepIn K (.ref f)=true/\mg x=some (.ref f) /\
  K.lookup dT=some ⟨.type "tuple",dd,.seq items.toArray n,sl⟩/\bP dvs items
section
variable {P:Program}{w:World}{K:PySem.W.Frag}{mg:Str->Option Value}{base:Heap}{x:Str}{st:Stmt}{N ps:List Str}{k:Nat}{sp:Sp}{dvs:List V}
theorem mm.ok(D:mm K mg x st dvs)(S:ba N ps (aq st))
  (hb:∀(dT:Addr) (kV doc pm:Value) (an:Option Addr) (cdv ct:Value) (items:List Value) (us:List Value) (n:Nat),items.length=dvs.length->n<=dvs.length->(us++items.drop n).length=ps.length ->
   ∃k,bindArgs (PySem.W.fnOf x x (cj st) (bR st) (aq st) (.ref dT) kV doc pm an cdv ct) ⟨us,[]⟩=seqItems? (.ref dT) >>= k/\k (some items.toArray)=pure (ps.zip (us++items.drop n)))
  (len:∀vs H Q E,sp vs H Q E->vs.length=ps.length)
  (hbody:∀(f:Addr) (cdv:Value) (A:Around) (outer:List Env) (s:Shared) (H:Hp) (vs:List V) (Q:VK) (E:XK),gN k (A.deeper (envOfC x (aq st) s.heap.objs.size f cdv))->sp vs H Q E ->
   ∃t,PSs (ro CX0 P w K mg base N x (aq st) f cdv A outer s H E).nox (bR st) t/\t { nx:=fun _ H'=>Q .non H',rt:=Q } (start N vs) H):vw P w K mg base (k+1) x ps dvs sp:=by
 obtain⟨f,dT,oc,od,an,dd,kV,doc,pm,cdv,ct,osl,sl,items,n,lk,hcd,kp,hm,lt,rv⟩:=D.ex;have hl:=rv.length
 refine⟨f,_,uT lk hcd S len fun A outer s H vs Q E hr hsp=>?_,fun j hj=>⟨items.drop j,rv.drop j,fun s us X hlen=>?_⟩,kp,hm⟩
 .obtain⟨t,h,q⟩:=hbody f cdv A outer s H vs Q E hr hsp;exact⟨t,h.nox,q⟩
 .obtain⟨k,h1,h2⟩:=hb dT kV doc pm an cdv ct items us j hl.symm hj hlen;exact BindsTo.of_defaults rfl (X dT _ lt) rfl h1 h2
end
section
variable {X:Cx}{k:Nat}{x:Str}{ps:List Str}{sp:Sp}{p pos:Pos}{e:Expr}{es:List Expr}{t:TA}{dvs:List V}
theorem sP(j:Nat)(C:vw X.prog X.w X.K X.mg X.base k x ps dvs sp)(hr:gN k X.A)(hj:j<=dvs.length)(ha:PA X (e::es) t)(hg:Gl X x:=by rfl)(hdb:(x == ("__debug__":Str))=false:=by decide)(he:starEach (e::es) X.env=(false,eval e X.env)::starEach es X.env:=by rfl)
  (hpl:(backTo pos (starEach es X.env)).any (·.1)=false:=by rfl):PE X (.Call (.Name x p) (e::es) [] pos) (gS sp (dvs.drop j) E0 t):=by
 obtain⟨f,fd,F,hb,hk,hm⟩:=C.ex;obtain⟨ds,rv,hb⟩:=hb j hj;exact n9 F hr hg hm hk hb rv u6 ha hdb he hpl
theorem jm(bs:List Bool):(List.range bs.length).all (fun i=>bs.getD i false)=bs.all id:=by
 induction bs with
 | nil=>rfl
 | cons b bs ih=>rw [length_cons,range_succ_eq_map,all_cons,all_map,all_cons,<- ih];rfl
theorem sQ{bs:List Bool}{its:List Value}(r:bP (bs.map V.bl) its){i:Nat}{v:Value}(h:its.toArray[i]?=some v):v=.bool (bs.getD i false):=by
 have h':its[i]?=some v:=by simpa using h
 have hl:=r.length;rw [length_map] at hl;have hi:i<bs.length:=by have:=(List.getElem?_eq_some_iff.mp h').1;omega
 obtain⟨u,e1,e2⟩:=r.get (i:=i) (x:=V.bl bs[i]) (by rw [getElem?_map,getElem?_eq_getElem hi];rfl);rw [h'] at e1;cases e1;rw [show v=Value.bool bs[i] from e2,getD_eq_getElem?_getD,getElem?_eq_getElem hi];rfl
theorem qB(hc:X.calm=true):cw X (.builtin "all") (fun xs H Q=>∃(p:Addr) (bs:List Bool),xs=[.ref p]/\SqL X.K H p (bs.map V.bl)/\Q (.bl (bs.all id)) H):=by
 intro pins s σ H xs us Q I r h;obtain⟨p,bs,rfl,hS,q⟩:=h;obtain⟨u,rfl,ru⟩:=lh r;cases (show u=Value.ref p from ru);obtain⟨its,rv,pl,hz⟩:=I.list hS;have hl:=rv.length;rw [length_map] at hl;have hps:p<s.heap.objs.size:=let ⟨o,ho,_⟩:=pl.isList;Heap.lt_size ho
 obtain⟨f0,f1,f2,f3,f4,f5⟩:=I.fpOk (H':=H) (le_refl s.heap.objs.size) (I.hok.fresh (le_refl _))
 refine call_all_walk (wpAny_pyIter_list pl.isList ⟨s.heap.objs.size,_,_,its.toArray.size,_,_,fun i=>bs.getD i false,rfl,Walks.list (by exact I.ok.hd hc) s.heap.objs.size p (Nat.ne_of_lt hps) its.toArray,⟨⟨_,Heap.get?_push_size _ rfl,rfl,rfl⟩,pl.isList.push _⟩,fun i v s Q E hP hQ=>?_,fun h' tk hk=>?_⟩)
 .rw [sQ rv hP];exact wpAny_truthy_bool hQ
 .have I1:Inv X pins σ H { s with heap:=s.heap.push { cls:=.type "list_iterator",data:=.fields #[.ref p,.int 0 0] } }:=I.kept (t':=s.toks) fun b o e=>Heap.get?_push_of_some _ e;have I2:=I1.turned (h':=h') (t':=tk) (it:=s.heap.objs.size) (fun b o hb e=>hk b o (by simpa using hb) e) f0 f1 f3 f4 f5;refine⟨.bl (bs.all id),H,I2,?_,q⟩;show Value.bool _=Value.bool _;rw [size_toArray,<- hl,jm]
end
section
variable {X:Cx}{o e f:Expr}{apos cpos:Pos}{td ty tx:TE}
theorem oR:cw X (.builtin "len") (fun xs H Q=>∃p kvs,xs=[.ref p]/\Rd H p (.dK kvs)/\Q (.int kvs.length) H):=by
 intro pins s σ H xs us Q I r h;obtain⟨p,kvs,rfl,hd,q⟩:=h;obtain⟨u,rfl,ru⟩:=lh r;cases (show u=Value.ref p from ru);exact wX I hd fun t s' I'=>⟨.int kvs.length,H,I',⟨t,rfl⟩,q⟩
end
def lw(K:PySem.W.Frag)(x:Str):Addr:=match PySem.W.nsIn K mainGlobals x with
 | some (some (.ref C))=>C
 | _=>0
theorem oS{prog:Program}{w:World}{A:Around}(k:Bool)(hh:A.handled=none)(it a:Addr)(hne:a≠it)(its:Array Value) :
  Draws prog w A it [it,a] its.size (fun i v=>its[i]?=some v) (fun i h=>ca k h it a i/\dy k h a its) where
 live:=fun _ _ st=>let ⟨o,ho,_⟩:=st.1;⟨o,ho⟩
 frame:=fun _ _ _ st hk=>⟨st.1.mv fun o e=>hk it (by simp) o e,st.2.mv fun o e=>hk a (by simp) o e⟩
 item:=fun i s Q E hi st hQ=>by
  refine c7 st.1 st.2 (x:=its[i]) (by simp [hi]) fun h' hit' hs'=>?_;exact hQ _ h' s.toks (by simp [hi]) ⟨hit',st.2.mv fun o e=>hs'.extBut _ o hne e⟩ hs'
 done:=fun s Q E st hE=>dS hh st.1 st.2 (by simp) hE
def Ite(k:Bool)(K:PySem.W.Frag)(a:Addr):It :=
  ⟨fun i H=>∃xs x,Sq k K H a xs/\xs[i]?=some x,
   fun i H p H'=>∃T x,H T=none/\p=.ref T/\(∀xs,Sq k K H a xs->xs[i]?=some x)/\H'=upd H T (.tup [.int (i:Int),x]),
   fun i H=>∃xs,Sq k K H a xs/\xs.length<=i⟩
theorem oU{P:Program}{w:World}{K:PySem.W.Frag}{es:List Expr}{ct:Nat}{tp:Pos}{k:Bool}{a e it:Addr}(hei:e≠it) :
  qh P w K (.Tuple es ct tp) (Ite k K a) [e,it] e (fun n h=>(∃old,IsEnum h e it ((n:Nat):Int) old)/\ca k h it a n) where
 mem:=by simp
 obj:=fun n h st b hb=>by
  obtain⟨⟨old,he⟩,o1,g1,c1,d1⟩:=st;simp only [mem_cons,not_mem_nil,or_false] at hb
  rcases hb with rfl|rfl
  .exact⟨_,he,fun v q=>by cases q⟩
  .exact⟨_,g1,fun v q=>by rw [d1] at q;cases q⟩
 keep:=fun n h h' st kk=>by
  obtain⟨⟨old,he⟩,w1⟩:=st;exact⟨⟨old,kk e (by simp) _ he⟩,w1.mv fun o q=>kk it (by simp) o q⟩
 item:=by
  intro X hP hw hK hc n pins s σ H E I hf st hg;subst hP hw hK;obtain⟨xs,x,q1,hx⟩:=hg;obtain⟨⟨old,he⟩,w1⟩:=st;obtain⟨its,rv,p,_⟩:=I.row q1;obtain⟨ux,hux,rx⟩:=rv.get hx;have ne:=I.row_ne q1 (hf e (by simp));have ni:=I.row_ne q1 (hf it (by simp))
  have hlt:n<its.toArray.size:=by
   have:=(List.getElem?_eq_some_iff.mp hux).1;simpa using this
  have hhd:X.A.in1.handled=none:=by exact I.ok.hd hc
  refine wpAny_pyNext_enum_itemD (oS k hhd it a ni its.toArray) he ⟨w1,p⟩ hlt hei (by simp [hei,Ne.symm ne]) fun y h' tk hP ho hst ht hsz hk=>?_
  have hy:y=ux:=by
   have h1:its[n]?=some y:=by simpa using hP
   rw [hux] at h1;exact (Option.some.inj h1).symm
  subst hy;refine⟨_,rfl,wpAny_letOwnedTupleGo_enum ho fun g ge gs=>?_⟩;have lt:∀{b o},s.heap.get? b=some o->s.heap.objs.size≠b:=fun q=>ne_of_gt (Heap.lt_size q)
  have kp:∀b o,b∉[e,it]->s.heap.get? b=some o->g.get? b=some o:=fun b o hb q=>by
   simp only [mem_cons,not_mem_nil,or_false,not_or] at hb;exact gs.extBut _ _ hb.1 (hk b o hb.1 hb.2 q)
  have I2:Inv X pins σ (upd H s.heap.objs.size (.tup [.int (n:Int),x])) { s with heap:=g,toks:=tk+1 }:=I.yielded (ch:=[e,it]) (fun b hb=>hf b hb) (le_refl _) kp
   ⟨by show 2<=sizeLine;decide,[.int (n:Int) tk,y],.cons ⟨tk,rfl⟩ (.cons rx .nil),_,gs.extBut _ _ (lt he) ht,rfl,_,rfl⟩
  refine⟨.ref s.heap.objs.size,_,I2,rfl,⟨_,x,I.hok.fresh (le_refl _),rfl,fun xs' q=>by rw [I.row_inj q q1];exact hx,rfl⟩,⟨⟨y,by simpa using ge⟩,hst.1.mv fun o q=>gs.extBut _ o (Ne.symm hei) q⟩,fun b hb=>?_⟩
  rw [au ?_]
  .exact (hf b hb).1
  .intro q;subst q;simp only [mem_cons,not_mem_nil,or_false] at hb;obtain⟨o1,g1,_⟩:=w1
   rcases hb with q|q
   .exact lt he q
   .exact lt g1 q
 done:=by
  intro X hP hw hK hc n pins s σ H E I hf st hg;subst hP hw hK;obtain⟨xs,q1,hend⟩:=hg;obtain⟨⟨old,he⟩,w1⟩:=st;obtain⟨its,rv,p,_⟩:=I.row q1;have e1:=rv.length;have ni:=I.row_ne q1 (hf it (by simp));have hhd:X.A.in1.handled=none:=by exact I.ok.hd hc
  obtain⟨f0,f1,f2,f3,f4,f5⟩:=hf it (by simp)
  -- the walk's end is wherever the row has no item
  have hT:s.TypeIs (.ref e) "enumerate":=⟨_,he,rfl⟩
  unfold pyNext
  refine wpAny_bind (wpAny_attempt (wpAny_callSpecial?_slot (name:=Str.ofString "__next__") hT F.slot_enumerate_next
   (wpAny_call_entry F.slot_enumerate_next hT F.entry_enumerate_next ?_ (F.args_enumerate_next_1 _))))
  show wpAny _ _ (field (.ref e) 2 >>= _) _ _ _;refine wpAny_bind (wpAny_field he rfl (x:=.ref it) rfl ?_);refine wpAny_bind (dS hhd w1 p (by simp;omega) fun h' x he' hx'=>?_);obtain⟨o,ho,hcl⟩:=hx';refine wpAny_bind (wpAny_isInstance (T:="StopIteration") (b:=true) ⟨o,ho,hcl⟩ isSubtype_stop ?_);exact wpAny_pure ⟨rfl,I.turned (t':=s.toks) (fun b o hb q=>he' b o hb q) f0 f1 f3 f4 f5⟩
 self:=fun _ _ _ _ _ st h=>let ⟨⟨_,he⟩,_⟩:=st;wpAny_pyIter_enum he h
section
variable {P:Program}{w:World}{A:Around}{E:Value->Shared->Prop}{s:Shared}{k:Bool}
theorem qC(k:Bool)(a:Addr)(xs:Array Value):Meets (Builtin.«enumerate.__new__» ⟨[.type "enumerate",.ref a],[]⟩) (fun _ R s=>dy k s.heap a xs /\
   R (.ok (.ret (.ref (s.heap.push (gJ k a)).objs.size))) { s with heap:=(s.heap.push (gJ k a)).push { cls:=.type "enumerate",data:=.fields #[.none,.bool false,.ref s.heap.objs.size,rawInt 0,.none,.none] } }) :=
 .of_wp fun prog w A R s h=>by
  obtain⟨hp,g,d,tk,os⟩:=s;obtain⟨r1,h⟩:=h;have hsub:=sub_enumerate;have R1:dy k (Shared.heap ⟨hp,g,d,tk,os⟩) a xs:=r1;obtain⟨⟨cls,dd,data,sl⟩,ho,hc,n,hd⟩:=id r1;simp only at hc hd;subst hc hd
  wp_walk using AutoSeq1.wpAny_loadPart' ho
  refine wpAny_stack_any fun st=>wpAny_pure ?_
  split
  .rename_i c _ _ _ _ _
   cases (c == Value.type "enumerate")
   .wp_walk using AutoSeq1.wpAny_loadPart' ho,dG R1
    exact⟨_,rfl,h⟩
   .wp_walk using AutoSeq1.wpAny_loadPart' ho,dG R1
    exact⟨_,rfl,h⟩
  .wp_walk using AutoSeq1.wpAny_loadPart' ho,dG R1
   exact⟨_,rfl,h⟩
theorem qD{a:Addr}{xs:Array Value}{Q:Value->Shared->Prop}(r1:dy k s.heap a xs)
  (h:∀h',IsEnum h' (s.heap.objs.size+1) s.heap.objs.size 0 .none->ca k h' s.heap.objs.size a 0->(∀b o,s.heap.get? b=some o->h'.get? b=some o)->Q (.ref (s.heap.objs.size+1)) { s with heap:=h' }) :
  wpAny (model P w) A (call (.type "enumerate") [.ref a]) Q E s:=by
 refine callType_new F.called_enumerate (by decide) (F.typeCall_enumerate_1 _) (F.newCall_enumerate_1 _) (fun obj=>F.args_object_init_2 obj _) F.entry_enumerate_new (qC k a xs) ⟨r1,?_⟩;have z1:(s.heap.push (gJ k a)).objs.size=s.heap.objs.size+1:=Heap.size_push ..;have g2:((s.heap.push (gJ k a)).push { cls:=.type "enumerate",data:=.fields #[.none,.bool false,.ref s.heap.objs.size,rawInt 0,.none,.none] }).get? (s.heap.push (gJ k a)).objs.size=some _:=Heap.get?_push_size _ rfl
 have g1:=Heap.get?_push_of_some { cls:=.type "enumerate",data:=.fields #[.none,.bool false,.ref s.heap.objs.size,rawInt 0,.none,.none] } (Heap.get?_push_size s.heap (o:=gJ k a) rfl);show _/\_;rw [z1] at g2 ⊢;exact⟨⟨_,g2,rfl⟩,h _ g2 ⟨_,g1,rfl,rfl⟩ fun b o q=>Heap.get?_push_of_some _ (Heap.get?_push_of_some _ q)⟩
end
section
variable {X:Cx}{es:List Expr}{ct:Nat}{tp:Pos}
def sR(K:PySem.W.Frag)(ta:TA):TI:=fun σ H R=>ta σ H fun vs H1=>∃k a,vs=[.ref a]/\(∃xs,Sq k K H1 a xs)/\R (Ite k K a) H1
theorem sS{a:Expr}{ta:TA}{p pos:Pos}(hg:Gl X "enumerate")(hm:X.mg "enumerate"=none)(ha:PA X [a] ta)(hs:starEach [a] X.env=[(false,eval a X.env)]:=by rfl) :
  PI X (.Tuple es ct tp) (.Call (.Name "enumerate" p) [a] [] pos) (sR X.K ta):=by
 intro pins s σ H R I h;refine Call_ (c5 I hg hm boot_enumerate (PyProof.Rows.callWith_type1 (thn (ha pos pins s σ H _ I h) fun us s1 ⟨vs,H1,I1,r1,q1⟩=>?_) hs rfl));obtain⟨k,a,e,⟨xs,q1⟩,q⟩:=q1;subst e
 cases r1 with
 | cons r rr =>
  cases rr;cases r;obtain⟨its,rv,p,_⟩:=I1.row q1;refine qD p fun h' g1 g2 kk=>wpAny_pyIter_enum g1 ?_;have I2:Inv X pins σ H1 { s1 with heap:=h',toks:=s1.toks }:=I1.kept kk;refine⟨s1.heap.objs.size+1,[s1.heap.objs.size+1,s1.heap.objs.size],_,_,H1,rfl,I2,oU (k:=k) (a:=a) (it:=s1.heap.objs.size) (ne_of_gt (lt_succ_self _)),⟨⟨_,g1⟩,g2⟩,fun b hb=>?_,q⟩
  have hle:s1.heap.objs.size<=b:=by
   simp only [mem_cons,not_mem_nil,or_false] at hb
   rcases hb with e|e
   .rw [e];exact le_add_right _ _
   .rw [e];exact le_refl _
  exact I1.fpOk hle (I1.hok.fresh hle)
end
section
variable {X:Cx}{es:List Expr}{ct:Nat}{tp:Pos}
def wY(K:PySem.W.Frag)(ta:TA):TI:=fun σ H R=>ta σ H fun vs H1=>∃k l a c,vs=[.ref a,.ref c]/\(∃xs ys,Sq k K H1 a xs/\Sq l K H1 c ys)/\R (Itz k l K a c) H1
end
section
variable {X:Cx}{e:Expr}{ta:TE}{f:Str}{pos:Pos}
def wZ(K:PySem.W.Frag):List V->Hp->VK->Prop:=fun xs H Q=>∃p ys,xs=[.ref p]/\SqL K H p ys/\Q (.int ys.length) H
def w4(K:PySem.W.Frag):List V->Hp->VK->Prop:=fun xs H Q=>∃p ys,xs=[.ref p]/\SqT K H p ys/\Q (.int ys.length) H
def yh(K:PySem.W.Frag):List V->Hp->VK->Prop:=fun xs H Q=>∃x n t b,xs=[x,.ty n]/\li K H x t/\PySem.W.kitOne K t (.type n)=some b/\Q (.bl b) H
def oV(K:PySem.W.Frag):List V->Hp->VK->Prop:=fun xs H Q=>∃p ys,xs=[.ref p]/\(SqL K H p ys\/SqT K H p ys)/\∀l,H l=none->Q (.ref l) (upd H l (.lst ys))
end
section
variable {X:Cx}{o e:Expr}{es:List Expr}{to:TE}{t:TA}{name:Str}{apos cpos:Pos}{T id:String}{r:V->List V->Hp->VK->Prop}
theorem kg(K:PySem.W.Frag)(eK:X.K=K)(pa:PlainAttrs T)(slot:Slot T name id)(hty:typeOf (.builtin id)=pure (.type "method_descriptor"))(hm:MtR X id r)(ho:PE X o to)(ha:PA X (e::es) t)
  (hbase:attributeBase o name X.env (eval o X.env)=eval o X.env:=by rfl)
  (hfew:((backTo cpos (starEach (e::es) X.env)).all (fun x=>!x.1) && (backToKw cpos (keywordEach [] X.env)).all (fun x=>x.1.isSome)
   && decide ((e::es).length+([]:List Keyword).length+(if ([]:List Keyword).isEmpty then 0 else 1)<30))=true:=by rfl)
  (hline:(apos.endLine == cpos.line)=true:=by rfl) (hs:starEach (e::es) X.env=(false,eval e X.env)::starEach es X.env:=by rfl) (hplain:(backTo cpos (starEach es X.env)).any (·.1)=false:=by rfl) :
  PE X (.Call (.Attribute o name apos) (e::es) [] cpos) (tBM K T r to t):=eK ▸ wQ pa slot hty hm ho ha hbase hfew hline hs hplain
end
def gj(c:Bool)(A B:Prop):Prop:=match c with|true=>A|false=>B
theorem yi{c:Bool}{A B:Prop}(h1:c=true->A)(h2:c=false->B):gj c A B:=by
 cases c with
 | true=>exact h1 rfl
 | false=>exact h2 rfl
theorem eB{p:Prop}[Decidable p]{A B:Prop}(h1:p->A)(h2:¬ p->B):gj (decide p) A B:=yi (fun h=>h1 (of_decide_eq_true h)) (fun h=>h2 (of_decide_eq_false h))
theorem kh{p:Prop}[Decidable p]{A B:Prop}(h1:¬ p->A)(h2:p->B):gj (!decide p) A B:=yi (fun h=>h1 fun z=>by rw [decide_eq_true z] at h;cases h) (fun h=>h2 (by
 by_cases z:p
 .exact z
 .rw [decide_eq_false z] at h;cases h))
theorem w9{p:Prop}[Decidable p]{A B:Prop}(h:p)(hA:A):gj (decide p) A B:=eB (fun _=>hA) (fun z=>absurd h z)
theorem xa{p:Prop}[Decidable p]{A B:Prop}(h:¬ p)(hB:B):gj (decide p) A B:=eB (fun z=>absurd z h) (fun _=>hB)
theorem vx{p:Prop}[Decidable p]{A B:Prop}(h:¬ p)(hA:A):gj (!decide p) A B:=kh (fun _=>hA) (fun z=>absurd z h)
theorem vy{p:Prop}[Decidable p]{A B:Prop}(h:p)(hB:B):gj (!decide p) A B:=kh (fun z=>absurd h z) (fun _=>hB)
theorem yG{c:Bool}{A B:Prop}(h:c=true)(hA:A):gj c A B:=by subst h;exact hA
theorem yH{c:Bool}{A B:Prop}(h:c=false)(hB:B):gj c A B:=by subst h;exact hB
theorem xb{c:Bool}{A B:Prop}(h:c=false)(hA:A):gj (!c) A B:=by subst h;exact hA
theorem sU{c:Bool}{A B:Prop}(h:c=true)(hB:B):gj (!c) A B:=by subst h;exact hB
inductive D where
 | non|bl (b:Bool)|int (i:Int)|str (l:List Nat)|ty (n:String)
 | lst (ds:List D)|tup (ds:List D)|scr (ns:List Int)|dic (ks:List Key) (ds:List D)|obj (c:Str) (ns:List Str) (ds:List D)|exc (c:Str) (ns:List Str) (ds:List D)
def XAt(x C:Addr)(dd:Option Addr)(new:Bool)(h:Heap):Prop:=∃o vs,h.get? x=some o/\o.cls=.ref C/\o.dict=dd/\o.data=.fields vs/\1<vs.size/\(new=true->vs[1]?=some .none)
def ei(A:Addr->Prop)(a:Addr):Addr->Prop:=fun b=>A b\/b=a
def uf(K:PySem.W.Frag)(O:Addr->Prop)(H:Hp)(a:Addr)(xs:List V):Prop :=
 (¬ O a/\Rd H a (.lst xs))\/∃(o:Obj) (its:Array Value) (n:Nat),K.lookup a=some o/\o.cls=.type "list"/\o.dict=none/\o.data=.seq its n/\its.size<=sizeLine/\bP xs its.toList
theorem uf.sq{K:PySem.W.Frag}{O:Addr->Prop}{H:Hp}{a:Addr}{xs:List V}(h:uf K O H a xs):SqL K H a xs:=h.elim (fun z=>.inl z.2) .inr
def aM(O:Addr->Prop)(H:Hp)(O':Addr->Prop)(H':Hp):Prop:=∀b o,¬ O b->H b=some o->¬ O' b/\H' b=some o
theorem Rd.keeps{O O':Addr->Prop}{H H':Hp}{a:Addr}{u:HO}(k:aM O H O' H')(n:¬ O a)(r:Rd H a u):¬ O' a/\Rd H' a u:=by
 rcases r with e|⟨o,e⟩
 .exact⟨(k _ _ n e).1,.inl (k _ _ n e).2⟩
 .exact⟨(k _ _ n e).1,.inr ⟨o,(k _ _ n e).2⟩⟩
theorem uf.keeps{K:PySem.W.Frag}{O O':Addr->Prop}{H H':Hp}{a:Addr}{xs:List V}(k:aM O H O' H')(h:uf K O H a xs):uf K O' H' a xs:=by
 rcases h with ⟨n,r⟩|r
 .exact .inl (r.keeps k n)
 .exact .inr r
mutual
inductive FV (K:PySem.W.Frag) (O:Addr->Prop) (H:Hp):V->D->Prop
 | non:FV K O H .non .non
 | bl (b:Bool):FV K O H (.bl b) (.bl b)
 | int (i:Int):FV K O H (.int i) (.int i)
 | str (l:List Nat):l.length<=1000000->FV K O H (.str (S l)) (.str l)
 | ty (n:String):FV K O H (.ty n) (.ty n)
 | scr {a:Addr}{ns:List Int}:uf K O H a (ns.map V.int)->FV K O H (.ref a) (.scr ns)
 | lst {a:Addr}{xs:List V}{ds:List D}:¬ O a->H a=some (.lst xs)->FVs K O H xs ds->FV K O H (.ref a) (.lst ds)
 | tup {a:Addr}{xs:List V}{ds:List D}:¬ O a->H a=some (.tup xs)->FVs K O H xs ds->FV K O H (.ref a) (.tup ds)
 | dic {a:Addr}{kvs:List (Key×V)}{ks:List Key}{ds:List D}:¬ O a->H a=some (.dK kvs)->kvs.map Prod.fst=ks->FVs K O H (kvs.map Prod.snd) ds->FV K O H (.ref a) (.dic ks ds)
 | obj {a dx:Addr}{c:Str}{fs:List (Str×V)}{ns:List Str}{ds:List D}:¬ O a->H a=some (.ins (lw K c) dx fs)->fs.map Prod.fst=ns->FVs K O H (fs.map Prod.snd) ds->FV K O H (.ref a) (.obj c ns ds)
 | exc0 {a:Addr}{c:Str}{new:Bool}:¬ O a->H a=some (.ext (XAt a (lw K c) none new))->FV K O H (.ref a) (.exc c [] [])
 | exc1 {a dx:Addr}{c:Str}{new:Bool}{fs:List (Str×V)}{ns:List Str}{ds:List D}:¬ O a->¬ O dx->H a=some (.ext (XAt a (lw K c) (some dx) new))->H dx=some (.xd fs)->fs.map Prod.fst=ns->FVs K O H (fs.map Prod.snd) ds->FV K O H (.ref a) (.exc c ns ds)
inductive FVs (K:PySem.W.Frag) (O:Addr->Prop) (H:Hp):List V->List D->Prop
 | nil:FVs K O H [] []
 | cons {x:V}{d:D}{xs:List V}{ds:List D}:FV K O H x d->FVs K O H xs ds->FVs K O H (x::xs) (d::ds)
end
section
variable {K:PySem.W.Frag}{O O':Addr->Prop}{H H':Hp}
mutual
theorem FV.keeps(k:aM O H O' H'):∀{v:V}{d:D},FV K O H v d->FV K O' H' v d
 | _,_,.non=>.non
 | _,_,.bl b=>.bl b
 | _,_,.int i=>.int i
 | _,_,.str l h=>.str l h
 | _,_,.ty n=>.ty n
 | _,_,.scr s=>.scr (s.keeps k)
 | _,_,.lst n e f=>.lst (k _ _ n e).1 (k _ _ n e).2 (FVs.keeps k f)
 | _,_,.tup n e f=>.tup (k _ _ n e).1 (k _ _ n e).2 (FVs.keeps k f)
 | _,_,.dic n e m f=>.dic (k _ _ n e).1 (k _ _ n e).2 m (FVs.keeps k f)
 | _,_,.obj n e m f=>.obj (k _ _ n e).1 (k _ _ n e).2 m (FVs.keeps k f)
 | _,_,.exc0 n e=>.exc0 (k _ _ n e).1 (k _ _ n e).2
 | _,_,.exc1 n n2 e e2 m f=>.exc1 (k _ _ n e).1 (k _ _ n2 e2).1 (k _ _ n e).2 (k _ _ n2 e2).2 m (FVs.keeps k f)
theorem FVs.keeps(k:aM O H O' H'):∀{vs:List V}{ds:List D},FVs K O H vs ds->FVs K O' H' vs ds
 | _,_,.nil=>.nil
 | _,_,.cons a b=>.cons (FV.keeps k a) (FVs.keeps k b)
end
theorem FVs.length:∀{vs:List V}{ds:List D},FVs K O H vs ds->vs.length=ds.length
 | _,_,.nil=>rfl
 | _,_,.cons _ b=>by rw [length_cons,length_cons,b.length]
theorem FVs.get:∀{vs:List V}{ds:List D}{i:Nat}{v:V},FVs K O H vs ds->vs[i]?=some v->∃d,ds[i]?=some d/\FV K O H v d
 | _,_,0,_,.cons a _,e=>by simp at e;subst e;exact⟨_,rfl,a⟩
 | _,_,i+1,v,.cons _ b,e=>by
  obtain⟨d,h1,h2⟩:=b.get (i:=i) (v:=v) (by simpa using e);exact⟨d,by simpa using h1,h2⟩
theorem FVs.getD:∀{vs:List V}{ds:List D}{i:Nat}{d:D},FVs K O H vs ds->ds[i]?=some d->∃v,vs[i]?=some v/\FV K O H v d
 | _,_,0,_,.cons a _,e=>by simp at e;subst e;exact⟨_,rfl,a⟩
 | _,_,i+1,v,.cons _ b,e=>by
  obtain⟨d,h1,h2⟩:=b.getD (i:=i) (d:=v) (by simpa using e);exact⟨d,by simpa using h1,h2⟩
theorem FVs.append:∀{vs ws:List V}{ds es:List D},FVs K O H vs ds->FVs K O H ws es->FVs K O H (vs++ws) (ds++es)
 | _,_,_,_,.nil,s=>s
 | _,_,_,_,.cons a b,s=>.cons a (b.append s)
theorem FVs.take:∀{vs:List V}{ds:List D} (n:Nat),FVs K O H vs ds->FVs K O H (vs.take n) (ds.take n)
 | _,_,0,_=>.nil
 | _,_,_+1,.nil=>.nil
 | _,_,n+1,.cons r t=>.cons r (t.take n)
theorem FVs.drop:∀{vs:List V}{ds:List D} (n:Nat),FVs K O H vs ds->FVs K O H (vs.drop n) (ds.drop n)
 | _,_,0,r=>r
 | _,_,_+1,.nil=>.nil
 | _,_,n+1,.cons _ t=>t.drop n
theorem FVs.reverse:∀{vs:List V}{ds:List D},FVs K O H vs ds->FVs K O H vs.reverse ds.reverse
 | _,_,.nil=>.nil
 | _,_,.cons r t=>by rw [reverse_cons,reverse_cons];exact t.reverse.append (.cons r .nil)
theorem FVs.ints:∀{vs:List V}{ns:List Int},FVs K O H vs (ns.map D.int)->vs=ns.map V.int
 | _,[],.nil=>rfl
 | _,n::r,h=>by
  cases h with
  | cons a b=>cases a;rw [FVs.ints b];rfl
theorem FVs.of_ints:∀ns:List Int,FVs K O H (ns.map V.int) (ns.map D.int)
 | []=>.nil
 | n::r=>.cons (.int n) (FVs.of_ints r)
theorem FVs.bls:∀{vs:List V}{bs:List Bool},FVs K O H vs (bs.map D.bl)->vs=bs.map V.bl
 | _,[],.nil=>rfl
 | _,n::r,h=>by
  cases h with
  | cons a b=>cases a;rw [FVs.bls b];rfl
end
inductive PV where
 | dat (d:D)|own (ds:List D)|ins (c:Str) (ns:List Str) (ds:List D)
def PV.isOwn:PV->Bool
 | .dat _=>false
 | _=>true
def PV.d:PV->D
 | .dat d=>d
 | .own ds=>.lst ds
 | .ins c ns ds=>.obj c ns ds
abbrev PSt:=List (Option PV)
def Wr(ρ:PSt)(σ:St)(b:Addr):Prop:=∃(i:Nat) (p:PV),ρ[i]?=some (some p)/\p.isOwn=true/\σ[i]?=some (some (.ref b))
def OO(A:Addr->Prop)(ρ:PSt)(σ:St)(b:Addr):Prop:=A b\/Wr ρ σ b
def RS(K:PySem.W.Frag)(O:Addr->Prop)(H:Hp):PV->V->Prop
 | .dat d,v=>FV K O H v d
 | .own ds,v=>∃a xs,v=.ref a/\H a=some (.lst xs)/\FVs K O H xs ds
 | .ins c ns ds,v=>∃a dx fs,v=.ref a/\H a=some (.ins (lw K c) dx fs)/\fs.map Prod.fst=ns/\FVs K O H (fs.map Prod.snd) ds
structure Rel (K:PySem.W.Frag) (A:Addr->Prop) (ρ:PSt) (σ:St) (H:Hp):Prop where
 len:ρ.length=σ.length
 get:∀(i:Nat) (p:PV),ρ[i]?=some (some p)->∃v,σ[i]?=some (some v)/\RS K (OO A ρ σ) H p v
 dj:∀(i j:Nat) (p q:PV) (v:V),ρ[i]?=some (some p)->ρ[j]?=some (some q)->p.isOwn=true->q.isOwn=true->σ[i]?=some (some v)->σ[j]?=some (some v)->i=j
 dom:∀b,A b->H b≠none
 sep:∀b,A b->¬ Wr ρ σ b
structure Fr (ρ:PSt) (σ:St) (H:Hp) (ρ':PSt) (H':Hp):Prop where
 kp:∀b o,¬ Wr ρ σ b->H b=some o->H' b=some o
 dm:∀b,H b≠none->H' b≠none
 ow:∀b,Wr ρ' σ b->Wr ρ σ b
theorem Fr.refl(ρ:PSt)(σ:St)(H:Hp):Fr ρ σ H ρ H:=⟨fun _ _ _ h=>h,fun _ h=>h,fun _ h=>h⟩
theorem Fr.trans{ρ ρ1 ρ2:PSt}{σ:St}{H H1 H2:Hp}(a:Fr ρ σ H ρ1 H1)(b:Fr ρ1 σ H1 ρ2 H2):Fr ρ σ H ρ2 H2 :=
 ⟨fun c o n h=>b.kp c o (fun z=>n (a.ow c z)) (a.kp c o n h),fun c h=>b.dm c (a.dm c h),fun c h=>a.ow c (b.ow c h)⟩
theorem Fr.keeps{ρ ρ':PSt}{σ:St}{H H':Hp}{A:Addr->Prop}(f:Fr ρ σ H ρ' H'):aM (OO A ρ σ) H (OO A ρ' σ) H':=fun b o n h =>
 ⟨fun z=>z.elim (fun z=>n (.inl z)) (fun z=>n (.inr (f.ow b z))),f.kp b o (fun z=>n (.inr z)) h⟩
theorem Fr.new{ρ:PSt}{σ:St}{H:Hp}{p:Addr}{o:HO}(h:H p=none):Fr ρ σ H ρ (upd H p o) :=
 ⟨fun b u _ e=>by rw [au (aQ e h)];exact e,fun b e=>by
  by_cases z:b=p
  .rw [z,aT];exact nofun
  .rw [au z];exact e,fun _ h=>h⟩
theorem aM.fresh{O:Addr->Prop}{H:Hp}{p:Addr}{o:HO}(h:H p=none):aM O H (ei O p) (upd H p o):=fun b u n e =>
 ⟨fun z=>z.elim n (fun z=>by rw [z,h] at e;cases e),by rw [au (aQ e h)];exact e⟩
theorem aM.less{O O':Addr->Prop}{H:Hp}(h:∀b,O' b->O b):aM O H O' H:=fun b o n e=>⟨fun z=>n (h b z),e⟩
theorem RS.keeps{K:PySem.W.Frag}{O O':Addr->Prop}{H H':Hp}{p:PV}{v:V}(k:aM O H O' H')(w:p.isOwn=true->∀a,v=.ref a->H' a=H a)(h:RS K O H p v):RS K O' H' p v:=by
 cases p with
 | dat d=>exact FV.keeps k h
 | own ds =>
  obtain⟨a,xs,e,g,f⟩:=h;exact⟨a,xs,e,by rw [w rfl a e];exact g,f.keeps k⟩
 | ins c ns ds =>
  obtain⟨a,dx,fs,e,g,m,f⟩:=h;exact⟨a,dx,fs,e,by rw [w rfl a e];exact g,m,f.keeps k⟩
theorem RS.ref{K:PySem.W.Frag}{O:Addr->Prop}{H:Hp}{p:PV}{v:V}(h:RS K O H p v)(o:p.isOwn=true):∃a u,v=.ref a/\H a=some u:=by
 cases p with
 | dat d=>cases o
 | own ds=>obtain⟨a,xs,e,g,f⟩:=h;exact⟨a,_,e,g⟩
 | ins c ns ds=>obtain⟨a,dx,fs,e,g,m,f⟩:=h;exact⟨a,_,e,g⟩
theorem Rel.wr{K:PySem.W.Frag}{A:Addr->Prop}{ρ:PSt}{σ:St}{H:Hp}(R:Rel K A ρ σ H){b:Addr}(h:Wr ρ σ b):H b≠none:=by
 obtain⟨i,p,e,o,s⟩:=h;obtain⟨v,s',r⟩:=R.get i p e;rw [s] at s';cases s';obtain⟨a,u,e1,e2⟩:=r.ref o;cases e1;rw [e2];exact nofun
theorem Rel.oo{K:PySem.W.Frag}{A:Addr->Prop}{ρ:PSt}{σ:St}{H:Hp}(R:Rel K A ρ σ H){b:Addr}(h:H b=none):¬ OO A ρ σ b:=fun z=>z.elim (fun z=>R.dom b z h) (fun z=>R.wr z h)
theorem Rel.grow{K:PySem.W.Frag}{A:Addr->Prop}{ρ:PSt}{σ:St}{H:Hp}(R:Rel K A ρ σ H){p:Addr}{o:HO}(h:H p=none):Rel K A ρ σ (upd H p o):=by
 have k:aM (OO A ρ σ) H (OO A ρ σ) (upd H p o):=Fr.keeps (Fr.new h);refine⟨R.len,fun i q e=>?_,R.dj,fun b z=>(Fr.new (ρ:=ρ) (σ:=σ) h).dm b (R.dom b z),R.sep⟩;obtain⟨v,s,r⟩:=R.get i q e;refine⟨v,s,r.keeps k fun ow a ea=>?_⟩;obtain⟨a',u,e1,e2⟩:=r.ref ow;rw [ea] at e1;cases e1;rw [au (aQ e2 h)]
theorem Rel.less{K:PySem.W.Frag}{A A':Addr->Prop}{ρ:PSt}{σ:St}{H:Hp}(R:Rel K A ρ σ H)(h:∀b,A' b->A b):Rel K A' ρ σ H:=by
 refine⟨R.len,fun i q e=>?_,R.dj,fun b z=>R.dom b (h b z),fun b z=>R.sep b (h b z)⟩;obtain⟨v,s,r⟩:=R.get i q e;exact⟨v,s,r.keeps (aM.less fun b z=>z.imp (h b) id) fun _ _ _=>rfl⟩
theorem Rel.write{K:PySem.W.Frag}{A:Addr->Prop}{ρ:PSt}{σ:St}{H:Hp}(R:Rel K A ρ σ H){i:Nat}{p q:PV}{a:Addr}{o:HO}(e:ρ[i]?=some (some p))(ow:p.isOwn=true)(ow':q.isOwn=true)(es:σ[i]?=some (some (.ref a)))
  (new:RS K (OO A ρ σ) (upd H a o) q (.ref a)):Rel K A (ρ.set i (some q)) σ (upd H a o)/\Fr ρ σ H (ρ.set i (some q)) (upd H a o):=by
 have hi:i<ρ.length:=(List.getElem?_eq_some_iff.mp e).1;have wa:Wr ρ σ a:=⟨i,p,e,ow,es⟩
 have weq:∀b,Wr (ρ.set i (some q)) σ b ↔ Wr ρ σ b:=fun b=>by
  constructor
  .rintro⟨j,r,e1,o1,s1⟩
   by_cases z:i=j
   .subst z;exact⟨i,p,e,ow,s1⟩
   .rw [getElem?_set_ne z] at e1;exact⟨j,r,e1,o1,s1⟩
  .rintro⟨j,r,e1,o1,s1⟩
   by_cases z:i=j
   .subst z;exact⟨i,q,getElem?_set_self hi,ow',s1⟩
   .exact⟨j,r,by rw [getElem?_set_ne z];exact e1,o1,s1⟩
 have oeq:OO A (ρ.set i (some q)) σ=OO A ρ σ:=funext fun b=>propext (or_congr Iff.rfl (weq b));have kp:∀b u,¬ Wr ρ σ b->H b=some u->upd H a o b=some u:=fun b u n h=>by rw [au (fun z=>n (by rw [z];exact wa))];exact h
 have k:aM (OO A ρ σ) H (OO A ρ σ) (upd H a o):=fun b u n h=>⟨n,kp b u (fun z=>n (.inr z)) h⟩
 have dm:∀b,H b≠none->upd H a o b≠none:=fun b n=>by
  by_cases z:b=a
  .rw [z,aT];exact nofun
  .rw [au z];exact n
 refine⟨⟨by rw [length_set];exact R.len,fun j r e1=>?_,fun j l p1 q1 v e1 e2 o1 o2 s1 s2=>?_,fun b z=>dm b (R.dom b z),fun b z w=>R.sep b z ((weq b).mp w)⟩,⟨kp,dm,fun b w=>(weq b).mp w⟩⟩
 .rw [oeq]
  by_cases z:i=j
  .subst z;rw [getElem?_set_self hi] at e1;cases e1;exact⟨_,es,new⟩
  .rw [getElem?_set_ne z] at e1;obtain⟨v,s,rr⟩:=R.get j r e1;refine⟨v,s,rr.keeps k fun ow2 b eb=>?_⟩;rw [au];intro zz;subst zz;rw [eb] at s;exact z (R.dj i j p r _ e e1 ow ow2 es s)
 .have ex:∀(m:Nat) (x:PV),(ρ.set i (some q))[m]?=some (some x)->x.isOwn=true->∃y:PV,ρ[m]?=some (some y)/\y.isOwn=true:=fun m x em ox=>by
   by_cases z:i=m
   .subst z;exact⟨p,e,ow⟩
   .rw [getElem?_set_ne z] at em;exact⟨x,em,ox⟩
  obtain⟨y1,h1,h2⟩:=ex j p1 e1 o1;obtain⟨y2,h3,h4⟩:=ex l q1 e2 o2;exact R.dj j l y1 y2 v h1 h3 h2 h4 s1 s2
theorem Rel.frz{K:PySem.W.Frag}{A:Addr->Prop}{ρ:PSt}{σ:St}{H:Hp}(R:Rel K A ρ σ H){i:Nat}{p:PV}(e:ρ[i]?=some (some p)) :
  Rel K A (ρ.set i (some (.dat p.d))) σ H/\Fr ρ σ H (ρ.set i (some (.dat p.d))) H:=by
 have hi:i<ρ.length:=(List.getElem?_eq_some_iff.mp e).1
 have ex:∀(m:Nat) (x:PV),(ρ.set i (some (.dat p.d)))[m]?=some (some x)->x.isOwn=true->m≠i/\ρ[m]?=some (some x):=fun m x em ox=>by
  by_cases z:i=m
  .subst z;rw [getElem?_set_self hi] at em;cases em;cases ox
  .rw [getElem?_set_ne z] at em;exact⟨fun q=>z q.symm,em⟩
 have ow:∀b,Wr (ρ.set i (some (.dat p.d))) σ b->Wr ρ σ b:=fun b ⟨j,r,e1,o1,s1⟩=>⟨j,r,(ex j r e1 o1).2,o1,s1⟩
 have k:aM (OO A ρ σ) H (OO A (ρ.set i (some (.dat p.d))) σ) H:=aM.less fun b z=>z.imp id (ow b);refine⟨⟨by rw [length_set];exact R.len,fun j r e1=>?_,fun j l p1 q1 v e1 e2 o1 o2 s1 s2=>R.dj j l p1 q1 v (ex j p1 e1 o1).2 (ex l q1 e2 o2).2 o1 o2 s1 s2,R.dom,fun b z w=>R.sep b z (ow b w)⟩,⟨fun _ _ _ h=>h,fun _ h=>h,ow⟩⟩
 by_cases z:i=j
 .subst z;rw [getElem?_set_self hi] at e1;cases e1;obtain⟨v,s,r⟩:=R.get i p e;refine⟨v,s,?_⟩
  have na:∀a,v=.ref a->p.isOwn=true->¬ OO A (ρ.set i (some (.dat p.d))) σ a:=fun a ea oo z=>by
   subst ea
   rcases z with z|⟨j,r,e1,o1,s1⟩
   .exact R.sep a z ⟨i,p,e,oo,s⟩
   .obtain⟨n1,n2⟩:=ex j r e1 o1;exact n1 (R.dj j i r p _ n2 e o1 oo s1 s)
  cases p with
  | dat d=>exact FV.keeps k r
  | own ds =>
   obtain⟨a,xs,rfl,g,f⟩:=r;exact .lst (na a rfl rfl) g (f.keeps k)
  | ins c ns ds =>
   obtain⟨a,dx,fs,rfl,g,m,f⟩:=r;exact .obj (na a rfl rfl) g m (f.keeps k)
 .rw [getElem?_set_ne z] at e1;obtain⟨v,s,r⟩:=R.get j _ e1;exact⟨v,s,r.keeps k fun _ _ _=>rfl⟩
abbrev PKt:=PV->PSt->Prop
abbrev PTE:=PSt->PKt->Prop
abbrev PTT:=PSt->(Bool->PSt->Prop)->Prop
inductive AV where
 | v (d:D)|sl (i:Nat)
abbrev PA1:=PSt->(AV->PSt->Prop)->Prop
abbrev PTA:=PSt->(List AV->PSt->Prop)->Prop
def Out(K:PySem.W.Frag)(A:Addr->Prop)(ρ:PSt)(σ:St)(H0 H:Hp):PV->V->Prop
 | .dat d,v=>Rel K A ρ σ H/\FV K (OO A ρ σ) H v d
 | .own ds,v=>∃a xs,v=.ref a/\¬ A a/\H0 a=none/\H a=some (.lst xs)/\Rel K (ei A a) ρ σ H/\FVs K (OO (ei A a) ρ σ) H xs ds
 | .ins c ns ds,v=>∃a dx fs,v=.ref a/\¬ A a/\H0 a=none/\H a=some (.ins (lw K c) dx fs)/\fs.map Prod.fst=ns/\Rel K (ei A a) ρ σ H/\FVs K (OO (ei A a) ρ σ) H (fs.map Prod.snd) ds
def LE(K:PySem.W.Frag)(te:TE)(pe:PTE):Prop:=∀(A:Addr->Prop) (ρ:PSt) (σ:St) (H:Hp) (Q:PKt) (Q':VK),Rel K A ρ σ H->pe ρ Q ->
 (∀v H' p ρ',Q p ρ'->Fr ρ σ H ρ' H'->Out K A ρ' σ H H' p v->Q' v H')->te σ H Q'
def LT(K:PySem.W.Frag)(tt:TT)(pt:PTT):Prop:=∀(A:Addr->Prop) (ρ:PSt) (σ:St) (H:Hp) (Q:Bool->PSt->Prop) (Q':Bool->Hp->Prop),Rel K A ρ σ H->pt ρ Q ->
 (∀b H' ρ',Q b ρ'->Fr ρ σ H ρ' H'->Rel K A ρ' σ H'->Q' b H')->tt σ H Q'
def AOk(K:PySem.W.Frag)(O:Addr->Prop)(σ:St)(H:Hp):AV->V->Prop
 | .v d,v=>FV K O H v d
 | .sl i,v=>σ[i]?=some (some v)
def LA1(K:PySem.W.Frag)(te:TE)(pa:PA1):Prop:=∀(A:Addr->Prop) (ρ:PSt) (σ:St) (H:Hp) (Q:AV->PSt->Prop) (Q':VK),Rel K A ρ σ H->pa ρ Q ->
 (∀v H' av ρ',Q av ρ'->Fr ρ σ H ρ' H'->Rel K A ρ' σ H'->AOk K (OO A ρ' σ) σ H' av v->Q' v H')->te σ H Q'
inductive sV (K:PySem.W.Frag) (O:Addr->Prop) (σ:St) (H:Hp):List AV->List V->Prop
 | nil:sV K O σ H [] []
 | cons {a:AV}{v:V}{as:List AV}{vs:List V}:AOk K O σ H a v->sV K O σ H as vs->sV K O σ H (a::as) (v::vs)
def LAs(K:PySem.W.Frag)(ta:TA)(pa:PTA):Prop:=∀(A:Addr->Prop) (ρ:PSt) (σ:St) (H:Hp) (Q:List AV->PSt->Prop) (Q':List V->Hp->Prop),Rel K A ρ σ H->pa ρ Q ->
 (∀vs H' as ρ',Q as ρ'->Fr ρ σ H ρ' H'->Rel K A ρ' σ H'->sV K (OO A ρ' σ) σ H' as vs->Q' vs H')->ta σ H Q'
section
variable {K:PySem.W.Frag}{A O O':Addr->Prop}{ρ ρ':PSt}{σ:St}{H H' H0:Hp}
theorem AOk.keeps{a:AV}{v:V}(k:aM O H O' H')(h:AOk K O σ H a v):AOk K O' σ H' a v:=by
 cases a with
 | v d=>exact FV.keeps k h
 | sl i=>exact h
theorem Out.frz{p:PV}{v:V}(h:Out K A ρ σ H0 H p v):Rel K A ρ σ H/\FV K (OO A ρ σ) H v p.d:=by
 cases p with
 | dat d=>exact h
 | own ds =>
  obtain⟨a,xs,rfl,na,_,e,R,f⟩:=h;refine⟨R.less fun b z=>.inl z,.lst (fun z=>?_) e (f.keeps (aM.less fun b z=>z.imp .inl id))⟩;exact z.elim na (fun z=>R.sep a (.inr rfl) z)
 | ins c ns ds =>
  obtain⟨a,dx,fs,rfl,na,_,e,m,R,f⟩:=h;refine⟨R.less fun b z=>.inl z,.obj (fun z=>?_) e m (f.keeps (aM.less fun b z=>z.imp .inl id))⟩;exact z.elim na (fun z=>R.sep a (.inr rfl) z)
theorem Out.h0{p:PV}{v:V}{H1:Hp}(h:Out K A ρ σ H0 H p v)(dm:∀b,H1 b≠none->H0 b≠none):Out K A ρ σ H1 H p v:=by
 have k:∀a,H0 a=none->H1 a=none:=fun a e=>by
  cases z:H1 a with
  | none=>rfl
  | some o=>exact absurd e (dm a (by rw [z];exact nofun))
 cases p with
 | dat d=>exact h
 | own ds=>obtain⟨a,xs,e1,na,e2,r⟩:=h;exact⟨a,xs,e1,na,k a e2,r⟩
 | ins c ns ds=>obtain⟨a,dx,fs,e1,na,e2,r⟩:=h;exact⟨a,dx,fs,e1,na,k a e2,r⟩
def Gr(H H':Hp):Prop:=∀b o,H b=some o->H' b=some o
theorem Gr.fr(g:Gr H H'):Fr ρ σ H ρ H':=⟨fun b o _ h=>g b o h,fun b h=>by
 cases e:H b with
 | none=>exact absurd e h
 | some o=>rw [g b o e];exact nofun,fun _ h=>h⟩
theorem Gr.new{p:Addr}{o:HO}(h:H p=none):Gr H (upd H p o):=fun b u e=>by rw [au (aQ e h)];exact e
theorem Gr.refl(H:Hp):Gr H H:=fun _ _ h=>h
theorem Rel.gr(R:Rel K A ρ σ H)(g:Gr H H'):Rel K A ρ σ H':=by
 refine⟨R.len,fun i q e=>?_,R.dj,fun b z=>(g.fr (ρ:=ρ) (σ:=σ)).dm b (R.dom b z),R.sep⟩;obtain⟨v,s,r⟩:=R.get i q e;refine⟨v,s,r.keeps (g.fr (ρ:=ρ) (σ:=σ)).keeps fun ow a ea=>?_⟩;obtain⟨a',u,e1,e2⟩:=r.ref ow;rw [ea] at e1;cases e1;rw [e2];exact g _ _ e2
theorem Rel.grA(R:Rel K A ρ σ H)(g:Gr H H'){p:Addr}(h:H p=none)(h':H' p≠none):Rel K (ei A p) ρ σ H':=by
 have k:aM (OO A ρ σ) H (OO (ei A p) ρ σ) H':=fun b u n e=>by
  refine⟨fun z=>?_,g _ _ e⟩
  rcases z with (z|z)|z
  .exact n (.inl z)
  .rw [z,h] at e;cases e
  .exact n (.inr z)
 refine⟨R.len,fun i q e=>?_,R.dj,fun b z=>?_,fun b z w=>?_⟩
 .obtain⟨v,s,r⟩:=R.get i q e;refine⟨v,s,r.keeps k fun ow a ea=>?_⟩;obtain⟨a',u,e1,e2⟩:=r.ref ow;rw [ea] at e1;cases e1;rw [e2];exact g _ _ e2
 .rcases z with z|z
  .exact (g.fr (ρ:=ρ) (σ:=σ)).dm b (R.dom b z)
  .rw [z];exact h'
 .rcases z with z|z
  .exact R.sep b z w
  .exact R.wr w (by rw [z];exact h)
def ny(K:PySem.W.Frag)(O:Addr->Prop)(H0 H:Hp):PV->V->Prop
 | .dat d,v=>FV K O H v d
 | .own ds,v=>∃a xs,v=.ref a/\H0 a=none/\H a=some (.lst xs)/\FVs K (ei O a) H xs ds
 | .ins c ns ds,v=>∃a dx fs,v=.ref a/\H0 a=none/\H a=some (.ins (lw K c) dx fs)/\fs.map Prod.fst=ns/\FVs K (ei O a) H (fs.map Prod.snd) ds
theorem ny.out{p:PV}{v:V}(R:Rel K A ρ σ H)(g:Gr H H')(h:ny K (OO A ρ σ) H H' p v):Out K A ρ σ H H' p v:=by
 cases p with
 | dat d=>exact⟨R.gr g,h⟩
 | own ds =>
  obtain⟨a,xs,rfl,e0,e,f⟩:=h;refine⟨a,xs,rfl,fun z=>R.dom a z e0,e0,e,R.grA g e0 (by rw [e];exact nofun),f.keeps (aM.less fun b z=>?_)⟩
  rcases z with (z|z)|z
  .exact .inl (.inl z)
  .exact .inr z
  .exact .inl (.inr z)
 | ins c ns ds =>
  obtain⟨a,dx,fs,rfl,e0,e,m,f⟩:=h;refine⟨a,dx,fs,rfl,fun z=>R.dom a z e0,e0,e,m,R.grA g e0 (by rw [e];exact nofun),f.keeps (aM.less fun b z=>?_)⟩
  rcases z with (z|z)|z
  .exact .inl (.inl z)
  .exact .inr z
  .exact .inl (.inr z)
def FVc(K:PySem.W.Frag)(O:Addr->Prop)(H:Hp)(v:V)(d:D):Prop:=FV K O H v d\/(∃a xs ds,v=.ref a/\d=.lst ds/\H a=some (.lst xs)/\FVs K O H xs ds) \/
 ∃a dx c fs ns ds,v=.ref a/\d=.obj c ns ds/\H a=some (.ins (lw K c) dx fs)/\fs.map Prod.fst=ns/\FVs K O H (fs.map Prod.snd) ds
def cont(ρ:PSt):AV->Option D
 | .v d=>some d
 | .sl i=>match ρ[i]? with|some (some p)=>some p.d|_=>none
theorem Rel.cont{av:AV}{v:V}{d:D}(R:Rel K A ρ σ H)(h:AOk K (OO A ρ σ) σ H av v)(e:L2.cont ρ av=some d):FVc K (OO A ρ σ) H v d:=by
 cases av with
 | v d'=>cases e;exact .inl h
 | sl i =>
  have h:σ[i]?=some (some v):=h;simp only [L2.cont] at e
  split at e
  .rename_i p ep;cases e;obtain⟨v',s,r⟩:=R.get i p ep;rw [h] at s;cases s
   cases p with
   | dat d=>exact .inl r
   | own ds=>obtain⟨a,xs,e1,e2,f⟩:=r;exact .inr (.inl ⟨a,xs,ds,e1,rfl,e2,f⟩)
   | ins c ns ds=>obtain⟨a,dx,fs,e1,e2,m,f⟩:=r;exact .inr (.inr ⟨a,dx,c,fs,ns,ds,e1,rfl,e2,m,f⟩)
  .cases e
theorem FVc.lst{v:V}{ds:List D}(h:FVc K O H v (.lst ds)):∃a xs,v=.ref a/\H a=some (.lst xs)/\FVs K O H xs ds:=by
 rcases h with h|⟨a,xs,ds',e1,e2,e3,f⟩|⟨a,dx,c,fs,ns,ds',e1,e2,_⟩
 .cases h with
  | lst n s f=>exact⟨_,_,rfl,s,f⟩
 .cases e2;exact⟨a,xs,e1,e3,f⟩
 .cases e2
theorem FVc.fv{v:V}{d:D}(h:FVc K O H v d)(n:∀ds,d≠.lst ds)(n':∀c ns ds,d≠.obj c ns ds):FV K O H v d:=by
 rcases h with h|⟨a,xs,ds',e1,e2,e3,f⟩|⟨a,dx,c,fs,ns,ds',e1,e2,_⟩
 .exact h
 .exact absurd e2 (n _)
 .exact absurd e2 (n' _ _ _)
theorem FVc.tup{v:V}{ds:List D}(h:FVc K O H v (.tup ds)):∃a xs,v=.ref a/\¬ O a/\H a=some (.tup xs)/\FVs K O H xs ds:=by
 cases h.fv nofun nofun with
 | tup n s f=>exact⟨_,_,rfl,n,s,f⟩
theorem FVc.scr{v:V}{ns:List Int}(h:FVc K O H v (.scr ns)):∃a,v=.ref a/\SqL K H a (ns.map V.int):=by
 cases h.fv nofun nofun with
 | scr s=>exact⟨_,rfl,s.sq⟩
theorem FVc.int{v:V}{i:Int}(h:FVc K O H v (.int i)):v=.int i:=by cases h.fv nofun nofun;rfl
theorem FVc.str{v:V}{i:List Nat}(h:FVc K O H v (.str i)):v=.str (S i)/\i.length<=1000000:=by
 cases h.fv nofun nofun with
 | str _ z=>exact⟨rfl,z⟩
end
def pC(d:D):PTE:=fun ρ Q=>Q (.dat d) ρ
def cf(i:Nat):PTE:=fun ρ Q=>match ρ[i]? with
 | some (some (.dat d))=>Q (.dat d) ρ
 | some (some (.own ds))=>Q (.dat (.lst ds)) (ρ.set i (some (.dat (.lst ds))))
 | some (some (.ins c ns ds))=>Q (.dat (.obj c ns ds)) (ρ.set i (some (.dat (.obj c ns ds))))
 | _=>False
def pSl(i:Nat):PA1:=fun ρ Q=>match ρ[i]? with
 | some (some (.dat d))=>Q (.v d) ρ
 | some (some (.own _))=>Q (.sl i) ρ
 | some (some (.ins _ _ _))=>Q (.sl i) ρ
 | _=>False
def pFz(pe:PTE):PA1:=fun ρ Q=>pe ρ fun p ρ1=>Q (.v p.d) ρ1
def ap:PTA:=fun ρ Q=>Q [] ρ
def af(pa:PA1)(pr:PTA):PTA:=fun ρ Q=>pa ρ fun a ρ1=>pr ρ1 fun as ρ2=>Q (a::as) ρ2
section
variable {K:PySem.W.Frag}{ta tb tc:TE}{pa pb pc:PA1}{pe pe':PTE}{tr:TA}{pr:PTA}
theorem xc{v:V}{d:D}(h:∀O H,FV K O H v d):LE K (tC v) (pC d):=fun A ρ σ H Q Q' R q k=>k v H (.dat d) ρ q (Fr.refl _ _ _) ⟨R,h _ _⟩
theorem le_int{i:Int}:LE K (tC (.int i)) (pC (.int i)):=xc fun _ _=>.int i
theorem eR{i:Bool}:LE K (tC (.bl i)) (pC (.bl i)):=xc fun _ _=>.bl i
theorem le_str{l:List Nat}(h:l.length<=1000000:=by decide):LE K (tC (.str (S l))) (pC (.str l)):=xc fun _ _=>.str l h
theorem aw{i:Nat}:LE K (dB i) (cf i):=by
 intro A ρ σ H Q Q' R q k;unfold cf at q
 split at q
 .rename_i d e;obtain⟨v,s,r⟩:=R.get i _ e;exact⟨v,s,k v H (.dat d) ρ q (Fr.refl _ _ _) ⟨R,r⟩⟩
 .rename_i ds e;obtain⟨R',f⟩:=R.frz e;obtain⟨v,s,r⟩:=R'.get i _ (getElem?_set_self (List.getElem?_eq_some_iff.mp e).1);exact⟨v,s,k v H (.dat (.lst ds)) _ q f ⟨R',r⟩⟩
 .rename_i c ns ds e;obtain⟨R',f⟩:=R.frz e;obtain⟨v,s,r⟩:=R'.get i _ (getElem?_set_self (List.getElem?_eq_some_iff.mp e).1);exact⟨v,s,k v H (.dat (.obj c ns ds)) _ q f ⟨R',r⟩⟩
 .exact q.elim
theorem ag{i:Nat}:LA1 K (dB i) (pSl i):=by
 intro A ρ σ H Q Q' R q k;unfold pSl at q
 split at q
 .rename_i d e;obtain⟨v,s,r⟩:=R.get i _ e;exact⟨v,s,k v H _ ρ q (Fr.refl _ _ _) R r⟩
 .rename_i e;obtain⟨v,s,r⟩:=R.get i _ e;exact⟨v,s,k v H _ ρ q (Fr.refl _ _ _) R s⟩
 .rename_i e;obtain⟨v,s,r⟩:=R.get i _ e;exact⟨v,s,k v H _ ρ q (Fr.refl _ _ _) R s⟩
 .exact q.elim
theorem ac(h:LE K ta pe):LA1 K ta (pFz pe):=fun A ρ σ H Q Q' R q k=>h A ρ σ H _ Q' R q fun v H' p ρ' q f o=>k v H' _ ρ' q f o.frz.1 o.frz.2
theorem ae:LAs K md ap:=fun A ρ σ H Q Q' R q k=>k [] H [] ρ q (Fr.refl _ _ _) R .nil
theorem aa(h:LA1 K ta pa)(hr:LAs K tr pr):LAs K (cX ta tr) (af pa pr):=fun A ρ σ H Q Q' R q k =>
 h A ρ σ H _ _ R q fun v H1 a ρ1 q1 f1 R1 o1=>hr A ρ1 σ H1 _ _ R1 q1 fun vs H2 as ρ2 q2 f2 R2 o2=>k _ H2 _ ρ2 q2 (f1.trans f2) R2 (.cons (o1.keeps f2.keeps) o2)
def LO(K:PySem.W.Frag)(r:R2)(f:D->D->(PV->Prop)->Prop):Prop:=∀(O:Addr->Prop) (H:Hp) (x y:V) (a b:D) (Q:PV->Prop) (Q':VK),(∀b,O b->H b≠none)->FVc K O H x a->FVc K O H y b->f a b Q ->
 (∀v H' p,Q p->Gr H H'->ny K O H H' p v->Q' v H')->r x y H Q'
def op2(f:D->D->(PV->Prop)->Prop)(ρ:PSt)(x y:AV)(Q:PKt):Prop:=match cont ρ x,cont ρ y with
 | some a,some b=>f a b fun p=>Q p ρ
 | _,_=>False
def pOp(f:D->D->(PV->Prop)->Prop)(pa pb:PA1):PTE:=fun ρ Q=>pa ρ fun x ρ1=>pb ρ1 fun y ρ2=>op2 f ρ2 x y Q
theorem Rel.dom2{A:Addr->Prop}{ρ:PSt}{σ:St}{H:Hp}(R:Rel K A ρ σ H):∀b,OO A ρ σ b->H b≠none:=fun b z=>z.elim (R.dom b) R.wr
theorem aj{r:R2}{f:D->D->(PV->Prop)->Prop}(o:LO K r f)(ha:LA1 K ta pa)(hb:LA1 K tb pb):LE K (tOp r ta tb) (pOp f pa pb):=fun A ρ σ H Q Q' R q k =>
 ha A ρ σ H _ _ R q fun v H1 a ρ1 q1 f1 R1 o1=>hb A ρ1 σ H1 _ _ R1 q1 fun w H2 b ρ2 q2 f2 R2 o2=>by
  unfold op2 at q2
  split at q2
  .rename_i da db e1 e2;exact o _ H2 v w da db _ _ R2.dom2 (R2.cont (o1.keeps f2.keeps) e1) (R2.cont o2 e2) q2 fun z H3 p q3 g ov=>k z H3 p ρ2 q3 ((f1.trans f2).trans g.fr) ((ov.out R2 g).h0 fun b z=>f2.dm b (f1.dm b z))
  .exact q2.elim
def LU(K:PySem.W.Frag)(r:V->Hp->VK->Prop)(f:D->(PV->Prop)->Prop):Prop:=∀(O:Addr->Prop) (H:Hp) (x:V) (a:D) (Q:PV->Prop) (Q':VK),(∀b,O b->H b≠none)->FVc K O H x a->f a Q ->
 (∀v H' p,Q p->Gr H H'->ny K O H H' p v->Q' v H')->r x H Q'
def op1(f:D->(PV->Prop)->Prop)(ρ:PSt)(x:AV)(Q:PKt):Prop:=match cont ρ x with
 | some a=>f a fun p=>Q p ρ
 | _=>False
def pUn(f:D->(PV->Prop)->Prop)(pa:PA1):PTE:=fun ρ Q=>pa ρ fun x ρ1=>op1 f ρ1 x Q
theorem lx{r:V->Hp->VK->Prop}{f:D->(PV->Prop)->Prop}(o:LU K r f)(ha:LA1 K ta pa):LE K (tUn r ta) (pUn f pa):=fun A ρ σ H Q Q' R q k =>
 ha A ρ σ H _ _ R q fun v H1 a ρ1 q1 f1 R1 o1=>by
  unfold op1 at q1
  split at q1
  .rename_i da e1;exact o _ H1 v da _ _ R1.dom2 (R1.cont o1 e1) q1 fun z H3 p q3 g ov=>k z H3 p ρ1 q3 (f1.trans g.fr) ((ov.out R1 g).h0 fun b z=>f1.dm b z)
  .exact q1.elim
inductive vz (K:PySem.W.Frag) (O:Addr->Prop) (H:Hp):List V->List D->Prop
 | nil:vz K O H [] []
 | cons {x:V}{d:D}{xs:List V}{ds:List D}:FVc K O H x d->vz K O H xs ds->vz K O H (x::xs) (d::ds)
def conts(ρ:PSt):List AV->Option (List D)
 | []=>some []
 | a::r=>match cont ρ a,conts ρ r with
  | some d,some ds=>some (d::ds)
  | _,_=>none
theorem Rel.conts{A:Addr->Prop}{ρ:PSt}{σ:St}{H:Hp}(R:Rel K A ρ σ H):∀{as:List AV}{vs:List V}{ds:List D},sV K (OO A ρ σ) σ H as vs->L2.conts ρ as=some ds->vz K (OO A ρ σ) H vs ds
 | _,_,_,.nil,e=>by cases e;exact .nil
 | _,_,_,.cons a b,e=>by
  unfold L2.conts at e
  split at e
  .rename_i e1 e2;cases e;exact .cons (R.cont a e1) (R.conts b e2)
  .cases e
def LC(K:PySem.W.Frag)(r:List V->Hp->VK->Prop)(f:List D->(PV->Prop)->Prop):Prop:=∀(O:Addr->Prop) (H:Hp) (xs:List V) (as:List D) (Q:PV->Prop) (Q':VK),(∀b,O b->H b≠none)->vz K O H xs as->f as Q ->
 (∀v H' p,Q p->Gr H H'->ny K O H H' p v->Q' v H')->r xs H Q'
def opN(f:List D->(PV->Prop)->Prop)(ρ:PSt)(as:List AV)(Q:PKt):Prop:=match conts ρ as with
 | some ds=>f ds fun p=>Q p ρ
 | _=>False
def pCB(f:List D->(PV->Prop)->Prop)(pr:PTA):PTE:=fun ρ Q=>pr ρ fun as ρ1=>opN f ρ1 as Q
theorem bp{r:List V->Hp->VK->Prop}{f:List D->(PV->Prop)->Prop}(o:LC K r f)(ha:LAs K tr pr):LE K (tCB r tr) (pCB f pr):=fun A ρ σ H Q Q' R q k =>
 ha A ρ σ H _ _ R q fun vs H1 as ρ1 q1 f1 R1 o1=>by
  unfold opN at q1
  split at q1
  .rename_i ds e1;exact o _ H1 vs ds _ _ R1.dom2 (R1.conts o1 e1) q1 fun z H3 p q3 g ov=>k z H3 p ρ1 q3 (f1.trans g.fr) ((ov.out R1 g).h0 fun b z=>f1.dm b z)
  .exact q1.elim
def avD:List AV->Option (List D)
 | []=>some []
 | .v d::r=>match avD r with|some ds=>some (d::ds)|none=>none
 | .sl _::_=>none
theorem sV.avD{O:Addr->Prop}{σ:St}{H:Hp}:∀{as:List AV}{vs:List V}{ds:List D},sV K O σ H as vs->L2.avD as=some ds->FVs K O H vs ds
 | _,_,_,.nil,e=>by cases e;exact .nil
 | .v d::r,_,_,.cons a b,e=>by
  simp only [L2.avD] at e
  split at e
  .rename_i e1;cases e;exact .cons a (b.avD e1)
  .cases e
 | .sl i::r,_,_,.cons a b,e=>by cases e
def mn(pr:PTA):PTE:=fun ρ Q=>pr ρ fun as ρ1=>match avD as with
 | some ds=>ds.length<=1000000/\Q (.own ds) ρ1
 | _=>False
def yj(pr:PTA):PTE:=fun ρ Q=>pr ρ fun as ρ1=>match avD as with
 | some ds=>ds.length<=1000000/\Q (.dat (.tup ds)) ρ1
 | _=>False
theorem dH(ha:LAs K tr pr):LE K (xX tr) (mn pr):=fun A ρ σ H Q Q' R q k =>
 ha A ρ σ H _ _ R q fun vs H1 as ρ1 q1 f1 R1 o1=>by
  split at q1
  .rename_i ds e1;have fs:=o1.avD e1;refine⟨sz _ (by rw [fs.length];exact q1.1),fun p hp=>k _ _ (.own ds) ρ1 q1.2 (f1.trans (Fr.new hp)) ?_⟩;have g:Gr H1 (upd H1 p (.lst vs)):=Gr.new hp;exact (ny.out (p:=.own ds) R1 g ⟨p,vs,rfl,hp,aT,fs.keeps (aM.fresh hp)⟩).h0 fun b z=>f1.dm b z
  .exact q1.elim
theorem vA(ha:LAs K tr pr):LE K (xW tr) (yj pr):=fun A ρ σ H Q Q' R q k =>
 ha A ρ σ H _ _ R q fun vs H1 as ρ1 q1 f1 R1 o1=>by
  split at q1
  .rename_i ds e1;have fs:=o1.avD e1;refine⟨sz _ (by rw [fs.length];exact q1.1),fun p hp=>k _ _ (.dat (.tup ds)) ρ1 q1.2 (f1.trans (Fr.new hp)) ⟨R1.grow hp,?_⟩⟩;exact .tup (R1.oo hp) aT (fs.keeps (Fr.new hp).keeps)
  .exact q1.elim
def pB(pe:PTE):PTT:=fun ρ Q=>pe ρ fun p ρ1=>match p with
 | .dat (.bl b)=>Q b ρ1
 | _=>False
theorem sW(h:LE K ta pe):LT K (tB ta) (pB pe):=fun A ρ σ H Q Q' R q k=>h A ρ σ H _ _ R q fun v H1 p ρ1 q1 f1 o1=>by
 split at q1
 .rename_i b;obtain⟨R1,f⟩:=o1;cases f;exact⟨b,rfl,k b H1 ρ1 q1 f1 R1⟩
 .exact q1.elim
theorem er(h:LE K ta pe):LT K (m5 ta) (pB pe):=sW h
def vB(a b:PTT):PTT:=fun ρ Q=>a ρ fun c ρ1=>gj c (b ρ1 Q) (Q false ρ1)
def pOr(a b:PTT):PTT:=fun ρ Q=>a ρ fun c ρ1=>gj c (Q true ρ1) (b ρ1 Q)
def ug(a:PTT):PTT:=fun ρ Q=>a ρ fun c ρ1=>Q (!c) ρ1
variable {tta ttb:TT}{pta ptb:PTT}
theorem mq(ha:LT K tta pta)(hb:LT K ttb ptb):LT K (xP tta ttb) (vB pta ptb):=fun A ρ σ H Q Q' R q k=>ha A ρ σ H _ _ R q fun c H1 ρ1 q1 f1 R1=>by
 cases c with
 | true=>exact hb A ρ1 σ H1 _ _ R1 q1 fun b H2 ρ2 q2 f2 R2=>k b H2 ρ2 q2 (f1.trans f2) R2
 | false=>exact k false H1 ρ1 q1 f1 R1
theorem ki(ha:LT K tta pta)(hb:LT K ttb ptb):LT K (tOr tta ttb) (pOr pta ptb):=fun A ρ σ H Q Q' R q k=>ha A ρ σ H _ _ R q fun c H1 ρ1 q1 f1 R1=>by
 cases c with
 | false=>exact hb A ρ1 σ H1 _ _ R1 q1 fun b H2 ρ2 q2 f2 R2=>k b H2 ρ2 q2 (f1.trans f2) R2
 | true=>exact k true H1 ρ1 q1 f1 R1
theorem kj(ha:LT K tta pta):LT K (wF tta) (ug pta):=fun A ρ σ H Q Q' R q k=>ha A ρ σ H _ _ R q fun c H1 ρ1 q1 f1 R1=>k _ H1 ρ1 q1 f1 R1
def qE(a b:PTE):PTE:=fun ρ Q=>a ρ fun p ρ1=>match p with
 | .dat (.bl c)=>gj c (b ρ1 Q) (Q (.dat (.bl false)) ρ1)
 | _=>False
def vC(a:PTE):PTE:=fun ρ Q=>a ρ fun p ρ1=>match p with
 | .dat (.bl c)=>Q (.dat (.bl (!c))) ρ1
 | _=>False
theorem oW(ha:LE K ta pe)(hb:LE K tb pe'):LE K (uB ta tb) (qE pe pe'):=fun A ρ σ H Q Q' R q k=>ha A ρ σ H _ _ R q fun v H1 p ρ1 q1 f1 o1=>by
 split at q1
 .rename_i c;obtain⟨R1,f⟩:=o1;cases f;refine⟨c,rfl,?_⟩
  cases c with
  | true=>exact hb A ρ1 σ H1 _ _ R1 q1 fun b H2 p2 ρ2 q2 f2 o2=>k b H2 p2 ρ2 q2 (f1.trans f2) (o2.h0 fun b z=>f1.dm b z)
  | false=>exact k _ H1 _ ρ1 q1 f1 ⟨R1,.bl false⟩
 .exact q1.elim
theorem vD(ha:LE K ta pe):LE K (uC ta) (vC pe):=fun A ρ σ H Q Q' R q k=>ha A ρ σ H _ _ R q fun v H1 p ρ1 q1 f1 o1=>by
 split at q1
 .rename_i c;obtain⟨R1,f⟩:=o1;cases f;exact⟨c,rfl,k _ H1 _ ρ1 q1 f1 ⟨R1,.bl (!c)⟩⟩
 .exact q1.elim
end
abbrev F2:=D->D->(PV->Prop)->Prop
def fI0(g:Int->Int->D):F2
 | .int i,.int j,Q=>Q (.dat (g i j))
 | _,_,_=>False
def fI(C:Int->Int->Prop)(g:Int->Int->D):F2
 | .int i,.int j,Q=>C i j/\Q (.dat (g i j))
 | _,_,_=>False
section
variable {K:PySem.W.Frag}{X:Cx}
theorem sX{g:Int->Int->V}{g':Int->Int->D}(h:∀i j O H,FV K O H (g i j) (g' i j)):LO K (rI0 g) (fI0 g'):=by
 intro O H x y a b Q Q' dom fx fy q k;unfold fI0 at q
 split at q
 .rename_i i j;exact⟨i,j,fx.int,fy.int,k _ H _ q (Gr.refl _) (h i j _ _)⟩
 .exact q.elim
theorem xf{C:Int->Int->Prop}{g:Int->Int->V}{g':Int->Int->D}(h:∀i j O H,FV K O H (g i j) (g' i j)):LO K (rI C g) (fI C g'):=by
 intro O H x y a b Q Q' dom fx fy q k;unfold fI at q
 split at q
 .rename_i i j;exact⟨i,j,fx.int,fy.int,q.1,k _ H _ q.2 (Gr.refl _) (h i j _ _)⟩
 .exact q.elim
theorem dz{O:Addr->Prop}{H:Hp}{xs:List V}{ds:List D}{p:Addr}(hp:H p=none)(f:FVs K O H xs ds):ny K O H (upd H p (.lst xs)) (.own ds) (.ref p) :=
 ⟨p,xs,rfl,hp,aT,f.keeps (aM.fresh hp)⟩
theorem jn{O:Addr->Prop}{H:Hp}{xs:List V}{ds:List D}{p:Addr}(dom:∀b,O b->H b≠none)(hp:H p=none)(f:FVs K O H xs ds):ny K O H (upd H p (.tup xs)) (.dat (.tup ds)) (.ref p) :=
 .tup (fun z=>dom p z hp) aT (f.keeps fun b o n e=>⟨n,by rw [au (aQ e hp)];exact e⟩)
def xg:R2:=fun x y H Q=>∃i j,x=.str (S i)/\y=.str (S j)/\i.length+j.length<=sizeLine/\Q (.str (S (i++j))) H
def sY(K:PySem.W.Frag):R2:=fun x y H Q=>rI0 (fun i j=>.int (i+j)) x y H Q\/xg x y H Q\/vv K x y H Q\/uV K x y H Q
theorem xh(K:PySem.W.Frag)(e:X.K=K):OpR X (binaryOp .Add) (sY K):=by
 subst e;exact OpR.or uK (OpR.or sF (OpR.or sO su))
def xi:F2
 | .int i,.int j,Q=>Q (.dat (.int (i+j)))
 | .str a,.str b,Q=>a.length+b.length<=1000000/\Q (.dat (.str (a++b)))
 | .lst a,.lst b,Q=>a.length+b.length<=1000000/\Q (.own (a++b))
 | .scr a,.lst b,Q=>a.length+b.length<=1000000/\Q (.own (a.map .int++b))
 | .tup a,.tup b,Q=>a≠[]/\a.length+b.length<=1000000/\Q (.dat (.tup (a++b)))
 | _,_,_=>False
theorem rA:LO K (sY K) xi:=by
 intro O H x y a b Q Q' dom fx fy q k;unfold xi at q
 split at q
 .rename_i i j;exact .inl ⟨i,j,fx.int,fy.int,k _ H _ q (Gr.refl _) (.int _)⟩
 .rename_i i j;exact .inr (.inl ⟨i,j,fx.str.1,fy.str.1,sz _ q.1,k _ H _ q.2 (Gr.refl _) (.str _ (by rw [length_append];exact q.1))⟩)
 .rename_i i j;obtain⟨a,xs,rfl,e1,f1⟩:=fx.lst;obtain⟨b,ys,rfl,e2,f2⟩:=fy.lst;exact .inr (.inr (.inl ⟨a,b,xs,ys,rfl,rfl,SqL.of e1,SqL.of e2,sz _ (by rw [f1.length,f2.length];exact q.1),fun p hp=>k _ _ _ q.2 (Gr.new hp) (dz hp (f1.append f2))⟩))
 .rename_i i j;obtain⟨a,rfl,e1⟩:=fx.scr;obtain⟨b,ys,rfl,e2,f2⟩:=fy.lst;exact .inr (.inr (.inl ⟨a,b,_,ys,rfl,rfl,e1,SqL.of e2,sz _ (by rw [length_map,f2.length];exact q.1),fun p hp=>k _ _ _ q.2 (Gr.new hp) (dz hp ((FVs.of_ints i).append f2))⟩))
 .rename_i i j;obtain⟨a,xs,rfl,n1,e1,f1⟩:=fx.tup;obtain⟨b,ys,rfl,n2,e2,f2⟩:=fy.tup;have l1:=f1.length;have l2:=f2.length
  refine .inr (.inr (.inr ⟨a,b,xs,ys,rfl,rfl,SqT.of e1,SqT.of e2,fun z=>q.1 ?_,sz _ (by rw [l1,l2];exact q.2.1),fun z=>?_,fun _ p hp=>k _ _ _ q.2.2 (Gr.new hp) (jn dom hp (f1.append f2))⟩))
  .exact length_eq_zero_iff.mp (by rw [<- l1,z];rfl)
  .have:j=[]:=length_eq_zero_iff.mp (by rw [<- l2,z];rfl);subst this;exact k _ H _ q.2.2 (Gr.refl _) (by rw [append_nil];exact .tup n1 e1 f1)
 .exact q.elim
theorem c8:LO K (rI0 fun i j=>.int (i - j)) (fI0 fun i j=>.int (i - j)):=sX fun _ _ _ _=>.int _
theorem bZ:LO K (rI (fun _ j=>0<j) fun i j=>.int (i % j)) (fI (fun _ j=>0<j) fun i j=>.int (i % j)):=xf fun _ _ _ _=>.int _
theorem oX:LO K (rI wH fun i j=>.int (i / j)) (fI (fun _ j=>0<j/\j<1073741824) fun i j=>.int (i / j)):=xf fun _ _ _ _=>.int _
theorem rB:LO K (rI wI fun i j=>.int (i^j.toNat)) (fI (fun i j=>0<=j/\j<=1000000/\i.natAbs<2^64) fun i j=>.int (i^j.toNat)):=xf fun _ _ _ _=>.int _
def xj:R2:=fun x y H Q=>∃l n,x=.str (S l)/\y=.int n/\-1000000<=n/\n<=1000000/\n.toNat*l.length<=sizeLine/\Q (.str (S (mh l n))) H
def sZ:R2:=fun x y H Q=>rI ww (fun i j=>.int (i*j)) x y H Q\/xj x y H Q\/x9 x y H Q
theorem jo:OpR X (binaryOp .Mult) sZ:=OpR.or uN (OpR.or nk u5)
def oY:F2
 | .int i,.int j,Q=>((-(2^64)<i/\i<2^64)\/(-(2^64)<j/\j<2^64))/\Q (.dat (.int (i*j)))
 | .str a,.int n,Q=>(-1000000<=n/\n<=1000000/\n.toNat*a.length<=1000000)/\Q (.dat (.str (mh a n)))
 | .lst a,.int n,Q=>(-1000000<=n/\n<=1000000/\a.length*n.toNat<=1000000)/\Q (.own (mh a n))
 | _,_,_=>False
theorem FVs.rep{O:Addr->Prop}{H:Hp}{xs:List V}{ds:List D}(f:FVs K O H xs ds):∀n,FVs K O H (List.replicate n xs).flatten (List.replicate n ds).flatten
 | 0=>.nil
 | n+1=>by rw [replicate_succ,replicate_succ,flatten_cons,flatten_cons];exact f.append (f.rep n)
theorem fq:LO K sZ oY:=by
 intro O H x y a b Q Q' dom fx fy q k;unfold oY at q
 split at q
 .rename_i i j;exact .inl ⟨i,j,fx.int,fy.int,q.1,k _ H _ q.2 (Gr.refl _) (.int _)⟩
 .rename_i i j;exact .inr (.inl ⟨i,j,fx.str.1,fy.int,q.1.1,q.1.2.1,sz _ q.1.2.2,k _ H _ q.2 (Gr.refl _) (.str _ (by rw [gY];exact q.1.2.2))⟩)
 .rename_i i j;obtain⟨a,xs,rfl,e1,f1⟩:=fx.lst;exact .inr (.inr ⟨a,j,xs,rfl,fy.int,e1,by omega,by omega,sz _ (by rw [f1.length];exact q.1.2.2),fun p hp=>k _ _ _ q.2 (Gr.new hp) (dz hp (f1.rep _))⟩)
 .exact q.elim
def xk:R2:=fun x y H Q=>rI0 (fun i j=>.bl (decide (i<j))) x y H Q\/∃i j,x=.str i/\y=.str j/\Q (.bl (decide (i.cps.toList<j.cps.toList))) H
def wy:R2:=fun x y H Q=>rI0 (fun i j=>.bl (decide (i<=j))) x y H Q\/∃i j,x=.str i/\y=.str j/\Q (.bl (!decide (j.cps.toList<i.cps.toList))) H
theorem vE:OpR X (compareOp .Lt) xk:=OpR.or wL nZ
theorem qc:OpR X (compareOp .LtE) wy:=OpR.or wM oA
def fLt:F2
 | .int i,.int j,Q=>Q (.dat (.bl (decide (i<j))))
 | .str i,.str j,Q=>Q (.dat (.bl (decide (i<j))))
 | _,_,_=>False
def fLe:F2
 | .int i,.int j,Q=>Q (.dat (.bl (decide (i<=j))))
 | .str i,.str j,Q=>Q (.dat (.bl (!decide (j<i))))
 | _,_,_=>False
theorem oZ:LO K xk fLt:=by
 intro O H x y a b Q Q' dom fx fy q k;unfold fLt at q
 split at q
 .rename_i i j;exact .inl ⟨i,j,fx.int,fy.int,k _ H _ q (Gr.refl _) (.bl _)⟩
 .rename_i i j;exact .inr ⟨_,_,fx.str.1,fy.str.1,k _ H _ q (Gr.refl _) (.bl _)⟩
 .exact q.elim
theorem iA:LO K wy fLe:=by
 intro O H x y a b Q Q' dom fx fy q k;unfold fLe at q
 split at q
 .rename_i i j;exact .inl ⟨i,j,fx.int,fy.int,k _ H _ q (Gr.refl _) (.bl _)⟩
 .rename_i i j;exact .inr ⟨_,_,fx.str.1,fy.str.1,k _ H _ q (Gr.refl _) (.bl _)⟩
 .exact q.elim
theorem nA:LO K (rI0 fun i j=>.bl (decide (j<i))) (fI0 fun i j=>.bl (decide (j<i))):=sX fun _ _ _ _=>.bl _
theorem xl:LO K (rI0 fun i j=>.bl (decide (j<=i))) (fI0 fun i j=>.bl (decide (j<=i))):=sX fun _ _ _ _=>.bl _
mutual
def D.py:D->PyData
 | .non=>.none|.bl b=>.bool b|.int i=>.int i|.str l=>.str (S l)|.ty _=>.none
 | .lst ds=>.list (D.pys ds)|.tup ds=>.tuple (D.pys ds)|.scr ns=>.list (ns.map .int)|.dic _ _=>.none|.obj _ _ _=>.none|.exc _ _ _=>.none
def D.pys:List D->List PyData
 | []=>[]
 | d::r=>d.py::D.pys r
end
mutual
def D.plain:D->Bool
 | .non=>true|.bl _=>true|.int _=>true|.str _=>true|.ty _=>false
 | .lst ds=>D.plains ds|.tup ds=>D.plains ds|.scr _=>true|.dic _ _=>false|.obj _ _ _=>false|.exc _ _ _=>false
def D.plains:List D->Bool
 | []=>true
 | d::r=>d.plain && D.plains r
end
mutual
theorem FV.dv{O:Addr->Prop}{H:Hp}:∀{v:V}{d:D},FV K O H v d->d.plain=true->DV K H v d.py
 | _,_,.non,_=>.non
 | _,_,.bl b,_=>.bl b
 | _,_,.int i,_=>.int i
 | _,_,.str l h,_=>.str (S l)
 | _,_,.ty n,p=>nomatch p
 | _,_,.scr s,_=>.lst s.sq (DVs.ints _)
 | _,_,.lst n e f,p=>.lst (SqL.of e) (FVs.dvs f p)
 | _,_,.tup n e f,p=>.tup (SqT.of e) (FVs.dvs f p)
 | _,_,.dic _ _ _ _,p=>nomatch p
 | _,_,.obj _ _ _ _,p=>nomatch p
 | _,_,.exc0 _ _,p=>nomatch p
 | _,_,.exc1 _ _ _ _ _ _,p=>nomatch p
theorem FVs.dvs{O:Addr->Prop}{H:Hp}:∀{vs:List V}{ds:List D},FVs K O H vs ds->D.plains ds=true->DVs K H vs (D.pys ds)
 | _,_,.nil,_=>.nil
 | _,_,.cons a b,p=>by
  have p:(_ && _)=true:=p;rw [and_eq_true] at p;exact .cons (FV.dv a p.1) (FVs.dvs b p.2)
end
theorem FVc.dv{O:Addr->Prop}{H:Hp}{v:V}{d:D}(h:FVc K O H v d)(p:d.plain=true):DV K H v d.py:=by
 rcases h with h|⟨a,xs,ds',rfl,rfl,e3,f⟩|⟨a,dx,c,fs,ns,ds',e1,rfl,_⟩
 .exact h.dv p
 .exact .lst (SqL.of e3) (f.dvs p)
 .cases p
def vF(K:PySem.W.Frag)(neg:Bool):R2:=fun x y H Q=>rI0 (fun i j=>.bl (if neg then !decide (i=j) else decide (i=j))) x y H Q\/(∃i j,x=.str (S i)/\y=.str (S j)/\Q (.bl (if neg then !decide (i=j) else decide (i=j))) H)\/wU K neg x y H Q
theorem yI(K:PySem.W.Frag)(e:X.K=K)(hu:X.A.units+64<cLine):OpR X (compareOp .Eq) (vF K false):=by
 subst e;exact OpR.or vj (OpR.or vh (ve hu))
theorem yJ(K:PySem.W.Frag)(e:X.K=K)(hu:X.A.units+64<cLine):OpR X (compareOp .NotEq) (vF K true):=by
 subst e;exact OpR.or vk (OpR.or vi (vf hu))
def mr(a b:D):Prop:=a.plain=true/\b.plain=true/\SeqAt.shaped a.py=true/\SeqAt.shaped b.py=true
def deq(a b:D):Bool:=PyData.eqv a.py b.py
def fEq:F2
 | .int i,.int j,Q=>Q (.dat (.bl (decide (i=j))))
 | .str i,.str j,Q=>Q (.dat (.bl (decide (i=j))))
 | a,b,Q=>mr a b/\Q (.dat (.bl (deq a b)))
def fNe:F2
 | .int i,.int j,Q=>Q (.dat (.bl (!decide (i=j))))
 | .str i,.str j,Q=>Q (.dat (.bl (!decide (i=j))))
 | a,b,Q=>mr a b/\Q (.dat (.bl (!deq a b)))
theorem xm:LO K (vF K false) fEq:=by
 intro O H x y a b Q Q' dom fx fy q k;unfold fEq at q
 split at q
 .rename_i i j;exact .inl ⟨i,j,fx.int,fy.int,k _ H _ q (Gr.refl _) (.bl _)⟩
 .rename_i i j;exact .inr (.inl ⟨i,j,fx.str.1,fy.str.1,k _ H _ q (Gr.refl _) (.bl _)⟩)
 .exact .inr (.inr ⟨_,_,fx.dv q.1.1,fy.dv q.1.2.1,q.1.2.2.1,q.1.2.2.2,k _ H _ q.2 (Gr.refl _) (.bl _)⟩)
theorem xn:LO K (vF K true) fNe:=by
 intro O H x y a b Q Q' dom fx fy q k;unfold fNe at q
 split at q
 .rename_i i j;exact .inl ⟨i,j,fx.int,fy.int,k _ H _ q (Gr.refl _) (.bl _)⟩
 .rename_i i j;exact .inr (.inl ⟨i,j,fx.str.1,fy.str.1,k _ H _ q (Gr.refl _) (.bl _)⟩)
 .exact .inr (.inr ⟨_,_,fx.dv q.1.1,fy.dv q.1.2.1,q.1.2.2.1,q.1.2.2.2,k _ H _ q.2 (Gr.refl _) (.bl _)⟩)
def D.fl:D->Bool
 | .non=>true|.bl _=>true|.int _=>true|.str _=>true
 | _=>false
def eqF:D->D->Bool
 | .non,.non=>true
 | .bl a,.bl b=>a == b
 | .bl a,.int b=>(if a then 1 else 0) == b
 | .int a,.bl b=>a == (if b then 1 else 0)
 | .int a,.int b=>a == b
 | .str a,.str b=>a == b
 | _,_=>false
def inD(x:D)(xs:List D):Bool:=xs.any fun y=>eqF y x
theorem FV.fl{O:Addr->Prop}{H:Hp}{v:V}{d:D}(h:FV K O H v d)(f:d.fl=true):iy v=true:=by cases h <;> first|rfl|cases f
theorem vG(a b:List Nat):(S a == S b)=(a == b):=by
 by_cases h:a=b
 .subst h;rw [beq_self_eq_true,beq_self_eq_true]
 .rw [beq_eq_false_iff_ne.mpr h,beq_eq_false_iff_ne.mpr (yF h)]
theorem FV.eqF{O:Addr->Prop}{H:Hp}{v w:V}{d e:D}(h:FV K O H v d)(f:d.fl=true)(h':FV K O H w e)(f':e.fl=true):eqV v w=L2.eqF d e:=by
 cases h <;> first|(cases f;done)|(cases h' <;> first|(cases f';done)|rfl|exact vG _ _)
theorem FVs.inD{O:Addr->Prop}{H:Hp}{v:V}{d:D}(h:FV K O H v d)(f:d.fl=true):∀{xs:List V}{ds:List D},FVs K O H xs ds->ds.all D.fl=true->xs.all iy=true/\inV v xs=L2.inD d ds
 | _,_,.nil,_=>⟨rfl,rfl⟩
 | _,_,.cons a b,g=>by
  rw [all_cons,and_eq_true] at g;obtain⟨i1,i2⟩:=b.inD h f g.2;refine⟨by rw [all_cons,a.fl g.1,i1];rfl,?_⟩;unfold inV L2.inD at i2 ⊢;rw [any_cons,any_cons,i2,a.eqF g.1 h f]
def fIn(neg:Bool):F2
 | a,.lst ds,Q=>(a.fl=true/\ds.all D.fl=true)/\Q (.dat (.bl (if neg then !inD a ds else inD a ds)))
 | a,.tup ds,Q=>(a.fl=true/\ds.all D.fl=true)/\Q (.dat (.bl (if neg then !inD a ds else inD a ds)))
 | _,_,_=>False
theorem FVc.fl{O:Addr->Prop}{H:Hp}{v:V}{d:D}(h:FVc K O H v d)(f:d.fl=true):FV K O H v d:=h.fv (fun _ z=>by rw [z] at f;cases f) (fun _ _ _ z=>by rw [z] at f;cases f)
theorem yK(K:PySem.W.Frag)(e:X.K=K):OpR X (compareOp .In) (rIn K false):=by subst e;exact oi
theorem vH{neg:Bool}:LO K (rIn K neg) (fIn neg):=by
 intro O H x y a b Q Q' dom fx fy q k;unfold fIn at q
 split at q
 .obtain⟨p,xs,rfl,e1,f1⟩:=fy.lst;obtain⟨g1,g2⟩:=f1.inD (fx.fl q.1.1) q.1.1 q.1.2;exact⟨p,xs,rfl,.inl (SqL.of e1),(fx.fl q.1.1).fl q.1.1,g1,by rw [g2];exact k _ H _ q.2 (Gr.refl _) (.bl _)⟩
 .obtain⟨p,xs,rfl,n1,e1,f1⟩:=fy.tup;obtain⟨g1,g2⟩:=f1.inD (fx.fl q.1.1) q.1.1 q.1.2;exact⟨p,xs,rfl,.inr (SqT.of e1),(fx.fl q.1.1).fl q.1.1,g1,by rw [g2];exact k _ H _ q.2 (Gr.refl _) (.bl _)⟩
 .exact q.elim
def tm(K:PySem.W.Frag):R2:=fun x y H Q=>xZ K x y H Q\/x4 K x y H Q\/vg x y H Q
theorem dI(K:PySem.W.Frag)(e:X.K=K):IxR X (tm K):=by
 subst e;exact IxR.or sy (IxR.or uW sE)
def fIx:F2
 | .lst ds,.int i,Q=>∃d,atI ds i=some d/\Q (.dat d)
 | .tup ds,.int i,Q=>∃d,atI ds i=some d/\Q (.dat d)
 | .scr ns,.int i,Q=>∃d,atI ns i=some d/\Q (.dat (.int d))
 | .str l,.int i,Q=>∃c,atI l i=some c/\Q (.dat (.str [c]))
 | _,_,_=>False
theorem FVs.atI{O:Addr->Prop}{H:Hp}{vs:List V}{ds:List D}{i:Int}{d:D}(f:FVs K O H vs ds)(h:L2.atI ds i=some d):∃v,L2.atI vs i=some v/\FV K O H v d:=by
 unfold L2.atI at h ⊢;rw [f.length]
 cases e:ixN ds.length i with
 | none=>rw [e] at h;cases h
 | some j=>rw [e] at h;exact f.getD h
theorem bI:LO K (tm K) fIx:=by
 intro O H x y a b Q Q' dom fx fy q k;unfold fIx at q
 split at q
 .obtain⟨d,hd,q⟩:=q;obtain⟨p,xs,rfl,e1,f1⟩:=fx.lst;obtain⟨v,hv,fv⟩:=f1.atI hd;exact .inl ⟨p,xs,_,v,rfl,fy.int,SqL.of e1,hv,k _ H _ q (Gr.refl _) fv⟩
 .obtain⟨d,hd,q⟩:=q;obtain⟨p,xs,rfl,n1,e1,f1⟩:=fx.tup;obtain⟨v,hv,fv⟩:=f1.atI hd;exact .inr (.inl ⟨p,xs,_,v,rfl,fy.int,SqT.of e1,hv,k _ H _ q (Gr.refl _) fv⟩)
 .obtain⟨d,hd,q⟩:=q;obtain⟨p,rfl,e1⟩:=fx.scr;exact .inl ⟨p,_,_,_,rfl,fy.int,e1,sG hd,k _ H _ q (Gr.refl _) (.int d)⟩
 .obtain⟨c,hc,q⟩:=q;exact .inr (.inr ⟨_,_,c,fx.str.1,fy.int,sz _ fx.str.2,hc,k _ H _ q (Gr.refl _) (.str _ (by show 1<=1000000;decide))⟩)
 .exact q.elim
end
end L2
namespace L2
open PySem PySem.Spec PyProof.Rows _root_.HT
section
variable {prog:Program}{w:World}{A:Around}{E:Value->Shared->Prop}{s:Shared}
theorem fS{t sl:Addr}{items:Array Value}{vl vu:Value}{lo hi:Option Int}{Q:Value->Shared->Prop}(ht:IsTup s.heap t items)(hs:s.heap.IsSliceOf sl vl vu .none)(pl:IsPart vl lo)(pu:IsPart vu hi)
  (hw:sIx items.size 0 lo=0/\sIx items.size items.size hi=items.size)
  (h:Q (.ref t) s):wpAny (model prog w) A (getItem (.ref t) (.ref sl)) Q E s:=by
 obtain⟨os,hos,hcs,hds⟩:=id hs;have hTs:s.TypeIs (.ref sl) "slice":=⟨os,hos,hcs⟩
 unfold getItem
 try with_reducible refine wpAny_holding ?_
 first|refine wpAny_bind (wpAny_pure ?_)|skip
 refine wpAny_bind (wpAny_sequenceKey ht.typeIs (by decide) ?_)
 refine wpAny_bind (wpAny_callSpecial?_slot (name:=Str.ofString "__getitem__") ht.typeIs PyProof.Rows.slot_tuple_getitem
  (wpAny_call_entry PyProof.Rows.slot_tuple_getitem ht.typeIs entry_tuple_getitem ?_ (args_tuple_getitem _ _)))
 show wpAny _ _ (Builtin.Tuple.tupleItemsOf (.ref t) >>= _) _ _ s;refine wpAny_bind (tupleItemsOf_ ht ?_);refine wpAny_bind (wpAny_typeOf hTs ?_);rw [if_pos (by decide)];refine wpAny_bind (eh hs pl pu ?_)
 have hyes:(((sIx items.size 0 lo:Nat):Int) == 0 && (1:Int) == 1 && (sIx items.size items.size hi - sIx items.size 0 lo) == items.size)=true:=by
  rw [hw.1,hw.2,Nat.sub_zero];simp
 show wpAny _ _ (if (((sIx items.size 0 lo:Nat):Int) == 0 && (1:Int) == 1 && (sIx items.size items.size hi - sIx items.size 0 lo) == items.size)=true then _ else _) _ _ s;rw [if_pos hyes];refine wpAny_bind (m:=Builtin.Tuple.tupleIsExact _) (wpAny_bind (wpAny_typeOf ht.typeIs (wpAny_pure ?_)));rw [if_pos (by decide)]
 first
  | exact wpAny_bind (m:=rule _) (wpAny_pure (wpAny_pure ⟨_,rfl,wpAny_pure h⟩))
  | exact wpAny_pure ⟨_,rfl,wpAny_pure h⟩
  | exact wpAny_bind (wpAny_rule (wpAny_pure ⟨_,rfl,wpAny_pure h⟩))
def vI(K:PySem.W.Frag):V->Option Int->Option Int->Hp->VK->Prop:=fun x lo hi H Q=>∃a xs,x=.ref a/\SqT K H a xs/\(sIx xs.length 0 lo=0/\sIx xs.length xs.length hi=xs.length)/\Q (.ref a) H
theorem tq{X:Cx}:SlR X (vI X.K):=by
 intro pins s σ H x v vl vu lo hi sl Q I rx hs pl pu h;obtain⟨a,xs,rfl,hx,hw,q⟩:=h;cases rx;obtain⟨its,r,ht,hz⟩:=I.tuple hx;have hlen:its.toArray.size=xs.length:=by rw [size_toArray];exact r.length.symm
 refine⟨"tuple",_,PyProof.Rows.slot_tuple_getitem.lookup,ht.typeIs,?_⟩;exact fS ht hs pl pu (by rw [hlen];exact hw) ⟨.ref a,H,I,rfl,q⟩
end
end L2
namespace L2
open PySem PySem.Spec PyProof.Rows
section
variable {K:PySem.W.Frag}{X:Cx}{ta tb tc to:TE}{pa pb pc:PA1}{pe:PTE}{tr:TA}{pr:PTA}
def o0(f f':F2)(pa pb pc:PA1):PTE:=fun ρ Q=>pa ρ fun x ρ1=>pb ρ1 fun y ρ2=>op2 f ρ2 x y fun p ρ3=>match p with
 | .dat (.bl k)=>gj k (pc ρ3 fun z ρ4=>op2 f' ρ4 y z Q) (Q (.dat (.bl false)) ρ3)
 | _=>False
theorem mw{r r':R2}{f f':F2}(o:LO K r f)(o':LO K r' f')(ha:LA1 K ta pa)(hb:LA1 K tb pb)(hc:LA1 K tc pc):LE K (ma r r' ta tb tc) (o0 f f' pa pb pc):=fun A ρ σ H Q Q' R q k =>
 ha A ρ σ H _ _ R q fun v H1 a ρ1 q1 f1 R1 o1=>hb A ρ1 σ H1 _ _ R1 q1 fun w H2 b ρ2 q2 f2 R2 o2=>by
  unfold op2 at q2
  split at q2
  .rename_i da db e1 e2;refine o _ H2 v w da db _ _ R2.dom2 (R2.cont (o1.keeps f2.keeps) e1) (R2.cont o2 e2) q2 fun z H3 p q3 g ov=>?_;dsimp only at q3
   split at q3
   .rename_i c;cases ov;refine⟨c,rfl,?_⟩;have R3:=R2.gr g
    cases c with
    | true =>
     refine hc A ρ2 σ H3 _ _ R3 q3 fun u H4 cc ρ4 q4 f4 R4 o4=>?_
     try unfold op2 at q4
     split at q4
     .rename_i dc dd e3 e4;have o2':AOk K (OO A ρ4 σ) σ H4 b w:=(o2.keeps (g.fr (ρ:=ρ2) (σ:=σ)).keeps).keeps f4.keeps;exact o' _ H4 w u _ _ _ _ R4.dom2 (R4.cont o2' e3) (R4.cont o4 e4) q4 fun z H5 p q5 g5 ov=>k z H5 p ρ4 q5 ((((f1.trans f2).trans g.fr).trans f4).trans g5.fr) ((ov.out R4 g5).h0 fun b z=>f4.dm b ((g.fr (ρ:=ρ2) (σ:=σ)).dm b (f2.dm b (f1.dm b z))))
     .exact q4.elim
    | false=>exact k _ H3 _ ρ2 q3 ((f1.trans f2).trans g.fr) ⟨R3,.bl false⟩
   .exact q3.elim
  .exact q2.elim
abbrev PTO:=PSt->(Option Int->PSt->Prop)->Prop
def LPo(K:PySem.W.Frag)(t:TO)(p:PTO):Prop:=∀(A:Addr->Prop) (ρ:PSt) (σ:St) (H:Hp) (Q:Option Int->PSt->Prop) (Q':Option Int->Hp->Prop),Rel K A ρ σ H->p ρ Q ->
 (∀b H' ρ',Q b ρ'->Fr ρ σ H ρ' H'->Rel K A ρ' σ H'->Q' b H')->t σ H Q'
def cG:PTO:=fun ρ Q=>Q none ρ
def cg(pe:PTE):PTO:=fun ρ Q=>pe ρ fun p ρ1=>match p with
 | .dat (.int i)=>Q (some i) ρ1
 | _=>False
theorem bD:LPo K oh cG:=fun A ρ σ H Q Q' R q k=>k none H ρ q (Fr.refl _ _ _) R
theorem a9(h:LE K ta pe):LPo K (qo ta) (cg pe):=fun A ρ σ H Q Q' R q k=>h A ρ σ H _ _ R q fun v H1 p ρ1 q1 f1 o1=>by
 split at q1
 .rename_i i;obtain⟨R1,f⟩:=o1;cases f;exact⟨i,rfl,k _ H1 ρ1 q1 f1 R1⟩
 .exact q1.elim
def wz(K:PySem.W.Frag):V->Option Int->Option Int->Hp->VK->Prop:=fun x lo hi H Q=>x5 K x lo hi H Q\/yg x lo hi H Q\/xY K x lo hi H Q\/vI K x lo hi H Q
theorem jR(K:PySem.W.Frag)(e:X.K=K):SlR X (wz K):=by
 subst e;exact SlR.or sA (SlR.or vc (SlR.or uU tq))
def fSl:D->Option Int->Option Int->(PV->Prop)->Prop
 | .lst ds,lo,hi,Q=>Q (.own (cW ds lo hi))
 | .scr ns,lo,hi,Q=>Q (.own ((cW ns lo hi).map .int))
 | .str l,lo,hi,Q=>Q (.dat (.str (cW l lo hi)))
 | .tup ds,lo,hi,Q=>Q (.dat (.tup (cW ds lo hi)))
 | _,_,_,_=>False
theorem FVs.cut{O:Addr->Prop}{H:Hp}{xs:List V}{ds:List D}(f:FVs K O H xs ds)(lo hi:Option Int):FVs K O H (cW xs lo hi) (cW ds lo hi):=by
 unfold cW;rw [f.length];exact (f.drop _).take _
def ck(pa:PA1)(pl ph:PTO):PTE:=fun ρ Q=>pa ρ fun x ρ1=>pl ρ1 fun lo ρ2=>ph ρ2 fun hi ρ3=>match cont ρ3 x with
 | some d=>fSl d lo hi fun p=>Q p ρ3
 | _=>False
theorem tu{α:Type}{ds:List α}{lo hi:Option Int}{n:Nat}(h:n=ds.length)(hw:HT.sIx n 0 lo=0/\HT.sIx n n hi=n):cW ds lo hi=ds:=by
 subst h;unfold cW;rw [hw.1,hw.2,drop_zero,Nat.sub_zero,take_length]
theorem lsl{O:Addr->Prop}{H:Hp}{x:V}{d:D}{lo hi:Option Int}{Q:PV->Prop}{Q':VK}(dom:∀b,O b->H b≠none)(fx:FVc K O H x d)(q:fSl d lo hi Q)(k:∀v H' p,Q p->Gr H H'->ny K O H H' p v->Q' v H'):wz K x lo hi H Q':=by
 unfold fSl at q
 split at q
 .obtain⟨a,xs,rfl,e1,f1⟩:=fx.lst;exact .inl ⟨a,xs,rfl,SqL.of e1,fun p hp=>k _ _ _ q (Gr.new hp) (dz hp (f1.cut _ _))⟩
 .obtain⟨a,rfl,e1⟩:=fx.scr;exact .inl ⟨a,_,rfl,e1,fun p hp=>k _ _ _ q (Gr.new hp) (dz hp (by rw [ou,qt];exact FVs.of_ints _))⟩
 .exact .inr (.inl ⟨_,fx.str.1,sz _ fx.str.2,k _ H _ q (Gr.refl _) (.str _ (le_trans (aI _ _ _) fx.str.2))⟩)
 .obtain⟨a,xs,rfl,n1,e1,f1⟩:=fx.tup
  by_cases hw:HT.sIx xs.length 0 lo=0/\HT.sIx xs.length xs.length hi=xs.length
  .refine .inr (.inr (.inr ⟨a,xs,rfl,SqT.of e1,hw,k _ H _ q (Gr.refl _) ?_⟩));rw [tu f1.length hw];exact .tup n1 e1 f1
  .exact .inr (.inr (.inl ⟨a,xs,rfl,SqT.of e1,hw,fun p hp=>k _ _ _ q (Gr.new hp) (jn dom hp (f1.cut _ _))⟩))
 .exact q.elim
theorem bu{tl th:TO}{pl ph:PTO}(ha:LA1 K ta pa)(hl:LPo K tl pl)(hh:LPo K th ph):LE K (tSl (wz K) ta tl th) (ck pa pl ph):=fun A ρ σ H Q Q' R q k =>
 ha A ρ σ H _ _ R q fun v H1 a ρ1 q1 f1 R1 o1=>hl A ρ1 σ H1 _ _ R1 q1 fun lo H2 ρ2 q2 f2 R2=>hh A ρ2 σ H2 _ _ R2 q2 fun hi H3 ρ3 q3 f3 R3=>by
  split at q3
  .rename_i d e1;exact lsl R3.dom2 (R3.cont (o1.keeps (f2.trans f3).keeps) e1) q3 fun z H4 p q4 g ov=>k z H4 p ρ3 q4 (((f1.trans f2).trans f3).trans g.fr) ((ov.out R3 g).h0 fun b z=>f3.dm b (f2.dm b (f1.dm b z)))
  .exact q3.elim
abbrev FN:=List D->(PV->Prop)->Prop
def o5(K:PySem.W.Frag):List V->Hp->VK->Prop:=fun xs H Q=>(∃l,xs=[.str (S l)]/\l.length<=sizeLine/\Q (.int l.length) H)\/wZ K xs H Q\/w4 K xs H Q\/∃p kvs,xs=[.ref p]/\Rd H p (.dK kvs)/\Q (.int kvs.length) H
theorem bM(K:PySem.W.Frag)(e:X.K=K):cw X (.builtin "len") (o5 K):=by
 subst e;exact cw.or oF (cw.or oG (cw.or oH oR))
def dC:FN
 | [.str l],Q=>Q (.dat (.int l.length))
 | [.lst l],Q=>Q (.dat (.int l.length))
 | [.tup l],Q=>Q (.dat (.int l.length))
 | [.scr l],Q=>Q (.dat (.int l.length))
 | [.dic ks _],Q=>Q (.dat (.int ks.length))
 | _,_=>False
theorem aO:LC K (o5 K) dC:=by
 intro O H xs as Q Q' dom fs q k;unfold dC at q
 split at q
 .cases fs with|cons a b=>cases b;rw [a.str.1];exact .inl ⟨_,rfl,sz _ a.str.2,k _ H _ q (Gr.refl _) (.int _)⟩
 .cases fs with
  | cons a b =>
   cases b;obtain⟨p,ys,rfl,e1,f1⟩:=a.lst;exact .inr (.inl ⟨p,ys,rfl,SqL.of e1,by rw [f1.length];exact k _ H _ q (Gr.refl _) (.int _)⟩)
 .cases fs with
  | cons a b =>
   cases b;obtain⟨p,ys,rfl,n1,e1,f1⟩:=a.tup;exact .inr (.inr (.inl ⟨p,ys,rfl,SqT.of e1,by rw [f1.length];exact k _ H _ q (Gr.refl _) (.int _)⟩))
 .cases fs with
  | cons a b =>
   cases b;obtain⟨p,rfl,e1⟩:=a.scr;exact .inr (.inl ⟨p,_,rfl,e1,by rw [length_map];exact k _ H _ q (Gr.refl _) (.int _)⟩)
 .cases fs with
  | cons a b =>
   cases b
   cases a.fv nofun nofun with
   | dic n e m f=>subst m;exact .inr (.inr (.inr ⟨_,_,rfl,.inl e,k _ H _ q (Gr.refl _) (by rw [length_map];exact .int _)⟩))
 .exact q.elim
inductive Kd where
 | int|bool|str|list|tuple|dict
def Kd.nm:Kd->String
 | .int=>"int"|.bool=>"bool"|.str=>"str"|.list=>"list"|.tuple=>"tuple"|.dict=>"dict"
def isK:Kd->D->Bool
 | .int,.int _=>true
 | .int,.bl _=>true
 | .bool,.bl _=>true
 | .str,.str _=>true
 | .list,.lst _=>true
 | .tuple,.tup _=>true
 | .dict,.dic _ _=>true
 | _,_=>false
def D.sort:D->Bool
 | .obj _ _ _=>false
 | .exc _ _ _=>false
 | .scr _=>false
 | .ty _=>false
 | _=>true
theorem FVc.ty{O:Addr->Prop}{H:Hp}{v:V}{d:D}(h:FVc K O H v d)(s:d.sort=true):∃t,li K H v t/\∀k:Kd,PySem.W.kitOne K t (.type k.nm)=some (isK k d):=by
 rcases h with h|⟨a,xs,ds',rfl,rfl,e3,f⟩|⟨a,dx,c,fs,ns,ds',rfl,rfl,_⟩
 .cases h with
  | non=>exact⟨_,.non,fun k=>by cases k <;> rfl⟩
  | bl b=>exact⟨_,.bl b,fun k=>by cases k <;> rfl⟩
  | int i=>exact⟨_,.int i,fun k=>by cases k <;> rfl⟩
  | str l h=>exact⟨_,.str _,fun k=>by cases k <;> rfl⟩
  | ty n=>cases s
  | scr _=>cases s
  | lst n e f=>exact⟨_,.lst e,fun k=>by cases k <;> rfl⟩
  | tup n e f=>exact⟨_,.tup e,fun k=>by cases k <;> rfl⟩
  | dic n e m f=>exact⟨_,.dK e,fun k=>by cases k <;> rfl⟩
  | obj _ _ _ _=>cases s
  | exc0 _ _=>cases s
  | exc1 _ _ _ _ _ _=>cases s
 .exact⟨_,.lst e3,fun k=>by cases k <;> rfl⟩
 .cases s
theorem tw(K:PySem.W.Frag)(e:X.K=K):cw X (.builtin "isinstance") (yh K):=by subst e;exact lr
def wA(k:Kd)(pa:PA1):PTE:=fun ρ Q=>pa ρ fun x ρ1=>match cont ρ1 x with
 | some d=>gj d.sort (Q (.dat (.bl (isK k d))) ρ1) False
 | _=>False
theorem o7(k:Kd)(ha:LA1 K ta pa):LE K (tCB (yh K) (cX ta (cX (tC (.ty k.nm)) md))) (wA k pa):=fun A ρ σ H Q Q' R q kk =>
 ha A ρ σ H _ _ R q fun v H1 a ρ1 q1 f1 R1 o1=>by
  split at q1
  .rename_i d e1
   cases hs:d.sort with
   | false=>rw [hs] at q1;exact q1.elim
   | true =>
    rw [hs] at q1;obtain⟨t,ty,hk⟩:=(R1.cont o1 e1).ty hs;exact⟨v,k.nm,t,isK k d,rfl,ty,hk k,kk _ H1 _ ρ1 q1 f1 ⟨R1,.bl _⟩⟩
  .exact q1.elim
end
structure vJ where
 nx:PSt->Prop
 rt:PV->PSt->Prop
 bk:PSt->Prop:=fun _=>False
 ct:PSt->Prop:=fun _=>False
abbrev PTS:=vJ->PSt->Prop
structure eA (fx:List (Nat×V)) (R:Addr->Prop) (H0:Hp) (ρ:PSt) (σ:St) (H:Hp):Prop where
 kp:∀b o,¬ R b->H0 b=some o->H b=some o
 dm:∀b,H0 b≠none->H b≠none
 ow:∀b,Wr ρ σ b->R b\/H0 b=none
 fx:∀p∈fx,σ[p.1]?=some (some p.2)
section
variable {K:PySem.W.Frag}{fx:List (Nat×V)}{A R:Addr->Prop}{H0 H H':Hp}{ρ ρ':PSt}{σ:St}
theorem eA.fr(F:eA fx R H0 ρ σ H)(f:Fr ρ σ H ρ' H'):eA fx R H0 ρ' σ H' :=
 ⟨fun b o n e=>f.kp b o (fun w=>(F.ow b w).elim n (fun z=>by rw [z] at e;cases e)) (F.kp b o n e),fun b z=>f.dm b (F.dm b z),fun b w=>F.ow b (f.ow b w),F.fx⟩
theorem eA.start(hfx:∀p∈fx,σ[p.1]?=some (some p.2)):eA fx (Wr ρ σ) H ρ σ H:=⟨fun _ _ _ h=>h,fun _ h=>h,fun _ h=>.inl h,hfx⟩
theorem eA.keepsR{ρ1:PSt}{σ1:St}{H1:Hp}(F:eA fx R H1 ρ σ H)(hR:∀b,R b->OO A ρ1 σ1 b):aM (OO A ρ1 σ1) H1 (OO A ρ σ) H:=fun b o n e=>by
 refine⟨fun z=>?_,F.kp b o (fun z=>n (hR b z)) e⟩
 rcases z with z|z
 .exact n (.inl z)
 .rcases F.ow b z with z|z
  .exact n (hR b z)
  .rw [z] at e;cases e
theorem eA.keeps{ρ1:PSt}{σ1:St}{H1:Hp}(F:eA fx (Wr ρ1 σ1) H1 ρ σ H):aM (OO A ρ1 σ1) H1 (OO A ρ σ) H:=F.keepsR fun b z=>.inr z
theorem eA.trans{fx':List (Nat×V)}{ρ1:PSt}{σ1:St}{H1:Hp}(F:eA fx R H0 ρ1 σ1 H1)(G:eA fx' (Wr ρ1 σ1) H1 ρ σ H)(hfx:∀p∈fx,σ[p.1]?=some (some p.2)):eA fx R H0 ρ σ H:=by
 refine⟨fun b o n e=>G.kp b o (fun w=>(F.ow b w).elim n (fun z=>by rw [z] at e;cases e)) (F.kp b o n e),fun b z=>G.dm b (F.dm b z),fun b w=>?_,hfx⟩
 rcases G.ow b w with z|z
 .exact F.ow b z
 .refine .inr ?_
  cases e:H0 b with
  | none=>rfl
  | some o=>exact absurd z (F.dm b (by rw [e];exact nofun))
theorem Out.put{p:PV}{v:V}{i:Nat}(h:Out K A ρ σ H0 H p v):Rel K A (ρ.set i (some p)) (σ.set i (some v)) H/\∀b,Wr (ρ.set i (some p)) (σ.set i (some v)) b->Wr ρ σ b\/H0 b=none:=by
 have get:∀(j:Nat) (q:PV),(ρ.set i (some p))[j]?=some (some q)->(j=i/\q=p/\i<ρ.length)\/(j≠i/\ρ[j]?=some (some q)):=fun j q e=>by
  by_cases z:i=j
  .subst z
   by_cases hi:i<ρ.length
   .rw [getElem?_set_self hi] at e;cases e;exact .inl ⟨rfl,rfl,hi⟩
   .rw [getElem?_eq_none (by rw [length_set];omega)] at e;cases e
  .rw [getElem?_set_ne z] at e;exact .inr ⟨fun q=>z q.symm,e⟩
 cases p with
 | dat d =>
  obtain⟨R1,f⟩:=h
  have ow:∀b,Wr (ρ.set i (some (.dat d))) (σ.set i (some v)) b->Wr ρ σ b:=fun b ⟨j,r,e1,o1,s1⟩=>by
   rcases get j r e1 with ⟨_,rfl,_⟩|⟨n,e⟩
   .cases o1
   .rw [getElem?_set_ne (fun z=>n z.symm)] at s1;exact⟨j,r,e,o1,s1⟩
  have k:aM (OO A ρ σ) H (OO A (ρ.set i (some (.dat d))) (σ.set i (some v))) H:=aM.less fun b z=>z.imp id (ow b)
  refine⟨⟨by rw [length_set,length_set];exact R1.len,fun j r e1=>?_,fun j l p1 q1 v' e1 e2 o1 o2 s1 s2=>?_,R1.dom,fun b z w=>R1.sep b z (ow b w)⟩,fun b w=>.inl (ow b w)⟩
  .rcases get j r e1 with ⟨rfl,rfl,hi⟩|⟨n,e⟩
   .exact⟨v,getElem?_set_self (by rw [<- R1.len];exact hi),f.keeps k⟩
   .obtain⟨u,s,r'⟩:=R1.get j r e;exact⟨u,by rw [getElem?_set_ne (fun z=>n z.symm)];exact s,r'.keeps k fun _ _ _=>rfl⟩
  .rcases get j p1 e1 with ⟨_,rfl,_⟩|⟨n1,e1⟩
   .cases o1
   .rcases get l q1 e2 with ⟨_,rfl,_⟩|⟨n2,e2⟩
    .cases o2
    .rw [getElem?_set_ne (fun z=>n1 z.symm)] at s1;rw [getElem?_set_ne (fun z=>n2 z.symm)] at s2;exact R1.dj j l p1 q1 v' e1 e2 o1 o2 s1 s2
 | own ds =>
  obtain⟨a,xs,rfl,na,hn,e0,R1,f⟩:=h
  have ow:∀b,Wr (ρ.set i (some (.own ds))) (σ.set i (some (.ref a))) b->Wr ρ σ b\/b=a:=fun b ⟨j,r,e1,o1,s1⟩=>by
   rcases get j r e1 with ⟨rfl,rfl,hi⟩|⟨n,e⟩
   .rw [getElem?_set_self (by rw [<- R1.len];exact hi)] at s1;cases s1;exact .inr rfl
   .rw [getElem?_set_ne (fun z=>n z.symm)] at s1;exact .inl ⟨j,r,e,o1,s1⟩
  have k:aM (OO (ei A a) ρ σ) H (OO A (ρ.set i (some (.own ds))) (σ.set i (some (.ref a)))) H:=aM.less fun b z=>by
   rcases z with z|z
   .exact .inl (.inl z)
   .rcases ow b z with z|z
    .exact .inr z
    .exact .inl (.inr z)
  refine⟨⟨by rw [length_set,length_set];exact R1.len,fun j r e1=>?_,fun j l p1 q1 v' e1 e2 o1 o2 s1 s2=>?_,fun b z=>R1.dom b (.inl z),fun b z w=>?_⟩,fun b w=>(ow b w).imp id fun z=>by rw [z];exact hn⟩
  .rcases get j r e1 with ⟨rfl,rfl,hi⟩|⟨n,e⟩
   .exact⟨_,getElem?_set_self (by rw [<- R1.len];exact hi),a,xs,rfl,e0,f.keeps k⟩
   .obtain⟨u,s,r'⟩:=R1.get j r e;exact⟨u,by rw [getElem?_set_ne (fun z=>n z.symm)];exact s,r'.keeps k fun _ _ _=>rfl⟩
  .rcases get j p1 e1 with ⟨rfl,rfl,hi⟩|⟨n1,e1'⟩
   .rw [getElem?_set_self (by rw [<- R1.len];exact hi)] at s1;cases s1
    rcases get l q1 e2 with ⟨rfl,rfl,_⟩|⟨n2,e2⟩
    .rfl
    .rw [getElem?_set_ne (fun z=>n2 z.symm)] at s2;exact absurd ⟨l,q1,e2,o2,s2⟩ (R1.sep a (.inr rfl))
   .rw [getElem?_set_ne (fun z=>n1 z.symm)] at s1
    rcases get l q1 e2 with ⟨rfl,rfl,hi⟩|⟨n2,e2⟩
    .rw [getElem?_set_self (by rw [<- R1.len];exact hi)] at s2;cases s2;exact absurd ⟨j,p1,e1',o1,s1⟩ (R1.sep a (.inr rfl))
    .rw [getElem?_set_ne (fun z=>n2 z.symm)] at s2;exact R1.dj j l p1 q1 v' e1' e2 o1 o2 s1 s2
  .rcases ow b w with w|w
   .exact R1.sep b (.inl z) w
   .rw [w] at z;exact na z
 | ins c ns ds =>
  obtain⟨a,dx,fs,rfl,na,hn,e0,m,R1,f⟩:=h
  have ow:∀b,Wr (ρ.set i (some (.ins c ns ds))) (σ.set i (some (.ref a))) b->Wr ρ σ b\/b=a:=fun b ⟨j,r,e1,o1,s1⟩=>by
   rcases get j r e1 with ⟨rfl,rfl,hi⟩|⟨n,e⟩
   .rw [getElem?_set_self (by rw [<- R1.len];exact hi)] at s1;cases s1;exact .inr rfl
   .rw [getElem?_set_ne (fun z=>n z.symm)] at s1;exact .inl ⟨j,r,e,o1,s1⟩
  have k:aM (OO (ei A a) ρ σ) H (OO A (ρ.set i (some (.ins c ns ds))) (σ.set i (some (.ref a)))) H:=aM.less fun b z=>by
   rcases z with z|z
   .exact .inl (.inl z)
   .rcases ow b z with z|z
    .exact .inr z
    .exact .inl (.inr z)
  refine⟨⟨by rw [length_set,length_set];exact R1.len,fun j r e1=>?_,fun j l p1 q1 v' e1 e2 o1 o2 s1 s2=>?_,fun b z=>R1.dom b (.inl z),fun b z w=>?_⟩,fun b w=>(ow b w).imp id fun z=>by rw [z];exact hn⟩
  .rcases get j r e1 with ⟨rfl,rfl,hi⟩|⟨n,e⟩
   .exact⟨_,getElem?_set_self (by rw [<- R1.len];exact hi),a,dx,fs,rfl,e0,m,f.keeps k⟩
   .obtain⟨u,s,r'⟩:=R1.get j r e;exact⟨u,by rw [getElem?_set_ne (fun z=>n z.symm)];exact s,r'.keeps k fun _ _ _=>rfl⟩
  .rcases get j p1 e1 with ⟨rfl,rfl,hi⟩|⟨n1,e1'⟩
   .rw [getElem?_set_self (by rw [<- R1.len];exact hi)] at s1;cases s1
    rcases get l q1 e2 with ⟨rfl,rfl,_⟩|⟨n2,e2⟩
    .rfl
    .rw [getElem?_set_ne (fun z=>n2 z.symm)] at s2;exact absurd ⟨l,q1,e2,o2,s2⟩ (R1.sep a (.inr rfl))
   .rw [getElem?_set_ne (fun z=>n1 z.symm)] at s1
    rcases get l q1 e2 with ⟨rfl,rfl,hi⟩|⟨n2,e2⟩
    .rw [getElem?_set_self (by rw [<- R1.len];exact hi)] at s2;cases s2;exact absurd ⟨j,p1,e1',o1,s1⟩ (R1.sep a (.inr rfl))
    .rw [getElem?_set_ne (fun z=>n2 z.symm)] at s2;exact R1.dj j l p1 q1 v' e1' e2 o1 o2 s1 s2
  .rcases ow b w with w|w
   .exact R1.sep b (.inl z) w
   .rw [w] at z;exact na z
end
abbrev PTG:=PV->PSt->(PSt->Prop)->Prop
abbrev rC:=List D->PSt->(PSt->Prop)->Prop
def LG(K:PySem.W.Frag)(fs:List Nat)(g:TG)(pg:PTG):Prop:=∀(fx:List (Nat×V)) (A R:Addr->Prop) (H0:Hp) (ρ:PSt) (σ:St) (H:Hp) (p:PV) (v:V) (Q:PSt->Prop) (Q':St->Hp->Prop),fx.map Prod.fst=fs->eA fx R H0 ρ σ H->Out K A ρ σ H0 H p v->pg p ρ Q ->
 (∀ρ' σ' H',Q ρ'->Rel K A ρ' σ' H'->eA fx R H0 ρ' σ' H'->Q' σ' H')->g v σ H Q'
def LGs(K:PySem.W.Frag)(fs:List Nat)(g:TGs)(pg:rC):Prop:=∀(fx:List (Nat×V)) (A R:Addr->Prop) (H0:Hp) (ρ:PSt) (σ:St) (H:Hp) (ds:List D) (vs:List V) (Q:PSt->Prop) (Q':St->Hp->Prop),fx.map Prod.fst=fs->eA fx R H0 ρ σ H->Rel K A ρ σ H->FVs K (OO A ρ σ) H vs ds->pg ds ρ Q ->
 (∀ρ' σ',Q ρ'->Rel K A ρ' σ' H->eA fx R H0 ρ' σ' H->(∀b,Wr ρ' σ' b->Wr ρ σ b)->Q' σ' H)->g vs σ H Q'
def LGd(K:PySem.W.Frag)(fs:List Nat)(g:TG)(pg:PTG):Prop:=∀(fx:List (Nat×V)) (A R:Addr->Prop) (H0:Hp) (ρ:PSt) (σ:St) (H:Hp) (d:D) (v:V) (Q:PSt->Prop) (Q':St->Hp->Prop),fx.map Prod.fst=fs->eA fx R H0 ρ σ H->Rel K A ρ σ H->FV K (OO A ρ σ) H v d->pg (.dat d) ρ Q ->
 (∀ρ' σ',Q ρ'->Rel K A ρ' σ' H->eA fx R H0 ρ' σ' H->(∀b,Wr ρ' σ' b->Wr ρ σ b)->Q' σ' H)->g v σ H Q'
def ao(i:Nat):PTG:=fun p ρ Q=>Q (ρ.set i (some p))
def kl:rC:=fun ds ρ Q=>match ds with|[]=>Q ρ|_=>False
def cS(g:PTG)(gs:rC):rC:=fun ds ρ Q=>match ds with|d::r=>g (.dat d) ρ fun ρ1=>gs r ρ1 Q|[]=>False
section
variable {K:PySem.W.Frag}{fs:List Nat}
theorem eA.put{fx:List (Nat×V)}{R:Addr->Prop}{H0 H:Hp}{ρ:PSt}{σ:St}{i:Nat}{p:PV}{v:V}(hf:fx.map Prod.fst=fs)(hi:fs.contains i=false)(F:eA fx R H0 ρ σ H)(ow:∀b,Wr (ρ.set i (some p)) (σ.set i (some v)) b->Wr ρ σ b\/H0 b=none):eA fx R H0 (ρ.set i (some p)) (σ.set i (some v)) H :=
 ⟨F.kp,F.dm,fun b w=>(ow b w).elim (F.ow b) .inr,fun q hq=>by
  have:q.1≠i:=fun z=>by
   have h1:i∈fs:=by rw [<- hf,<- z];exact mem_map_of_mem hq
   rw [contains_iff_mem.mpr h1] at hi;cases hi
  rw [getElem?_set_ne (fun z=>this z.symm)];exact F.fx q hq⟩
theorem ax{i:Nat}(hi:fs.contains i=false):LG K fs (eY i) (ao i):=fun fx A R H0 ρ σ H p v Q Q' hf F o q k=>k _ _ _ q o.put.1 (F.put hf hi o.put.2)
theorem fT:LGs K fs uG kl:=fun fx A R H0 ρ σ H ds vs Q Q' hf F r fv q k=>by
 unfold kl at q
 split at q
 .cases fv;exact⟨rfl,k _ _ q r F fun _ h=>h⟩
 .exact q.elim
theorem aD{i:Nat}(hi:fs.contains i=false):LGd K fs (eY i) (ao i):=fun fx A R H0 ρ σ H d v Q Q' hf F r fv q k=>by
 have o:Out K A ρ σ H0 H (.dat d) v:=⟨r,fv⟩
 have ow:∀b,Wr (ρ.set i (some (.dat d))) (σ.set i (some v)) b->Wr ρ σ b:=fun b ⟨j,p,e1,o1,s1⟩=>by
  by_cases z:i=j
  .subst z
   by_cases hl:i<ρ.length
   .rw [getElem?_set_self hl] at e1;cases e1;cases o1
   .rw [getElem?_eq_none (by rw [length_set];omega)] at e1;cases e1
  .rw [getElem?_set_ne z] at e1 s1;exact⟨j,p,e1,o1,s1⟩
 exact k _ _ q o.put.1 (F.put hf hi o.put.2) ow
theorem bW{g:TG}{pg:PTG}{gs:TGs}{pgs:rC}(hg:LGd K fs g pg)(h:LGs K fs gs pgs):LGs K fs (jW g gs) (cS pg pgs):=fun fx A R H0 ρ σ H ds vs Q Q' hf F r fv q k=>by
 unfold cS at q
 split at q
 .cases fv with
  | cons a b =>
   exact⟨_,_,rfl,hg fx A R H0 ρ σ H _ _ _ _ hf F r a q fun ρ1 σ1 q1 r1 F1 w1=>h fx A R H0 ρ1 σ1 H _ _ _ _ hf F1 r1 (b.keeps (aM.less fun b z=>z.imp id (w1 b))) q1 fun ρ2 σ2 q2 r2 F2 w2=>k ρ2 σ2 q2 r2 F2 fun b z=>w1 b (w2 b z)⟩
 .exact q.elim
end
def LS(K:PySem.W.Frag)(fs:List Nat)(ts:TS)(ps:PTS):Prop:=∀(fx:List (Nat×V)) (A R:Addr->Prop) (H0:Hp) (ρ:PSt) (σ:St) (H:Hp) (D:vJ) (D':ud),fx.map Prod.fst=fs->Rel K A ρ σ H->eA fx R H0 ρ σ H->ps D ρ ->
 (∀ρ' σ' H',D.nx ρ'->Rel K A ρ' σ' H'->eA fx R H0 ρ' σ' H'->D'.nx σ' H') ->
 (∀v p ρ' σ' H',D.rt p ρ'->Out K A ρ' σ' H0 H' p v->eA fx R H0 ρ' σ' H'->D'.rt v H') ->
 (∀ρ' σ' H',D.bk ρ'->Rel K A ρ' σ' H'->eA fx R H0 ρ' σ' H'->D'.bk σ' H') ->
 (∀ρ' σ' H',D.ct ρ'->Rel K A ρ' σ' H'->eA fx R H0 ρ' σ' H'->D'.ct σ' H')->ts D' σ H
def bO:PTS:=fun D ρ=>D.nx ρ
def aG(a b:PTS):PTS:=fun D ρ=>a { D with nx:=b D } ρ
def hC(pe:PTE):PTS:=fun D ρ=>pe ρ fun _ ρ1=>D.nx ρ1
def bX(pe:PTE):PTS:=fun D ρ=>pe ρ D.rt
def gK(t:PTT)(a b:PTS):PTS:=fun D ρ=>t ρ fun c ρ1=>gj c (a D ρ1) (b D ρ1)
def jp:PTS:=fun _ _=>False
def bh(pe:PTE)(g:PTG):PTS:=fun D ρ=>pe ρ fun p ρ1=>g p ρ1 D.nx
def hG(a:PTS):PTS:=fun D ρ=>∃J:PSt->Prop,a { D with nx:=J } ρ/\∀ρ',J ρ'->D.nx ρ'
section
variable {K:PySem.W.Frag}{fs:List Nat}{ta tb:TS}{pa pb:PTS}{te:TE}{pe:PTE}{tt:TT}{pt:PTT}
theorem bi:LS K fs uE bO:=fun fx A R H0 ρ σ H D D' hf r F q k1 k2 k3 k4=>k1 _ _ _ q r F
theorem jq:LS K fs rj jp:=fun fx A R H0 ρ σ H D D' hf r F q k1 k2 k3 k4=>q
theorem ar(ha:LS K fs ta pa)(hb:LS K fs tb pb):LS K fs (xQ ta tb) (aG pa pb):=fun fx A R H0 ρ σ H D D' hf r F q k1 k2 k3 k4 =>
 ha fx A R H0 ρ σ H _ _ hf r F q (fun ρ1 σ1 H1 q1 r1 F1=>hb fx A R H0 ρ1 σ1 H1 _ _ hf r1 F1 q1 k1 k2 k3 k4) k2 k3 k4
theorem fU(h:LE K te pe):LS K fs (uF te) (hC pe):=fun fx A R H0 ρ σ H D D' hf r F q k1 k2 k3 k4=>h A ρ σ H _ _ r q fun v H1 p ρ1 q1 f1 o1=>k1 _ _ _ q1 o1.frz.1 (F.fr f1)
theorem bd(h:LE K te pe):LS K fs (xR te) (bX pe):=fun fx A R H0 ρ σ H D D' hf r F q k1 k2 k3 k4=>h A ρ σ H _ _ r q fun v H1 p ρ1 q1 f1 o1=>k2 v p ρ1 σ H1 q1 (o1.h0 F.dm) (F.fr f1)
theorem cL(ht:LT K tt pt)(ha:LS K fs ta pa)(hb:LS K fs tb pb):LS K fs (xS tt ta tb) (gK pt pa pb):=fun fx A R H0 ρ σ H D D' hf r F q k1 k2 k3 k4=>ht A ρ σ H _ _ r q fun c H1 ρ1 q1 f1 r1=>by
 cases c with
 | true=>exact ha fx A R H0 ρ1 σ H1 D D' hf r1 (F.fr f1) q1 k1 k2 k3 k4
 | false=>exact hb fx A R H0 ρ1 σ H1 D D' hf r1 (F.fr f1) q1 k1 k2 k3 k4
theorem aE{g:TG}{pg:PTG}(h:LE K te pe)(hg:LG K fs g pg):LS K fs (uI te g) (bh pe pg):=fun fx A R H0 ρ σ H D D' hf r F q k1 k2 k3 k4=>h A ρ σ H _ _ r q fun v H1 p ρ1 q1 f1 o1 =>
 hg fx A R H0 ρ1 σ H1 p v _ _ hf (F.fr f1) (o1.h0 F.dm) q1 k1
theorem fV(h:LS K fs ta pa):LS K fs (vp ta) (hG pa):=fun fx A R H0 ρ σ H D D' hf r F q k1 k2 k3 k4=>by
 obtain⟨J,q1,q2⟩:=q;refine⟨fun σ' H'=>∃ρ',J ρ'/\Rel K A ρ' σ' H'/\eA fx R H0 ρ' σ' H',?_,fun σ' H' ⟨ρ',j,r',F'⟩=>k1 ρ' σ' H' (q2 ρ' j) r' F'⟩;exact h fx A R H0 ρ σ H _ _ hf r F q1 (fun ρ' σ' H' j r' F'=>⟨ρ',j,r',F'⟩) k2 k3 k4
end
def uh(K:PySem.W.Frag)(tl:TE):TI:=fun σ H R=>tl σ H fun x H1=>(∃k a xs,x=.ref a/\Sq k K H1 a xs/\R (Itk k K a) H1)\/∃l,x=.str (S l)/\R (Its (bS l)) H1
section
variable {X:Cx}{tg:Expr}
theorem tz{l:Expr}{tl:TE}(hl:PE X l tl):PI X tg l (uh X.K tl):=by
 intro pins s σ H R I h;refine thn (hl pins s σ H _ I h) fun v s1 ⟨x,H1,I1,r1,q1⟩=>?_
 have fin:∀b∈[s1.heap.objs.size],mX X pins H1 b:=fun b hb=>by
  have e:b=s1.heap.objs.size:=by simpa using hb
  subst e;exact I1.fpOk (le_refl _) (I1.hok.fresh (le_refl _))
 rcases q1 with ⟨k,a,xs,e,hq,q⟩|⟨l,e,q⟩
 .subst e;cases r1
  cases k with
  | false =>
   obtain⟨its,rv,p,hz⟩:=I1.list hq;refine wpAny_pyIter_list p.isList ?_;exact⟨s1.heap.objs.size,[s1.heap.objs.size],_,_,H1,rfl,I1.kept (t':=s1.toks) fun b o e=>Heap.get?_push_of_some _ e,nR a _,⟨_,Heap.get?_push_size _ rfl,rfl,rfl⟩,fin,q⟩
  | true =>
   obtain⟨its,rv,p,hz⟩:=I1.tuple hq;refine wpAny_pyIter_tuple (show s1.heap.IsTuple a its.toArray from p) ?_;exact⟨s1.heap.objs.size,[s1.heap.objs.size],_,_,H1,rfl,I1.kept (t':=s1.toks) fun b o e=>Heap.get?_push_of_some _ e,mY a _,⟨_,Heap.get?_push_size _ rfl,rfl,rfl⟩,fin,q⟩
 .subst e;obtain⟨t,rfl⟩:=r1
  have hv:∀i v,i<(S l).cps.size->SignAt (S l) i v->∃x,(bS l)[i]?=some x/\cZ x v:=fun i v _ ⟨c,u,hc,e⟩=>by
   subst e;have hc':l[i]?=some c:=by simpa [S] using hc
   exact⟨.str (S [c]),by unfold bS;rw [getElem?_map,hc'];rfl,u,rfl⟩
  have hsc:∀i v,SignAt (S l) i v->∀a,v≠.ref a:=fun i v ⟨c,u,hc,e⟩ a z=>by subst e;cases z
  have hn:(bS l).length=(S l).cps.size:=by rw [bV];simp [S]
  have hobj:∀ty i (h:Heap),h.IsStrIter s1.heap.objs.size ty (S l) t i->∃o,h.get? s1.heap.objs.size=some o/\∀v,o.data≠.cell v:=fun ty i h ⟨o,ho,_,hd⟩=>⟨o,ho,fun v z=>by rw [hd] at z;cases z⟩
  have hfr:∀ty i (h h':Heap),h.IsStrIter s1.heap.objs.size ty (S l) t i->(∀b∈[s1.heap.objs.size],∀o,h.get? b=some o->h'.get? b=some o)->h'.IsStrIter s1.heap.objs.size ty (S l) t i:=fun ty i h h' ⟨o,ho,r⟩ k=>⟨o,k _ (by simp) o ho,r⟩
  cases ha:(S l).cps.all (·<128)
  .refine wpAny_pyIter_wide ha ⟨s1.heap.objs.size,[s1.heap.objs.size],_,Its (bS l),H1,rfl,I1.kept (t':=s1.toks) fun b o e=>Heap.get?_push_of_some _ e,
    gZ (fun A hA=>Walks.strWide hA _ (S l) t) hn hv hsc (hobj _) (hfr _) (fun A i s Q E st q=>wpAny_pyIter_striter_wide st q),⟨_,Heap.get?_push_size _ rfl,rfl,rfl⟩,fin,q⟩
  .refine wpAny_pyIter_ascii ha ⟨s1.heap.objs.size,[s1.heap.objs.size],_,Its (bS l),H1,rfl,I1.kept (t':=s1.toks) fun b o e=>Heap.get?_push_of_some _ e,
    gZ (fun A hA=>Walks.strAscii hA _ (S l) t) hn hv hsc (hobj _) (hfr _) (fun A i s Q E st q=>wpAny_pyIter_striter_ascii st q),⟨_,Heap.get?_push_size _ rfl,rfl,rfl⟩,fin,q⟩
theorem iO(K:PySem.W.Frag)(e:X.K=K){l:Expr}{tl:TE}(hl:PE X l tl):PI X tg l (uh K tl):=by subst e;exact tz hl
end
abbrev PTI:=PSt->(Nat->(Nat->D)->PSt->Prop)->Prop
def Wlk(K:PySem.W.Frag)(O:Addr->Prop)(H:Hp)(J:It)(n:Nat)(it:Nat->D):Prop:=∀(O':Addr->Prop) (H':Hp),aM O H O' H'->(∀b,O' b->H' b≠none) ->
 (∀k,k<n->J.go k H'/\∀x H'',J.yld k H' x H''->Gr H' H''/\FV K O' H'' x (it k))/\J.stop n H'
def LI(K:PySem.W.Frag)(wi:TI)(pi:PTI):Prop:=∀(A:Addr->Prop) (ρ:PSt) (σ:St) (H:Hp) (Q:Nat->(Nat->D)->PSt->Prop) (Q':It->Hp->Prop),Rel K A ρ σ H->pi ρ Q ->
 (∀J H' n it ρ',Q n it ρ'->Fr ρ σ H ρ' H'->Rel K A ρ' σ H'->Wlk K (OO A ρ' σ) H' J n it->Q' J H')->wi σ H Q'
def itD(ds:List D)(k:Nat):D:=ds.getD k .non
theorem km{ds:List D}{k:Nat}{d:D}(h:ds[k]?=some d):itD ds k=d:=by unfold itD;rw [getD_eq_getElem?_getD,h];rfl
def yk:D->Option (Nat×(Nat->D))
 | .lst ds=>some (ds.length,itD ds)
 | .tup ds=>some (ds.length,itD ds)
 | .scr ns=>some (ns.length,fun k=>.int (ns.getD k 0))
 | .str l=>some (l.length,fun k=>.str [l.getD k 0])
 | _=>none
def ly(pe:PTE):PTI:=fun ρ Q=>pe ρ fun p ρ1=>match yk p.d with
 | some (n,it)=>Q n it ρ1
 | none=>False
section
variable {K:PySem.W.Frag}{te:TE}{pe:PTE}{ta:TA}{pa:PTA}
theorem FV.row{O:Addr->Prop}{H:Hp}{v:V}{d:D}{n:Nat}{it:Nat->D}(h:FV K O H v d)(e:yk d=some (n,it)) :
  (∃k a xs,v=.ref a/\xs.length=n/\(∀O' H',aM O H O' H'->Sq k K H' a xs/\∀j x,xs[j]?=some x->FV K O' H' x (it j)))\/∃l,v=.str (S l)/\l.length=n/\(∀k,it k=.str [l.getD k 0]):=by
 cases h with
 | lst nn e0 f =>
  cases e;refine .inl ⟨false,_,_,rfl,f.length,fun O' H' k=>⟨SqL.of (k _ _ nn e0).2,fun j x hx=>?_⟩⟩;obtain⟨d,hd,fd⟩:=f.get hx;rw [km hd];exact fd.keeps k
 | tup nn e0 f =>
  cases e;refine .inl ⟨true,_,_,rfl,f.length,fun O' H' k=>⟨SqT.of (k _ _ nn e0).2,fun j x hx=>?_⟩⟩;obtain⟨d,hd,fd⟩:=f.get hx;rw [km hd];exact fd.keeps k
 | scr s =>
  cases e;refine .inl ⟨false,_,_,rfl,length_map _,fun O' H' k=>⟨(s.keeps k).sq,fun j x hx=>?_⟩⟩;obtain⟨z,hz,rfl⟩:=qs hx;show FV K O' H' (V.int z) (D.int (List.getD _ j 0));rw [getD_eq_getElem?_getD,hz];exact .int z
 | str l hl=>cases e;exact .inr ⟨l,rfl,rfl,fun _=>rfl⟩
 | non=>cases e
 | bl b=>cases e
 | int i=>cases e
 | ty n=>cases e
 | dic _ _ _ _=>cases e
 | obj _ _ _ _=>cases e
 | exc0 _ _=>cases e
 | exc1 _ _ _ _ _ _=>cases e
theorem iP(h:LE K te pe):LI K (uh K te) (ly pe):=fun A ρ σ H Q Q' R q k=>h A ρ σ H _ _ R q fun v H1 p ρ1 q1 f1 o1=>by
 obtain⟨R1,fv⟩:=o1.frz
 split at q1
 .rename_i n it e
  rcases fv.row e with ⟨b,a,xs,rfl,hl,hr⟩|⟨l,rfl,hl,hi⟩
  .refine .inl ⟨b,a,xs,rfl,(hr _ H1 (fun b o n h=>⟨n,h⟩)).1,k _ H1 n it ρ1 q1 f1 R1 fun O' H' kk dom=>?_⟩;obtain⟨sq,hx⟩:=hr O' H' kk
   cases b with
   | false =>
    refine⟨fun j hj=>⟨⟨xs,_,sq,getElem?_eq_getElem (by rw [hl];exact hj)⟩,fun x H'' ⟨e,y⟩=>?_⟩,⟨xs,sq,by rw [hl];exact le_refl _⟩⟩;subst e;exact⟨Gr.refl _,hx j x (y xs sq)⟩
   | true =>
    refine⟨fun j hj=>⟨⟨xs,_,sq,getElem?_eq_getElem (by rw [hl];exact hj)⟩,fun x H'' ⟨e,y⟩=>?_⟩,⟨xs,sq,by rw [hl];exact le_refl _⟩⟩;subst e;exact⟨Gr.refl _,hx j x (y xs sq)⟩
  .refine .inr ⟨l,rfl,k _ H1 n it ρ1 q1 f1 R1 fun O' H' kk dom=>?_⟩;refine⟨fun j hj=>⟨by show j<(bS l).length;rw [bV,hl];exact hj,fun x H'' ⟨e,y⟩=>?_⟩,by show (bS l).length=n;rw [bV,hl]⟩;subst e;obtain⟨c,hc,rfl⟩:=dF y;rw [hi,getD_eq_getElem?_getD,hc];exact⟨Gr.refl _,.str _ (by show 1<=1000000;decide)⟩
 .exact q1.elim
def rD(pa:PTA):PTI:=fun ρ Q=>pa ρ fun as ρ1=>match as with
 | [.v (.int j)]=>(-(2^60)<=j/\j<2^60)/\Q j.toNat (fun k=>.int (k:Int)) ρ1
 | _=>False
def wB(pa:PTA):PTI:=fun ρ Q=>pa ρ fun as ρ1=>match as with
 | [.v (.int i),.v (.int j)]=>(-(2^60)<=i/\i<2^60/\-(2^60)<=j/\j<2^60)/\Q (j - i).toNat (fun k=>.int (i+(k:Int))) ρ1
 | _=>False
def yl(pa:PTA):PTI:=fun ρ Q=>pa ρ fun as ρ1=>match as with
 | [.v (.int i),.v (.int j),.v (.int (-1))]=>(-(2^60)<=i/\i<2^60/\-(2^60)<=j/\j<2^60)/\Q (i - j).toNat (fun k=>.int (i - (k:Int))) ρ1
 | _=>False
theorem vK{O:Addr->Prop}{H:Hp}{lo:Int}{n:Nat}{it:Nat->D}(h:∀k:Nat,it k=.int (lo+k)):Wlk K O H (Itr lo n) n it:=fun O' H' _ _ =>
 ⟨fun j hj=>⟨hj,fun x H'' ⟨e,y⟩=>by subst e y;rw [h];exact⟨Gr.refl _,.int _⟩⟩,le_refl _⟩
theorem xo{O:Addr->Prop}{H:Hp}{lo:Int}{n:Nat}:Wlk K O H (Its (jf lo n)) n (fun k=>.int (lo - (k:Int))):=fun O' H' _ _ =>
 ⟨fun j hj=>⟨by show j<(jf lo n).length;rw [g6];exact hj,fun x H'' ⟨e,y⟩=>by subst e;rw [(oD y).2];exact⟨Gr.refl _,.int _⟩⟩,g6 _ _⟩
theorem lA(h:LAs K ta pa):LI K (qi ta) (rD pa):=fun A ρ σ H Q Q' R q k=>h A ρ σ H _ _ R q fun vs H1 as ρ1 q1 f1 R1 o1=>by
 split at q1
 .rename_i j
  cases o1 with
  | cons a b =>
   cases b;cases a;exact⟨j,rfl,by omega,by omega,k _ H1 _ _ ρ1 q1.2 f1 R1 (vK fun k=>by rw [Int.zero_add])⟩
 .exact q1.elim
theorem tD(h:LAs K ta pa):LI K (uJ ta) (wB pa):=fun A ρ σ H Q Q' R q k=>h A ρ σ H _ _ R q fun vs H1 as ρ1 q1 f1 R1 o1=>by
 split at q1
 .rename_i i j
  cases o1 with
  | cons a b =>
   cases b with
   | cons c d =>
    cases d;cases a;cases c;exact⟨i,j,rfl,⟨by omega,by omega,by omega,by omega⟩,k _ H1 _ _ ρ1 q1.2 f1 R1 (vK fun k=>rfl)⟩
 .exact q1.elim
theorem xp(h:LAs K ta pa):LI K (vd ta) (yl pa):=fun A ρ σ H Q Q' R q k=>h A ρ σ H _ _ R q fun vs H1 as ρ1 q1 f1 R1 o1=>by
 split at q1
 .rename_i i j
  cases o1 with
  | cons a b =>
   cases b with
   | cons c d =>
    cases d with
    | cons e f =>
     cases f;cases a;cases c;cases e;exact⟨i,j,rfl,q1.1,k _ H1 _ _ ρ1 q1.2 f1 R1 xo⟩
 .exact q1.elim
def rowD:D->Option (List D)
 | .lst ds=>some ds
 | .tup ds=>some ds
 | .scr ns=>some (ns.map .int)
 | _=>none
theorem FV.rowD{O:Addr->Prop}{H:Hp}{v:V}{d:D}{ds:List D}(h:FV K O H v d)(e:L2.rowD d=some ds) :
  ∃k a xs,v=.ref a/\xs.length=ds.length/\(∀O' H',aM O H O' H'->Sq k K H' a xs/\FVs K O' H' xs ds):=by
 cases h with
 | lst nn e0 f=>cases e;exact⟨false,_,_,rfl,f.length,fun O' H' k=>⟨SqL.of (k _ _ nn e0).2,f.keeps k⟩⟩
 | tup nn e0 f=>cases e;exact⟨true,_,_,rfl,f.length,fun O' H' k=>⟨SqT.of (k _ _ nn e0).2,f.keeps k⟩⟩
 | scr s=>cases e;exact⟨false,_,_,rfl,by rw [length_map,length_map],fun O' H' k=>⟨(s.keeps k).sq,FVs.of_ints _⟩⟩
 | str l hl=>cases e
 | non=>cases e
 | bl b=>cases e
 | int i=>cases e
 | ty n=>cases e
 | dic _ _ _ _=>cases e
 | obj _ _ _ _=>cases e
 | exc0 _ _=>cases e
 | exc1 _ _ _ _ _ _=>cases e
def xq(pa:PTA):PTI:=fun ρ Q=>pa ρ fun as ρ1=>match as with
 | [.v a,.v b]=>(match rowD a,rowD b with
  | some xs,some ys=>Q (min xs.length ys.length) (fun k=>.tup [itD xs k,itD ys k]) ρ1
  | _,_=>False)
 | _=>False
def rE(pa:PTA):PTI:=fun ρ Q=>pa ρ fun as ρ1=>match as with
 | [.v a]=>(match rowD a with
  | some xs=>Q xs.length (fun k=>.tup [.int (k:Int),itD xs k]) ρ1
  | _=>False)
 | _=>False
theorem vL(h:LAs K ta pa):LI K (wY K ta) (xq pa):=fun A ρ σ H Q Q' R q k=>h A ρ σ H _ _ R q fun vs H1 as ρ1 q1 f1 R1 o1=>by
 split at q1
 .rename_i da db
  cases o1 with
  | cons o1 o2 =>
   cases o2 with
   | cons o2 o3 =>
    cases o3
    split at q1
    .rename_i xs ys ex ey;obtain⟨b1,a1,us,rfl,l1,w1⟩:=FV.rowD (show FV K _ H1 _ da from o1) ex;obtain⟨b2,a2,ws,rfl,l2,w2⟩:=FV.rowD (show FV K _ H1 _ db from o2) ey;have t1:=w1 _ H1 (fun b o n h=>⟨n,h⟩);have t2:=w2 _ H1 (fun b o n h=>⟨n,h⟩);refine⟨b1,b2,a1,a2,rfl,⟨us,ws,t1.1,t2.1⟩,k _ H1 _ _ ρ1 q1 f1 R1 fun O' H' kk dom=>?_⟩;obtain⟨s1,g1⟩:=w1 O' H' kk;obtain⟨s2,g2⟩:=w2 O' H' kk;refine⟨fun j hj=>?_,⟨us,ws,s1,s2,by omega⟩⟩
     have h1:j<us.length:=by omega
     have h2:j<ws.length:=by omega
     refine⟨⟨us,ws,_,_,s1,s2,getElem?_eq_getElem h1,getElem?_eq_getElem h2⟩,fun x H'' ⟨T,u,w,hT,e,y1,y2,e2⟩=>?_⟩;subst e e2;obtain⟨d1,hd1,fd1⟩:=g1.get (y1 us s1);obtain⟨d2,hd2,fd2⟩:=g2.get (y2 ws s2);have e1:itD xs j=d1:=by unfold itD;rw [getD_eq_getElem?_getD,hd1];rfl
     have e2:itD ys j=d2:=by unfold itD;rw [getD_eq_getElem?_getD,hd2];rfl
     rw [e1,e2];have kk2:aM O' H' O' (upd H' T (.tup [u,w])):=fun b o n e=>⟨n,by rw [au (aQ e hT)];exact e⟩
     exact⟨Gr.new hT,.tup (fun z=>dom T z hT) aT (.cons (fd1.keeps kk2) (.cons (fd2.keeps kk2) .nil))⟩
    .exact q1.elim
 .exact q1.elim
theorem tE(h:LAs K ta pa):LI K (sR K ta) (rE pa):=fun A ρ σ H Q Q' R q k=>h A ρ σ H _ _ R q fun vs H1 as ρ1 q1 f1 R1 o1=>by
 split at q1
 .rename_i da
  cases o1 with
  | cons o1 o3 =>
   cases o3
   split at q1
   .rename_i xs ex;obtain⟨b1,a1,us,rfl,l1,w1⟩:=FV.rowD (show FV K _ H1 _ da from o1) ex;have t1:=w1 _ H1 (fun b o n h=>⟨n,h⟩);refine⟨b1,a1,rfl,⟨us,t1.1⟩,k _ H1 _ _ ρ1 q1 f1 R1 fun O' H' kk dom=>?_⟩;obtain⟨s1,g1⟩:=w1 O' H' kk;refine⟨fun j hj=>?_,⟨us,s1,by omega⟩⟩;have h1:j<us.length:=by omega
    refine⟨⟨us,_,s1,getElem?_eq_getElem h1⟩,fun x H'' ⟨T,u,hT,e,y1,e2⟩=>?_⟩;subst e e2;obtain⟨d1,hd1,fd1⟩:=g1.get (y1 us s1);have e1:itD xs j=d1:=by unfold itD;rw [getD_eq_getElem?_getD,hd1];rfl
    rw [e1];have kk2:aM O' H' O' (upd H' T (.tup [.int (j:Int),u])):=fun b o n e=>⟨n,by rw [au (aQ e hT)];exact e⟩
    exact⟨Gr.new hT,.tup (fun z=>dom T z hT) aT (.cons (.int _) (.cons (fd1.keeps kk2) .nil))⟩
   .exact q1.elim
 .exact q1.elim
end
def e7(pi:PTI)(g:PTG)(pb:PTS):PTS:=fun D ρ=>pi ρ fun n it ρ1=>∃I:Nat->PSt->Prop,I 0 ρ1/\(∀k ρ d,k<n->d=it k->I k ρ->g (.dat d) ρ fun ρ2=>pb { D with nx:=I (k+1),ct:=I (k+1),bk:=D.nx } ρ2)/\∀ρ,I n ρ->D.nx ρ
def lB(pt:PTT)(pb:PTS):PTS:=fun D ρ=>∃I:Nat->PSt->Prop,(∃m,I m ρ)/\∀m ρ,I m ρ->pt ρ fun b ρ1=>gj b (pb { D with nx:=fun ρ'=>∃m',m'<m/\I m' ρ',ct:=fun ρ'=>∃m',m'<m/\I m' ρ',bk:=D.nx } ρ1) (D.nx ρ1)
section
variable {K:PySem.W.Frag}{fs:List Nat}{wi:TI}{pi:PTI}{g:TG}{pg:PTG}{tb:TS}{pb:PTS}{tt:TT}{pt:PTT}
theorem c9(hi:LI K wi pi)(hg:LGd K fs g pg)(hb:LS K fs tb pb):LS K fs (xT wi g tb) (e7 pi pg pb):=fun fx A R H0 ρ σ H D D' hf r F q k1 k2 k3 k4=>hi A ρ σ H _ _ r q fun J H1 n it ρ1 q1 f1 r1 W=>by
 obtain⟨I,i0,turn,after⟩:=q1;have F1:=F.fr f1;refine⟨fun i m σ' H'=>i+m=n/\∃ρ',I i ρ'/\Rel K A ρ' σ' H'/\eA fx (Wr ρ1 σ) H1 ρ' σ' H',⟨n,Nat.zero_add n,ρ1,i0,r1,eA.start F1.fx⟩,fun i m σ' H' ⟨him,ρ',iv,r',F'⟩=>?_⟩;obtain⟨go,stop⟩:=W _ H' F'.keeps r'.dom2
 by_cases hk:i<n
 .obtain⟨g1,g2⟩:=go i hk;refine .inr ⟨g1,fun σ'' H''=>∃ρ'',I (i+1) ρ''/\Rel K A ρ'' σ'' H''/\eA fx (Wr ρ1 σ) H1 ρ'' σ'' H'',fun σ'' H'' z=>⟨m - 1,by omega,by omega,z⟩,fun x H'' y=>?_⟩;obtain⟨gr,fv⟩:=g2 x H'' y;refine hg fx A (Wr ρ1 σ) H1 ρ' σ' H'' _ x _ _ hf (F'.fr gr.fr) (r'.gr gr) fv (turn i ρ' _ hk rfl iv) fun ρ2 σ2 q2 r2 F2 _=>?_;refine hb fx A (Wr ρ1 σ) H1 ρ2 σ2 H'' _ _ hf r2 F2 q2 (fun ρ3 σ3 H3 q3 r3 F3=>⟨ρ3,q3,r3,F3⟩) (fun v p ρ3 σ3 H3 q3 o3 F3=>k2 v p ρ3 σ3 H3 q3 (o3.h0 F1.dm) (F1.trans F3 F3.fx)) (fun ρ3 σ3 H3 q3 r3 F3=>k1 ρ3 σ3 H3 q3 r3 (F1.trans F3 F3.fx)) (fun ρ3 σ3 H3 q3 r3 F3=>⟨ρ3,q3,r3,F3⟩)
 .have e:i=n:=by omega
  subst e;exact .inl ⟨stop,k1 ρ' σ' H' (after ρ' iv) r' (F1.trans F' F'.fx)⟩
theorem mx(ht:LT K tt pt)(hb:LS K fs tb pb):LS K fs (rm tt tb) (lB pt pb):=fun fx A R H0 ρ σ H D D' hf r F q k1 k2 k3 k4=>by
 obtain⟨I,⟨m0,i0⟩,turn⟩:=q;refine⟨fun m σ' H'=>∃ρ',I m ρ'/\Rel K A ρ' σ' H'/\eA fx R H0 ρ' σ' H',⟨m0,ρ,i0,r,F⟩,fun m σ' H' ⟨ρ',iv,r',F'⟩=>?_⟩;refine ht A ρ' σ' H' _ _ r' (turn m ρ' iv) fun b H1 ρ1 q1 f1 r1=>?_
 cases b with
 | true =>
  refine⟨fun σ'' H''=>∃ρ'' m',m'<m/\I m' ρ''/\Rel K A ρ'' σ'' H''/\eA fx R H0 ρ'' σ'' H'',fun σ'' H'' ⟨ρ'',m',h1,h2⟩=>⟨m',h1,ρ'',h2⟩,?_⟩;exact hb fx A R H0 ρ1 σ' H1 _ _ hf r1 (F'.fr f1) q1 (fun ρ3 σ3 H3 ⟨m',h1,h2⟩ r3 F3=>⟨ρ3,m',h1,h2,r3,F3⟩) k2 k1 (fun ρ3 σ3 H3 ⟨m',h1,h2⟩ r3 F3=>⟨ρ3,m',h1,h2,r3,F3⟩)
 | false=>exact k1 ρ1 σ' H1 q1 r1 (F'.fr f1)
end
def bC(ix:List (Option Nat))(ρ:PSt):PSt:=ix.map fun o=>match o with
 | none=>none
 | some j=>match ρ[j]? with
  | some v=>v
  | none=>none
def ej:List (Option Nat)->PSt->PSt->PSt
 | some j::ix,ρ,t::τ=>ej ix (ρ.set j t) τ
 | none::ix,ρ,_::τ=>ej ix ρ τ
 | _,ρ,_=>ρ
def tF:List (Option Nat)->Bool
 | []=>true
 | none::r=>tF r
 | some j::r=>!r.contains (some j) && tF r
theorem jr:∀(ix:List (Option Nat)) (ρ τ:PSt),(ej ix ρ τ).length=ρ.length
 | [],ρ,τ=>by unfold ej;rfl
 | some j::ix,ρ,t::τ=>by show (ej ix (ρ.set j t) τ).length=_;rw [jr ix,length_set]
 | none::ix,ρ,t::τ=>by show (ej ix ρ τ).length=_;exact jr ix ρ τ
 | some j::ix,ρ,[]=>by unfold ej;rfl
 | none::ix,ρ,[]=>by unfold ej;rfl
theorem gO:∀(ix:List (Option Nat)) (ρ τ:PSt) (j:Nat),some j∉ix->(ej ix ρ τ)[j]?=ρ[j]?
 | [],ρ,τ,j,_=>by unfold ej;rfl
 | some i::ix,ρ,t::τ,j,h=>by
  show (ej ix (ρ.set i t) τ)[j]?=_;rw [gO ix _ τ j (fun z=>h (mem_cons_of_mem _ z)),getElem?_set_ne (fun z=>h (by rw [z];exact mem_cons_self ..))]
 | none::ix,ρ,t::τ,j,h=>by show (ej ix ρ τ)[j]?=_;exact gO ix ρ τ j fun z=>h (mem_cons_of_mem _ z)
 | some i::ix,ρ,[],j,_=>by unfold ej;rfl
 | none::ix,ρ,[],j,_=>by unfold ej;rfl
theorem lC:∀(ix:List (Option Nat)) (ρ τ:PSt) (j k:Nat),tF ix=true->ix[k]?=some (some j)->k<τ.length->j<ρ.length->(ej ix ρ τ)[j]?=τ[k]?
 | some i::ix,ρ,t::τ,j,k,h,e,hk,hj=>by
  have h:(!ix.contains (some i) && tF ix)=true:=h;rw [and_eq_true] at h;show (ej ix (ρ.set i t) τ)[j]?=_
  cases k with
  | zero =>
   have e:some (some i)=some (some j):=e;cases e
   have hn:some i∉ix:=fun z=>by
    have:=h.1;rw [contains_iff_mem.mpr z] at this;cases this
   rw [gO ix _ τ i hn,getElem?_set_self hj];rfl
  | succ k =>
   have e:ix[k]?=some (some j):=by simpa using e
   rw [lC ix _ τ j k h.2 e (by simpa using hk) (by rw [length_set];exact hj)];simp
 | none::ix,ρ,t::τ,j,k,h,e,hk,hj=>by
  show (ej ix ρ τ)[j]?=_
  cases k with
  | zero=>cases e
  | succ k =>
   have e:ix[k]?=some (some j):=by simpa using e
   rw [lC ix _ τ j k h e (by simpa using hk) hj];simp
 | [],ρ,τ,j,k,h,e,hk,hj=>by simp at e
 | some i::ix,ρ,[],j,k,h,e,hk,hj=>absurd hk (not_lt_zero _)
 | none::ix,ρ,[],j,k,h,e,hk,hj=>absurd hk (not_lt_zero _)
theorem jt:∀{ix:List (Option Nat)}{k l j:Nat},tF ix=true->ix[k]?=some (some j)->ix[l]?=some (some j)->k=l
 | some i::ix,k,l,j,h,e1,e2=>by
  have h:(!ix.contains (some i) && tF ix)=true:=h;rw [and_eq_true] at h
  have no:∀m,ix[m]?≠some (some i):=fun m z=>by
   have:=h.1;rw [contains_iff_mem.mpr (mem_of_getElem? z)] at this;cases this
  cases k with
  | zero =>
   have e1:some (some i)=some (some j):=e1;cases e1
   cases l with
   | zero=>rfl
   | succ l=>exact absurd (by simpa using e2) (no l)
  | succ k =>
   cases l with
   | zero =>
    have e2:some (some i)=some (some j):=e2;cases e2;exact absurd (by simpa using e1) (no k)
   | succ l=>rw [jt (k:=k) (l:=l) h.2 (by simpa using e1) (by simpa using e2)]
 | none::ix,k,l,j,h,e1,e2=>by
  cases k with
  | zero=>cases e1
  | succ k =>
   cases l with
   | zero=>cases e2
   | succ l=>rw [jt (ix:=ix) (k:=k) (l:=l) (j:=j) h (by simpa using e1) (by simpa using e2)]
 | [],k,l,j,h,e1,e2=>by simp at e1
theorem eC{ix:List (Option Nat)}{ρ:PSt}{k:Nat}{p:PV}(h:(bC ix ρ)[k]?=some (some p)):∃j,ix[k]?=some (some j)/\ρ[j]?=some (some p):=by
 unfold bC at h;rw [getElem?_map] at h
 cases e:ix[k]? with
 | none=>rw [e] at h;cases h
 | some o =>
  rw [e] at h
  cases o with
  | none=>cases h
  | some j =>
   refine⟨j,rfl,?_⟩;have h:some (match ρ[j]? with|some v=>v|none=>none)=some (some p):=h
   cases e2:ρ[j]? with
   | none=>rw [e2] at h;cases h
   | some v=>rw [e2] at h;exact h
theorem eO{ix:List (Option Nat)}{σ:St}{k j:Nat}{v:V}(h:ix[k]?=some (some j))(e:σ[j]?=some (some v)):(oM ix σ)[k]?=some (some v):=by
 unfold oM;rw [getElem?_map,h];show some (match σ[j]? with|some v=>v|none=>none)=some (some v);rw [e]
theorem Rel.amb{K:PySem.W.Frag}{A:Addr->Prop}{ρ:PSt}{σ:St}{H:Hp}{a:Addr}{o:HO}(R:Rel K A ρ σ H)(ha:A a):Rel K A ρ σ (upd H a o):=by
 have k:aM (OO A ρ σ) H (OO A ρ σ) (upd H a o):=fun b u n e=>⟨n,by rw [au (fun z=>n (by rw [z];exact .inl ha))];exact e⟩
 refine⟨R.len,fun i q e=>?_,R.dj,fun b z=>?_,R.sep⟩
 .obtain⟨v,s,r⟩:=R.get i q e;refine⟨v,s,r.keeps k fun ow b eb=>?_⟩;rw [au];intro z;subst z eb;exact R.sep b ha ⟨i,q,e,ow,s⟩
 .by_cases z':b=a
  .rw [z',aT];exact nofun
  .rw [au z'];exact R.dom b z
def xr(ix:List (Option Nat))(ρ:PSt):Bool:=ix.all fun o=>match o with|none=>true|some j=>(match ρ[j]? with|some (some _)=>true|_=>false)
structure ju (ix:List (Option Nat)) (ρ1:PSt) (n:Nat) (it:Nat->D) (g:PTG) (pt:PTT) (pe:PTE) (Q:PKt):Prop where
 ex:∃I:Nat->List D->PSt->Prop,I 0 [] (bC ix ρ1) /\
  (∀k ys τ d,k<n->d=it k->I k ys τ->g (.dat d) τ fun τ2=>pt τ2 fun ok τ3=>gj ok (pe τ3 fun p τ4=>I (k+1) (ys++[p.d]) τ4) (I (k+1) ys τ3))/\∀ys τ,I n ys τ->Q (.own ys) (ej ix ρ1 τ)
def kn(ix:List (Option Nat))(pi:PTI)(g:PTG)(pt:PTT)(pe:PTE):PTE:=fun ρ Q=>pi ρ fun n it ρ1=>xr ix ρ1=true/\n<=1000000/\ju ix ρ1 n it g pt pe Q
def tG:PTT:=fun ρ Q=>Q true ρ
theorem o8{K:PySem.W.Frag}:LT K vq tG:=fun A ρ σ H Q Q' R q k=>k true H ρ q (Fr.refl _ _ _) R
def ui(ix:List (Option Nat)):List Nat:=(List.range ix.length).filter fun k=>(ix.getD k none).isSome
theorem e8{K:PySem.W.Frag}{ix:List (Option Nat)}{wi:TI}{pi:PTI}{g:TG}{pg:PTG}{tts:TT}{pt:PTT}{te:TE}{pe:PTE}(hix:tF ix=true)(hi:LI K wi pi)(hg:∀fs:List Nat,(∀k∈fs,k∈ui ix)->LGd K fs g pg)(ht:LT K tts pt)(he:LE K te pe) :
  LE K (qv ix wi g tts te) (kn ix pi pg pt pe):=fun A ρ σ H Q Q' R q k=>hi A ρ σ H _ _ R q fun J H1 n it ρ1 q1 f1 R1 W D hD=>by
 obtain⟨hcap,hn,⟨I,i0,turn,after⟩⟩:=q1
 let τρ0:=bC ix ρ1
 let τσ0:=oM ix σ
 let Ai:Addr->Prop:=fun b=>A b\/b=D\/(Wr ρ1 σ b/\¬ Wr τρ0 τσ0 b)
 let H0':=upd H1 D (.lst [])
 have wsub:∀b,Wr τρ0 τσ0 b->Wr ρ1 σ b:=fun b ⟨m,p,e,o,s⟩=>by
  obtain⟨j,h1,h2⟩:=eC e;obtain⟨v,hv,_⟩:=R1.get j p h2;have:=eO h1 hv;rw [s] at this;cases this;exact⟨j,p,h2,o,hv⟩
 have nD:¬ Wr ρ1 σ D:=fun z=>R1.wr z hD
 have oosub:∀b,OO Ai τρ0 τσ0 b->OO A ρ1 σ b\/b=D:=fun b z=>by
  rcases z with (z|z|z)|z
  .exact .inl (.inl z)
  .exact .inr z
  .exact .inl (.inr z.1)
  .exact .inl (.inr (wsub b z))
 have kD:aM (OO A ρ1 σ) H1 (OO Ai τρ0 τσ0) H0':=fun b o nn e=>by
  refine⟨fun z=>?_,?_⟩
  .rcases oosub b z with z|z
   .exact nn z
   .rw [z,hD] at e;cases e
  .rw [show H0' b=H1 b from au (aQ e hD)];exact e
 have Ri:Rel K Ai τρ0 τσ0 H0':=by
  refine⟨by show (bC ix ρ1).length=(oM ix σ).length;unfold bC oM;rw [length_map,length_map],fun m p e=>?_,fun m l p q v e1 e2 o1 o2 s1 s2=>?_,fun b z=>?_,fun b z w=>?_⟩
  .obtain⟨j,h1,h2⟩:=eC e;obtain⟨v,hv,r⟩:=R1.get j p h2;refine⟨v,eO h1 hv,r.keeps kD fun ow a ea=>?_⟩;subst ea;exact au (fun z=>nD (by rw [<- z];exact⟨j,p,h2,ow,hv⟩))
  .obtain⟨j,h1,h2⟩:=eC e1;obtain⟨j',h3,h4⟩:=eC e2;obtain⟨v1,hv1,_⟩:=R1.get j p h2;obtain⟨v2,hv2,_⟩:=R1.get j' q h4;have t1:=eO h1 hv1;have t2:=eO h3 hv2;rw [s1] at t1;rw [s2] at t2;cases t1;cases t2;have:=R1.dj j j' p q _ h2 h4 o1 o2 hv1 hv2;subst this;exact jt hix h1 h3
  .rcases z with z|z|z
   .intro e
    by_cases zz:b=D
    .exact R1.dom b z (by rw [zz];exact hD)
    .rw [show H0' b=H1 b from au zz] at e;exact R1.dom b z e
   .rw [z];show upd H1 D _ D≠none;rw [aT];exact nofun
   .intro e;rw [show H0' b=H1 b from au (fun zz=>nD (by rw [<- zz];exact z.1))] at e;exact R1.wr z.1 e
  .rcases z with z|z|z
   .exact R1.sep b z (wsub b w)
   .rw [z] at w;exact nD (wsub D w)
   .exact z.2 w
 let fxi:List (Nat×V):=(ui ix).filterMap fun m=>match (τσ0[m]?) with|some (some v)=>some (m,v)|_=>none
 have hfx:∀p∈fxi,τσ0[p.1]?=some (some p.2):=fun p hp=>by
  obtain⟨m,hm,e⟩:=mem_filterMap.mp hp
  split at e
  .rename_i v ev;cases e;exact ev
  .cases e
 have hfs:∀m∈fxi.map Prod.fst,m∈ui ix:=fun m hm=>by
  obtain⟨p,hp,rfl⟩:=mem_map.mp hm;obtain⟨m',hm',e⟩:=mem_filterMap.mp hp
  split at e
  .cases e;exact hm'
  .cases e
 have hgi:=hg (fxi.map Prod.fst) hfs
 have fxget:∀(m j:Nat) (v:V),ix[m]?=some (some j)->σ[j]?=some (some v)->(m,v)∈fxi:=fun m j v h1 h2=>by
  refine mem_filterMap.mpr ⟨m,?_,?_⟩
  .unfold ui;refine mem_filter.mpr ⟨mem_range.mpr (List.getElem?_eq_some_iff.mp h1).1,?_⟩;rw [getD_eq_getElem?_getD,h1];rfl
  .show (match (oM ix σ)[m]? with|some (some v)=>some (m,v)|_=>none)=_;rw [eO h1 h2]
 let Rr:Addr->Prop:=fun b=>Wr τρ0 τσ0 b\/b=D
 have hRr:∀b,Rr b->OO Ai τρ0 τσ0 b:=fun b z=>z.elim (fun z=>.inr z) (fun z=>.inl (.inr (.inl z)));have F0:eA fxi Rr H0' τρ0 τσ0 H0':=⟨fun _ _ _ h=>h,fun _ h=>h,fun b w=>.inl (.inl w),hfx⟩
 refine⟨fun i m τ H2=>i+m=n/\∃ys τρ xs,I i ys τρ/\ys.length<=i/\Rel K Ai τρ τ H2/\eA fxi Rr H0' τρ τ H2/\H2 D=some (.lst xs)/\FVs K (OO Ai τρ τ) H2 xs ys/\∀b,Wr τρ τ b->Wr τρ0 τσ0 b,
  ⟨n,Nat.zero_add n,[],τρ0,[],i0,le_refl _,Ri,F0,aT,.nil,fun _ h=>h⟩,fun i m τ H2 ⟨him,ys,τρ,xs,iv,hy,r2,F2,eD,fD,hw⟩=>?_⟩
 have kk:aM (OO A ρ1 σ) H1 (OO Ai τρ τ) H2:=fun b o nn e=>(F2.keepsR hRr) b o (kD b o nn e).1 (kD b o nn e).2;obtain⟨go,stop⟩:=W _ H2 kk r2.dom2
 by_cases hk:i<n
 .obtain⟨g1,g2⟩:=go i hk;refine .inr ⟨g1,fun x H3 y=>?_⟩;obtain⟨gr,fv⟩:=g2 x H3 y;have AiD:Ai D:=.inr (.inl rfl);refine hgi fxi Ai Rr H0' τρ τ H3 _ x _ _ rfl (F2.fr gr.fr) (r2.gr gr) fv (turn i ys τρ _ hk rfl iv) fun τρ2 τ2 q2 r3 F3 w3=>?_;refine ht Ai τρ2 τ2 H3 _ _ r3 q2 fun ok H5 τρ3 q3 f5 r5=>?_;have F5:=F3.fr f5;have fD5:FVs K (OO Ai τρ3 τ2) H5 xs ys:=((fD.keeps (gr.fr (ρ:=τρ) (σ:=τ)).keeps).keeps (aM.less fun b z=>z.imp id (w3 b))).keeps f5.keeps
  have eD5:H5 D=some (.lst xs):=f5.kp D _ (r3.sep D AiD) (gr D _ eD)
  cases ok with
  | true =>
   refine he Ai τρ3 τ2 H5 _ _ r5 q3 fun v H6 p τρ4 q4 f6 o6=>?_;obtain⟨r6,fv6⟩:=o6.frz;have F6:=F5.fr f6;have eD6:H6 D=some (.lst xs):=f6.kp D _ (r5.sep D AiD) eD5;have kw:aM (OO Ai τρ4 τ2) H6 (OO Ai τρ4 τ2) (upd H6 D (.lst (xs++[v]))):=fun b o nn e=>⟨nn,by rw [au (fun z=>nn (by rw [z];exact .inl AiD))];exact e⟩
   refine⟨xs,eD6,?_,m - 1,by omega,by omega,ys++[p.d],τρ4,xs++[v],q4,by rw [length_append];show _+1<=_;omega,r6.amb AiD,⟨fun b o nn e=>?_,fun b z=>?_,F6.ow,F6.fx⟩,aT,((fD5.keeps f6.keeps).append (.cons fv6 .nil)).keeps kw,fun b z=>hw b (w3 b (f5.ow b (f6.ow b z)))⟩
   .have:xs.length=ys.length:=fD.length;exact lt_of_lt_of_le (by omega:xs.length<1000000) (sz _ (le_refl _))
   .rw [au (fun z=>nn (.inr z))];exact F6.kp b o nn e
   .by_cases zz:b=D
    .rw [zz,aT];exact nofun
    .rw [au zz];exact F6.dm b z
  | false=>exact⟨m - 1,by omega,by omega,ys,τρ3,xs,q3,by omega,r5,F5,eD5,fD5,fun b z=>hw b (w3 b (f5.ow b z))⟩
 .have e:i=n:=by omega
  subst e;refine .inl ⟨stop,?_⟩;have q':=after ys τρ iv
  have cap:∀(m j:Nat),ix[m]?=some (some j)->∃p v,ρ1[j]?=some (some p)/\σ[j]?=some (some v)/\τ[m]?=some (some v):=fun m j e=>by
   have h1:=all_eq_true.mp hcap _ (mem_of_getElem? e);have h1:(match ρ1[j]? with|some (some _)=>true|_=>false)=true:=h1
   split at h1
   .rename_i p ep;obtain⟨v,hv,_⟩:=R1.get j p ep;exact⟨p,v,ep,hv,F2.fx _ (fxget m j v e hv)⟩
   .cases h1
  have get':∀(j:Nat) (p:PV),(ej ix ρ1 τρ)[j]?=some (some p)->(∃m v,ix[m]?=some (some j)/\σ[j]?=some (some v)/\τ[m]?=some (some v)/\τρ[m]?=some (some p))\/(some j∉ix/\ρ1[j]?=some (some p)):=fun j p e=>by
   by_cases hj:some j∈ix
   .obtain⟨m,hm,em⟩:=getElem_of_mem hj;have em':ix[m]?=some (some j):=by rw [getElem?_eq_getElem hm,em]
    obtain⟨p0,v,h1,h2,h3⟩:=cap m j em';rw [lC ix ρ1 τρ j m hix em' (by rw [r2.len];exact (List.getElem?_eq_some_iff.mp h3).1) (List.getElem?_eq_some_iff.mp h1).1] at e;exact .inl ⟨m,v,em',h2,h3,e⟩
   .rw [gO ix ρ1 τρ j hj] at e;exact .inr ⟨hj,e⟩
  have nocap:∀(j:Nat) (p:PV) (b:Addr),some j∉ix->ρ1[j]?=some (some p)->p.isOwn=true->σ[j]?=some (some (.ref b))->¬ Wr τρ0 τσ0 b:=fun j p b hj e o s ⟨m,q,e1,o1,s1⟩=>by
   obtain⟨j',h1,h2⟩:=eC e1;obtain⟨v,hv,_⟩:=R1.get j' q h2;have:=eO h1 hv;rw [s1] at this;cases this;have:=R1.dj j j' p q _ e h2 o o1 s hv;subst this;exact hj (mem_of_getElem? h1)
  have w':∀b,Wr (ej ix ρ1 τρ) σ b->Wr τρ τ b\/(Wr ρ1 σ b/\¬ Wr τρ0 τσ0 b):=fun b ⟨j,p,e,o,s⟩=>by
   rcases get' j p e with ⟨m,v,h1,h2,h3,h4⟩|⟨hj,h1⟩
   .rw [s] at h2;cases h2;exact .inl ⟨m,p,h4,o,h3⟩
   .exact .inr ⟨⟨j,p,h1,o,s⟩,nocap j p b hj h1 o s⟩
  have oo':∀b,OO (ei A D) (ej ix ρ1 τρ) σ b->OO Ai τρ τ b:=fun b z=>by
   rcases z with (z|z)|z
   .exact .inl (.inl z)
   .exact .inl (.inr (.inl z))
   .rcases w' b z with z|z
    .exact .inr z
    .exact .inl (.inr (.inr z))
  have kp1:∀b o,¬ Wr τρ0 τσ0 b->b≠D->H1 b=some o->H2 b=some o:=fun b o n1 n2 e=>F2.kp b o (fun z=>z.elim n1 n2) (by rw [show H0' b=H1 b from au n2];exact e);have k1:aM (OO A ρ1 σ) H1 (OO (ei A D) (ej ix ρ1 τρ) σ) H2:=fun b o nn e=>⟨fun z=>(kk b o nn e).1 (oo' b z),(kk b o nn e).2⟩
  have AiD:Ai D:=.inr (.inl rfl)
  have R':Rel K (ei A D) (ej ix ρ1 τρ) σ H2:=by
   refine⟨by rw [jr];exact R1.len,fun j p e=>?_,fun j l p q v e1 e2 o1 o2 s1 s2=>?_,fun b z=>?_,fun b z w=>?_⟩
   .rcases get' j p e with ⟨m,v,h1,h2,h3,h4⟩|⟨hj,h1⟩
    .obtain⟨v',hv',r⟩:=r2.get m p h4;rw [h3] at hv';cases hv';exact⟨v,h2,r.keeps (aM.less oo') fun _ _ _=>rfl⟩
    .obtain⟨v,hv,r⟩:=R1.get j p h1;refine⟨v,hv,r.keeps k1 fun ow a ea=>?_⟩;subst ea;obtain⟨a',u,e1,e2⟩:=r.ref ow;cases e1;rw [e2];exact kp1 a u (nocap j p a hj h1 ow hv) (fun z=>by rw [z,hD] at e2;cases e2) e2
   .rcases get' j p e1 with ⟨m,v1,h1,h2,h3,h4⟩|⟨hj,h1⟩
    .rw [s1] at h2;cases h2
     rcases get' l q e2 with ⟨m',v2,g1,g2,g3,g4⟩|⟨hl,g1⟩
     .rw [s2] at g2;cases g2;have:=r2.dj m m' p q _ h4 g4 o1 o2 h3 g3;subst this;rw [h1] at g1;cases g1;rfl
     .exfalso;obtain⟨v',hv',r⟩:=r2.get m p h4;rw [h3] at hv';cases hv';obtain⟨a,u,ea,_⟩:=r.ref o1;subst ea;exact nocap l q a hl g1 o2 s2 (hw a ⟨m,p,h4,o1,h3⟩)
    .rcases get' l q e2 with ⟨m',v2,g1,g2,g3,g4⟩|⟨hl,g1⟩
     .rw [s2] at g2;cases g2;exfalso;obtain⟨v',hv',r⟩:=r2.get m' q g4;rw [g3] at hv';cases hv';obtain⟨a,u,ea,_⟩:=r.ref o2;subst ea;exact nocap j p a hj h1 o1 s1 (hw a ⟨m',q,g4,o2,g3⟩)
     .exact R1.dj j l p q v h1 g1 o1 o2 s1 s2
   .rcases z with z|z
    .exact r2.dom b (.inl z)
    .rw [z,eD];exact nofun
   .rcases w' b w with w|w
    .rcases z with z|z
     .exact r2.sep b (.inl z) w
     .rw [z] at w;exact r2.sep D AiD w
    .rcases z with z|z
     .exact R1.sep b z w.1
     .rw [z] at w;exact nD w.1
  have f2:Fr ρ1 σ H1 (ej ix ρ1 τρ) H2:=by
   refine⟨fun b o nn e=>kp1 b o (fun z=>nn (wsub b z)) (fun z=>by rw [z,hD] at e;cases e) e,fun b z=>F2.dm b ?_,fun b z=>?_⟩
   .intro e
    by_cases zz:b=D
    .exact z (by rw [zz];exact hD)
    .rw [show H0' b=H1 b from au zz] at e;exact z e
   .rcases w' b z with z|z
    .exact wsub b (hw b z)
    .exact z.1
  have hD0:H D=none:=by
   cases e:H D with
   | none=>rfl
   | some o=>exact absurd hD (f1.dm D (by rw [e];exact nofun))
  exact k _ H2 (.own ys) _ q' (f1.trans f2) ⟨D,xs,rfl,fun z=>R1.dom D z hD,hD0,eD,R',fD.keeps (aM.less oo')⟩
section
variable {K:PySem.W.Frag}{A A':Addr->Prop}{ρ:PSt}{σ:St}{H H':Hp}
theorem Rel.step(R:Rel K A ρ σ H){i:Nat}{p q:PV}{a:Addr}(e:ρ[i]?=some (some p))(ow:p.isOwn=true)(ow':q.isOwn=true)(es:σ[i]?=some (some (.ref a)))
  (kp:∀b o,b≠a->H b=some o->H' b=some o) (ha:H' a≠none) (h1:∀b,A b->A' b) (h2:∀b,A' b->A b\/H b=none) (dom':∀b,A' b->H' b≠none)
  (new:RS K (OO A' ρ σ) H' q (.ref a)):Rel K A' (ρ.set i (some q)) σ H'/\Fr ρ σ H (ρ.set i (some q)) H':=by
 have hi:i<ρ.length:=(List.getElem?_eq_some_iff.mp e).1;have wa:Wr ρ σ a:=⟨i,p,e,ow,es⟩
 have weq:∀b,Wr (ρ.set i (some q)) σ b ↔ Wr ρ σ b:=fun b=>by
  constructor
  .rintro⟨j,r,e1,o1,s1⟩
   by_cases z:i=j
   .subst z;exact⟨i,p,e,ow,s1⟩
   .rw [getElem?_set_ne z] at e1;exact⟨j,r,e1,o1,s1⟩
  .rintro⟨j,r,e1,o1,s1⟩
   by_cases z:i=j
   .subst z;exact⟨i,q,getElem?_set_self hi,ow',s1⟩
   .exact⟨j,r,by rw [getElem?_set_ne z];exact e1,o1,s1⟩
 have oeq:OO A' (ρ.set i (some q)) σ=OO A' ρ σ:=funext fun b=>propext (or_congr Iff.rfl (weq b));have kp1:∀b u,¬ Wr ρ σ b->H b=some u->H' b=some u:=fun b u n h=>kp b u (fun z=>n (by rw [z];exact wa)) h
 have k:aM (OO A ρ σ) H (OO A' ρ σ) H':=fun b u n h=>by
  refine⟨fun z=>?_,kp1 b u (fun z=>n (.inr z)) h⟩
  rcases z with z|z
  .rcases h2 b z with z|z
   .exact n (.inl z)
   .rw [z] at h;cases h
  .exact n (.inr z)
 have dm:∀b,H b≠none->H' b≠none:=fun b n=>by
  by_cases z:b=a
  .rw [z];exact ha
  .cases eb:H b with
   | none=>exact absurd eb n
   | some o=>rw [kp b o z eb];exact nofun
 refine⟨⟨by rw [length_set];exact R.len,fun j r e1=>?_,fun j l p1 q1 v e1 e2 o1 o2 s1 s2=>?_,dom',fun b z w=>?_⟩,⟨kp1,dm,fun b w=>(weq b).mp w⟩⟩
 .rw [oeq]
  by_cases z:i=j
  .subst z;rw [getElem?_set_self hi] at e1;cases e1;exact⟨_,es,new⟩
  .rw [getElem?_set_ne z] at e1;obtain⟨v,s,rr⟩:=R.get j r e1;refine⟨v,s,rr.keeps k fun ow2 b eb=>?_⟩;obtain⟨b',u,e3,e4⟩:=rr.ref ow2;rw [eb] at e3;cases e3;rw [e4];refine kp b u (fun zz=>?_) e4;subst zz;rw [eb] at s;exact z (R.dj i j p r _ e e1 ow ow2 es s)
 .have ex:∀(m:Nat) (x:PV),(ρ.set i (some q))[m]?=some (some x)->x.isOwn=true->∃y:PV,ρ[m]?=some (some y)/\y.isOwn=true:=fun m x em ox=>by
   by_cases z:i=m
   .subst z;exact⟨p,e,ow⟩
   .rw [getElem?_set_ne z] at em;exact⟨x,em,ox⟩
  obtain⟨y1,g1,g2⟩:=ex j p1 e1 o1;obtain⟨y2,g3,g4⟩:=ex l q1 e2 o2;exact R.dj j l y1 y2 v g1 g3 g2 g4 s1 s2
 .rcases h2 b z with z|z
  .exact R.sep b z ((weq b).mp w)
  .exact R.wr ((weq b).mp w) z
theorem Rel.lstw(R:Rel K A ρ σ H){i:Nat}{ds es:List D}{a:Addr}{ys:List V}(e:ρ[i]?=some (some (.own ds)))(es':σ[i]?=some (some (.ref a)))(f:FVs K (OO A ρ σ) H ys es) :
  Rel K A (ρ.set i (some (.own es))) σ (upd H a (.lst ys))/\Fr ρ σ H (ρ.set i (some (.own es))) (upd H a (.lst ys)):=by
 have wa:OO A ρ σ a:=.inr ⟨i,_,e,rfl,es'⟩;exact R.write (q:=.own es) e rfl rfl es' ⟨a,ys,rfl,aT,f.keeps fun b u n h=>⟨n,by rw [au (fun z=>n (by rw [z];exact wa))];exact h⟩⟩
theorem Rel.ownAt(R:Rel K A ρ σ H){i:Nat}{ds:List D}(e:ρ[i]?=some (some (.own ds))):∃a xs,σ[i]?=some (some (.ref a))/\H a=some (.lst xs)/\FVs K (OO A ρ σ) H xs ds:=by
 obtain⟨v,s,a,xs,rfl,g,f⟩:=R.get i _ e;exact⟨a,xs,s,g,f⟩
end
def tH(i:Nat)(pe:PTE):PTE:=fun ρ Q=>match ρ[i]? with
 | some (some (.own _))=>pe ρ fun p ρ1=>(match ρ1[i]? with
  | some (some (.own ds))=>ds.length<1000000/\Q (.dat .non) (ρ1.set i (some (.own (ds++[p.d]))))
  | _=>False)
 | _=>False
def xt(i:Nat):PTE:=fun ρ Q=>match ρ[i]? with
 | some (some (.own ds))=>∃d,ds[ds.length - 1]?=some d/\Q (.dat d) (ρ.set i (some (.own ds.dropLast)))
 | _=>False
section
variable {K:PySem.W.Frag}{te tk:TE}{pe pk:PTE}{fs:List Nat}
theorem ko{i:Nat}(h:LE K te pe):LE K (tBM K "list" oj (dB i) (cX te md)) (tH i pe):=fun A ρ σ H Q Q' R q k=>by
 unfold tH at q
 split at q
 .rename_i ds0 e0;obtain⟨a0,xs0,s0,g0,f0⟩:=R.ownAt e0;refine⟨_,s0,.inl ⟨rfl,xs0,SqL.of g0⟩,h A ρ σ H _ _ R q fun v H1 p ρ1 q1 f1 o1=>?_⟩;obtain⟨R1,fv⟩:=o1.frz
  split at q1
  .rename_i ds e1;obtain⟨a,xs,s,g,f⟩:=R1.ownAt e1;rw [s0] at s;cases s;obtain⟨R2,f2⟩:=R1.lstw e1 s0 (f.append (.cons fv .nil));exact⟨a0,xs,v,rfl,rfl,g,lt_of_lt_of_le (by rw [f.length];exact q1.1) (sz _ (le_refl _)),k _ _ _ _ q1.2 (f1.trans f2) ⟨R2,.non⟩⟩
  .exact q1.elim
 .exact q.elim
theorem vM{i:Nat}:LE K (x6 K "list" x8 (dB i)) (xt i):=fun A ρ σ H Q Q' R q k=>by
 unfold xt at q
 split at q
 .rename_i ds e;obtain⟨d,hd,q⟩:=q;obtain⟨a,xs,s,g,f⟩:=R.ownAt e;obtain⟨v,hv,fv⟩:=f.getD hd;obtain⟨R2,f2⟩:=R.lstw (es:=ds.dropLast) (ys:=xs.dropLast) e s (by rw [dropLast_eq_take,dropLast_eq_take,f.length];exact f.take _);exact⟨_,s,.inl ⟨rfl,xs,SqL.of g⟩,a,xs,v,rfl,rfl,g,by rw [f.length];exact hv,k _ _ _ _ q f2 ⟨R2,(fv.keeps f2.keeps)⟩⟩
 .exact q.elim
end
def spP(K:PySem.W.Frag)(c:FN):Sp:=fun vs H Q _=>∃(O:Addr->Prop) (ds:List D) (Qc:PV->Prop),(∀b,O b->H b≠none)/\FVs K O H vs ds/\c ds Qc/\∀r,Qc r->∀v H',Gr H H'->ny K O H H' r v->Q v H'
def cH(c:FN)(pr:PTA):PTE:=fun ρ Q=>pr ρ fun as ρ1=>match avD as with
 | some ds=>c ds fun r=>Q r ρ1
 | none=>False
theorem hX{N:List Str}{vs:List V}{i:Nat}{v:V}(h:vs[i]?=some v):(start N vs)[i]?=some (some v):=by
 unfold start;rw [getElem?_append_left (by rw [length_map];exact (List.getElem?_eq_some_iff.mp h).1),getElem?_map,h];rfl
def cJ(n:Nat)(ps:List PV):PSt:=ps.map some++List.replicate (n - ps.length) none
theorem dJ{n:Nat}{ps:List PV}{i:Nat}{p:PV}(h:(cJ n ps)[i]?=some (some p)):ps[i]?=some p:=by
 unfold cJ at h
 by_cases hi:i<ps.length
 .rw [getElem?_append_left (by rw [length_map];exact hi),getElem?_map] at h
  cases e:ps[i]? with
  | none=>rw [e] at h;cases h
  | some q=>rw [e] at h;cases h;rfl
 .rw [getElem?_append_right (by rw [length_map];omega)] at h;have:=mem_of_getElem? h;rw [mem_replicate] at this;cases this.2
section
variable {K:PySem.W.Frag}{tr:TA}{pr:PTA}{ts:TS}{ps:PTS}
theorem bE{c:FN}(h:LAs K tr pr):LE K (gS (spP K c) [] E0 tr) (cH c pr):=fun A ρ σ H Q Q' R q k=>h A ρ σ H _ _ R q fun vs H1 as ρ1 q1 f1 R1 o1=>by
 split at q1
 .rename_i ds e;rw [append_nil];exact⟨OO A ρ1 σ,ds,_,R1.dom2,o1.avD e,q1,fun r qr v H' g ov=>k v H' r ρ1 qr (f1.trans g.fr) ((ov.out R1 g).h0 f1.dm)⟩
 .exact q1.elim
theorem Out.outV{O:Addr->Prop}{ρ:PSt}{σ:St}{H H':Hp}{p:PV}{v:V}(h:Out K O ρ σ H H' p v):ny K O H H' p v:=by
 cases p with
 | dat d=>exact h.2.keeps (aM.less fun b z=>.inl z)
 | own ds =>
  obtain⟨a,xs,e1,na,e2,e3,R,f⟩:=h;exact⟨a,xs,e1,e2,e3,f.keeps (aM.less fun b z=>.inl z)⟩
 | ins c ns ds =>
  obtain⟨a,dx,fs,e1,na,e2,e3,m,R,f⟩:=h;exact⟨a,dx,fs,e1,e2,e3,m,f.keeps (aM.less fun b z=>.inl z)⟩
theorem fnP{c:FN}{N:List Str}(hl:LS K [] ts ps)(hn:∀ds Q,c ds Q->ds.length<=N.length)(hc:∀ds Q,c ds Q->ps { nx:=fun _=>Q (.dat .non),rt:=fun p _=>Q p } (cJ N.length (ds.map .dat)))
  {vs:List V}{H:Hp}{Q:VK}{E:XK} (h:spP K c vs H Q E):ts { nx:=fun _ H'=>Q .non H',rt:=Q } (start N vs) H:=by
 obtain⟨O,ds,Qc,dom,fv,hq,k⟩:=h
 have nw:∀(ρ:PSt) (b:Addr),ρ=cJ N.length (ds.map .dat)->¬ Wr ρ (start N vs) b:=fun ρ b e ⟨i,p,e1,o1,s1⟩=>by
  rw [e] at e1;have:=dJ e1;rw [getElem?_map] at this
  cases e2:ds[i]? with
  | none=>rw [e2] at this;cases this
  | some d=>rw [e2] at this;cases this;cases o1
 have lenv:=fv.length;have hle:=hn ds Qc hq
 have R0:Rel K O (cJ N.length (ds.map .dat)) (start N vs) H:=by
  refine⟨?_,fun i p e=>?_,fun i j p q v e1 e2 o1 o2 s1 s2=>?_,dom,fun b _ w=>nw _ b rfl w⟩
  .unfold cJ start;rw [length_append,length_append,length_map,length_map,length_map,length_replicate,length_replicate,lenv]
  .have:=dJ e;rw [getElem?_map] at this
   cases e2:ds[i]? with
   | none=>rw [e2] at this;cases this
   | some d =>
    rw [e2] at this;cases this;obtain⟨v,hv,f⟩:=fv.getD e2;exact⟨v,hX hv,f.keeps (aM.less fun b z=>z.elim id fun w=>absurd w (nw _ b rfl))⟩
  .have:=dJ e1;rw [getElem?_map] at this
   cases e3:ds[i]? with
   | none=>rw [e3] at this;cases this
   | some d=>rw [e3] at this;cases this;cases o1
 refine hl [] O (fun _=>False) H _ _ H _ _ rfl R0 ⟨fun _ _ _ h=>h,fun _ h=>h,fun b w=>absurd w (nw _ b rfl),fun p hp=>nomatch hp⟩ (hc ds Qc hq) (fun ρ' σ' H' q r F=>?_) (fun v p ρ' σ' H' q o F=>?_) (fun _ _ _ z=>z.elim) (fun _ _ _ z=>z.elim)
 .exact k _ q .non H' (fun b o e=>F.kp b o id e) .non
 .exact k _ q v H' (fun b o e=>F.kp b o id e) o.outV
abbrev FR:=PV->List D->(PV->PV->Prop)->Prop
def spR(K:PySem.W.Frag)(c:FR):Sp:=fun vs H Q _=>∃(A:Addr->Prop) (a:Addr) (p:PV) (ws:List V) (ds:List D) (Qc:PV->PV->Prop),vs=.ref a::ws/\p.isOwn=true/\(∀b,A b->H b≠none)/\¬ A a/\RS K (ei A a) H p (.ref a)/\FVs K (ei A a) H ws ds/\c p ds Qc /\
 ∀r p',Qc r p'->p'.isOwn=true->∀v H',(∀b o,b≠a->H b=some o->H' b=some o)->H' a≠none->RS K (ei A a) H' p' (.ref a)->ny K (ei A a) H H' r v->(∀a',v=.ref a'->r.isOwn=true->RS K (ei (ei A a) a') H' p' (.ref a))->Q v H'
def cA(c:FR)(i:Nat)(pr:PTA):PTE:=fun ρ Q=>match ρ[i]? with
 | some (some _)=>pr ρ fun as ρ1=>(match ρ1[i]?,avD as with
  | some (some p),some ds=>p.isOwn=true/\c p ds fun r p'=>Q r (ρ1.set i (some p'))
  | _,_=>False)
 | _=>False
theorem bF{c:FR}{i:Nat}(h:LAs K tr pr):LE K (gS (spR K c) [] E0 (cX (dB i) tr)) (cA c i pr):=fun A ρ σ H Q Q' R q k=>by
 unfold cA at q
 split at q
 .rename_i p0 e0;obtain⟨v0,s0,_⟩:=R.get i p0 e0;refine⟨v0,s0,h A ρ σ H _ _ R q fun vs H1 as ρ1 q1 f1 R1 o1=>?_⟩
  split at q1
  .rename_i p ds e1 ed;obtain⟨ow,q1⟩:=q1;obtain⟨v1,s1,rs⟩:=R1.get i p e1;rw [s0] at s1;cases s1;obtain⟨a,u,rfl,ea⟩:=rs.ref ow;rw [append_nil];have wa:Wr ρ1 σ a:=⟨i,p,e1,ow,s0⟩
   have oeq:ei (fun b=>(OO A ρ1 σ b)/\b≠a) a=OO A ρ1 σ:=funext fun b=>propext ⟨fun z=>z.elim (fun z=>z.1) (fun z=>by rw [z];exact .inr wa),fun z=>by
    by_cases e:b=a
    .exact .inr e
    .exact .inl ⟨z,e⟩⟩
   refine⟨fun b=>(OO A ρ1 σ b)/\b≠a,a,p,vs,ds,_,rfl,ow,fun b z=>R1.dom2 b z.1,fun z=>z.2 rfl,by rw [oeq];exact rs,by rw [oeq];exact o1.avD ed,q1,fun r p' qr ow' v H' kp ha rs' ov hx=>?_⟩;rw [oeq] at rs' ov hx
   have domA:∀b,A b->H' b≠none:=fun b z=>by
    have:b≠a:=fun e=>R1.sep b z (by rw [e];exact wa)
    cases eb:H1 b with
    | none=>exact absurd eb (R1.dom b z)
    | some o=>rw [kp b o this eb];exact nofun
   cases r with
   | dat d =>
    obtain⟨R2,f2⟩:=R1.step (A':=A) e1 ow ow' s0 kp ha (fun _ h=>h) (fun _ h=>.inl h) domA rs';exact k v H' _ _ qr (f1.trans f2) ⟨R2,FV.keeps (aM.less fun b z=>z.imp id (f2.ow b)) ov⟩
   | own es =>
    obtain⟨a',xs,rfl,n1,e2,f⟩:=ov;have hx:=hx a' rfl rfl;have na:a'≠a:=fun e=>by rw [e,ea] at n1;cases n1
    have oo2:∀b,OO (ei A a') ρ1 σ b ↔ ei (OO A ρ1 σ) a' b:=fun b=>⟨fun z=>by
     rcases z with (z|z)|z
     .exact .inl (.inl z)
     .exact .inr z
     .exact .inl (.inr z),fun z=>by
     rcases z with (z|z)|z
     .exact .inl (.inl z)
     .exact .inr z
     .exact .inl (.inr z)⟩
    have oo2':OO (ei A a') ρ1 σ=ei (OO A ρ1 σ) a':=funext fun b=>propext (oo2 b)
    obtain⟨R2,f2⟩:=R1.step (A':=ei A a') e1 ow ow' s0 kp ha (fun _ h=>.inl h) (fun b z=>z.imp id fun z=>by rw [z];exact n1) (fun b z=>z.elim (domA b) fun z=>by rw [z,e2];exact nofun) (by rw [oo2'];exact hx)
    .refine k _ H' (.own es) _ qr (f1.trans f2) ⟨a',xs,rfl,fun z=>R1.dom a' z n1,?_,e2,R2,f.keeps (aM.less fun b z=>?_)⟩
     .cases eb:H a' with
      | none=>rfl
      | some o=>exact absurd n1 (f1.dm a' (by rw [eb];exact nofun))
     .rw [<- oo2'];exact z.imp id (f2.ow b)
   | ins c ns es =>
    obtain⟨a',dx,fs,rfl,n1,e2,m,f⟩:=ov;have hx:=hx a' rfl rfl
    have oo2':OO (ei A a') ρ1 σ=ei (OO A ρ1 σ) a':=funext fun b=>propext ⟨fun z=>by
     rcases z with (z|z)|z
     .exact .inl (.inl z)
     .exact .inr z
     .exact .inl (.inr z),fun z=>by
     rcases z with (z|z)|z
     .exact .inl (.inl z)
     .exact .inr z
     .exact .inl (.inr z)⟩
    obtain⟨R2,f2⟩:=R1.step (A':=ei A a') e1 ow ow' s0 kp ha (fun _ h=>.inl h) (fun b z=>z.imp id fun z=>by rw [z];exact n1) (fun b z=>z.elim (domA b) fun z=>by rw [z,e2];exact nofun) (by rw [oo2'];exact hx)
    .refine k _ H' (.ins c ns es) _ qr (f1.trans f2) ⟨a',dx,fs,rfl,fun z=>R1.dom a' z n1,?_,e2,m,R2,f.keeps (aM.less fun b z=>?_)⟩
     .cases eb:H a' with
      | none=>rfl
      | some o=>exact absurd n1 (f1.dm a' (by rw [eb];exact nofun))
     .rw [<- oo2'];exact z.imp id (f2.ow b)
  .exact q1.elim
 .exact q.elim
def uj(Q:PV->PV->Prop)(r:PV)(ρ:PSt):Prop:=match ρ[0]? with
 | some (some p)=>p.isOwn=true/\Q r p
 | _=>False
theorem fnR{c:FR}{N:List Str}(hl:LS K [0] ts ps)(hn:∀p ds Q,c p ds Q->ds.length+1<=N.length)(hc:∀p ds Q,p.isOwn=true->c p ds Q->ps { nx:=uj Q (.dat .non),rt:=uj Q } (cJ N.length (p::ds.map .dat)))
  {vs:List V}{H:Hp}{Q:VK}{E:XK} (h:spR K c vs H Q E):ts { nx:=fun _ H'=>Q .non H',rt:=Q } (start N vs) H:=by
 obtain⟨A,a,p,ws,ds,Qc,rfl,ow,dom,na,rs,fv,hq,k⟩:=h;have s0:(start N (V.ref a::ws))[0]?=some (some (.ref a)):=hX rfl;have b0:(cJ N.length (p::ds.map .dat))[0]?=some (some p):=rfl
 have wr:∀b,Wr (cJ N.length (p::ds.map .dat)) (start N (.ref a::ws)) b->b=a:=fun b ⟨i,q,e1,o1,s1⟩=>by
  have:=dJ e1
  cases i with
  | zero=>rw [s0] at s1;cases s1;rfl
  | succ i =>
   rw [getElem?_cons_succ,getElem?_map] at this
   cases e2:ds[i]? with
   | none=>rw [e2] at this;cases this
   | some d=>rw [e2] at this;cases this;cases o1
 have wa:Wr (cJ N.length (p::ds.map .dat)) (start N (.ref a::ws)) a:=⟨0,p,b0,ow,s0⟩
 have oeq:OO A (cJ N.length (p::ds.map .dat)) (start N (.ref a::ws))=ei A a:=funext fun b=>propext ⟨fun z=>z.imp id (wr b),fun z=>z.imp id fun z=>by rw [z];exact wa⟩;have lenv:=fv.length;have hle:=hn p ds Qc hq
 have R0:Rel K A (cJ N.length (p::ds.map .dat)) (start N (.ref a::ws)) H:=by
  refine⟨?_,fun i q e=>?_,fun i j q1 q2 v e1 e2 o1 o2 s1 s2=>?_,dom,fun b z w=>?_⟩
  .unfold cJ start;simp only [length_append,length_map,length_replicate,length_cons,lenv]
  .have:=dJ e;rw [oeq]
   cases i with
   | zero=>cases this;exact⟨_,s0,rs⟩
   | succ i =>
    rw [getElem?_cons_succ,getElem?_map] at this
    cases e2:ds[i]? with
    | none=>rw [e2] at this;cases this
    | some d =>
     rw [e2] at this;cases this;obtain⟨v,hv,f⟩:=fv.getD e2;exact⟨v,hX (by rw [getElem?_cons_succ];exact hv),f⟩
  .have own0:∀(i:Nat) (q:PV),(cJ N.length (p::ds.map .dat))[i]?=some (some q)->q.isOwn=true->i=0:=fun i q e o=>by
    have:=dJ e
    cases i with
    | zero=>rfl
    | succ i =>
     rw [getElem?_cons_succ,getElem?_map] at this
     cases e2:ds[i]? with
     | none=>rw [e2] at this;cases this
     | some d=>rw [e2] at this;cases this;cases o
   rw [own0 i q1 e1 o1,own0 j q2 e2 o2]
  .rw [wr b w] at z;exact na z
 have fin:∀(v:V) (r:PV) (ρ':PSt) (σ':St) (H':Hp),uj Qc r ρ'->Out K A ρ' σ' H H' r v->eA [(0,.ref a)] (fun b=>b=a) H ρ' σ' H'->Q v H':=fun v r ρ' σ' H' q o F=>by
  unfold uj at q
  split at q
  .rename_i p' e';obtain⟨ow',q⟩:=q;have sa:=F.fx (0,.ref a) (mem_singleton.mpr rfl);have wa':Wr ρ' σ' a:=⟨0,p',e',ow',sa⟩
   have kpa:∀b o,b≠a->H b=some o->H' b=some o:=fun b o n e=>F.kp b o n e
   cases r with
   | dat d =>
    obtain⟨R1,f1⟩:=o;obtain⟨v1,s1,rs1⟩:=R1.get 0 p' e';rw [sa] at s1;cases s1;have less:∀b,ei A a b->OO A ρ' σ' b:=fun b z=>z.imp id fun z=>by rw [z];exact wa'
    exact k _ p' q ow' v H' kpa (R1.wr wa') (rs1.keeps (aM.less less) fun _ _ _=>rfl) (f1.keeps (aM.less less)) (fun _ _ z=>nomatch z)
   | own es =>
    obtain⟨a',xs,rfl,n1,n2,e3,R1,f1⟩:=o;obtain⟨v1,s1,rs1⟩:=R1.get 0 p' e';rw [sa] at s1;cases s1
    have less:∀b,ei (ei A a) a' b->OO (ei A a') ρ' σ' b:=fun b z=>by
     rcases z with (z|z)|z
     .exact .inl (.inl z)
     .exact .inr (by rw [z];exact wa')
     .exact .inl (.inr z)
    exact k _ p' q ow' _ H' kpa (R1.wr wa') (rs1.keeps (aM.less fun b z=>less b (.inl z)) fun _ _ _=>rfl) ⟨a',xs,rfl,n2,e3,f1.keeps (aM.less less)⟩ (fun a'' e _=>by cases e;exact rs1.keeps (aM.less less) fun _ _ _=>rfl)
   | ins c ns es =>
    obtain⟨a',dx,fs,rfl,n1,n2,e3,m,R1,f1⟩:=o;obtain⟨v1,s1,rs1⟩:=R1.get 0 p' e';rw [sa] at s1;cases s1
    have less:∀b,ei (ei A a) a' b->OO (ei A a') ρ' σ' b:=fun b z=>by
     rcases z with (z|z)|z
     .exact .inl (.inl z)
     .exact .inr (by rw [z];exact wa')
     .exact .inl (.inr z)
    exact k _ p' q ow' _ H' kpa (R1.wr wa') (rs1.keeps (aM.less fun b z=>less b (.inl z)) fun _ _ _=>rfl) ⟨a',dx,fs,rfl,n2,e3,m,f1.keeps (aM.less less)⟩ (fun a'' e _=>by cases e;exact rs1.keeps (aM.less less) fun _ _ _=>rfl)
  .exact q.elim
 refine hl [(0,.ref a)] A (fun b=>b=a) H _ _ H _ _ rfl R0 ⟨fun _ _ _ h=>h,fun _ h=>h,fun b w=>.inl (wr b w),fun q hq=>by rw [mem_singleton.mp hq];exact s0⟩ (hc p ds Qc ow hq) (fun ρ' σ' H' q r F=>fin .non (.dat .non) ρ' σ' H' q ⟨r,.non⟩ F) (fun v p ρ' σ' H' q o F=>fin v p ρ' σ' H' q o F) (fun _ _ _ z=>z.elim) (fun _ _ _ z=>z.elim)
end
def ym:FN:=fun as Q=>∃ns:List Int,as=[.scr ns]/\ns.length<=63/\Q (.dat (.bl true))
theorem tI{K:PySem.W.Frag}{vs:List V}{H:Hp}{Q:VK}{E:XK}(h:nq K vs H Q E):spP K ym vs H Q E:=by
 obtain⟨a,ns,rfl,hS,h63,q⟩:=h
 refine⟨fun _=>False,[.scr ns],fun r=>r=.dat (.bl true),nofun,.cons (.scr ?_) .nil,⟨ns,rfl,h63,rfl⟩,fun r e v H' g o=>?_⟩
 .rcases hS with h|h
  .exact .inl ⟨id,h⟩
  .exact .inr h
 .subst e;cases o;exact q H'
section
variable {K:PySem.W.Frag}{X:Cx}
def vN:List V->Hp->VK->Prop:=fun xs H Q=>∃i j,xs=[.int i,.int j]/\Q (.int (if j<i then j else i)) H
theorem rF(hc:X.calm=true):cw X (.builtin "min") vN:=n0 hc
def qF:FN
 | [.int i,.int j],Q=>Q (.dat (.int (if j<i then j else i)))
 | _,_=>False
theorem o9:LC K vN qF:=by
 intro O H xs as Q Q' dom fs q k;unfold qF at q
 split at q
 .cases fs with
  | cons a b=>cases b with|cons b c=>cases c;rw [a.int,b.int];exact⟨_,_,rfl,k _ H _ q (Gr.refl _) (.int _)⟩
 .exact q.elim
def yn(K:PySem.W.Frag):List V->Hp->VK->Prop:=fun xs H Q=>∃(p:Addr) (bs:List Bool),xs=[.ref p]/\SqL K H p (bs.map V.bl)/\Q (.bl (bs.all id)) H
theorem xu(K:PySem.W.Frag)(e:X.K=K)(hc:X.calm=true):cw X (.builtin "all") (yn K):=by subst e;exact qB hc
def xv:FN
 | [.lst ds],Q=>∃bs:List Bool,ds=bs.map .bl/\Q (.dat (.bl (bs.all id)))
 | _,_=>False
theorem vO:LC K (yn K) xv:=by
 intro O H xs as Q Q' dom fs q k;unfold xv at q
 split at q
 .obtain⟨ns,rfl,q⟩:=q
  cases fs with
  | cons a b =>
   cases b;obtain⟨p,ys,rfl,e1,f1⟩:=a.lst;rw [f1.bls] at e1;exact⟨p,ns,rfl,SqL.of e1,k _ H _ q (Gr.refl _) (.bl _)⟩
 .exact q.elim
def vP(K:PySem.W.Frag):List V->Hp->VK->Prop:=fun xs H Q=>∃p ys,xs=[.ref p]/\((SqL K H p ys/\∀l,H l=none->Q (.ref l) (upd H l (.tup ys)))\/(SqT K H p ys/\Q (.ref p) H))
theorem lD(K:PySem.W.Frag)(e:X.K=K):cw X (.type "tuple") (vP K):=by subst e;exact je
theorem rG(K:PySem.W.Frag)(e:X.K=K):cw X (.type "list") (oV K):=by subst e;exact j5
def kq:FN
 | [.lst ds],Q=>Q (.dat (.tup ds))
 | [.tup ds],Q=>Q (.dat (.tup ds))
 | [.scr ns],Q=>Q (.dat (.tup (ns.map .int)))
 | _,_=>False
def qG:FN
 | [.lst ds],Q=>Q (.own ds)
 | [.tup ds],Q=>Q (.own ds)
 | [.scr ns],Q=>Q (.own (ns.map .int))
 | _,_=>False
theorem jv:LC K (vP K) kq:=by
 intro O H xs as Q Q' dom fs q k;unfold kq at q
 split at q
 .cases fs with
  | cons a b =>
   cases b;obtain⟨p,ys,rfl,e1,f1⟩:=a.lst;exact⟨p,ys,rfl,.inl ⟨SqL.of e1,fun l hl=>k _ _ _ q (Gr.new hl) (jn dom hl f1)⟩⟩
 .cases fs with
  | cons a b =>
   cases b;obtain⟨p,ys,rfl,n1,e1,f1⟩:=a.tup;exact⟨p,ys,rfl,.inr ⟨SqT.of e1,k _ H _ q (Gr.refl _) (.tup n1 e1 f1)⟩⟩
 .cases fs with
  | cons a b =>
   cases b;obtain⟨p,rfl,e1⟩:=a.scr;exact⟨p,_,rfl,.inl ⟨e1,fun l hl=>k _ _ _ q (Gr.new hl) (jn dom hl (FVs.of_ints _))⟩⟩
 .exact q.elim
theorem pd:LC K (oV K) qG:=by
 intro O H xs as Q Q' dom fs q k;unfold qG at q
 split at q
 .cases fs with
  | cons a b =>
   cases b;obtain⟨p,ys,rfl,e1,f1⟩:=a.lst;exact⟨p,ys,rfl,.inl (SqL.of e1),fun l hl=>k _ _ _ q (Gr.new hl) (dz hl f1)⟩
 .cases fs with
  | cons a b =>
   cases b;obtain⟨p,ys,rfl,n1,e1,f1⟩:=a.tup;exact⟨p,ys,rfl,.inr (SqT.of e1),fun l hl=>k _ _ _ q (Gr.new hl) (dz hl f1)⟩
 .cases fs with
  | cons a b =>
   cases b;obtain⟨p,rfl,e1⟩:=a.scr;exact⟨p,_,rfl,.inl e1,fun l hl=>k _ _ _ q (Gr.new hl) (dz hl (FVs.of_ints _))⟩
 .exact q.elim
variable {ta:TE}{pa:PA1}{tr:TA}{pr:PTA}{pe:PTE}
def mkL(tup:Bool)(ds:List D):PV:=match tup with|true=>.dat (.tup ds)|false=>.own ds
def my(pa:PA1):PTE:=fun ρ Q=>pa ρ fun x ρ1=>match cont ρ1 x with
 | some (.lst ds)=>Q (.own ds.reverse) ρ1
 | _=>False
def mB(K:PySem.W.Frag)(te:TE):TE:=fun σ H Q=>te σ H fun x H1=>∃a xs,x=.ref a/\SqL K H1 a xs/\∀l,H1 l=none->Q (.ref l) (upd H1 l (.lst xs.reverse))
theorem lE{e:Expr}{te:TE}{p p1 p2 pos:Pos}(K:PySem.W.Frag)(eK:X.K=K)(hc:X.calm=true)(he:PE X e te)(hg1:Gl X "list")(hm1:X.mg "list"=none)(hg2:Gl X "reversed")(hm2:X.mg "reversed"=none)
  (hs:starEach [.Call (.Name "reversed" p1) [e] [] p2] X.env=[(false,eval (.Call (.Name "reversed" p1) [e] [] p2) X.env)]:=by rfl) (hs2:starEach [e] X.env=[(false,eval e X.env)]:=by rfl) :
  PE X (.Call (.Name "list" p) [.Call (.Name "reversed" p1) [e] [] p2] [] pos) (mB K te):=by subst eK;exact nu hc he hg1 hm1 hg2 hm2 hs hs2
theorem nB(h:LA1 K ta pa):LE K (mB K ta) (my pa):=fun A ρ σ H Q Q' R q k=>h A ρ σ H _ _ R q fun v H1 a ρ1 q1 f1 R1 o1=>by
 split at q1
 .rename_i ds e;obtain⟨p,xs,rfl,e1,fs⟩:=(R1.cont o1 e).lst;refine⟨p,xs,rfl,SqL.of e1,fun l hl=>?_⟩;have g:Gr H1 (upd H1 l (.lst xs.reverse)):=Gr.new hl;exact k _ _ _ ρ1 q1 (f1.trans g.fr) ((ny.out (p:=.own ds.reverse) R1 g (dz hl fs.reverse)).h0 f1.dm)
 .exact q1.elim
end
abbrev xw:R2:=rI0 fun i j=>.int (i - j)
abbrev vQ:R2:=rI (fun _ j=>0<j) fun i j=>.int (i % j)
abbrev xx:R2:=rI wH fun i j=>.int (i / j)
abbrev xy:R2:=rI wI fun i j=>.int (i^j.toNat)
abbrev yL:R2:=rI0 fun i j=>.bl (decide (j<i))
abbrev yo:R2:=rI0 fun i j=>.bl (decide (j<=i))
abbrev xz:V->Hp->VK->Prop:=rU fun i=>.int (-i)
abbrev mC:F2:=fI0 fun i j=>.int (i - j)
abbrev iw:F2:=fI (fun _ j=>0<j) fun i j=>.int (i % j)
abbrev yp:F2:=fI (fun _ j=>0<j/\j<1073741824) fun i j=>.int (i / j)
abbrev yq:F2:=fI (fun i j=>0<=j/\j<=1000000/\i.natAbs<2^64) fun i j=>.int (i^j.toNat)
abbrev fGt:F2:=fI0 fun i j=>.bl (decide (j<i))
abbrev fGe:F2:=fI0 fun i j=>.bl (decide (j<=i))
def qH:D->(PV->Prop)->Prop
 | .int i,Q=>Q (.dat (.int (-i)))
 | _,_=>False
section
variable {K:PySem.W.Frag}{X:Cx}{ta:TE}{tr:TA}{pr:PTA}{ts:TS}{ps:PTS}
theorem fu:OpR X (binaryOp .Sub) xw:=uM
theorem cY:OpR X (binaryOp .Mod) vQ:=uO
theorem rH:OpR X (binaryOp .FloorDiv) xx:=sj
theorem vR:OpR X (binaryOp .Pow) xy:=uP
theorem uk:OpR X (compareOp .Gt) yL:=wN
theorem yM:OpR X (compareOp .GtE) yo:=wO
theorem hZ:LU K xz qH:=by
 intro O H x a Q Q' dom fx q k;unfold qH at q
 split at q
 .rename_i i;exact⟨i,fx.int,k _ H _ q (Gr.refl _) (.int _)⟩
 .exact q.elim
theorem qI{es:List Expr}{ct:Nat}{tp:Pos}(K:PySem.W.Frag)(e:X.K=K){a:Expr}{ta:TA}{p pos:Pos}(hg:Gl X "enumerate")(hm:X.mg "enumerate"=none)(ha:PA X [a] ta)(hs:starEach [a] X.env=[(false,eval a X.env)]:=by rfl) :
  PI X (.Tuple es ct tp) (.Call (.Name "enumerate" p) [a] [] pos) (sR K ta):=by subst e;exact sS hg hm ha hs
theorem qd{ix:List (Option Nat)}{fs:List Nat}{i:Nat}(h:∀k∈fs,k∈ui ix)(hi:(ui ix).contains i=false):fs.contains i=false:=by
 cases e:fs.contains i with
 | false=>rfl
 | true =>
  have:=h i (contains_iff_mem.mp e);rw [contains_iff_mem.mpr this] at hi;cases hi
def rJ(c:FN)(es:List D)(pr:PTA):PTE:=fun ρ Q=>pr ρ fun as ρ1=>match avD as with
 | some ds=>c (ds++es) fun r=>Q r ρ1
 | none=>False
theorem qJ{c:FN}{vs0:List V}{ds:List D}(hd:∀{O:Addr->Prop}{H:Hp},FVs K O H vs0 ds)(h:LAs K tr pr):LE K (gS (spP K c) vs0 E0 tr) (rJ c ds pr):=fun A ρ σ H Q Q' R q k=>h A ρ σ H _ _ R q fun vs H1 as ρ1 q1 f1 R1 o1=>by
 split at q1
 .rename_i es e;exact⟨OO A ρ1 σ,_,_,R1.dom2,(o1.avD e).append hd,q1,fun r qr v H' g ov=>k v H' r ρ1 qr (f1.trans g.fr) ((ov.out R1 g).h0 f1.dm)⟩
 .exact q1.elim
theorem k6{c:FN}{n:Nat}(hn:∀ds Q,c ds Q->ds.length=n){vs:List V}{H:Hp}{Q:VK}{E:XK}(h:spP K c vs H Q E):vs.length=n:=by
 obtain⟨O,ds,Qc,_,f,hq,_⟩:=h;rw [f.length];exact hn ds Qc hq
theorem wC{c:FR}{n:Nat}(hn:∀p ds Q,c p ds Q->ds.length+1=n){vs:List V}{H:Hp}{Q:VK}{E:XK}(h:spR K c vs H Q E):vs.length=n:=by
 obtain⟨A,a,p,ws,ds,Qc,rfl,_,_,_,_,f,hq,_⟩:=h;rw [length_cons,f.length];exact hn p ds Qc hq
abbrev eT(pp:PTS)(n:Nat)(ds:List D)(Q:PV->Prop):Prop:=pp { nx:=fun _=>Q (.dat .non),rt:=fun p _=>Q p } (cJ n (ds.map .dat))
abbrev rK(pp:PTS)(n:Nat)(p:PV)(ds:List D)(Q:PV->PV->Prop):Prop:=pp { nx:=uj Q (.dat .non),rt:=uj Q } (cJ n (p::ds.map .dat))
end
end L2
namespace L2
theorem Cal.imp{P:PySem.Program}{w:PySem.World}{K:PySem.W.Frag}{mg:PySem.Str->Option PySem.Value}{base:PySem.Heap}{k:Nat}{x:PySem.Str}{ps:List PySem.Str}{sp sp':Sp}(C:Cal P w K mg base k x ps sp)(h:∀vs H Q E,sp' vs H Q E->sp vs H Q E):Cal P w K mg base k x ps sp':=by
 obtain⟨f,fd,F,r⟩:=C.ex;exact⟨f,fd,F.imp h,r⟩
end L2
namespace L2
open PySem PySem.Spec PyProof.Rows
theorem cfm{ix:List (Option Nat)}{ρ1:PSt}{n:Nat}{it:Nat->D}{g:PTG}{pt:PTT}{pe:PTE}{Q:PKt}(T:PSt->Prop)(f:Nat->Option D)(h0:T (bC ix ρ1))
  (hs:∀k τ d,k<n->d=it k->T τ->∀(K1:D->PSt->Prop) (K2:PSt->Prop),(∀d τ',f k=some d->T τ'->K1 d τ')->(∀τ',f k=none->T τ'->K2 τ')->g (.dat d) τ fun τ2=>pt τ2 fun ok τ3=>gj ok (pe τ3 fun p τ4=>K1 p.d τ4) (K2 τ3))
  (hq:∀τ,T τ->Q (.own ((List.range n).filterMap f)) (ej ix ρ1 τ)) :
  ju ix ρ1 n it g pt pe Q:=by
 refine⟨fun k ys τ=>ys=(List.range k).filterMap f/\T τ,⟨rfl,h0⟩,fun k ys τ dd hk ed ⟨e,t⟩=>?_,fun ys τ ⟨e,t⟩=>by rw [e];exact hq τ t⟩
 have r:(List.range (k+1)).filterMap f=(List.range k).filterMap f++(f k).toList:=by
  rw [range_succ,filterMap_append]
  cases e:f k with
  | none=>rw [show [k].filterMap f=[] by simp [e]];rfl
  | some d=>rw [show [k].filterMap f=[d] by simp [e]];rfl
 refine hs k τ dd hk ed t (fun d τ'=>(ys++[d]=(List.range (k+1)).filterMap f/\T τ')) (fun τ'=>(ys=(List.range (k+1)).filterMap f/\T τ')) (fun d τ' h t'=>⟨?_,t'⟩) (fun τ' h t'=>⟨?_,t'⟩)
 .rw [r,e,h];rfl
 .rw [r,e,h];simp
theorem wD{ix:List (Option Nat)}{ρ1:PSt}{n:Nat}{it:Nat->D}{g:PTG}{pe:PTE}{Q:PKt}(T:PSt->Prop)(f:Nat->D)(h0:T (bC ix ρ1))
  (hs:∀k τ d,k<n->d=it k->T τ->∀K1:D->PSt->Prop,(∀τ',T τ'->K1 (f k) τ')->g (.dat d) τ fun τ2=>pe τ2 fun p τ4=>K1 p.d τ4)
  (hq:∀τ,T τ->Q (.own ((List.range n).map f)) (ej ix ρ1 τ)) :
  ju ix ρ1 n it g tG pe Q:=by
 refine cfm T (fun k=>some (f k)) h0 (fun k τ d hk ed t K1 K2 k1 k2=>?_) fun τ t=>?_
 .exact hs k τ d hk ed t K1 fun τ' t'=>k1 _ τ' rfl t'
 .have:(List.range n).filterMap (fun k=>some (f k))=(List.range n).map f:=by rw [<- filterMap_eq_map];rfl
  rw [this];exact hq τ t
theorem lF{β:Type}(f:Nat->β)(l:List Nat):(List.range l.length).map (fun k=>f (l.getD k 0))=l.map f:=by
 apply ext_getElem?;intro i;rw [getElem?_map,getElem?_map]
 by_cases h:i<l.length
 .rw [getElem?_range h];show some (f (l.getD i 0))=_;rw [getD_eq_getElem?_getD,getElem?_eq_getElem h];rfl
 .rw [getElem?_eq_none (by rw [length_range];omega),getElem?_eq_none (by omega)];rfl
def pw(ws:List (List Nat))(k:Nat):List Nat:=ws.getD k []
theorem pq{ws:List (List Nat)}{k:Nat}(h:k<ws.length):ws[k]?=some (pw ws k):=by unfold pw;rw [getD_eq_getElem?_getD,getElem?_eq_getElem h];rfl
theorem mD{ws:List (List Nat)}{k:Nat}(h:k<ws.length):pw ws k∈ws:=mem_of_getElem? (pq h)
theorem px{ws:List (List Nat)}{k:Nat}(h:k<(ws.map D.str).length):itD (ws.map D.str) k=.str (pw ws k):=km (by rw [getElem?_map,pq (by rwa [length_map] at h)];rfl)
theorem tJ{ns:List Int}{k:Nat}(h:k<(ns.map D.int).length):itD (ns.map D.int) k=.int (ns.getD k 0):=km (by
 have h:k<ns.length:=by rwa [length_map] at h
 rw [getElem?_map,getD_eq_getElem?_getD,getElem?_eq_getElem h];rfl)
def Pc(m:Nat)(w:List Nat):Prop:=0<w.length/\w.length<=m/\Lts w
def Pcs(m:Nat)(ws:List (List Nat)):Prop:=∀w∈ws,Pc m w
def ltB(c:Nat):Bool:=decide (97<=c) && decide (c<=122)
def qK:D->Int->Int->Bool
 | .str l,a,b=>(decide (a<=(l.length:Int)) && decide ((l.length:Int)<=b)) && l.all ltB
 | _,_,_=>false
theorem jw(l:List Nat)(a b:Int):qK (.str l) a b=((decide (a<=(l.length:Int)) && decide ((l.length:Int)<=b)) && l.all ltB):=rfl
def xA:D->Nat
 | .str l=>l.length
 | _=>0
theorem tK{l:List Nat}:l.all ltB=true ↔ Lts l:=by
 rw [all_eq_true];unfold Lts ltB
 constructor
 .intro h c hc;have:=h c hc;rw [and_eq_true,decide_eq_true_eq,decide_eq_true_eq] at this;exact this
 .intro h c hc;rw [and_eq_true,decide_eq_true_eq,decide_eq_true_eq];exact h c hc
theorem pz{w:List Nat}:qK (.str w) 1 60=true ↔ Pc 60 w:=by
 unfold qK Pc;rw [and_eq_true,and_eq_true,decide_eq_true_eq,decide_eq_true_eq,tK]
 constructor
 .rintro⟨⟨h1,h2⟩,h3⟩;exact⟨by omega,by omega,h3⟩
 .rintro⟨h1,h2,h3⟩;exact⟨⟨by omega,by omega⟩,h3⟩
theorem lG(i j:Nat):(!decide (([j]:List Nat)<[i]))=decide (i<=j):=by
 by_cases h:i<=j
 .rw [decide_eq_true h]
  have:¬ ([j]:List Nat)<[i]:=by
   rw [cons_lt_cons_iff]
   rintro (z|⟨_,z⟩)
   .omega
   .exact absurd z (List.lt_irrefl _)
  rw [decide_eq_false this];rfl
 .rw [decide_eq_false h]
  have:([j]:List Nat)<[i]:=by
   rw [cons_lt_cons_iff];exact .inl (by omega)
  rw [decide_eq_true this];rfl
theorem lH:∀ws:List (List Nat),D.pys (ws.map .str)=ws.map fun w=>PyData.str (S w)
 | []=>rfl
 | w::r=>by rw [map_cons,map_cons,<- lH r];rfl
theorem iQ:∀ws:List (List Nat),D.plains (ws.map .str)=true
 | []=>rfl
 | w::r=>by rw [map_cons];show (true && D.plains (r.map .str))=true;rw [iQ r];rfl
theorem jx:∀ns:List Int,D.pys (ns.map .int)=ns.map PyData.int
 | []=>rfl
 | n::r=>by rw [map_cons,map_cons,<- jx r];rfl
theorem iR:∀ns:List Int,D.plains (ns.map .int)=true
 | []=>rfl
 | n::r=>by rw [map_cons];show (true && D.plains (r.map .int))=true;rw [iR r];rfl
def Sh(d:D):Prop:=d.plain=true/\SeqAt.shaped d.py=true
theorem mr.of{a b:D}(h:Sh a)(h':Sh b):mr a b:=⟨h.1,h'.1,h.2,h'.2⟩
theorem Sh.lstS{ws:List (List Nat)}(h:∀w∈ws,Lts w):Sh (.lst (ws.map .str)):=⟨iQ ws,by show SeqAt.shaped (.list (D.pys _))=true;rw [lH];exact kf h⟩
theorem Sh.lstI(ns:List Int):Sh (.lst (ns.map .int)):=⟨iR ns,by show SeqAt.shaped (.list (D.pys _))=true;rw [jx];exact (kZ.list (oQ ns)).shaped (by decide)⟩
theorem qL{d:D}(h:Sh d):deq d d=true:=qA h.2
theorem Pcs.lts{m:Nat}{ws:List (List Nat)}(h:Pcs m ws):∀w∈ws,Lts w:=fun w hw=>(h w hw).2.2
section
variable {X:Cx}{K:PySem.W.Frag}
def pA(neg:Bool):R2:=fun x y H Q=>∃a b,x=.ref a/\y=.ref b/\H a=some (.dK [])/\H b=some (.dK [])/\Q (.bl (!neg)) H
theorem qM(hu:X.A.units+64<cLine):OpR X (compareOp .Eq) (pA false):=by
 intro pins s σ H x y v u Q I rx ry ⟨a,b,e1,e2,h1,h2,q⟩;subst e1 e2;cases rx;cases ry;obtain⟨_,y1,vs,r1,p1⟩:=(show cv X.prog X.w H s.heap a (.dK []) from I.hok a _ h1)
 obtain⟨_,y2,ws,r2,p2⟩:=(show cv X.prog X.w H s.heap b (.dK []) from I.hok b _ h2)
 cases r1;cases r2;exact PySem.W.keq_eq (r:=true) y1 y2 p1 p2 (by omega) (fun _=>.nil) ⟨.bl true,H,I,rfl,q⟩
theorem qN(hu:X.A.units+64<cLine):OpR X (compareOp .NotEq) (pA true):=by
 intro pins s σ H x y v u Q I rx ry ⟨a,b,e1,e2,h1,h2,q⟩;subst e1 e2;cases rx;cases ry;obtain⟨_,y1,vs,r1,p1⟩:=(show cv X.prog X.w H s.heap a (.dK []) from I.hok a _ h1)
 obtain⟨_,y2,ws,r2,p2⟩:=(show cv X.prog X.w H s.heap b (.dK []) from I.hok b _ h2)
 cases r1;cases r2;exact PySem.W.keq_ne (r:=true) y1 y2 p1 p2 (by omega) (fun _=>.nil) ⟨.bl false,H,I,rfl,q⟩
def pD(K:PySem.W.Frag)(neg:Bool):R2:=fun x y H Q=>vF K neg x y H Q\/pA neg x y H Q
theorem nC(K:PySem.W.Frag)(e:X.K=K)(hu:X.A.units+64<cLine):OpR X (compareOp .Eq) (pD K false):=OpR.or (yI K e hu) (qM hu)
theorem fw(K:PySem.W.Frag)(e:X.K=K)(hu:X.A.units+64<cLine):OpR X (compareOp .NotEq) (pD K true):=OpR.or (yJ K e hu) (qN hu)
def rL:F2
 | .dic [] [],.dic [] [],Q=>Q (.dat (.bl true))
 | a,b,Q=>fEq a b Q
def k8:F2
 | .dic [] [],.dic [] [],Q=>Q (.dat (.bl false))
 | a,b,Q=>fNe a b Q
theorem FVc.dic0{O:Addr->Prop}{H:Hp}{v:V}(h:FVc K O H v (.dic [] [])):∃a,v=.ref a/\H a=some (.dK []):=by
 cases h.fv nofun nofun with
 | dic n e m f =>
  rename_i a kvs
  cases kvs with
  | nil=>exact⟨a,rfl,e⟩
  | cons x r=>cases m
theorem iS:LO K (pD K false) rL:=by
 intro O H x y a b Q Q' dom fx fy q k;unfold rL at q
 split at q
 .obtain⟨a,rfl,e1⟩:=fx.dic0;obtain⟨b,rfl,e2⟩:=fy.dic0;exact .inr ⟨a,b,rfl,rfl,e1,e2,k _ H _ q (Gr.refl _) (.bl _)⟩
 .exact .inl (xm O H x y _ _ Q Q' dom fx fy q k)
theorem de:LO K (pD K true) k8:=by
 intro O H x y a b Q Q' dom fx fy q k;unfold k8 at q
 split at q
 .obtain⟨a,rfl,e1⟩:=fx.dic0;obtain⟨b,rfl,e2⟩:=fy.dic0;exact .inr ⟨a,b,rfl,rfl,e1,e2,k _ H _ q (Gr.refl _) (.bl _)⟩
 .exact .inl (xn O H x y _ _ Q Q' dom fx fy q k)
end
abbrev SIt(h:Heap)(a:Addr)(x:Str)(t:Tok)(i:Nat):Prop:=h.IsStrIter a (strIterType x) x t i
theorem SIt.mv{h h':Heap}{a:Addr}{x:Str}{t:Tok}{i:Nat}(W:SIt h a x t i)(k:∀o,h.get? a=some o->h'.get? a=some o):SIt h' a x t i:=let ⟨o,ho,r⟩:=W;⟨o,k o ho,r⟩
section
variable {P:Program}{w:World}{A:Around}{E:Value->Shared->Prop}{s:Shared}{z U V i j:Addr}{n:Nat}{x y:Str}{t t':Tok}{cx cy:Nat}{u v:Value}
theorem bv{Q:Value->Shared->Prop}(W:SIt s.heap i x t n)(hx:x.cps[n]?=some cx)(hQ:∀h',SIt h' i x t (n+1)->Heap.SameBut i s.heap h'->Q (.str ⟨#[cx]⟩ s.toks) { s with heap:=h',toks:=s.toks+1 }) :
  wpAny (model P w) A (Builtin.SmallTypes.nextOf (.ref i)) Q E s:=by
 unfold SIt strIterType at W hQ
 cases ha:x.cps.all (·<128)
 .simp only [ha,false_eq_true,if_false] at W hQ;exact wpAny_nextOf_wide_item W hx hQ
 .simp only [ha,if_true] at W hQ;exact wpAny_nextOf_ascii_item W hx hQ
theorem cB{Q:Value->Shared->Prop}(hh:A.handled=none)(W:SIt s.heap i x t n)(hx:x.cps[n]?=none)
  (hE:∀h' e,Heap.ExtBut i s.heap h'->(∃o,h'.get? e=some o/\o.cls=.type "StopIteration")->E (.ref e) { s with heap:=h' }) :
  wpAny (model P w) A (Builtin.SmallTypes.nextOf (.ref i)) Q E s:=by
 unfold SIt strIterType at W
 cases ha:x.cps.all (·<128)
 .simp only [ha,false_eq_true,if_false] at W;exact wpAny_nextOf_wide_end hh W hx hE
 .simp only [ha,if_true] at W;exact wpAny_nextOf_ascii_end hh W hx hE
theorem tL{Q:Value->Shared->Prop}(D:ZA z U V i j)(hz:IsZip s.heap z U V .none)(hU:IsPair s.heap U (.ref i) (.ref j))(hV:IsPair s.heap V u v)
  (W1:SIt s.heap i x t n) (W2:SIt s.heap j y t' n) (hx:x.cps[n]?=some cx) (hy:y.cps[n]?=some cy)
  (hQ:∀h',IsZip h' z U V (rawInt s.heap.objs.size)->IsPair h' V (.str ⟨#[cx]⟩ s.toks) (.str ⟨#[cy]⟩ (s.toks+1))->SIt h' i x t (n+1)->SIt h' j y t' (n+1)->IsPair h' s.heap.objs.size (.str ⟨#[cx]⟩ s.toks) (.str ⟨#[cy]⟩ (s.toks+1))->h'.objs.size=s.heap.objs.size+1 ->
   (∀b o,b≠z->b≠V->b≠i->b≠j->s.heap.get? b=some o->h'.get? b=some o)->Q (.ref s.heap.objs.size) { s with heap:=h',toks:=s.toks+1+1 }) :
  wpAny (model P w) A (Builtin.«zip.__next__» ⟨[.ref z],[]⟩) (fun f s'=>∃r,f=.done (.ret r)/\Q r s') E s:=by
 refine wpAny_bind (m:=field (.ref z) 2) (wpAny_field hz rfl (x:=.bool false) rfl (wpAny_bind (m:=field (.ref z) 3) (wpAny_field hz rfl (x:=.ref U) rfl (wpAny_bind (wpAny_seqItems hU rfl ?_)))));refine wpAny_bind (m:=Builtin.SmallTypes.ownedTupleIsFree (.ref z)) ?_;unfold Builtin.SmallTypes.ownedTupleIsFree;refine wpAny_bind (wpAny_field hz rfl (x:=.none) rfl (wpAny_pure ?_));simp only [if_true];refine wpAny_bind (wpAny_rule (wpAny_bind (wpAny_field hz rfl (x:=.ref V) rfl (wpAny_bind (wpAny_setField_rec hz (by simp) fun g1 z1 b1=>wpAny_bind ?_)))))
 replace z1:IsZip g1 z U V .ellipsis:=z1
 simp only [zipIdx_cons,zipIdx_nil,forIn_cons,forIn_nil];have e1:=b1.extBut;refine wpAny_bind (wpAny_bind (wpAny_onRaise (wpAny_bind (m:=Builtin.SmallTypes.nextOf (.ref i)) (bv (W1.mv fun o e=>e1 _ o D.iz e) hx fun g2 w1 b2=>wpAny_pure ?_))));have e2:=b2.extBut;have v2:IsPair g2 V u v:=e2 _ _ D.Vi (e1 _ _ D.Vz hV);refine wpAny_bind (wpAny_seqItems v2 rfl (wpAny_bind (wpAny_updateSeq_pair v2 fun g3 v3 b3=>wpAny_bind (wpAny_letGo (wpAny_pure ?_)))))
 replace v3:IsPair g3 V (.str ⟨#[cx]⟩ s.toks) v:=v3
 have e3:=b3.extBut;refine wpAny_bind (wpAny_bind (wpAny_onRaise (wpAny_bind (m:=Builtin.SmallTypes.nextOf (.ref j)) (bv (W2.mv fun o e=>e3 _ o D.Vj.symm (e2 _ o D.ij.symm (e1 _ o D.jz e))) hy fun g4 w2 b4=>wpAny_pure ?_))));have e4:=b4.extBut;have v4:IsPair g4 V (.str ⟨#[cx]⟩ s.toks) v:=e4 _ _ D.Vj v3;refine wpAny_bind (wpAny_seqItems v4 rfl (wpAny_bind (wpAny_updateSeq_pair v4 fun g5 v5 b5=>wpAny_bind (wpAny_letGo (wpAny_pure (wpAny_pure ?_))))))
 replace v5:IsPair g5 V (.str ⟨#[cx]⟩ s.toks) (.str ⟨#[cy]⟩ (s.toks+1)):=v5
 have e5:=b5.extBut;refine wpAny_bind (wpAny_seqItems v5 rfl (wpAny_bind (wpAny_newTuple ?_)));have sz:g5.objs.size=s.heap.objs.size:=by rw [b5.1,b4.1,b3.1,b2.1,b1.1]
 have z5:IsZip g5 z U V .ellipsis:=e5 _ _ D.Vz.symm (e4 _ _ D.jz.symm (e3 _ _ D.Vz.symm (e2 _ _ D.iz.symm z1)));have k5:∀b o,b≠z->b≠V->b≠i->b≠j->s.heap.get? b=some o->g5.get? b=some o:=fun b o q1 q2 q3 q4 e=>e5 _ _ q2 (e4 _ _ q4 (e3 _ _ q2 (e2 _ _ q3 (e1 _ _ q1 e))));have w15:SIt g5 i x t (n+1):=w1.mv fun o e=>e5 _ o D.Vi.symm (e4 _ o D.ij (e3 _ o D.Vi.symm e));have w25:SIt g5 j y t' (n+1):=w2.mv fun o e=>e5 _ o D.Vj.symm e
 have zlt:z<g5.objs.size:=Heap.lt_size z5;refine wpAny_bind (m:=Builtin.SmallTypes.ownedTupleHandOut (.ref z) (.ref g5.objs.size)) ?_;unfold Builtin.SmallTypes.ownedTupleHandOut;have z6:IsZip (g5.push { cls:=.type "tuple",data:=.seq #[(.str ⟨#[cx]⟩ s.toks),(.str ⟨#[cy]⟩ (s.toks+1))] }) z U V .ellipsis:=Heap.get?_push_of_some _ z5;refine wpAny_bind (wpAny_setField_rec z6 (by simp) fun g7 z7 b7=>?_)
 replace z7:IsZip g7 z U V (rawInt g5.objs.size):=z7
 refine wpAny_setField_rec z7 (by simp) fun g8 z8 b8=>?_
 replace z8:IsZip g8 z U V (rawInt g5.objs.size):=z8
 have up:∀b o,b≠z->g5.get? b=some o->g8.get? b=some o:=fun b o q e=>b8.extBut _ _ q (b7.extBut _ _ q (Heap.get?_push_of_some _ e));have t8:IsPair g8 g5.objs.size (.str ⟨#[cx]⟩ s.toks) (.str ⟨#[cy]⟩ (s.toks+1)):=b8.extBut _ _ (ne_of_gt zlt) (b7.extBut _ _ (ne_of_gt zlt) (Heap.get?_push_size _ rfl));have s8:g8.objs.size=g5.objs.size+1:=by rw [b8.1,b7.1,Heap.size_push]
 rw [sz] at z8 t8 s8;refine wpAny_pure ⟨_,rfl,?_⟩;show Q (.ref g5.objs.size) _;rw [sz];exact hQ g8 z8 (up _ _ D.Vz v5) (w15.mv fun o e=>up _ o D.iz e) (w25.mv fun o e=>up _ o D.jz e) t8 s8 fun b o q1 q2 q3 q4 e=>up b o q1 (k5 b o q1 q2 q3 q4 e)
theorem vS{Q:Fin->Shared->Prop}(hh:A.handled=none)(D:ZA z U V i j)(hz:IsZip s.heap z U V .none)(hU:IsPair s.heap U (.ref i) (.ref j))(hV:IsPair s.heap V u v)
  (W1:SIt s.heap i x t n) (W2:SIt s.heap j y t' n) (hend:x.cps[n]?=none\/y.cps[n]?=none)
  (hE:∀h' tk e,(∀b o,b≠z->b≠V->b≠i->b≠j->s.heap.get? b=some o->h'.get? b=some o)->(∃o,h'.get? e=some o/\o.cls=.type "StopIteration")->E (.ref e) { s with heap:=h',toks:=tk }) :
  wpAny (model P w) A (Builtin.«zip.__next__» ⟨[.ref z],[]⟩) Q E s:=by
 refine wpAny_bind (m:=field (.ref z) 2) (wpAny_field hz rfl (x:=.bool false) rfl (wpAny_bind (m:=field (.ref z) 3) (wpAny_field hz rfl (x:=.ref U) rfl (wpAny_bind (wpAny_seqItems hU rfl ?_)))));refine wpAny_bind (m:=Builtin.SmallTypes.ownedTupleIsFree (.ref z)) ?_;unfold Builtin.SmallTypes.ownedTupleIsFree;refine wpAny_bind (wpAny_field hz rfl (x:=.none) rfl (wpAny_pure ?_));simp only [if_true];refine wpAny_bind (wpAny_rule (wpAny_bind (wpAny_field hz rfl (x:=.ref V) rfl (wpAny_bind (wpAny_setField_rec hz (by simp) fun g1 z1 b1=>wpAny_bind ?_)))))
 replace z1:IsZip g1 z U V .ellipsis:=z1
 simp only [zipIdx_cons,zipIdx_nil,forIn_cons,forIn_nil];have e1:=b1.extBut
 cases hx:x.cps[n]? with
 | none =>
  refine wpAny_bind (wpAny_bind (wpAny_onRaise (wpAny_bind (m:=Builtin.SmallTypes.nextOf (.ref i)) (cB hh (W1.mv fun o e=>e1 _ o D.iz e) hx fun g2 e b2 he=>?_))));obtain⟨oe,ge,ce⟩:=he;have z2:IsZip g2 z U V .ellipsis:=b2 _ _ D.iz.symm z1;have ez:e≠z:=fun q=>by subst q;rw [z2] at ge;cases ge;simp at ce
  exact wpAny_setField_rec z2 (by simp) fun g3 _ b3=>hE g3 _ e (fun b o q1 _ q3 _ q=>b3.extBut _ _ q1 (b2 _ _ q3 (e1 _ _ q1 q))) ⟨oe,b3.extBut _ _ ez ge,ce⟩
 | some cx =>
  have hy:y.cps[n]?=none:=by
   rcases hend with q|q
   .rw [hx] at q;cases q
   .exact q
  refine wpAny_bind (wpAny_bind (wpAny_onRaise (wpAny_bind (m:=Builtin.SmallTypes.nextOf (.ref i)) (bv (W1.mv fun o e=>e1 _ o D.iz e) hx fun g2 w1 b2=>wpAny_pure ?_))));have e2:=b2.extBut;have v2:IsPair g2 V u v:=e2 _ _ D.Vi (e1 _ _ D.Vz hV);refine wpAny_bind (wpAny_seqItems v2 rfl (wpAny_bind (wpAny_updateSeq_pair v2 fun g3 v3 b3=>wpAny_bind (wpAny_letGo (wpAny_pure ?_)))));have e3:=b3.extBut;refine wpAny_bind (wpAny_bind (wpAny_onRaise (wpAny_bind (m:=Builtin.SmallTypes.nextOf (.ref j)) (cB hh (W2.mv fun o e=>e3 _ o D.Vj.symm (e2 _ o D.ij.symm (e1 _ o D.jz e))) hy fun g4 e b4 he=>?_))))
  obtain⟨oe,ge,ce⟩:=he;have z4:IsZip g4 z U V .ellipsis:=b4 _ _ D.jz.symm (e3 _ _ D.Vz.symm (e2 _ _ D.iz.symm z1));have ez:e≠z:=fun q=>by subst q;rw [z4] at ge;cases ge;simp at ce
  exact wpAny_setField_rec z4 (by simp) fun g5 _ b5=>hE g5 _ e (fun b o q1 q2 q3 q4 q=>b5.extBut _ _ q1 (b4 _ _ q4 (e3 _ _ q2 (e2 _ _ q3 (e1 _ _ q1 q))))) ⟨oe,b5.extBut _ _ ez ge,ce⟩
end
def xB(xs ys:List V):It :=
  ⟨fun i H=>∃x y,xs[i]?=some x/\ys[i]?=some y,
   fun i H p H'=>∃T x y,H T=none/\p=.ref T/\xs[i]?=some x/\ys[i]?=some y/\H'=upd H T (.tup [x,y]),
   fun i H=>xs.length<=i\/ys.length<=i⟩
theorem pE{P:Program}{w:World}{K:PySem.W.Frag}{es:List Expr}{ct:Nat}{tp:Pos}{z U V i j:Addr}{la lb:List Nat}{t t':Tok}(D:ZA z U V i j) :
  qh P w K (.Tuple es ct tp) (xB (bS la) (bS lb)) [z,U,V,i,j] z (fun n h=>IsZip h z U V .none/\IsPair h U (.ref i) (.ref j)/\(∃u v,IsPair h V u v)/\SIt h i (S la) t n/\SIt h j (S lb) t' n) where
 mem:=by simp
 obj:=fun n h st b hb=>by
  obtain⟨hz,hU,⟨u,v,hV⟩,⟨o1,g1,c1,d1⟩,⟨o2,g2,c2,d2⟩⟩:=st;simp only [mem_cons,not_mem_nil,or_false] at hb
  rcases hb with rfl|rfl|rfl|rfl|rfl
  .exact⟨_,hz,fun v q=>by cases q⟩
  .exact⟨_,hU,fun v q=>by cases q⟩
  .exact⟨_,hV,fun v q=>by cases q⟩
  .exact⟨_,g1,fun v q=>by rw [d1] at q;cases q⟩
  .exact⟨_,g2,fun v q=>by rw [d2] at q;cases q⟩
 keep:=fun n h h' st kk=>by
  obtain⟨hz,hU,⟨u,v,hV⟩,w1,w2⟩:=st;exact⟨kk z (by simp) _ hz,kk U (by simp) _ hU,⟨u,v,kk V (by simp) _ hV⟩,w1.mv fun o e=>kk i (by simp) o e,w2.mv fun o e=>kk j (by simp) o e⟩
 item:=by
  intro X hP hw hK hc n pins s σ H E I hf st hg;subst hP hw hK;obtain⟨x,y,hx,hy⟩:=hg;obtain⟨hz,hU,⟨u,v,hV⟩,w1,w2⟩:=st;obtain⟨cx,hcx,rfl⟩:=dF hx;obtain⟨cy,hcy,rfl⟩:=dF hy;have hT:s.TypeIs (.ref z) "zip":=⟨_,hz,rfl⟩
  unfold pyNext
  refine wpAny_bind (wpAny_attempt (wpAny_callSpecial?_slot (name:=Str.ofString "__next__") hT F.slot_zip_next (wpAny_call_entry F.slot_zip_next hT F.entry_zip_next
   (tL (cx:=cx) (cy:=cy) D hz hU hV w1 w2 (by simpa [S] using hcx) (by simpa [S] using hcy) fun h' a1 a2 a3 a4 a5 a6 a7=>wpAny_pure ?_) (F.args_zip_next_1 _))))
  refine⟨_,rfl,wpAny_letOwnedTupleGo_zip a1 fun g gz gs=>?_⟩;have lt:∀{b o},s.heap.get? b=some o->s.heap.objs.size≠b:=fun e=>ne_of_gt (Heap.lt_size e)
  have kp:∀b o,b∉[z,V,i,j]->s.heap.get? b=some o->g.get? b=some o:=fun b o hb e=>by
   simp only [mem_cons,not_mem_nil,or_false,not_or] at hb;exact gs.extBut _ _ hb.1 (a7 b o hb.1 hb.2.1 hb.2.2.1 hb.2.2.2 e)
  have I2:Inv X pins σ (upd H s.heap.objs.size (.tup [.str (S [cx]),.str (S [cy])])) { s with heap:=g,toks:=s.toks+1+1 }:=I.yielded (ch:=[z,V,i,j]) (fun b hb=>hf b (by
   simp only [mem_cons,not_mem_nil,or_false] at hb ⊢;rcases hb with q|q|q|q <;> simp [q])) (le_refl _) kp ⟨by show 2<=sizeLine;decide,[.str ⟨#[cx]⟩ s.toks,.str ⟨#[cy]⟩ (s.toks+1)],.cons ⟨_,rfl⟩ (.cons ⟨_,rfl⟩ .nil),_,gs.extBut _ _ (lt hz) a5,rfl,_,rfl⟩
  refine⟨.ref s.heap.objs.size,_,I2,rfl,⟨_,_,_,I.hok.fresh (le_refl _),rfl,hx,hy,rfl⟩,
   ⟨gz,gs.extBut _ _ D.Uz (a7 _ _ D.Uz D.UV D.Ui D.Uj hU),⟨_,_,gs.extBut _ _ D.Vz a2⟩,a3.mv fun o e=>gs.extBut _ o D.iz e,a4.mv fun o e=>gs.extBut _ o D.jz e⟩,fun b hb=>?_⟩
  rw [au ?_]
  .exact (hf b hb).1
  .intro q;subst q;simp only [mem_cons,not_mem_nil,or_false] at hb;obtain⟨o1,g1,_⟩:=w1;obtain⟨o2,g2,_⟩:=w2
   rcases hb with q|q|q|q|q
   .exact lt hz q
   .exact lt hU q
   .exact lt hV q
   .exact lt g1 q
   .exact lt g2 q
 done:=by
  intro X hP hw hK hc n pins s σ H E I hf st hg;subst hP hw hK;have hend:(bS la).length<=n\/(bS lb).length<=n:=hg;obtain⟨hz,hU,⟨u,v,hV⟩,w1,w2⟩:=st;rw [bV,bV] at hend;have hT:s.TypeIs (.ref z) "zip":=⟨_,hz,rfl⟩
  unfold pyNext
  refine wpAny_bind (wpAny_attempt (wpAny_callSpecial?_slot (name:=Str.ofString "__next__") hT F.slot_zip_next (wpAny_call_entry F.slot_zip_next hT F.entry_zip_next
   (vS (I.ok.hd hc) D hz hU hV w1 w2 ?_ fun h' tk e hk he=>?_) (F.args_zip_next_1 _))))
  .rcases hend with q|q
   .exact .inl (by simp [S];omega)
   .exact .inr (by simp [S];omega)
  .obtain⟨o,ho,hcl⟩:=he;refine wpAny_bind (wpAny_isInstance (T:="StopIteration") (b:=true) ⟨o,ho,hcl⟩ isSubtype_stop (wpAny_pure ⟨rfl,?_⟩))
   exact I.step (g':=s.gens) (d':=s.drawn) (t':=tk) (ch:=[z,V,i,j]) (fun b hb=>by
     have q:=hf b (by
      simp only [mem_cons,not_mem_nil,or_false] at hb ⊢;rcases hb with q|q|q|q <;> simp [q])
     exact⟨q.2.2.2.1,q.2.1,q.2.2.2.2.1,q.2.2.2.2.2⟩) (fun b o _ _ hc e _=>by
     simp only [mem_cons,not_mem_nil,or_false,not_or] at hc;exact hk b o hc.1 hc.2.1 hc.2.2.1 hc.2.2.2 e) (fun b o _ _ hc e _=>⟨o.slots,by
     simp only [mem_cons,not_mem_nil,or_false,not_or] at hc;exact hk b o hc.1 hc.2.1 hc.2.2.1 hc.2.2.2 e⟩) (fun _ _ _ _ q=>q) (fun b o hc e=>⟨o,by
     simp only [mem_cons,not_mem_nil,or_false,not_or] at hc;exact hk b o hc.1 hc.2.1 hc.2.2.1 hc.2.2.2 e⟩) (fun _ _ e=>e) (fun _ _ _ e=>e) (fun b ps e=>⟨#[],by rw [e];simp⟩) (fun m hm=>by
     obtain⟨o,es,ep,ho,r⟩:=hm;exact⟨o,es,ep,hk _ o (hf z (by simp)).2.1.symm (hf V (by simp)).2.1.symm (hf i (by simp)).2.1.symm (hf j (by simp)).2.1.symm ho,r⟩) (fun b u e=>by
     have nn:∀b u,H b=some u->b≠z/\b≠V/\b≠i/\b≠j:=fun b u e=>⟨fun q=>(by rw [q,(hf z (by simp)).1] at e;cases e),fun q=>(by rw [q,(hf V (by simp)).1] at e;cases e),fun q=>(by rw [q,(hf i (by simp)).1] at e;cases e),fun q=>(by rw [q,(hf j (by simp)).1] at e;cases e)⟩
     refine (I.hok b u e).stay (fun c v hc q=>?_) (fun _ q=>q) fun _ _ q=>q
     have n4:c≠z/\c≠V/\c≠i/\c≠j:=by
      rcases hc with q|q
      .rw [q];exact nn b u e
      .exact nn c _ q
     exact hk c v n4.1 n4.2.1 n4.2.2.1 n4.2.2.2 q) I.bare
 self:=fun _ _ _ _ _ st h=>wpAny_pyIter_zip st.1 h
section
variable {P:Program}{w:World}{A:Around}{E:Value->Shared->Prop}{s:Shared}
abbrev nE(x:Str)(t:Tok):Obj:={ cls:=.type (strIterType x),data:=.fields #[.str x t,.int 0 0] }
theorem iT{x:Str}{t:Tok}{Q:Value->Shared->Prop}(hQ:Q (.ref s.heap.objs.size) { s with heap:=s.heap.push (nE x t) }):wpAny (model P w) A (pyIter (.str x t)) Q E s:=by
 unfold nE strIterType at hQ
 cases ha:x.cps.all (·<128)
 .simp only [ha,false_eq_true,if_false] at hQ;exact wpAny_pyIter_wide ha hQ
 .simp only [ha,if_true] at hQ;exact wpAny_pyIter_ascii ha hQ
abbrev yg1(h:Heap)(x:Str)(t:Tok):Heap:=h.push (nE x t)
abbrev yg2(h:Heap)(x y:Str)(t u:Tok):Heap:=(yg1 h x t).push (nE y u)
abbrev yg3(h:Heap)(x y:Str)(t u:Tok):Heap:=(yg2 h x y t u).push { cls:=.type "tuple",data:=.seq #[.ref h.objs.size,.ref (yg1 h x t).objs.size] }
abbrev yg4(h:Heap)(x y:Str)(t u:Tok):Heap:=(yg3 h x y t u).push { cls:=.type "tuple",data:=.seq #[.none,.none] }
abbrev yg5(h:Heap)(x y:Str)(t u:Tok):Heap:=(yg4 h x y t u).push { cls:=.type "zip",data:=.fields #[.none,.bool false,.bool false,.ref (yg2 h x y t u).objs.size,.ref (yg3 h x y t u).objs.size] }
theorem qO(x y:Str)(t u:Tok):Meets (Builtin.«zip.__new__» ⟨[.type "zip",.str x t,.str y u],[]⟩) (fun _ R s =>
   R (.ok (.ret (.ref (yg4 s.heap x y t u).objs.size))) { s with heap:=yg5 s.heap x y t u }) :=
 .of_wp fun prog w A R s h=>by
  obtain⟨hp,g,d,tk,os⟩:=s;have hsub:=sub_zip
  wp_walk using iT (x:=x) (t:=t),iT (x:=y) (t:=u)
  exact⟨_,rfl,h⟩
theorem mE{x y:Str}{t u:Tok}{Q:Value->Shared->Prop}
  (h:∀h',IsZip h' (s.heap.objs.size+4) (s.heap.objs.size+2) (s.heap.objs.size+3) .none->IsPair h' (s.heap.objs.size+2) (.ref s.heap.objs.size) (.ref (s.heap.objs.size+1)) ->
   IsPair h' (s.heap.objs.size+3) .none .none->SIt h' s.heap.objs.size x t 0->SIt h' (s.heap.objs.size+1) y u 0->(∀b o,s.heap.get? b=some o->h'.get? b=some o)->Q (.ref (s.heap.objs.size+4)) { s with heap:=h' }) :
  wpAny (model P w) A (call (.type "zip") [.str x t,.str y u]) Q E s:=by
 refine callType_new F.called_zip (by decide) (F.typeCall_zip_2 _ _) (F.newCall_zip_2 _ _) (fun obj=>F.args_object_init_3 obj _ _) F.entry_zip_new (qO x y t u) ?_;have z1:(yg1 s.heap x t).objs.size=s.heap.objs.size+1:=Heap.size_push ..;have z2:(yg2 s.heap x y t u).objs.size=s.heap.objs.size+2:=by rw [Heap.size_push,z1]
 have z3:(yg3 s.heap x y t u).objs.size=s.heap.objs.size+3:=by rw [Heap.size_push,z2]
 have z4:(yg4 s.heap x y t u).objs.size=s.heap.objs.size+4:=by rw [Heap.size_push,z3]
 have m4:∀b o,(yg4 s.heap x y t u).get? b=some o->(yg5 s.heap x y t u).get? b=some o:=fun b o e=>Heap.get?_push_of_some _ e;have m3:∀b o,(yg3 s.heap x y t u).get? b=some o->(yg5 s.heap x y t u).get? b=some o:=fun b o e=>m4 b o (Heap.get?_push_of_some _ e);have m2:∀b o,(yg2 s.heap x y t u).get? b=some o->(yg5 s.heap x y t u).get? b=some o:=fun b o e=>m3 b o (Heap.get?_push_of_some _ e);have m1:∀b o,(yg1 s.heap x t).get? b=some o->(yg5 s.heap x y t u).get? b=some o:=fun b o e=>m2 b o (Heap.get?_push_of_some _ e)
 have g5:(yg5 s.heap x y t u).get? (yg4 s.heap x y t u).objs.size=some _:=Heap.get?_push_size _ rfl;have g4:=m4 _ _ (Heap.get?_push_size (yg3 s.heap x y t u) (o:={ cls:=.type "tuple",data:=.seq #[.none,.none] }) rfl);have g3:=m3 _ _ (Heap.get?_push_size (yg2 s.heap x y t u) (o:={ cls:=.type "tuple",data:=.seq #[.ref s.heap.objs.size,.ref (yg1 s.heap x t).objs.size] }) rfl);have g2:=m2 _ _ (Heap.get?_push_size (yg1 s.heap x t) (o:=nE y u) rfl)
 have g1:=m1 _ _ (Heap.get?_push_size s.heap (o:=nE x t) rfl);show _/\_;rw [z2,z3,z4] at g5;rw [z1,z2] at g3;rw [z3] at g4;rw [z1] at g2;rw [z4];exact⟨⟨_,g5,rfl⟩,h _ g5 g3 g4 ⟨_,g1,rfl,rfl⟩ ⟨_,g2,rfl,rfl⟩ fun b o e=>m1 b o (Heap.get?_push_of_some _ e)⟩
end
section
variable {X:Cx}{es:List Expr}{ct:Nat}{tp:Pos}
def tM(K:PySem.W.Frag)(ta:TA):TI:=fun σ H R=>ta σ H fun vs H1=>(∃k l a c,vs=[.ref a,.ref c]/\(∃xs ys,Sq k K H1 a xs/\Sq l K H1 c ys)/\R (Itz k l K a c) H1)\/∃la lb,vs=[.str (S la),.str (S lb)]/\R (xB (bS la) (bS lb)) H1
theorem pF(K:PySem.W.Frag)(e:X.K=K){a b:Expr}{ta:TA}{p pos:Pos}(hg:Gl X "zip")(hm:X.mg "zip"=none)(ha:PA X [a,b] ta)
  (hs:starEach [a,b] X.env=[(false,eval a X.env),(false,eval b X.env)]:=by rfl) (hs2:starEach [b] X.env=[(false,eval b X.env)]:=by rfl) :
  PI X (.Tuple es ct tp) (.Call (.Name "zip" p) [a,b] [] pos) (tM K ta):=by
 subst e;intro pins s σ H R I h;refine Call_ (c5 I hg hm boot_zip (PyProof.Rows.callWith_type1 (thn (ha pos pins s σ H _ I h) fun us s1 ⟨vs,H1,I1,r1,q1⟩=>?_) (by rw [hs,hs2]) (by rw [hs2];rfl)))
 have fin:∀b∈[s1.heap.objs.size+4,s1.heap.objs.size+2,s1.heap.objs.size+3,s1.heap.objs.size,s1.heap.objs.size+1],mX X pins H1 b:=fun b hb=>by
  have hle:s1.heap.objs.size<=b:=by
   simp only [mem_cons,not_mem_nil,or_false] at hb
   rcases hb with e|e|e|e|e
   .rw [e];exact le_add_right _ _
   .rw [e];exact le_add_right _ _
   .rw [e];exact le_add_right _ _
   .rw [e];exact le_refl _
   .rw [e];exact le_add_right _ _
  exact I1.fpOk hle (I1.hok.fresh hle)
 rcases q1 with ⟨k,l,a,c,e,⟨xs,ys,q1,q2⟩,q⟩|⟨la,lb,e,q⟩
 .subst e
  cases r1 with
  | cons r rr =>
   cases rr with
   | cons r' rr =>
    cases rr;cases r;cases r';obtain⟨its,rv,p,_⟩:=I1.row q1;obtain⟨jts,rv',p',_⟩:=I1.row q2;refine sL p p' fun h' g1 g2 g3 g4 g5 kk=>wpAny_pyIter_zip g1 ?_;have I2:Inv X pins σ H1 { s1 with heap:=h',toks:=s1.toks }:=I1.kept kk
    exact⟨s1.heap.objs.size+4,[s1.heap.objs.size+4,s1.heap.objs.size+2,s1.heap.objs.size+3,s1.heap.objs.size,s1.heap.objs.size+1],_,_,H1,rfl,I2,qz (i:=s1.heap.objs.size) (j:=s1.heap.objs.size+1)
     (sJ _),⟨g1,g2,⟨_,_,g3⟩,g4,g5⟩,fin,q⟩
 .subst e
  cases r1 with
  | cons r rr =>
   cases rr with
   | cons r' rr =>
    cases rr;obtain⟨t,rfl⟩:=r;obtain⟨u,rfl⟩:=r';refine mE fun h' g1 g2 g3 g4 g5 kk=>wpAny_pyIter_zip g1 ?_;have I2:Inv X pins σ H1 { s1 with heap:=h',toks:=s1.toks }:=I1.kept kk
    exact⟨s1.heap.objs.size+4,[s1.heap.objs.size+4,s1.heap.objs.size+2,s1.heap.objs.size+3,s1.heap.objs.size,s1.heap.objs.size+1],_,_,H1,rfl,I2,pE (i:=s1.heap.objs.size) (j:=s1.heap.objs.size+1)
     (sJ _),⟨g1,g2,⟨_,_,g3⟩,g4,g5⟩,fin,q⟩
def pG(pa:PTA):PTI:=fun ρ Q=>pa ρ fun as ρ1=>match as with
 | [.v (.str x),.v (.str y)]=>Q (min x.length y.length) (fun k=>.tup [.str [x.getD k 0],.str [y.getD k 0]]) ρ1
 | [.v a,.v b]=>(match rowD a,rowD b with
  | some xs,some ys=>Q (min xs.length ys.length) (fun k=>.tup [itD xs k,itD ys k]) ρ1
  | _,_=>False)
 | _=>False
end
section
variable {K:PySem.W.Frag}{ta:TA}{pa:PTA}
theorem vT{O:Addr->Prop}{H:Hp}{x y:List Nat}:Wlk K O H (xB (bS x) (bS y)) (min x.length y.length) (fun k=>.tup [.str [x.getD k 0],.str [y.getD k 0]]):=fun O' H' kk dom=>by
 refine⟨fun j hj=>?_,?_⟩
 .have h1:j<(bS x).length:=by rw [bV];omega
  have h2:j<(bS y).length:=by rw [bV];omega
  refine⟨⟨_,_,getElem?_eq_getElem h1,getElem?_eq_getElem h2⟩,fun v H'' ⟨T,u,w,hT,e,y1,y2,e2⟩=>?_⟩;subst e e2;obtain⟨c,hc,rfl⟩:=dF y1;obtain⟨d,hd,rfl⟩:=dF y2;show Gr H' _/\FV K O' _ _ (.tup [.str [x.getD j 0],.str [y.getD j 0]]);rw [getD_eq_getElem?_getD,getD_eq_getElem?_getD,hc,hd];exact⟨Gr.new hT,.tup (fun z=>dom T z hT) aT (.cons (.str _ (by show 1<=1000000;decide)) (.cons (.str _ (by show 1<=1000000;decide)) .nil))⟩
 .show (bS x).length<=_\/(bS y).length<=_;rw [bV,bV];omega
theorem pH(h:LAs K ta pa):LI K (tM K ta) (pG pa):=fun A ρ σ H Q Q' R q k=>h A ρ σ H _ _ R q fun vs H1 as ρ1 q1 f1 R1 o1=>by
 split at q1
 .rename_i x y
  cases o1 with
  | cons o1 o2 =>
   cases o2 with
   | cons o2 o3 =>
    cases o3;have f1':FV K _ H1 _ (.str x):=o1;have f2':FV K _ H1 _ (.str y):=o2;cases f1';cases f2';exact .inr ⟨x,y,rfl,k _ H1 _ _ ρ1 q1 f1 R1 vT⟩
 .rename_i da db hno;have:=vL (K:=K) (ta:=ta) (pa:=pa) h
  cases o1 with
  | cons o1 o2 =>
   cases o2 with
   | cons o2 o3 =>
    cases o3
    split at q1
    .rename_i xs ys ex ey;obtain⟨b1,a1,us,rfl,l1,w1⟩:=FV.rowD (show FV K _ H1 _ da from o1) ex;obtain⟨b2,a2,ws,rfl,l2,w2⟩:=FV.rowD (show FV K _ H1 _ db from o2) ey;have t1:=w1 _ H1 (fun b o n h=>⟨n,h⟩);have t2:=w2 _ H1 (fun b o n h=>⟨n,h⟩);refine .inl ⟨b1,b2,a1,a2,rfl,⟨us,ws,t1.1,t2.1⟩,k _ H1 _ _ ρ1 q1 f1 R1 fun O' H' kk dom=>?_⟩;obtain⟨s1,g1⟩:=w1 O' H' kk;obtain⟨s2,g2⟩:=w2 O' H' kk;refine⟨fun j hj=>?_,⟨us,ws,s1,s2,by omega⟩⟩
     have h1:j<us.length:=by omega
     have h2:j<ws.length:=by omega
     refine⟨⟨us,ws,_,_,s1,s2,getElem?_eq_getElem h1,getElem?_eq_getElem h2⟩,fun x H'' ⟨T,u,w,hT,e,y1,y2,e2⟩=>?_⟩;subst e e2;obtain⟨d1,hd1,fd1⟩:=g1.get (y1 us s1);obtain⟨d2,hd2,fd2⟩:=g2.get (y2 ws s2);have e1:itD xs j=d1:=by unfold itD;rw [getD_eq_getElem?_getD,hd1];rfl
     have e2:itD ys j=d2:=by unfold itD;rw [getD_eq_getElem?_getD,hd2];rfl
     rw [e1,e2];have kk2:aM O' H' O' (upd H' T (.tup [u,w])):=fun b o n e=>⟨n,by rw [au (aQ e hT)];exact e⟩
     exact⟨Gr.new hT,.tup (fun z=>dom T z hT) aT (.cons (fd1.keeps kk2) (.cons (fd2.keeps kk2) .nil))⟩
    .exact q1.elim
 .exact q1.elim
end
section
variable {prog:Program}{w:World}{A:Around}{E:Value->Shared->Prop}{s:Shared}
theorem kr{it t:Addr}{items:Array Value}(hne:t≠it):∀(n i:Nat) (s:Shared) (Q:List Value->Shared->Prop),s.heap.IsListIter it t i->s.heap.IsList t items->i+n<=items.size ->
  (∀h',h'.IsListIter it t (i+n)->Heap.SameBut it s.heap h'->Q ((items.toList.drop i).take n) { s with heap:=h' })->wpAny (model prog w) A (draw (.ref it) n) Q E s
 | 0,i,s,Q,hit,_,_,hQ=>by
  show wpAny _ _ (pure []) Q E s;exact wpAny_pure (by simpa using hQ s.heap hit (Heap.SameBut.refl ..))
 | n+1,i,s,Q,hit,ht,hle,hQ=>by
  have hlt:i<items.size:=by omega
  show wpAny _ _ (pyNext (.ref it) >>= _) Q E s;refine wpAny_bind (wpAny_pyNext_list_item hit ht (x:=items[i]) (by simp [hlt]) fun h₁ hit₁ hs₁=>?_);refine wpAny_bind (wpAny_holding (kr hne n (i+1) _ _ hit₁ (ht.extBut hs₁.extBut hne) (by omega) fun h₂ hit₂ hs₂=>wpAny_pure ?_));have hd:items.toList.drop i=items[i]::items.toList.drop (i+1):=by simp [drop_eq_getElem_cons,hlt]
  have:=hQ h₂ (by rw [show i+(n+1)=i+1+n by omega];exact hit₂) (hs₁.trans hs₂);rw [hd,take_succ_cons] at this;exact this
theorem gL{t:Addr}{items:Array Value}{Q:List Value->Shared->Prop}(hh:A.handled=none)(ht:s.heap.IsList t items)
  (hQ:∀h',Heap.ExtBut s.heap.objs.size s.heap h'->Q items.toList { s with heap:=h' }):wpAny (model prog w) A (unpackItems (.ref t) items.size none) Q E s:=by
 have hlt:t≠s.heap.objs.size:=by obtain⟨o,ho,_⟩:=ht;exact Nat.ne_of_lt (Heap.lt_size ho)
 unfold unpackItems
 refine wpAny_bind ?_
 .unfold notIterableAtAll;refine wpAny_bind (wpAny_specialOf ht.typeIs PySem.F.slot_list_iter.lookup ?_);refine wpAny_pure ?_;simp only [false_eq_true,if_false];refine wpAny_bind (wpAny_holding (wpAny_pyIter_list ht ?_));refine wpAny_bind (wpAny_holding (kr hlt items.size 0 _ _ ⟨_,Heap.get?_push_size _ rfl,rfl,rfl⟩ (ht.push _) (by omega) fun h₁ hit₁ hs₁=>?_))
  have hall:List.take items.size (List.drop 0 items.toList)=items.toList:=by
   rw [drop_zero];exact take_of_length_le (by simp)
  rw [hall];rw [if_neg (by simp)];have ht₁:h₁.IsList t items:=(ht.push _).extBut hs₁.extBut hlt;refine wpAny_bind (wpAny_holding (wpAny_pyNext_list_end hh hit₁ ht₁ (by simp) fun h₂ he₂=>?_));simp only [Option.isSome_none,false_eq_true,if_false];refine wpAny_pure (hQ h₂ fun b o hb e=>he₂ b o hb (hs₁.extBut b o hb (Heap.get?_push_of_some _ e)))
theorem fW{env:Env}{elts:List Expr}{x1}{pos:Pos}{t:Addr}{items:Array Value}{Q:Unit->Shared->Prop}(hh:A.handled=none)(ht:s.heap.IsList t items)
  (hn:(assignEach elts env).length=items.size) (hstar:(assignEach elts env).findIdx? (·.1)=none)
  (h:∀h',Heap.ExtBut s.heap.objs.size s.heap h'->wpAny (model prog w) A (assignInOrder ((assignEach elts env).map (·.2)) items.toList) Q E { s with heap:=h' }) :
  wpAny (model prog w) A (assign (.Tuple elts x1 pos) env (.ref t)) Q E s:=by
 rw [assign_Tuple];refine wpAny_bind (wpAny_standAt ?_);unfold unpack;rw [hn,hstar];exact wpAny_bind (wpAny_holding (gL hh ht h))
end
def ul(K:PySem.W.Frag)(n:Nat)(t:TGs):TG:=fun v σ H Q=>∃b a xs,v=.ref a/\Sq b K H a xs/\xs.length=n/\t xs σ H Q
section
variable {X:Cx}
theorem iU(K:PySem.W.Frag)(eK:X.K=K){es:List Expr}{k:Nat}{t:TGs}{n:Nat}{pos:Pos}(hc:X.calm=true)(h:PGs X es t)
  (hn:(assignEach es X.env).length=n:=by rfl) (hst:(assignEach es X.env).findIdx? (·.1)=none:=by rfl):PG X (.Tuple es k pos) (ul K n t):=by
 subst eK;intro pins s σ H v u Q I r hw;obtain⟨b,a,xs,e1,hq,hl,hw⟩:=hw
 cases b with
 | true=>exact uH hc h hn hst pins s σ H v u Q I r ⟨a,xs,e1,hq,hl,hw⟩
 | false =>
  subst e1;cases r;obtain⟨its,rv,ht,hz⟩:=I.list hq;refine fW (I.ok.hd hc) ht.isList (by simp [hn,<- hl,rv.length]) hst fun h' hx=>?_;have I1:Inv X pins σ H { s with heap:=h' }:=I.kept (t':=s.toks) fun b o e=>hx b o (Nat.ne_of_lt (Heap.lt_size e)) e;exact h pins _ σ H xs _ Q I1 (by simpa using rv) hw
def iB(n:Nat)(gs:rC):PTG:=fun p ρ Q=>match p with|.dat (.tup ds)=>ds.length=n/\gs ds ρ Q|.dat (.lst ds)=>ds.length=n/\gs ds ρ Q|.own ds=>ds.length=n/\gs ds ρ Q|_=>False
end
section
variable {K:PySem.W.Frag}{fs:List Nat}
theorem h8{n:Nat}{gs:TGs}{pgs:rC}(h:LGs K fs gs pgs):LGd K fs (ul K n gs) (iB n pgs):=fun fx A R H0 ρ σ H d v Q Q' hf F r fv q k=>by
 unfold iB at q
 split at q
 .rename_i e;cases e
  cases fv with
  | tup nn e f=>exact⟨true,_,_,rfl,SqT.of e,by rw [f.length];exact q.1,h fx A R H0 ρ σ H _ _ Q Q' hf F r f q.2 k⟩
 .rename_i e;cases e
  cases fv with
  | lst nn e f=>exact⟨false,_,_,rfl,SqL.of e,by rw [f.length];exact q.1,h fx A R H0 ρ σ H _ _ Q Q' hf F r f q.2 k⟩
 .rename_i e;cases e
 .exact q.elim
theorem vU{n:Nat}{gs:TGs}{pgs:rC}(h:LGs K fs gs pgs):LG K fs (ul K n gs) (iB n pgs):=fun fx A R H0 ρ σ H p v Q Q' hf F o q k=>by
 unfold iB at q
 split at q
 .obtain⟨r,fv⟩:=o
  cases fv with
  | tup nn e f=>exact⟨true,_,_,rfl,SqT.of e,by rw [f.length];exact q.1,h fx A R H0 ρ σ H _ _ Q Q' hf F r f q.2 fun ρ' σ' q' r' F' _=>k ρ' σ' H q' r' F'⟩
 .obtain⟨r,fv⟩:=o
  cases fv with
  | lst nn e f=>exact⟨false,_,_,rfl,SqL.of e,by rw [f.length];exact q.1,h fx A R H0 ρ σ H _ _ Q Q' hf F r f q.2 fun ρ' σ' q' r' F' _=>k ρ' σ' H q' r' F'⟩
 .obtain⟨r,fv⟩:=o.frz
  cases fv with
  | lst nn e f=>exact⟨false,_,_,rfl,SqL.of e,by rw [f.length];exact q.1,h fx A R H0 ρ σ H _ _ Q Q' hf F r f q.2 fun ρ' σ' q' r' F' _=>k ρ' σ' H q' r' F'⟩
 .exact q.elim
end
def qP(d:D)(xs:List D):Prop:=d=.lst xs\/d=.tup xs
theorem vV{d:D}{xs:List D}{Q:PV->Prop}(h:qP d xs)(q:Q (.dat (.int xs.length))):dC [d] Q:=by
 rcases h with rfl|rfl <;> exact q
theorem qP.lst(xs:List D):qP (.lst xs) xs:=.inl rfl
theorem qP.tup(xs:List D):qP (.tup xs) xs:=.inr rfl
def nSt:Expr->Bool
 | .Starred _ _=>false
 | _=>true
theorem e9{e:Expr}{es:List Expr}{env:Env}(h:nSt e=true):starEach (e::es) env=(false,eval e env)::starEach es env:=by
 cases e <;> first|rfl|cases h
theorem fz{env:Env}{pos:Pos}:∀{es:List Expr},es.all nSt=true->(backTo pos (starEach es env)).any (·.1)=false
 | [],_=>rfl
 | e::es,h=>by
  rw [all_cons,and_eq_true] at h;rw [e9 h.1];show (false || (backTo pos (starEach es env)).any (·.1))=false;rw [fz h.2];rfl
section
variable {X:Cx}{k:Nat}{x:Str}{ps:List Str}{sp:Sp}{e:Expr}{es:List Expr}{te:TE}{t:TA}{p pos:Pos}{dvs:List V}{C:Addr}{id T:String}{r:List V->Hp->VK->Prop}
theorem paC(ha:PE X e te)(hr:PA X es t)(hn:nSt e=true:=by rfl):PA X (e::es) (cX te t):=sm ha hr (e9 hn)
theorem aK(C:Cal X.prog X.w X.K X.mg X.base k x ps sp)(hr:gN k X.A)(ha:PA X (e::es) t)(hg:Gl X x:=by rfl)(hdb:(x == ("__debug__":Str))=false:=by decide)(hn:nSt e=true:=by rfl)(hp:es.all nSt=true:=by rfl) :
  PE X (.Call (.Name x p) (e::es) [] pos) (gS sp [] E0 t):=vm C hr ha hg hdb (e9 hn) (fz hp)
theorem qQ(j:Nat)(C:vw X.prog X.w X.K X.mg X.base k x ps dvs sp)(hr:gN k X.A)(hj:j<=dvs.length)(ha:PA X (e::es) t)(hg:Gl X x:=by rfl)(hdb:(x == ("__debug__":Str))=false:=by decide)(hn:nSt e=true:=by rfl)(hp:es.all nSt=true:=by rfl) :
  PE X (.Call (.Name x p) (e::es) [] pos) (gS sp (dvs.drop j) E0 t):=sP j C hr hj ha hg hdb (e9 hn) (fz hp)
theorem ak(hc:cw X (.builtin id) r)(hg:Gl X x)(hm:X.mg x=none)(hv:bootBuiltins x=some (.builtin id))(ha:PA X (e::es) t)(hnn:x≠"__name__":=by decide)(hdb:(x == ("__debug__":Str))=false:=by decide)(hn:nSt e=true:=by rfl)(hp:es.all nSt=true:=by rfl) :
  PE X (.Call (.Name x p) (e::es) [] pos) (tCB r t):=ql hc hg hm hv ha hnn hdb (e9 hn) (fz hp)
theorem dL(hc:cw X (.type T) r)(hg:Gl X x)(hm:X.mg x=none)(hv:bootBuiltins x=some (.type T))(ha:PA X (e::es) t)(hnn:x≠"__name__":=by decide)(hdb:(x == ("__debug__":Str))=false:=by decide)(hn:nSt e=true:=by rfl)(hp:es.all nSt=true:=by rfl) :
  PE X (.Call (.Name x p) (e::es) [] pos) (tCB r t):=og hc hg hm hv ha hnn hdb (e9 hn) (fz hp)
end
def plT:Expr->Bool
 | .Call _ _ _ _=>true
 | .Name _ _=>true
 | .Subscript _ _ _=>true
 | .Attribute _ _ _=>true
 | _=>false
theorem tN{e:Expr}{env:Env}(h:plT e=true):∀whole,isTrue e env whole=(do let v <- whole;standAt e.pos;holding [v] (truthy v)):=by
 cases e <;> first|(intro _;rfl)|cases h
theorem fX{X:Cx}{e:Expr}{t:TE}(h:PE X e t)(hp:plT e=true:=by rfl):PT X e (tB t):=uA h (tN hp)
def um(a b:List Nat):Bool:=decide (0<=fnd b a 0)
def nD(k:Nat):D:=.int (k:Int)
theorem rM(k:Nat):∀ks:List Nat,inD (.int (k:Int)) (ks.map nD)=decide (k∈ks)
 | []=>by simp [inD]
 | v::r=>by
  have ih:=rM k r;unfold inD at ih ⊢;rw [map_cons,any_cons,ih];show (((v:Int) == (k:Int)) || decide (k∈r))=_
  by_cases h:v=k
  .subst h;simp
  .rw [show ((v:Int) == (k:Int))=false from beq_eq_false_iff_ne.mpr (by omega),Bool.false_or]
   by_cases h2:k∈r
   .rw [decide_eq_true h2,decide_eq_true (mem_cons_of_mem _ h2)]
   .rw [decide_eq_false h2,decide_eq_false (fun z=>(mem_cons.mp z).elim (fun e=>h e.symm) h2)]
theorem xC(ks:List Nat):(ks.map nD).all D.fl=true:=by rw [all_map];exact all_eq_true.mpr fun _ _=>rfl
theorem fA{α β:Type}(p:α->Bool)(g:α->β):∀l:List α,l.filterMap (fun a=>if p a=true then some (g a) else none)=(l.filter p).map g
 | []=>rfl
 | a::r=>by
  rw [filterMap_cons,filter_cons]
  cases h:p a with
  | true=>simp [fA p g r]
  | false=>simp [fA p g r]
theorem qR(a b:List Int):deq (.lst (a.map .int)) (.lst (b.map .int))=decide (a=b):=by
 unfold deq;show PyData.eqv (.list (D.pys _)) (.list (D.pys _))=_;rw [jx,jx];simp only [PyData.eqv];exact g9 a b
open PySem.Builtin PySem.Builtin.ObjectAttr
open PySem.Builtin PySem.Builtin.ObjectAttr
open PySem.Builtin PySem.Builtin.ObjectAttr
open PySem.Builtin PySem.Builtin.ObjectAttr
theorem pI(d:D):(PV.dat d).d=d:=rfl
theorem pJ(ds:List D):(PV.own ds).d=.lst ds:=rfl
theorem pK(c:Str)(ns:List Str)(ds:List D):(PV.ins c ns ds).d=.obj c ns ds:=rfl
theorem vW(ds:List D):mkL false ds=.own ds:=rfl
theorem vX(ds:List D):mkL true ds=.dat (.tup ds):=rfl
def pkm(ρ:PSt)(j:Nat):Option PV:=match ρ[j]? with
 | some v=>v
 | none=>none
theorem mF(v:Option PV)(r:PSt):pkm (v::r) 0=v:=rfl
theorem mG(v:Option PV)(r:PSt)(n:Nat):pkm (v::r) (n+1)=pkm r n:=rfl
theorem kt(ρ:PSt):bC [] ρ=[]:=rfl
theorem iV(ix:List (Option Nat))(ρ:PSt):bC (none::ix) ρ=none::bC ix ρ:=rfl
theorem iW(j:Nat)(ix:List (Option Nat))(ρ:PSt):bC (some j::ix) ρ=pkm ρ j::bC ix ρ:=rfl
theorem ku(j:Nat)(ix:List (Option Nat))(ρ:PSt)(t:Option PV)(τ:PSt):ej (some j::ix) ρ (t::τ)=ej ix (ρ.set j t) τ:=rfl
theorem kv(ix:List (Option Nat))(ρ:PSt)(t:Option PV)(τ:PSt):ej (none::ix) ρ (t::τ)=ej ix ρ τ:=rfl
theorem mH(ρ τ:PSt):ej [] ρ τ=ρ:=rfl
def yr(pe:PTE):PTE:=fun ρ Q=>pe ρ fun p ρ1=>Q (.dat p.d) ρ1
theorem vY{K:PySem.W.Frag}{ta:TE}{pe:PTE}(h:LE K ta pe):LE K ta (yr pe):=fun A ρ σ H Q Q' R q k=>h A ρ σ H _ Q' R q fun v H' p ρ' q f o=>k v H' (.dat p.d) ρ' q f o.frz
theorem fY{α:Type}{e:α->D}{xs:List α}{k:Nat}(h:k<xs.length):itD (xs.map e) k=e xs[k]:=km (by rw [getElem?_map,getElem?_eq_getElem h];rfl)
theorem pL{α β:Type}(f:α->β)(xs:List α)(g:Nat->β)(h:∀k (hk:k<xs.length),g k=f xs[k]):(List.range xs.length).map g=xs.map f:=by
 apply ext_getElem?;intro i;rw [getElem?_map,getElem?_map]
 by_cases hi:i<xs.length
 .rw [getElem?_range hi,getElem?_eq_getElem hi];exact congrArg some (h i hi)
 .rw [getElem?_eq_none (by rw [length_range];omega),getElem?_eq_none (by omega)];rfl
section
variable {α:Type}{e:α->D}{xs:List α}{ix:List (Option Nat)}{ρ1:PSt}{g:PTG}{pt:PTT}{pe:PTE}{Q:PKt}
theorem yN(T:PSt->Prop)(f:α->Option D)(h0:T (bC ix ρ1))
  (hs:∀x∈xs,∀τ,T τ->∀(K1:D->PSt->Prop) (K2:PSt->Prop),(∀d τ',f x=some d->T τ'->K1 d τ')->(∀τ',f x=none->T τ'->K2 τ')->g (.dat (e x)) τ fun τ2=>pt τ2 fun ok τ3=>gj ok (pe τ3 fun p τ4=>K1 p.d τ4) (K2 τ3))
  (hq:∀τ,T τ->Q (.own (xs.filterMap f)) (ej ix ρ1 τ)):ju ix ρ1 (xs.map e).length (itD (xs.map e)) g pt pe Q:=by
 refine cfm T (fun k=>(xs[k]?).bind f) h0 (fun k τ d hk ed t K1 K2 k1 k2=>?_) fun τ t=>?_
 .rw [length_map] at hk;rw [fY hk] at ed;subst ed;have eg:(xs[k]?).bind f=f xs[k]:=by rw [getElem?_eq_getElem hk];rfl
  rw [eg] at k1 k2;exact hs _ (getElem_mem hk) τ t K1 K2 k1 k2
 .have e1:(List.range (xs.map e).length).filterMap (fun k=>(xs[k]?).bind f)=xs.filterMap f:=by
   rw [length_map];have h1:(List.range xs.length).map (fun k=>(xs[k]?).bind f)=xs.map f:=pL f xs _ fun k hk=>by rw [getElem?_eq_getElem hk];rfl
   have h2:∀l:List Nat,l.filterMap (fun k=>(xs[k]?).bind f)=(l.map fun k=>(xs[k]?).bind f).filterMap id:=fun l=>by rw [filterMap_map];rfl
   rw [h2,h1,filterMap_map];rfl
  rw [e1];exact hq τ t
theorem xD{β:Type}(p:α->Bool)(f:α->β):∀xs:List α,xs.filterMap (fun x=>if p x=true then some (f x) else none)=(xs.filter p).map f:=fA p f
theorem cfX(T:PSt->Prop)(p:α->Bool)(f:α->D)(h0:T (bC ix ρ1))
  (hs:∀x∈xs,∀τ,T τ->∀(K1:D->PSt->Prop) (K2:PSt->Prop),(∀τ',p x=true->T τ'->K1 (f x) τ')->(∀τ',p x=false->T τ'->K2 τ')->g (.dat (e x)) τ fun τ2=>pt τ2 fun ok τ3=>gj ok (pe τ3 fun p τ4=>K1 p.d τ4) (K2 τ3))
  (hq:∀τ,T τ->Q (.own ((xs.filter p).map f)) (ej ix ρ1 τ)):ju ix ρ1 (xs.map e).length (itD (xs.map e)) g pt pe Q:=by
 refine yN T (fun x=>if p x=true then some (f x) else none) h0 (fun x hx τ t K1 K2 k1 k2=>hs x hx τ t K1 K2 (fun τ' h t'=>k1 _ τ' (by rw [if_pos h]) t') fun τ' h t'=>k2 τ' (by rw [if_neg (by rw [h];decide)]) t') fun τ t=>?_;rw [xD];exact hq τ t
theorem cf1(p:α->Bool)(f:α->D)
  (hs:∀x∈xs,∀(v:Option PV) (K1:D->PSt->Prop) (K2:PSt->Prop),(∀v',p x=true->K1 (f x) (v'::(bC ix ρ1).tail))->(∀v',p x=false->K2 (v'::(bC ix ρ1).tail))->g (.dat (e x)) (v::(bC ix ρ1).tail) fun τ2=>pt τ2 fun ok τ3=>gj ok (pe τ3 fun p τ4=>K1 p.d τ4) (K2 τ3))
  (hq:∀v:Option PV,Q (.own ((xs.filter p).map f)) (ej ix ρ1 (v::(bC ix ρ1).tail))) (hx:bC ix ρ1=none::(bC ix ρ1).tail:=by rfl):ju ix ρ1 (xs.map e).length (itD (xs.map e)) g pt pe Q:=by
 refine cfX (fun τ=>∃v,τ=v::(bC ix ρ1).tail) p f ⟨none,hx⟩ ?_ ?_
 .rintro x hx τ ⟨v,rfl⟩ K1 K2 k1 k2;exact hs x hx v K1 K2 (fun v' h=>k1 _ h ⟨v',rfl⟩) fun v' h=>k2 _ h ⟨v',rfl⟩
 .rintro τ ⟨v,rfl⟩;exact hq v
end
theorem cmR{ix:List (Option Nat)}{ρ1:PSt}{g:PTG}{pe:PTE}{Q:PKt}{n:Nat}{it:Nat->D}(f:Nat->D)
  (hs:∀k,k<n->∀(v:Option PV) (K1:D->PSt->Prop),(∀v',K1 (f k) (v'::(bC ix ρ1).tail))->g (.dat (it k)) (v::(bC ix ρ1).tail) fun τ2=>pe τ2 fun p τ4=>K1 p.d τ4)
  (hq:∀v:Option PV,Q (.own ((List.range n).map f)) (ej ix ρ1 (v::(bC ix ρ1).tail))) (hx:bC ix ρ1=none::(bC ix ρ1).tail:=by rfl):ju ix ρ1 n it g tG pe Q:=by
 refine wD (fun τ=>∃v,τ=v::(bC ix ρ1).tail) f ⟨none,hx⟩ ?_ ?_
 .rintro k τ d hk rfl ⟨v,rfl⟩ K1 k1;exact hs k hk v K1 fun v'=>k1 _ ⟨v',rfl⟩
 .rintro τ ⟨v,rfl⟩;exact hq v
theorem cfR{ix:List (Option Nat)}{ρ1:PSt}{g:PTG}{pt:PTT}{pe:PTE}{Q:PKt}{n:Nat}{it:Nat->D}(p:Nat->Bool)(f:Nat->D)
  (hs:∀k,k<n->∀(v:Option PV) (K1:D->PSt->Prop) (K2:PSt->Prop),(∀v',p k=true->K1 (f k) (v'::(bC ix ρ1).tail))->(∀v',p k=false->K2 (v'::(bC ix ρ1).tail))->g (.dat (it k)) (v::(bC ix ρ1).tail) fun τ2=>pt τ2 fun ok τ3=>gj ok (pe τ3 fun p τ4=>K1 p.d τ4) (K2 τ3))
  (hq:∀v:Option PV,Q (.own (((List.range n).filter p).map f)) (ej ix ρ1 (v::(bC ix ρ1).tail))) (hx:bC ix ρ1=none::(bC ix ρ1).tail:=by rfl):ju ix ρ1 n it g pt pe Q:=by
 refine cfm (fun τ=>∃v,τ=v::(bC ix ρ1).tail) (fun k=>if p k=true then some (f k) else none) ⟨none,hx⟩ ?_ ?_
 .rintro k τ d hk rfl ⟨v,rfl⟩ K1 K2 k1 k2;exact hs k hk v K1 K2 (fun v' h=>k1 _ _ (by rw [if_pos h]) ⟨v',rfl⟩) fun v' h=>k2 _ (by rw [if_neg (by rw [h];decide)]) ⟨v',rfl⟩
 .rintro τ ⟨v,rfl⟩;rw [fA];exact hq v
section
variable {α:Type}{e:α->D}{xs:List α}{ρ1:PSt}{g:PTG}{pb:PTS}{nx bk:PSt->Prop}{rt:PV->PSt->Prop}
theorem yt(J:List α->PSt->Prop)(h0:J [] ρ1)
  (hs:∀pre x suf ρ,xs=pre++x::suf->J pre ρ->g (.dat (e x)) ρ fun ρ2=>pb { nx:=J (pre++[x]),rt:=rt,bk:=bk,ct:=J (pre++[x]) } ρ2) (hq:∀ρ,J xs ρ->nx ρ) :
  ∃I:Nat->PSt->Prop,I 0 ρ1/\(∀k ρ d,k<(xs.map e).length->d=itD (xs.map e) k->I k ρ->g (.dat d) ρ fun ρ2=>pb { nx:=I (k+1),rt:=rt,bk:=bk,ct:=I (k+1) } ρ2)/\∀ρ,I (xs.map e).length ρ->nx ρ:=by
 refine⟨fun k ρ=>J (xs.take k) ρ,by show J (xs.take 0) ρ1;rw [take_zero];exact h0,fun k ρ d hk ed hJ=>?_,fun ρ h=>hq ρ (by have h:J (xs.take (xs.map e).length) ρ:=h;rw [length_map,take_length] at h;exact h)⟩;rw [length_map] at hk;rw [fY hk] at ed;subst ed;have ht:xs.take (k+1)=xs.take k++[xs[k]]:=by rw [take_succ,getElem?_eq_getElem hk];rfl
 show g _ ρ fun ρ2=>pb { nx:=J (xs.take (k+1)),rt:=rt,bk:=bk,ct:=J (xs.take (k+1)) } ρ2;rw [ht];exact hs _ _ (xs.drop (k+1)) ρ (by rw [getElem_cons_drop,take_append_drop]) hJ
end
theorem yO{α β:Type}(f:α->β)(xs:List α):cW (xs.map f) (some 1) none=(xs.tail).map f:=by
 rw [show (1:Int)=((1:Nat):Int) from rfl,fk,<- map_drop,drop_one]
section
variable {α β:Type}{e:α->D}{e':β->D}{xs:List α}{ys:List β}{ρ1:PSt}{g:PTG}{pb:PTS}{nx bk:PSt->Prop}{rt:PV->PSt->Prop}
theorem yu{it:Nat->D}{n:Nat}(J:List α->PSt->Prop)(h0:J (xs.take 1) ρ1)
  (hs:∀pre a b suf ρ,xs=pre++a::b::suf->J (pre++[a]) ρ->g (.dat (.tup [e a,e b])) ρ fun ρ2=>pb { nx:=J (pre++[a]++[b]),rt:=rt,bk:=bk,ct:=J (pre++[a]++[b]) } ρ2) (hq:∀ρ,J xs ρ->nx ρ)
  (hn:n=min (xs.map e).length (xs.tail.map e).length:=by rfl) (hit:∀k,it k=.tup [itD (xs.map e) k,itD (xs.tail.map e) k]:=by intro k;rfl) :
  ∃I:Nat->PSt->Prop,I 0 ρ1/\(∀k ρ d,k<n->d=it k->I k ρ->g (.dat d) ρ fun ρ2=>pb { nx:=I (k+1),rt:=rt,bk:=bk,ct:=I (k+1) } ρ2)/\∀ρ,I n ρ->nx ρ:=by
 rw [length_map,length_map,length_tail] at hn
 refine⟨fun k ρ=>J (xs.take (k+1)) ρ,h0,fun k ρ d hk ed hJ=>?_,fun ρ h=>hq ρ ?_⟩
 .have k1:k+1<xs.length:=by omega
  have k0:k<xs.length:=by omega
  rw [hit,fY k0,fY (by rw [length_tail];omega),getElem_tail] at ed;subst ed;have t1:xs.take (k+1)=xs.take k++[xs[k]]:=by rw [take_succ,getElem?_eq_getElem k0];rfl
  have t2:xs.take (k+1+1)=xs.take k++[xs[k]]++[xs[k+1]]:=by rw [take_succ,getElem?_eq_getElem k1,t1];rfl
  show g _ ρ fun ρ2=>pb { nx:=J (xs.take (k+1+1)),rt:=rt,bk:=bk,ct:=J (xs.take (k+1+1)) } ρ2;rw [t2];refine hs _ _ _ (xs.drop (k+1+1)) ρ ?_ (by rw [<- t1];exact hJ);rw [getElem_cons_drop,getElem_cons_drop,take_append_drop]
 .have h:J (xs.take (n+1)) ρ:=h;rw [take_of_length_le (by omega)] at h;exact h
end
section
variable {α β:Type}{e:α->D}{e':β->D}{xs:List α}{ys:List β}{ix:List (Option Nat)}{ρ1:PSt}{g:PTG}{pt:PTT}{pe:PTE}{Q:PKt}
theorem pM{γ:Type}(f:α->β->γ)(xs:List α)(ys:List β)(h:Nat->γ)(hh:∀k (h1:k<xs.length) (h2:k<ys.length),h k=f xs[k] ys[k]):(List.range (min xs.length ys.length)).map h=(xs.zip ys).map fun p=>f p.1 p.2:=by
 apply ext_getElem?;intro i;rw [getElem?_map,getElem?_map]
 by_cases hi:i<min xs.length ys.length
 .have h1:i<xs.length:=by omega
  have h2:i<ys.length:=by omega
  rw [getElem?_range hi,getElem?_eq_getElem (by rw [length_zip];exact hi),getElem_zip];exact congrArg some (hh i h1 h2)
 .rw [getElem?_eq_none (by rw [length_range];omega),getElem?_eq_none (by rw [length_zip];omega)];rfl
theorem cmZ{it:Nat->D}{n:Nat}(f:α->β->D)
  (hs:∀a b,(a,b)∈xs.zip ys->∀(v w:Option PV) (K1:D->PSt->Prop),(∀v' w',K1 (f a b) (v'::w'::(bC ix ρ1).tail.tail))->g (.dat (.tup [e a,e' b])) (v::w::(bC ix ρ1).tail.tail) fun τ2=>pe τ2 fun p τ4=>K1 p.d τ4)
  (hq:∀v w:Option PV,Q (.own ((xs.zip ys).map fun p=>f p.1 p.2)) (ej ix ρ1 (v::w::(bC ix ρ1).tail.tail))) (hx:bC ix ρ1=none::none::(bC ix ρ1).tail.tail:=by rfl)
  (hn:n=min (xs.map e).length (ys.map e').length:=by rfl) (hit:∀k,it k=.tup [itD (xs.map e) k,itD (ys.map e') k]:=by intro k;rfl):ju ix ρ1 n it g tG pe Q:=by
 rw [length_map,length_map] at hn;subst hn
 by_cases h0:0<min xs.length ys.length
 .have ga:∀k,k<min xs.length ys.length->∃h1:k<xs.length,∃h2:k<ys.length,it k=.tup [e xs[k],e' ys[k]]:=fun k hk=>⟨by omega,by omega,by rw [hit,fY (by omega),fY (by omega)]⟩
  have hx0:0<xs.length:=by omega
  have hy0:0<ys.length:=by omega
  refine wD (fun τ=>∃v w,τ=v::w::(bC ix ρ1).tail.tail) (fun k=>f (xs.getD k xs[0]) (ys.getD k ys[0])) ⟨none,none,hx⟩ ?_ ?_
  .rintro k τ d hk rfl ⟨v,w,rfl⟩ K1 k1;obtain⟨h1,h2,ek⟩:=ga k hk;rw [ek];have g1:xs.getD k xs[0]=xs[k]:=by rw [getD_eq_getElem?_getD,getElem?_eq_getElem h1];rfl
   have g2:ys.getD k ys[0]=ys[k]:=by rw [getD_eq_getElem?_getD,getElem?_eq_getElem h2];rfl
   rw [g1,g2] at k1;refine hs _ _ ?_ v w K1 fun v' w'=>k1 _ ⟨v',w',rfl⟩;refine mem_iff_getElem.mpr ⟨k,by rw [length_zip];exact hk,by rw [getElem_zip]⟩
  .rintro τ ⟨v,w,rfl⟩;rw [pM f xs ys _ fun k h1 h2=>by rw [getD_eq_getElem?_getD,getElem?_eq_getElem h1,getD_eq_getElem?_getD,getElem?_eq_getElem h2];rfl];exact hq v w
 .refine wD (fun τ=>∃v w,τ=v::w::(bC ix ρ1).tail.tail) (fun _=>.non) ⟨none,none,hx⟩ (fun k τ d hk=>by omega) ?_;rintro τ ⟨v,w,rfl⟩;have e1:min xs.length ys.length=0:=by omega
  have e2:xs.zip ys=[]:=length_eq_zero_iff.mp (by rw [length_zip];exact e1);have:=hq v w;rw [e2] at this;rw [e1];exact this
end
theorem tO(a b:List Nat):(!(Builtin.Str.occurrences (S b) (S a) 0 (S b).length 1).isEmpty)=um a b:=by
 have e:=sN b a 0;unfold um;rw [<- e]
 cases Builtin.Str.occurrences (S b) (S a) 0 (S b).length 1 with
 | nil=>rfl
 | cons k r=>exact (decide_eq_true (by omega:(0:Int)<=(k:Int))).symm
section
variable {X:Cx}{K:PySem.W.Frag}
def yv(neg:Bool):R2:=fun x y H Q=>∃a b,x=.str (S a)/\y=.str (S b)/\Q (.bl (if neg then !um a b else um a b)) H
theorem vZ:OpR X (compareOp .In) (yv false):=by
 intro pins s σ H x y v u Q I rx ry h;obtain⟨a,b,rfl,rfl,q⟩:=h;obtain⟨t,rfl⟩:=rx;obtain⟨t',rfl⟩:=ry;exact P.in_str ⟨.bl _,H,I,rfl,by rw [tO];exact q⟩
def yw(K:PySem.W.Frag)(neg:Bool):R2:=fun x y H Q=>rIn K neg x y H Q\/yv neg x y H Q
theorem xE(K:PySem.W.Frag)(e:X.K=K):OpR X (compareOp .In) (yw K false):=OpR.or (yK K e) vZ
def xF(neg:Bool):F2
 | .str a,.str b,Q=>Q (.dat (.bl (if neg then !um a b else um a b)))
 | a,.lst ds,Q=>(a.fl=true/\ds.all D.fl=true)/\Q (.dat (.bl (if neg then !inD a ds else inD a ds)))
 | a,.tup ds,Q=>(a.fl=true/\ds.all D.fl=true)/\Q (.dat (.bl (if neg then !inD a ds else inD a ds)))
 | _,_,_=>False
theorem wb{neg:Bool}:LO K (yw K neg) (xF neg):=by
 intro O H x y a b Q Q' dom fx fy q k;unfold xF at q
 split at q
 .obtain⟨rfl,_⟩:=fx.str;obtain⟨rfl,_⟩:=fy.str;exact .inr ⟨_,_,rfl,rfl,k _ H _ q (Gr.refl _) (.bl _)⟩
 .exact .inl (vH O H x y _ _ Q Q' dom fx fy q k)
 .exact .inl (vH O H x y _ _ Q Q' dom fx fy q k)
 .exact q.elim
end
theorem lI(p:Nat->Bool):∀js:List Nat,js.filterMap (fun j=>if p j=true then some (D.int (j:Int)) else none)=((js.filter p).map fun j=>((j:Nat):Int)).map D.int
 | []=>rfl
 | j::r=>by
  rw [filterMap_cons,filter_cons]
  cases h:p j with
  | true=>simp [lI p r]
  | false=>simp [lI p r]
theorem mI(js:List Nat):js.map nD=(js.map fun j=>((j:Nat):Int)).map D.int:=by rw [map_map];rfl
section
variable {X:Cx}{K:PySem.W.Frag}
def rN(K:PySem.W.Frag):R2:=fun x y H Q=>∃a b ys,x=.ref a/\y=.ref b/\SqT K H a []/\SqT K H b ys/\Q (.ref b) H
theorem qS:OpR X (binaryOp .Add) (rN X.K):=by
 intro pins s σ H x y v u Q I rx ry h;obtain⟨a,b,ys,rfl,rfl,ha,hb,q⟩:=h;cases rx;cases ry;obtain⟨its,r1,p1,_⟩:=I.tuple ha;obtain⟨its2,r2,p2,_⟩:=I.tuple hb;have e0:its=[]:=r1.nil_iff.mpr rfl;subst e0;obtain⟨⟨cls,dd,data,sl⟩,ho,hc,n,hd⟩:=id p1;obtain⟨⟨cls2,dd2,data2,sl2⟩,ho2,hc2,n2,hd2⟩:=id p2;simp only at hc hd hc2 hd2;subst hc hd hc2 hd2;exact concat_meets ⟨_,ho,rfl⟩ ⟨_,ho2,rfl⟩ noFill_tuple_add seq_tuple_add PySem.F.slot_tuple_add PySem.F.entry_tuple_add (PySem.F.args_tuple_add_2 _ _) (tuple_addW0 a b _ _ n n2 dd dd2 sl sl2 rfl) ⟨ho,ho2,.ref b,H,I,rfl,q⟩
def qT(K:PySem.W.Frag):R2:=fun x y H Q=>sY K x y H Q\/rN K x y H Q
theorem bJ(K:PySem.W.Frag)(e:X.K=K):OpR X (binaryOp .Add) (qT K):=OpR.or (xh K e) (by subst e;exact qS)
def cm:F2
 | .tup a,.tup b,Q=>a.length+b.length<=1000000/\Q (.dat (.tup (a++b)))
 | a,b,Q=>xi a b Q
theorem aU:LO K (qT K) cm:=by
 intro O H x y a b Q Q' dom fx fy q k;unfold cm at q
 split at q
 .rename_i Q ds es
  cases ds with
  | cons d ds=>exact .inl (rA O H x y _ _ _ Q' dom fx fy ⟨nofun,q⟩ k)
  | nil =>
   obtain⟨p1,xs1,rfl,n1,e1,f1⟩:=fx.tup;obtain⟨p2,xs2,rfl,n2,e2,f2⟩:=fy.tup;cases f1;exact .inr ⟨p1,p2,xs2,rfl,rfl,SqT.of e1,SqT.of e2,k _ H _ q.2 (Gr.refl _) (.tup n2 e2 f2)⟩
 .exact .inl (rA O H x y _ _ _ Q' dom fx fy q k)
end
section
variable {X:Cx}
def yx:Expr->Bool
 | .ListComp ..|.SetComp ..|.DictComp ..=>false
 | _=>true
theorem pN{o i e:Expr}{p:Pos}{l:Nat}{env:Env}(h:yx e=true):swapsWithSole [.Subscript o i p] e l env=pure false:=by
 show swapsWith e (some (.Subscript o i p)) l env=pure false;cases e <;> first|rfl|cases h
theorem lJ{o i e:Expr}{p:Pos}{env:Env}:swappedStores [.Subscript o i p] e env=pure none:=rfl
theorem xG{o i e:Expr}{p:Pos}{te:TE}{g:TG}{pos:Pos}(he:PE X e te)(hg:PG X (.Subscript o i p) g)(hn:yx e=true:=by rfl):PS X (.Assign [.Subscript o i p] e pos) (uI te g) :=
 rk he hg (pN hn) lJ rfl
end
def iC(K:PySem.W.Frag)(x:Str)(st:Stmt):Prop:=∃(f:Addr) (oc kV dc pm cd ct:Value) (od an:Option Addr) (sl:Array (Option Value)),PySem.W.nsIn K mainGlobals x=some (some (.ref f)) /\
 K.lookup f=some ⟨oc,od,.func (PySem.W.fnOf x x (cj st) (bR st) (aq st) .none kV dc pm an cd ct),sl⟩/\PySem.W.codeIn K cd x=true/\PySem.W.keepIn K (.ref f)=true
theorem wc{K:PySem.W.Frag}{x:Str}{st:Stmt}{f:Addr}{oc kV dc pm cd ct:Value}{od an:Option Addr}{sl:Array (Option Value)}(a:PySem.W.nsIn K mainGlobals x=some (some (.ref f)))(l:K.lookup f=some ⟨oc,od,.func (PySem.W.fnOf x x (cj st) (bR st) (aq st) .none kV dc pm an cd ct),sl⟩)
  (c:PySem.W.codeIn K cd x=true) (k:PySem.W.keepIn K (.ref f)=true):iC K x st:=⟨f,oc,kV,dc,pm,cd,ct,od,an,sl,a,l,c,k⟩
theorem cp{K:PySem.W.Frag}{h:Heap}{mg:Str->Option Value}{x:Str}{st:Stmt}(q:iC K x st)(X:K.In h)(G:h.Ns mainGlobals mg):cI K mg x st:=by
 obtain⟨f,oc,kV,dc,pm,cd,ct,od,an,sl,a,l,c,k⟩:=q;exact .mk' X G a l c k
abbrev ZF(h:Heap)(z U V:Addr)(f0:Value)(b:Bool):Prop :=
 h.get? z=some { cls:=.type "zip",dict:=none,data:=.fields #[f0,.bool b,.bool false,.ref U,.ref V],slots:=#[] }
section
variable {P:Program}{w:World}{A:Around}{E:Value->Shared->Prop}{s:Shared}{z U V i j:Addr}{n:Nat}{x y:Str}{t t':Tok}{cx cy:Nat}{u v f0:Value}{b:Bool}
theorem yP{a:Addr}{Q:Option Obj->Shared->Prop}(h:Q (s.heap.get? a) s):wpAny (model P w) A (loadIfAlive a) Q E s:=fun _ _ _=>h
theorem mJ{Q:Bool->Shared->Prop}(hz:ZF s.heap z U V f0 b)(hf:f0=.none\/∃T:Nat,f0=rawInt T)(ht:Q true s)
  (hn:∀h' b',ZF h' z U V f0 b'->Heap.SameBut z s.heap h'->Q false { s with heap:=h' }):wpAny (model P w) A (Builtin.SmallTypes.ownedTupleIsFree (.ref z)) Q E s:=by
 unfold Builtin.SmallTypes.ownedTupleIsFree
 rcases hf with rfl|⟨T,rfl⟩
 .exact wpAny_bind (wpAny_field hz rfl (x:=.none) rfl (wpAny_pure ht))
 .refine wpAny_bind (wpAny_field hz rfl (x:=rawInt T) rfl ?_);show wpAny (model P w) A (loadIfAlive (Int.toNat (T:Int)) >>= _) Q E s;refine wpAny_bind (yP ?_);refine wpAny_ite ?_
  split
  .exact wpAny_pure ht
  .refine wpAny_bind (wpAny_field hz rfl (x:=.bool b) rfl ?_)
   cases b with
   | true =>
    refine wpAny_ite ?_;rw [if_neg (by simp)];exact wpAny_pure (hn s.heap true hz (Heap.SameBut.refl _ _))
   | false =>
    refine wpAny_ite ?_;rw [if_pos (by rfl)];refine wpAny_bind (wpAny_setField_rec hz (by simp) fun g1 z1 b1=>?_);exact wpAny_pure (hn g1 true z1 b1)
def ZSt(h:Heap)(z U V:Addr):Prop:=∃f0 b,ZF h z U V f0 b/\(f0=.none\/∃T:Nat,f0=rawInt T)
theorem tP{Q:Value->Shared->Prop}(D:ZA z U V i j)(hz:ZSt s.heap z U V)(hU:IsPair s.heap U (.ref i) (.ref j))(hV:IsPair s.heap V u v)
  (W1:SIt s.heap i x t n) (W2:SIt s.heap j y t' n) (hx:x.cps[n]?=some cx) (hy:y.cps[n]?=some cy)
  (hQ:∀h',ZSt h' z U V->(∃u v,IsPair h' V u v)->SIt h' i x t (n+1)->SIt h' j y t' (n+1)->IsPair h' s.heap.objs.size (.str ⟨#[cx]⟩ s.toks) (.str ⟨#[cy]⟩ (s.toks+1))->h'.objs.size=s.heap.objs.size+1 ->
   (∀b o,b≠z->b≠V->b≠i->b≠j->s.heap.get? b=some o->h'.get? b=some o)->Q (.ref s.heap.objs.size) { s with heap:=h',toks:=s.toks+1+1 }) :
  wpAny (model P w) A (Builtin.«zip.__next__» ⟨[.ref z],[]⟩) (fun f s'=>∃r,f=.done (.ret r)/\Q r s') E s:=by
 obtain⟨f0,b,hz,hf⟩:=hz;refine wpAny_bind (m:=field (.ref z) 2) (wpAny_field hz rfl (x:=.bool false) rfl (wpAny_bind (m:=field (.ref z) 3) (wpAny_field hz rfl (x:=.ref U) rfl (wpAny_bind (wpAny_seqItems hU rfl ?_)))))
 refine wpAny_bind (m:=Builtin.SmallTypes.ownedTupleIsFree (.ref z)) (mJ hz hf ?_ fun g0 b' z0 b0=>?_)
 .simp only [if_true];refine wpAny_bind (wpAny_rule (wpAny_bind (wpAny_field hz rfl (x:=.ref V) rfl (wpAny_bind (wpAny_setField_rec hz (by simp) fun g1 z1 b1=>wpAny_bind ?_)))))
  replace z1:ZF g1 z U V .ellipsis b:=z1
  simp only [zipIdx_cons,zipIdx_nil,forIn_cons,forIn_nil];have e1:=b1.extBut;refine wpAny_bind (wpAny_bind (wpAny_onRaise (wpAny_bind (m:=Builtin.SmallTypes.nextOf (.ref i)) (bv (W1.mv fun o e=>e1 _ o D.iz e) hx fun g2 w1 b2=>wpAny_pure ?_))));have e2:=b2.extBut;have v2:IsPair g2 V u v:=e2 _ _ D.Vi (e1 _ _ D.Vz hV);refine wpAny_bind (wpAny_seqItems v2 rfl (wpAny_bind (wpAny_updateSeq_pair v2 fun g3 v3 b3=>wpAny_bind (wpAny_letGo (wpAny_pure ?_)))))
  replace v3:IsPair g3 V (.str ⟨#[cx]⟩ s.toks) v:=v3
  have e3:=b3.extBut;refine wpAny_bind (wpAny_bind (wpAny_onRaise (wpAny_bind (m:=Builtin.SmallTypes.nextOf (.ref j)) (bv (W2.mv fun o e=>e3 _ o D.Vj.symm (e2 _ o D.ij.symm (e1 _ o D.jz e))) hy fun g4 w2 b4=>wpAny_pure ?_))));have e4:=b4.extBut;have v4:IsPair g4 V (.str ⟨#[cx]⟩ s.toks) v:=e4 _ _ D.Vj v3;refine wpAny_bind (wpAny_seqItems v4 rfl (wpAny_bind (wpAny_updateSeq_pair v4 fun g5 v5 b5=>wpAny_bind (wpAny_letGo (wpAny_pure (wpAny_pure ?_))))))
  replace v5:IsPair g5 V (.str ⟨#[cx]⟩ s.toks) (.str ⟨#[cy]⟩ (s.toks+1)):=v5
  have e5:=b5.extBut;refine wpAny_bind (wpAny_seqItems v5 rfl (wpAny_bind (wpAny_newTuple ?_)));have sz:g5.objs.size=s.heap.objs.size:=by rw [b5.1,b4.1,b3.1,b2.1,b1.1]
  have z5:ZF g5 z U V .ellipsis b:=e5 _ _ D.Vz.symm (e4 _ _ D.jz.symm (e3 _ _ D.Vz.symm (e2 _ _ D.iz.symm z1)));have k5:∀b o,b≠z->b≠V->b≠i->b≠j->s.heap.get? b=some o->g5.get? b=some o:=fun b o q1 q2 q3 q4 e=>e5 _ _ q2 (e4 _ _ q4 (e3 _ _ q2 (e2 _ _ q3 (e1 _ _ q1 e))));have w15:SIt g5 i x t (n+1):=w1.mv fun o e=>e5 _ o D.Vi.symm (e4 _ o D.ij (e3 _ o D.Vi.symm e));have w25:SIt g5 j y t' (n+1):=w2.mv fun o e=>e5 _ o D.Vj.symm e
  have zlt:z<g5.objs.size:=Heap.lt_size z5;refine wpAny_bind (m:=Builtin.SmallTypes.ownedTupleHandOut (.ref z) (.ref g5.objs.size)) ?_;unfold Builtin.SmallTypes.ownedTupleHandOut;have z6:ZF (g5.push { cls:=.type "tuple",data:=.seq #[(.str ⟨#[cx]⟩ s.toks),(.str ⟨#[cy]⟩ (s.toks+1))] }) z U V .ellipsis b:=Heap.get?_push_of_some _ z5;refine wpAny_bind (wpAny_setField_rec z6 (by simp) fun g7 z7 b7=>?_)
  replace z7:ZF g7 z U V (rawInt g5.objs.size) b:=z7
  refine wpAny_setField_rec z7 (by simp) fun g8 z8 b8=>?_
  replace z8:ZF g8 z U V (rawInt g5.objs.size) false:=z8
  have up:∀b o,b≠z->g5.get? b=some o->g8.get? b=some o:=fun b o q e=>b8.extBut _ _ q (b7.extBut _ _ q (Heap.get?_push_of_some _ e));have t8:IsPair g8 g5.objs.size (.str ⟨#[cx]⟩ s.toks) (.str ⟨#[cy]⟩ (s.toks+1)):=b8.extBut _ _ (ne_of_gt zlt) (b7.extBut _ _ (ne_of_gt zlt) (Heap.get?_push_size _ rfl));have s8:g8.objs.size=g5.objs.size+1:=by rw [b8.1,b7.1,Heap.size_push]
  rw [sz] at z8 t8 s8;refine wpAny_pure ⟨_,rfl,?_⟩;show Q (.ref g5.objs.size) _;rw [sz];exact hQ g8 ⟨_,_,z8,.inr ⟨_,rfl⟩⟩ ⟨_,_,up _ _ D.Vz v5⟩ (w15.mv fun o e=>up _ o D.iz e) (w25.mv fun o e=>up _ o D.jz e) t8 s8 fun b o q1 q2 q3 q4 e=>up b o q1 (k5 b o q1 q2 q3 q4 e)
 .simp only [false_eq_true,if_false];have e0:=b0.extBut;refine wpAny_bind ?_;rw [show (#[Value.ref i,Value.ref j]:Array Value)=[Value.ref i,Value.ref j].toArray from rfl,forIn_toArray];simp only [forIn_cons,forIn_nil];refine wpAny_bind (wpAny_bind (wpAny_holding (wpAny_bind (m:=Builtin.SmallTypes.nextOf (.ref i)) (bv (W1.mv fun o e=>e0 _ o D.iz e) hx fun g2 w1 b2=>wpAny_pure (wpAny_pure ?_)))));have e2:=b2.extBut
  refine wpAny_bind (wpAny_bind (wpAny_holding (wpAny_bind (m:=Builtin.SmallTypes.nextOf (.ref j)) (bv (W2.mv fun o e=>e2 _ o D.ij.symm (e0 _ o D.jz e)) hy fun g4 w2 b4=>wpAny_pure (wpAny_pure (wpAny_pure ?_))))));have e4:=b4.extBut;refine wpAny_bind (wpAny_newTuple ?_ (by show 2<=sizeLine;decide));have sz:g4.objs.size=s.heap.objs.size:=by rw [b4.1,b2.1,b0.1]
  have z4:ZF g4 z U V f0 b':=e4 _ _ D.jz.symm (e2 _ _ D.iz.symm z0);have k4:∀b o,b≠z->b≠V->b≠i->b≠j->s.heap.get? b=some o->g4.get? b=some o:=fun b o q1 q2 q3 q4 e=>e4 _ _ q4 (e2 _ _ q3 (e0 _ _ q1 e));have v4:IsPair g4 V u v:=e4 _ _ D.Vj (e2 _ _ D.Vi (e0 _ _ D.Vz hV));refine wpAny_pure ⟨_,rfl,?_⟩;show Q (.ref g4.objs.size) _;have t8:IsPair (g4.push { cls:=.type "tuple",data:=.seq #[(.str ⟨#[cx]⟩ s.toks),(.str ⟨#[cy]⟩ (s.toks+1))] }) g4.objs.size (.str ⟨#[cx]⟩ s.toks) (.str ⟨#[cy]⟩ (s.toks+1)):=Heap.get?_push_size _ rfl
  have s8:(g4.push { cls:=.type "tuple",data:=.seq #[(.str ⟨#[cx]⟩ s.toks),(.str ⟨#[cy]⟩ (s.toks+1))] }).objs.size=g4.objs.size+1:=Heap.size_push ..;rw [sz] at t8 s8;rw [sz];exact hQ _ ⟨_,_,Heap.get?_push_of_some _ z4,hf⟩ ⟨_,_,Heap.get?_push_of_some _ v4⟩ ((w1.mv fun o e=>e4 _ o D.ij e).mv fun o e=>Heap.get?_push_of_some _ e) (w2.mv fun o e=>Heap.get?_push_of_some _ e) t8 s8 fun b o q1 q2 q3 q4 e=>Heap.get?_push_of_some _ (k4 b o q1 q2 q3 q4 e)
theorem wf{Q:Fin->Shared->Prop}(hh:A.handled=none)(D:ZA z U V i j)(hz:ZSt s.heap z U V)(hU:IsPair s.heap U (.ref i) (.ref j))(hV:IsPair s.heap V u v)
  (W1:SIt s.heap i x t n) (W2:SIt s.heap j y t' n) (hend:x.cps[n]?=none\/y.cps[n]?=none)
  (hE:∀h' tk e,(∀b o,b≠z->b≠V->b≠i->b≠j->s.heap.get? b=some o->h'.get? b=some o)->(∃o,h'.get? e=some o/\o.cls=.type "StopIteration")->E (.ref e) { s with heap:=h',toks:=tk }) :
  wpAny (model P w) A (Builtin.«zip.__next__» ⟨[.ref z],[]⟩) Q E s:=by
 obtain⟨f0,b,hz,hf⟩:=hz;refine wpAny_bind (m:=field (.ref z) 2) (wpAny_field hz rfl (x:=.bool false) rfl (wpAny_bind (m:=field (.ref z) 3) (wpAny_field hz rfl (x:=.ref U) rfl (wpAny_bind (wpAny_seqItems hU rfl ?_)))))
 refine wpAny_bind (m:=Builtin.SmallTypes.ownedTupleIsFree (.ref z)) (mJ hz hf ?_ fun g0 b' z0 b0=>?_)
 .simp only [if_true];refine wpAny_bind (wpAny_rule (wpAny_bind (wpAny_field hz rfl (x:=.ref V) rfl (wpAny_bind (wpAny_setField_rec hz (by simp) fun g1 z1 b1=>wpAny_bind ?_)))))
  replace z1:ZF g1 z U V .ellipsis b:=z1
  simp only [zipIdx_cons,zipIdx_nil,forIn_cons,forIn_nil];have e1:=b1.extBut
  cases hx:x.cps[n]? with
  | none =>
   refine wpAny_bind (wpAny_bind (wpAny_onRaise (wpAny_bind (m:=Builtin.SmallTypes.nextOf (.ref i)) (cB hh (W1.mv fun o e=>e1 _ o D.iz e) hx fun g2 e b2 he=>?_))));obtain⟨oe,ge,ce⟩:=he;have z2:ZF g2 z U V .ellipsis b:=b2 _ _ D.iz.symm z1;have ez:e≠z:=fun q=>by subst q;rw [z2] at ge;cases ge;simp at ce
   exact wpAny_setField_rec z2 (by simp) fun g3 _ b3=>hE g3 _ e (fun b o q1 _ q3 _ q=>b3.extBut _ _ q1 (b2 _ _ q3 (e1 _ _ q1 q))) ⟨oe,b3.extBut _ _ ez ge,ce⟩
  | some cx =>
   have hy:y.cps[n]?=none:=by
    rcases hend with q|q
    .rw [hx] at q;cases q
    .exact q
   refine wpAny_bind (wpAny_bind (wpAny_onRaise (wpAny_bind (m:=Builtin.SmallTypes.nextOf (.ref i)) (bv (W1.mv fun o e=>e1 _ o D.iz e) hx fun g2 w1 b2=>wpAny_pure ?_))));have e2:=b2.extBut;have v2:IsPair g2 V u v:=e2 _ _ D.Vi (e1 _ _ D.Vz hV);refine wpAny_bind (wpAny_seqItems v2 rfl (wpAny_bind (wpAny_updateSeq_pair v2 fun g3 v3 b3=>wpAny_bind (wpAny_letGo (wpAny_pure ?_)))));have e3:=b3.extBut;refine wpAny_bind (wpAny_bind (wpAny_onRaise (wpAny_bind (m:=Builtin.SmallTypes.nextOf (.ref j)) (cB hh (W2.mv fun o e=>e3 _ o D.Vj.symm (e2 _ o D.ij.symm (e1 _ o D.jz e))) hy fun g4 e b4 he=>?_))))
   obtain⟨oe,ge,ce⟩:=he;have z4:ZF g4 z U V .ellipsis b:=b4 _ _ D.jz.symm (e3 _ _ D.Vz.symm (e2 _ _ D.iz.symm z1));have ez:e≠z:=fun q=>by subst q;rw [z4] at ge;cases ge;simp at ce
   exact wpAny_setField_rec z4 (by simp) fun g5 _ b5=>hE g5 _ e (fun b o q1 q2 q3 q4 q=>b5.extBut _ _ q1 (b4 _ _ q4 (e3 _ _ q2 (e2 _ _ q3 (e1 _ _ q1 q))))) ⟨oe,b5.extBut _ _ ez ge,ce⟩
 .simp only [false_eq_true,if_false];have e0:=b0.extBut;refine wpAny_bind ?_;rw [show (#[Value.ref i,Value.ref j]:Array Value)=[Value.ref i,Value.ref j].toArray from rfl,forIn_toArray];simp only [forIn_cons,forIn_nil]
  cases hx:x.cps[n]? with
  | none =>
   refine wpAny_bind (wpAny_bind (wpAny_holding (wpAny_bind (m:=Builtin.SmallTypes.nextOf (.ref i)) (cB hh (W1.mv fun o e=>e0 _ o D.iz e) hx fun g2 e b2 he=>?_))));exact hE g2 _ e (fun b o q1 _ q3 _ q=>b2 _ _ q3 (e0 _ _ q1 q)) he
  | some cx =>
   have hy:y.cps[n]?=none:=by
    rcases hend with q|q
    .rw [hx] at q;cases q
    .exact q
   refine wpAny_bind (wpAny_bind (wpAny_holding (wpAny_bind (m:=Builtin.SmallTypes.nextOf (.ref i)) (bv (W1.mv fun o e=>e0 _ o D.iz e) hx fun g2 w1 b2=>wpAny_pure (wpAny_pure ?_)))));have e2:=b2.extBut;refine wpAny_bind (wpAny_bind (wpAny_holding (wpAny_bind (m:=Builtin.SmallTypes.nextOf (.ref j)) (cB hh (W2.mv fun o e=>e2 _ o D.ij.symm (e0 _ o D.jz e)) hy fun g4 e b4 he=>?_))));exact hE g4 _ e (fun b o q1 _ q3 q4 q=>b4 _ _ q4 (e2 _ _ q3 (e0 _ _ q1 q))) he
theorem nF{Q:Value->Shared->Prop}(D:ZA z U V i j)(hz:ZSt s.heap z U V)(hU:IsPair s.heap U (.ref i) (.ref j))(hV:IsPair s.heap V u v)
  (W1:SIt s.heap i x t n) (W2:SIt s.heap j y t' n) (hx:x.cps[n]?=some cx) (hy:y.cps[n]?=some cy)
  (hQ:∀h',ZSt h' z U V->(∃u v,IsPair h' V u v)->SIt h' i x t (n+1)->SIt h' j y t' (n+1)->IsPair h' s.heap.objs.size (.str ⟨#[cx]⟩ s.toks) (.str ⟨#[cy]⟩ (s.toks+1))->h'.objs.size=s.heap.objs.size+1 ->
   (∀b o,b≠z->b≠V->b≠i->b≠j->s.heap.get? b=some o->h'.get? b=some o)->Q (.ref s.heap.objs.size) { s with heap:=h',toks:=s.toks+1+1 }) :
  wpAny (model P w) A (Builtin.SmallTypes.nextOf (.ref z)) Q E s:=by
 have hT:s.TypeIs (.ref z) "zip":=by obtain⟨f0,b,hz,_⟩:=hz;exact⟨_,hz,rfl⟩
 unfold Builtin.SmallTypes.nextOf
 exact wpAny_bind (wpAny_callSpecial?_slot (name:=Str.ofString "__next__") hT F.slot_zip_next (wpAny_call_entry F.slot_zip_next hT F.entry_zip_next
  (tP D hz hU hV W1 W2 hx hy fun h' a1 a2 a3 a4 a5 a6 a7=>wpAny_pure (hQ h' a1 a2 a3 a4 a5 a6 a7)) (F.args_zip_next_1 _)))
theorem pO{Q:Value->Shared->Prop}(hh:A.handled=none)(D:ZA z U V i j)(hz:ZSt s.heap z U V)(hU:IsPair s.heap U (.ref i) (.ref j))(hV:IsPair s.heap V u v)
  (W1:SIt s.heap i x t n) (W2:SIt s.heap j y t' n) (hend:x.cps[n]?=none\/y.cps[n]?=none)
  (hE:∀h' tk e,(∀b o,b≠z->b≠V->b≠i->b≠j->s.heap.get? b=some o->h'.get? b=some o)->(∃o,h'.get? e=some o/\o.cls=.type "StopIteration")->E (.ref e) { s with heap:=h',toks:=tk }) :
  wpAny (model P w) A (Builtin.SmallTypes.nextOf (.ref z)) Q E s:=by
 have hT:s.TypeIs (.ref z) "zip":=by obtain⟨f0,b,hz,_⟩:=hz;exact⟨_,hz,rfl⟩
 unfold Builtin.SmallTypes.nextOf
 exact wpAny_bind (wpAny_callSpecial?_slot (name:=Str.ofString "__next__") hT F.slot_zip_next (wpAny_call_entry F.slot_zip_next hT F.entry_zip_next
  (wf hh D hz hU hV W1 W2 hend hE) (F.args_zip_next_1 _)))
theorem tQ{e:Addr}{m:Nat}{old:Value}{Q:Option Value->Shared->Prop}(he:IsEnum s.heap e z (m:Int) old)(ne:e∉[z,U,V,i,j])(D:ZA z U V i j)(hz:ZSt s.heap z U V)(hU:IsPair s.heap U (.ref i) (.ref j))(hV:IsPair s.heap V u v)
  (W1:SIt s.heap i x t n) (W2:SIt s.heap j y t' n) (hx:x.cps[n]?=some cx) (hy:y.cps[n]?=some cy)
  (hQ:∀h' tk,IsEnumOut h' e z ((m:Int)+1) (.ref s.heap.objs.size) (s.heap.objs.size+1)->ZSt h' z U V->(∃u v,IsPair h' V u v)->SIt h' i x t (n+1)->SIt h' j y t' (n+1)->IsPair h' s.heap.objs.size (.str ⟨#[cx]⟩ s.toks) (.str ⟨#[cy]⟩ (s.toks+1)) ->
   IsPair h' (s.heap.objs.size+1) (.int m (s.toks+1+1)) (.ref s.heap.objs.size) ->
   (∀b o,b≠e->b≠z->b≠V->b≠i->b≠j->s.heap.get? b=some o->h'.get? b=some o)->Q (some (.ref (s.heap.objs.size+1))) { s with heap:=h',toks:=tk }) :
  wpAny (model P w) A (pyNext (.ref e)) Q E s:=by
 have hT:s.TypeIs (.ref e) "enumerate":=⟨_,he,rfl⟩
 simp only [mem_cons,not_mem_nil,or_false,not_or] at ne;obtain⟨nz,nU,nV,ni,nj⟩:=ne;unfold pyNext
 refine wpAny_bind (wpAny_attempt (wpAny_callSpecial?_slot (name:=Str.ofString "__next__") hT F.slot_enumerate_next
  (wpAny_call_entry F.slot_enumerate_next hT F.entry_enumerate_next ?_ (F.args_enumerate_next_1 _))))
 show wpAny _ _ (field (.ref e) 2 >>= _) _ _ _;refine wpAny_bind (wpAny_field he rfl (x:=.ref z) rfl ?_);refine wpAny_bind (nF D hz hU hV W1 W2 hx hy fun h1 a1 a2 a3 a4 a5 a6 a7=>?_);have he1:IsEnum h1 e z (m:Int) old:=a7 _ _ nz nV ni nj he;show wpAny _ _ (field (.ref e) 3 >>= _) _ _ _;refine wpAny_bind (wpAny_field he1 rfl (x:=rawInt m) rfl ?_);show wpAny _ _ (field (.ref e) 4 >>= _) _ _ _;refine wpAny_bind (wpAny_field he1 rfl (x:=.none) rfl ?_)
 show wpAny _ _ (mkInt m >>= _) _ _ _;refine wpAny_bind (wpAny_mkInt ?_);show wpAny _ _ (setField (.ref e) 3 (rawInt ((m:Int)+1)) >>= _) _ _ _;refine wpAny_bind (wpAny_setField_rec he1 (by simp) fun h2 he2 hs2=>?_)
 replace he2:IsEnum h2 e z ((m:Int)+1) old:=he2
 show wpAny _ _ (setField (.ref e) 4 .none >>= _) _ _ _;refine wpAny_bind (wpAny_setField_rec he2 (by simp) fun h3 he3 hs3=>?_)
 replace he3:IsEnum h3 e z ((m:Int)+1) old:=he3
 refine wpAny_bind (wpAny_newTuple ?_)
 replace hs2:Heap.SameBut e h1 h2:=hs2
 replace hs3:Heap.SameBut e h2 h3:=hs3
 have q3:h3.objs.size=s.heap.objs.size+1:=by rw [hs3.1,hs2.1,a6]
 have he4:IsEnum (h3.push { cls:=.type "tuple",data:=.seq #[.int m (s.toks+1+1),.ref s.heap.objs.size] }) e z ((m:Int)+1) old:=Heap.get?_push_of_some _ he3;have t4:IsPair (h3.push { cls:=.type "tuple",data:=.seq #[.int m (s.toks+1+1),.ref s.heap.objs.size] }) (s.heap.objs.size+1) (.int m (s.toks+1+1)) (.ref s.heap.objs.size):=by rw [<- q3];exact Heap.get?_push_size _ rfl
 have k4:∀b o,b≠e->h1.get? b=some o->(h3.push { cls:=.type "tuple",data:=.seq #[.int m (s.toks+1+1),.ref s.heap.objs.size] }).get? b=some o:=fun b o q e=>Heap.get?_push_of_some _ (hs3.extBut b o q (hs2.extBut b o q e));generalize hh4:h3.push { cls:=.type "tuple",data:=.seq #[.int m (s.toks+1+1),.ref s.heap.objs.size] }=h4 at he4 t4 k4;show wpAny _ _ (Builtin.SmallTypes.ownedTupleIsFree (.ref e) >>= _) _ _ { s with heap:=_,toks:=s.toks+1+1+1 }
 rw [q3];refine wpAny_bind ?_;unfold Builtin.SmallTypes.ownedTupleIsFree;refine wpAny_bind (wpAny_field he4 rfl (x:=.none) rfl (wpAny_pure ?_));simp only [if_true];refine wpAny_bind (wpAny_rule ?_);refine wpAny_bind (wpAny_field he4 rfl (x:=old) rfl ?_);refine wpAny_bind (wpAny_setField_rec he4 (by simp) fun h5 he5 hs5=>?_)
 replace hs5:Heap.SameBut e h4 h5:=hs5
 replace he5:IsEnum h5 e z ((m:Int)+1) (.ref s.heap.objs.size):=he5
 refine wpAny_bind (m:=Builtin.SmallTypes.ownedTupleHandOut (.ref e) (.ref (s.heap.objs.size+1))) ?_;unfold Builtin.SmallTypes.ownedTupleHandOut;refine wpAny_bind (wpAny_setField_rec he5 (by simp) fun h6 he6 hs6=>?_)
 replace hs6:Heap.SameBut e h5 h6:=hs6
 replace he6:IsEnumOut h6 e z ((m:Int)+1) (.ref s.heap.objs.size) (s.heap.objs.size+1):=he6
 refine wpAny_setField_rec he6 (by simp) fun h7 he7 hs7=>?_
 replace hs7:Heap.SameBut e h6 h7:=hs7
 replace he7:IsEnumOut h7 e z ((m:Int)+1) (.ref s.heap.objs.size) (s.heap.objs.size+1):=he7
 have k7:∀b o,b≠e->h4.get? b=some o->h7.get? b=some o:=fun b o q g=>hs7.extBut b o q (hs6.extBut b o q (hs5.extBut b o q g));have el:e<s.heap.objs.size:=Heap.lt_size he;obtain⟨f0,b,zf,zq⟩:=a1;obtain⟨u2,v2,a2⟩:=a2
 refine wpAny_bind (wpAny_letGo (wpAny_pure ⟨_,rfl,wpAny_pure (hQ h7 _ he7 ⟨f0,b,k7 _ _ (Ne.symm nz) (k4 _ _ (Ne.symm nz) zf),zq⟩ ⟨u2,v2,k7 _ _ (Ne.symm nV) (k4 _ _ (Ne.symm nV) a2)⟩ (a3.mv fun o q=>k7 _ o (Ne.symm ni) (k4 _ o (Ne.symm ni) q)) (a4.mv fun o q=>k7 _ o (Ne.symm nj) (k4 _ o (Ne.symm nj) q))
  (k7 _ _ (ne_of_gt el) (k4 _ _ (ne_of_gt el) a5)) (k7 _ _ (ne_of_gt (lt_succ_of_lt el)) t4) fun b o q1 q2 q3 q4 q5 g=>k7 _ _ q1 (k4 _ _ q1 (a7 b o q2 q3 q4 q5 g)))⟩))
end
def xH(la lb:List Nat):It :=
  ⟨fun i _=>i<la.length/\i<lb.length,
   fun i H p H'=>∃T T2 cx cy,H T=none/\H T2=none/\T≠T2/\la[i]?=some cx/\lb[i]?=some cy/\p=.ref T2/\H'=upd (upd H T (.tup [.str (S [cx]),.str (S [cy])])) T2 (.tup [.int (i:Int),.ref T]),
   fun i _=>la.length<=i\/lb.length<=i⟩
theorem tR{P:Program}{w:World}{K:PySem.W.Frag}{es:List Expr}{ct:Nat}{tp:Pos}{e z U V i j:Addr}{la lb:List Nat}{t t':Tok}(ne:e∉[z,U,V,i,j])(D:ZA z U V i j) :
  qh P w K (.Tuple es ct tp) (xH la lb) [e,z,U,V,i,j] e (fun n h=>(∃old,IsEnum h e z ((n:Nat):Int) old)/\ZSt h z U V/\IsPair h U (.ref i) (.ref j)/\(∃u v,IsPair h V u v)/\SIt h i (S la) t n/\SIt h j (S lb) t' n) where
 mem:=by simp
 obj:=fun n h st b hb=>by
  obtain⟨⟨old,he⟩,⟨f0,bb,hz,_⟩,hU,⟨u,v,hV⟩,⟨o1,g1,c1,d1⟩,⟨o2,g2,c2,d2⟩⟩:=st;simp only [mem_cons,not_mem_nil,or_false] at hb
  rcases hb with rfl|rfl|rfl|rfl|rfl|rfl
  .exact⟨_,he,fun v q=>by cases q⟩
  .exact⟨_,hz,fun v q=>by cases q⟩
  .exact⟨_,hU,fun v q=>by cases q⟩
  .exact⟨_,hV,fun v q=>by cases q⟩
  .exact⟨_,g1,fun v q=>by rw [d1] at q;cases q⟩
  .exact⟨_,g2,fun v q=>by rw [d2] at q;cases q⟩
 keep:=fun n h h' st kk=>by
  obtain⟨⟨old,he⟩,⟨f0,bb,hz,hf⟩,hU,⟨u,v,hV⟩,w1,w2⟩:=st;exact⟨⟨old,kk e (by simp) _ he⟩,⟨f0,bb,kk z (by simp) _ hz,hf⟩,kk U (by simp) _ hU,⟨u,v,kk V (by simp) _ hV⟩,w1.mv fun o q=>kk i (by simp) o q,w2.mv fun o q=>kk j (by simp) o q⟩
 item:=by
  intro X hP hw hK hc n pins s σ H E I hf st hg;subst hP hw hK;obtain⟨l1,l2⟩:=hg;obtain⟨⟨old,he⟩,hz,hU,⟨u,v,hV⟩,w1,w2⟩:=st;have hcx:=getElem?_eq_getElem l1;have hcy:=getElem?_eq_getElem l2;refine tQ (cx:=la[n]) (cy:=lb[n]) he ne D hz hU hV w1 w2 (by simpa [S] using hcx) (by simpa [S] using hcy) fun h' tk a1 a2 a3 a4 a5 a6 a7 a8=>?_;refine⟨_,rfl,wpAny_letOwnedTupleGo_enum a1 fun g ge gs=>?_⟩;have lt:∀{b o},s.heap.get? b=some o->s.heap.objs.size≠b:=fun q=>ne_of_gt (Heap.lt_size q)
  have lt2:∀{b o},s.heap.get? b=some o->s.heap.objs.size+1≠b:=fun q=>ne_of_gt (lt_succ_of_lt (Heap.lt_size q));have h0:H s.heap.objs.size=none:=I.hok.fresh (le_refl _);have h1:H (s.heap.objs.size+1)=none:=I.hok.fresh (le_succ _);have n01:s.heap.objs.size≠s.heap.objs.size+1:=Nat.ne_of_lt (lt_succ_self _)
  have sub:∀b,b∈[e,z,V,i,j]->b∈[e,z,U,V,i,j]:=fun b hb=>by
   simp only [mem_cons,not_mem_nil,or_false] at hb ⊢;rcases hb with q|q|q|q|q <;> simp [q]
  have old_:∀b∈[e,z,U,V,i,j],∃o,s.heap.get? b=some o:=fun b hb=>by
   obtain⟨f0,bb,hz,_⟩:=hz;obtain⟨o1,g1,_⟩:=w1;obtain⟨o2,g2,_⟩:=w2;simp only [mem_cons,not_mem_nil,or_false] at hb
   rcases hb with rfl|rfl|rfl|rfl|rfl|rfl
   .exact⟨_,he⟩
   .exact⟨_,hz⟩
   .exact⟨_,hU⟩
   .exact⟨_,hV⟩
   .exact⟨_,g1⟩
   .exact⟨_,g2⟩
  have kp:∀b o,b∉[e,z,V,i,j]->s.heap.get? b=some o->g.get? b=some o:=fun b o hb q=>by
   simp only [mem_cons,not_mem_nil,or_false,not_or] at hb;exact gs.extBut _ _ hb.1 (a8 b o hb.1 hb.2.1 hb.2.2.1 hb.2.2.2.1 hb.2.2.2.2 q)
  have I1:Inv X pins σ (upd H s.heap.objs.size (.tup [.str (S [la[n]]),.str (S [lb[n]])])) { s with heap:=s.heap.push { cls:=.type "tuple",data:=.seq #[(.str ⟨#[la[n]]⟩ s.toks),(.str ⟨#[lb[n]]⟩ (s.toks+1))] },toks:=s.toks } :=
   I.laid (t':=s.toks) (fun b ob q=>Heap.get?_push_of_some _ q) (le_refl _) ⟨by show 2<=sizeLine;decide,[.str ⟨#[la[n]]⟩ s.toks,.str ⟨#[lb[n]]⟩ (s.toks+1)],.cons ⟨_,rfl⟩ (.cons ⟨_,rfl⟩ .nil),_,Heap.get?_push_size _ rfl,rfl,_,rfl⟩
  have I2:Inv X pins σ (upd (upd H s.heap.objs.size (.tup [.str (S [la[n]]),.str (S [lb[n]])])) (s.heap.objs.size+1) (.tup [.int (n:Int),.ref s.heap.objs.size])) { s with heap:=g,toks:=tk } :=
   Inv.yielded (s:={ s with heap:=s.heap.push { cls:=.type "tuple",data:=.seq #[(.str ⟨#[la[n]]⟩ s.toks),(.str ⟨#[lb[n]]⟩ (s.toks+1))] },toks:=s.toks }) (h':=g) (t':=tk) (ch:=[e,z,V,i,j]) I1 (fun b hb=>by
    obtain⟨o,ho⟩:=old_ b (sub b hb);exact⟨by rw [au (Ne.symm (lt ho))];exact (hf b (sub b hb)).1,(hf b (sub b hb)).2⟩) (by show (s.heap.push _).objs.size<=_;rw [Heap.size_push];exact le_refl _) (fun b o hb q=>by
    by_cases eb:b=s.heap.objs.size
    .subst eb;have e1:(s.heap.push { cls:=.type "tuple",data:=.seq #[(.str ⟨#[la[n]]⟩ s.toks),(.str ⟨#[lb[n]]⟩ (s.toks+1))] }).get? s.heap.objs.size=some _:=Heap.get?_push_size _ rfl;have q:(s.heap.push { cls:=.type "tuple",data:=.seq #[(.str ⟨#[la[n]]⟩ s.toks),(.str ⟨#[lb[n]]⟩ (s.toks+1))] }).get? s.heap.objs.size=some o:=q;rw [e1] at q;rw [<- q];exact gs.extBut _ _ (lt he) a6
    .exact kp b o hb (by have q:(s.heap.push _).get? b=some o:=q;rw [Heap.get?_push_ne _ _ _ eb] at q;exact q)) ⟨by show 2<=sizeLine;decide,[.int (n:Int) (s.toks+1+1),.ref s.heap.objs.size],.cons ⟨_,rfl⟩ (.cons rfl .nil),_,gs.extBut _ _ (lt2 he) a7,rfl,_,rfl⟩
  obtain⟨f0,bb,zf,zq⟩:=a2;obtain⟨u2,v2,a3⟩:=a3;have ne2:=ne;simp only [mem_cons,not_mem_nil,or_false,not_or] at ne2;obtain⟨nz,nU,nV,ni,nj⟩:=ne2
  refine⟨.ref (s.heap.objs.size+1),_,I2,rfl,⟨_,_,la[n],lb[n],h0,h1,n01,hcx,hcy,rfl,rfl⟩,
   ⟨⟨_,by simpa using ge⟩,⟨f0,bb,gs.extBut _ _ (Ne.symm nz) zf,zq⟩,kp _ _ (by simp [Ne.symm nU,D.Uz,D.UV,D.Ui,D.Uj]) hU,⟨u2,v2,gs.extBut _ _ (Ne.symm nV) a3⟩,a4.mv fun o q=>gs.extBut _ o (Ne.symm ni) q,a5.mv fun o q=>gs.extBut _ o (Ne.symm nj) q⟩,fun b hb=>?_⟩
  obtain⟨o,ho⟩:=old_ b hb;rw [au (Ne.symm (lt2 ho)),au (Ne.symm (lt ho))];exact (hf b hb).1
 done:=by
  intro X hP hw hK hc n pins s σ H E I hf st hg;subst hP hw hK;obtain⟨⟨old,he⟩,hz,hU,⟨u,v,hV⟩,w1,w2⟩:=st;have hT:s.TypeIs (.ref e) "enumerate":=⟨_,he,rfl⟩
  unfold pyNext
  refine wpAny_bind (wpAny_attempt (wpAny_callSpecial?_slot (name:=Str.ofString "__next__") hT F.slot_enumerate_next
   (wpAny_call_entry F.slot_enumerate_next hT F.entry_enumerate_next ?_ (F.args_enumerate_next_1 _))))
  show wpAny _ _ (field (.ref e) 2 >>= _) _ _ _;refine wpAny_bind (wpAny_field he rfl (x:=.ref z) rfl ?_)
  refine wpAny_bind (pO (I.ok.hd hc) D hz hU hV w1 w2 ?_ fun h' tk x hk he'=>?_)
  .have hg:la.length<=n\/lb.length<=n:=hg
   rcases hg with q|q
   .exact .inl (by simp [S];omega)
   .exact .inr (by simp [S];omega)
  .obtain⟨o,ho,hcl⟩:=he';refine wpAny_bind (wpAny_isInstance (T:="StopIteration") (b:=true) ⟨o,ho,hcl⟩ isSubtype_stop (wpAny_pure ⟨rfl,?_⟩))
   have sub:∀b,b∈[z,V,i,j]->b∈[e,z,U,V,i,j]:=fun b hb=>by
    simp only [mem_cons,not_mem_nil,or_false] at hb ⊢;rcases hb with q|q|q|q <;> simp [q]
   have hk2:∀b o,b∉[z,V,i,j]->s.heap.get? b=some o->h'.get? b=some o:=fun b o hb q=>by
    simp only [mem_cons,not_mem_nil,or_false,not_or] at hb;exact hk b o hb.1 hb.2.1 hb.2.2.1 hb.2.2.2 q
   have nn:∀b u,H b=some u->b∉[z,V,i,j]:=fun b u e hb=>by rw [(hf b (sub b hb)).1] at e;cases e
   exact I.step (g':=s.gens) (d':=s.drawn) (t':=tk) (ch:=[z,V,i,j]) (fun b hb=>by
     have q:=hf b (sub b hb);exact⟨q.2.2.2.1,q.2.1,q.2.2.2.2.1,q.2.2.2.2.2⟩) (fun b o _ _ hc e _=>hk2 b o hc e) (fun b o _ _ hc e _=>⟨o.slots,hk2 b o hc e⟩) (fun _ _ _ _ q=>q) (fun b o hc e=>⟨o,hk2 b o hc e⟩) (fun _ _ e=>e) (fun _ _ _ e=>e) (fun b ps e=>⟨#[],by rw [e];simp⟩) (fun m hm=>by
     obtain⟨o,es,ep,ho,r⟩:=hm;exact⟨o,es,ep,hk2 _ o (fun hb=>(hf _ (sub _ hb)).2.1 rfl) ho,r⟩) (fun b u e=>by
     refine (I.hok b u e).stay (fun c v hc q=>?_) (fun _ q=>q) fun _ _ q=>q;refine hk2 c v ?_ q
     rcases hc with q|q
     .rw [q];exact nn b u e
     .exact nn c _ q) I.bare
 self:=fun _ _ _ _ _ st h=>let ⟨⟨_,he⟩,_⟩:=st;wpAny_pyIter_enum he h
section
variable {P:Program}{w:World}{A:Around}{E:Value->Shared->Prop}{s:Shared}
theorem pP(z U V:Addr):Meets (Builtin.«enumerate.__new__» ⟨[.type "enumerate",.ref z],[]⟩) (fun _ R s=>IsZip s.heap z U V .none /\
   R (.ok (.ret (.ref s.heap.objs.size))) { s with heap:=s.heap.push { cls:=.type "enumerate",data:=.fields #[.none,.bool false,.ref z,rawInt 0,.none,.none] } }) :=
 .of_wp fun prog w A R s h=>by
  obtain⟨hp,g,d,tk,os⟩:=s;obtain⟨r1,h⟩:=h;have hsub:=sub_enumerate;have ho:(Shared.heap ⟨hp,g,d,tk,os⟩).get? z=some _:=r1
  wp_walk using AutoSeq1.wpAny_loadPart' ho
  refine wpAny_stack_any fun st=>wpAny_pure ?_
  split
  .rename_i c _ _ _ _ _
   cases (c == Value.type "enumerate")
   .wp_walk using AutoSeq1.wpAny_loadPart' ho,wpAny_pyIter_zip r1
    exact⟨_,rfl,h⟩
   .wp_walk using AutoSeq1.wpAny_loadPart' ho,wpAny_pyIter_zip r1
    exact⟨_,rfl,h⟩
  .wp_walk using AutoSeq1.wpAny_loadPart' ho,wpAny_pyIter_zip r1
   exact⟨_,rfl,h⟩
theorem pQ{z U V:Addr}{Q:Value->Shared->Prop}(r1:IsZip s.heap z U V .none)
  (h:∀h',IsEnum h' s.heap.objs.size z 0 .none->(∀b o,s.heap.get? b=some o->h'.get? b=some o)->Q (.ref s.heap.objs.size) { s with heap:=h' }) :
  wpAny (model P w) A (call (.type "enumerate") [.ref z]) Q E s:=by
 refine callType_new F.called_enumerate (by decide) (F.typeCall_enumerate_1 _) (F.newCall_enumerate_1 _) (fun obj=>F.args_object_init_2 obj _) F.entry_enumerate_new (pP z U V) ⟨r1,?_⟩;have g2:(s.heap.push { cls:=.type "enumerate",data:=.fields #[.none,.bool false,.ref z,rawInt 0,.none,.none] }).get? s.heap.objs.size=some _:=Heap.get?_push_size _ rfl;exact⟨⟨_,g2,rfl⟩,h _ g2 fun b o q=>Heap.get?_push_of_some _ q⟩
end
section
variable {X:Cx}{es:List Expr}{ct:Nat}{tp:Pos}
def iEz(ta:TA):TI:=fun σ H R=>ta σ H fun vs H1=>∃la lb,vs=[.str (S la),.str (S lb)]/\R (xH la lb) H1
theorem xI{a b:Expr}{ta:TA}{p p2 pos pos2:Pos}(hg:Gl X "zip")(hm:X.mg "zip"=none)(hg2:Gl X "enumerate")(hm2:X.mg "enumerate"=none)(ha:PA X [a,b] ta)
  (hs:starEach [a,b] X.env=[(false,eval a X.env),(false,eval b X.env)]:=by rfl) (hs2:starEach [b] X.env=[(false,eval b X.env)]:=by rfl) (hs3:starEach [.Call (.Name "zip" p) [a,b] [] pos] X.env=[(false,eval (.Call (.Name "zip" p) [a,b] [] pos) X.env)]:=by rfl) :
  PI X (.Tuple es ct tp) (.Call (.Name "enumerate" p2) [.Call (.Name "zip" p) [a,b] [] pos] [] pos2) (iEz ta):=by
 intro pins s σ H R I h;refine Call_ (c5 I hg2 hm2 boot_enumerate (PyProof.Rows.callWith_type1 ?_ hs3 rfl));rw [hs3];show wpAny _ _ (spliced ((false,eval (.Call (.Name "zip" p) [a,b] [] pos) X.env)::[])) _ _ s;refine Calls.spliced_cons ?_;refine Call_ (c5 I hg hm boot_zip (PyProof.Rows.callWith_type1 (thn (ha pos pins s σ H _ I h) fun us s1 ⟨vs,H1,I1,r1,q1⟩=>?_) (by rw [hs,hs2]) (by rw [hs2];rfl)))
 obtain⟨la,lb,e,q⟩:=q1;subst e
 cases r1 with
 | cons r rr =>
  cases rr with
  | cons r' rr =>
   cases rr;obtain⟨t,rfl⟩:=r;obtain⟨u,rfl⟩:=r';refine mE fun h' g1 g2 g3 g4 g5 kk=>Calls.spliced_nil ?_;refine pQ g1 fun h2 k1 kk2=>wpAny_pyIter_enum k1 ?_;have I2:Inv X pins σ H1 { s1 with heap:=h2,toks:=s1.toks }:=I1.kept fun b o q=>kk2 _ _ (kk _ _ q);have lz:s1.heap.objs.size+4<h'.objs.size:=Heap.lt_size g1;have ge:∀b:Nat,b<=s1.heap.objs.size+4->h'.objs.size≠b:=fun b hb=>ne_of_gt (lt_of_le_of_lt hb lz)
   have ne:h'.objs.size∉[s1.heap.objs.size+4,s1.heap.objs.size+2,s1.heap.objs.size+3,s1.heap.objs.size,s1.heap.objs.size+1]:=by
    simp only [mem_cons,not_mem_nil,or_false,not_or];exact⟨ge _ (le_refl _),ge _ (add_le_add_left (by decide) _),ge _ (add_le_add_left (by decide) _),ge _ (le_add_right _ _),ge _ (add_le_add_left (by decide) _)⟩
   refine⟨h'.objs.size,[h'.objs.size,s1.heap.objs.size+4,s1.heap.objs.size+2,s1.heap.objs.size+3,s1.heap.objs.size,s1.heap.objs.size+1],_,_,H1,rfl,I2,tR (i:=s1.heap.objs.size) (j:=s1.heap.objs.size+1) ne (sJ _),
    ⟨⟨_,k1⟩,⟨_,_,kk2 _ _ g1,.inl rfl⟩,kk2 _ _ g2,⟨_,_,kk2 _ _ g3⟩,g4.mv fun o q=>kk2 _ _ q,g5.mv fun o q=>kk2 _ _ q⟩,fun b hb=>?_,q⟩
   have hle:s1.heap.objs.size<=b:=by
    simp only [mem_cons,not_mem_nil,or_false] at hb
    rcases hb with e|e|e|e|e|e
    .rw [e];exact le_of_lt (lt_of_le_of_lt (le_add_right _ _) lz)
    .rw [e];exact le_add_right _ _
    .rw [e];exact le_add_right _ _
    .rw [e];exact le_add_right _ _
    .rw [e];exact le_refl _
    .rw [e];exact le_add_right _ _
   exact I1.fpOk hle (I1.hok.fresh hle)
def yy(pa:PTA):PTI:=fun ρ Q=>pa ρ fun as ρ1=>match as with
 | [.v (.str x),.v (.str y)]=>Q (min x.length y.length) (fun k=>.tup [.int (k:Int),.tup [.str [x.getD k 0],.str [y.getD k 0]]]) ρ1
 | _=>False
end
section
variable {K:PySem.W.Frag}{ta:TA}{pa:PTA}
theorem wg{O:Addr->Prop}{H:Hp}{x y:List Nat}:Wlk K O H (xH x y) (min x.length y.length) (fun k=>.tup [.int (k:Int),.tup [.str [x.getD k 0],.str [y.getD k 0]]]):=fun O' H' kk dom=>by
 refine⟨fun k hk=>?_,?_⟩
 .refine⟨⟨by omega,by omega⟩,fun v H'' ⟨T,T2,cx,cy,hT,hT2,hn,hx,hy,e,e2⟩=>?_⟩;subst e e2;show Gr H' _/\FV K O' _ _ (.tup [.int (k:Int),.tup [.str [x.getD k 0],.str [y.getD k 0]]]);rw [getD_eq_getElem?_getD,getD_eq_getElem?_getD,hx,hy];have t2:(upd H' T (.tup [.str (S [cx]),.str (S [cy])])) T2=none:=by rw [au (Ne.symm hn)];exact hT2
  refine⟨fun b o q=>?_,.tup (fun z=>dom T2 z hT2) aT (.cons (.int _) (.cons (.tup (fun z=>dom T z hT) ?_ (.cons (.str _ (by show 1<=1000000;decide)) (.cons (.str _ (by show 1<=1000000;decide)) .nil))) .nil))⟩
  .rw [au (aQ q hT2),au (aQ q hT)];exact q
  .rw [au hn];exact aT
 .show x.length<=_\/y.length<=_;omega
theorem xJ(h:LAs K ta pa):LI K (iEz ta) (yy pa):=fun A ρ σ H Q Q' R q k=>h A ρ σ H _ _ R q fun vs H1 as ρ1 q1 f1 R1 o1=>by
 split at q1
 .rename_i x y
  cases o1 with
  | cons o1 o2 =>
   cases o2 with
   | cons o2 o3 =>
    cases o3;have f1':FV K _ H1 _ (.str x):=o1;have f2':FV K _ H1 _ (.str y):=o2;cases f1';cases f2';exact⟨x,y,rfl,k _ H1 _ _ ρ1 q1 f1 R1 wg⟩
 .exact q1.elim
end
section
open PySem.AutoSeq1 (wpAny_loadPart')
open PySem.MeetsSeq PySem.MeetsSeq2 PySem.MeetsSeq3
variable {P:Program}{w:World}{A:Around}
end
section
variable {K:PySem.W.Frag}{A O O':Addr->Prop}{fx:List (Nat×V)}{R:Addr->Prop}{H0 H0' H H':Hp}{ρ ρ':PSt}{σ:St}{x:Nat}{Da:Addr}{as:List Addr}{rows:List (List D)}
def cl(x:Nat)(ρ:PSt):Option (List (List D))->PSt
 | none=>ρ
 | some rows=>ρ.set x (some (.own (rows.map D.lst)))
theorem pR(x:Nat)(ρ:PSt):cl x ρ none=ρ:=rfl
theorem pS(x:Nat)(ρ:PSt)(rows:List (List D)):cl x ρ (some rows)=ρ.set x (some (.own (rows.map D.lst))):=rfl
end
section
variable {K:PySem.W.Frag}{A:Addr->Prop}{fx:List (Nat×V)}{R:Addr->Prop}{H0 H:Hp}{ρ:PSt}{σ:St}
def mvd(ρ:PSt)(g r:Nat)(ds:List D):PSt:=(ρ.set r (some (.own ds))).set g none
theorem rO(ρ:PSt)(g r:Nat)(ds:List D):mvd ρ g r ds=(ρ.set r (some (.own ds))).set g none:=rfl
end
def XI(K:PySem.W.Frag)(G:Addr)(nm:String)(C:Addr):Prop:=PySem.W.nsIn K mainGlobals nm=some (some (.ref C))/\(∃(q:Str) (N:Addr) (bs sub:List Value) (sn:List Str) (ab:Bool) (col:Option Bool) (k0 k1 k2 k3 k5:Option Value),K.lookup C=some (excClassObj nm q C N bs (.ref G::[.type "ValueError",.type "Exception",.type "BaseException",.type "object"]) true sn sub ab col none k0 k1 k2 k3 k5 "ValueError.__new__")) /\
 PySem.W.findIn K (.ref C) "__getattribute__"=some (some (.builtin "BaseException.__getattribute__"))/\PySem.W.findIn K (.ref C) "__getattr__"=some none/\PySem.W.findIn K (.ref C) "__setattr__"=some (some (.builtin "object.__setattr__"))/\PySem.W.findIn K (.ref C) "__class__"=some (some (.builtin "object.__class__"))/\PySem.W.keepIn K (.ref C)=true
theorem xK{K:PySem.W.Frag}{G:Addr}{nm:String}{C:Addr}{q:Str}{N:Addr}{bs sub:List Value}{sn:List Str}{ab:Bool}{col:Option Bool}{k0 k1 k2 k3 k5:Option Value}(a:PySem.W.nsIn K mainGlobals nm=some (some (.ref C)))
  (l:K.lookup C=some (excClassObj nm q C N bs (.ref G::[.type "ValueError",.type "Exception",.type "BaseException",.type "object"]) true sn sub ab col none k0 k1 k2 k3 k5 "ValueError.__new__"))
  (g:PySem.W.findIn K (.ref C) "__getattribute__"=some (some (.builtin "BaseException.__getattribute__"))) (h:PySem.W.findIn K (.ref C) "__getattr__"=some none) (s:PySem.W.findIn K (.ref C) "__setattr__"=some (some (.builtin "object.__setattr__"))) (c:PySem.W.findIn K (.ref C) "__class__"=some (some (.builtin "object.__class__"))) (k:PySem.W.keepIn K (.ref C)=true):XI K G nm C :=
 ⟨a,⟨_,_,_,_,_,_,_,_,_,_,_,_,l⟩,g,h,s,c,k⟩
def XJ(K:PySem.W.Frag)(C:Addr)(qn at_:String)(st:Stmt):Prop:=∃(fx:Addr) (oc kV dc pm cd ct:Value) (od an:Option Addr) (sl:Array (Option Value)),PySem.W.findIn K (.ref C) "__init__"=some (some (.ref fx))/\PySem.W.typeIn K (.ref fx)=some (.type "function")/\K.lookup fx=some ⟨oc,od,.func (PySem.W.fnOf "__init__" qn (cj st) (bR st) (aq st) .none kV dc pm an cd ct),sl⟩/\PySem.W.codeIn K cd qn=true/\PySem.W.keepIn K (.ref fx)=true/\PySem.W.findIn K (.ref C) at_=some none
theorem xL{K:PySem.W.Frag}{C:Addr}{qn at_:String}{st:Stmt}{fx:Addr}{oc kV dc pm cd ct:Value}{od an:Option Addr}{sl:Array (Option Value)}(i:PySem.W.findIn K (.ref C) "__init__"=some (some (.ref fx)))(t:PySem.W.typeIn K (.ref fx)=some (.type "function"))(l:K.lookup fx=some ⟨oc,od,.func (PySem.W.fnOf "__init__" qn (cj st) (bR st) (aq st) .none kV dc pm an cd ct),sl⟩)(c:PySem.W.codeIn K cd qn=true)(k:PySem.W.keepIn K (.ref fx)=true)(n:PySem.W.findIn K (.ref C) at_=some none):XJ K C qn at_ st :=
 ⟨_,_,_,_,_,_,_,_,_,_,i,t,l,c,k,n⟩
end L2
namespace L2
open PySem
def Ri(xs:Array Nat):Prop:=xs.toList.Pairwise (·<·)
theorem Ri.le{xs:Array Nat}(h:Ri xs){i k d:Nat}(hik:i<=k)(hk:k<xs.size):xs.getD i d<=xs.getD k d:=by
 have a:∀m,m<xs.size->xs.getD m d=xs.toList[m]?.getD 0:=fun m hm=>by
  rw [Array.getD_eq_getD_getElem?,Array.getElem?_toList,Array.getElem?_eq_getElem hm];rfl
 rcases lt_or_eq_of_le hik with l|e
 .have l2:=pairwise_iff_getElem.mp h i k (by rw [Array.length_toList];omega) (by rw [Array.length_toList];omega) l;rw [a i (by omega),a k hk,getElem?_eq_getElem (by rw [Array.length_toList];omega),getElem?_eq_getElem (by rw [Array.length_toList];omega)];exact le_of_lt l2
 .rw [e];exact le_refl _
def Bl(xs:Array Nat)(j r:Nat):Prop:=r<=xs.size/\(∀i,i<r->xs.getD i j<j)/\∀i,r<=i->i<xs.size->j<=xs.getD i j
theorem jy{xs:Array Nat}{j:Nat}(h:Ri xs):∀(f lo hi:Nat),hi - lo<=f->lo<=hi->hi<=xs.size->(∀i,i<lo->xs.getD i j<j)->(∀i,hi<=i->i<xs.size->j<=xs.getD i j)->Bl xs j (SetTable.below.go xs j f lo hi)
 | 0,lo,hi,a,b,c,d,e=>by
  have:lo=hi:=by omega
  subst this;exact⟨c,d,e⟩
 | f+1,lo,hi,a,b,c,d,e=>by
  rw [SetTable.below.go]
  by_cases l:lo<hi
  .rw [if_pos l];dsimp only
   by_cases m:xs.getD ((lo+hi) / 2) j<j
   .rw [if_pos m];exact jy h f _ _ (by omega) (by omega) c (fun i hi'=>lt_of_le_of_lt (h.le (by omega) (by omega)) m) e
   .rw [if_neg m];exact jy h f _ _ (by omega) (by omega) (by omega) d fun i h1 h2=>le_trans (Nat.not_lt.mp m) (h.le h1 h2)
  .rw [if_neg l];have:lo=hi:=by omega
   subst this;exact⟨c,d,e⟩
theorem mK{xs:Array Nat}(j:Nat)(h:Ri xs):Bl xs j (SetTable.below xs j) :=
 jy h _ _ _ (by omega) (by omega) (le_refl _) (fun i hi=>absurd hi (not_lt_zero _)) fun i h1 h2=>absurd h2 (by omega)
theorem jA{xs:Array Nat}{i j d:Nat}(e:xs.toList[i]?=some j):xs.getD i d=j:=by
 rw [Array.getD_eq_getD_getElem?,<- Array.getElem?_toList,e];rfl
theorem Ri.insert{xs:Array Nat}{j:Nat}(h:Ri xs)(hn:xs[SetTable.below xs j]?≠some j):Ri (SetTable.insertAt xs (SetTable.below xs j) j):=by
 obtain⟨b1,b2,b3⟩:=mK j h;generalize SetTable.below xs j=p at *;unfold Ri;rw [SetTable.toList_insertAt]
 have lo:∀a∈xs.toList.take p,a<j:=fun a ha=>by
  obtain⟨i,hi⟩:=getElem?_of_mem ha;rw [getElem?_take] at hi
  split at hi
  .rename_i l;have:=b2 i l;rw [jA hi] at this;exact this
  .cases hi
 have up:∀b∈xs.toList.drop p,j<b:=fun b hb=>by
  obtain⟨i,hi⟩:=getElem?_of_mem hb;rw [getElem?_drop] at hi
  have hl:p+i<xs.size:=by
   have:=(List.getElem?_eq_some_iff.mp hi).1;rw [Array.length_toList] at this;exact this
  have h0:p<xs.size:=by omega
  have e0:xs.getD p j≠j:=fun e=>hn (by
   rw [Array.getD_eq_getD_getElem?,Array.getElem?_eq_getElem h0] at e;rw [Array.getElem?_eq_getElem h0];exact congrArg some e)
  have h1:=b3 p (le_refl _) h0;have h2:=h.le (d:=j) (le_add_right p i) hl;rw [jA hi] at h2;omega
 refine pairwise_append.mpr ⟨h.sublist (take_sublist ..),pairwise_cons.mpr ⟨up,h.sublist (drop_sublist ..)⟩,fun a ha b hb=>?_⟩
 rcases mem_cons.mp hb with e|hb
 .rw [e];exact lo a ha
 .exact lt_trans (lo a ha) (up b hb)
structure Tb (t:SetTable):Prop where
 ri:Ri t.place
 du:t.dummies=#[]
theorem Tb.dummy{t:SetTable}(h:Tb t)(j:Nat):SetTable.has t.dummies j=false:=by rw [h.du];rfl
theorem iX{t:SetTable}(h:Tb t){f:Nat->Int}{x:Int}:∀(n:Nat) (p:SetTable.Probe) {j:Nat}{d:Option Nat},p.dummy=none->SetTable.probe.go t f x n p=some (.empty j d)->d=none/\t.slot j=.empty
 | 0,p,j,d,hp,e=>by cases e
 | n+1,p,j,d,hp,e=>by
  rw [SetTable.probe.go] at e
  have ad:(t.advance p).dummy=none:=by
   unfold SetTable.advance;split
   .exact hp
   .exact hp
  split at e
  .rename_i e1;cases e;exact⟨hp,e1⟩
  .rename_i e1;unfold SetTable.slot at e1;dsimp only at e1;rw [h.dummy] at e1;split at e1 <;> cases e1
  .split at e
   .cases e
   .exact iX h n _ ad e
theorem pT{t:SetTable}{j:Nat}(e:t.slot j=.empty):t.place[SetTable.below t.place j]?≠some j:=by
 intro h;unfold SetTable.slot at e;dsimp only at e;rw [if_pos (by rw [h];exact beq_self_eq_true _)] at e;cases e
theorem tS{t:SetTable}(h:Tb t){x:Int}{j:Nat}{b:Bool}(e:t.freeSlot x=some (j,b)):t.place[SetTable.below t.place j]?≠some j:=by
 unfold SetTable.freeSlot at e
 split at e
 .rename_i j' d e1;obtain⟨rfl,e2⟩:=iX h _ _ rfl e1;cases e;exact pT e2
 .cases e
theorem Ri.range(n:Nat):Ri (Array.range n):=by unfold Ri;rw [Array.toList_range];exact pairwise_lt_range
theorem Tb.standIn(t:SetTable)(n:Nat):Tb (t.standIn n):=⟨Ri.range n,rfl⟩
theorem pU{t:SetTable}(h:Tb t)(es:Array (Int×Value))(x:Int)(v:Value):Tb (layNew t es x v).2.1/\(layNew t es x v).2.1.led=t.led:=by
 unfold layNew
 split
 .rename_i j b e;dsimp only [SetTable.put];rw [h.dummy,if_neg Bool.false_ne_true];unfold SetTable.orStandIn
  split
  .exact⟨⟨h.ri.insert (tS h e),h.du⟩,rfl⟩
  .exact⟨Tb.standIn _ _,rfl⟩
 .exact⟨Tb.standIn _ _,rfl⟩
theorem pV{t t':SetTable}{hs:Array Int}{n:Nat}{o:Array Nat}(e:t.relaid hs n=some (t',o)):Tb t'/\t'.led=t.led:=by
 unfold SetTable.relaid SetTable.laid at e;obtain⟨ow,e1,e⟩:=Option.bind_eq_some_iff.mp e;cases e;refine⟨⟨?_,rfl⟩,rfl⟩;unfold Ri;rw [pairwise_map];refine List.Pairwise.filterMap _ (S:=fun (a b:Nat×Nat)=>a.1<b.1) (fun a a' l b hb b' hb'=>?_) pairwise_lt_range;obtain⟨_,_,rfl⟩:=Option.map_eq_some_iff.mp hb;obtain⟨_,_,rfl⟩:=Option.map_eq_some_iff.mp hb';exact l
theorem lK(t:SetTable)(es:Array (Int×Value))(n:Nat):Tb (relayAll t es n).2.1/\(relayAll t es n).2.1.led=t.led:=by
 unfold relayAll
 split
 .rename_i t' o e;dsimp only
  split
  .exact pV e
  .exact⟨Tb.standIn _ _,rfl⟩
 .exact⟨Tb.standIn _ _,rfl⟩
end L2
namespace L2
open PySem
section
variable {prog:Program}{w:World}{A:Around}{E:Value->Shared->Prop}{s:Shared}{a:Addr}
def rP(e:Int×Value):Int:=match e.2 with
 | .int k _=>k
 | _=>0
def jS(es:Array (Int×Value))(ep:Nat)(t:SetTable):Obj:=⟨.type "set",none,.set es ep t,#[]⟩
def iD(prog:Program)(w:World)(h:Heap)(a:Addr)(ns:List Int):Prop :=
 ∃es ep t,h.get? a=some (jS es ep t)/\ElemsOf (intKind prog w) es.toList/\(es.toList.map rP).Perm ns/\t.fits es.size=true/\Tb t/\t.led=!w.params.followText "set-order"
theorem iD.len{h:Heap}{ns:List Int}{es:Array (Int×Value)}(p:(es.toList.map rP).Perm ns):es.size=ns.length:=by
 have:=p.length_eq;rw [length_map,Array.length_toList] at this;exact this
theorem iY{h:Heap}{es es':Array (Int×Value)}{ep:Nat}{t t':SetTable}(ho:h.get? a=some (jS es ep t)):(h.update a (Obj.putSet es' t')).get? a=some (jS es' (ep+1) t') :=
 Heap.get?_update_self _ ho rfl
theorem mL{g:Bool->Sem Unit}(hg:∀(b:Bool) (s₁:Shared) (Q':Unit->Shared->Prop),Q' () s₁->wpAny (model prog w) A (g b) Q' E s₁)
  {es es1:Array (Int×Value)}{ep:Nat}{t t2:SetTable}{ns:List Int} (ho:s.heap.get? a=some (jS es ep t)) (he:ElemsOf (intKind prog w) es1.toList) (hp:(es1.toList.map rP).Perm ns) (hb:es1.size<scanBound)
  (hf:t2.fits es1.size=true) (ht:Tb t2) (hl:t2.led=!w.params.followText "set-order") {wd:Bool}{R:Option Bool->Shared->Prop}
  (h:∀h',Heap.SameBut a s.heap h'->iD prog w h' a ns->R (some true) { s with heap:=h' }) :
  wpAny (model prog w) A (do
    storeSet a es1 t2
    if (!wd && t2.tooFull)=true then do
      g (relayAll t2 es1 (SetTable.grown es1.size)).2.2
      storeSet a (relayAll t2 es1 (SetTable.grown es1.size)).1 (relayAll t2 es1 (SetTable.grown es1.size)).2.1
      pure (some true)
     else pure (some true)) R E s:=by
 refine wpAny_bind (wpAny_storeSet_of ho rfl ?_ (fits_of_scanBound hb));have ho1:(s.heap.update a (Obj.putSet es1 t2)).get? a=_:=iY (es':=es1) (t':=t2) ho;have sb:=Heap.SameBut.update s.heap a (Obj.putSet es1 t2)
 split
 .have rp:=relayAll_perm t2 es1 (SetTable.grown es1.size);have rf:=relayAll_fits t2 es1 (SetTable.grown es1.size);obtain⟨rt,rl⟩:=lK t2 es1 (SetTable.grown es1.size);generalize relayAll t2 es1 (SetTable.grown es1.size)=L at rp rf rt rl ⊢;obtain⟨es2,t3,gv⟩:=L;dsimp only at rp rf rt rl ⊢;have hz:es2.size=es1.size:=by rw [<- Array.length_toList,rp.length_eq,Array.length_toList]
  refine wpAny_bind (hg _ _ _ ?_);refine wpAny_bind (wpAny_storeSet_of ho1 rfl ?_ (fits_of_scanBound (hz ▸ hb)));exact wpAny_pure (h _ (sb.trans (Heap.SameBut.update _ a _)) ⟨es2,_,t3,iY ho1,he.perm rp,(rp.map rP).trans hp,rf,rt,rl.trans hl⟩)
 .exact wpAny_pure (h _ sb ⟨es1,_,t2,ho1,he,hp,hf,ht,hl⟩)
theorem tT{ns:List Int}{k:Int}{u:Tok}{Q:Bool->Shared->Prop}(hS:iD prog w s.heap a ns)(hk:k∉ns)(hb:ns.length+1<scanBound)
  (h:∀h',Heap.SameBut a s.heap h'->iD prog w h' a (ns++[k])->Q true { s with heap:=h' }) :
  wpAny (model prog w) A (setAddHashed a (.int k u) (hashInt k)) Q E s:=by
 obtain⟨es,ep,t,ho,he,hp,hf,ht,hl⟩:=hS;have hz:=iD.len (h:=s.heap) hp;have hik:(intKind prog w).is k (.int k u)=true:=by simp [intKind,Value.isInt]
 have hsc:(Value.int k u).scannable=true:=rfl
 have nf:es.toList.findIdx? (fun e=>(intKind prog w).is k e.2)=none:=by
  refine findIdx?_eq_none_iff.mpr fun e hm=>?_
  cases hq:(intKind prog w).is k e.2 with
  | false=>rfl
  | true =>
   obtain⟨v,hv⟩:=Value.isInt_shape hq;have:rP e=k:=by unfold rP;rw [hv]
   exact absurd (hp.mem_iff.mp (this ▸ mem_map_of_mem hm)) hk
 unfold setAddHashed setAddHashedIn;refine wpAny_holding (wpAny_bind (wpAny_setState_of ho rfl hf ?_));dsimp only;rw [byScan_of hsc (by omega) he];simp only [↓reduceIte];unfold setAddByScan;refine wpAny_bind ?_;refine wpAny_bind (wpAny_rule ?_);refine wpAny_bind (wpAny_setScan_of (knd:=intKind prog w) hik ho rfl hf he ?_);rw [nf];dsimp only
 have hgw:∀(b:Bool) {s₁:Shared}{Q':Unit->Shared->Prop},Q' () s₁->wpAny (model prog w) A (match b with|true=>rule "set.scan.the-table-gave-way"|false=>pure ()) Q' E s₁ :=
  fun b s₁ Q' hq=>by cases b <;> first|exact wpAny_pure hq|exact wpAny_rule hq
 have lp:=layNew_perm t es (hashInt k) (.int k u);have lf:=layNew_fits t es (hashInt k) (.int k u);obtain⟨lt,ll⟩:=pU ht es (hashInt k) (.int k u);generalize layNew t es (hashInt k) (.int k u)=L at lp lf lt ll ⊢;obtain⟨es1,t1,wd,gv⟩:=L;dsimp only at lp lf lt ll ⊢;rw [Array.toList_push] at lp;have he1:ElemsOf (intKind prog w) es1.toList:=(he.push hik hsc).perm lp
 have hp1:(es1.toList.map rP).Perm (ns++[k]):=by
  refine (lp.map rP).trans ?_;rw [map_append];exact hp.append_right _
 have hb1:es1.size<scanBound:=by
  rw [iD.len (h:=s.heap) hp1,length_append];exact hb
 refine wpAny_bind (hgw _ ?_);have fin:∀h',Heap.SameBut a s.heap h'->iD prog w h' a (ns++[k])->wpAny (model prog w) A (pure true) Q E { s with heap:=h' }:=fun h' s1 s2=>wpAny_pure (h h' s1 s2)
 split
 .refine wpAny_bind ?_;rw [hashByValue_scannable 8 hsc];refine wpAny_pure ?_;exact mL (fun b s₁ Q' hq=>hgw b hq) ho he1 hp1 hb1 lf lt (ll.trans hl) fun h' s1 s2=>fin h' s1 s2
 .refine wpAny_bind (wpAny_pure ?_);simp only [↓reduceIte];exact mL (fun b s₁ Q' hq=>hgw b hq) ho he1 hp1 hb1 lf lt (ll.trans hl) fun h' s1 s2=>fin h' s1 s2
theorem tU{ns:List Int}{k:Int}{u:Tok}{Q:Bool->Shared->Prop}(hS:iD prog w s.heap a ns)(hk:k∉ns)(hb:ns.length+1<scanBound)
  (h:∀h',Heap.SameBut a s.heap h'->iD prog w h' a (ns++[k])->Q true { s with heap:=h',toks:=s.toks+1 }) :
  wpAny (model prog w) A (setAdd a (.int k u)) Q E s:=by
 unfold setAdd;refine wpAny_holding (wpAny_bind ((intKind prog w).pyHash (k:=k) (by simp [intKind,Value.isInt]) ?_));exact tT (s:={ s with toks:=s.toks+1 }) hS hk hb h
end
end L2
namespace L2
open PySem PySem.Spec PyProof.Rows
section
variable {prog:Program}{w:World}{A:Around}{R:Result->Shared->Prop}{I:Addr}{fp wr:List Addr}{G:Array GenState->Array GenState->Prop}{n:Nat}{P:Nat->Value->Prop}{St:Nat->Shared->Prop}
theorem iD.keep{h h':Heap}{a:Addr}{ns:List Int}(x:iD prog w h a ns)(k:∀o,h.get? a=some o->h'.get? a=some o):iD prog w h' a ns :=
 let ⟨es,ep,t,ho,r⟩:=x;⟨es,ep,t,k _ ho,r⟩
theorem qU(W:WalksS prog w A.in1 I fp wr G n P St)(S:Addr)(hSf:S∉fp)(ns:List Int)(hn:ns.length=n)(hd:ns.Nodup)(hv:∀i v,P i v->∃t,v=.int (ns.getD i 0) t)(hb:n+1<scanBound) :
  ∀(k i:Nat) (s:Shared),n - i=k->i<=n->St i s->iD prog w s.heap S (ns.take i)->(∀s',PySem.Moved (S::wr) G s s'->iD prog w s'.heap S ns->R (.ok (.ret .none)) s') ->
   codeAny (model prog w) A (.builtin "set.update.loop" ⟨[.ref S,.ref I],[]⟩) R s:=by
 have hSw:S∉wr:=fun h=>hSf (W.sub _ h);have sub:∀b∈wr,b∈S::wr:=fun b hb=>mem_cons_of_mem _ hb;intro k
 induction k with
 | zero =>
  intro i s hk hi st hS hR;cases (show i=n by omega);refine codeAny_builtin F.entry_set_update_loop ?_;rw [Around.under_plainId F.plain_set_update_loop _];refine wpAny_bind (W.done s _ _ st fun s' hm=>?_);rw [<- hn,take_length] at hS;exact wpAny_pure (hR s' (hm.mono sub) (hS.keep fun o e=>hm.heap S o hSw e))
 | succ k ih =>
  intro i s hk hi st hS hR;have hlt:i<n:=by omega
  refine codeAny_builtin F.entry_set_update_loop ?_;rw [Around.under_plainId F.plain_set_update_loop _];refine wpAny_bind (W.item i s _ _ hlt st fun v s' hP st' hm=>?_);obtain⟨t,rfl⟩:=hv i v hP;have hS':iD prog w s'.heap S (ns.take i):=hS.keep fun o e=>hm.heap S o hSw e;have hil:i<ns.length:=by omega
  have hg:ns.getD i 0=ns[i]:=by rw [getD_eq_getElem?_getD,getElem?_eq_getElem hil];rfl
  have nin:ns.getD i 0∉ns.take i:=fun hm=>by
   rw [hg] at hm;obtain⟨j,hj,e⟩:=mem_take_iff_getElem.mp hm;have hj2:j<i:=by omega
   exact absurd e (pairwise_iff_getElem.mp hd j i (by omega) hil hj2)
  refine wpAny_bind (wpAny_holding ?_);refine tU hS' nin (by rw [length_take];omega) fun h' sb hS2=>?_
  have hS3:iD prog w h' S (ns.take (i+1)):=by
   rw [take_add_one,getElem?_eq_getElem hil];rw [hg] at hS2;exact hS2
  refine wpAny_pure ⟨plainId_quiet F.plain_set_update_loop _,ih (i+1) _ (by omega) hlt (W.frame _ s' _ _ st' (le_succ _) fun b hb o e=>?_) hS3 fun s'' hm'' hS''=>?_⟩
  .rw [sb.2 b (fun h:b=S=>hSf (by rw [<- h];exact hb))];exact e
  .refine hR s'' (PySem.Moved.trans W.gtrans ((hm.mono sub).then_heap (le_succ _) fun b o hb e=>?_) hm'') hS'';rw [sb.2 b (fun h:b=S=>hb (by rw [h];exact mem_cons_self))];exact e
end
section
variable {prog:Program}{w:World}{A:Around}{E:Value->Shared->Prop}{s:Shared}
def pW(w:World):Obj:=jS #[] 0 (.fresh 0 0 (!w.params.followText "set-order"))
theorem qV(x:Value){Q₁:Value->Shared->Prop}(h:Q₁ (.ref s.heap.objs.size) { s with heap:=s.heap.push (pW w) }) :
  codeAny (model prog w) A (.call (.builtin "set.__new__") ⟨[.type "set",x],[]⟩) (wants Q₁ E) s:=by
 refine codeAny_of_tree (wpAny_bind (wpAny_of_eq (F.newCall_set_1 x) (wpAny_pure ⟨plainId_quiet F.plain_set_new _,codeAny_builtin F.entry_set_new ?_⟩)));rw [Around.under_plainId F.plain_set_new _];unfold Builtin.«set.__new__» Builtin.Frozenset.newClass;have hsub:=sub_set_self;obtain⟨hp,g,d,tk,os⟩:=s;dsimp only
 wp_walk
 refine wpAny_askSetting (wpAny_pure ?_);dsimp only;simp only [newObj];exact wpAny_bind (wpAny_alloc (wpAny_pure (wpAny_pure h)))
theorem tV:isSubtype (.type "tuple") (.type "set")=pure false:=by rw [isSubtype_type];kernel_rfl
theorem nG:isSubtype (.type "tuple") (.type "frozenset")=pure false:=by rw [isSubtype_type];kernel_rfl
theorem tW(h:Heap):iD prog w (h.push (pW w)) h.objs.size [] :=
 ⟨#[],0,_,Heap.get?_push_size _ rfl,(fun e he=>nomatch he),List.Perm.refl _,rfl,⟨List.Pairwise.nil,rfl⟩,rfl⟩
theorem tX{T newId initId:String}{Bi:Builtin}{args:List Value}{Q Q₁:Value->Shared->Prop}(ft:TypeCalled T newId initId)(hct:checkTypeCall T ⟨args,[]⟩=pure ())(entryI:entryFor table initId=some Bi)
  (hnew:codeAny (model prog w) A.in1 (.call (.builtin newId) ⟨.type T::args,[]⟩) (wants Q₁ E) s)
  (hnext:∀obj s₁,Q₁ obj s₁->s₁.TypeIs obj T/\wpAny (model prog w) A.in1.in1 (checkBuiltinCall initId ⟨obj::args,[]⟩) (fun _ s₂=>wpAny (model prog w) A.in1.in1 (Bi ⟨obj::args,[]⟩)
    (fun fin s'=>match fin with|.done f=>wants (fun r s₂=>r=.none/\Q obj s₂) E (.ok f) s'|.again c'=>c'.quiet=true/\codeAny (model prog w) A.in1 c' (wants (fun r s₂=>r=.none/\Q obj s₂) E) s')
    (fun e s'=>wants (fun r s₂=>r=.none/\Q obj s₂) E (.error e) s') s₂) (fun e s'=>wants (fun r s₂=>r=.none/\Q obj s₂) E (.error e) s') s₁) :
  wpAny (model prog w) A (call (.type T) args) Q E s:=by
 obtain⟨c,tl,hmro⟩:=ft.mro;have hmade:=ft.made;have hsub:=ft.sub;refine wpAny_call (codeAny_of_tree (wpAny_pure ⟨Code.quiet_builtin _ (by decide +kernel),codeAny_builtin F.entry_type_call ?_⟩));rw [Around.under_plain (weight_type_call_type T args []) rfl];have h1:=ft.notType;have h2:=ft.canCreate
 repeat (any_goals (first|assumption|wp_step))
 refine codeAny_mono hnew fun r s₁ hr=>?_
 cases r with
 | error e=>exact hr
 | ok fl =>
  cases fl with
  | ret obj =>
   obtain⟨hT,hsi⟩:=hnext _ _ hr;have hli:=ft.init.lookup;have hbi:=ft.init.bind obj
   repeat (any_goals (first|assumption|wp_step))
   refine codeAny_mono (codeAny_call_builtin ft.init.plain entryI hsi) fun r₂ s₂ hr₂=>?_
   cases r₂ with
   | error e=>exact hr₂
   | ok fl₂ =>
    cases fl₂ with
    | ret r =>
     obtain⟨rfl,hq⟩:=hr₂
     repeat (any_goals (first|assumption|wp_step))
    | _=>exact hr₂.elim
  | _=>exact hr.elim
theorem qW{M:Model}{id:String}{S l:Addr}{Q:Unit->Shared->Prop}(hT:s.TypeIs (.ref l) "tuple")(h:wpAny M A (pyIter (.ref l)) (fun it s'=>wpAny M A (runValue (.builtin "set.update.loop" ⟨[.ref S,it],[]⟩)) (fun _ s''=>Q () s'') E s') E s) :
  wpAny M A (Builtin.Frozenset.updateFrom id S (.ref l)) Q E s:=by
 unfold Builtin.Frozenset.updateFrom Builtin.Frozenset.isAnySet;refine wpAny_bind (wpAny_bind (wpAny_isInstance (b:=false) hT tV ?_));refine wpAny_isInstance (b:=false) hT nG ?_;rw [if_neg Bool.false_ne_true];refine wpAny_bind (wpAny_typeOf hT ?_);rw [if_neg (by decide)];exact wpAny_bind (wpAny_mono h (fun it s' h'=>wpAny_bind (wpAny_mono h' (fun _ _ q=>wpAny_pure q) fun _ _ x=>x)) fun _ _ x=>x)
theorem kx{l:Addr}{items:Array Value}{ns:List Int}{Q:Value->Shared->Prop}(hh:A.handled=none)(hl:s.heap.IsTuple l items)(hi:IntsAre items.toList ns)(hd:ns.Nodup)(hb:ns.length+1<scanBound)
  (h:∀(h':Heap) (tk:Nat),iD prog w h' s.heap.objs.size ns->(∀b o,b<s.heap.objs.size->s.heap.get? b=some o->h'.get? b=some o)->s.toks<=tk->Q (.ref s.heap.objs.size) { s with heap:=h',toks:=tk }) :
  wpAny (model prog w) A (call (.type "set") [.ref l]) Q E s:=by
 refine tX (Q₁:=fun obj s₁=>obj=.ref s.heap.objs.size/\s₁={ s with heap:=s.heap.push (pW w) }) F.called_set (F.typeCall_set_1 _) F.entry_set_init (qV _ ⟨rfl,rfl⟩) fun obj s₁ hr=>?_;obtain⟨rfl,rfl⟩:=hr;have hS:(s.heap.push (pW w)).get? s.heap.objs.size=some ⟨.type "set",none,.set #[] 0 (.fresh 0 0 (!w.params.followText "set-order")),#[]⟩:=Heap.get?_push_size _ rfl;have hT:Shared.TypeIs { s with heap:=s.heap.push (pW w) } (.ref s.heap.objs.size) "set":=⟨_,hS,rfl⟩
 refine⟨hT,check_set_init_1 hT ?_⟩;have hz:items.size=ns.length:=by rw [<- Array.length_toList];exact IntsAre.length hi
 have hl1:(s.heap.push (pW w)).IsTuple l items:=hl.push _;have hlt:l<s.heap.objs.size:=by obtain⟨o,ho,_⟩:=hl;exact Heap.lt_size ho
 have hTl:Shared.TypeIs { s with heap:=s.heap.push (pW w) } (.ref l) "tuple":=hl1.typeIs;have hU:∀{A':Around}{E':Value->Shared->Prop}{Q':Unit->Shared->Prop},wpAny (model prog w) A' (pyIter (.ref l)) (fun it s'=>wpAny (model prog w) A' (runValue (.builtin "set.update.loop" ⟨[.ref s.heap.objs.size,it],[]⟩)) (fun _ s''=>Q' () s'') E' s') E' { s with heap:=s.heap.push (pW w) }->wpAny (model prog w) A' (Builtin.Frozenset.updateFrom "set.__init__" s.heap.objs.size (.ref l)) Q' E' { s with heap:=s.heap.push (pW w) }:=fun h=>qW hTl h
 unfold Builtin.«set.__init__» noKeywords;generalize Builtin.Frozenset.updateFrom "set.__init__"=U at hU ⊢;have hsz:(s.heap.push (pW w)).objs.size=s.heap.objs.size+1:=Heap.size_push ..;have hF:=tW (prog:=prog) (w:=w) s.heap;generalize hgg:s.heap.push (pW w)=g at *
 wp_walk
 refine hU ?_;refine wpAny_pyIter_tuple hl1 ?_;refine wpAny_runValue ?_;have hh3:A.in1.in1.in1.handled=none:=by simp [hh]
 have hneI:l≠g.objs.size:=by rw [hsz];exact Nat.ne_of_lt (lt_succ_of_lt hlt)
 have hSf:s.heap.objs.size∉[g.objs.size,l]:=by
  rw [hsz];simp only [mem_cons,not_mem_nil,or_false,not_or];exact⟨Nat.ne_of_lt (lt_succ_self _),ne_of_gt hlt⟩
 refine qU ((Walks.tuple hh3 _ l hneI items).toS) s.heap.objs.size hSf ns hz.symm hd (fun i v hv=>IntsAre.int_at hi i v (by rw [Array.getElem?_toList];exact hv)) (by omega) (items.size - 0) 0 _ (by omega) (zero_le _)
  ⟨⟨_,Heap.get?_push_size _ rfl,rfl,rfl⟩,(hl1.push _)⟩ (hF.keep fun o e=>Heap.get?_push_of_some _ e) fun s' hm hS'=>?_
 obtain⟨h',g',d',tk',os'⟩:=s';have eg:g'=s.gens:=hm.gens;have ed:d'=s.drawn:=hm.drawn;have eo:os'=s.os:=hm.os;have et:s.toks<=tk':=hm.toks;subst eg;subst ed;subst eo;refine wpAny_pure ⟨rfl,h h' tk' hS' (fun b o hb e=>?_) et⟩;exact hm.heap b o (by rw [mem_cons,mem_singleton,hsz,not_or];exact⟨Nat.ne_of_lt hb,Nat.ne_of_lt (lt_succ_of_lt hb)⟩) (Heap.get?_push_of_some _ (hgg ▸ Heap.get?_push_of_some _ e))
end
namespace SF
theorem mM:Manifest.owners.lookup (String.ofList ['r','o','t','a','r','e','t','i','_','t','e','s'].reverse)=some Manifest.sig_set_iterator:=by kernel_rfl
theorem slot_next:Slot "set_iterator" "__next__" "set_iterator.__next__" :=
 .of (owner:="set_iterator") (n:="__next__") (by rw [typeLookup_type,builtinLookup_eq_fast];kernel_rfl) (by decide +kernel) (by decide +kernel) (by decide +kernel)
  (by first|exact .inl (by decide +kernel)|exact .inr (by decide +kernel)) (by rw [isSubtype_type];kernel_rfl)
theorem entry_next:entryFor table "set_iterator.__next__"=some Builtin.«set_iterator.__next__»:=entryFor_of_tree (by kernel_rfl)
theorem args_next(a:Value):argsOk "set_iterator.__next__" ⟨[a],[]⟩:=by
 unfold argsOk;rw [signature?_of (id:="set_iterator.__next__") (n:=['_','_','t','x','e','n','_','_']) (o:=['r','o','t','a','r','e','t','i','_','t','e','s']) (by kernel_rfl) mM];kernel_rfl
theorem slot_iter:Slot "set_iterator" "__iter__" "set_iterator.__iter__" :=
 .of (owner:="set_iterator") (n:="__iter__") (by rw [typeLookup_type,builtinLookup_eq_fast];kernel_rfl) (by decide +kernel) (by decide +kernel) (by decide +kernel)
  (by first|exact .inl (by decide +kernel)|exact .inr (by decide +kernel)) (by rw [isSubtype_type];kernel_rfl)
theorem args_iter(a:Value):argsOk "set_iterator.__iter__" ⟨[a],[]⟩:=by
 unfold argsOk;rw [signature?_of (id:="set_iterator.__iter__") (n:=['_','_','r','e','t','i','_','_']) (o:=['r','o','t','a','r','e','t','i','_','t','e','s']) (by kernel_rfl) mM];kernel_rfl
theorem entry_iter:entryFor table "set_iterator.__iter__"=some Builtin.«dict_keyiterator.__iter__» :=
 entryFor_alias (id':="dict_keyiterator.__iter__") (by kernel_rfl) rfl (by decide +kernel) (by kernel_rfl)
theorem entry_set_iter:entryFor table "set.__iter__"=some Builtin.«frozenset.__iter__» :=
 entryFor_alias (id':="frozenset.__iter__") (by kernel_rfl) rfl (by decide +kernel) (by kernel_rfl)
end SF
section
variable {prog:Program}{w:World}{A:Around}{E:Value->Shared->Prop}{s:Shared}{I a:Addr}
def itO(x:Value)(i:Nat)(a:Addr)(n ep:Nat):Obj:=⟨.type "set_iterator",none,.fields #[x,rawInt i,.ref a,rawInt n,rawInt ep],#[]⟩
theorem cT{h:Heap}{x:Value}{i n ep:Nat}(e:s.heap.get? I=some (itO x i a n ep)):s.TypeIs (.ref I) "set_iterator":=⟨_,e,rfl⟩
theorem wj{slot next i n ep:Nat}{es:Array (Int×Value)}{t:SetTable}{x:Value}{Q:Option Value->Shared->Prop}(hI:s.heap.get? I=some (itO (rawInt slot) i a n ep))(ha:s.heap.get? a=some (jS es ep t))(hf:t.fits es.size=true)(hz:es.size=n)(hne:a≠I)
  (hx:∀(A':Around) (E':Value->Shared->Prop) (Q':Option (Value×Nat)->Shared->Prop),Q' (some (x,next)) s->wpAny (model prog w) A' (setNext a slot i ep) Q' E' s)
  (hQ:∀h',h'.get? I=some (itO (rawInt next) (i+1) a n ep)->Heap.SameBut I s.heap h'->Q (some x) { s with heap:=h' }) :
  wpAny (model prog w) A (pyNext (.ref I)) Q E s:=by
 unfold pyNext
 refine wpAny_bind (wpAny_attempt (wpAny_callSpecial?_slot (name:=Str.ofString "__next__") (cT (h:=s.heap) hI) SF.slot_next
  (wpAny_call_entry SF.slot_next (cT (h:=s.heap) hI) SF.entry_next ?_ (SF.args_next _))))
 show wpAny _ _ (fieldsOf (.ref I) >>= _) _ _ s;unfold fieldsOf;refine wpAny_bind (wpAny_bind (wpAny_load hI (wpAny_pure ?_)));show wpAny _ _ (setEntries a >>= _) _ _ s;refine wpAny_bind (wpAny_setEntries_of ha rfl hf ?_);rw [if_neg (by rw [hz];simp)];show wpAny _ _ (setNext a (Int.toNat slot) (Int.toNat i) (Int.toNat ep) >>= _) _ _ s;rw [toNat_natCast,toNat_natCast,toNat_natCast];refine wpAny_bind (hx _ _ _ ?_)
 show wpAny _ _ (setField (.ref I) 0 (rawInt next) >>= _) _ _ s;refine wpAny_bind (wpAny_setField hI rfl (by simp) ?_);have e1:(s.heap.update I (Obj.mapFields fun vs=>vs.setIfInBounds 0 (rawInt next))).get? I=some (itO (rawInt next) i a n ep):=Heap.get?_update_self _ hI rfl;refine wpAny_bind (wpAny_setField e1 rfl (by simp) (wpAny_pure ⟨x,rfl,wpAny_pure (hQ _ ?_ ((Heap.SameBut.update ..).trans (Heap.SameBut.update ..)))⟩))
 exact Heap.get?_update_self _ e1 rfl
theorem pX{A':Around}{o:Obj}{E₁:Value->Shared->Prop}{Q₁:Fin->Shared->Prop}(hh:A'.handled=none)(h:∀h' e,(∀b o,s.heap.get? b=some o->h'.get? b=some o)->(∃o,h'.get? e=some o/\o.cls=.type "StopIteration")->E₁ (.ref e) { s with heap:=h' }) :
  wpAny (model prog w) A' (do raiseNew (<- newExc (.type "StopIteration") [])) Q₁ E₁ s:=by
 refine wpAny_bind ?_;simp only [newExc,newTuple];refine wpAny_bind (wpAny_newObj_type ?_ (by size_fits));refine wpAny_bind (m:=firstArgMember _ _) (wpAny_of_eq (a:=Value.none) (by first|rfl|(simp only [firstArgMember];rfl)) ?_);refine wpAny_newObj_type ?_ (by size_fits);simp only [raiseNew];refine wpAny_bind (wpAny_handled ?_);rw [hh];refine wpAny_bind (wpAny_pure (wpAny_throw ?_));exact h _ _ (fun b o e=>Heap.get?_push_of_some _ (Heap.get?_push_of_some _ e)) ⟨_,Heap.get?_push_size _ rfl,rfl⟩
theorem nH{slot i n ep:Nat}{es:Array (Int×Value)}{t:SetTable}{Q:Option Value->Shared->Prop}(hh:A.handled=none)(hI:s.heap.get? I=some (itO (rawInt slot) i a n ep))(ha:s.heap.get? a=some (jS es ep t))(hf:t.fits es.size=true)(hz:es.size=n)
  (hx:∀(A':Around) (E':Value->Shared->Prop) (Q':Option (Value×Nat)->Shared->Prop),Q' none s->wpAny (model prog w) A' (setNext a slot i ep) Q' E' s)
  (hQ:∀h',(∀b o,b≠I->s.heap.get? b=some o->h'.get? b=some o)->Q none { s with heap:=h' }) :
  wpAny (model prog w) A (pyNext (.ref I)) Q E s:=by
 unfold pyNext
 refine wpAny_bind (wpAny_attempt (wpAny_callSpecial?_slot (name:=Str.ofString "__next__") (cT (h:=s.heap) hI) SF.slot_next
  (wpAny_call_entry SF.slot_next (cT (h:=s.heap) hI) SF.entry_next ?_ (SF.args_next _))))
 show wpAny _ _ (fieldsOf (.ref I) >>= _) _ _ s;unfold fieldsOf;refine wpAny_bind (wpAny_bind (wpAny_load hI (wpAny_pure ?_)));show wpAny _ _ (setEntries a >>= _) _ _ s;refine wpAny_bind (wpAny_setEntries_of ha rfl hf ?_);rw [if_neg (by rw [hz];simp)];show wpAny _ _ (setNext a (Int.toNat slot) (Int.toNat i) (Int.toNat ep) >>= _) _ _ s;rw [toNat_natCast,toNat_natCast,toNat_natCast];refine wpAny_bind (hx _ _ _ ?_)
 show wpAny _ _ (setField (.ref I) 2 .none >>= _) _ _ s;refine wpAny_bind (wpAny_setField hI rfl (by simp) ?_);refine pX (o:=default) hh fun h' e hk he=>?_;obtain⟨o,ho,hc⟩:=he;refine wpAny_bind (wpAny_isInstance (T:="StopIteration") (b:=true) ⟨o,ho,hc⟩ isSubtype_stop ?_);exact wpAny_pure (hQ h' fun b o hb e=>hk b o ((Heap.get?_update_other _ _ (Ne.symm hb)).trans e))
theorem wk{T:Addr}{p i n ep:Nat}{es:Array (Int×Value)}{t:SetTable}{ps:Array Value}{nt:Nat}{ot:Obj}{x:Value}{hx:Int}{Q:Option Value->Shared->Prop}(hI:s.heap.get? I=some (itO (.ref T) i a n ep))(ha:s.heap.get? a=some (jS es ep t))(hf:t.fits es.size=true)(hz:es.size=n)
  (hT:s.heap.get? T=some ot) (hd:ot.data=.seq ps nt) (hp:ps[i]?=some (rawInt p)) (he:es[p]?=some (hx,x))
  (hQ:∀h',h'.get? I=some (itO (.ref T) (i+1) a n ep)->Heap.SameBut I s.heap h'->Q (some x) { s with heap:=h' }) :
  wpAny (model prog w) A (pyNext (.ref I)) Q E s:=by
 unfold pyNext
 refine wpAny_bind (wpAny_attempt (wpAny_callSpecial?_slot (name:=Str.ofString "__next__") (cT (h:=s.heap) hI) SF.slot_next
  (wpAny_call_entry SF.slot_next (cT (h:=s.heap) hI) SF.entry_next ?_ (SF.args_next _))))
 show wpAny _ _ (fieldsOf (.ref I) >>= _) _ _ s;unfold fieldsOf;refine wpAny_bind (wpAny_bind (wpAny_load hI (wpAny_pure ?_)));show wpAny _ _ (setEntries a >>= _) _ _ s;refine wpAny_bind (wpAny_setEntries_of ha rfl hf ?_);rw [if_neg (by rw [hz];simp)];show wpAny _ _ (seqItems? (.ref T) >>= _) _ _ s;refine wpAny_bind (wpAny_seqItems hT hd ?_);simp only [toNat_natCast,hp];show wpAny _ _ (setNextDrawn a (Int.toNat p) (Int.toNat ep) >>= _) _ _ s
 rw [toNat_natCast,toNat_natCast];unfold setNextDrawn;refine wpAny_bind (wpAny_bind (wpAny_setState_of ha rfl hf ?_));dsimp only;rw [if_neg (by simp)];refine wpAny_bind (wpAny_pure ?_);rw [he];refine wpAny_pure ?_;refine wpAny_bind (wpAny_setField hI rfl (by simp) (wpAny_pure ⟨x,rfl,wpAny_pure (hQ _ ?_ (Heap.SameBut.update ..))⟩));exact Heap.get?_update_self _ hI rfl
theorem nI{T:Addr}{i n ep:Nat}{es:Array (Int×Value)}{t:SetTable}{ps:Array Value}{nt:Nat}{ot:Obj}{Q:Option Value->Shared->Prop}(hh:A.handled=none)(hI:s.heap.get? I=some (itO (.ref T) i a n ep))(ha:s.heap.get? a=some (jS es ep t))(hf:t.fits es.size=true)(hz:es.size=n)
  (hT:s.heap.get? T=some ot) (hd:ot.data=.seq ps nt) (hp:ps[i]?=none)
  (hQ:∀h',(∀b o,b≠I->s.heap.get? b=some o->h'.get? b=some o)->Q none { s with heap:=h' }) :
  wpAny (model prog w) A (pyNext (.ref I)) Q E s:=by
 unfold pyNext
 refine wpAny_bind (wpAny_attempt (wpAny_callSpecial?_slot (name:=Str.ofString "__next__") (cT (h:=s.heap) hI) SF.slot_next
  (wpAny_call_entry SF.slot_next (cT (h:=s.heap) hI) SF.entry_next ?_ (SF.args_next _))))
 show wpAny _ _ (fieldsOf (.ref I) >>= _) _ _ s;unfold fieldsOf;refine wpAny_bind (wpAny_bind (wpAny_load hI (wpAny_pure ?_)));show wpAny _ _ (setEntries a >>= _) _ _ s;refine wpAny_bind (wpAny_setEntries_of ha rfl hf ?_);rw [if_neg (by rw [hz];simp)];show wpAny _ _ (seqItems? (.ref T) >>= _) _ _ s;refine wpAny_bind (wpAny_seqItems hT hd ?_);simp only [toNat_natCast,hp];refine wpAny_bind (wpAny_setField hI rfl (by simp) ?_)
 have e1:(s.heap.update I (Obj.mapFields fun vs=>vs.setIfInBounds 0 (rawInt 0))).get? I=some (itO (rawInt 0) i a n ep):=Heap.get?_update_self _ hI rfl;refine wpAny_bind (wpAny_setField e1 rfl (by simp) ?_);refine pX (o:=default) hh fun h' e hk he=>?_;obtain⟨o,ho,hc⟩:=he;refine wpAny_bind (wpAny_isInstance (T:="StopIteration") (b:=true) ⟨o,ho,hc⟩ isSubtype_stop ?_);exact wpAny_pure (hQ h' fun b o hb e=>hk b o ((Heap.get?_update_other _ _ (Ne.symm hb)).trans ((Heap.get?_update_other _ _ (Ne.symm hb)).trans e)))
end
theorem fZ{α:Type}:∀{l:List α}{i:Nat} (h:i<l.length),(l[i]::l.eraseIdx i).Perm l
 | x::l,0,h=>.refl _
 | x::l,i+1,h=>by
  rw [getElem_cons_succ,eraseIdx_cons_succ];exact (List.Perm.swap x _ _).trans ((fZ (l:=l) (i:=i) (lt_of_succ_lt_succ h)).cons x)
theorem pY{α:Type}(f:Nat->Nat):∀(n k:Nat) (l:List α) (out:Array α),l.length=n->(pickOrder.go f n k l out).toList.Perm (out.toList++l)
 | 0,k,l,out,e=>by
  rw [length_eq_zero_iff.mp e,append_nil];exact .refl _
 | n+1,k,l,out,e=>by
  have hi:f k % l.length<l.length:=mod_lt _ (by omega);rw [pickOrder.go,getElem?_eq_getElem hi];dsimp only;refine (pY f n (k+1) _ _ (by rw [length_eraseIdx_of_lt hi];omega)).trans ?_;rw [Array.toList_push,append_assoc];exact (fZ hi).append_left _
theorem pZ{α:Type}(f:Nat->Nat)(es:Array α):(pickOrder f es).toList.Perm es.toList:=pY f _ 0 _ #[] rfl
theorem Bl.uniq{xs:Array Nat}{j r q:Nat}(a:Bl xs j r)(b:Bl xs j q):r=q:=by
 rcases lt_trichotomy r q with l|e|l
 .have:=b.2.1 r l;have:=a.2.2 r (le_refl _) (lt_of_lt_of_le l b.1);omega
 .exact e
 .have:=a.2.1 q l;have:=b.2.2 q (le_refl _) (lt_of_lt_of_le l a.1);omega
def slt(xs:Array Nat):Nat->Nat
 | 0=>0
 | i+1=>xs.getD i 0+1
theorem mN{xs:Array Nat}{i d e:Nat}(h:i<xs.size):xs.getD i d=xs.getD i e:=by
 rw [Array.getD_eq_getD_getElem?,Array.getD_eq_getD_getElem?,Array.getElem?_eq_getElem h];rfl
theorem Ri.lt{xs:Array Nat}(h:Ri xs){i k d:Nat}(hik:i<k)(hk:k<xs.size):xs.getD i d<xs.getD k d:=by
 have l2:=pairwise_iff_getElem.mp h i k (by rw [Array.length_toList];omega) (by rw [Array.length_toList];omega) hik;rw [jA (getElem?_eq_getElem (show i<xs.toList.length by rw [Array.length_toList];omega)),jA (getElem?_eq_getElem (show k<xs.toList.length by rw [Array.length_toList];omega))];exact l2
theorem ky{xs:Array Nat}(h:Ri xs){i:Nat}(hi:i<=xs.size):SetTable.below xs (slt xs i)=i:=by
 refine (mK _ h).uniq ?_
 cases i with
 | zero=>exact⟨hi,(fun k hk=>absurd hk (not_lt_zero _)),fun k _ _=>zero_le _⟩
 | succ i =>
  refine⟨hi,fun k hk=>?_,fun k hk hl=>?_⟩
  .show xs.getD k _<xs.getD i 0+1;rw [mN (e:=0) (show k<xs.size by omega)];exact lt_succ_of_le (h.le (by omega) (by omega))
  .show xs.getD i 0+1<=_;rw [mN (d:=slt xs (i+1)) (e:=0) hl];exact h.lt (by omega) hl
section
variable {prog:Program}{w:World}{A:Around}{E:Value->Shared->Prop}{s:Shared}{a:Addr}
theorem kz{slot i ep:Nat}{es:Array (Int×Value)}{t:SetTable}{Q:Option (Value×Nat)->Shared->Prop}(hT:w.params.followText "set-order"=true)(ha:s.heap.get? a=some (jS es ep t))(hf:t.fits es.size=true)
  (h:Q ((pickOrder (w.params.setOrder a ep) es)[i]?.map fun e=>(e.2,slot)) s):wpAny (model prog w) A (setNext a slot i ep) Q E s:=by
 unfold setNext setsByText;refine wpAny_bind (wpAny_setState_of ha rfl hf ?_);dsimp only;refine wpAny_bind (wpAny_bind (wpAny_askSetting (wpAny_pure ?_)));show wpAny _ _ (if w.params.followText "set-order"=true then _ else _) _ _ s;rw [if_pos hT,if_neg (by simp)];unfold setWalk setsByText;refine wpAny_bind (wpAny_bind (wpAny_setState_of ha rfl hf ?_));dsimp only;refine wpAny_bind (wpAny_bind (wpAny_askSetting (wpAny_pure ?_)))
 show wpAny _ _ (if w.params.followText "set-order"=true then _ else _) _ _ s;rw [if_pos hT];exact wpAny_bind (wpAny_askSetting (wpAny_pure (wpAny_pure h)))
theorem mO{slot i ep:Nat}{es:Array (Int×Value)}{t:SetTable}{Q:Option (Value×Nat)->Shared->Prop}(hT:w.params.followText "set-order"=false)(hl:t.led=true)(hd:(!t.plain && decide (es.size > 1))=false)(ha:s.heap.get? a=some (jS es ep t))(hf:t.fits es.size=true)
  (h:Q (match es[SetTable.below t.place slot]?,t.place[SetTable.below t.place slot]? with|some (_,x),some j=>some (x,j+1)|_,_=>none) s):wpAny (model prog w) A (setNext a slot i ep) Q E s:=by
 unfold setNext setsByText;refine wpAny_bind (wpAny_setState_of ha rfl hf ?_);dsimp only;refine wpAny_bind (wpAny_bind (wpAny_askSetting (wpAny_pure ?_)));show wpAny _ _ (if w.params.followText "set-order"=true then _ else _) _ _ s;rw [if_neg (by rw [hT];exact Bool.false_ne_true)];show wpAny _ _ (if (!t.plain && decide (es.size > 1))=true then _ else _) _ _ s;rw [if_neg (by rw [hd];exact Bool.false_ne_true)]
 refine wpAny_bind ?_;show wpAny _ _ (if (!t.led && !es.isEmpty)=true then _ else _) _ _ s;rw [if_neg (by rw [hl];exact Bool.false_ne_true)];exact wpAny_pure (wpAny_pure h)
theorem jB{M:Model}{src:Source}{n:Nat}{Q:Nat->Shared->Prop}(hn:n≠0)(h:∀i d,i<n->Q i { s with drawn:=d }):wpAny M A (choose src n) Q E s :=
 fun _ _ _=>⟨hn,h _ _ (mod_lt _ (pos_of_ne_zero hn))⟩
theorem kA{α:Type}{M:Model}:∀(n:Nat) (xs:List α) (s:Shared) (Q:List α->Shared->Prop),xs.length=n->(∀ys d,ys.Perm xs->Q ys { s with drawn:=d })->wpAny M A (drawOrder n xs) Q E s
 | 0,xs,s,Q,e,h=>by
  rw [drawOrder];exact wpAny_pure (h [] s.drawn (by rw [length_eq_zero_iff.mp e]))
 | n+1,[],s,Q,e,h=>nomatch e
 | n+1,x::xs,s,Q,e,h=>by
  rw [drawOrder]
  .refine wpAny_bind (jB (by rw [e];exact succ_ne_zero _) fun i d hi=>?_);rw [getElem?_eq_getElem hi];dsimp only;refine wpAny_bind (kA n _ _ _ (by rw [length_eraseIdx_of_lt hi];omega) fun ys d' hp=>wpAny_pure ?_);exact h _ d' ((hp.cons _).trans (fZ hi))
  .exact fun h=>nomatch h
end
section
variable {prog:Program}{w:World}{A:Around}{E:Value->Shared->Prop}{s:Shared}{a I:Addr}
def vOf(e:Int×Value):Value:=e.2
def SSt(w:World)(I a:Addr)(es:Array (Int×Value))(ep:Nat)(t:SetTable)(x:Nat->Value)(T:Option (Addr×Array Value))(i:Nat)(s:Shared):Prop :=
 s.heap.get? I=some (itO (x i) i a es.size ep)/\s.heap.get? a=some (jS es ep t)/\∀p,T=some p->s.heap.get? p.1=some ⟨.type "tuple",none,.seq p.2 0,#[]⟩
theorem p4{A:Around}{x:Value}{i n ep:Nat}{Q:Value->Shared->Prop}(e:s.heap.get? I=some (itO x i a n ep))(h:Q (.ref I) s):wpAny (model prog w) A (pyIter (.ref I)) Q E s:=by
 refine wpAny_pyIter_slot (cT (h:=s.heap) e) SF.slot_iter (wpAny_call_entry SF.slot_iter (cT (h:=s.heap) e) SF.entry_iter ?_ (SF.args_iter _));show wpAny _ _ (ret (.ref I)) _ _ s;exact wpAny_pure ⟨_,rfl,"set_iterator",_,cT (h:=s.heap) e,SF.slot_next.lookup,h⟩
theorem qX{es:Array (Int×Value)}{ep:Nat}{t:SetTable}{sl:Nat->Nat}{vs:List Value}(hh:A.handled=none)(hne:a≠I)(hf:t.fits es.size=true)(hv:vs.length=es.size)
  (hx:∀i x,vs[i]?=some x->∀(s:Shared),s.heap.get? a=some (jS es ep t)->∀(A':Around) (E':Value->Shared->Prop) (Q':Option (Value×Nat)->Shared->Prop),Q' (some (x,sl (i+1))) s->wpAny (model prog w) A' (setNext a (sl i) i ep) Q' E' s)
  (he:∀(s:Shared),s.heap.get? a=some (jS es ep t)->∀(A':Around) (E':Value->Shared->Prop) (Q':Option (Value×Nat)->Shared->Prop),Q' none s->wpAny (model prog w) A' (setNext a (sl es.size) es.size ep) Q' E' s) :
  WalksS prog w A I [I,a] [I] (fun x y=>y=x) es.size (fun i v=>vs[i]?=some v) (SSt w I a es ep t (fun i=>rawInt (sl i)) none) where
 sub:=fun b hb=>by simp at hb;simp [hb]
 grefl:=fun _=>rfl
 gtrans:=fun _ _ _ h1 h2=>h2.trans h1
 frame:=fun i s h' tk st _ hk=>⟨hk I (by simp) _ st.1,hk a (by simp) _ st.2.1,fun p e=>nomatch e⟩
 item:=fun i s Q E hi st hQ=>by
  have e:vs[i]?=some vs[i]:=getElem?_eq_getElem (by omega);exact wj st.1 st.2.1 hf rfl hne (hx i _ e s st.2.1) fun h' h1 h2=>hQ _ _ e ⟨h1,(h2.2 a hne).trans st.2.1,fun p e=>nomatch e⟩ ⟨fun b o hb e=>(h2.2 b (fun z=>hb (by simp [z]))).trans e,rfl,rfl,rfl,le_refl _⟩
 done:=fun s Q E st hQ=>nH hh st.1 st.2.1 hf rfl (he s st.2.1) fun h' hk=>hQ _ ⟨fun b o hb e=>hk b o (fun z=>hb (by simp [z])) e,rfl,rfl,rfl,le_refl _⟩
 self:=fun i s Q E st h=>p4 st.1 h
theorem qY{es:Array (Int×Value)}{ep:Nat}{t:SetTable}{T:Addr}{ps:List Nat}(hh:A.handled=none)(hne:a≠I)(hT:T≠I)(hf:t.fits es.size=true)(hp:ps.length=es.size)(hl:∀p∈ps,p<es.size) :
  WalksS prog w A I [I,a,T] [I] (fun x y=>y=x) es.size (fun i v=>(ps.map fun p=>vOf (es.getD p (0,.none)))[i]?=some v) (SSt w I a es ep t (fun _=>.ref T) (some (T,(ps.map fun p:Nat=>rawInt p).toArray))) where
 sub:=fun b hb=>by simp at hb;simp [hb]
 grefl:=fun _=>rfl
 gtrans:=fun _ _ _ h1 h2=>h2.trans h1
 frame:=fun i s h' tk st _ hk=>⟨hk I (by simp) _ st.1,hk a (by simp) _ st.2.1,fun p e=>by cases e;exact hk T (by simp) _ (st.2.2 _ rfl)⟩
 item:=fun i s Q E hi st hQ=>by
  have hi':i<ps.length:=by omega
  have hq:ps[i]<es.size:=hl _ (getElem_mem hi')
  have e1:(ps.map fun p:Nat=>rawInt p).toArray[i]?=some (rawInt ps[i]):=by
   rw [getElem?_toArray,getElem?_map,getElem?_eq_getElem hi'];rfl
  have e2:es[ps[i]]?=some (es[ps[i]].1,es[ps[i]].2):=by rw [Array.getElem?_eq_getElem hq]
  refine wk st.1 st.2.1 hf rfl (st.2.2 _ rfl) rfl e1 e2 fun h' h1 h2=>hQ _ _ ?_ ⟨h1,(h2.2 a hne).trans st.2.1,fun p e=>by cases e;exact (h2.2 T hT).trans (st.2.2 _ rfl)⟩ ⟨fun b o hb e=>(h2.2 b (fun z=>hb (by simp [z]))).trans e,rfl,rfl,rfl,le_refl _⟩;rw [getElem?_map,getElem?_eq_getElem hi',Option.map_some,Array.getD_eq_getD_getElem?,e2];rfl
 done:=fun s Q E st hQ=>nI hh st.1 st.2.1 hf rfl (st.2.2 _ rfl) rfl (by rw [getElem?_toArray,getElem?_map,getElem?_eq_none (by omega)];rfl) fun h' hk=>hQ _ ⟨fun b o hb e=>hk b o (fun z=>hb (by simp [z])) e,rfl,rfl,rfl,le_refl _⟩
 self:=fun i s Q E st h=>p4 st.1 h
theorem tY{es:Array (Int×Value)}{ps:List Nat}(h:ps.Perm (List.range es.size)):(ps.map fun p=>vOf (es.getD p (0,.none))).Perm (es.toList.map vOf):=by
 refine (h.map _).trans (List.Perm.of_eq ?_);refine ext_getElem (by simp) fun i h1 h2=>?_;simp only [length_map,length_range] at h1;simp [Array.getD_eq_getD_getElem?,h1]
theorem qZ{es:Array (Int×Value)}{ep:Nat}{t:SetTable}{Q:Value->Shared->Prop}(hb:es.size<scanBound)(ha:s.heap.get? a=some (jS es ep t))(hf:t.fits es.size=true)(ht:Tb t)(hl:t.led=!w.params.followText "set-order")
  (hQ:∀(I:Addr) (h':Heap) (d:_) (vs:List Value) (fp:List Addr) (St:Nat->Shared->Prop),(∀b o,s.heap.get? b=some o->h'.get? b=some o)->s.heap.objs.size<=h'.objs.size->vs.Perm (es.toList.map vOf) ->
   (∀A':Around,A'.handled=none->WalksS prog w A' I fp [I] (fun x y=>y=x) es.size (fun i v=>vs[i]?=some v) St)->St 0 { s with heap:=h',drawn:=d }->(∀b∈fp,b<h'.objs.size)->(∀b∈fp,b=a\/s.heap.objs.size<=b)->s.heap.objs.size<=I->Q (.ref I) { s with heap:=h',drawn:=d }) :
  wpAny (model prog w) A (pyIter (.ref a)) Q E s:=by
 have hlt:a<s.heap.objs.size:=Heap.lt_size ha;have hty:s.TypeIs (.ref a) "set":=⟨_,ha,rfl⟩
 refine wpAny_pyIter_slot hty F.slot_set_iter (wpAny_call_entry F.slot_set_iter hty SF.entry_set_iter ?_ (F.args_set_iter_1 _));unfold Builtin.«frozenset.__iter__» Builtin.Frozenset.slot0 Builtin.Frozenset.sizeOf;show wpAny _ _ (setEntries a >>= _ >>= _) _ _ s;refine wpAny_bind (wpAny_bind (wpAny_setEntries_of ha rfl hf (wpAny_pure ?_)));show wpAny _ _ (setDrawn a >>= _) _ _ s;unfold setDrawn setsByText
 refine wpAny_bind (wpAny_bind (wpAny_setState_of ha rfl hf ?_));dsimp only;refine wpAny_bind (wpAny_bind (wpAny_askSetting (wpAny_pure (wpAny_pure ?_))));show wpAny _ _ (if (!w.params.followText "set-order" && (!t.plain && decide (es.size > 1)))=true then _ else _) _ _ s
 have fin:∀(x:Value) (s₁:Shared),s₁.heap.get? a=some (jS es ep t)->Q (.ref s₁.heap.objs.size) { s₁ with heap:=s₁.heap.push (itO x 0 a es.size ep) } ->
   wpAny (model prog w) A.in1 (do ret (<- newFields "set_iterator" [x,rawInt 0,.ref a,rawInt es.size,rawInt (<- setEpoch a)])) (fun r s'=>∃v,r=Fin.done (Flow.ret v)/\∃T' r',s'.TypeIs v T'/\typeLookup (.type T') (Str.ofString "__next__")=pure (some r')/\Q v s') E s₁:=fun x s₁ h1 h2=>by
  refine wpAny_bind (wpAny_setEpoch_of h1 rfl hf ?_);exact wpAny_bind (wpAny_newObj_type (wpAny_pure ⟨_,rfl,"set_iterator",_,⟨_,Heap.get?_push_size _ rfl,rfl⟩,SF.slot_next.lookup,h2⟩))
 have plainCase:∀(vs:List Value) (sl:Nat->Nat),sl 0=0->vs.Perm (es.toList.map vOf) ->
   (∀i x,vs[i]?=some x->∀(s:Shared),s.heap.get? a=some (jS es ep t)->∀(A':Around) (E':Value->Shared->Prop) (Q':Option (Value×Nat)->Shared->Prop),Q' (some (x,sl (i+1))) s->wpAny (model prog w) A' (setNext a (sl i) i ep) Q' E' s) ->
   (∀(s:Shared),s.heap.get? a=some (jS es ep t)->∀(A':Around) (E':Value->Shared->Prop) (Q':Option (Value×Nat)->Shared->Prop),Q' none s->wpAny (model prog w) A' (setNext a (sl es.size) es.size ep) Q' E' s) ->
   Q (.ref s.heap.objs.size) { s with heap:=s.heap.push (itO (rawInt 0) 0 a es.size ep) }:=fun vs sl s0 hp hx he=>by
  refine hQ _ _ s.drawn vs [s.heap.objs.size,a] _ (fun b o e=>Heap.get?_push_of_some _ e) (by rw [Heap.size_push];exact le_succ _) hp
   (fun A' hh=>qX hh (Nat.ne_of_lt hlt) hf (by have:=hp.length_eq;rw [length_map,Array.length_toList] at this;exact this) hx he) ⟨?_,Heap.get?_push_of_some _ ha,fun p e=>nomatch e⟩ (fun b hb=>?_) (fun b hb=>?_) (le_refl _)
  .show (s.heap.push _).get? _=some (itO (rawInt (sl 0)) 0 a es.size ep);rw [s0];exact Heap.get?_push_size _ rfl
  .rw [Heap.size_push]
   rcases mem_cons.mp hb with rfl|hb
   .exact lt_succ_self _
   .rw [mem_singleton.mp hb];exact lt_succ_of_lt hlt
  .rcases mem_cons.mp hb with rfl|hb
   .exact .inr (le_refl _)
   .exact .inl (mem_singleton.mp hb)
 cases hT:w.params.followText "set-order" with
 | true =>
  refine wpAny_bind (wpAny_pure (fin _ s ha ?_));have hp:=pZ (w.params.setOrder a ep) es;have hz:(pickOrder (w.params.setOrder a ep) es).size=es.size:=by have:=hp.length_eq;rw [Array.length_toList,Array.length_toList] at this;exact this
  refine plainCase ((pickOrder (w.params.setOrder a ep) es).toList.map vOf) (fun _=>0) rfl (hp.map vOf) (fun i x e s ha' A' E' Q' q=>kz hT ha' hf ?_) fun s ha' A' E' Q' q=>kz hT ha' hf ?_
  .rw [getElem?_map,Array.getElem?_toList] at e;obtain⟨y,e1,rfl⟩:=Option.map_eq_some_iff.mp e;rw [e1];exact q
  .rw [Array.getElem?_eq_none (by omega)];exact q
 | false =>
  rw [hT] at hl
  cases hd:(!t.plain && decide (es.size > 1)) with
  | false =>
   refine wpAny_bind (wpAny_pure (fin _ s ha ?_))
   have hz:t.place.size=es.size:=by
    have:=hf;unfold SetTable.fits at this;rw [and_eq_true] at this;exact beq_iff_eq.mp this.1
   refine plainCase (es.toList.map vOf) (slt t.place) rfl (.refl _) (fun i x e s ha' A' E' Q' q=>mO hT hl hd ha' hf ?_) fun s ha' A' E' Q' q=>mO hT hl hd ha' hf ?_
   .rw [getElem?_map,Array.getElem?_toList] at e;obtain⟨y,e1,rfl⟩:=Option.map_eq_some_iff.mp e;have hi:i<es.size:=(Array.getElem?_eq_some_iff.mp e1).1;rw [ky ht.ri (by omega),e1,Array.getElem?_eq_getElem (show i<t.place.size by omega)]
    have:slt t.place (i+1)=t.place[i]+1:=by
     show t.place.getD i 0+1=_;rw [Array.getD_eq_getD_getElem?,Array.getElem?_eq_getElem (show i<t.place.size by omega)];rfl
    rw [this] at q;exact q
   .rw [ky ht.ri (by omega),Array.getElem?_eq_none (by omega)];exact q
  | true =>
   refine wpAny_bind (kA _ _ _ _ (length_range) fun ps d hp=>?_);have hpl:ps.length=es.size:=by rw [hp.length_eq,length_range]
   unfold newTuple;refine wpAny_bind (wpAny_newObj_type ?_ (show (ps.map fun p:Nat=>rawInt p).toArray.size<=sizeLine by rw [size_toArray,length_map,hpl];exact fits_of_scanBound hb));have hg:(s.heap.push ⟨.type "tuple",none,.seq (ps.map fun p:Nat=>rawInt p).toArray 0,#[]⟩).get? s.heap.objs.size=some ⟨.type "tuple",none,.seq (ps.map fun p:Nat=>rawInt p).toArray 0,#[]⟩:=Heap.get?_push_size _ rfl;refine fin (.ref s.heap.objs.size) { s with heap:=s.heap.push ⟨.type "tuple",none,.seq (ps.map fun p:Nat=>rawInt p).toArray 0,#[]⟩,drawn:=d } (Heap.get?_push_of_some _ ha) ?_
   have hs1:(s.heap.push ⟨.type "tuple",none,.seq (ps.map fun p:Nat=>rawInt p).toArray 0,#[]⟩).objs.size=s.heap.objs.size+1:=Heap.size_push ..
   refine hQ _ _ d _ [_,a,s.heap.objs.size] _ (fun b o e=>Heap.get?_push_of_some _ (Heap.get?_push_of_some _ e)) ?_ (tY hp)
    (fun A' hh=>qY hh ?_ ?_ hf hpl fun p hp'=>mem_range.mp (hp.mem_iff.mp hp')) ⟨Heap.get?_push_size _ rfl,Heap.get?_push_of_some _ (Heap.get?_push_of_some _ ha),fun p e=>by cases e;exact Heap.get?_push_of_some _ hg⟩ (fun b hb=>?_) (fun b hb=>?_) (by rw [hs1];exact le_succ _)
   .rw [Heap.size_push,hs1];exact le_succ_of_le (le_succ _)
   .rw [hs1];exact Nat.ne_of_lt (lt_succ_of_lt hlt)
   .rw [hs1];exact Nat.ne_of_lt (lt_succ_self _)
   .rw [Heap.size_push,hs1]
    rcases mem_cons.mp hb with rfl|hb
    .rw [hs1];exact lt_succ_self _
    .rcases mem_cons.mp hb with rfl|hb
     .exact lt_succ_of_lt (lt_succ_of_lt hlt)
     .rw [mem_singleton.mp hb];exact lt_succ_of_lt (lt_succ_self _)
   .rcases mem_cons.mp hb with rfl|hb
    .rw [hs1];exact .inr (le_succ _)
    .rcases mem_cons.mp hb with rfl|hb
     .exact .inl rfl
     .rw [mem_singleton.mp hb];exact .inr (le_refl _)
def xM:Value->Int
 | .int k _=>k
 | _=>0
theorem kB:∀(vs:List Value),(∀v∈vs,∃k u,v=.int k u)->IntsAre vs (vs.map xM)
 | [],_=>.nil
 | v::vs,h=>by
  obtain⟨k,u,rfl⟩:=h v mem_cons_self;exact .cons k u (kB vs fun v hv=>h v (mem_cons_of_mem _ hv))
theorem lL{ns:List Int}{Q:List Value->Shared->Prop}(hh:A.handled=none)(hS:iD prog w s.heap a ns)(hb:ns.length<scanBound)
  (hQ:∀(s':Shared) (vs:List Value) (ms:List Int),(∀b o,s.heap.get? b=some o->s'.heap.get? b=some o)->s.heap.objs.size<=s'.heap.objs.size->s'.gens=s.gens->s'.os=s.os->s.toks<=s'.toks->IntsAre vs ms->ms.Perm ns->Q vs s') :
  wpAny (model prog w) A (collect (.ref a)) Q E s:=by
 obtain⟨es,ep,t,ho,he,hp,hf,ht,hl⟩:=hS;have hz:=iD.len (h:=s.heap) hp;have hlt:a<s.heap.objs.size:=Heap.lt_size ho;unfold collect;refine wpAny_bind (wpAny_runValue (codeAny_builtin F.entry_proto_collect ?_));rw [Around.under_plainId F.plain_proto_collect _];show wpAny _ A.in1 (newList [] >>= fun l=>again (.builtin "list.__iadd__" ⟨[l,.ref a],[]⟩)) _ _ s;refine wpAny_bind (wpAny_newObj_type ?_);refine wpAny_pure ⟨plainId_quiet F.plain_list_iadd _,codeAny_builtin F.entry_list_iadd ?_⟩
 rw [Around.under_plainId F.plain_list_iadd _];have hS1:(s.heap.push { cls:=.type "list",data:=.seq ([]:List Value).toArray }).get? s.heap.objs.size=some { cls:=.type "list",data:=.seq ([]:List Value).toArray }:=Heap.get?_push_size _ rfl;have ho1:=Heap.get?_push_of_some { cls:=.type "list",data:=.seq ([]:List Value).toArray } ho;have hsr:Builtin.List.listSameRef (.ref s.heap.objs.size) (.ref a)=false:=by simp [Builtin.List.listSameRef,ne_of_gt hlt]
 show wpAny _ A.in1 (Builtin.List.listExtendWith (.ref s.heap.objs.size) (.ref a) (.ref s.heap.objs.size)) _ _ _;unfold Builtin.List.listExtendWith;have hty:Shared.TypeIs { s with heap:=s.heap.push { cls:=.type "list",data:=.seq ([]:List Value).toArray } } (.ref a) "set":=⟨_,ho1,rfl⟩
 refine wpAny_bind (wpAny_typeOf hty ?_);rw [if_neg (by rw [hsr];decide)];refine wpAny_bind (qZ (by omega) ho1 hf ht hl fun I h' d vs fp St k1 k2 k3 W st f1 f2 f3=>?_);have hty2:Shared.TypeIs { s with heap:=h',drawn:=d } (.ref a) "set":=⟨_,k1 _ _ ho1,rfl⟩
 refine wpAny_bind (wpAny_holding ?_);unfold Builtin.List.listLengthHint;refine wpAny_bind (wpAny_specialOf hty2 F.slot_set_len.lookup ?_);generalize hid:("set.__len__":String)=id0;dsimp only;rw [show splitId id0=some ("set","__len__") from by subst hid;decide +kernel];subst hid;dsimp only;refine wpAny_bind (wpAny_isInstance (b:=true) hty2 sub_set_self ?_);rw [if_neg (by decide),if_pos (by decide +kernel)]
 refine wpAny_bind (wpAny_typeOf hty2 ?_);refine wpAny_pure ?_;rw [if_pos (by decide +kernel)];refine wpAny_bind (wpAny_rule ?_);unfold Builtin.List.listTouch;have hL0:h'.get? s.heap.objs.size=some { cls:=.type "list",data:=.seq ([]:List Value).toArray }:=k1 _ _ hS1;refine wpAny_bind (wpAny_bind (listUpdate_at hL0 rfl ?_ (zero_le _) (by show 1<=sizeLine+1;omega)));have hL1:(h'.update s.heap.objs.size (Obj.mapSeq fun x=>x.push Value.none)).get? s.heap.objs.size=some { cls:=.type "list",data:=.seq #[Value.none] 1 }:=Heap.get?_update_self _ hL0 rfl
 refine listUpdate_at hL1 rfl ?_ (by show 1<=sizeLine;decide) (zero_le _);have hL2:((h'.update s.heap.objs.size (Obj.mapSeq fun x=>x.push Value.none)).update s.heap.objs.size (Obj.mapSeq fun x=>x.pop)).get? s.heap.objs.size=some { cls:=.type "list",data:=.seq #[] 2 }:=Heap.get?_update_self _ hL1 rfl
 have nfp:s.heap.objs.size∉fp:=fun hm=>by
  rcases f2 _ hm with e|e
  .exact absurd e (ne_of_gt hlt)
  .rw [Heap.size_push] at e;exact absurd e (not_succ_le_self _)
 have hh2:A.in1.handled=none:=hh;have st2:=(W A.in1 hh2).frame 0 _ ((h'.update s.heap.objs.size (Obj.mapSeq fun x=>x.push Value.none)).update s.heap.objs.size (Obj.mapSeq fun x=>x.pop)) s.toks st (le_refl _) fun b hb o e=>(Heap.get?_update_other _ _ (fun z:s.heap.objs.size=b=>nfp (z ▸ hb))).trans ((Heap.get?_update_other _ _ (fun z:s.heap.objs.size=b=>nfp (z ▸ hb))).trans e);refine wpAny_pure ⟨plainId_quiet F.plain_extend_loop _,codeAny_extend_loopS (W A.in1 hh2) (fits_of_scanBound (by omega)) _ nfp _ es.size 0 _ _ _ (by omega) (zero_le _) st2 hL2 (ItemsOf.nil _) fun s' acc' c' hm hS' hacc=>?_⟩
 show wpAny _ A (load s.heap.objs.size >>= _) _ _ s';refine wpAny_bind (wpAny_load hS' (wpAny_pure ?_))
 have old:∀b o,s.heap.get? b=some o->s'.heap.get? b=some o:=fun b o e=>by
  have hbs:b<s.heap.objs.size:=Heap.lt_size e
  have hbI:b≠I:=fun z=>by
   rw [Heap.size_push,<- z] at f3;exact absurd (lt_of_succ_le f3) (not_lt_of_lt hbs)
  refine hm.heap b o (by rw [mem_cons,mem_singleton,not_or];exact⟨Nat.ne_of_lt hbs,hbI⟩) ?_;exact (Heap.get?_update_other _ _ (ne_of_gt hbs)).trans ((Heap.get?_update_other _ _ (ne_of_gt hbs)).trans (k1 _ _ (Heap.get?_push_of_some _ e)))
 have hvl:vs.length=es.size:=by have:=k3.length_eq;rw [length_map,Array.length_toList] at this;exact this
 have ea:acc'.toList=vs:=by
  refine ext_getElem? fun j=>?_
  by_cases hj:j<es.size
  .have hj2:j<acc'.size:=by rw [hacc.1];exact hj
   have e1:acc'[j]?=some acc'[j]:=Array.getElem?_eq_getElem hj2;rw [Array.getElem?_toList,e1,hacc.2 j _ e1]
  .rw [getElem?_eq_none (by rw [Array.length_toList,hacc.1];omega),getElem?_eq_none (by omega)]
 rw [ea]
 have allI:∀v∈vs,∃k u,v=.int k u:=fun v hv=>by
  obtain⟨e,hm,rfl⟩:=mem_map.mp (k3.mem_iff.mp hv);obtain⟨k,hk,_⟩:=(he e hm).1;exact⟨k,Value.isInt_shape hk⟩
 exact hQ s' vs (vs.map xM) old (le_of_lt (Heap.lt_size hS')) hm.gens hm.os hm.toks (kB vs allI) ((k3.map xM).trans (by rw [map_map];exact hp))
theorem jC{ns:List Int}{Q:Value->Shared->Prop}(hh:A.handled=none)(hS:iD prog w s.heap a ns)(h64:ns.length<64)
  (h:∀(s':Shared) (q:Addr) (out:Array Value) (ns':List Int) (e:Nat),(∀b o,s.heap.get? b=some o->s'.heap.get? b=some o)->s.heap.objs.size<=q->s'.heap.get? q=some (seqObj "list" out e)->s'.gens=s.gens->s'.os=s.os->s.toks<=s'.toks->IntsAre out.toList ns'->ns'.Perm ns->ns'.Pairwise (·<=·)->Q (.ref q) s') :
  wpAny (model prog w) A (call (.builtin "sorted") [.ref a]) Q E s:=by
 refine Calls.call_function_entry kind_sorted plain_sorted entry_sorted (args_sorted1 _) ?_;unfold Builtin.«sorted»;refine wpAny_bind (m:=checkCount "sorted" 1 1 _) (wpAny_pure ?_);refine wpAny_bind (lL (by first|exact hh|simp [hh]) hS (by unfold scanBound;omega) fun s' vs ms k1 k2 k3 k4 k5 hi hp=>?_);have hvl:vs.length=ns.length:=by rw [IntsAre.length hi,hp.length_eq]
 refine wpAny_bind (wpAny_newList ?_ (by rw [hvl,sizeLine_eq];omega));have hoL:(s'.heap.push (seqObj "list" vs.toArray 0)).get? s'.heap.objs.size=some (seqObj "list" vs.toArray 0):=Heap.get?_push_size _ rfl;show wpAny _ _ _ _ _ { s' with heap:=s'.heap.push (seqObj "list" vs.toArray 0) };generalize hq:s'.heap.objs.size=q at *;generalize hg:s'.heap.push (seqObj "list" vs.toArray 0)=g at *;refine wpAny_bind (wpAny_holding (wpAny_call_entry slot_list_sort ⟨_,hoL,rfl⟩ entry_list_sort (list_sort_tree hoL hi (by omega) fun out ns' a1 a2 a3=>⟨_,rfl,?_⟩) (args_list_sort _)))
 obtain⟨e,he⟩:=sortedHeap_at (out:=out) hoL;refine wpAny_pure ⟨_,rfl,h { s' with heap:=sortedHeap g q vs out } q out ns' e (fun b o eb=>?_) k2 he k3 k4 k5 a1 (a2.trans hp) a3⟩;have hb:=k1 b o eb;have hlt:b<q:=hq ▸ Heap.lt_size hb;have hg2:g.objs.size=q+1:=by rw [<- hg,Heap.size_push,hq]
 have hgb:g.get? b=some o:=by rw [<- hg];exact Heap.get?_push_of_some _ hb
 exact (sortedHeap_old (Nat.ne_of_lt hlt) (by rw [hg2];exact lt_succ_of_lt hlt)).trans hgb
end
section
variable {X:Cx}{K:PySem.W.Frag}{pins:List (Addr×Obj)}{σ:St}{H:Hp}{s:Shared}
theorem Inv.drew(I:Inv X pins σ H s)(d:Drawn):Inv X pins σ H { s with drawn:=d }:=⟨I.ok,I.os,I.bare,I.base,I.loc,I.cell,I.free,I.freeC,I.pin,I.hok,I.len⟩
theorem q0:bootBuiltins "set"=some (.type "set"):=by decide +kernel
def rQ(K:PySem.W.Frag):List V->Hp->VK->Prop:=fun xs H Q=>∃(p:Addr) (ns:List Int),xs=[.ref p]/\SqT K H p (ns.map V.int)/\ns.Nodup/\ns.length<64/\∀ns':List Int,ns'.Perm ns->ns'.Pairwise (·<=·)->∀q,H q=none->Q (.ref q) (upd H q (.lst (ns'.map V.int)))
variable {e:Expr}{t:TA}{p p':Pos}{pos pos':Pos}
theorem rc(K:PySem.W.Frag)(eK:X.K=K)(hc:X.calm=true)(hg:Gl X "sorted")(hm:X.mg "sorted"=none)(hg2:Gl X "set")(hm2:X.mg "set"=none)(ha:PA X [e] t)(hn:nSt e=true:=by rfl) :
  PE X (.Call (.Name "sorted" p) [.Call (.Name "set" p') [e] [] pos'] [] pos) (tCB (rQ K) t):=by
 subst eK;intro pins s σ H Q I h;refine wpAny_Call_Name_kw (c5 I hg hm boot_sorted ?_ (by decide) (by decide));refine PyProof.Rows.callWith_builtin1 ?_ rfl rfl;refine Calls.spliced_cons ?_;refine wpAny_Call_Name_kw (c5 I hg2 hm2 q0 ?_ (by decide) (by decide));refine PyProof.Rows.callWith_type1 (thn (ha pos' pins s σ H _ I h) fun us s1 ⟨vs,H1,I1,r1,q1⟩=>?_) (e9 hn) rfl;obtain⟨a,ns,rfl,hS,hd,hl,q⟩:=q1
 obtain⟨u,rfl,ru⟩:=lh r1;cases (show u=Value.ref a from ru);obtain⟨its,rv,pl,hz⟩:=I1.tuple hS;have hi:=ng rv;refine kx (I1.ok.hd hc) pl hi hd (by unfold scanBound;omega) fun h2 tk hS2 k2 _=>?_;refine Calls.spliced_nil ?_;refine jC (I1.ok.hd hc) hS2 hl fun s3 r out ns' ep k3 hr hr2 hg3 ho3 _ hi3 hp3 hs3=>?_;obtain⟨h3,g3,d3,t3,os3⟩:=s3;cases (show g3=s1.gens from hg3);cases (show os3=s1.os from ho3);have old:∀b u,s1.heap.get? b=some u->h3.get? b=some u:=fun b u e=>k3 b u (k2 b u (Heap.lt_size e) e)
 have hge:s1.heap.objs.size<=r:=by
  obtain⟨es,ep,tt,hx,_⟩:=hS2;exact le_trans (le_of_lt (Heap.lt_size hx)) hr
 refine⟨.ref r,_,(I1.laid (t':=t3) (o:=.lst (ns'.map V.int)) old hge ⟨?_,out.toList,ep,gW hi3,hr2⟩).drew d3,rfl,q ns' hp3 hs3 _ (I1.hok.fresh hge)⟩;rw [length_map,hp3.length_eq];exact sz _ (by omega)
def p5:FN
 | [.tup ds],Q=>∃ns:List Int,ds=ns.map .int/\ns.Nodup/\ns.length<64/\∀ns':List Int,ns'.Perm ns->ns'.Pairwise (·<=·)->Q (.own (ns'.map .int))
 | _,_=>False
theorem rd:LC K (rQ K) p5:=by
 intro O H xs as Q Q' dom fs q k;unfold p5 at q
 split at q
 .obtain⟨ns,rfl,hd,h0,q⟩:=q
  cases fs with
  | cons a b =>
   cases b;obtain⟨p,ys,rfl,_,e1,f1⟩:=a.tup;rw [f1.ints] at e1;exact⟨p,ns,rfl,SqT.of e1,hd,h0,fun ns' h1 h2 p' hp'=>k _ _ _ (q ns' h1 h2) (Gr.new hp') (dz hp' (FVs.of_ints _))⟩
 .exact q.elim
end
end L2
namespace K64
open PySem PySem.Spec PyProof.Rows L2
def top(i:Nat):Stmt:=PySem.Challenge.pw_shortglue_k64_whole_reads_stand.main.body.getD i (.Pass ⟨0,0,0,0⟩)
abbrev dM:Stmt:=top 9
abbrev dA:Stmt:=top 11
abbrev dU:Stmt:=top 13
abbrev eE:Stmt:=top 14
abbrev f7:Stmt:=top 15
abbrev fb:Stmt:=top 16
abbrev fc:Stmt:=top 18
abbrev f8:Stmt:=top 19
abbrev f9:Stmt:=top 20
abbrev dW:Stmt:=top 21
abbrev fe:Stmt:=top 22
abbrev ff:Stmt:=top 23
abbrev fg:Stmt:=top 24
abbrev fh:Stmt:=top 25
abbrev gg:Stmt:=top 26
abbrev gh:Stmt:=top 27
abbrev eF:Stmt:=top 28
abbrev cC:Stmt:=top 29
abbrev eG:Stmt:=top 30
abbrev re:Stmt:=top 31
theorem nJ:ba ["thing","least","most"] ["thing","least","most"] (aq dM):=⟨rfl,rfl,rfl,by decide +kernel,rfl,by decide +kernel,by decide +kernel⟩
theorem cU:ba ["things","at","thing"] ["things"] (aq dA):=⟨rfl,rfl,rfl,by decide +kernel,rfl,by decide +kernel,by decide +kernel⟩
theorem iE:ba ["one","other"] ["one","other"] (aq dU):=⟨rfl,rfl,rfl,by decide +kernel,rfl,by decide +kernel,by decide +kernel⟩
theorem jD:ba ["one","other"] ["one","other"] (aq eE):=⟨rfl,rfl,rfl,by decide +kernel,rfl,by decide +kernel,by decide +kernel⟩
theorem h9:ba ["one","other","most","k"] ["one","other","most"] (aq f7):=⟨rfl,rfl,rfl,by decide +kernel,rfl,by decide +kernel,by decide +kernel⟩
theorem bK:ba ["reads","most","text","starts","before","read","start","slips"] ["reads","most"] (aq fb):=⟨rfl,rfl,rfl,by decide +kernel,rfl,by decide +kernel,by decide +kernel⟩
theorem bT:ba ["_law_cell","_law_k","_law_number"] ["_law_cell","_law_k"] (aq fc):=⟨rfl,rfl,rfl,by decide +kernel,rfl,by decide +kernel,by decide +kernel⟩
theorem bN:ba ["_law_script","_law_many","_law_cells","_law_found","_law_turn","_law_cell","_law_rest"] ["_law_script","_law_many"] (aq f8):=⟨rfl,rfl,rfl,by decide +kernel,rfl,by decide +kernel,by decide +kernel⟩
theorem lM:ba ["_law_deck_here"] ["_law_deck_here"] (aq f9):=⟨rfl,rfl,rfl,by decide +kernel,rfl,by decide +kernel,by decide +kernel⟩
theorem cD:ba ["_law_deck_here","_law_many","_law_first","_law_step"] ["_law_deck_here"] (aq dW):=⟨rfl,rfl,rfl,by decide +kernel,rfl,by decide +kernel,by decide +kernel⟩
theorem df:ba ["_law_deck_here","_law_letters_here","_law_many","_law_found","_law_k"] ["_law_deck_here","_law_letters_here","_law_many"] (aq fe):=⟨rfl,rfl,rfl,by decide +kernel,rfl,by decide +kernel,by decide +kernel⟩
theorem kC:ba ["_law_found"] ["_law_found"] (aq ff):=⟨rfl,rfl,rfl,by decide +kernel,rfl,by decide +kernel,by decide +kernel⟩
theorem eH:ba ["_law_one","_law_other","_law_found","_law_at"] ["_law_one","_law_other"] (aq fg):=⟨rfl,rfl,rfl,by decide +kernel,rfl,by decide +kernel,by decide +kernel⟩
theorem aH:ba ["_law_deck_here","_law_letters_here","_law_base","_law_found","_law_k","_law_begin","_law_read","_law_sort","_law_at","_law_sign"] ["_law_deck_here"] (aq fh):=⟨rfl,rfl,rfl,by decide +kernel,rfl,by decide +kernel,by decide +kernel⟩
theorem lN:ba ["_law_start","_law_read","_law_place"] ["_law_start","_law_read","_law_place"] (aq gg):=⟨rfl,rfl,rfl,by decide +kernel,rfl,by decide +kernel,by decide +kernel⟩
theorem lO:ba ["_law_reads_here","_law_starts","_law_place"] ["_law_reads_here","_law_starts","_law_place"] (aq gh):=⟨rfl,rfl,rfl,by decide +kernel,rfl,by decide +kernel,by decide +kernel⟩
theorem dX:ba ["_law_reads_here","_law_starts","_law_text","_law_at","_law_end"] ["_law_reads_here","_law_starts","_law_text"] (aq eF):=⟨rfl,rfl,rfl,by decide +kernel,rfl,by decide +kernel,by decide +kernel⟩
theorem aP:ba ["_law_reads_here","_law_starts","_law_slips_here","_law_text","_law_place","_law_over_here","_law_last","_law_at","_law_inside","_law_is_slip"] ["_law_reads_here","_law_starts","_law_slips_here","_law_text"] (aq cC):=⟨rfl,rfl,rfl,by decide +kernel,rfl,by decide +kernel,by decide +kernel⟩
theorem cq:ba ["_law_reads_here","_law_starts","_law_most","_law_at","_law_one","_law_k","_law_more"] ["_law_reads_here","_law_starts","_law_most"] (aq eG):=⟨rfl,rfl,rfl,by decide +kernel,rfl,by decide +kernel,by decide +kernel⟩
theorem fB:ba ["_law_script","_law_deck_here","_law_reads_here","_law_most","_law_text","_law_starts","_law_slips_here","_law_row","_law_at"] ["_law_script"] (aq re):=⟨rfl,rfl,rfl,by decide +kernel,rfl,by decide +kernel,by decide +kernel⟩
structure Txt (mg:Str->Option Value):Prop where
 b_all:mg "all"=none
 b_bool:mg "bool"=none
 b_enumerate:mg "enumerate"=none
 b_int:mg "int"=none
 b_isinstance:mg "isinstance"=none
 b_len:mg "len"=none
 b_list:mg "list"=none
 b_min:mg "min"=none
 b_range:mg "range"=none
 b_reversed:mg "reversed"=none
 b_set:mg "set"=none
 b_sorted:mg "sorted"=none
 b_str:mg "str"=none
 b_tuple:mg "tuple"=none
 b_zip:mg "zip"=none
 g_MOST_PIECES:∃t,mg "MOST_PIECES"=some (.int 40 t)
 g_MOST_SIGNS:∃t,mg "MOST_SIGNS"=some (.int 60 t)
local macro_rules | `(tactic| walk_at "s")=>`(tactic| first | (with_reducible omega) | (with_reducible assumption) | (with_reducible rfl) | exact le_of_ble_eq_true rfl | (simp only [length_cons,length_nil,length_append,length_map];(with_reducible omega)) | assumption | rfl | (refine ⟨?_,?_⟩ <;> first | (with_reducible omega) | (with_reducible assumption) | (with_reducible rfl) | exact le_of_ble_eq_true rfl | assumption | rfl | (refine ⟨?_,?_⟩ <;> first | (with_reducible omega) | (with_reducible assumption) | (with_reducible rfl) | exact le_of_ble_eq_true rfl | assumption | rfl | (refine ⟨?_,?_⟩ <;> first | (with_reducible omega) | (with_reducible assumption) | (with_reducible rfl) | exact le_of_ble_eq_true rfl | assumption | rfl | fail) | fail) | fail) | omega | fail)
local macro_rules | `(tactic| walk_at "r")=>`(tactic| ((try dsimp only [set_cons_zero,set_cons_succ,pI,pJ,pK,vW,vX,kt,iV,iW,mF,mG,tail_cons,ku,kv,mH,pR,pS,rO]);(conv=>whnf);(repeat (first | ((with_reducible refine And.intro ?_ ?_);(next=>walk_at "s");(conv=>whnf)) | ((with_reducible refine (show Exists _ from ?_));(first | (refine ⟨_,rfl,?_⟩) | (refine ⟨_,qP.lst _,?_⟩) | (refine ⟨_,qP.tup _,?_⟩));(conv=>whnf)) | ((refine (show gj _ _ _ from ?_));(first | (with_reducible refine yG (by assumption) ?_) | (with_reducible refine yH (by assumption) ?_) | (with_reducible refine xb (by assumption) ?_) | (with_reducible refine sU (by assumption) ?_) | ((with_reducible refine w9 ?_ ?_);(next=>(first | (with_reducible rfl) | (with_reducible assumption) | (with_reducible omega)))) | ((with_reducible refine xa ?_ ?_);(next=>(first | (with_reducible rfl) | (with_reducible assumption) | (with_reducible omega)))) | ((with_reducible refine vx ?_ ?_);(next=>(first | (with_reducible rfl) | (with_reducible assumption) | (with_reducible omega)))) | ((with_reducible refine vy ?_ ?_);(next=>(first | (with_reducible rfl) | (with_reducible assumption) | (with_reducible omega)))));(conv=>whnf))));(try refine (show gj _ _ _ from ?_));(try dsimp only [set_cons_zero,set_cons_succ,pI,pJ,pK,vW,vX,kt,iV,iW,mF,mG,tail_cons,ku,kv,mH,pR,pS,rO])))
def iZ:Nat:=3
def bY:FN
 | [d,.int a,.int b],Q=>d.sort=true/\xA d<=1000000/\Q (.dat (.bl (qK d a b)))
 | _,_=>False
def eI:Nat:=3
def aL:FN
 | [d],Q=>∃ws:List (List Nat),qP d (ws.map .str)/\(ws.length<=40/\Pcs 60 ws)/\Q (.dat .non)
 | _,_=>False
def eU:Nat:=2
def slN(a b:List Nat):List Nat:=(List.range (min a.length b.length)).filter fun k=>decide (a.getD k 0≠b.getD k 0)
theorem p6(a b:List Nat):(slN a b).length<=min a.length b.length:=by
 unfold slN;exact le_trans (length_filter_le _ _) (by rw [length_range];exact le_refl _)
def aA:FN
 | [.str a,.str b],Q=>(a.length<=10000/\b.length<=10000)/\Q (.dat (.tup ((slN a b).map nD)))
 | _,_=>False
def fC:Nat:=2
def aV:FN
 | [.str a,.str b],Q=>(a.length<=10000/\b.length<=10000)/\Q (.dat (.int ((slN a b).length:Nat)))
 | _,_=>False
def ia:Nat:=4
def slK(a b:List Nat)(k:Nat):Nat:=(slN (a.drop (a.length - k)) (b.take k)).length
theorem mP(a b:List Nat):slK a b 0=0:=by
 have:=p6 (a.drop (a.length - 0)) (b.take 0);rw [take_zero] at this;unfold slK;rw [take_zero];simp only [length_nil] at this;omega
def bx:FN
 | [.str a,.str b,.int m],Q=>(0<=m/\(0<a.length/\a.length<=10000)/\(0<b.length/\b.length<=10000))/\∀r:Nat,r<min a.length b.length->(slK a b r:Int)<=m->(∀k,r<k->k<min a.length b.length->m<(slK a b k:Int))->Q (.dat (.int (r:Int)))
 | _,_=>False
def gk:Nat:=8
def p7(a b:List Nat)(m:Int)(r:Nat):Prop:=r<min a.length b.length/\(slK a b r:Int)<=m/\∀k,r<k->k<min a.length b.length->m<(slK a b k:Int)
theorem p7.uniq{a b:List Nat}{m:Int}{r s:Nat}(x:p7 a b m r)(y:p7 a b m s):r=s:=by
 rcases lt_trichotomy r s with h|h|h
 .have:=x.2.2 s h y.1;have:=y.2.1;omega
 .exact h
 .have:=y.2.2 r h x.1;have:=x.2.1;omega
def slL(a b:List Nat)(m:Int):Nat:=open Classical in if h:∃r,p7 a b m r then Classical.choose h else 0
theorem kE{a b:List Nat}{m:Int}{r:Nat}(h:p7 a b m r):slL a b m=r:=by
 have h':∃r,p7 a b m r:=⟨r,h⟩
 unfold slL;rw [dif_pos h'];exact (Classical.choose_spec h').uniq h
theorem wl(a b:List Nat)(m:Int):slL a b m<=a.length:=by
 by_cases h:∃r,p7 a b m r
 .obtain⟨r,hr⟩:=h;rw [kE hr];have:=hr.1;omega
 .unfold slL;rw [dif_neg h];omega
def i5(m:Int):List (List Nat)->List Nat×List Nat
 | []=>([],[])
 | [r]=>(r,[0])
 | b::a::l=>let q:=i5 m (a::l);(q.1.take (q.1.length - slL a b m)++b,q.2++[q.1.length - slL a b m])
theorem dN(m:Int)(b a:List Nat)(l:List (List Nat)):i5 m (b::a::l)=((i5 m (a::l)).1.take ((i5 m (a::l)).1.length - slL a b m)++b,(i5 m (a::l)).2++[(i5 m (a::l)).1.length - slL a b m]):=rfl
theorem jE(m:Int):∀l:List (List Nat),(i5 m l).2.length=l.length
 | []=>rfl
 | [r]=>rfl
 | b::a::l=>by rw [dN,length_append,jE m (a::l)];rfl
theorem tZ(m:Int):∀(a:List Nat) (l:List (List Nat)),a.length<=(i5 m (a::l)).1.length
 | a,[]=>le_refl _
 | b,a::l=>by rw [dN,length_append];omega
theorem p8(m:Int):∀l:List (List Nat),Pcs 60 l->(i5 m l).1.length<=60*l.length
 | [],_=>zero_le _
 | [r],h=>by have:=(h r (mem_singleton.mpr rfl)).2.1;show r.length<=60*1;omega
 | b::a::l,h=>by
  have h1:=p8 m (a::l) fun w hw=>h w (mem_cons_of_mem _ hw);have h2:=(h b (mem_cons_self ..)).2.1;rw [dN,length_append,length_take,length_cons];omega
def cu(m:Int)(ws:List (List Nat)):List Nat:=(i5 m ws.reverse).1
def eJ(m:Int)(ws:List (List Nat)):List Nat:=(i5 m ws.reverse).2
theorem lP(m:Int)(pre:List (List Nat))(a b:List Nat):cu m (pre++[a]++[b])=(cu m (pre++[a])).take ((cu m (pre++[a])).length - slL a b m)++b/\eJ m (pre++[a]++[b])=eJ m (pre++[a])++[(cu m (pre++[a])).length - slL a b m]:=by
 unfold cu eJ;rw [reverse_append,reverse_append];show (i5 m (b::a::pre.reverse)).1=_/\(i5 m (b::a::pre.reverse)).2=_;rw [dN];exact⟨rfl,rfl⟩
theorem rR(m:Int)(pre:List (List Nat))(a b:List Nat):slL a b m<=(cu m (pre++[a])).length:=by
 unfold cu;rw [reverse_append];exact le_trans (wl a b m) (tZ m a _)
theorem mQ(m:Int){ws:List (List Nat)}(h:Pcs 60 ws):(cu m ws).length<=60*ws.length:=by
 have:=p8 m ws.reverse fun w hw=>h w (mem_reverse.mp hw)
 rwa [length_reverse] at this
theorem fE(m:Int)(ws:List (List Nat)):(eJ m ws).length=ws.length:=by unfold eJ;rw [jE,length_reverse]
theorem t0(m:Int)(a:List Nat):cu m [a]=a/\eJ m [a]=[0]:=⟨rfl,rfl⟩
def bz(m:Int)(ws:List (List Nat)):List (List Nat):=(ws.zip (eJ m ws)).map fun p=>slN p.1 (((cu m ws).drop p.2).take p.1.length)
def yQ(m:Int)(ws:List (List Nat)):D:=.tup [.str (cu m ws),.tup ((eJ m ws).map nD),.tup ((bz m ws).map fun l=>.tup (l.map nD))]
theorem t5(a b:List Nat)(m:Int):slL a b m<=b.length:=by
 by_cases h:∃r,p7 a b m r
 .obtain⟨r,hr⟩:=h;rw [kE hr];have:=hr.1;omega
 .unfold slL;rw [dif_neg h];omega
theorem mR(m:Int):∀l:List (List Nat),∀p∈l.reverse.zip (i5 m l).2,p.2+p.1.length<=(i5 m l).1.length
 | [],p,h=>nomatch h
 | [r],p,h=>by
  have h:p∈[(r,0)]:=h;rw [mem_singleton.mp h];show 0+r.length<=r.length;omega
 | b::a::l,p,h=>by
  have ih:=mR m (a::l);have x2:=t5 a b m;rw [dN] at h ⊢;rw [reverse_cons,zip_append (by rw [length_reverse,jE])] at h;show _<=((i5 m (a::l)).1.take ((i5 m (a::l)).1.length - slL a b m)++b).length;rw [length_append,length_take]
  rcases mem_append.mp h with h|h
  .have:=ih p h;omega
  .have h:p∈[(b,(i5 m (a::l)).1.length - slL a b m)]:=h;rw [mem_singleton.mp h];show (i5 m (a::l)).1.length - slL a b m+b.length<=_;omega
theorem t6(m:Int){ws:List (List Nat)}{p:List Nat×Nat}(h:p∈ws.zip (eJ m ws)):p.2+p.1.length<=(cu m ws).length:=by
 have:=mR m ws.reverse p;rw [reverse_reverse] at this;exact this h
def bj:FN
 | [d,.int m],Q=>∃ws:List (List Nat),qP d (ws.map .str)/\(0<ws.length/\ws.length<=40/\Pcs 60 ws)/\0<=m/\Q (.dat (yQ m ws))
 | _,_=>False
def gm:Nat:=3
def Dk(zs:List Int):Prop:=∀x∈zs,0<=x/\x<1000
def bn:FN
 | [.int c,.int k],Q=>(0<=k/\k<=100000)/\∀z:Int,0<=z->Q (.dat (.int z))
 | _,_=>False
def ib:Nat:=7
def bA:FN
 | [.scr ns,.int mo],Q=>(ns.length<=64/\0<=mo/\mo<=2000)/\∀zs:List Int,Dk zs->zs.length=mo.toNat->Q (.own (zs.map .int))
 | _,_=>False
def ic:Nat:=1
def ay:FR
 | .own ds,[],Q=>∃zs:List Int,ds=zs.map .int/\(Dk zs/\0<zs.length/\zs.length<=100000)/\∀(z:Int) (ys:List Int),0<=z->z<1000->Dk ys->ys.length+1=zs.length->Q (.dat (.int z)) (.own (ys.map .int))
 | _,_,_=>False
def eV:Nat:=4
def rS(n f st:Nat):List Nat:=(List.range n).map fun k=>97+(f+st*k) % 26
theorem t7{n f st:Nat}(hn:n=2\/n=3\/n=26)(hs:st=1\/st=5\/st=25)(hf:f<26):(rS n f st).Nodup:=by
 have h:∀n∈[2,3,26],∀st∈[1,5,25],∀f:Fin 26,decide (rS n f.1 st).Nodup=true:=by decide +kernel
 exact of_decide_eq_true (h n (by rcases hn with rfl|rfl|rfl <;> decide) st (by rcases hs with rfl|rfl|rfl <;> decide) ⟨f,hf⟩)
theorem rg(n f st:Nat):Lts (rS n f st):=fun c hc=>by
 obtain⟨k,_,rfl⟩:=mem_map.mp hc;have:=mod_lt (f+st*k) (show 0<26 by decide);exact⟨by omega,by omega⟩
theorem wm{j:Nat}(h:j<26):atI [97,98,99,100,101,102,103,104,105,106,107,108,109,110,111,112,113,114,115,116,117,118,119,120,121,122] (j:Int)=some (97+j):=by
 have:∀j:Fin 26,atI [97,98,99,100,101,102,103,104,105,106,107,108,109,110,111,112,113,114,115,116,117,118,119,120,121,122] (j.1:Int)=some (97+j.1):=by decide +kernel
 exact this ⟨j,h⟩
def aW:FR
 | .own ds,[],Q=>∃zs:List Int,ds=zs.map .int/\(Dk zs/\3<=zs.length/\zs.length<=100000)/\∀(ls:List Nat) (ys:List Int),2<=ls.length->ls.length<=26->Lts ls->ls.Nodup->Dk ys->ys.length+3=zs.length->Q (.own (ls.map fun c=>.str [c])) (.own (ys.map .int))
 | _,_,_=>False
def gu:Nat:=5
def bo:FR
 | .own ds,[.lst es,.int n],Q=>∃zs:List Int,ds=zs.map .int/\∃ls:List Nat,es=ls.map (fun c=>.str [c])/\(0<ls.length/\ls.length<=26/\Lts ls)/\(Dk zs/\zs.length<=100000)/\(0<=n/\n<=(zs.length:Int))/\∀(w:List Nat) (ys:List Int),w.length=n.toNat->Lts w->(∀c∈w,c∈ls)->Dk ys->ys.length+n.toNat=zs.length->Q (.dat (.str w)) (.own (ys.map .int))
 | _,_,_=>False
def gy:Nat:=1
def aZ:FN
 | [.int z],Q=>Q (.dat (.bl true))
 | _,_=>False
def gA:Nat:=4
def aS:FN
 | [.str a,.str b],Q=>(a.length<=b.length/\b.length<=10000)/\Q (.dat (.lst ((slN a b).map nD)))
 | _,_=>False
def gB:Nat:=10
theorem lQ{ws:List (List Nat)}(h:∀w∈ws,Lts w):mr (.lst (ws.map .str)) (.lst []):=mr.of (Sh.lstS h) (Sh.lstI [])
theorem kF(ws:List (List Nat)):deq (.lst (ws.map .str)) (.lst [])=decide (ws=[]):=by
 show PyData.eqv (.list (D.pys (ws.map .str))) (.list [])=_;rw [lH];cases ws <;> simp [PyData.eqv,PyData.eqvAll]
theorem lR{ws:List (List Nat)}(h:0<ws.length):atI (ws.map D.str) (-1)=some (.str (pw ws (ws.length - 1))):=by
 have e:(ws.map D.str)[ws.length - 1]?=some (.str (pw ws (ws.length - 1))):=by rw [getElem?_map,pq (by omega)];rfl
 have hx:ixN ws.length (-1)=some (ws.length - 1):=by
  unfold ixN;rw [if_neg (by omega),if_pos (by omega)];congr 1;omega
 unfold atI;rw [length_map,hx];exact e
def bw:FR
 | .own ds,[],Q=>∃zs:List Int,ds=zs.map .int/\(Dk zs/\110<=zs.length/\zs.length<=10000)/\∀(rs:List (List Nat)) (ys:List Int),0<rs.length->rs.length<=7->Pcs 60 rs->Dk ys->zs.length<=ys.length+110->ys.length<=zs.length->Q (.dat (.lst (rs.map .str))) (.own (ys.map .int))
 | _,_,_=>False
def ie:Nat:=3
theorem xN{a b:List Nat}{m:Int}(ha:0<a.length)(hb:0<b.length)(hm:0<=m):p7 a b m (slL a b m):=by
 have key:∀N,N<min a.length b.length+1->0<N->(∀k,N<=k->k<min a.length b.length->m<(slK a b k:Int))->∃r,p7 a b m r:=by
  intro N
  induction N with
  | zero=>intro _ h;exact absurd h (Nat.lt_irrefl _)
  | succ N ih =>
   intro h1 _ h3
   by_cases c:(slK a b N:Int)<=m
   .exact⟨N,by omega,c,fun k h4 h5=>h3 k h4 h5⟩
   .cases N with
    | zero=>exact absurd (by rw [mP];exact hm) c
    | succ N =>
     refine ih (by omega) (succ_pos _) fun k h4 h5=>?_
     by_cases e:k=N+1
     .rw [e];omega
     .exact h3 k (by omega) h5
 obtain⟨r,hr⟩:=key (min a.length b.length) (by omega) (by omega) fun k h1 h2=>by omega
 rw [kE hr];exact hr
theorem xO{α:Type}{l l':List α}{d:α}{i:Nat}(h:i<l.length):(l++l').getD i d=l.getD i d:=by
 rw [getD_eq_getElem?_getD,getD_eq_getElem?_getD,getElem?_append_left h]
theorem wn{α:Type}{l l':List α}{d:α}{i:Nat}(h:l.length<=i):(l++l').getD i d=l'.getD (i - l.length) d:=by
 rw [getD_eq_getElem?_getD,getD_eq_getElem?_getD,getElem?_append_right h]
theorem yz{α:Type}{l:List α}{d:α}{i k:Nat}(h:i<k):(l.take k).getD i d=l.getD i d:=by
 rw [getD_eq_getElem?_getD,getD_eq_getElem?_getD,getElem?_take_of_lt h]
structure PO (m:Int) (ws:List (List Nat)) (T:List Nat) (ss:List Nat):Prop where
 len:ss.length=ws.length
 zero:ss.getD 0 0=0
 last:∀i,i+1=ws.length->ss.getD i 0+(ws.getD i []).length=T.length
 step:∀i,i+1<ws.length->ss.getD (i+1) 0+slL (ws.getD i []) (ws.getD (i+1) []) m=ss.getD i 0+(ws.getD i []).length
 lap:∀i,i+1<ws.length->p7 (ws.getD i []) (ws.getD (i+1) []) m (slL (ws.getD i []) (ws.getD (i+1) []) m)
 sign:∀i p,i<ws.length->ss.getD i 0<=p->p<T.length->(i+1<ws.length->p<ss.getD (i+1) 0)->T.getD p 0=(ws.getD i []).getD (p - ss.getD i 0) 0
theorem PO.lt{m:Int}{ws:List (List Nat)}{T ss:List Nat}(h:PO m ws T ss){i:Nat}(hi:i+1<ws.length):ss.getD i 0<ss.getD (i+1) 0/\ss.getD (i+1) 0<=ss.getD i 0+(ws.getD i []).length/\ss.getD i 0+(ws.getD i []).length<ss.getD (i+1) 0+(ws.getD (i+1) []).length:=by
 have a:=h.step i hi;have b:=(h.lap i hi).1;omega
theorem PO.mono{m:Int}{ws:List (List Nat)}{T ss:List Nat}(h:PO m ws T ss){i:Nat}:∀{j:Nat},i<=j->j<ws.length->ss.getD i 0<=ss.getD j 0
 | 0,h1,h2=>by cases le_zero.mp h1;exact le_refl _
 | j+1,h1,h2=>by
  rcases lt_or_eq_of_le h1 with l|e
  .have:=h.mono (i:=i) (j:=j) (by omega) (by omega);have:=(h.lt h2).1;omega
  .rw [e];exact le_refl _
theorem rT{m:Int}(hm:0<=m):∀(n:Nat) (ws:List (List Nat)),ws.length=n+1->(∀w∈ws,0<w.length)->PO m ws (cu m ws) (eJ m ws)
 | 0,ws,hl,hw=>by
  obtain⟨r,rfl⟩:=length_eq_one_iff.mp hl;obtain⟨e1,e2⟩:=t0 m r;rw [e1,e2]
  refine⟨rfl,rfl,fun i hi=>?_,fun i hi=>?_,fun i hi=>?_,fun i p hi h1 h2 h3=>?_⟩
  .have hi:i+1=1:=hi;cases (show i=0 by omega);show 0+r.length=r.length;omega
  .have hi:i+1<1:=hi;omega
  .have hi:i+1<1:=hi;omega
  .have hi:i<1:=hi;cases (show i=0 by omega);rfl
 | n+1,ws,hl,hw=>by
  obtain⟨W,b,rfl⟩:∃W b,ws=W++[b]:=⟨ws.dropLast,ws.getLast (by intro e;rw [e] at hl;cases hl),(dropLast_concat_getLast _).symm⟩
  have hW:W.length=n+1:=by rw [length_append] at hl;exact Nat.succ.inj hl
  have ih:=rT hm n W hW fun w h=>hw w (mem_append_left _ h);obtain⟨pre,a,rfl⟩:∃pre a,W=pre++[a]:=⟨W.dropLast,W.getLast (by intro e;rw [e] at hW;cases hW),(dropLast_concat_getLast _).symm⟩
  have hp:pre.length=n:=by rw [length_append] at hW;exact Nat.succ.inj hW
  obtain⟨e1,e2⟩:=lP m pre a b;have x1:=xN (a:=a) (b:=b) (hw a (by simp)) (hw b (by simp)) hm;have ga:(pre++[a]).getD n []=a:=by rw [wn (by omega),hp,sub_self];rfl
  have la:=ih.last n (by omega);rw [ga] at la;generalize cu m (pre++[a])=T at *;generalize eJ m (pre++[a])=ss at *;rw [e1,e2];have hx:=x1.1;have hsl:ss.length=n+1:=by rw [ih.len,hW]
  have gb:(pre++[a]++[b]).getD (n+1) []=b:=by rw [wn (by omega),hW,sub_self];rfl
  have gw:∀i,i<n+1->(pre++[a]++[b]).getD i []=(pre++[a]).getD i []:=fun i hi=>xO (by omega);have gs:∀i,i<n+1->(ss++[T.length - slL a b m]).getD i 0=ss.getD i 0:=fun i hi=>xO (by omega);have gn:(ss++[T.length - slL a b m]).getD (n+1) 0=T.length - slL a b m:=by rw [wn (by omega),hsl,sub_self];rfl
  have hlen:(pre++[a]++[b]).length=n+2:=by rw [length_append,hW];rfl
  have hT:(T.take (T.length - slL a b m)).length=T.length - slL a b m:=by rw [length_take];omega
  refine⟨by rw [length_append,hsl,hlen];rfl,by rw [gs 0 (by omega)];exact ih.zero,fun i hi=>?_,fun i hi=>?_,fun i hi=>?_,fun i p hi h1 h2 h3=>?_⟩
  .cases (show i=n+1 by omega);rw [gn,gb,length_append,hT]
  .by_cases e:i=n
   .subst e;rw [gn,gb,gs i (by omega),gw i (by omega),ga];omega
   .rw [gs (i+1) (by omega),gs i (by omega),gw i (by omega),gw (i+1) (by omega)];exact ih.step i (by omega)
  .by_cases e:i=n
   .subst e;rw [gb,gw i (by omega),ga];exact x1
   .rw [gw i (by omega),gw (i+1) (by omega)];exact ih.lap i (by omega)
  .rw [hlen] at hi h3;rw [length_append,hT] at h2
   by_cases e:i=n+1
   .subst e;rw [gn] at h1 ⊢;rw [gb,wn (by omega),hT]
   .have hin:i<n+1:=by omega
    rw [gs i hin] at h1 ⊢;rw [gw i hin];have h5:=h3 (by omega)
    have hpl:p<T.length - slL a b m:=by
     by_cases e2:i=n
     .subst e2;rw [gn] at h5;exact h5
     .rw [gs (i+1) (by omega)] at h5;have:=ih.mono (i:=i+1) (j:=n) (by omega) (by omega);omega
    rw [xO (by omega),yz hpl];refine ih.sign i p (by omega) h1 (by omega) fun h4=>?_;rw [gs (i+1) (by omega)] at h5;exact h5
def br:FN
 | [.int a,.str r,.int p],Q=>r.length<=10000/\Q (.dat (.bl (decide (a<=p) && decide (p<a+(r.length:Int)))))
 | _,_=>False
def ig:Nat:=3
def ovr(ss:List Nat)(ws:List (List Nat))(p:Nat):List Nat:=(List.range ws.length).filter fun i=>decide (ss.getD i 0<=p/\p<ss.getD i 0+(ws.getD i []).length)
theorem iF{ss:List Nat}{i:Nat}(h:i<ss.length):atI (ss.map nD) (i:Int)=some (.int ((ss.getD i 0:Nat):Int)):=by
 refine cQ (j:=i) ?_ rfl;rw [getElem?_map,getElem?_eq_getElem h,getD_eq_getElem?_getD,getElem?_eq_getElem h];rfl
theorem fF{ws:List (List Nat)}{i:Nat}(h:i<ws.length):atI (ws.map D.str) (i:Int)=some (.str (ws.getD i [])):=by
 refine cQ (j:=i) ?_ rfl;rw [getElem?_map,getElem?_eq_getElem h,getD_eq_getElem?_getD,getElem?_eq_getElem h];rfl
theorem p9{ss:List Nat}(h:0<ss.length):atI (ss.map nD) (-1)=some (.int ((ss.getD (ss.length - 1) 0:Nat):Int)):=by
 have hx:ixN ss.length (-1)=some (ss.length - 1):=by
  unfold ixN;rw [if_neg (by omega),if_pos (by omega)];congr 1;omega
 unfold atI;rw [length_map,hx];show (ss.map nD)[ss.length - 1]?=_;rw [getElem?_map,getElem?_eq_getElem (show ss.length - 1<ss.length by omega),getD_eq_getElem?_getD,getElem?_eq_getElem (show ss.length - 1<ss.length by omega)];rfl
def bB:FN
 | [.lst ds,.tup es,.int z],Q=>∃ws:List (List Nat),ds=ws.map .str/\∃ss:List Nat,es=ss.map nD/\∃p:Nat,z=(p:Int)/\(ss.length=ws.length/\ws.length<=40/\Pcs 60 ws)/\Q (.dat (.lst ((ovr ss ws p).map nD)))
 | _,_=>False
def fG:Nat:=5
def aX:FN
 | [.lst ds,.tup es,.str T],Q=>∃ws:List (List Nat),ds=ws.map .str/\∃ss:List Nat,es=ss.map nD/\(0<ws.length/\ws.length<=40/\Pcs 60 ws/\T.length<=10000/\∃m,PO m ws T ss)/\Q (.dat (.bl true))
 | _,_=>False
def dg:Nat:=10
theorem t9{m:Int}{ws:List (List Nat)}{T ss:List Nat}(h:PO m ws T ss)(h0:0<ws.length){p:Nat}(hp:p<T.length) :
  ∃(l:List Nat) (i:Nat),ovr ss ws p=l++[i]/\i<ws.length/\ss.getD i 0<=p/\p<ss.getD i 0+(ws.getD i []).length/\T.getD p 0=(ws.getD i []).getD (p - ss.getD i 0) 0/\∀k∈ovr ss ws p,k<=i/\k<ws.length/\ss.getD k 0<=p/\p<ss.getD k 0+(ws.getD k []).length:=by
 have key:∀N,N<=ws.length->0<N->(∀k,N<=k->k<ws.length->p<ss.getD k 0)->∃i,i<ws.length/\ss.getD i 0<=p/\∀k,i<k->k<ws.length->p<ss.getD k 0:=by
  intro N
  induction N with
  | zero=>intro _ h;exact absurd h (Nat.lt_irrefl _)
  | succ N ih =>
   intro h1 _ h3
   by_cases c:ss.getD N 0<=p
   .exact⟨N,by omega,c,fun k h4 h5=>h3 k h4 h5⟩
   .cases N with
    | zero=>exact absurd (by rw [h.zero];exact zero_le _) c
    | succ N =>
     refine ih (by omega) (succ_pos _) fun k h4 h5=>?_
     by_cases e:k=N+1
     .rw [e];omega
     .exact h3 k (by omega) h5
 obtain⟨i,hi,h1,h2⟩:=key ws.length (le_refl _) h0 fun k a b=>by omega
 have h3:p<ss.getD i 0+(ws.getD i []).length:=by
  by_cases e:i+1=ws.length
  .have:=h.last i e;omega
  .have:=(h.lt (i:=i) (by omega)).2.1;have:=h2 (i+1) (by omega) (by omega);omega
 refine⟨(List.range i).filter fun k=>decide (ss.getD k 0<=p/\p<ss.getD k 0+(ws.getD k []).length),i,?_,hi,h1,h3,h.sign i p hi h1 hp fun h4=>h2 _ (lt_succ_self _) h4,fun k hk=>?_⟩
 .unfold ovr;rw [show ws.length=i+1+(ws.length - (i+1)) by omega,range_add,filter_append,range_succ,filter_append];rw [filter_cons_of_pos (by exact decide_eq_true ⟨h1,h3⟩),filter_nil]
  have e:((List.range (ws.length - (i+1))).map (i+1+·)).filter (fun k=>decide (ss.getD k 0<=p/\p<ss.getD k 0+(ws.getD k []).length))=[]:=by
   refine filter_eq_nil_iff.mpr fun k hk=>?_;obtain⟨x,hx,rfl⟩:=mem_map.mp hk;have:=h2 (i+1+x) (by omega) (by have:=mem_range.mp hx;omega);simp only [decide_eq_true_eq];omega
  rw [e,append_nil]
 .unfold ovr at hk;obtain⟨a,b⟩:=mem_filter.mp hk;have a:=mem_range.mp a;have b:=of_decide_eq_true b;refine⟨?_,a,b⟩
  rcases lt_or_ge i k with l|l
  .have:=h2 k l a;omega
  .exact l
theorem wo{l:List Nat}{i:Nat}:atI ((l++[i]).map nD) (-1)=some (.int (i:Int)):=by
 rw [p9 (by simp),length_append,wn (by simp)];simp
theorem wp{sl:List (List Nat)}{i:Nat}(h:i<sl.length):atI (sl.map fun l=>D.tup (l.map nD)) (i:Int)=some (.tup ((sl.getD i []).map nD)):=by
 refine cQ (j:=i) ?_ rfl;rw [getElem?_map,getElem?_eq_getElem h,getD_eq_getElem?_getD,getElem?_eq_getElem h];rfl
theorem ua{r T:List Nat}{s p:Nat}(h1:s<=p)(h2:p<s+r.length)(h3:s+r.length<=T.length):p - s∈slN r ((T.drop s).take r.length) ↔ r.getD (p - s) 0≠T.getD p 0:=by
 unfold slN
 have e:((T.drop s).take r.length).getD (p - s) 0=T.getD p 0:=by
  rw [yz (by omega),getD_eq_getElem?_getD,getD_eq_getElem?_getD,getElem?_drop,show s+(p - s)=p by omega]
 rw [mem_filter,mem_range,decide_eq_true_eq,e,length_take,length_drop]
 constructor
 .exact fun h=>h.2
 .exact fun h=>⟨by omega,h⟩
def aB:FN
 | [.lst ds,.tup es,.tup fs,.str T],Q=>∃ws:List (List Nat),ds=ws.map .str/\∃ss:List Nat,es=ss.map nD/\∃sl:List (List Nat),fs=(sl.map fun l=>.tup (l.map nD))/\(0<ws.length/\ws.length<=40/\Pcs 60 ws/\T.length<=10000/\Lts T/\sl.length=ws.length/\(∃m,PO m ws T ss)/\∀i,i<ws.length->sl.getD i []=slN (ws.getD i []) ((T.drop (ss.getD i 0)).take (ws.getD i []).length)/\ss.getD i 0+(ws.getD i []).length<=T.length)/\Q (.dat (.bl true))
 | _,_=>False
def fH:Nat:=7
theorem wq(a b:List Nat):(slN a b).Pairwise (·<·):=List.Pairwise.filter _ pairwise_lt_range
theorem kG:∀{as bs:List Int},as.Perm bs->as.Pairwise (·<=·)->bs.Pairwise (·<·)->as=bs
 | [],bs,h,_,_=>(nil_perm.mp h).symm
 | a::as,[],h,_,_=>by cases perm_nil.mp h
 | a::as,b::bs,h,ha,hb=>by
  have h1:a=b:=by
   have m1:=h.mem_iff.mp (mem_cons_self (a:=a) (l:=as));have m2:=h.mem_iff.mpr (mem_cons_self (a:=b) (l:=bs))
   rcases mem_cons.mp m1 with e|m1
   .exact e
   .rcases mem_cons.mp m2 with e|m2
    .exact e.symm
    .have:=rel_of_pairwise_cons ha m2;have:=rel_of_pairwise_cons hb m1;omega
  subst h1;rw [kG (List.Perm.cons_inv h) ha.of_cons hb.of_cons]
theorem rV{l:List Nat}(h:l.Pairwise (·<·)):(l.map fun j=>((j:Nat):Int)).Pairwise (·<·):=by
 rw [pairwise_map];exact h.imp fun {a b} x=>by omega
theorem qa{m:Int}{ws:List (List Nat)}(h:Pcs 60 ws){l:List Nat}(hl:l∈bz m ws):l.length<=60/\l.Pairwise (·<·):=by
 unfold bz at hl;obtain⟨p,hp,rfl⟩:=mem_map.mp hl;have a:=p6 p.1 (((cu m ws).drop p.2).take p.1.length);have b:=(h p.1 (of_mem_zip hp).1).2.1;exact⟨by omega,wq _ _⟩
theorem qb(m:Int)(ws:List (List Nat)):(bz m ws).length=ws.length:=by
 unfold bz;rw [length_map,length_zip,fE,min_self]
theorem mS{m:Int}{ws:List (List Nat)}{i:Nat}(h:i<ws.length):(bz m ws).getD i []=slN (ws.getD i []) (((cu m ws).drop ((eJ m ws).getD i 0)).take (ws.getD i []).length)/\(eJ m ws).getD i 0+(ws.getD i []).length<=(cu m ws).length:=by
 have hs:i<(eJ m ws).length:=by rw [fE];exact h
 have e1:ws.getD i []=ws[i]:=by rw [getD_eq_getElem?_getD,getElem?_eq_getElem h];rfl
 have e2:(eJ m ws).getD i 0=(eJ m ws)[i]:=by rw [getD_eq_getElem?_getD,getElem?_eq_getElem hs];rfl
 have hz:i<(ws.zip (eJ m ws)).length:=by rw [length_zip];omega
 rw [e1,e2]
 constructor
 .unfold bz;rw [getD_eq_getElem?_getD,getElem?_map,getElem?_eq_getElem hz,getElem_zip];rfl
 .have:=t6 m (p:=(ws[i],(eJ m ws)[i])) (by rw [<- getElem_zip (h:=hz)];exact getElem_mem hz);exact this
theorem mT(m:Int):∀l:List (List Nat),(∀w∈l,Lts w)->Lts (i5 m l).1
 | [],_=>fun c hc=>nomatch hc
 | [r],h=>h r (mem_singleton.mpr rfl)
 | b::a::l,h=>by
  rw [dN];intro c hc
  rcases mem_append.mp hc with hc|hc
  .exact mT m (a::l) (fun w hw=>h w (mem_cons_of_mem _ hw)) c (mem_of_mem_take hc)
  .exact h b mem_cons_self c hc
theorem ub{m:Int}{ws:List (List Nat)}(h:∀w∈ws,Lts w):Lts (cu m ws):=mT m _ fun w hw=>h w (mem_reverse.mp hw)
def aY:FN
 | [.lst ds,.tup es,.int m],Q=>∃ws:List (List Nat),ds=ws.map .str/\∃ss:List Nat,es=ss.map nD/\(0<ws.length/\ws.length<=40/\Pcs 60 ws/\∃T,PO m ws T ss)/\Q (.dat (.bl true))
 | _,_=>False
def rW:Nat:=9
abbrev mU:FN:=ym
def eP:PTS:=(aG (gK (pOr (ug (pB (wA .str (pSl 0)))) (ug (pB (o0 fLe fLe (pSl 1) (pFz (pCB dC (af (pSl 0) ap))) (pSl 2))))) (bX (pC (.bl false))) bO) (bX (pCB xv (af (pFz (kn [none] (ly (cf 0)) (ao 0) tG (o0 fLe fLe (pFz (pC (.str [97]))) (pSl 0) (pFz (pC (.str [122])))))) ap))))
theorem lS(d:D)(a b:Int)(Q:PV->Prop)(h:bY ([d,.int a,.int b]) Q):eT eP iZ ([d,.int a,.int b]) Q:=by
 show eP _ [some (.dat (d)),some (.dat (.int a)),some (.dat (.int b))];obtain⟨hd,hl,q⟩:=h
 cases d with
 | str l =>
  have hl:l.length<=1000000:=hl;walk_at "r"
  refine eB (fun c1=>?_) (fun c1=>?_)
  .walk_at "r"
   refine kh (fun c2=>?_) (fun c2=>?_)
   .walk_at "r";rw [show qK (.str l) a b=false by rw [jw,decide_eq_false c2,Bool.and_false];rfl] at q;exact q
   .walk_at "r"
    refine wD (fun τ=>∃v,τ=[v]) (fun k=>.bl (ltB (l.getD k 0))) ?_ ?_ ?_
    .exact⟨_,rfl⟩
    .rintro k τ _ hk rfl ⟨v,rfl⟩ K1 k1;walk_at "r"
     refine kh (fun c=>?_) (fun c=>?_)
     .have hc:97<=l.getD k 0:=of_decide_eq_true (by rw [<- lG];rw [decide_eq_false c];rfl);walk_at "r";show K1 (.bl (!decide (([122]:List Nat)<[l.getD k 0]))) _;rw [lG];rw [show ltB (l.getD k 0)=decide (l.getD k 0<=122) by unfold ltB;rw [decide_eq_true hc];rfl] at k1;exact k1 _ ⟨_,rfl⟩
     .have hc:¬ 97<=l.getD k 0:=of_decide_eq_false (by rw [<- lG,decide_eq_true c];rfl);walk_at "r";rw [show ltB (l.getD k 0)=false by unfold ltB;rw [decide_eq_false hc];rfl] at k1;exact k1 _ ⟨_,rfl⟩
    .rintro τ ⟨v,rfl⟩;walk_at "r";refine⟨(List.range l.length).map fun k=>ltB (l.getD k 0),by rw [map_map];rfl,?_⟩
     have e:qK (.str l) a b=(((List.range l.length).map fun k=>ltB (l.getD k 0)).all id):=by
      rw [jw,decide_eq_true c1,decide_eq_true c2,Bool.and_self,Bool.true_and,lF];rw [all_map];rfl
     rw [e] at q;exact q
  .walk_at "r";rw [show qK (.str l) a b=false by rw [jw,decide_eq_false c1,Bool.false_and];rfl] at q;exact q
 | non=>walk_at "r";exact q
 | bl b=>walk_at "r";exact q
 | int i=>walk_at "r";exact q
 | ty n=>cases hd
 | lst ds=>walk_at "r";exact q
 | tup ds=>walk_at "r";exact q
 | scr ns=>cases hd
 | dic ks ds=>walk_at "r";exact q
 | obj c ns ds=>cases hd
 | exc c ns ds=>cases hd
theorem nK:∀ds Q,bY ds Q->eT eP iZ ds Q:=fun ds Q h=>by
 unfold bY at h
 split at h
 .exact lS _ _ _ _ h
 .exact h.elim
def cr:PTS:=(aG (gK (pB (pOp fGt (pFz (pCB dC (af (pSl 0) ap))) (pFz (pC (.int 40))))) jp bO) (e7 (rE (af (pFz (cf 0)) ap)) (iB 2 (cS (ao 1) (cS (ao 2) kl))) (gK (ug (pB (rJ bY [] (af (pFz (cf 2)) (af (pFz (pC (.int 1))) (af (pFz (pC (.int 60))) ap)))))) jp bO)))
theorem gM(d:D)(Q:PV->Prop)(h:aL ([d]) Q):eT cr eI ([d]) Q:=by
 show cr _ [some (.dat (d)),none,none];obtain⟨ws,hd,⟨hn,hp⟩,q⟩:=h;have hlm:(ws.map D.str).length=ws.length:=length_map _
 rcases hd with rfl|rfl
 .walk_at "r"
  refine⟨fun k ρ=>∃v1 v2:Option PV,ρ=[some (.dat (.lst (ws.map .str))),v1,v2],⟨_,_,rfl⟩,?_,?_⟩
  .rintro k ρ d hk ed ⟨v1,v2,rfl⟩;have ed:d=.tup [.int k,itD (ws.map D.str) k]:=ed;rw [px hk] at ed;subst ed;have hw:=hp _ (mD (show k<ws.length by omega));have ht:qK (.str (pw ws k)) 1 60=true:=pz.mpr hw;have h1:(pw ws k).length<=1000000:=by have:=hw.2.1;omega
   walk_at "r";refine sU ht ?_;exact⟨_,_,rfl⟩
  .rintro ρ ⟨v1,v2,rfl⟩;exact q
 .walk_at "r"
  refine⟨fun k ρ=>∃v1 v2:Option PV,ρ=[some (.dat (.tup (ws.map .str))),v1,v2],⟨_,_,rfl⟩,?_,?_⟩
  .rintro k ρ d hk ed ⟨v1,v2,rfl⟩;have ed:d=.tup [.int k,itD (ws.map D.str) k]:=ed;rw [px hk] at ed;subst ed;have hw:=hp _ (mD (show k<ws.length by omega));have ht:qK (.str (pw ws k)) 1 60=true:=pz.mpr hw;have h1:(pw ws k).length<=1000000:=by have:=hw.2.1;omega
   walk_at "r";refine sU ht ?_;exact⟨_,_,rfl⟩
  .rintro ρ ⟨v1,v2,rfl⟩;exact q
theorem ii:∀ds Q,aL ds Q->eT cr eI ds Q:=fun ds Q h=>by
 unfold aL at h
 split at h
 .exact gM _ _ h
 .exact h.elim
def cE:PTS:=(bX (pCB kq (af (pFz (kn [none,none,none] (yy (af (pFz (cf 0)) (af (pFz (cf 1)) ap))) (iB 2 (cS (ao 0) (cS (iB 2 (cS (ao 1) (cS (ao 2) kl))) kl))) (pB (pOp k8 (pSl 1) (pSl 2))) (cf 0))) ap)))
theorem ik(a b:List Nat)(Q:PV->Prop)(h:aA ([.str a,.str b]) Q):eT cE eU ([.str a,.str b]) Q:=by
 show cE _ [some (.dat (.str a)),some (.dat (.str b))];obtain⟨⟨ha,hb⟩,q⟩:=h;walk_at "r"
 refine cfm (fun τ=>∃v w x:Option PV,τ=[v,w,x]) (fun k=>if decide (a.getD k 0≠b.getD k 0)=true then some (D.int (k:Int)) else none) ⟨_,_,_,rfl⟩ ?_ ?_
 .rintro k τ d hk rfl ⟨v,w,x,rfl⟩ K1 K2 k1 k2;walk_at "r"
  refine kh (fun c=>?_) (fun c=>?_)
  .walk_at "r";refine k1 _ _ (by rw [if_pos];exact decide_eq_true (fun z=>c (by rw [z]))) ⟨_,_,_,rfl⟩
  .walk_at "r";refine k2 _ (by rw [if_neg];simp only [decide_eq_true_eq,ne_eq,Classical.not_not];exact singleton_inj.mp c) ⟨_,_,_,rfl⟩
 .rintro τ ⟨v,w,x,rfl⟩
  have e:(List.range (min a.length b.length)).filterMap (fun k=>if decide (a.getD k 0≠b.getD k 0)=true then some (D.int (k:Int)) else none)=(slN a b).map nD:=by
   rw [lI (fun k=>decide (a.getD k 0≠b.getD k 0)),mI];rfl
  rw [e];walk_at "r";exact q
theorem iG:∀ds Q,aA ds Q->eT cE eU ds Q:=fun ds Q h=>by
 unfold aA at h
 split at h
 .exact ik _ _ _ h
 .exact h.elim
def cM:PTS:=(bX (pCB dC (af (pFz (cH aA (af (pFz (cf 0)) (af (pFz (cf 1)) ap)))) ap)))
theorem iH(a b:List Nat)(Q:PV->Prop)(h:aV ([.str a,.str b]) Q):eT cM fC ([.str a,.str b]) Q:=by
 show cM _ [some (.dat (.str a)),some (.dat (.str b))];obtain⟨h0,q⟩:=h;have hl:((slN a b).map nD).length=(slN a b).length:=length_map _;walk_at "r";rw [hl];exact q
theorem jF:∀ds Q,aV ds Q->eT cM fC ds Q:=fun ds Q h=>by
 unfold aV at h
 split at h
 .exact iH _ _ _ h
 .exact h.elim
def dY:PTS:=(aG (e7 (yl (af (pFz (pOp mC (pFz (pCB qF (af (pFz (pCB dC (af (pSl 0) ap))) (af (pFz (pCB dC (af (pSl 1) ap))) ap)))) (pFz (pC (.int 1))))) (af (pFz (pC (.int 0))) (af (pFz (pUn qH (pFz (pC (.int 1))))) ap)))) (ao 3) (gK (pB (pOp fLe (pFz (cH aV (af (pFz (ck (pSl 0) (cg (pOp mC (pFz (pCB dC (af (pSl 0) ap))) (pSl 3))) cG)) (af (pFz (ck (pSl 1) cG (cg (cf 3)))) ap)))) (pSl 2))) (bX (cf 3)) bO)) (bX (pC (.int 0))))
theorem kH(a b:List Nat)(m:Int)(Q:PV->Prop)(h:bx ([.str a,.str b,.int m]) Q):eT dY ia ([.str a,.str b,.int m]) Q:=by
 show dY _ [some (.dat (.str a)),some (.dat (.str b)),some (.dat (.int m)),none];obtain⟨⟨m0,⟨a0,a1⟩,⟨b0,b1⟩⟩,q⟩:=h;have hm:(if (b.length:Int)<(a.length:Int) then (b.length:Int) else (a.length:Int))=((min a.length b.length:Nat):Int):=by split <;> omega
 walk_at "r"
 refine⟨fun i ρ=>(∃v2:Option PV,ρ=[some (.dat (.str a)),some (.dat (.str b)),some (.dat (.int m)),v2])/\∀j,min a.length b.length - i<=j->j<min a.length b.length->m<(slK a b j:Int),⟨⟨_,rfl⟩,fun j h1 h2=>by omega⟩,?_,?_⟩
 .rintro i ρ d hi ed ⟨⟨v2,rfl⟩,ih⟩;have hi:i<(((if (b.length:Int)<(a.length:Int) then (b.length:Int) else (a.length:Int)) - 1) - 0).toNat:=hi;have ed:d=.int (((if (b.length:Int)<(a.length:Int) then (b.length:Int) else (a.length:Int)) - 1) - (i:Int)):=ed;rw [hm] at hi ed;obtain⟨k,hk,hk2⟩:∃k:Nat,(((min a.length b.length:Nat):Int) - 1) - (i:Int)=(k:Int)/\k=min a.length b.length - 1 - i:=⟨min a.length b.length - 1 - i,by omega,rfl⟩
  rw [hk] at ed;subst ed
  have e1:cW a (some ((a.length:Int) - (k:Int))) none=a.drop (a.length - k):=by
   rw [show (a.length:Int) - (k:Int)=((a.length - k:Nat):Int) by omega,fk]
  have e2:cW b none (some (k:Int))=b.take k:=dO b k;have l1:=aI a (some ((a.length:Int) - (k:Int))) none;have l2:=aI b none (some (k:Int));have l3:(cW a (some ((a.length:Int) - (k:Int))) none).length<=10000/\(cW b none (some (k:Int))).length<=10000:=⟨by omega,by omega⟩
  walk_at "r";rw [e1,e2]
  refine eB (fun c=>?_) (fun c=>?_)
  .walk_at "r";exact q k (by omega) c (fun j h1 h2=>ih j (by omega) h2)
  .refine⟨⟨_,rfl⟩,fun j h1 h2=>?_⟩
   by_cases hj:j=k
   .rw [hj];have c:¬ ((slK a b k:Int)<=m):=c;omega
   .exact ih j (by omega) h2
 .rintro ρ ⟨⟨v2,rfl⟩,ih⟩;rw [hm] at ih;walk_at "r";exact q 0 (by omega) (by rw [mP];exact m0) (fun j h1 h2=>ih j (by omega) h2)
theorem lT:∀ds Q,bx ds Q->eT dY ia ds Q:=fun ds Q h=>by
 unfold bx at h
 split at h
 .exact kH _ _ _ _ h
 .exact h.elim
def dh:PTS:=(aG (gK (pB (pOp rL (pFz (pCB dC (af (pSl 0) ap))) (pFz (pC (.int 0))))) jp bO) (aG (hC (cH aL (af (pFz (cf 0)) ap))) (aG (bh (pOp fIx (pSl 0) (pFz (pC (.int 0)))) (ao 2)) (aG (bh (mn (af (pFz (pC (.int 0))) ap)) (ao 3)) (aG (e7 (pG (af (pFz (cf 0)) (af (pFz (ck (pSl 0) (cg (pC (.int 1))) cG)) ap))) (iB 2 (cS (ao 4) (cS (ao 5) kl))) (aG (bh (pOp mC (pFz (pCB dC (af (pSl 2) ap))) (pFz (cH bx (af (pFz (cf 4)) (af (pFz (cf 5)) (af (pFz (cf 1)) ap)))))) (ao 6)) (aG (hC (tH 3 (cf 6))) (bh (pOp cm (pFz (ck (pSl 2) cG (cg (cf 6)))) (pSl 5)) (ao 2))))) (aG (bh (kn [none,none,some 2] (pG (af (pFz (cf 0)) (af (pFz (cf 3)) ap))) (iB 2 (cS (ao 0) (cS (ao 1) kl))) tG (cH aA (af (pFz (cf 0)) (af (pFz (ck (pSl 2) (cg (cf 1)) (cg (pOp cm (pSl 1) (pFz (pCB dC (af (pSl 0) ap))))))) ap)))) (ao 7)) (bX (yj (af (pFz (cf 2)) (af (pFz (pCB kq (af (pSl 3) ap))) (af (pFz (pCB kq (af (pSl 7) ap))) ap)))))))))))
theorem jG(d:D)(m:Int)(Q:PV->Prop)(h:bj ([d,.int m]) Q):eT dh gk ([d,.int m]) Q:=by
 show dh _ [some (.dat (d)),some (.dat (.int m)),none,none,none,none,none,none];obtain⟨ws,hd,⟨h0,hn,hp⟩,hm,q⟩:=h;have hck:ws.length<=40/\Pcs 60 ws:=⟨hn,hp⟩
 have hl0:(ws.map D.str).length=ws.length:=length_map _;walk_at "r";refine vV hd ?_;walk_at "r";refine⟨ws,hd,hck,?_⟩;have hlm:(ws.map D.str).length=ws.length:=length_map _;have h60:=mQ m hp
 obtain⟨r,rs,hws⟩:∃r rs,ws=r::rs:=by
  cases ws with
  | nil=>exact absurd h0 (Nat.lt_irrefl _)
  | cons r rs=>exact⟨r,rs,rfl⟩
 have c1:=yO D.str ws;have at0:atI (ws.map D.str) 0=some (.str r):=by rw [hws];exact cQ (j:=0) rfl rfl
 rcases hd with rfl|rfl
 .walk_at "r";refine⟨_,at0,?_⟩;walk_at "r";rw [c1]
  refine yu (xs:=ws) (fun pre ρ=>0<pre.length/\∃v4 v5 v6:Option PV,ρ=[some (.dat (.lst (ws.map .str))),some (.dat (.int m)),some (.dat (.str (cu m pre))),some (.own ((eJ m pre).map nD)),v4,v5,v6,none]) ?_ ?_ ?_
  .rw [hws];exact⟨zero_lt_succ _,_,_,_,rfl⟩
  .rintro pre a b suf ρ ew ⟨_,v4,v5,v6,rfl⟩;have ha:=hp a (by rw [ew];simp);have hb:=hp b (by rw [ew];simp);have gs:0<=m/\(0<a.length/\a.length<=10000)/\(0<b.length/\b.length<=10000):=⟨hm,⟨ha.1,le_trans ha.2.1 (by decide)⟩,⟨hb.1,le_trans hb.2.1 (by decide)⟩⟩
   have hpp:Pcs 60 (pre++[a]):=fun w hw=>hp w (by rw [ew];simp at hw ⊢;rcases hw with h|h;exact .inl h;exact .inr (.inl h));have hpl:(pre++[a]).length<=40:=by have:=congrArg List.length ew;rw [length_append,length_cons,length_cons] at this;rw [length_append];show _+1<=_;omega
   have t60:=mQ m hpp;have sl:=fE m (pre++[a]);have hsm:((eJ m (pre++[a])).map nD).length=(pre++[a]).length:=by rw [length_map,sl]
   have hge:=rR m pre a b;obtain⟨e1,e2⟩:=lP m pre a b;walk_at "r";rintro x hx1 hx2 hx3;have ex:=kE (a:=a) (b:=b) (m:=m) ⟨hx1,hx2,hx3⟩;subst ex;generalize slL a b m=x at e1 e2 hge hx1 hx2 hx3 ⊢;have en:((cu m (pre++[a])).length:Int) - (x:Int)=(((cu m (pre++[a])).length - x:Nat):Int):=by omega
   have ct:cW (cu m (pre++[a])) none (some (((cu m (pre++[a])).length - x:Nat):Int))=(cu m (pre++[a])).take ((cu m (pre++[a])).length - x):=dO _ _;have cl:=aI (cu m (pre++[a])) none (some (((cu m (pre++[a])).length - x:Nat):Int));have hb1:=hb.2.1;walk_at "r";rw [en];walk_at "r";rw [ct,e1,e2,map_append];exact⟨_,_,_,rfl⟩
  rintro ρ ⟨_,v4,v5,v6,rfl⟩;walk_at "r"
  refine cmZ (xs:=ws) (ys:=eJ m ws) (fun r s=>.tup ((slN r (((cu m ws).drop s).take r.length)).map nD)) ?_ ?_
  .intro r s hrs v w K1 k1;have hr:=(hp r (of_mem_zip hrs).1).2.1;have cb:cW (cu m ws) (some (s:Int)) (some ((s:Int)+(r.length:Int)))=((cu m ws).drop s).take r.length:=by rw [show (s:Int)+(r.length:Int)=((s+r.length:Nat):Int) by omega,gX,show s+r.length - s=r.length by omega]
   have cl:=aI (cu m ws) (some (s:Int)) (some ((s:Int)+(r.length:Int)));have gl:r.length<=10000/\(cW (cu m ws) (some (s:Int)) (some ((s:Int)+(r.length:Int)))).length<=10000:=⟨by omega,by omega⟩
   walk_at "r";rw [cb];exact k1 _ _
  intro v w;have es:(ws.zip (eJ m ws)).map (fun p=>D.tup ((slN p.1 (((cu m ws).drop p.2).take p.1.length)).map nD))=(bz m ws).map fun l=>.tup (l.map nD):=by unfold bz;rw [map_map];rfl
  rw [es];walk_at "r";exact q
 .walk_at "r";refine⟨_,at0,?_⟩;walk_at "r";rw [c1]
  refine yu (xs:=ws) (fun pre ρ=>0<pre.length/\∃v4 v5 v6:Option PV,ρ=[some (.dat (.tup (ws.map .str))),some (.dat (.int m)),some (.dat (.str (cu m pre))),some (.own ((eJ m pre).map nD)),v4,v5,v6,none]) ?_ ?_ ?_
  .rw [hws];exact⟨zero_lt_succ _,_,_,_,rfl⟩
  .rintro pre a b suf ρ ew ⟨_,v4,v5,v6,rfl⟩;have ha:=hp a (by rw [ew];simp);have hb:=hp b (by rw [ew];simp);have gs:0<=m/\(0<a.length/\a.length<=10000)/\(0<b.length/\b.length<=10000):=⟨hm,⟨ha.1,le_trans ha.2.1 (by decide)⟩,⟨hb.1,le_trans hb.2.1 (by decide)⟩⟩
   have hpp:Pcs 60 (pre++[a]):=fun w hw=>hp w (by rw [ew];simp at hw ⊢;rcases hw with h|h;exact .inl h;exact .inr (.inl h));have hpl:(pre++[a]).length<=40:=by have:=congrArg List.length ew;rw [length_append,length_cons,length_cons] at this;rw [length_append];show _+1<=_;omega
   have t60:=mQ m hpp;have sl:=fE m (pre++[a]);have hsm:((eJ m (pre++[a])).map nD).length=(pre++[a]).length:=by rw [length_map,sl]
   have hge:=rR m pre a b;obtain⟨e1,e2⟩:=lP m pre a b;walk_at "r";rintro x hx1 hx2 hx3;have ex:=kE (a:=a) (b:=b) (m:=m) ⟨hx1,hx2,hx3⟩;subst ex;generalize slL a b m=x at e1 e2 hge hx1 hx2 hx3 ⊢;have en:((cu m (pre++[a])).length:Int) - (x:Int)=(((cu m (pre++[a])).length - x:Nat):Int):=by omega
   have ct:cW (cu m (pre++[a])) none (some (((cu m (pre++[a])).length - x:Nat):Int))=(cu m (pre++[a])).take ((cu m (pre++[a])).length - x):=dO _ _;have cl:=aI (cu m (pre++[a])) none (some (((cu m (pre++[a])).length - x:Nat):Int));have hb1:=hb.2.1;walk_at "r";rw [en];walk_at "r";rw [ct,e1,e2,map_append];exact⟨_,_,_,rfl⟩
  rintro ρ ⟨_,v4,v5,v6,rfl⟩;walk_at "r"
  refine cmZ (xs:=ws) (ys:=eJ m ws) (fun r s=>.tup ((slN r (((cu m ws).drop s).take r.length)).map nD)) ?_ ?_
  .intro r s hrs v w K1 k1;have hr:=(hp r (of_mem_zip hrs).1).2.1;have cb:cW (cu m ws) (some (s:Int)) (some ((s:Int)+(r.length:Int)))=((cu m ws).drop s).take r.length:=by rw [show (s:Int)+(r.length:Int)=((s+r.length:Nat):Int) by omega,gX,show s+r.length - s=r.length by omega]
   have cl:=aI (cu m ws) (some (s:Int)) (some ((s:Int)+(r.length:Int)));have gl:r.length<=10000/\(cW (cu m ws) (some (s:Int)) (some ((s:Int)+(r.length:Int)))).length<=10000:=⟨by omega,by omega⟩
   walk_at "r";rw [cb];exact k1 _ _
  intro v w;have es:(ws.zip (eJ m ws)).map (fun p=>D.tup ((slN p.1 (((cu m ws).drop p.2).take p.1.length)).map nD))=(bz m ws).map fun l=>.tup (l.map nD):=by unfold bz;rw [map_map];rfl
  rw [es];walk_at "r";exact q
theorem kI:∀ds Q,bj ds Q->eT dh gk ds Q:=fun ds Q h=>by
 unfold bj at h
 split at h
 .exact jG _ _ _ h
 .exact h.elim
def di:PTS:=(aG (bh (pOp cm (pFz (pOp iw (pSl 0) (pFz (pC (.int 2305843009213693951))))) (pFz (pOp oY (pFz (pOp oY (pSl 1) (pSl 1))) (pFz (pC (.int 48271)))))) (ao 2)) (aG (bh (pOp iw (pFz (pOp cm (pFz (pOp cm (pSl 2) (pFz (pOp oY (pSl 1) (pFz (pC (.int 9973))))))) (pFz (pC (.int 20021))))) (pFz (pC (.int 2305843009213693951)))) (ao 2)) (aG (bh (pOp iw (pFz (pOp oY (pSl 2) (pSl 2))) (pFz (pC (.int 2305843009213693951)))) (ao 2)) (aG (bh (pOp oY (pFz (pOp cm (pFz (pOp cm (pSl 2) (pFz (pOp oY (pSl 1) (pFz (pC (.int 16807))))))) (pFz (pC (.int 11))))) (pFz (pC (.int 69621)))) (ao 2)) (aG (bh (pOp iw (pSl 2) (pFz (pC (.int 2305843009213693951)))) (ao 2)) (aG (bh (pOp iw (pFz (pOp oY (pSl 2) (pSl 2))) (pFz (pC (.int 2305843009213693951)))) (ao 2)) (bX (pOp yp (pSl 2) (pFz (pC (.int 4096)))))))))))
theorem jH(c k:Int)(Q:PV->Prop)(h:bn ([.int c,.int k]) Q):eT di gm ([.int c,.int k]) Q:=by
 show di _ [some (.dat (.int c)),some (.dat (.int k)),none];obtain⟨⟨h0,h1⟩,q⟩:=h;walk_at "r";exact q _ (ediv_nonneg (emod_nonneg _ (by decide)) (by decide))
theorem kJ:∀ds Q,bn ds Q->eT di gm ds Q:=fun ds Q h=>by
 unfold bn at h
 split at h
 .exact jH _ _ _ h
 .exact h.elim
def dZ:PTS:=(aG (bh (pOp cm (pFz (pCB qG (af (pSl 0) ap))) (pFz (mn (af (pFz (pCB dC (af (pSl 0) ap))) ap)))) (ao 2)) (aG (bh (mn ap) (ao 3)) (aG (bh (pC (.int 0)) (ao 4)) (aG (lB (pB (pOp fLt (pFz (pCB dC (af (pSl 3) ap))) (pSl 1))) (aG (e7 (ly (cf 2)) (ao 5) (aG (bh (cf 5) (ao 6)) (aG (hG (gK (pOr (pB (pOp fGt (pSl 4) (pFz (pC (.int 0))))) (pB (pOp fLt (pSl 5) (pFz (pOp yq (pFz (pC (.int 10))) (pFz (pC (.int 18)))))))) (aG (hC (tH 3 (pOp iw (pFz (cH bn (af (pFz (cf 5)) (af (pFz (pOp cm (pFz (pCB dC (af (pSl 3) ap))) (pFz (pC (.int 1))))) ap)))) (pFz (pC (.int 1000)))))) (bh (pC (.int 0)) (ao 6))) bO)) (lB (vB (pB (pOp fGt (pSl 6) (pFz (pC (.int 0))))) (pB (pOp fLt (pFz (pCB dC (af (pSl 3) ap))) (pSl 1)))) (aG (hC (tH 3 (pOp iw (pSl 6) (pFz (pC (.int 1000)))))) (bh (pOp yp (pSl 6) (pFz (pC (.int 1000)))) (ao 6))))))) (bh (pOp cm (pSl 4) (pFz (pC (.int 1)))) (ao 4)))) (bX (my (pFz (ck (pSl 3) cG (cg (cf 1))))))))))
theorem kK(ns:List Int)(mo:Int)(Q:PV->Prop)(h:bA ([.scr ns,.int mo]) Q):eT dZ ib ([.scr ns,.int mo]) Q:=by
 show dZ _ [some (.dat (.scr ns)),some (.dat (.int mo)),none,none,none,none,none];obtain⟨⟨hn,h0,h1⟩,q⟩:=h;obtain⟨n,rfl⟩:∃n:Nat,mo=(n:Int):=⟨mo.toNat,by omega⟩
 have ecs:ns.map D.int++[D.int (ns.length:Int)]=(ns++[(ns.length:Int)]).map D.int:=by rw [map_append];rfl
 have hnm:(ns.map D.int).length=ns.length:=length_map _;walk_at "r";rw [ecs];generalize hcs:ns++[(ns.length:Int)]=cs;have hcl:cs.length=ns.length+1:=by rw [<- hcs,length_append];rfl
 have hcm:(cs.map D.int).length=cs.length:=length_map _;refine⟨fun m ρ=>∃(x:Option PV) (zs:List Int) (tn:Nat) (v5 v6:Option PV),(x=some (.own (cs.map .int))\/x=some (.dat (.lst (cs.map .int))))/\Dk zs/\zs.length<=n+65/\tn<=zs.length/\m=n - zs.length/\ρ=[some (.dat (.scr ns)),some (.dat (.int (n:Int))),x,some (.own (zs.map .int)),some (.dat (.int (tn:Int))),v5,v6],⟨n,_,[],0,_,_,.inl rfl,nofun,zero_le _,zero_le _,rfl,rfl⟩,?_⟩
 rintro m ρ ⟨x,zs,tn,v5,v6,hx,hz,hzl,htn,hm,rfl⟩;have hzm:(zs.map D.int).length=zs.length:=length_map _
 have fin:∀zs:List Int,Dk zs->n<=zs.length->Q (.own ((zs.take n).map D.int).reverse):=fun zs hz hl=>by
  rw [<- map_reverse];refine q _ (fun x hx=>hz x (mem_of_mem_take (mem_reverse.mp hx))) ?_;rw [length_reverse,length_take,toNat_natCast];omega
 have p18:((10:Int)^(18:Nat))=1000000000000000000:=by decide
 rcases hx with rfl|rfl <;> (
  walk_at "r"
  refine eB (fun c0=>?_) (fun c0=>?_)
  .have c0:zs.length<n:=by omega
   walk_at "r"
   refine⟨fun k ρ=>∃(ys:List Int) (w5 w6:Option PV),Dk ys/\ys.length<=n+k/\zs.length<=ys.length/\(0<k->zs.length<ys.length)/\ρ=[some (.dat (.scr ns)),some (.dat (.int (n:Int))),some (.dat (.lst (cs.map .int))),some (.own (ys.map .int)),some (.dat (.int (tn:Int))),w5,w6],⟨zs,_,_,hz,by omega,le_refl _,fun z=>absurd z (Nat.lt_irrefl _),rfl⟩,?_,?_⟩
   .rintro k ρ d hk ed ⟨ys,w5,w6,hy,hyl,hzy,hpr,rfl⟩;have hk:k<cs.length:=by rw [hcm] at hk;exact hk
    have ed:d=.int (cs.getD k 0):=by rw [ed];exact tJ (by rw [hcm];exact hk)
    subst ed;generalize cs.getD k 0=c;have hym:(ys.map D.int).length=ys.length:=length_map _;walk_at "r"
    refine⟨fun ρ=>∃(us:List Int) (r:Int),Dk us/\0<=r/\((us.length=ys.length+1/\r=0)\/(us.length=ys.length/\0<r))/\ρ=[some (.dat (.scr ns)),some (.dat (.int (n:Int))),some (.dat (.lst (cs.map .int))),some (.own (us.map .int)),some (.dat (.int (tn:Int))),some (.dat (.int c)),some (.dat (.int r))],?_,?_⟩
    .have dm:∀(us:List Int) (z:Int),Dk us->Dk (us++[z % 1000]):=fun us z hu x hx=>by
      rcases mem_append.mp hx with w|w
      .exact hu x w
      .rw [mem_singleton.mp w];exact⟨emod_nonneg _ (by decide),emod_lt_of_pos _ (by decide)⟩
     have app:∀(us:List Int) (z:Int),us.map D.int++[D.int (z % 1000)]=(us++[z % 1000]).map D.int:=fun us z=>by rw [map_append];rfl
     walk_at "r"
     refine eB (fun c1=>?_) (fun c1=>?_)
     .walk_at "r";rintro z hz0;walk_at "r";exact⟨ys++[z % 1000],0,dm ys z hy,by decide,.inl ⟨by rw [length_append];rfl,rfl⟩,by rw [<- app]⟩
     .walk_at "r"
      refine eB (fun c2=>?_) (fun c2=>?_)
      .walk_at "r";rintro z hz0;walk_at "r";exact⟨ys++[z % 1000],0,dm ys z hy,by decide,.inl ⟨by rw [length_append];rfl,rfl⟩,by rw [<- app]⟩
      .have c3:¬ (c<1000000000000000000):=c2;walk_at "r";exact⟨ys,c,hy,by omega,.inr ⟨rfl,by omega⟩,rfl⟩
    .rintro ρ ⟨us,r,hu,hr,hc,rfl⟩
     have dm:∀(us:List Int) (z:Int),Dk us->Dk (us++[z % 1000]):=fun us z hu x hx=>by
      rcases mem_append.mp hx with w|w
      .exact hu x w
      .rw [mem_singleton.mp w];exact⟨emod_nonneg _ (by decide),emod_lt_of_pos _ (by decide)⟩
     have app:∀(us:List Int) (z:Int),us.map D.int++[D.int (z % 1000)]=(us++[z % 1000]).map D.int:=fun us z=>by rw [map_append];rfl
     walk_at "r";refine⟨fun m ρ=>∃(vs:List Int) (r:Int),Dk vs/\0<=r/\us.length<=vs.length/\(vs.length<=n\/vs.length=us.length)/\(vs.length=us.length->us.length=ys.length->0<r)/\m=n - vs.length/\ρ=[some (.dat (.scr ns)),some (.dat (.int (n:Int))),some (.dat (.lst (cs.map .int))),some (.own (vs.map .int)),some (.dat (.int (tn:Int))),some (.dat (.int c)),some (.dat (.int r))],⟨_,us,r,hu,hr,le_refl _,.inr rfl,fun _ e=>by omega,rfl,rfl⟩,?_⟩
     rintro m ρ ⟨vs,r,hv,hr0,huv,hvn,hrp,hm2,rfl⟩;have hvm:(vs.map D.int).length=vs.length:=length_map _
     have done:¬ (0<r/\vs.length<n)->∃(ys:List Int) (w5 w6:Option PV),Dk ys/\ys.length<=n+(k+1)/\zs.length<=ys.length/\(0<k+1->zs.length<ys.length)/\[some (.dat (.scr ns)),some (.dat (.int (n:Int))),some (.dat (.lst (cs.map .int))),some (.own (vs.map .int)),some (.dat (.int (tn:Int))),some (.dat (.int c)),some (.dat (.int r))]=[some (PV.dat (.scr ns)),some (.dat (.int (n:Int))),some (.dat (.lst (cs.map .int))),some (.own (ys.map .int)),some (.dat (.int (tn:Int))),w5,w6]:=fun hd=>by
      refine⟨vs,_,_,hv,by omega,by omega,fun _=>?_,rfl⟩
      rcases hc with ⟨e1,e2⟩|⟨e1,e2⟩
      .omega
      .by_cases g:vs.length=us.length
       .have:=hrp g e1
        by_cases k0:0<k
        .have:=hpr k0;omega
        .omega
       .omega
     walk_at "r"
     refine eB (fun c3=>?_) (fun c3=>?_)
     .walk_at "r"
      refine eB (fun c4=>?_) (fun c4=>?_)
      .walk_at "r"
       refine⟨_,?_,vs++[r % 1000],r / 1000,dm vs r hv,ediv_nonneg hr0 (by decide),?_,?_,?_,rfl,by rw [<- app]⟩
       .rw [length_append];show n - (vs.length+1)<m;omega
       .rw [length_append];omega
       .rw [length_append];show vs.length+1<=n\/_;omega
       .rw [length_append];intro e;exfalso;have e:vs.length+1=us.length:=e;omega
      .exact done (by omega)
     .exact done (by omega)
   .rintro ρ ⟨ys,w5,w6,hy,hyl,hzy,hpr,rfl⟩;rw [hcm] at hyl hpr;walk_at "r";exact⟨_,by omega,_,ys,tn+1,_,_,.inr rfl,hy,by omega,by have:=hpr (by omega);omega,rfl,by rw [show ((tn:Int)+1)=((tn+1:Nat):Int) by omega]⟩
  .have c0:n<=zs.length:=by omega
   walk_at "r";rw [dO,<- map_take];exact fin zs hz c0)
theorem lU:∀ds Q,bA ds Q->eT dZ ib ds Q:=fun ds Q h=>by
 unfold bA at h
 split at h
 .exact kK _ _ _ h
 .exact h.elim
def d0:PTS:=(bX (xt 0))
theorem kL(ds:List D)(Q:PV->PV->Prop)(h:ay (.own ds) ([]) Q):rK d0 ic (.own ds) ([]) Q:=by
 show d0 _ [some (.own ds)];obtain⟨zs,rfl,⟨hz,h0,h1⟩,q⟩:=h;obtain⟨ys,z,rfl⟩:∃ys z,zs=ys++[z]:=⟨zs.dropLast,zs.getLast (ne_nil_of_length_pos h0),(dropLast_concat_getLast _).symm⟩
 have hm:((ys++[z]).map D.int)=ys.map D.int++[D.int z]:=by rw [map_append];rfl
 have hl:(ys.map D.int++[D.int z]).length - 1=(ys.map D.int).length:=by rw [length_append];rfl
 rw [hm];walk_at "r";refine⟨.int z,by rw [hl,getElem?_append_right (le_refl _),sub_self];rfl,?_⟩;walk_at "r";rw [dropLast_concat];have hzz:=hz z (mem_append_right _ (mem_singleton.mpr rfl));exact q z ys hzz.1 hzz.2 (fun x hx=>hz x (mem_append_left _ hx)) (by rw [length_append];rfl)
theorem lV:∀p ds Q,p.isOwn=true->ay p ds Q->rK d0 ic p ds Q:=fun p ds Q _ h=>by
 unfold ay at h
 split at h
 .exact kL _ _ h
 .exact h.elim
def cF:PTS:=(aG (bh (pOp fIx (pFz (mn (af (pFz (pC (.int 2))) (af (pFz (pC (.int 2))) (af (pFz (pC (.int 3))) (af (pFz (pC (.int 26))) ap)))))) (pFz (pOp iw (pFz (cA ay 0 ap)) (pFz (pC (.int 4)))))) (ao 1)) (aG (bh (pOp iw (pFz (cA ay 0 ap)) (pFz (pC (.int 26)))) (ao 2)) (aG (bh (pOp fIx (pFz (mn (af (pFz (pC (.int 1))) (af (pFz (pC (.int 5))) (af (pFz (pC (.int 25))) ap))))) (pFz (pOp iw (pFz (cA ay 0 ap)) (pFz (pC (.int 3)))))) (ao 3)) (bX (kn [none,some 2,some 3] (rD (af (pFz (cf 1)) ap)) (ao 0) tG (pOp fIx (pFz (pC (.str [97,98,99,100,101,102,103,104,105,106,107,108,109,110,111,112,113,114,115,116,117,118,119,120,121,122]))) (pFz (pOp iw (pFz (pOp cm (pSl 1) (pFz (pOp oY (pSl 2) (pSl 0))))) (pFz (pC (.int 26)))))))))))
theorem il(ds:List D)(Q:PV->PV->Prop)(h:aW (.own ds) ([]) Q):rK cF eV (.own ds) ([]) Q:=by
 show cF _ [some (.own ds),none,none,none];obtain⟨zs,rfl,⟨hz,h3,h1⟩,q⟩:=h;have g0:Dk zs/\0<zs.length/\zs.length<=100000:=⟨hz,by omega,h1⟩
 walk_at "r";rintro a y1 ha0 ha1 hd1 hl1;have g1:Dk y1/\0<y1.length/\y1.length<=100000:=⟨hd1,by omega,by omega⟩
 have hm:∃n:Nat,atI [D.int 2,D.int 2,D.int 3,D.int 26] (a % 4)=some (.int (n:Int))/\(n=2\/n=3\/n=26):=by
  rcases (show a % 4=0\/a % 4=1\/a % 4=2\/a % 4=3 by omega) with e|e|e|e <;> rw [e]
  .exact⟨2,rfl,.inl rfl⟩
  .exact⟨2,rfl,.inl rfl⟩
  .exact⟨3,rfl,.inr (.inl rfl)⟩
  .exact⟨26,rfl,.inr (.inr rfl)⟩
 obtain⟨n,en,hn⟩:=hm;walk_at "r";refine⟨_,en,?_⟩;walk_at "r";rintro b y2 hb0 hb1 hd2 hl2;have g2:Dk y2/\0<y2.length/\y2.length<=100000:=⟨hd2,by omega,by omega⟩
 walk_at "r";rintro c y3 hc0 hc1 hd3 hl3
 have hst:∃st:Nat,atI [D.int 1,D.int 5,D.int 25] (c % 3)=some (.int (st:Int))/\(st=1\/st=5\/st=25):=by
  rcases (show c % 3=0\/c % 3=1\/c % 3=2 by omega) with e|e|e <;> rw [e]
  .exact⟨1,rfl,.inl rfl⟩
  .exact⟨5,rfl,.inr (.inl rfl)⟩
  .exact⟨25,rfl,.inr (.inr rfl)⟩
 obtain⟨st,est,hst⟩:=hst;walk_at "r";refine⟨_,est,?_⟩;obtain⟨f,hf⟩:∃f:Nat,b % 26=(f:Int):=⟨(b % 26).toNat,by omega⟩
 rw [hf];have hf26:f<26:=by omega
 have hn26:n<=26:=by omega
 have hst25:st<=25:=by omega
 walk_at "r"
 refine cmR (fun k=>.str [97+(f+st*k) % 26]) (fun k hk v K1 k1=>?_) (fun v=>?_)
 .have hk:k<n:=by rw [toNat_natCast] at hk;exact hk
  have hk26:k<26:=by omega
  walk_at "r";rw [show ((f:Int)+(st:Int)*(k:Int)) % 26=(((f+st*k) % 26:Nat):Int) by rw [natCast_emod,natCast_add,natCast_mul];rfl];exact⟨_,wm (mod_lt _ (by decide)),k1 _⟩
 .walk_at "r";rw [toNat_natCast,show (List.range n).map (fun k=>D.str [97+(f+st*k) % 26])=(rS n f st).map fun c=>.str [c] by unfold rS;rw [map_map];rfl];have hll:(rS n f st).length=n:=by unfold rS;rw [length_map,length_range]
  exact q (rS n f st) y3 (by omega) (by omega) (rg n f st) (t7 hn hst hf26) hd3 (by omega)
theorem iI:∀p ds Q,p.isOwn=true->aW p ds Q->rK cF eV p ds Q:=fun p ds Q _ h=>by
 unfold aW at h
 split at h
 .exact il _ _ h
 .exact h.elim
def dk:PTS:=(aG (bh (pC (.str [])) (ao 3)) (aG (e7 (rD (af (pFz (cf 2)) ap)) (ao 4) (bh (pOp cm (pSl 3) (pFz (pOp fIx (pSl 1) (pFz (pOp iw (pFz (cA ay 0 ap)) (pFz (pCB dC (af (pSl 1) ap)))))))) (ao 3))) (bX (cf 3))))
theorem jI(ds es:List D)(n:Int)(Q:PV->PV->Prop)(h:bo (.own ds) ([.lst es,.int n]) Q):rK dk gu (.own ds) ([.lst es,.int n]) Q:=by
 show dk _ [some (.own ds),some (.dat (.lst es)),some (.dat (.int n)),none,none];obtain⟨zs,rfl,ls,rfl,⟨hl0,hl1,hL⟩,⟨hz,h1⟩,⟨hn0,hn1⟩,q⟩:=h;have hlm:(ls.map fun c=>D.str [c]).length=ls.length:=length_map _;walk_at "r"
 refine⟨fun k ρ=>∃(w:List Nat) (ys:List Int) (v4:Option PV),w.length=k/\Lts w/\(∀c∈w,c∈ls)/\Dk ys/\ys.length+k=zs.length/\ρ=[some (.own (ys.map .int)),some (.dat (.lst (ls.map fun c=>.str [c]))),some (.dat (.int n)),some (.dat (.str w)),v4],⟨[],zs,_,rfl,Lts.nil,(fun c hc=>nomatch hc),hz,rfl,rfl⟩,?_,?_⟩
 .rintro k ρ _ hk rfl ⟨w,ys,v4,hw,hwL,hwc,hy,hyl,rfl⟩;have hk2:(k:Int)<n:=by omega
  have g1:Dk ys/\0<ys.length/\ys.length<=100000:=⟨hy,by omega,by omega⟩
  walk_at "r";rintro z y2 hz0 hz1 hd2 hl2;obtain⟨j,hj⟩:∃j:Nat,z % (ls.length:Int)=(j:Int):=⟨(z % (ls.length:Int)).toNat,by have:=emod_nonneg z (show (ls.length:Int)≠0 by omega);omega⟩
  have hj2:j<ls.length:=by have:=emod_lt_of_pos z (show 0<(ls.length:Int) by omega);omega
  walk_at "r";rw [hlm,hj];refine⟨_,cQ (j:=j) (by rw [getElem?_map,getElem?_eq_getElem hj2];rfl) rfl,?_⟩;walk_at "r";refine⟨w++[ls[j]],y2,_,by rw [length_append,hw];rfl,hwL.app (Lts.one (hL _ (getElem_mem hj2))),fun c hc=>?_,hd2,by omega,rfl⟩
  rcases mem_append.mp hc with x|x
  .exact hwc c x
  .rw [mem_singleton.mp x];exact getElem_mem hj2
 .rintro ρ ⟨w,ys,v4,hw,hwL,hwc,hy,hyl,rfl⟩;walk_at "r";exact q w ys hw hwL hwc hy hyl
theorem kM:∀p ds Q,p.isOwn=true->bo p ds Q->rK dk gu p ds Q:=fun p ds Q _ h=>by
 unfold bo at h
 split at h
 .exact jI _ _ _ _ h
 .exact h.elim
def dn:PTS:=(bX (qE (wA .int (pSl 0)) (vC (wA .bool (pSl 0)))))
theorem jJ(z:Int)(Q:PV->Prop)(h:aZ ([.int z]) Q):eT dn gy ([.int z]) Q:=by
 show dn _ [some (.dat (.int z))];walk_at "r";exact h
theorem kN:∀ds Q,aZ ds Q->eT dn gy ds Q:=fun ds Q h=>by
 unfold aZ at h
 split at h
 .exact jJ _ _ h
 .exact h.elim
def dr:PTS:=(aG (bh (mn ap) (ao 2)) (aG (e7 (rD (af (pFz (pCB dC (af (pSl 0) ap))) ap)) (ao 3) (gK (pB (pOp k8 (pFz (pOp fIx (pSl 0) (pSl 3))) (pFz (pOp fIx (pSl 1) (pSl 3))))) (hC (tH 2 (cf 3))) bO)) (bX (cf 2))))
theorem jK(a b:List Nat)(Q:PV->Prop)(h:aS ([.str a,.str b]) Q):eT dr gA ([.str a,.str b]) Q:=by
 show dr _ [some (.dat (.str a)),some (.dat (.str b)),none,none];obtain⟨⟨hab,hb⟩,q⟩:=h;have hmin:min a.length b.length=a.length:=by omega
 walk_at "r"
 refine⟨fun k ρ=>∃v3:Option PV,ρ=[some (.dat (.str a)),some (.dat (.str b)),some (.own ((((List.range k).filter fun k=>decide (a.getD k 0≠b.getD k 0))).map nD)),v3],⟨_,rfl⟩,?_,?_⟩
 .rintro k ρ _ hk rfl ⟨v3,rfl⟩;have hk:k<a.length:=by rw [toNat_natCast] at hk;exact hk
  have hl:(((List.range k).filter fun k=>decide (a.getD k 0≠b.getD k 0)).map nD).length<=10000:=by
   rw [length_map];have:=length_filter_le (fun k=>decide (a.getD k 0≠b.getD k 0)) (List.range k);rw [length_range] at this;omega
  have ga:a.getD k 0=a[k]:=by rw [getD_eq_getElem?_getD,getElem?_eq_getElem hk];rfl
  have gb:b.getD k 0=b[k]'(by omega):=by rw [getD_eq_getElem?_getD,getElem?_eq_getElem (show k<b.length by omega)];rfl
  have stp:(List.range (k+1)).filter (fun k=>decide (a.getD k 0≠b.getD k 0))=(List.range k).filter (fun k=>decide (a.getD k 0≠b.getD k 0))++(if a.getD k 0≠b.getD k 0 then [k] else []):=by
   rw [range_succ,filter_append];congr 1
   by_cases e:a.getD k 0≠b.getD k 0
   .rw [if_pos e,filter_cons_of_pos (by exact decide_eq_true e)];rfl
   .rw [if_neg e,filter_cons_of_neg (by simpa using e)];rfl
  walk_at "r";refine⟨_,cQ (j:=k) (getElem?_eq_getElem hk) rfl,?_⟩;walk_at "r";refine⟨_,cQ (j:=k) (getElem?_eq_getElem (show k<b.length by omega)) rfl,?_⟩;walk_at "r"
  refine kh (fun c=>?_) (fun c=>?_)
  .walk_at "r";rw [stp,if_pos (by rw [ga,gb];exact fun z=>c (by rw [z])),map_append];exact⟨_,rfl⟩
  .rw [stp,if_neg (by rw [ga,gb];exact fun z=>z (singleton_inj.mp c)),append_nil];exact⟨_,rfl⟩
 .rintro ρ ⟨v3,rfl⟩;walk_at "r";rw [toNat_natCast];unfold slN at q;rw [hmin] at q;exact q
theorem kO:∀ds Q,aS ds Q->eT dr gA ds Q:=fun ds Q h=>by
 unfold aS at h
 split at h
 .exact jK _ _ _ h
 .exact h.elim
def dt:PTS:=(aG (bh (cA aW 0 ap) (ao 1)) (aG (bh (cA bo 0 (af (pFz (cf 1)) (af (pFz (pC (.int 18))) ap))) (ao 2)) (aG (bh (mn ap) (ao 3)) (aG (e7 (rD (af (pFz (pOp cm (pFz (pC (.int 1))) (pFz (pOp iw (pFz (cA ay 0 ap)) (pFz (pC (.int 7))))))) ap)) (ao 4) (aG (bh (pOp iw (pFz (cA ay 0 ap)) (pFz (pC (.int 14)))) (ao 5)) (aG (bh (ck (pSl 2) (cg (cf 5)) (cg (pOp cm (pFz (pOp cm (pSl 5) (pFz (pC (.int 1))))) (pFz (pOp iw (pFz (cA ay 0 ap)) (pFz (pC (.int 7)))))))) (ao 6)) (aG (bh (pOp iw (pFz (cA ay 0 ap)) (pFz (pC (.int 6)))) (ao 7)) (aG (hG (gK (pB (pOp rL (pSl 7) (pFz (pC (.int 0))))) (bh (cA bo 0 (af (pFz (cf 1)) (af (pFz (pOp cm (pFz (pC (.int 1))) (pFz (pOp iw (pSl 5) (pFz (pC (.int 6))))))) ap))) (ao 6)) bO)) (aG (hG (gK (vB (pB (pOp rL (pSl 7) (pFz (pC (.int 1))))) (pB (pOp k8 (pSl 3) (pFz (mn ap))))) (bh (pOp cm (pFz (ck (pFz (pOp fIx (pSl 3) (pFz (pUn qH (pFz (pC (.int 1))))))) (cg (pUn qH (pFz (pC (.int 4))))) cG)) (pSl 6)) (ao 6)) bO)) (aG (hG (gK (vB (pB (pOp rL (pSl 7) (pFz (pC (.int 2))))) (pB (pOp k8 (pSl 3) (pFz (mn ap))))) (bh (pOp cm (pFz (ck (pFz (pOp fIx (pSl 3) (pFz (pUn qH (pFz (pC (.int 1))))))) (cg (pOp iw (pSl 5) (pFz (pC (.int 3))))) cG)) (pFz (ck (pSl 6) cG (cg (pC (.int 2)))))) (ao 6)) bO)) (aG (hG (gK (pB (pOp rL (pSl 7) (pFz (pC (.int 3))))) (bh (ck (pFz (pOp oY (pSl 6) (pFz (pC (.int 60))))) cG (cg (pOp mC (pFz (pC (.int 60))) (pSl 5)))) (ao 6)) bO)) (aG (bh (pOp iw (pFz (cA ay 0 ap)) (pFz (pCB dC (af (pSl 6) ap)))) (ao 8)) (aG (hG (gK (pB (pOp fGt (pSl 7) (pFz (pC (.int 3))))) (aG (bh (pOp fIx (pSl 1) (pFz (pOp iw (pFz (cA ay 0 ap)) (pFz (pCB dC (af (pSl 1) ap)))))) (ao 9)) (bh (pOp cm (pFz (pOp cm (pFz (ck (pSl 6) cG (cg (cf 8)))) (pSl 9))) (pFz (ck (pSl 6) (cg (pOp cm (pSl 8) (pFz (pC (.int 1))))) cG))) (ao 6))) bO)) (hC (tH 3 (ck (pSl 6) cG (cg (pC (.int 60)))))))))))))))) (bX (cf 3))))))
theorem jL(ds:List D)(Q:PV->PV->Prop)(h:bw (.own ds) ([]) Q):rK dt gB (.own ds) ([]) Q:=by
 show dt _ [some (.own ds),none,none,none,none,none,none,none,none,none];obtain⟨zs,rfl,⟨hz,h1,h2⟩,q⟩:=h;have g0:Dk zs/\3<=zs.length/\zs.length<=100000:=⟨hz,by omega,by omega⟩
 walk_at "r";rintro ls y1 hl2 hl26 hlL hlN hd1 hy1;have hlm:(ls.map fun c=>D.str [c]).length=ls.length:=length_map _;have gl:0<ls.length/\ls.length<=26/\Lts ls:=⟨by omega,hl26,hlL⟩
 have g1:Dk y1/\y1.length<=100000:=⟨hd1,by omega⟩
 have gn:(0:Int)<=18/\(18:Int)<=(y1.length:Int):=⟨by omega,by omega⟩
 walk_at "r";rintro bs y2 hb hbL _ hd2 hy2;have hb:bs.length=18:=hb;have hy2:y2.length+18=y1.length:=hy2;have g2:Dk y2/\0<y2.length/\y2.length<=100000:=⟨hd2,by omega,by omega⟩
 walk_at "r";rintro n y3 hn0 hn1 hd3 hy3;have hn7:=emod_nonneg n (show (7:Int)≠0 by decide);have hn8:=emod_lt_of_pos n (show (0:Int)<7 by decide);walk_at "r"
 refine⟨fun k ρ=>∃(rs:List (List Nat)) (y:List Int) (v4 v5 v6 v7 v8 v9:Option PV),rs.length=k/\Pcs 60 rs/\Dk y/\(y3.length<=y.length+11*k/\y.length<=y3.length)/\ρ=[some (.own (y.map .int)),some (.dat (.lst (ls.map fun c=>.str [c]))),some (.dat (.str bs)),some (.own (rs.map .str)),v4,v5,v6,v7,v8,v9],⟨[],y3,_,_,_,_,_,_,rfl,(fun w hw=>nomatch hw),hd3,⟨by omega,by omega⟩,rfl⟩,?_,?_⟩
 .rintro k ρ _ hk rfl ⟨rs,y,v4,v5,v6,v7,v8,v9,hrl,hrs,hdy,⟨hyl,hyu⟩,rfl⟩;have hk7:k<7:=by omega
  have hrm:(rs.map D.str).length=rs.length:=length_map _;have eq1:mr (.lst (rs.map .str)) (.lst []):=lQ fun w hw=>(hrs w hw).2.2;have eq2:=kF rs;have ga:Dk y/\0<y.length/\y.length<=100000:=⟨hdy,by omega,by omega⟩
  walk_at "r";rintro bg ya hbg0 hbg1 hda hya;have hb0:=emod_nonneg bg (show (14:Int)≠0 by decide);have hb1:=emod_lt_of_pos bg (show (0:Int)<14 by decide);have gb:Dk ya/\0<ya.length/\ya.length<=100000:=⟨hda,by omega,by omega⟩
  walk_at "r";generalize bg % 14=g at hb0 hb1 ⊢;clear hbg0 hbg1 bg;obtain⟨g,rfl⟩:∃m:Nat,g=(m:Int):=⟨g.toNat,by omega⟩
  rintro l yb hl0 hl1 hdb hyb;have hl3:=emod_nonneg l (show (7:Int)≠0 by decide);have hl4:=emod_lt_of_pos l (show (0:Int)<7 by decide);have gc:Dk yb/\0<yb.length/\yb.length<=100000:=⟨hdb,by omega,by omega⟩
  walk_at "r";generalize l % 7=l at hl3 hl4 ⊢;obtain⟨l,rfl⟩:∃m:Nat,l=(m:Int):=⟨l.toNat,by omega⟩
  have ec:cW bs (some (g:Int)) (some ((g:Int)+1+(l:Int)))=(bs.drop g).take (1+l):=by rw [show (g:Int)+1+(l:Int)=((g+1+l:Nat):Int) by omega,gX,show g+1+l - g=1+l by omega]
  rw [ec];have u0:0<((bs.drop g).take (1+l)).length:=by rw [length_take,length_drop];omega
  have u1:((bs.drop g).take (1+l)).length<=7:=by rw [length_take,length_drop];omega
  have uL:Lts ((bs.drop g).take (1+l)):=(hbL.drop _).take _;generalize (bs.drop g).take (1+l)=u at u0 u1 uL ⊢;rintro so yc hs0 hs1 hdc hyc;have hs2:=emod_nonneg so (show (6:Int)≠0 by decide);have hs3:=emod_lt_of_pos so (show (0:Int)<6 by decide);walk_at "r";generalize so % 6=so at hs2 hs3 ⊢
  refine⟨fun ρ=>∃(u:List Nat) (yd:List Int),0<u.length/\u.length<=7/\Lts u/\Dk yd/\(yc.length<=yd.length+6/\yd.length<=yc.length)/\ρ=[some (.own (yd.map .int)),some (.dat (.lst (ls.map fun c=>.str [c]))),some (.dat (.str bs)),some (.own (rs.map .str)),some (.dat (.int (k:Int))),some (.dat (.int (g:Int))),some (.dat (.str u)),some (.dat (.int so)),v8,v9],?_,?_⟩
  .walk_at "r"
   refine eB (fun c=>?_) (fun c=>?_)
   .have gd:0<=1+(g:Int) % 6/\1+(g:Int) % 6<=(yc.length:Int):=⟨by omega,by omega⟩
    have ge:Dk yc/\yc.length<=100000:=⟨hdc,by omega⟩
    walk_at "r";rintro w yd hw hwL _ hdd hyd;walk_at "r";exact⟨w,yd,by omega,by omega,hwL,hdd,⟨by omega,by omega⟩,rfl⟩
   .exact⟨u,yc,u0,u1,uL,hdc,⟨by omega,by omega⟩,rfl⟩
  clear u0 u1 uL u;rintro ρ ⟨u,yd,u0,u1,uL,hdd,⟨hyd0,hyd1⟩,rfl⟩;walk_at "r"
  refine⟨fun ρ=>∃u:List Nat,0<u.length/\u.length<=67/\Lts u/\ρ=[some (.own (yd.map .int)),some (.dat (.lst (ls.map fun c=>.str [c]))),some (.dat (.str bs)),some (.own (rs.map .str)),some (.dat (.int (k:Int))),some (.dat (.int (g:Int))),some (.dat (.str u)),some (.dat (.int so)),v8,v9],?_,?_⟩
  .walk_at "r"
   refine eB (fun c=>?_) (fun c=>?_)
   .walk_at "r";rw [eq2]
    refine kh (fun c2=>?_) (fun c2=>?_)
    .have hr0:0<rs.length:=length_pos_iff.mpr c2;have hlp:=hrs _ (mD (show rs.length - 1<rs.length by omega));have hl1:=hlp.2.1;have cl:=aI (pw rs (rs.length - 1)) (some (-4)) none;walk_at "r";refine⟨_,lR hr0,?_⟩;walk_at "r";exact⟨_,by rw [length_append];omega,by rw [length_append];omega,(hlp.2.2.cut _ _).app uL,rfl⟩
    .exact⟨u,u0,by omega,uL,rfl⟩
   .exact⟨u,u0,by omega,uL,rfl⟩
  clear u0 u1 uL u;rintro ρ ⟨u,u0,u1,uL,rfl⟩;walk_at "r"
  refine⟨fun ρ=>∃u:List Nat,0<u.length/\u.length<=67/\Lts u/\ρ=[some (.own (yd.map .int)),some (.dat (.lst (ls.map fun c=>.str [c]))),some (.dat (.str bs)),some (.own (rs.map .str)),some (.dat (.int (k:Int))),some (.dat (.int (g:Int))),some (.dat (.str u)),some (.dat (.int so)),v8,v9],?_,?_⟩
  .walk_at "r"
   refine eB (fun c=>?_) (fun c=>?_)
   .walk_at "r";rw [eq2]
    refine kh (fun c2=>?_) (fun c2=>?_)
    .have hr0:0<rs.length:=length_pos_iff.mpr c2;have hlp:=hrs _ (mD (show rs.length - 1<rs.length by omega));have hl1:=hlp.2.1;have cl:=aI (pw rs (rs.length - 1)) (some ((g:Int) % 3)) none;have e2:cW u none (some 2)=u.take 2:=by rw [show (2:Int)=((2:Nat):Int) from rfl,dO]
     have t2:0<(u.take 2).length/\(u.take 2).length<=2:=⟨by rw [length_take];omega,by rw [length_take];omega⟩
     have l2:=aI u none (some 2);walk_at "r";refine⟨_,lR hr0,?_⟩;walk_at "r";rw [e2];exact⟨_,by rw [length_append];omega,by rw [length_append];omega,(hlp.2.2.cut _ _).app (uL.take _),rfl⟩
    .exact⟨u,u0,by omega,uL,rfl⟩
   .exact⟨u,u0,by omega,uL,rfl⟩
  clear u0 u1 uL u;rintro ρ ⟨u,u0,u1,uL,rfl⟩;walk_at "r"
  refine⟨fun ρ=>∃u:List Nat,0<u.length/\u.length<=67/\Lts u/\ρ=[some (.own (yd.map .int)),some (.dat (.lst (ls.map fun c=>.str [c]))),some (.dat (.str bs)),some (.own (rs.map .str)),some (.dat (.int (k:Int))),some (.dat (.int (g:Int))),some (.dat (.str u)),some (.dat (.int so)),v8,v9],?_,?_⟩
  .walk_at "r"
   refine eB (fun c=>?_) (fun c=>?_)
   .have rl:(mh u 60).length=60*u.length:=by rw [gY];rfl
    have rb:(-1000000:Int)<=60/\(60:Int)<=1000000/\Int.toNat 60*u.length<=1000000:=⟨by decide,by decide,by show 60*u.length<=_;omega⟩
    have e6:cW (mh u 60) none (some (60 - (g:Int)))=(mh u 60).take (60 - g):=by rw [show (60:Int) - (g:Int)=((60 - g:Nat):Int) by omega,dO]
    walk_at "r";rw [e6];exact⟨_,by rw [length_take,rl];omega,by rw [length_take];omega,(uL.rep _).take _,rfl⟩
   .exact⟨u,u0,by omega,uL,rfl⟩
  clear u0 u1 uL u;rintro ρ ⟨u,u0,u1,uL,rfl⟩;have ge:Dk yd/\0<yd.length/\yd.length<=100000:=⟨hdd,by omega,by omega⟩
  walk_at "r";rintro at_ ye ha0 ha1 hde hye;obtain⟨j,hj⟩:∃j:Nat,at_ % (u.length:Int)=(j:Int):=⟨(at_ % (u.length:Int)).toNat,by have:=emod_nonneg at_ (show (u.length:Int)≠0 by omega);omega⟩
  have hj2:j<u.length:=by have:=emod_lt_of_pos at_ (show 0<(u.length:Int) by omega);omega
  walk_at "r";rw [hj]
  refine⟨fun ρ=>∃(u:List Nat) (yf:List Int) (v9:Option PV),0<u.length/\u.length<=67/\Lts u/\Dk yf/\(ye.length<=yf.length+1/\yf.length<=ye.length)/\ρ=[some (.own (yf.map .int)),some (.dat (.lst (ls.map fun c=>.str [c]))),some (.dat (.str bs)),some (.own (rs.map .str)),some (.dat (.int (k:Int))),some (.dat (.int (g:Int))),some (.dat (.str u)),some (.dat (.int so)),some (.dat (.int (j:Int))),v9],?_,?_⟩
  .walk_at "r"
   refine eB (fun c=>?_) (fun c=>?_)
   .have gf:Dk ye/\0<ye.length/\ye.length<=100000:=⟨hde,by omega,by omega⟩
    walk_at "r";rintro sg yf hg0 hg1 hdf hyf;obtain⟨i,hi⟩:∃i:Nat,sg % (ls.length:Int)=(i:Int):=⟨(sg % (ls.length:Int)).toNat,by have:=emod_nonneg sg (show (ls.length:Int)≠0 by omega);omega⟩
    have hi2:i<ls.length:=by have:=emod_lt_of_pos sg (show 0<(ls.length:Int) by omega);omega
    have hat:atI (ls.map fun c=>D.str [c]) (i:Int)=some (.str [ls[i]]):=cQ (j:=i) (by rw [getElem?_map,getElem?_eq_getElem hi2];rfl) rfl;have c0:=hlL _ (getElem_mem hi2);have e1:cW u none (some (j:Int))=u.take j:=dO _ _;have e2:cW u (some ((j:Int)+1)) none=u.drop (j+1):=by rw [show (j:Int)+1=((j+1:Nat):Int) by omega,fk]
    have l1:=aI u none (some (j:Int));have l2:=aI u (some ((j:Int)+1)) none;walk_at "r";rw [hlm,hi];refine⟨_,hat,?_⟩;walk_at "r";rw [e1,e2]
    refine⟨_,yf,_,?_,?_,((uL.take _).app (Lts.one c0)).app (uL.drop _),hdf,⟨by omega,by omega⟩,rfl⟩
    .rw [length_append,length_append];show 0<_+1+_;omega
    .rw [length_append,length_append,length_take,length_drop];show _+1+_<=_;omega
   .exact⟨u,ye,_,u0,u1,uL,hde,⟨by omega,by omega⟩,rfl⟩
  clear u0 u1 uL hj2 hj ha0 ha1 u;rintro ρ ⟨u,yf,v9,u0,u1,uL,hdf,⟨hyf0,hyf1⟩,rfl⟩;have e6:cW u none (some 60)=u.take 60:=by rw [show (60:Int)=((60:Nat):Int) from rfl,dO]
  walk_at "r";rw [e6];refine⟨rs++[u.take 60],yf,_,_,_,_,_,_,by rw [length_append,hrl];rfl,fun w hw=>?_,hdf,⟨by omega,by omega⟩,by rw [map_append];rfl⟩
  rcases mem_append.mp hw with h|h
  .exact hrs w h
  .rw [mem_singleton.mp h];exact⟨by rw [length_take];omega,by rw [length_take];omega,uL.take _⟩
 .rintro ρ ⟨rs,y,v4,v5,v6,v7,v8,v9,hrl,hrs,hdy,⟨hyl,hyu⟩,rfl⟩;walk_at "r";exact q rs y (by omega) (by omega) hrs hdy (by omega) (by omega)
theorem kP:∀p ds Q,p.isOwn=true->bw p ds Q->rK dt gB p ds Q:=fun p ds Q _ h=>by
 unfold bw at h
 split at h
 .exact jL _ _ h
 .exact h.elim
def ee:PTS:=(bX (qE (pOp fLe (pSl 0) (pSl 2)) (pOp fLt (pSl 2) (pFz (pOp cm (pSl 0) (pFz (pCB dC (af (pSl 1) ap))))))))
theorem kQ(a p:Int)(r:List Nat)(Q:PV->Prop)(h:br ([.int a,.str r,.int p]) Q):eT ee ie ([.int a,.str r,.int p]) Q:=by
 show ee _ [some (.dat (.int a)),some (.dat (.str r)),some (.dat (.int p))];obtain⟨hr,q⟩:=h;walk_at "r"
 refine eB (fun c=>?_) (fun c=>?_)
 .walk_at "r";rw [decide_eq_true c] at q;exact q
 .rw [decide_eq_false c] at q;exact q
theorem lW:∀ds Q,br ds Q->eT ee ie ds Q:=fun ds Q h=>by
 unfold br at h
 split at h
 .exact kQ _ _ _ _ h
 .exact h.elim
def ef:PTS:=(bX (yr (kn [none,some 2,some 1,some 0] (rD (af (pFz (pCB dC (af (pSl 0) ap))) ap)) (ao 0) (pB (cH br (af (pFz (pOp fIx (pSl 2) (pSl 0))) (af (pFz (pOp fIx (pSl 3) (pSl 0))) (af (pFz (cf 1)) ap))))) (cf 0))))
theorem kR(ds es:List D)(z:Int)(Q:PV->Prop)(h:bB ([.lst ds,.tup es,.int z]) Q):eT ef ig ([.lst ds,.tup es,.int z]) Q:=by
 show ef _ [some (.dat (.lst ds)),some (.dat (.tup es)),some (.dat (.int z))];obtain⟨ws,rfl,ss,rfl,p,rfl,⟨hl,hn,hp⟩,q⟩:=h;have hlm:(ws.map D.str).length=ws.length:=length_map _;walk_at "r"
 refine cfR (fun i=>decide (ss.getD i 0<=p/\p<ss.getD i 0+(ws.getD i []).length)) nD (fun i hi v K1 K2 k1 k2=>?_) (fun v=>?_)
 .rw [hlm,toNat_natCast] at hi
  have hw:(ws.getD i []).length<=10000:=by
   have:=(hp (ws.getD i []) (by rw [getD_eq_getElem?_getD,getElem?_eq_getElem hi];exact getElem_mem hi)).2.1;omega
  walk_at "r";refine⟨_,iF (by omega),?_⟩;walk_at "r";refine⟨_,fF hi,?_⟩;walk_at "r"
  have e:(decide (((ss.getD i 0:Nat):Int)<=(p:Int)) && decide ((p:Int)<((ss.getD i 0:Nat):Int)+((ws.getD i []).length:Int)))=decide (ss.getD i 0<=p/\p<ss.getD i 0+(ws.getD i []).length):=by
   rw [Bool.eq_iff_iff,and_eq_true,decide_eq_true_eq,decide_eq_true_eq,decide_eq_true_eq];omega
  rw [e]
  cases hc:decide (ss.getD i 0<=p/\p<ss.getD i 0+(ws.getD i []).length) with
  | true=>walk_at "r";exact k1 _ hc
  | false=>exact k2 _ hc
 .walk_at "r";rw [hlm,toNat_natCast];exact q
theorem lX:∀ds Q,bB ds Q->eT ef ig ds Q:=fun ds Q h=>by
 unfold bB at h
 split at h
 .exact kR _ _ _ _ h
 .exact h.elim
def cN:PTS:=(aG (gK (pOr (pB (pOp k8 (pFz (pOp fIx (pSl 1) (pFz (pC (.int 0))))) (pFz (pC (.int 0))))) (pB (pOp k8 (pFz (pOp cm (pFz (pOp fIx (pSl 1) (pFz (pUn qH (pFz (pC (.int 1))))))) (pFz (pCB dC (af (pFz (pOp fIx (pSl 0) (pFz (pUn qH (pFz (pC (.int 1))))))) ap))))) (pFz (pCB dC (af (pSl 2) ap)))))) (bX (pC (.bl false))) bO) (aG (e7 (wB (af (pFz (pC (.int 1))) (af (pFz (pCB dC (af (pSl 0) ap))) ap))) (ao 3) (aG (bh (pOp cm (pFz (pOp fIx (pSl 1) (pFz (pOp mC (pSl 3) (pFz (pC (.int 1))))))) (pFz (pCB dC (af (pFz (pOp fIx (pSl 0) (pFz (pOp mC (pSl 3) (pFz (pC (.int 1))))))) ap)))) (ao 4)) (aG (gK (pOr (pB (pOp fLe (pFz (pOp fIx (pSl 1) (pSl 3))) (pFz (pOp fIx (pSl 1) (pFz (pOp mC (pSl 3) (pFz (pC (.int 1))))))))) (pB (pOp fGt (pFz (pOp fIx (pSl 1) (pSl 3))) (pSl 4)))) (bX (pC (.bl false))) bO) (gK (pB (pOp fLe (pFz (pOp cm (pFz (pOp fIx (pSl 1) (pSl 3))) (pFz (pCB dC (af (pFz (pOp fIx (pSl 0) (pSl 3))) ap))))) (pSl 4))) (bX (pC (.bl false))) bO)))) (bX (pC (.bl true)))))
theorem iJ(ds es:List D)(T:List Nat)(Q:PV->Prop)(h:aX ([.lst ds,.tup es,.str T]) Q):eT cN fG ([.lst ds,.tup es,.str T]) Q:=by
 show cN _ [some (.dat (.lst ds)),some (.dat (.tup es)),some (.dat (.str T)),none,none];obtain⟨ws,rfl,ss,rfl,⟨h0,hn,hp,hT,m,po⟩,q⟩:=h;have hlm:(ws.map D.str).length=ws.length:=length_map _;have hls:(ss.map nD).length=ws.length:=by rw [length_map,po.len]
 have hw:∀i,i<ws.length->(ws.getD i []).length<=60:=fun i hi=>(hp _ (by rw [getD_eq_getElem?_getD,getElem?_eq_getElem hi];exact getElem_mem hi)).2.1;have hsl:=po.len;walk_at "r";refine⟨_,cQ (j:=0) (by rw [getElem?_map,getElem?_eq_getElem (show 0<ss.length by omega)];rfl) rfl,?_⟩;have z0:=po.zero;rw [getD_eq_getElem?_getD,getElem?_eq_getElem (show 0<ss.length by omega),Option.getD_some] at z0;rw [z0]
 walk_at "r";have hla:=po.last (ws.length - 1) (by omega);refine⟨_,p9 (by omega),?_⟩;walk_at "r";refine⟨_,lR h0,?_⟩;unfold pw;have hwl:=hw (ws.length - 1) (by omega);rw [hsl];walk_at "r"
 refine⟨fun k ρ=>∃v3 v4:Option PV,ρ=[some (.dat (.lst (ws.map .str))),some (.dat (.tup (ss.map nD))),some (.dat (.str T)),v3,v4],⟨_,_,rfl⟩,?_,?_⟩
 .rintro k ρ d hk ed ⟨v3,v4,rfl⟩;have ed:d=.int (((k+1:Nat)):Int):=by rw [ed];congr 1;omega
  subst ed;have hk:k+1<ws.length:=by rw [hlm] at hk;omega
  have e3:((k+1:Nat):Int) - 1=(k:Int):=by omega
  obtain⟨p1,p2,p3⟩:=po.lt hk;have w1:=hw k (by omega);have w2:=hw (k+1) hk;walk_at "r";rw [e3];refine⟨_,iF (by omega),?_⟩;walk_at "r";rw [e3];refine⟨_,fF (by omega),?_⟩;walk_at "r";refine⟨_,iF (by omega),?_⟩;walk_at "r";rw [e3];refine⟨_,iF (by omega),?_⟩;walk_at "r";refine⟨_,iF (by omega),?_⟩;walk_at "r";refine⟨_,iF (by omega),?_⟩;walk_at "r";refine⟨_,fF (by omega),?_⟩;walk_at "r";exact⟨_,_,rfl⟩
 .rintro ρ ⟨v3,v4,rfl⟩;walk_at "r";exact q
theorem jM:∀ds Q,aX ds Q->eT cN fG ds Q:=fun ds Q h=>by
 unfold aX at h
 split at h
 .exact iJ _ _ _ _ h
 .exact h.elim
def bQ:PTS:=(aG (e7 (rD (af (pFz (pCB dC (af (pSl 3) ap))) ap)) (ao 4) (aG (bh (cH bB (af (pFz (cf 0)) (af (pFz (cf 1)) (af (pFz (cf 4)) ap)))) (ao 5)) (aG (gK (pB (pOp rL (pSl 5) (pFz (mn ap)))) (bX (pC (.bl false))) bO) (aG (bh (pOp fIx (pSl 5) (pFz (pUn qH (pFz (pC (.int 1)))))) (ao 6)) (aG (gK (pB (pOp k8 (pFz (pOp fIx (pSl 3) (pSl 4))) (pFz (pOp fIx (pFz (pOp fIx (pSl 0) (pSl 6))) (pFz (pOp mC (pSl 4) (pFz (pOp fIx (pSl 1) (pSl 6))))))))) (bX (pC (.bl false))) bO) (e7 (ly (cf 5)) (ao 7) (aG (bh (pOp mC (pSl 4) (pFz (pOp fIx (pSl 1) (pSl 7)))) (ao 8)) (aG (bh (pOp (xF false) (pSl 8) (pFz (pOp fIx (pSl 2) (pSl 7)))) (ao 9)) (aG (gK (pB (pOp k8 (pSl 9) (pFz (pOp k8 (pFz (pOp fIx (pFz (pOp fIx (pSl 0) (pSl 7))) (pSl 8))) (pFz (pOp fIx (pSl 3) (pSl 4))))))) (bX (pC (.bl false))) bO) (gK (vB (pB (cf 9)) (pB (pOp fLe (pSl 6) (pSl 7)))) (bX (pC (.bl false))) bO)))))))))) (bX (pC (.bl true))))
theorem fi(ds es fs:List D)(T:List Nat)(Q:PV->Prop)(h:aB ([.lst ds,.tup es,.tup fs,.str T]) Q):eT bQ dg ([.lst ds,.tup es,.tup fs,.str T]) Q:=by
 show bQ _ [some (.dat (.lst ds)),some (.dat (.tup es)),some (.dat (.tup fs)),some (.dat (.str T)),none,none,none,none,none,none];obtain⟨ws,rfl,ss,rfl,sl,rfl,⟨h0,hn,hp,hT,hTL,hsl,⟨m,po⟩,hss⟩,q⟩:=h;have hlm:(ws.map D.str).length=ws.length:=length_map _;have hls:(ss.map nD).length=ws.length:=by rw [length_map,po.len]
 have hw:∀i,i<ws.length->(ws.getD i []).length<=60:=fun i hi=>(hp _ (by rw [getD_eq_getElem?_getD,getElem?_eq_getElem hi];exact getElem_mem hi)).2.1;have hle:=po.len;have go:ss.length=ws.length/\ws.length<=40/\Pcs 60 ws:=⟨hle,hn,hp⟩
 walk_at "r"
 refine⟨fun k ρ=>∃v4 v5 v6 v7 v8 v9:Option PV,ρ=[some (.dat (.lst (ws.map .str))),some (.dat (.tup (ss.map nD))),some (.dat (.tup (sl.map fun l=>.tup (l.map nD)))),some (.dat (.str T)),v4,v5,v6,v7,v8,v9],⟨_,_,_,_,_,_,rfl⟩,?_,?_⟩
 .rintro p ρ d hp' rfl ⟨v4,v5,v6,v7,v8,v9,rfl⟩;have hpT:p<T.length:=by rw [toNat_natCast] at hp';exact hp'
  obtain⟨l,i,eo,hi,i1,i2,i3,i4⟩:=t9 po h0 hpT;have tp:T[p]?=some (T.getD p 0):=by rw [getD_eq_getElem?_getD,getElem?_eq_getElem hpT];rfl
  have gr:∀k,k<ws.length->ss.getD k 0<=p->p<ss.getD k 0+(ws.getD k []).length->(ws.getD k [])[p - ss.getD k 0]?=some ((ws.getD k []).getD (p - ss.getD k 0) 0):=fun k hk k1 k2=>by
   rw [getD_eq_getElem?_getD (l:=ws.getD k []),getElem?_eq_getElem (show p - ss.getD k 0<(ws.getD k []).length by omega)];rfl
  have eq1:mr (.lst ((ovr ss ws p).map nD)) (.lst []):=by rw [mI];exact mr.of (Sh.lstI _) (Sh.lstI [])
  have eq2:deq (.lst ((ovr ss ws p).map nD)) (.lst [])=false:=by
   rw [eo,mI];refine (qR _ []).trans (decide_eq_false ?_);rw [map_append];exact fun z=>by cases append_eq_nil_iff.mp z |>.2
  walk_at "r";rw [eq2];walk_at "r";rw [eo];refine⟨_,wo,?_⟩;walk_at "r";refine⟨_,cQ (j:=p) tp rfl,?_⟩;walk_at "r";refine⟨_,fF hi,?_⟩;walk_at "r";refine⟨_,iF (by omega),?_⟩;walk_at "r";rw [show (p:Int) - ((ss.getD i 0:Nat):Int)=((p - ss.getD i 0:Nat):Int) by omega];refine⟨_,cQ (j:=p - ss.getD i 0) (gr i hi i1 i2) rfl,?_⟩;rw [i3];walk_at "r"
  refine yt (xs:=l++[i]) (e:=nD) (fun _ ρ=>∃v7 v8 v9:Option PV,ρ=[some (.dat (.lst (ws.map .str))),some (.dat (.tup (ss.map nD))),some (.dat (.tup (sl.map fun l=>.tup (l.map nD)))),some (.dat (.str T)),some (.dat (.int (p:Int))),some (.dat (.lst ((l++[i]).map nD))),some (.dat (.int (i:Int))),v7,v8,v9]) ⟨_,_,_,rfl⟩ ?_ ?_
  .rintro pre x suf ρ ew ⟨v7,v8,v9,rfl⟩;obtain⟨x0,x1,x2,x3⟩:=i4 x (by rw [eo,ew];simp);obtain⟨s1,s2⟩:=hss x x1;have ep:(p:Int) - ((ss.getD x 0:Nat):Int)=((p - ss.getD x 0:Nat):Int):=by omega
   have gx:=gr x x1 x2 x3;have si:=ua x2 x3 s2;rw [<- s1] at si;walk_at "r";refine⟨_,iF (by omega),?_⟩;walk_at "r";rw [ep];refine⟨_,wp (by omega),?_⟩;have hfl:((sl.getD x []).map nD).all D.fl=true:=xC _;have hin:=rM (p - ss.getD x 0) (sl.getD x []);walk_at "r";rw [hin]
   by_cases c:(ws.getD x []).getD (p - ss.getD x 0) 0≠T.getD p 0
   .rw [decide_eq_true (si.mpr c)]
    have hxi:x<i:=by
     rcases lt_or_eq_of_le x0 with h|h
     .exact h
     .exact absurd (by rw [h,i3]) c
    walk_at "r";refine⟨_,fF x1,?_⟩;walk_at "r";refine⟨_,cQ (j:=p - ss.getD x 0) gx rfl,?_⟩;walk_at "r";refine⟨_,cQ (j:=p) tp rfl,?_⟩
    have et:(!deq (D.bl (if false=true then !true else true)) (D.bl !decide ([(ws.getD x []).getD (p - ss.getD x 0) 0]=[T.getD p 0])))=false:=by
     rw [decide_eq_false (fun z=>c (singleton_inj.mp z))];rfl
    walk_at "r";rw [et];walk_at "r";exact⟨_,_,_,rfl⟩
   .rw [decide_eq_false (fun z=>c (si.mp z))]
    have et:(!deq (D.bl (if false=true then !false else false)) (D.bl !decide ([(ws.getD x []).getD (p - ss.getD x 0) 0]=[T.getD p 0])))=false:=by
     rw [decide_eq_true (show [(ws.getD x []).getD (p - ss.getD x 0) 0]=[T.getD p 0] by rw [Classical.not_not.mp c])];rfl
    walk_at "r";refine⟨_,fF x1,?_⟩;walk_at "r";refine⟨_,cQ (j:=p - ss.getD x 0) gx rfl,?_⟩;walk_at "r";refine⟨_,cQ (j:=p) tp rfl,?_⟩;walk_at "r";rw [et];walk_at "r";exact⟨_,_,_,rfl⟩
  .rintro ρ ⟨v7,v8,v9,rfl⟩;exact⟨_,_,_,_,_,_,rfl⟩
 .rintro ρ ⟨v4,v5,v6,v7,v8,v9,rfl⟩;walk_at "r";exact q
theorem fJ:∀ds Q,aB ds Q->eT bQ dg ds Q:=fun ds Q h=>by
 unfold aB at h
 split at h
 .exact fi _ _ _ _ _ h
 .exact h.elim
def cO:PTS:=(aG (e7 (wB (af (pFz (pC (.int 1))) (af (pFz (pCB dC (af (pSl 0) ap))) ap))) (ao 3) (aG (bh (pOp fIx (pSl 0) (pFz (pOp mC (pSl 3) (pFz (pC (.int 1)))))) (ao 4)) (aG (bh (pOp mC (pFz (pOp cm (pFz (pOp fIx (pSl 1) (pFz (pOp mC (pSl 3) (pFz (pC (.int 1))))))) (pFz (pCB dC (af (pSl 4) ap))))) (pFz (pOp fIx (pSl 1) (pSl 3)))) (ao 5)) (aG (gK (pB (pOp fGt (pFz (pCB dC (af (pFz (cH aS (af (pFz (ck (pSl 4) (cg (pOp mC (pFz (pCB dC (af (pSl 4) ap))) (pSl 5))) cG)) (af (pFz (ck (pFz (pOp fIx (pSl 0) (pSl 3))) cG (cg (cf 5)))) ap)))) ap))) (pSl 2))) (bX (pC (.bl false))) bO) (e7 (wB (af (pFz (pOp cm (pSl 5) (pFz (pC (.int 1))))) (af (pFz (pCB qF (af (pFz (pCB dC (af (pSl 4) ap))) (af (pFz (pCB dC (af (pFz (pOp fIx (pSl 0) (pSl 3))) ap))) ap)))) ap))) (ao 6) (gK (pB (pOp fLe (pFz (pCB dC (af (pFz (cH aS (af (pFz (ck (pSl 4) (cg (pOp mC (pFz (pCB dC (af (pSl 4) ap))) (pSl 6))) cG)) (af (pFz (ck (pFz (pOp fIx (pSl 0) (pSl 3))) cG (cg (cf 6)))) ap)))) ap))) (pSl 2))) (bX (pC (.bl false))) bO)))))) (bX (pC (.bl true))))
theorem iK(ds es:List D)(m:Int)(Q:PV->Prop)(h:aY ([.lst ds,.tup es,.int m]) Q):eT cO fH ([.lst ds,.tup es,.int m]) Q:=by
 show cO _ [some (.dat (.lst ds)),some (.dat (.tup es)),some (.dat (.int m)),none,none,none,none];obtain⟨ws,rfl,ss,rfl,⟨h0,hn,hp,T,po⟩,q⟩:=h;have hlm:(ws.map D.str).length=ws.length:=length_map _;have hls:(ss.map nD).length=ws.length:=by rw [length_map,po.len]
 have hw:∀i,i<ws.length->(ws.getD i []).length<=60:=fun i hi=>(hp _ (by rw [getD_eq_getElem?_getD,getElem?_eq_getElem hi];exact getElem_mem hi)).2.1;have hsl:=po.len;walk_at "r"
 refine⟨fun k ρ=>∃v3 v4 v5 v6:Option PV,ρ=[some (.dat (.lst (ws.map .str))),some (.dat (.tup (ss.map nD))),some (.dat (.int m)),v3,v4,v5,v6],⟨_,_,_,_,rfl⟩,?_,?_⟩
 .rintro k ρ d hk ed ⟨v3,v4,v5,v6,rfl⟩;have ed:d=.int (((k+1:Nat)):Int):=by rw [ed];congr 1;omega
  subst ed;have hk:k+1<ws.length:=by rw [hlm] at hk;omega
  have e3:((k+1:Nat):Int) - 1=(k:Int):=by omega
  have p1:=po.step k hk;have p2:=po.lap k hk;have w1:=hw k (by omega);have w2:=hw (k+1) hk;walk_at "r";rw [e3];refine⟨_,fF (by omega),?_⟩;walk_at "r";rw [e3];refine⟨_,iF (by omega),?_⟩;walk_at "r";refine⟨_,iF (by omega),?_⟩;have sb:atI (ws.map D.str) ((k+1:Nat):Int)=some (.str (ws.getD (k+1) [])):=fF hk;generalize ws.getD k []=a at *;generalize ws.getD (k+1) []=b at *;generalize slL a b m=x at *;obtain⟨x1,x2,x3⟩:=p2
  have ex:((ss.getD k 0:Nat):Int)+(a.length:Int) - ((ss.getD (k+1) 0:Nat):Int)=(x:Int):=by omega
  have ec:∀y:Nat,y<min a.length b.length->cW a (some ((a.length:Int) - (y:Int))) none=a.drop (a.length - y):=fun y hy=>by
   rw [show (a.length:Int) - (y:Int)=((a.length - y:Nat):Int) by omega,fk]
  have ed:∀y:Nat,cW b none (some (y:Int))=b.take y:=fun y=>dO b y;have gl:∀y:Nat,y<min a.length b.length->(a.drop (a.length - y)).length<=(b.take y).length/\(b.take y).length<=10000:=fun y hy=>by rw [length_drop,length_take];omega
  walk_at "r";rw [ex,ec x x1];refine⟨_,sb,?_⟩;walk_at "r";rw [ed x];have g1:=gl x x1;walk_at "r"
  refine eB (fun c=>absurd c ?_) (fun _=>?_)
  .rw [length_map];exact Int.not_lt.mpr x2
  have hmin:(if (b.length:Int)<(a.length:Int) then (b.length:Int) else (a.length:Int))=((min a.length b.length:Nat):Int):=by split <;> omega
  walk_at "r";refine⟨_,sb,?_⟩;walk_at "r"
  refine⟨fun j ρ=>∃v6:Option PV,ρ=[some (.dat (.lst (ws.map .str))),some (.dat (.tup (ss.map nD))),some (.dat (.int m)),some (.dat (.int ((k+1:Nat):Int))),some (.dat (.str a)),some (.dat (.int (x:Int))),v6],⟨_,rfl⟩,?_,?_⟩
  .rintro j ρ d hj ed2 ⟨v6,rfl⟩;rw [hmin] at hj;have ed2:d=.int (((x+1+j:Nat)):Int):=ed2.trans (congrArg D.int (by omega));subst ed2;have hy:x+1+j<min a.length b.length:=by omega
   generalize hyy:x+1+j=y at hy ⊢;have g2:=gl y hy;walk_at "r";rw [ec y hy];refine⟨_,sb,?_⟩;walk_at "r";rw [ed y];walk_at "r"
   refine eB (fun c=>absurd c ?_) (fun _=>?_)
   .rw [length_map];exact not_le.mpr (x3 y (by omega) hy)
   exact⟨_,rfl⟩
  .rintro ρ ⟨v6,rfl⟩;exact⟨_,_,_,_,rfl⟩
 .rintro ρ ⟨v3,v4,v5,v6,rfl⟩;walk_at "r";exact q
theorem jN:∀ds Q,aY ds Q->eT cO fH ds Q:=fun ds Q h=>by
 unfold aY at h
 split at h
 .exact iK _ _ _ _ h
 .exact h.elim
def mW:PTS:=(aG (bh (cH bA (af (pFz (cf 0)) (af (pFz (pC (.int 190))) ap))) (ao 1)) (aG (bh (cA bw 1 ap) (ao 2)) (aG (bh (pOp fIx (pFz (mn (af (pFz (pOp iw (pFz (cA ay 1 ap)) (pFz (pC (.int 5))))) (af (pFz (pC (.int 0))) (af (pFz (pOp yq (pFz (pC (.int 10))) (pFz (pC (.int 20))))) ap))))) (pFz (pOp iw (pFz (cA ay 1 ap)) (pFz (pC (.int 3)))))) (ao 3)) (aG (bh (cH bj (af (pFz (cf 2)) (af (pFz (cf 3)) ap))) (iB 3 (cS (ao 4) (cS (ao 5) (cS (ao 6) kl))))) (aG (gK (pOr (pB (pOp k8 (pFz (pCB dC (af (pSl 5) ap))) (pFz (pCB dC (af (pSl 2) ap))))) (pOr (pB (pOp k8 (pFz (pCB dC (af (pSl 6) ap))) (pFz (pCB dC (af (pSl 2) ap))))) (ug (pB (cH aX (af (pFz (cf 2)) (af (pFz (cf 5)) (af (pFz (cf 4)) ap)))))))) (bX (pC (.bl false))) bO) (aG (e7 (ly (cf 6)) (ao 7) (gK (pOr (pB (pOp k8 (pFz (kn [none] (ly (cf 7)) (ao 0) (ug (pB (cH aZ (af (pFz (cf 0)) ap)))) (cf 0))) (pFz (mn ap)))) (pB (pOp k8 (pFz (pCB qG (af (pSl 7) ap))) (pFz (pCB p5 (af (pSl 7) ap)))))) (bX (pC (.bl false))) bO)) (aG (e7 (rD (af (pFz (pCB dC (af (pSl 2) ap))) ap)) (ao 8) (gK (pB (pOp k8 (pFz (kn [none,some 2,some 8] (ly (pOp fIx (pSl 6) (pSl 8))) (ao 0) (pOr (pB (pOp fLt (pSl 0) (pFz (pC (.int 0))))) (pB (pOp fGe (pSl 0) (pFz (pCB dC (af (pFz (pOp fIx (pSl 1) (pSl 2))) ap)))))) (cf 0))) (pFz (mn ap)))) (bX (pC (.bl false))) bO)) (bX (qE (cH aB (af (pFz (cf 2)) (af (pFz (cf 5)) (af (pFz (cf 6)) (af (pFz (cf 4)) ap))))) (cH aY (af (pFz (cf 2)) (af (pFz (cf 5)) (af (pFz (cf 3)) ap)))))))))))))
theorem uc(ns:List Int)(h63:ns.length<=63)(Q:PV->Prop)(q:Q (.dat (.bl true))):eT mW rW [.scr ns] Q:=by
 show mW _ [some (.dat (.scr ns)),none,none,none,none,none,none,none,none];walk_at "r";rintro zs hz hl;have hl:zs.length=190:=hl;have g0:Dk zs/\110<=zs.length/\zs.length<=10000:=⟨hz,by omega,by omega⟩
 walk_at "r";rintro rs y1 r0 r7 rp hd1 hy1 hy2;have g1:Dk y1/\0<y1.length/\y1.length<=100000:=⟨hd1,by omega,by omega⟩
 walk_at "r";rintro m1 y2 hm0 hm1 hd2 hl2;have g2:Dk y2/\0<y2.length/\y2.length<=100000:=⟨hd2,by omega,by omega⟩
 walk_at "r";rintro m2 y3 hm2 hm3 hd3 hl3
 obtain⟨m,hat,hm⟩:∃m:Int,atI [D.int (m1 % 5),D.int 0,D.int (10^Int.toNat 20)] (m2 % 3)=some (.int m)/\0<=m:=by
  have h0:=emod_nonneg m2 (show (3:Int)≠0 by decide);have h1:=emod_lt_of_pos m2 (show (0:Int)<3 by decide);have h2:=emod_nonneg m1 (show (5:Int)≠0 by decide)
  rcases (show m2 % 3=0\/m2 % 3=1\/m2 % 3=2 by omega) with h|h|h <;> rw [h]
  .exact⟨_,rfl,h2⟩
  .exact⟨_,rfl,by decide⟩
  .exact⟨_,rfl,by decide⟩
 walk_at "r";refine⟨_,hat,?_⟩;have gr:0<rs.length/\rs.length<=40/\Pcs 60 rs:=⟨r0,by omega,rp⟩
 have hpS:=fE m rs;have hsL:=qb m rs;have hm1:(rs.map D.str).length=rs.length:=length_map _;have hm2:((eJ m rs).map nD).length=rs.length:=by rw [length_map,hpS]
 have hm3:((bz m rs).map fun l=>D.tup (l.map nD)).length=rs.length:=by rw [length_map,hsL]
 have po:=rT hm (rs.length - 1) rs (by omega) fun w hw=>(rp w hw).1;have hTl:=mQ m rp;have gp:0<rs.length/\rs.length<=40/\Pcs 60 rs/\(cu m rs).length<=10000/\∃m',PO m' rs (cu m rs) (eJ m rs):=⟨r0,by omega,rp,by omega,m,po⟩
 walk_at "r"
 refine yt (xs:=bz m rs) (e:=fun l=>D.tup (l.map nD)) (fun _ ρ=>∃v0 v1 v7 v8:Option PV,ρ=[v0,v1,some (.dat (.lst (rs.map .str))),some (.dat (.int m)),some (.dat (.str (cu m rs))),some (.dat (.tup ((eJ m rs).map nD))),some (.dat (.tup ((bz m rs).map fun l=>.tup (l.map nD)))),v7,v8]) ⟨_,_,_,_,rfl⟩ ?_ ?_
 .rintro pre l suf ρ ew ⟨v0,v1,v7,v8,rfl⟩;obtain⟨l60,lup⟩:=qa (m:=m) rp (l:=l) (by rw [ew];simp);have lm:(l.map nD).length=l.length:=length_map _;walk_at "r"
  refine cf1 (xs:=l) (e:=nD) (fun _=>false) nD (fun x hx v K1 K2 k1 k2=>?_) (fun v=>?_)
  .walk_at "r";exact k2 _ rfl
  rw [show l.filter (fun _=>false)=[] from filter_eq_nil_iff.mpr fun _ _=>Bool.false_ne_true];have eq0:mr (.lst []) (.lst []):=mr.of (Sh.lstI []) (Sh.lstI []);have lint:=mI l;have lnd:(l.map fun j=>((j:Nat):Int)).Nodup:=(rV lup).imp fun {a b} x=>Int.ne_of_lt x;have l64:(l.map fun j=>((j:Nat):Int)).length<64:=by rw [length_map];omega
  have sh:=Sh.lstI (l.map fun j=>((j:Nat):Int));rw [<- lint] at sh;have eqL:=mr.of sh sh;have dq:=qL sh;walk_at "r";refine⟨_,lint,lnd,l64,fun ns' p1 p2=>?_⟩;rw [kG p1 p2 (rV lup),<- lint];walk_at "r";exact⟨_,_,_,_,rfl⟩
 .rintro ρ ⟨v0,v1,v7,v8,rfl⟩;walk_at "r"
  refine⟨fun _ ρ=>∃v0 v1 v7 v8:Option PV,ρ=[v0,v1,some (.dat (.lst (rs.map .str))),some (.dat (.int m)),some (.dat (.str (cu m rs))),some (.dat (.tup ((eJ m rs).map nD))),some (.dat (.tup ((bz m rs).map fun l=>.tup (l.map nD)))),v7,v8],⟨_,_,_,_,rfl⟩,?_,?_⟩
  .rintro k ρ d hk rfl ⟨v0,v1,v7,v8,rfl⟩;rw [hm1,toNat_natCast] at hk;walk_at "r";refine⟨_,wp (by omega),?_⟩;obtain⟨se,sf⟩:=mS (m:=m) hk;have w60:=(rp (rs.getD k []) (by rw [getD_eq_getElem?_getD,getElem?_eq_getElem hk];exact getElem_mem hk)).2.1
   have hin:∀x∈(bz m rs).getD k [],x<(rs.getD k []).length:=fun x hx=>by
    rw [se] at hx;unfold slN at hx;have:=mem_range.mp (mem_filter.mp hx).1;omega
   have hlm:(((bz m rs).getD k []).map nD).length<=1000000:=by
    rw [length_map,se];have:=p6 (rs.getD k []) (((cu m rs).drop ((eJ m rs).getD k 0)).take (rs.getD k []).length);omega
   walk_at "r"
   refine cf1 (xs:=(bz m rs).getD k []) (e:=nD) (fun _=>false) nD (fun x hx v K1 K2 k1 k2=>?_) (fun v=>?_)
   .have hx:=hin x hx;walk_at "r";refine⟨_,fF hk,?_⟩;walk_at "r";exact k2 _ rfl
   rw [show ((bz m rs).getD k []).filter (fun _=>false)=[] from filter_eq_nil_iff.mpr fun _ _=>Bool.false_ne_true];have eq0:mr (.lst []) (.lst []):=mr.of (Sh.lstI []) (Sh.lstI []);walk_at "r";exact⟨_,_,_,_,rfl⟩
  .rintro ρ ⟨v0,v1,v7,v8,rfl⟩;have gs:0<rs.length/\rs.length<=40/\Pcs 60 rs/\(cu m rs).length<=10000/\Lts (cu m rs)/\(bz m rs).length=rs.length/\(∃m',PO m' rs (cu m rs) (eJ m rs))/\∀i,i<rs.length->(bz m rs).getD i []=slN (rs.getD i []) (((cu m rs).drop ((eJ m rs).getD i 0)).take (rs.getD i []).length)/\(eJ m rs).getD i 0+(rs.getD i []).length<=(cu m rs).length:=⟨r0,by omega,rp,by omega,ub rp.lts,hsL,⟨m,po⟩,fun i hi=>mS hi⟩
   have gq:0<rs.length/\rs.length<=40/\Pcs 60 rs/\∃T,PO m rs T (eJ m rs):=⟨r0,by omega,rp,_,po⟩
   walk_at "r";exact q
theorem wt:∀ds Q,mU ds Q->eT mW rW ds Q:=fun ds Q h=>by
 obtain⟨ns,rfl,h63,q⟩:=h;exact uc ns h63 Q q
section
variable {P:Program}{w:World}{K:PySem.W.Frag}{mg:Str->Option Value}{base:Heap}
theorem i6:∀ds Q,bY ds Q->ds.length=3:=fun ds Q h=>by unfold bY at h;split at h;(first|rfl|exact h.elim);(first|rfl|exact h.elim)
theorem nL(D:mm K mg "is_text" dM [.int 0,.int 4000])(T:Txt mg):vw P w K mg base 1 "is_text" ["thing","least","most"] [.int 0,.int 4000] (spP K bY):=by
 refine D.ok nJ (fun dT kV doc pm an cdv ct items us n hi hn hl=>?_) (fun vs H Q E h=>?_) (fun f cdv A outer s H vs Q E hr h=>?_)
 .obtain⟨i0,i1,rfl⟩:∃i0 i1,items=[i0,i1]:=match items,hi with|[i0,i1],_=>⟨i0,i1,rfl⟩
  have hn':n=0\/n=1\/n=2:=by (have:n<=2:=hn);omega
  rcases hn' with rfl|rfl|rfl
  .have hl2:us.length=1:=by (simp at hl;omega)
   match us,hl2 with
   | [_],_=>exact⟨_,rfl,rfl⟩
  .have hl2:us.length=2:=by (simp at hl;omega)
   match us,hl2 with
   | [_,_],_=>exact⟨_,rfl,rfl⟩
  .have hl2:us.length=3:=by (simp at hl;omega)
   match us,hl2 with
   | [_,_,_],_=>exact⟨_,rfl,rfl⟩
 .exact k6 i6 h
 .have hu:=hr.units;exact⟨_,(ai (cK (PW.pt (jU (jV (fX (ak (tw K rfl) rfl T.b_isinstance boot_isinstance (paC (pv 0) (paC (lc (v:=.ty "str") rfl T.b_str boot_str rfl) ah))))) (gP (jV (qk qc qc (pv 1) (ak (bM K rfl) rfl T.b_len PySem.boot_len (paC (pv 0) ah)) (pv 2)))))) (am (bc eQ)) bf) (am (bc (ak (xu K rfl rfl) rfl T.b_all boot_all (paC (fR (wi:=(uh K (dB 0))) (g:=(eY 0)) (tts:=vq) (te:=(ma wy wy (tC (V.str (S [97]))) (dB 0) (tC (V.str (S [122]))))) ["sign"] [none] rfl (iO K rfl (pv 0)) (fun _ _ _ _=>⟨(aN (i:=0) (by show List.Nodup (["sign"]:List Str);decide +kernel) rfl (by walk_at "o")),lu,(qj qc qc (jg (l:=[97]) (by decide +kernel)) (pv 0) (jg (l:=[122]) (by decide +kernel)))⟩) (by kernel_rfl)) ah))))),fnP (K:=K) (c:=bY) (ps:=eP) (N:=["thing","least","most"]) (ar (cL (ki (kj (sW (o7 .str (ag (i:=0))))) (kj (er (mw iA iA (ag (i:=1)) (ac (bp aO (aa (ag (i:=0)) ae))) (ag (i:=2)))))) (bd eR) bi) (bd (bp vO (aa (ac (e8 (ix:=[none]) rfl (iP (aw (i:=0))) (fun fs hc=>(aD (i:=0) (qd hc (by decide)))) o8 (mw iA iA (ac (le_str (l:=[97]))) (ag (i:=0)) (ac (le_str (l:=[122])))))) ae)))) (fun ds Q h=>le_trans (le_of_eq (i6 ds Q h)) (by decide)) nK h⟩
theorem eM:∀ds Q,aL ds Q->ds.length=1:=fun ds Q h=>by unfold aL at h;split at h;(first|rfl|exact h.elim);(first|rfl|exact h.elim)
theorem im(D:cI K mg "check_pieces" dA)(T:Txt mg)(C'0:vw P w K mg base 1 "is_text" ["thing","least","most"] [.int 0,.int 4000] (spP K bY)):Cal P w K mg base 2 "check_pieces" ["things"] (spP K aL):=by
 refine D.ok cU (fun _ _ _ _ _ _ us hl=>match us,hl with|[_],_=>rfl) (fun vs H Q E h=>?_) (fun f cdv A outer s H vs Q E hr h=>?_)
 .exact k6 eM h
 .have hu:=hr.units;exact⟨_,(ai (cK (aF uk (ak (bM K rfl) rfl T.b_len PySem.boot_len (paC (pv 0) ah)) (ml rfl T.g_MOST_PIECES) (aR _)) (am ja) bf) (am (c6 PassesOwn.never rfl (qI K rfl rfl T.b_enumerate (paC (pv 0) ah)) (iU K rfl (n:=2) rfl (bU (aN (i:=1) cU.nd rfl (by walk_at "o")) (bU (aN (i:=2) cU.nd rfl (by walk_at "o")) fP))) (am (cK (jV (fX (qQ 2 C'0 (hr.mono (by decide)) (by decide) (paC (pv 2) (paC al (paC (ml rfl T.g_MOST_SIGNS) ah)))))) (am ja) bf))))),fnP (K:=K) (c:=aL) (ps:=cr) (N:=["things","at","thing"]) (ar (cL (er (aj nA (ac (bp aO (aa (ag (i:=0)) ae))) (ac (le_int (i:=40))))) jq bi) (c9 (tE (aa (ac (aw (i:=0))) ae)) (h8 (bW (aD (i:=1) rfl) (bW (aD (i:=2) rfl) fT))) (cL (kj (sW (qJ (ds:=[]) (by repeat (first|exact .nil|exact .cons (.int _) .nil|refine .cons (.int _) ?_)) (aa (ac (aw (i:=2))) (aa (ac le_int) (aa (ac (le_int (i:=60))) ae)))))) jq bi))) (fun ds Q h=>le_trans (le_of_eq (eM ds Q h)) (by decide)) ii h⟩
theorem eW:∀ds Q,aA ds Q->ds.length=2:=fun ds Q h=>by unfold aA at h;split at h;(first|rfl|exact h.elim);(first|rfl|exact h.elim)
theorem iL(D:cI K mg "slip_places" dU)(T:Txt mg):Cal P w K mg base 1 "slip_places" ["one","other"] (spP K aA):=by
 refine D.ok iE (fun _ _ _ _ _ _ us hl=>match us,hl with|[_,_],_=>rfl) (fun vs H Q E h=>?_) (fun f cdv A outer s H vs Q E hr h=>?_)
 .exact k6 eW h
 .have hu:=hr.units;exact⟨_,(am (bc (dL (lD K rfl) rfl T.b_tuple boot_tuple (paC (fR (wi:=(iEz (cX (dB 0) (cX (dB 1) md)))) (g:=(ul K 2 (jW (eY 0) (jW (ul K 2 (jW (eY 1) (jW (eY 2) uG))) uG)))) (tts:=(m5 (tOp (pD K true) (dB 1) (dB 2)))) (te:=(dB 0)) ["at","sign","wanted"] [none,none,none] rfl (xI rfl T.b_zip rfl T.b_enumerate (paC (pv 0) (paC (pv 1) ah))) (fun _ _ _ _=>⟨(iU K rfl (n:=2) rfl (bU (aN (i:=0) (by show List.Nodup (["at","sign","wanted"]:List Str);decide +kernel) rfl (by walk_at "o")) (bU (iU K rfl (n:=2) rfl (bU (aN (i:=1) (by show List.Nodup (["at","sign","wanted"]:List Str);decide +kernel) rfl (by walk_at "o")) (bU (aN (i:=2) (by show List.Nodup (["at","sign","wanted"]:List Str);decide +kernel) rfl (by walk_at "o")) fP))) fP))),(jj (aF (fw K rfl hu) (pv 1) (pv 2) (aR _))),(pv 0)⟩) (by kernel_rfl)) ah)))),fnP (K:=K) (c:=aA) (ps:=cE) (N:=["one","other"]) (bd (bp jv (aa (ac (e8 (ix:=[none,none,none]) rfl (xJ (aa (ac (aw (i:=0))) (aa (ac (aw (i:=1))) ae))) (fun fs hc=>(h8 (bW (aD (i:=0) (qd hc (by decide))) (bW (h8 (bW (aD (i:=1) (qd hc (by decide))) (bW (aD (i:=2) (qd hc (by decide))) fT))) fT)))) (er (aj de (ag (i:=1)) (ag (i:=2)))) (aw (i:=0)))) ae))) (fun ds Q h=>le_trans (le_of_eq (eW ds Q h)) (by decide)) iG h⟩
theorem fK:∀ds Q,aV ds Q->ds.length=2:=fun ds Q h=>by unfold aV at h;split at h;(first|rfl|exact h.elim);(first|rfl|exact h.elim)
theorem jO(D:cI K mg "many_slips" eE)(T:Txt mg)(C'2:Cal P w K mg base 1 "slip_places" ["one","other"] (spP K aA)):Cal P w K mg base 2 "many_slips" ["one","other"] (spP K aV):=by
 refine D.ok jD (fun _ _ _ _ _ _ us hl=>match us,hl with|[_,_],_=>rfl) (fun vs H Q E h=>?_) (fun f cdv A outer s H vs Q E hr h=>?_)
 .exact k6 fK h
 .have hu:=hr.units;exact⟨_,(am (bc (ak (bM K rfl) rfl T.b_len PySem.boot_len (paC (aK C'2 (hr.mono (by decide)) (paC (pv 0) (paC (pv 1) ah))) ah)))),fnP (K:=K) (c:=aV) (ps:=cM) (N:=["one","other"]) (bd (bp aO (aa (ac (bE (c:=aA) (aa (ac (aw (i:=0))) (aa (ac (aw (i:=1))) ae)))) ae))) (fun ds Q h=>le_trans (le_of_eq (fK ds Q h)) (by decide)) jF h⟩
theorem io:∀ds Q,bx ds Q->ds.length=3:=fun ds Q h=>by unfold bx at h;split at h;(first|rfl|exact h.elim);(first|rfl|exact h.elim)
theorem lY(D:cI K mg "slip_lap" f7)(T:Txt mg)(C'3:Cal P w K mg base 2 "many_slips" ["one","other"] (spP K aV)):Cal P w K mg base 3 "slip_lap" ["one","other","most"] (spP K bx):=by
 refine D.ok h9 (fun _ _ _ _ _ _ us hl=>match us,hl with|[_,_,_],_=>rfl) (fun vs H Q E h=>?_) (fun f cdv A outer s H vs Q E hr h=>?_)
 .exact k6 io h
 .have hu:=hr.units;exact⟨_,(ai (c6 PassesOwn.never rfl (oE rfl T.b_range (paC (aC fu (ak (rF rfl) rfl T.b_min boot_min (paC (ak (bM K rfl) rfl T.b_len PySem.boot_len (paC (pv 0) ah)) (paC (ak (bM K rfl) rfl T.b_len PySem.boot_len (paC (pv 1) ah)) ah))) al) (paC al (paC (lg gR al) ah)))) (aN (i:=3) h9.nd rfl (by walk_at "o")) (am (cK (aF qc (aK C'3 (hr.mono (by decide)) (paC (bt (jR K rfl) (pv 0) (bG (aC fu (ak (bM K rfl) rfl T.b_len PySem.boot_len (paC (pv 0) ah)) (pv 3))) b6) (paC (bt (jR K rfl) (pv 1) b6 (bG (pv 3))) ah))) (pv 2) (aR _)) (am (bc (pv 3))) bf))) (am (bc al))),fnP (K:=K) (c:=bx) (ps:=dY) (N:=["one","other","most","k"]) (ar (c9 (xp (aa (ac (aj c8 (ac (bp o9 (aa (ac (bp aO (aa (ag (i:=0)) ae))) (aa (ac (bp aO (aa (ag (i:=1)) ae))) ae)))) (ac le_int))) (aa (ac le_int) (aa (ac (lx hZ (ac le_int))) ae)))) (aD (i:=3) rfl) (cL (er (aj iA (ac (bE (c:=aV) (aa (ac (bu (ag (i:=0)) (a9 (aj c8 (ac (bp aO (aa (ag (i:=0)) ae))) (ag (i:=3)))) bD)) (aa (ac (bu (ag (i:=1)) bD (a9 (aw (i:=3))))) ae)))) (ag (i:=2)))) (bd (aw (i:=3))) bi)) (bd le_int)) (fun ds Q h=>le_trans (le_of_eq (io ds Q h)) (by decide)) lT h⟩
theorem gC:∀ds Q,bj ds Q->ds.length=2:=fun ds Q h=>by unfold bj at h;split at h;(first|rfl|exact h.elim);(first|rfl|exact h.elim)
theorem kS(D:cI K mg "put_right" fb)(T:Txt mg)(C'1:Cal P w K mg base 2 "check_pieces" ["things"] (spP K aL))(C'4:Cal P w K mg base 3 "slip_lap" ["one","other","most"] (spP K bx))(C'2:Cal P w K mg base 1 "slip_places" ["one","other"] (spP K aA)):Cal P w K mg base 4 "put_right" ["reads","most"] (spP K bj):=by
 refine D.ok bK (fun _ _ _ _ _ _ us hl=>match us,hl with|[_,_],_=>rfl) (fun vs H Q E h=>?_) (fun f cdv A outer s H vs Q E hr h=>?_)
 .exact k6 gC h
 .have hu:=hr.units;exact⟨_,(ai (cK (aF (nC K rfl hu) (ak (bM K rfl) rfl T.b_len PySem.boot_len (paC (pv 0) ah)) al (aR _)) (am ja) bf) (ai (fO (aK C'1 (hr.mono (by decide)) (paC (pv 0) ah))) (ai (aJ (i:=2) bK.nd rfl (by walk_at "o") (bH (dI K rfl) (pv 0) al (fun _ _=>rfl))) (ai (aJ (i:=3) bK.nd rfl (by walk_at "o") (dD (paC al ah))) (ai (c6 PassesOwn.never rfl (pF K rfl rfl T.b_zip (paC (pv 0) (paC (bt (jR K rfl) (pv 0) (bG al) b6) ah))) (iU K rfl (n:=2) rfl (bU (aN (i:=4) bK.nd rfl (by walk_at "o")) (bU (aN (i:=5) bK.nd rfl (by walk_at "o")) fP))) (ai (aJ (i:=6) bK.nd rfl (by walk_at "o") (aC fu (ak (bM K rfl) rfl T.b_len PySem.boot_len (paC (pv 2) ah)) (aK C'4 (hr.mono (by decide)) (paC (pv 4) (paC (pv 5) (paC (pv 1) ah)))))) (ai (fO (kg K rfl PySem.F.plainAttrs_list PySem.F.slot_list_append PySem.F.type_list_append dE (pv 3) (paC (pv 6) ah))) (am (aJ (i:=2) bK.nd rfl (by walk_at "o") (aC (bJ K rfl) (bt (jR K rfl) (pv 2) b6 (bG (pv 6))) (pv 5))))))) (ai (sH (wi:=(tM K (cX (dB 0) (cX (dB 3) md)))) (g:=(ul K 2 (jW (eY 0) (jW (eY 1) uG)))) (tts:=vq) (te:=(gS (spP K aA) [] E0 (cX (dB 0) (cX (tSl (wz K) (dB 2) (qo (dB 1)) (qo (tOp (qT K) (dB 1) (tCB (o5 K) (cX (dB 0) md))))) md)))) (i:=7) ["read","start","text"] [none,none,some 2] bK.nd rfl (Or.inl rfl) rfl (pF K rfl rfl T.b_zip (paC (pv 0) (paC (pv 3) ah))) (fun _ _ _ _=>⟨(iU K rfl (n:=2) rfl (bU (aN (i:=0) (by show List.Nodup (["read","start","text"]:List Str);decide +kernel) rfl (by walk_at "o")) (bU (aN (i:=1) (by show List.Nodup (["read","start","text"]:List Str);decide +kernel) rfl (by walk_at "o")) fP))),lu,(aK C'2 (hr.mono (by decide)) (paC (pv 0) (paC (bt (jR K rfl) (pv 2) (bG (pv 1)) (bG (aC (bJ K rfl) (pv 1) (ak (bM K rfl) rfl T.b_len PySem.boot_len (paC (pv 0) ah))))) ah)))⟩) (by kernel_rfl)) (am (bc (uR (paC (pv 2) (paC (dL (lD K rfl) rfl T.b_tuple boot_tuple (paC (pv 3) ah)) (paC (dL (lD K rfl) rfl T.b_tuple boot_tuple (paC (pv 7) ah)) ah)))))))))))),fnP (K:=K) (c:=bj) (ps:=dh) (N:=["reads","most","text","starts","before","read","start","slips"]) (ar (cL (er (aj iS (ac (bp aO (aa (ag (i:=0)) ae))) (ac le_int))) jq bi) (ar (fU (bE (c:=aL) (aa (ac (aw (i:=0))) ae))) (ar (aE (aj bI (ag (i:=0)) (ac le_int)) (ax (i:=2) rfl)) (ar (aE (dH (aa (ac le_int) ae)) (ax (i:=3) rfl)) (ar (c9 (pH (aa (ac (aw (i:=0))) (aa (ac (bu (ag (i:=0)) (a9 le_int) bD)) ae))) (h8 (bW (aD (i:=4) rfl) (bW (aD (i:=5) rfl) fT))) (ar (aE (aj c8 (ac (bp aO (aa (ag (i:=2)) ae))) (ac (bE (c:=bx) (aa (ac (aw (i:=4))) (aa (ac (aw (i:=5))) (aa (ac (aw (i:=1))) ae)))))) (ax (i:=6) rfl)) (ar (fU (ko (i:=3) (aw (i:=6)))) (aE (aj aU (ac (bu (ag (i:=2)) bD (a9 (aw (i:=6))))) (ag (i:=5))) (ax (i:=2) rfl))))) (ar (aE (e8 (ix:=[none,none,some 2]) rfl (pH (aa (ac (aw (i:=0))) (aa (ac (aw (i:=3))) ae))) (fun fs hc=>(h8 (bW (aD (i:=0) (qd hc (by decide))) (bW (aD (i:=1) (qd hc (by decide))) fT)))) o8 (bE (c:=aA) (aa (ac (aw (i:=0))) (aa (ac (bu (ag (i:=2)) (a9 (aw (i:=1))) (a9 (aj aU (ag (i:=1)) (ac (bp aO (aa (ag (i:=0)) ae))))))) ae)))) (ax (i:=7) rfl)) (bd (vA (aa (ac (aw (i:=2))) (aa (ac (bp jv (aa (ag (i:=3)) ae))) (aa (ac (bp jv (aa (ag (i:=7)) ae))) ae))))))))))) (fun ds Q h=>le_trans (le_of_eq (gC ds Q h)) (by decide)) kI h⟩
theorem gD:∀ds Q,bn ds Q->ds.length=2:=fun ds Q h=>by unfold bn at h;split at h;(first|rfl|exact h.elim);(first|rfl|exact h.elim)
theorem kT(D:cI K mg "_law_mixed" fc)(T:Txt mg):Cal P w K mg base 1 "_law_mixed" ["_law_cell","_law_k"] (spP K bn):=by
 refine D.ok bT (fun _ _ _ _ _ _ us hl=>match us,hl with|[_,_],_=>rfl) (fun vs H Q E h=>?_) (fun f cdv A outer s H vs Q E hr h=>?_)
 .exact k6 gD h
 .have hu:=hr.units;exact⟨_,(ai (aJ (i:=2) bT.nd rfl (by walk_at "o") (aC (bJ K rfl) (aC cY (pv 0) al) (aC jo (aC jo (pv 1) (pv 1)) al))) (ai (aJ (i:=2) bT.nd rfl (by walk_at "o") (aC cY (aC (bJ K rfl) (aC (bJ K rfl) (pv 2) (aC jo (pv 1) al)) al) al)) (ai (aJ (i:=2) bT.nd rfl (by walk_at "o") (aC cY (aC jo (pv 2) (pv 2)) al)) (ai (aJ (i:=2) bT.nd rfl (by walk_at "o") (aC jo (aC (bJ K rfl) (aC (bJ K rfl) (pv 2) (aC jo (pv 1) al)) al) al)) (ai (aJ (i:=2) bT.nd rfl (by walk_at "o") (aC cY (pv 2) al)) (ai (aJ (i:=2) bT.nd rfl (by walk_at "o") (aC cY (aC jo (pv 2) (pv 2)) al)) (am (bc (aC rH (pv 2) al))))))))),fnP (K:=K) (c:=bn) (ps:=di) (N:=["_law_cell","_law_k","_law_number"]) (ar (aE (aj aU (ac (aj bZ (ag (i:=0)) (ac le_int))) (ac (aj fq (ac (aj fq (ag (i:=1)) (ag (i:=1)))) (ac le_int)))) (ax (i:=2) rfl)) (ar (aE (aj bZ (ac (aj aU (ac (aj aU (ag (i:=2)) (ac (aj fq (ag (i:=1)) (ac le_int))))) (ac le_int))) (ac le_int)) (ax (i:=2) rfl)) (ar (aE (aj bZ (ac (aj fq (ag (i:=2)) (ag (i:=2)))) (ac le_int)) (ax (i:=2) rfl)) (ar (aE (aj fq (ac (aj aU (ac (aj aU (ag (i:=2)) (ac (aj fq (ag (i:=1)) (ac le_int))))) (ac le_int))) (ac le_int)) (ax (i:=2) rfl)) (ar (aE (aj bZ (ag (i:=2)) (ac le_int)) (ax (i:=2) rfl)) (ar (aE (aj bZ (ac (aj fq (ag (i:=2)) (ag (i:=2)))) (ac le_int)) (ax (i:=2) rfl)) (bd (aj oX (ag (i:=2)) (ac le_int))))))))) (fun ds Q h=>le_trans (le_of_eq (gD ds Q h)) (by decide)) kJ h⟩
theorem ip:∀ds Q,bA ds Q->ds.length=2:=fun ds Q h=>by unfold bA at h;split at h;(first|rfl|exact h.elim);(first|rfl|exact h.elim)
theorem lZ(D:cI K mg "_law_deck" f8)(T:Txt mg)(C'6:Cal P w K mg base 1 "_law_mixed" ["_law_cell","_law_k"] (spP K bn)):Cal P w K mg base 2 "_law_deck" ["_law_script","_law_many"] (spP K bA):=by
 refine D.ok bN (fun _ _ _ _ _ _ us hl=>match us,hl with|[_,_],_=>rfl) (fun vs H Q E h=>?_) (fun f cdv A outer s H vs Q E hr h=>?_)
 .exact k6 ip h
 .have hu:=hr.units;exact⟨_,(ai (aJ (i:=2) bN.nd rfl (by walk_at "o") (aC (bJ K rfl) (dL (rG K rfl) rfl T.b_list boot_list (paC (pv 0) ah)) (dD (paC (ak (bM K rfl) rfl T.b_len PySem.boot_len (paC (pv 0) ah)) ah)))) (ai (aJ (i:=3) bN.nd rfl (by walk_at "o") (dD ah)) (ai (aJ (i:=4) bN.nd rfl (by walk_at "o") al) (ai (l8 PassesOwn.never (aF vE (ak (bM K rfl) rfl T.b_len PySem.boot_len (paC (pv 3) ah)) (pv 1) (aR _)) (ai (c6 PassesOwn.never rfl (iO K rfl (pv 2)) (aN (i:=5) bN.nd rfl (by walk_at "o")) (ai (aJ (i:=6) bN.nd rfl (by walk_at "o") (pv 5)) (ai (fQ (cK (PW.pt (jU (aF uk (pv 4) al (aR _)) (gP (aF vE (pv 5) (aC vR al al) (aR _))))) (ai (fO (kg K rfl PySem.F.plainAttrs_list PySem.F.slot_list_append PySem.F.type_list_append dE (pv 3) (paC (aC cY (aK C'6 (hr.mono (by decide)) (paC (pv 5) (paC (aC (bJ K rfl) (ak (bM K rfl) rfl T.b_len PySem.boot_len (paC (pv 3) ah)) al) ah))) al) ah))) (am (aJ (i:=6) bN.nd rfl (by walk_at "o") al))) bf)) (am (l8 PassesOwn.never (PW.pt (l7 (aF uk (pv 6) al (aR _)) (i9 (aF vE (ak (bM K rfl) rfl T.b_len PySem.boot_len (paC (pv 3) ah)) (pv 1) (aR _))))) (ai (fO (kg K rfl PySem.F.plainAttrs_list PySem.F.slot_list_append PySem.F.type_list_append dE (pv 3) (paC (aC cY (pv 6) al) ah))) (am (aJ (i:=6) bN.nd rfl (by walk_at "o") (aC rH (pv 6) al))))))))) (am (aJ (i:=4) bN.nd rfl (by walk_at "o") (aC (bJ K rfl) (pv 4) al))))) (am (bc (lE K rfl rfl (bt (jR K rfl) (pv 3) b6 (bG (pv 1))) rfl T.b_list rfl T.b_reversed))))))),fnP (K:=K) (c:=bA) (ps:=dZ) (N:=["_law_script","_law_many","_law_cells","_law_found","_law_turn","_law_cell","_law_rest"]) (ar (aE (aj aU (ac (bp pd (aa (ag (i:=0)) ae))) (ac (dH (aa (ac (bp aO (aa (ag (i:=0)) ae))) ae)))) (ax (i:=2) rfl)) (ar (aE (dH ae) (ax (i:=3) rfl)) (ar (aE le_int (ax (i:=4) rfl)) (ar (mx (er (aj oZ (ac (bp aO (aa (ag (i:=3)) ae))) (ag (i:=1)))) (ar (c9 (iP (aw (i:=2))) (aD (i:=5) rfl) (ar (aE (aw (i:=5)) (ax (i:=6) rfl)) (ar (fV (cL (ki (er (aj nA (ag (i:=4)) (ac le_int))) (er (aj oZ (ag (i:=5)) (ac (aj rB (ac le_int) (ac le_int)))))) (ar (fU (ko (i:=3) (aj bZ (ac (bE (c:=bn) (aa (ac (aw (i:=5))) (aa (ac (aj aU (ac (bp aO (aa (ag (i:=3)) ae))) (ac le_int))) ae)))) (ac le_int)))) (aE le_int (ax (i:=6) rfl))) bi)) (mx (mq (er (aj nA (ag (i:=6)) (ac le_int))) (er (aj oZ (ac (bp aO (aa (ag (i:=3)) ae))) (ag (i:=1))))) (ar (fU (ko (i:=3) (aj bZ (ag (i:=6)) (ac le_int)))) (aE (aj oX (ag (i:=6)) (ac le_int)) (ax (i:=6) rfl))))))) (aE (aj aU (ag (i:=4)) (ac le_int)) (ax (i:=4) rfl)))) (bd (nB (ac (bu (ag (i:=3)) bD (a9 (aw (i:=1))))))))))) (fun ds Q h=>le_trans (le_of_eq (ip ds Q h)) (by decide)) lU h⟩
theorem iq:∀p ds Q,ay p ds Q->ds.length+1=1:=fun p ds Q h=>by unfold ay at h;split at h;(first|rfl|exact h.elim);(first|rfl|exact h.elim)
theorem l0(D:cI K mg "_law_next" f9)(T:Txt mg):Cal P w K mg base 1 "_law_next" ["_law_deck_here"] (spR K ay):=by
 refine D.ok lM (fun _ _ _ _ _ _ us hl=>match us,hl with|[_],_=>rfl) (fun vs H Q E h=>?_) (fun f cdv A outer s H vs Q E hr h=>?_)
 .exact wC iq h
 .have hu:=hr.units;exact⟨_,(am (bc (uZ PySem.F.plainAttrs_list PySem.F.slot_list_pop PySem.F.type_list_pop u4 (pv 0)))),fnR (K:=K) (c:=ay) (ps:=d0) (N:=["_law_deck_here"]) (bd (vM (i:=0))) (fun p ds Q h=>le_trans (le_of_eq (iq p ds Q h)) (by decide)) lV h⟩
theorem eX:∀p ds Q,aW p ds Q->ds.length+1=1:=fun p ds Q h=>by unfold aW at h;split at h;(first|rfl|exact h.elim);(first|rfl|exact h.elim)
theorem iM(D:cI K mg "_law_letters" dW)(T:Txt mg)(C'8:Cal P w K mg base 1 "_law_next" ["_law_deck_here"] (spR K ay)):Cal P w K mg base 2 "_law_letters" ["_law_deck_here"] (spR K aW):=by
 refine D.ok cD (fun _ _ _ _ _ _ us hl=>match us,hl with|[_],_=>rfl) (fun vs H Q E h=>?_) (fun f cdv A outer s H vs Q E hr h=>?_)
 .exact wC eX h
 .have hu:=hr.units;exact⟨_,(ai (aJ (i:=1) cD.nd rfl (by walk_at "o") (bH (dI K rfl) (dD (paC al (paC al (paC al (paC al ah))))) (aC cY (aK C'8 (hr.mono (by decide)) (paC (pv 0) ah)) al) (fun _ _=>rfl))) (ai (aJ (i:=2) cD.nd rfl (by walk_at "o") (aC cY (aK C'8 (hr.mono (by decide)) (paC (pv 0) ah)) al)) (ai (aJ (i:=3) cD.nd rfl (by walk_at "o") (bH (dI K rfl) (dD (paC al (paC al (paC al ah)))) (aC cY (aK C'8 (hr.mono (by decide)) (paC (pv 0) ah)) al) (fun _ _=>rfl))) (am (bc (fR (wi:=(qi (cX (dB 1) md))) (g:=(eY 0)) (tts:=vq) (te:=(tOp (tm K) (tC (V.str (S [97,98,99,100,101,102,103,104,105,106,107,108,109,110,111,112,113,114,115,116,117,118,119,120,121,122]))) (tOp vQ (tOp (qT K) (dB 1) (tOp sZ (dB 2) (dB 0))) (tC (V.int 26))))) ["_law_k","_law_first","_law_step"] [none,some 2,some 3] rfl (cP rfl T.b_range (paC (pv 1) ah)) (fun _ _ _ _=>⟨(aN (i:=0) (by show List.Nodup (["_law_k","_law_first","_law_step"]:List Str);decide +kernel) rfl (by walk_at "o")),lu,(bH (dI K rfl) (jg (l:=[97,98,99,100,101,102,103,104,105,106,107,108,109,110,111,112,113,114,115,116,117,118,119,120,121,122]) (by decide +kernel)) (aC cY (aC (bJ K rfl) (pv 1) (aC jo (pv 2) (pv 0))) al) (fun _ _=>rfl))⟩) (by kernel_rfl))))))),fnR (K:=K) (c:=aW) (ps:=cF) (N:=["_law_deck_here","_law_many","_law_first","_law_step"]) (ar (aE (aj bI (ac (dH (aa (ac le_int) (aa (ac le_int) (aa (ac le_int) (aa (ac le_int) ae)))))) (ac (aj bZ (ac (bF (i:=0) ae)) (ac le_int)))) (ax (i:=1) rfl)) (ar (aE (aj bZ (ac (bF (i:=0) ae)) (ac le_int)) (ax (i:=2) rfl)) (ar (aE (aj bI (ac (dH (aa (ac le_int) (aa (ac le_int) (aa (ac le_int) ae))))) (ac (aj bZ (ac (bF (i:=0) ae)) (ac le_int)))) (ax (i:=3) rfl)) (bd (e8 (ix:=[none,some 2,some 3]) rfl (lA (aa (ac (aw (i:=1))) ae)) (fun fs hc=>(aD (i:=0) (qd hc (by decide)))) o8 (aj bI (ac (le_str (l:=[97,98,99,100,101,102,103,104,105,106,107,108,109,110,111,112,113,114,115,116,117,118,119,120,121,122]))) (ac (aj bZ (ac (aj aU (ag (i:=1)) (ac (aj fq (ag (i:=2)) (ag (i:=0)))))) (ac le_int))))))))) (fun p ds Q h=>le_trans (le_of_eq (eX p ds Q h)) (by decide)) iI h⟩
theorem gE:∀p ds Q,bo p ds Q->ds.length+1=3:=fun p ds Q h=>by unfold bo at h;split at h;(first|rfl|exact h.elim);(first|rfl|exact h.elim)
theorem kU(D:cI K mg "_law_signs" fe)(T:Txt mg)(C'8:Cal P w K mg base 1 "_law_next" ["_law_deck_here"] (spR K ay)):Cal P w K mg base 2 "_law_signs" ["_law_deck_here","_law_letters_here","_law_many"] (spR K bo):=by
 refine D.ok df (fun _ _ _ _ _ _ us hl=>match us,hl with|[_,_,_],_=>rfl) (fun vs H Q E h=>?_) (fun f cdv A outer s H vs Q E hr h=>?_)
 .exact wC gE h
 .have hu:=hr.units;exact⟨_,(ai (aJ (i:=3) df.nd rfl (by walk_at "o") (jg (l:=[]) (by decide +kernel))) (ai (c6 PassesOwn.never rfl (cP rfl T.b_range (paC (pv 2) ah)) (aN (i:=4) df.nd rfl (by walk_at "o")) (am (aJ (i:=3) df.nd rfl (by walk_at "o") (aC (bJ K rfl) (pv 3) (bH (dI K rfl) (pv 1) (aC cY (aK C'8 (hr.mono (by decide)) (paC (pv 0) ah)) (ak (bM K rfl) rfl T.b_len PySem.boot_len (paC (pv 1) ah))) (fun _ _=>rfl)))))) (am (bc (pv 3))))),fnR (K:=K) (c:=bo) (ps:=dk) (N:=["_law_deck_here","_law_letters_here","_law_many","_law_found","_law_k"]) (ar (aE (le_str (l:=[])) (ax (i:=3) rfl)) (ar (c9 (lA (aa (ac (aw (i:=2))) ae)) (aD (i:=4) rfl) (aE (aj aU (ag (i:=3)) (ac (aj bI (ag (i:=1)) (ac (aj bZ (ac (bF (i:=0) ae)) (ac (bp aO (aa (ag (i:=1)) ae)))))))) (ax (i:=3) rfl))) (bd (aw (i:=3))))) (fun p ds Q h=>le_trans (le_of_eq (gE p ds Q h)) (by decide)) kM h⟩
theorem gF:∀ds Q,aZ ds Q->ds.length=1:=fun ds Q h=>by unfold aZ at h;split at h;(first|rfl|exact h.elim);(first|rfl|exact h.elim)
theorem kW(D:cI K mg "_law_whole" ff)(T:Txt mg):Cal P w K mg base 1 "_law_whole" ["_law_found"] (spP K aZ):=by
 refine D.ok kC (fun _ _ _ _ _ _ us hl=>match us,hl with|[_],_=>rfl) (fun vs H Q E h=>?_) (fun f cdv A outer s H vs Q E hr h=>?_)
 .exact k6 gF h
 .have hu:=hr.units;exact⟨_,(am (bc (nQ (ak (tw K rfl) rfl T.b_isinstance boot_isinstance (paC (pv 0) (paC (lc (v:=.ty "int") rfl T.b_int boot_int rfl) ah))) (nP (uD (ak (tw K rfl) rfl T.b_isinstance boot_isinstance (paC (pv 0) (paC (lc (v:=.ty "bool") rfl T.b_bool boot_bool rfl) ah)))))))),fnP (K:=K) (c:=aZ) (ps:=dn) (N:=["_law_found"]) (bd (oW (o7 .int (ag (i:=0))) (vD (o7 .bool (ag (i:=0)))))) (fun ds Q h=>le_trans (le_of_eq (gF ds Q h)) (by decide)) kN h⟩
theorem gG:∀ds Q,aS ds Q->ds.length=2:=fun ds Q h=>by unfold aS at h;split at h;(first|rfl|exact h.elim);(first|rfl|exact h.elim)
theorem kX(D:cI K mg "_law_slips" fg)(T:Txt mg):Cal P w K mg base 1 "_law_slips" ["_law_one","_law_other"] (spP K aS):=by
 refine D.ok eH (fun _ _ _ _ _ _ us hl=>match us,hl with|[_,_],_=>rfl) (fun vs H Q E h=>?_) (fun f cdv A outer s H vs Q E hr h=>?_)
 .exact k6 gG h
 .have hu:=hr.units;exact⟨_,(ai (aJ (i:=2) eH.nd rfl (by walk_at "o") (dD ah)) (ai (c6 PassesOwn.never rfl (cP rfl T.b_range (paC (ak (bM K rfl) rfl T.b_len PySem.boot_len (paC (pv 0) ah)) ah)) (aN (i:=3) eH.nd rfl (by walk_at "o")) (am (cK (aF (fw K rfl hu) (bH (dI K rfl) (pv 0) (pv 3) (fun _ _=>rfl)) (bH (dI K rfl) (pv 1) (pv 3) (fun _ _=>rfl)) (aR _)) (am (fO (kg K rfl PySem.F.plainAttrs_list PySem.F.slot_list_append PySem.F.type_list_append dE (pv 2) (paC (pv 3) ah)))) bf))) (am (bc (pv 2))))),fnP (K:=K) (c:=aS) (ps:=dr) (N:=["_law_one","_law_other","_law_found","_law_at"]) (ar (aE (dH ae) (ax (i:=2) rfl)) (ar (c9 (lA (aa (ac (bp aO (aa (ag (i:=0)) ae))) ae)) (aD (i:=3) rfl) (cL (er (aj de (ac (aj bI (ag (i:=0)) (ag (i:=3)))) (ac (aj bI (ag (i:=1)) (ag (i:=3)))))) (fU (ko (i:=2) (aw (i:=3)))) bi)) (bd (aw (i:=2))))) (fun ds Q h=>le_trans (le_of_eq (gG ds Q h)) (by decide)) kO h⟩
theorem gH:∀p ds Q,bw p ds Q->ds.length+1=1:=fun p ds Q h=>by unfold bw at h;split at h;(first|rfl|exact h.elim);(first|rfl|exact h.elim)
theorem kY(D:cI K mg "_law_reads" fh)(T:Txt mg)(C'9:Cal P w K mg base 2 "_law_letters" ["_law_deck_here"] (spR K aW))(C'8:Cal P w K mg base 1 "_law_next" ["_law_deck_here"] (spR K ay))(C'10:Cal P w K mg base 2 "_law_signs" ["_law_deck_here","_law_letters_here","_law_many"] (spR K bo)):Cal P w K mg base 3 "_law_reads" ["_law_deck_here"] (spR K bw):=by
 refine D.ok aH (fun _ _ _ _ _ _ us hl=>match us,hl with|[_],_=>rfl) (fun vs H Q E h=>?_) (fun f cdv A outer s H vs Q E hr h=>?_)
 .exact wC gH h
 .have hu:=hr.units;exact⟨_,(ai (aJ (i:=1) aH.nd rfl (by walk_at "o") (aK C'9 (hr.mono (by decide)) (paC (pv 0) ah))) (ai (aJ (i:=2) aH.nd rfl (by walk_at "o") (aK C'10 (hr.mono (by decide)) (paC (pv 0) (paC (pv 1) (paC al ah))))) (ai (aJ (i:=3) aH.nd rfl (by walk_at "o") (dD ah)) (ai (c6 PassesOwn.never rfl (cP rfl T.b_range (paC (aC (bJ K rfl) al (aC cY (aK C'8 (hr.mono (by decide)) (paC (pv 0) ah)) al)) ah)) (aN (i:=4) aH.nd rfl (by walk_at "o")) (ai (aJ (i:=5) aH.nd rfl (by walk_at "o") (aC cY (aK C'8 (hr.mono (by decide)) (paC (pv 0) ah)) al)) (ai (aJ (i:=6) aH.nd rfl (by walk_at "o") (bt (jR K rfl) (pv 2) (bG (pv 5)) (bG (aC (bJ K rfl) (aC (bJ K rfl) (pv 5) al) (aC cY (aK C'8 (hr.mono (by decide)) (paC (pv 0) ah)) al))))) (ai (aJ (i:=7) aH.nd rfl (by walk_at "o") (aC cY (aK C'8 (hr.mono (by decide)) (paC (pv 0) ah)) al)) (ai (fQ (cK (aF (nC K rfl hu) (pv 7) al (aR _)) (am (aJ (i:=6) aH.nd rfl (by walk_at "o") (aK C'10 (hr.mono (by decide)) (paC (pv 0) (paC (pv 1) (paC (aC (bJ K rfl) al (aC cY (pv 5) al)) ah)))))) bf)) (ai (fQ (cK (PW.pt (l7 (aF (nC K rfl hu) (pv 7) al (aR _)) (i9 (aF (fw K rfl hu) (pv 3) (dD ah) (aR _))))) (am (aJ (i:=6) aH.nd rfl (by walk_at "o") (aC (bJ K rfl) (bt (jR K rfl) (bH (dI K rfl) (pv 3) (lg gR al) (fun _ _=>rfl)) (bG (lg gR al)) b6) (pv 6)))) bf)) (ai (fQ (cK (PW.pt (l7 (aF (nC K rfl hu) (pv 7) al (aR _)) (i9 (aF (fw K rfl hu) (pv 3) (dD ah) (aR _))))) (am (aJ (i:=6) aH.nd rfl (by walk_at "o") (aC (bJ K rfl) (bt (jR K rfl) (bH (dI K rfl) (pv 3) (lg gR al) (fun _ _=>rfl)) (bG (aC cY (pv 5) al)) b6) (bt (jR K rfl) (pv 6) b6 (bG al))))) bf)) (ai (fQ (cK (aF (nC K rfl hu) (pv 7) al (aR _)) (am (aJ (i:=6) aH.nd rfl (by walk_at "o") (bt (jR K rfl) (aC jo (pv 6) al) b6 (bG (aC fu al (pv 5)))))) bf)) (ai (aJ (i:=8) aH.nd rfl (by walk_at "o") (aC cY (aK C'8 (hr.mono (by decide)) (paC (pv 0) ah)) (ak (bM K rfl) rfl T.b_len PySem.boot_len (paC (pv 6) ah)))) (ai (fQ (cK (aF uk (pv 7) al (aR _)) (ai (aJ (i:=9) aH.nd rfl (by walk_at "o") (bH (dI K rfl) (pv 1) (aC cY (aK C'8 (hr.mono (by decide)) (paC (pv 0) ah)) (ak (bM K rfl) rfl T.b_len PySem.boot_len (paC (pv 1) ah))) (fun _ _=>rfl))) (am (aJ (i:=6) aH.nd rfl (by walk_at "o") (aC (bJ K rfl) (aC (bJ K rfl) (bt (jR K rfl) (pv 6) b6 (bG (pv 8))) (pv 9)) (bt (jR K rfl) (pv 6) (bG (aC (bJ K rfl) (pv 8) al)) b6))))) bf)) (am (fO (kg K rfl PySem.F.plainAttrs_list PySem.F.slot_list_append PySem.F.type_list_append dE (pv 3) (paC (bt (jR K rfl) (pv 6) b6 (bG al)) ah)))))))))))))) (am (bc (pv 3))))))),fnR (K:=K) (c:=bw) (ps:=dt) (N:=["_law_deck_here","_law_letters_here","_law_base","_law_found","_law_k","_law_begin","_law_read","_law_sort","_law_at","_law_sign"]) (ar (aE (bF (i:=0) ae) (ax (i:=1) rfl)) (ar (aE (bF (i:=0) (aa (ac (aw (i:=1))) (aa (ac le_int) ae))) (ax (i:=2) rfl)) (ar (aE (dH ae) (ax (i:=3) rfl)) (ar (c9 (lA (aa (ac (aj aU (ac le_int) (ac (aj bZ (ac (bF (i:=0) ae)) (ac le_int))))) ae)) (aD (i:=4) rfl) (ar (aE (aj bZ (ac (bF (i:=0) ae)) (ac le_int)) (ax (i:=5) rfl)) (ar (aE (bu (ag (i:=2)) (a9 (aw (i:=5))) (a9 (aj aU (ac (aj aU (ag (i:=5)) (ac le_int))) (ac (aj bZ (ac (bF (i:=0) ae)) (ac le_int)))))) (ax (i:=6) rfl)) (ar (aE (aj bZ (ac (bF (i:=0) ae)) (ac le_int)) (ax (i:=7) rfl)) (ar (fV (cL (er (aj iS (ag (i:=7)) (ac le_int))) (aE (bF (i:=0) (aa (ac (aw (i:=1))) (aa (ac (aj aU (ac le_int) (ac (aj bZ (ag (i:=5)) (ac le_int))))) ae))) (ax (i:=6) rfl)) bi)) (ar (fV (cL (mq (er (aj iS (ag (i:=7)) (ac le_int))) (er (aj de (ag (i:=3)) (ac (dH ae))))) (aE (aj aU (ac (bu (ac (aj bI (ag (i:=3)) (ac (lx hZ (ac le_int))))) (a9 (lx hZ (ac le_int))) bD)) (ag (i:=6))) (ax (i:=6) rfl)) bi)) (ar (fV (cL (mq (er (aj iS (ag (i:=7)) (ac le_int))) (er (aj de (ag (i:=3)) (ac (dH ae))))) (aE (aj aU (ac (bu (ac (aj bI (ag (i:=3)) (ac (lx hZ (ac le_int))))) (a9 (aj bZ (ag (i:=5)) (ac le_int))) bD)) (ac (bu (ag (i:=6)) bD (a9 le_int)))) (ax (i:=6) rfl)) bi)) (ar (fV (cL (er (aj iS (ag (i:=7)) (ac le_int))) (aE (bu (ac (aj fq (ag (i:=6)) (ac le_int))) bD (a9 (aj c8 (ac le_int) (ag (i:=5))))) (ax (i:=6) rfl)) bi)) (ar (aE (aj bZ (ac (bF (i:=0) ae)) (ac (bp aO (aa (ag (i:=6)) ae)))) (ax (i:=8) rfl)) (ar (fV (cL (er (aj nA (ag (i:=7)) (ac le_int))) (ar (aE (aj bI (ag (i:=1)) (ac (aj bZ (ac (bF (i:=0) ae)) (ac (bp aO (aa (ag (i:=1)) ae)))))) (ax (i:=9) rfl)) (aE (aj aU (ac (aj aU (ac (bu (ag (i:=6)) bD (a9 (aw (i:=8))))) (ag (i:=9)))) (ac (bu (ag (i:=6)) (a9 (aj aU (ag (i:=8)) (ac le_int))) bD))) (ax (i:=6) rfl))) bi)) (fU (ko (i:=3) (bu (ag (i:=6)) bD (a9 le_int)))))))))))))) (bd (aw (i:=3))))))) (fun p ds Q h=>le_trans (le_of_eq (gH p ds Q h)) (by decide)) kP h⟩
theorem ir:∀ds Q,br ds Q->ds.length=3:=fun ds Q h=>by unfold br at h;split at h;(first|rfl|exact h.elim);(first|rfl|exact h.elim)
theorem l4(D:cI K mg "_law_lies" gg)(T:Txt mg):Cal P w K mg base 1 "_law_lies" ["_law_start","_law_read","_law_place"] (spP K br):=by
 refine D.ok lN (fun _ _ _ _ _ _ us hl=>match us,hl with|[_,_,_],_=>rfl) (fun vs H Q E h=>?_) (fun f cdv A outer s H vs Q E hr h=>?_)
 .exact k6 ir h
 .have hu:=hr.units;exact⟨_,(am (bc (nQ (jb qc (pv 0) (pv 2) (aR _)) (nP (jb vE (pv 2) (aC (bJ K rfl) (pv 0) (ak (bM K rfl) rfl T.b_len PySem.boot_len (paC (pv 1) ah))) (aR _)))))),fnP (K:=K) (c:=br) (ps:=ee) (N:=["_law_start","_law_read","_law_place"]) (bd (oW (aj iA (ag (i:=0)) (ag (i:=2))) (aj oZ (ag (i:=2)) (ac (aj aU (ag (i:=0)) (ac (bp aO (aa (ag (i:=1)) ae)))))))) (fun ds Q h=>le_trans (le_of_eq (ir ds Q h)) (by decide)) lW h⟩
theorem iu:∀ds Q,bB ds Q->ds.length=3:=fun ds Q h=>by unfold bB at h;split at h;(first|rfl|exact h.elim);(first|rfl|exact h.elim)
theorem l5(D:cI K mg "_law_over" gh)(T:Txt mg)(C'14:Cal P w K mg base 1 "_law_lies" ["_law_start","_law_read","_law_place"] (spP K br)):Cal P w K mg base 2 "_law_over" ["_law_reads_here","_law_starts","_law_place"] (spP K bB):=by
 refine D.ok lO (fun _ _ _ _ _ _ us hl=>match us,hl with|[_,_,_],_=>rfl) (fun vs H Q E h=>?_) (fun f cdv A outer s H vs Q E hr h=>?_)
 .exact k6 iu h
 .have hu:=hr.units;exact⟨_,(am (bc (fR (wi:=(qi (cX (tCB (o5 K) (cX (dB 0) md)) md))) (g:=(eY 0)) (tts:=(tB (gS (spP K br) [] E0 (cX (tOp (tm K) (dB 2) (dB 0)) (cX (tOp (tm K) (dB 3) (dB 0)) (cX (dB 1) md)))))) (te:=(dB 0)) ["_law_at","_law_place","_law_starts","_law_reads_here"] [none,some 2,some 1,some 0] rfl (cP rfl T.b_range (paC (ak (bM K rfl) rfl T.b_len PySem.boot_len (paC (pv 0) ah)) ah)) (fun _ _ _ _=>⟨(aN (i:=0) (by show List.Nodup (["_law_at","_law_place","_law_starts","_law_reads_here"]:List Str);decide +kernel) rfl (by walk_at "o")),(jj (fX (aK C'14 (hr.mono (by decide)) (paC (bH (dI K rfl) (pv 2) (pv 0) (fun _ _=>rfl)) (paC (bH (dI K rfl) (pv 3) (pv 0) (fun _ _=>rfl)) (paC (pv 1) ah)))))),(pv 0)⟩) (by kernel_rfl)))),fnP (K:=K) (c:=bB) (ps:=ef) (N:=["_law_reads_here","_law_starts","_law_place"]) (bd (vY (e8 (ix:=[none,some 2,some 1,some 0]) rfl (lA (aa (ac (bp aO (aa (ag (i:=0)) ae))) ae)) (fun fs hc=>(aD (i:=0) (qd hc (by decide)))) (sW (bE (c:=br) (aa (ac (aj bI (ag (i:=2)) (ag (i:=0)))) (aa (ac (aj bI (ag (i:=3)) (ag (i:=0)))) (aa (ac (aw (i:=1))) ae))))) (aw (i:=0))))) (fun ds Q h=>le_trans (le_of_eq (iu ds Q h)) (by decide)) lX h⟩
theorem fL:∀ds Q,aX ds Q->ds.length=3:=fun ds Q h=>by unfold aX at h;split at h;(first|rfl|exact h.elim);(first|rfl|exact h.elim)
theorem jP(D:cI K mg "_law_placed" eF)(T:Txt mg):Cal P w K mg base 1 "_law_placed" ["_law_reads_here","_law_starts","_law_text"] (spP K aX):=by
 refine D.ok dX (fun _ _ _ _ _ _ us hl=>match us,hl with|[_,_,_],_=>rfl) (fun vs H Q E h=>?_) (fun f cdv A outer s H vs Q E hr h=>?_)
 .exact k6 fL h
 .have hu:=hr.units;exact⟨_,(ai (cK (PW.pt (jU (aF (fw K rfl hu) (bH (dI K rfl) (pv 1) al (fun _ _=>rfl)) al (aR _)) (gP (aF (fw K rfl hu) (aC (bJ K rfl) (bH (dI K rfl) (pv 1) (lg gR al) (fun _ _=>rfl)) (ak (bM K rfl) rfl T.b_len PySem.boot_len (paC (bH (dI K rfl) (pv 0) (lg gR al) (fun _ _=>rfl)) ah))) (ak (bM K rfl) rfl T.b_len PySem.boot_len (paC (pv 2) ah)) (aR _))))) (am (bc eQ)) bf) (ai (c6 PassesOwn.never rfl (gQ rfl T.b_range (paC al (paC (ak (bM K rfl) rfl T.b_len PySem.boot_len (paC (pv 0) ah)) ah))) (aN (i:=3) dX.nd rfl (by walk_at "o")) (ai (aJ (i:=4) dX.nd rfl (by walk_at "o") (aC (bJ K rfl) (bH (dI K rfl) (pv 1) (aC fu (pv 3) al) (fun _ _=>rfl)) (ak (bM K rfl) rfl T.b_len PySem.boot_len (paC (bH (dI K rfl) (pv 0) (aC fu (pv 3) al) (fun _ _=>rfl)) ah)))) (ai (cK (PW.pt (jU (aF qc (bH (dI K rfl) (pv 1) (pv 3) (fun _ _=>rfl)) (bH (dI K rfl) (pv 1) (aC fu (pv 3) al) (fun _ _=>rfl)) (aR _)) (gP (aF uk (bH (dI K rfl) (pv 1) (pv 3) (fun _ _=>rfl)) (pv 4) (aR _))))) (am (bc eQ)) bf) (am (cK (aF qc (aC (bJ K rfl) (bH (dI K rfl) (pv 1) (pv 3) (fun _ _=>rfl)) (ak (bM K rfl) rfl T.b_len PySem.boot_len (paC (bH (dI K rfl) (pv 0) (pv 3) (fun _ _=>rfl)) ah))) (pv 4) (aR _)) (am (bc eQ)) bf))))) (am (bc eQ)))),fnP (K:=K) (c:=aX) (ps:=cN) (N:=["_law_reads_here","_law_starts","_law_text","_law_at","_law_end"]) (ar (cL (ki (er (aj de (ac (aj bI (ag (i:=1)) (ac le_int))) (ac le_int))) (er (aj de (ac (aj aU (ac (aj bI (ag (i:=1)) (ac (lx hZ (ac le_int))))) (ac (bp aO (aa (ac (aj bI (ag (i:=0)) (ac (lx hZ (ac le_int))))) ae))))) (ac (bp aO (aa (ag (i:=2)) ae)))))) (bd eR) bi) (ar (c9 (tD (aa (ac le_int) (aa (ac (bp aO (aa (ag (i:=0)) ae))) ae))) (aD (i:=3) rfl) (ar (aE (aj aU (ac (aj bI (ag (i:=1)) (ac (aj c8 (ag (i:=3)) (ac le_int))))) (ac (bp aO (aa (ac (aj bI (ag (i:=0)) (ac (aj c8 (ag (i:=3)) (ac le_int))))) ae)))) (ax (i:=4) rfl)) (ar (cL (ki (er (aj iA (ac (aj bI (ag (i:=1)) (ag (i:=3)))) (ac (aj bI (ag (i:=1)) (ac (aj c8 (ag (i:=3)) (ac le_int))))))) (er (aj nA (ac (aj bI (ag (i:=1)) (ag (i:=3)))) (ag (i:=4))))) (bd eR) bi) (cL (er (aj iA (ac (aj aU (ac (aj bI (ag (i:=1)) (ag (i:=3)))) (ac (bp aO (aa (ac (aj bI (ag (i:=0)) (ag (i:=3)))) ae))))) (ag (i:=4)))) (bd eR) bi)))) (bd eR))) (fun ds Q h=>le_trans (le_of_eq (fL ds Q h)) (by decide)) jM h⟩
theorem dw:∀ds Q,aB ds Q->ds.length=4:=fun ds Q h=>by unfold aB at h;split at h;(first|rfl|exact h.elim);(first|rfl|exact h.elim)
theorem fM(D:cI K mg "_law_signs_right" cC)(T:Txt mg)(C'15:Cal P w K mg base 2 "_law_over" ["_law_reads_here","_law_starts","_law_place"] (spP K bB)):Cal P w K mg base 3 "_law_signs_right" ["_law_reads_here","_law_starts","_law_slips_here","_law_text"] (spP K aB):=by
 refine D.ok aP (fun _ _ _ _ _ _ us hl=>match us,hl with|[_,_,_,_],_=>rfl) (fun vs H Q E h=>?_) (fun f cdv A outer s H vs Q E hr h=>?_)
 .exact k6 dw h
 .have hu:=hr.units;exact⟨_,(ai (c6 PassesOwn.never rfl (cP rfl T.b_range (paC (ak (bM K rfl) rfl T.b_len PySem.boot_len (paC (pv 3) ah)) ah)) (aN (i:=4) aP.nd rfl (by walk_at "o")) (ai (aJ (i:=5) aP.nd rfl (by walk_at "o") (aK C'15 (hr.mono (by decide)) (paC (pv 0) (paC (pv 1) (paC (pv 4) ah))))) (ai (cK (aF (nC K rfl hu) (pv 5) (dD ah) (aR _)) (am (bc eQ)) bf) (ai (aJ (i:=6) aP.nd rfl (by walk_at "o") (bH (dI K rfl) (pv 5) (lg gR al) (fun _ _=>rfl))) (ai (cK (aF (fw K rfl hu) (bH (dI K rfl) (pv 3) (pv 4) (fun _ _=>rfl)) (bH (dI K rfl) (bH (dI K rfl) (pv 0) (pv 6) (fun _ _=>rfl)) (aC fu (pv 4) (bH (dI K rfl) (pv 1) (pv 6) (fun _ _=>rfl))) (fun _ _=>rfl)) (aR _)) (am (bc eQ)) bf) (am (c6 PassesOwn.never rfl (iO K rfl (pv 5)) (aN (i:=7) aP.nd rfl (by walk_at "o")) (ai (aJ (i:=8) aP.nd rfl (by walk_at "o") (aC fu (pv 4) (bH (dI K rfl) (pv 1) (pv 7) (fun _ _=>rfl)))) (ai (aJ (i:=9) aP.nd rfl (by walk_at "o") (jb (xE K rfl) (pv 8) (bH (dI K rfl) (pv 2) (pv 7) (fun _ _=>rfl)) (by with_unfolding_all rfl))) (ai (cK (aF (fw K rfl hu) (pv 9) (jb (fw K rfl hu) (bH (dI K rfl) (bH (dI K rfl) (pv 0) (pv 7) (fun _ _=>rfl)) (pv 8) (fun _ _=>rfl)) (bH (dI K rfl) (pv 3) (pv 4) (fun _ _=>rfl)) (aR _)) (aR _)) (am (bc eQ)) bf) (am (cK (PW.pt (l7 (fX (pv 9)) (i9 (aF qc (pv 6) (pv 7) (aR _))))) (am (bc eQ)) bf)))))))))))) (am (bc eQ))),fnP (K:=K) (c:=aB) (ps:=bQ) (N:=["_law_reads_here","_law_starts","_law_slips_here","_law_text","_law_place","_law_over_here","_law_last","_law_at","_law_inside","_law_is_slip"]) (ar (c9 (lA (aa (ac (bp aO (aa (ag (i:=3)) ae))) ae)) (aD (i:=4) rfl) (ar (aE (bE (c:=bB) (aa (ac (aw (i:=0))) (aa (ac (aw (i:=1))) (aa (ac (aw (i:=4))) ae)))) (ax (i:=5) rfl)) (ar (cL (er (aj iS (ag (i:=5)) (ac (dH ae)))) (bd eR) bi) (ar (aE (aj bI (ag (i:=5)) (ac (lx hZ (ac le_int)))) (ax (i:=6) rfl)) (ar (cL (er (aj de (ac (aj bI (ag (i:=3)) (ag (i:=4)))) (ac (aj bI (ac (aj bI (ag (i:=0)) (ag (i:=6)))) (ac (aj c8 (ag (i:=4)) (ac (aj bI (ag (i:=1)) (ag (i:=6)))))))))) (bd eR) bi) (c9 (iP (aw (i:=5))) (aD (i:=7) rfl) (ar (aE (aj c8 (ag (i:=4)) (ac (aj bI (ag (i:=1)) (ag (i:=7))))) (ax (i:=8) rfl)) (ar (aE (aj wb (ag (i:=8)) (ac (aj bI (ag (i:=2)) (ag (i:=7))))) (ax (i:=9) rfl)) (ar (cL (er (aj de (ag (i:=9)) (ac (aj de (ac (aj bI (ac (aj bI (ag (i:=0)) (ag (i:=7)))) (ag (i:=8)))) (ac (aj bI (ag (i:=3)) (ag (i:=4)))))))) (bd eR) bi) (cL (mq (sW (aw (i:=9))) (er (aj iA (ag (i:=6)) (ag (i:=7))))) (bd eR) bi)))))))))) (bd eR)) (fun ds Q h=>le_trans (le_of_eq (dw ds Q h)) (by decide)) fJ h⟩
theorem fN:∀ds Q,aY ds Q->ds.length=3:=fun ds Q h=>by unfold aY at h;split at h;(first|rfl|exact h.elim);(first|rfl|exact h.elim)
theorem jQ(D:cI K mg "_law_pushed" eG)(T:Txt mg)(C'12:Cal P w K mg base 1 "_law_slips" ["_law_one","_law_other"] (spP K aS)):Cal P w K mg base 2 "_law_pushed" ["_law_reads_here","_law_starts","_law_most"] (spP K aY):=by
 refine D.ok cq (fun _ _ _ _ _ _ us hl=>match us,hl with|[_,_,_],_=>rfl) (fun vs H Q E h=>?_) (fun f cdv A outer s H vs Q E hr h=>?_)
 .exact k6 fN h
 .have hu:=hr.units;exact⟨_,(ai (c6 PassesOwn.never rfl (gQ rfl T.b_range (paC al (paC (ak (bM K rfl) rfl T.b_len PySem.boot_len (paC (pv 0) ah)) ah))) (aN (i:=3) cq.nd rfl (by walk_at "o")) (ai (aJ (i:=4) cq.nd rfl (by walk_at "o") (bH (dI K rfl) (pv 0) (aC fu (pv 3) al) (fun _ _=>rfl))) (ai (aJ (i:=5) cq.nd rfl (by walk_at "o") (aC fu (aC (bJ K rfl) (bH (dI K rfl) (pv 1) (aC fu (pv 3) al) (fun _ _=>rfl)) (ak (bM K rfl) rfl T.b_len PySem.boot_len (paC (pv 4) ah))) (bH (dI K rfl) (pv 1) (pv 3) (fun _ _=>rfl)))) (ai (cK (aF uk (ak (bM K rfl) rfl T.b_len PySem.boot_len (paC (aK C'12 (hr.mono (by decide)) (paC (bt (jR K rfl) (pv 4) (bG (aC fu (ak (bM K rfl) rfl T.b_len PySem.boot_len (paC (pv 4) ah)) (pv 5))) b6) (paC (bt (jR K rfl) (bH (dI K rfl) (pv 0) (pv 3) (fun _ _=>rfl)) b6 (bG (pv 5))) ah))) ah)) (pv 2) (aR _)) (am (bc eQ)) bf) (am (c6 PassesOwn.never rfl (gQ rfl T.b_range (paC (aC (bJ K rfl) (pv 5) al) (paC (ak (rF rfl) rfl T.b_min boot_min (paC (ak (bM K rfl) rfl T.b_len PySem.boot_len (paC (pv 4) ah)) (paC (ak (bM K rfl) rfl T.b_len PySem.boot_len (paC (bH (dI K rfl) (pv 0) (pv 3) (fun _ _=>rfl)) ah)) ah))) ah))) (aN (i:=6) cq.nd rfl (by walk_at "o")) (am (cK (aF qc (ak (bM K rfl) rfl T.b_len PySem.boot_len (paC (aK C'12 (hr.mono (by decide)) (paC (bt (jR K rfl) (pv 4) (bG (aC fu (ak (bM K rfl) rfl T.b_len PySem.boot_len (paC (pv 4) ah)) (pv 6))) b6) (paC (bt (jR K rfl) (bH (dI K rfl) (pv 0) (pv 3) (fun _ _=>rfl)) b6 (bG (pv 6))) ah))) ah)) (pv 2) (aR _)) (am (bc eQ)) bf)))))))) (am (bc eQ))),fnP (K:=K) (c:=aY) (ps:=cO) (N:=["_law_reads_here","_law_starts","_law_most","_law_at","_law_one","_law_k","_law_more"]) (ar (c9 (tD (aa (ac le_int) (aa (ac (bp aO (aa (ag (i:=0)) ae))) ae))) (aD (i:=3) rfl) (ar (aE (aj bI (ag (i:=0)) (ac (aj c8 (ag (i:=3)) (ac le_int)))) (ax (i:=4) rfl)) (ar (aE (aj c8 (ac (aj aU (ac (aj bI (ag (i:=1)) (ac (aj c8 (ag (i:=3)) (ac le_int))))) (ac (bp aO (aa (ag (i:=4)) ae))))) (ac (aj bI (ag (i:=1)) (ag (i:=3))))) (ax (i:=5) rfl)) (ar (cL (er (aj nA (ac (bp aO (aa (ac (bE (c:=aS) (aa (ac (bu (ag (i:=4)) (a9 (aj c8 (ac (bp aO (aa (ag (i:=4)) ae))) (ag (i:=5)))) bD)) (aa (ac (bu (ac (aj bI (ag (i:=0)) (ag (i:=3)))) bD (a9 (aw (i:=5))))) ae)))) ae))) (ag (i:=2)))) (bd eR) bi) (c9 (tD (aa (ac (aj aU (ag (i:=5)) (ac le_int))) (aa (ac (bp o9 (aa (ac (bp aO (aa (ag (i:=4)) ae))) (aa (ac (bp aO (aa (ac (aj bI (ag (i:=0)) (ag (i:=3)))) ae))) ae)))) ae))) (aD (i:=6) rfl) (cL (er (aj iA (ac (bp aO (aa (ac (bE (c:=aS) (aa (ac (bu (ag (i:=4)) (a9 (aj c8 (ac (bp aO (aa (ag (i:=4)) ae))) (ag (i:=6)))) bD)) (aa (ac (bu (ac (aj bI (ag (i:=0)) (ag (i:=3)))) bD (a9 (aw (i:=6))))) ae)))) ae))) (ag (i:=2)))) (bd eR) bi)))))) (bd eR)) (fun ds Q h=>le_trans (le_of_eq (fN ds Q h)) (by decide)) jN h⟩
theorem rX:∀ds Q,mU ds Q->ds.length=1:=fun ds Q h=>by obtain⟨_,rfl,_⟩:=h;rfl
theorem wu(D:cI K mg "law" re)(T:Txt mg)(C'7:Cal P w K mg base 2 "_law_deck" ["_law_script","_law_many"] (spP K bA))(C'8:Cal P w K mg base 1 "_law_next" ["_law_deck_here"] (spR K ay))(C'16:Cal P w K mg base 1 "_law_placed" ["_law_reads_here","_law_starts","_law_text"] (spP K aX))(C'18:Cal P w K mg base 2 "_law_pushed" ["_law_reads_here","_law_starts","_law_most"] (spP K aY))(C'13:Cal P w K mg base 3 "_law_reads" ["_law_deck_here"] (spR K bw))(C'17:Cal P w K mg base 3 "_law_signs_right" ["_law_reads_here","_law_starts","_law_slips_here","_law_text"] (spP K aB))(C'11:Cal P w K mg base 1 "_law_whole" ["_law_found"] (spP K aZ))(C'5:Cal P w K mg base 4 "put_right" ["reads","most"] (spP K bj)):Cal P w K mg base 5 "law" ["_law_script"] (spP K mU):=by
 refine D.ok fB (fun _ _ _ _ _ _ us hl=>match us,hl with|[_],_=>rfl) (fun vs H Q E h=>?_) (fun f cdv A outer s H vs Q E hr h=>?_)
 .exact k6 rX h
 .have hu:=hr.units;exact⟨_,(ai (aJ (i:=1) fB.nd rfl (by walk_at "o") (aK C'7 (hr.mono (by decide)) (paC (pv 0) (paC al ah)))) (ai (aJ (i:=2) fB.nd rfl (by walk_at "o") (aK C'13 (hr.mono (by decide)) (paC (pv 1) ah))) (ai (aJ (i:=3) fB.nd rfl (by walk_at "o") (bH (dI K rfl) (dD (paC (aC cY (aK C'8 (hr.mono (by decide)) (paC (pv 1) ah)) al) (paC al (paC (aC vR al al) ah)))) (aC cY (aK C'8 (hr.mono (by decide)) (paC (pv 1) ah)) al) (fun _ _=>rfl))) (ai (rk (aK C'5 (hr.mono (by decide)) (paC (pv 2) (paC (pv 3) ah))) (iU K rfl (n:=3) rfl (bU (aN (i:=4) fB.nd rfl (by walk_at "o")) (bU (aN (i:=5) fB.nd rfl (by walk_at "o")) (bU (aN (i:=6) fB.nd rfl (by walk_at "o")) fP))))) (ai (cK (PW.pt (jU (aF (fw K rfl hu) (ak (bM K rfl) rfl T.b_len PySem.boot_len (paC (pv 5) ah)) (ak (bM K rfl) rfl T.b_len PySem.boot_len (paC (pv 2) ah)) (aR _)) (jU (aF (fw K rfl hu) (ak (bM K rfl) rfl T.b_len PySem.boot_len (paC (pv 6) ah)) (ak (bM K rfl) rfl T.b_len PySem.boot_len (paC (pv 2) ah)) (aR _)) (gP (jV (fX (aK C'16 (hr.mono (by decide)) (paC (pv 2) (paC (pv 5) (paC (pv 4) ah)))))))))) (am (bc eQ)) bf) (ai (c6 PassesOwn.never rfl (iO K rfl (pv 6)) (aN (i:=7) fB.nd rfl (by walk_at "o")) (am (cK (PW.pt (jU (aF (fw K rfl hu) (fR (wi:=(uh K (dB 7))) (g:=(eY 0)) (tts:=(wF (tB (gS (spP K aZ) [] E0 (cX (dB 0) md))))) (te:=(dB 0)) ["_law_one"] [none] rfl (iO K rfl (pv 7)) (fun _ _ _ _=>⟨(aN (i:=0) (by show List.Nodup (["_law_one"]:List Str);decide +kernel) rfl (by walk_at "o")),(jj (jV (fX (aK C'11 (hr.mono (by decide)) (paC (pv 0) ah))))),(pv 0)⟩) (by kernel_rfl)) (dD ah) (aR _)) (gP (aF (fw K rfl hu) (dL (rG K rfl) rfl T.b_list boot_list (paC (pv 7) ah)) (rc K rfl rfl rfl T.b_sorted rfl T.b_set (paC (pv 7) ah)) (aR _))))) (am (bc eQ)) bf))) (ai (c6 PassesOwn.never rfl (cP rfl T.b_range (paC (ak (bM K rfl) rfl T.b_len PySem.boot_len (paC (pv 2) ah)) ah)) (aN (i:=8) fB.nd rfl (by walk_at "o")) (am (cK (aF (fw K rfl hu) (fR (wi:=(uh K (tOp (tm K) (dB 6) (dB 8)))) (g:=(eY 0)) (tts:=(tOr (m5 (tOp xk (dB 0) (tC (V.int 0)))) (m5 (tOp yo (dB 0) (tCB (o5 K) (cX (tOp (tm K) (dB 1) (dB 2)) md)))))) (te:=(dB 0)) ["_law_inside","_law_reads_here","_law_at"] [none,some 2,some 8] rfl (iO K rfl (bH (dI K rfl) (pv 6) (pv 8) (fun _ _=>rfl))) (fun _ _ _ _=>⟨(aN (i:=0) (by show List.Nodup (["_law_inside","_law_reads_here","_law_at"]:List Str);decide +kernel) rfl (by walk_at "o")),(jj (PW.pt (jU (aF vE (pv 0) al (aR _)) (gP (aF yM (pv 0) (ak (bM K rfl) rfl T.b_len PySem.boot_len (paC (bH (dI K rfl) (pv 1) (pv 2) (fun _ _=>rfl)) ah)) (aR _)))))),(pv 0)⟩) (by kernel_rfl)) (dD ah) (aR _)) (am (bc eQ)) bf))) (am (bc (nQ (aK C'17 (hr.mono (by decide)) (paC (pv 2) (paC (pv 5) (paC (pv 6) (paC (pv 4) ah))))) (nP (aK C'18 (hr.mono (by decide)) (paC (pv 2) (paC (pv 5) (paC (pv 3) ah))))))))))))))),fnP (K:=K) (c:=mU) (ps:=mW) (N:=["_law_script","_law_deck_here","_law_reads_here","_law_most","_law_text","_law_starts","_law_slips_here","_law_row","_law_at"]) (ar (aE (bE (c:=bA) (aa (ac (aw (i:=0))) (aa (ac le_int) ae))) (ax (i:=1) rfl)) (ar (aE (bF (i:=1) ae) (ax (i:=2) rfl)) (ar (aE (aj bI (ac (dH (aa (ac (aj bZ (ac (bF (i:=1) ae)) (ac le_int))) (aa (ac le_int) (aa (ac (aj rB (ac le_int) (ac le_int))) ae))))) (ac (aj bZ (ac (bF (i:=1) ae)) (ac le_int)))) (ax (i:=3) rfl)) (ar (aE (bE (c:=bj) (aa (ac (aw (i:=2))) (aa (ac (aw (i:=3))) ae))) (vU (bW (aD (i:=4) rfl) (bW (aD (i:=5) rfl) (bW (aD (i:=6) rfl) fT))))) (ar (cL (ki (er (aj de (ac (bp aO (aa (ag (i:=5)) ae))) (ac (bp aO (aa (ag (i:=2)) ae))))) (ki (er (aj de (ac (bp aO (aa (ag (i:=6)) ae))) (ac (bp aO (aa (ag (i:=2)) ae))))) (kj (sW (bE (c:=aX) (aa (ac (aw (i:=2))) (aa (ac (aw (i:=5))) (aa (ac (aw (i:=4))) ae)))))))) (bd eR) bi) (ar (c9 (iP (aw (i:=6))) (aD (i:=7) rfl) (cL (ki (er (aj de (ac (e8 (ix:=[none]) rfl (iP (aw (i:=7))) (fun fs hc=>(aD (i:=0) (qd hc (by decide)))) (kj (sW (bE (c:=aZ) (aa (ac (aw (i:=0))) ae)))) (aw (i:=0)))) (ac (dH ae)))) (er (aj de (ac (bp pd (aa (ag (i:=7)) ae))) (ac (bp rd (aa (ag (i:=7)) ae)))))) (bd eR) bi)) (ar (c9 (lA (aa (ac (bp aO (aa (ag (i:=2)) ae))) ae)) (aD (i:=8) rfl) (cL (er (aj de (ac (e8 (ix:=[none,some 2,some 8]) rfl (iP (aj bI (ag (i:=6)) (ag (i:=8)))) (fun fs hc=>(aD (i:=0) (qd hc (by decide)))) (ki (er (aj oZ (ag (i:=0)) (ac le_int))) (er (aj xl (ag (i:=0)) (ac (bp aO (aa (ac (aj bI (ag (i:=1)) (ag (i:=2)))) ae)))))) (aw (i:=0)))) (ac (dH ae)))) (bd eR) bi)) (bd (oW (bE (c:=aB) (aa (ac (aw (i:=2))) (aa (ac (aw (i:=5))) (aa (ac (aw (i:=6))) (aa (ac (aw (i:=4))) ae))))) (bE (c:=aY) (aa (ac (aw (i:=2))) (aa (ac (aw (i:=5))) (aa (ac (aw (i:=3))) ae))))))))))))) (fun ds Q h=>le_trans (le_of_eq (rX ds Q h)) (by decide)) wt h⟩
end
theorem wv{l:PySem.W.OpenLaw}{w:World}{K:PySem.W.Frag}{h:Heap}{mg:Str->Option Value}{fa:Addr}(X:K.In h)(G:h.Ns mainGlobals mg)(hfa:mg "law"=some (.ref fa))
  {f1:Addr}{oc1 kV1 dc1 pm1 cd1 ct1:Value}{od1 an1 dd1:Option Addr}{sl1 st1:Array (Option Value)}{dT1:Addr}{n1:Nat}{u1_0 u1_1:Tok} (a1:PySem.W.nsIn K mainGlobals "is_text"=some (some (.ref f1))) (l1:K.lookup f1=some ⟨oc1,od1,.func (PySem.W.fnOf "is_text" "is_text" (cj dM) (bR dM) (aq dM) (.ref dT1) kV1 dc1 pm1 an1 cd1 ct1),sl1⟩) (c1:PySem.W.codeIn K cd1 "is_text"=true) (k1:PySem.W.keepIn K (.ref f1)=true) (t1:K.lookup dT1=some ⟨.type "tuple",dd1,.seq [.int 0 u1_0,.int 4000 u1_1].toArray n1,st1⟩)
  (d2:iC K "slip_places" dU)
  (d3:iC K "_law_mixed" fc)
  (d4:iC K "_law_next" f9)
  (d5:iC K "_law_whole" ff)
  (d6:iC K "_law_slips" fg)
  (d7:iC K "_law_lies" gg)
  (d8:iC K "_law_placed" eF)
  (d9:iC K "check_pieces" dA)
  (d10:iC K "many_slips" eE)
  (d11:iC K "_law_deck" f8)
  (d12:iC K "_law_letters" dW)
  (d13:iC K "_law_signs" fe)
  (d14:iC K "_law_over" gh)
  (d15:iC K "_law_pushed" eG)
  (d16:iC K "slip_lap" f7)
  (d17:iC K "_law_reads" fh)
  (d18:iC K "_law_signs_right" cC)
  (d19:iC K "put_right" fb)
  (d20:iC K "law" re)
  (z1:PySem.W.nsIn K mainGlobals "all"=some none)
  (z2:PySem.W.nsIn K mainGlobals "bool"=some none)
  (z3:PySem.W.nsIn K mainGlobals "enumerate"=some none)
  (z4:PySem.W.nsIn K mainGlobals "int"=some none)
  (z5:PySem.W.nsIn K mainGlobals "isinstance"=some none)
  (z6:PySem.W.nsIn K mainGlobals "len"=some none)
  (z7:PySem.W.nsIn K mainGlobals "list"=some none)
  (z8:PySem.W.nsIn K mainGlobals "min"=some none)
  (z9:PySem.W.nsIn K mainGlobals "range"=some none)
  (z10:PySem.W.nsIn K mainGlobals "reversed"=some none)
  (z11:PySem.W.nsIn K mainGlobals "set"=some none)
  (z12:PySem.W.nsIn K mainGlobals "sorted"=some none)
  (z13:PySem.W.nsIn K mainGlobals "str"=some none)
  (z14:PySem.W.nsIn K mainGlobals "tuple"=some none)
  (z15:PySem.W.nsIn K mainGlobals "zip"=some none)
  {ty1:Tok} (y1:PySem.W.nsIn K mainGlobals "MOST_PIECES"=some (some (.int 40 ty1)))
  {ty2:Tok} (y2:PySem.W.nsIn K mainGlobals "MOST_SIGNS"=some (some (.int 60 ty2))) :
  ∃fd:FuncData,(∀(s:Shared) (v:Value),BindsTo s fd ⟨[v],[]⟩ [("_law_script",v)])/\∀base:Heap,K.In base->base.Ns mainGlobals mg->me l.prog w K mg base CX0 5 fa fd ["_law_script"] (nq K):=by
 have D'0:mm K mg "is_text" dM [.int 0,.int 4000]:=⟨⟨f1,dT1,oc1,od1,an1,dd1,kV1,dc1,pm1,cd1,ct1,sl1,st1,[.int 0 u1_0,.int 4000 u1_1],n1,l1,c1,k1,PySem.W.mg_of X G a1,t1,(.cons ⟨_,rfl⟩ (.cons ⟨_,rfl⟩ .nil))⟩⟩
 have D'2:=cp d2 X G;have D'6:=cp d3 X G;have D'8:=cp d4 X G;have D'11:=cp d5 X G;have D'12:=cp d6 X G;have D'14:=cp d7 X G;have D'16:=cp d8 X G;have D'1:=cp d9 X G;have D'3:=cp d10 X G;have D'7:=cp d11 X G;have D'9:=cp d12 X G;have D'10:=cp d13 X G;have D'15:=cp d14 X G;have D'18:=cp d15 X G
 have D'4:=cp d16 X G;have D'13:=cp d17 X G;have D'17:=cp d18 X G;have D'5:=cp d19 X G;have D'19:=cp d20 X G;have T:Txt mg:=⟨PySem.W.mg_none_of X G z1,PySem.W.mg_none_of X G z2,PySem.W.mg_none_of X G z3,PySem.W.mg_none_of X G z4,PySem.W.mg_none_of X G z5,PySem.W.mg_none_of X G z6,PySem.W.mg_none_of X G z7,PySem.W.mg_none_of X G z8,PySem.W.mg_none_of X G z9,PySem.W.mg_none_of X G z10,PySem.W.mg_none_of X G z11,PySem.W.mg_none_of X G z12,PySem.W.mg_none_of X G z13,PySem.W.mg_none_of X G z14,PySem.W.mg_none_of X G z15,⟨_,PySem.W.mg_of X G y1⟩,⟨_,PySem.W.mg_of X G y2⟩⟩
 refine vn (st:=re) hfa D'19 (fun _ _ _ _ _ _ s v=>.of_eq rfl) fun base=>?_;have C'0:=nL (P:=l.prog) (w:=w) (base:=base) D'0 T;have C'2:=iL (P:=l.prog) (w:=w) (base:=base) D'2 T;have C'6:=kT (P:=l.prog) (w:=w) (base:=base) D'6 T;have C'8:=l0 (P:=l.prog) (w:=w) (base:=base) D'8 T;have C'11:=kW (P:=l.prog) (w:=w) (base:=base) D'11 T
 have C'12:=kX (P:=l.prog) (w:=w) (base:=base) D'12 T;have C'14:=l4 (P:=l.prog) (w:=w) (base:=base) D'14 T;have C'16:=jP (P:=l.prog) (w:=w) (base:=base) D'16 T;have C'1:=im (P:=l.prog) (w:=w) (base:=base) D'1 T C'0;have C'3:=jO (P:=l.prog) (w:=w) (base:=base) D'3 T C'2;have C'7:=lZ (P:=l.prog) (w:=w) (base:=base) D'7 T C'6
 have C'9:=iM (P:=l.prog) (w:=w) (base:=base) D'9 T C'8;have C'10:=kU (P:=l.prog) (w:=w) (base:=base) D'10 T C'8;have C'15:=l5 (P:=l.prog) (w:=w) (base:=base) D'15 T C'14;have C'18:=jQ (P:=l.prog) (w:=w) (base:=base) D'18 T C'12;have C'4:=lY (P:=l.prog) (w:=w) (base:=base) D'4 T C'3;have C'13:=kY (P:=l.prog) (w:=w) (base:=base) D'13 T C'9 C'8 C'10
 have C'17:=fM (P:=l.prog) (w:=w) (base:=base) D'17 T C'15;have C'5:=kS (P:=l.prog) (w:=w) (base:=base) D'5 T C'1 C'4 C'2;exact (wu (P:=l.prog) (w:=w) (base:=base) D'19 T C'7 C'8 C'16 C'18 C'13 C'17 C'11 C'5).imp fun _ _ _ _ h=>tI h
end K64

open PySem PySem.W PyProof.Rows
local macro_rules | `(tactic| walk_at "fn") => `(tactic| (refine' L2.wc ?a ?l ?c ?k; (case a => k_is); (case l => k_is); (case c => k_is); (case k => k_is)))
local macro_rules | `(tactic| walk_at "xi") => `(tactic| (refine' L2.xK ?a ?l ?g ?h ?s ?c ?k; (case a => k_is); (case l => k_is); (case g => k_is); (case h => k_is); (case s => k_is); (case c => k_is); (case k => k_is)))
local macro_rules | `(tactic| walk_at "xj") => `(tactic| (refine' L2.xL ?i ?t ?l ?c ?k ?n; (case i => k_is); (case t => k_is); (case l => k_is); (case c => k_is); (case k => k_is); (case n => k_is)))
set_option maxRecDepth 100000 in
set_option maxHeartbeats 0 in
theorem PySem.Challenge.cw_shortglue_k64_whole_reads_stand_holds : PySem.Challenge.rw_shortglue_k64_whole_reads_stand.Holds := by
  refine topHd ?_
  k_fill
  refine L2.vo (l := PySem.Challenge.rw_shortglue_k64_whole_reads_stand) (k := 5) (x := "_law_script") rfl rfl ⟨rfl, by decide, by decide⟩ (fun w h Y => PySem.W.kIn_of Y) ?F
  case F =>
    intro w mg fa h KX G hmg
    refine' K64.wv KX G hmg ?a1 ?l1 ?c1 ?k1 ?t1 ?d2 ?d3 ?d4 ?d5 ?d6 ?d7 ?d8 ?d9 ?d10 ?d11 ?d12 ?d13 ?d14 ?d15 ?d16 ?d17 ?d18 ?d19 ?d20 ?z1 ?z2 ?z3 ?z4 ?z5 ?z6 ?z7 ?z8 ?z9 ?z10 ?z11 ?z12 ?z13 ?z14 ?z15 ?y1 ?y2
    (case a1 => k_is)
    (case l1 => k_is)
    (case c1 => k_is)
    (case k1 => k_is)
    (case t1 => k_is)
    (case d2 => walk_at "fn")
    (case d3 => walk_at "fn")
    (case d4 => walk_at "fn")
    (case d5 => walk_at "fn")
    (case d6 => walk_at "fn")
    (case d7 => walk_at "fn")
    (case d8 => walk_at "fn")
    (case d9 => walk_at "fn")
    (case d10 => walk_at "fn")
    (case d11 => walk_at "fn")
    (case d12 => walk_at "fn")
    (case d13 => walk_at "fn")
    (case d14 => walk_at "fn")
    (case d15 => walk_at "fn")
    (case d16 => walk_at "fn")
    (case d17 => walk_at "fn")
    (case d18 => walk_at "fn")
    (case d19 => walk_at "fn")
    (case d20 => walk_at "fn")
    (case z1 => k_is)
    (case z2 => k_is)
    (case z3 => k_is)
    (case z4 => k_is)
    (case z5 => k_is)
    (case z6 => k_is)
    (case z7 => k_is)
    (case z8 => k_is)
    (case z9 => k_is)
    (case z10 => k_is)
    (case z11 => k_is)
    (case z12 => k_is)
    (case z13 => k_is)
    (case z14 => k_is)
    (case z15 => k_is)
    (case y1 => k_is)
    (case y2 => k_is)
