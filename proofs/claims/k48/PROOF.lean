import PyProof.Rows.All
import Wide.All
import OpenK.AllK
import Wide.FinOn
import Lean
import PyProof.EqAt
import PyProof.EqKinds
import PyProof.TupleCall
import KE.KSortTup
import PyProof.FString
import PyProof.StrBlock
import KE.KRevSl
import PyProof.StrLawsReplace
import PyProof.StrCalls6
import PyProof.MinMaxWalk
import PyProof.WalkInts
import PyProof.NeKinds
import KE.KEqDict
import PyProof.Rows.SumAny
import KE.KMinKey
import PyProof.Rows.CallKwBuiltin
import PySem.Challenge.RW_shortglue_k48_turnable
set_option Elab.async false
set_option linter.all false
set_option maxRecDepth 100000
open List (all_cons all_eq_true all_map all_nil any_cons any_eq_false any_eq_true any_map append_assoc append_nil append_toArray cons_lt_cons_iff contains_cons contains_iff_mem drop_drop drop_eq_getElem_cons drop_eq_nil_of_le drop_left drop_suffix drop_zero eq_of_mem_replicate ext_getElem? extract_eq_take_drop extract_toArray filterMap_append filterMap_cons filterMap_eq_map filterMap_map filter_append filter_cons filter_nil find?_cons find?_eq_none find?_eq_some_iff_append flatMap_append flatMap_cons flatten_cons flatten_nil foldl_cons forIn_cons forIn_nil getD_eq_getElem?_getD getElem?_append_left getElem?_append_right getElem?_cons_succ getElem?_eq_getElem getElem?_eq_none getElem?_map getElem?_range getElem?_replicate getElem?_reverse getElem?_set_ne getElem?_set_self getElem?_take getElem?_take_of_lt getElem?_zip_eq_some getElem_cons_drop getElem_inj getElem_mem getElem_of_mem getElem_toArray infix_refl length_append length_cons length_drop length_eq_zero_iff length_filter_le length_flatten length_map length_nil length_pos_iff length_pos_of_mem length_range length_replicate length_reverse length_set length_singleton length_take length_zip lookup_append lookup_cons map_append map_congr_left map_cons map_drop map_fst_zip map_map map_nil map_replicate map_snd_zip map_take mem_append mem_append_left mem_append_right mem_cons mem_cons_of_mem mem_cons_self mem_filter mem_filterMap mem_flatMap mem_flatten mem_iff_getElem? mem_map mem_map_of_mem mem_of_getElem? mem_of_mem_drop mem_of_mem_take mem_range mem_range'_1 mem_replicate mem_reverse mem_singleton nil_append nil_suffix nodup_append nodup_cons not_mem_nil of_mem_zip pairwise_append pairwise_cons pairwise_lt_range range_succ range_succ_eq_map replicate_succ reverse_append reverse_cons reverse_infix reverse_reverse set_cons_succ set_cons_zero size_toArray suffix_iff_eq_drop sum_append sum_replicate_nat tail_cons take_add_one take_append_drop take_left take_length take_nil take_of_length_le take_sublist take_succ take_succ_cons take_zero zipIdx_cons zipIdx_nil)
open Nat (add_comm add_mul eq_zero_or_pos le_add_right le_antisymm le_of_ble_eq_true le_of_eq le_of_lt le_of_not_lt le_of_succ_le le_refl le_succ le_trans lt_of_le_of_lt lt_of_lt_of_le lt_or_ge lt_succ_of_lt lt_succ_self lt_trans lt_trichotomy max_le min_eq_left min_eq_right min_le_right mul_comm mul_le_mul mul_le_mul_right mul_pos mul_zero ne_of_gt ne_of_lt not_lt not_lt_zero not_succ_le_self one_mul sub_self succ_mul zero_le zero_lt_succ)
open Int (add_zero ediv_nonneg ediv_one emod_lt_of_pos emod_nonneg fdiv_eq_ediv_of_nonneg fmod_eq_emod_of_nonneg le_ediv_of_mul_le mul_le_mul_of_nonneg_left mul_one natCast_zero neg_neg toNat_natCast zero_mul)
open Bool (and_eq_false_imp and_eq_true and_eq_true_iff beq_eq_decide_eq eq_false_iff false_eq_true not_eq_true not_not or_eq_true or_eq_true_iff)
local macro_rules | `(tactic| walk_at "o")=>`(tactic| first | exact Or.inl rfl | exact Or.inr rfl | exact Or.inr (Or.inl rfl) | exact Or.inr (Or.inr rfl))
set_option maxHeartbeats 4000000
noncomputable section
namespace L2
open PySem PySem.W
def mG(tb:String->Option Builtin)(p:Program)(w:World)(n₀:Nat)(ann:Option Value):Nat->SharedT->Thread->Option SharedT
 | 0,_,_=>none
 | n+1,s,t=>match through t with
  | true=>some s
  | false=>match stepOk n₀ ann t with
   | false=>none
   | true=>match stepT (denote tb) p w s t with
    | some (s',t')=>mG tb p w n₀ ann n s' t'
    | none=>none
theorem nX{tb:String->Option Builtin}{p:Program}{w:World}{n₀:Nat}{ann:Option Value}:∀{n:Nat}{s s':SharedT}{t:Thread},mG tb p w n₀ ann n s t=some s'->topRun tb p w n₀ ann n s.abs t=some s'.abs
 | 0,_,_,_,h=>by cases h
 | n+1,s,s',t,h=>by
  unfold mG at h;unfold topRun
  cases he:through t with
  | true=>rw [he] at h;cases h;rfl
  | false =>
   rw [he] at h
   cases hk:stepOk n₀ ann t with
   | false=>rw [hk] at h;cases h
   | true =>
    rw [hk] at h
    cases hs:stepT (denote tb) p w s t with
    | none=>rw [hs] at h;cases h
    | some r=>obtain⟨s₂,t₂⟩:=r;rw [hs] at h;rw [stepT_spec hs];exact nX h
def xl:List Obj->Nat->BT->BT
 | [],_,t=>t
 | o::r,i,t=>xl r (i+1) (t.ins i o)
def xX(P:Params):BT:=xl (boot_heap P).objs.toList 0 .nil
theorem vI:∀P,absHeap (xX P) (boot_heap P).objs.size (boot_heap P).life=boot_heap P:=fun P=>by kernel_rfl
theorem Ac{p q:Program}{loose:List Str}{Xt:Shared->Bool}{α:Type}{Yf:Shared->α}{Ya:World->α}{N:Nat}{g0:Bool}{m₀:Nat}{ann:Option Value}
  (e:opening p=plainProg p.main.scope.names) (hN:Nat.ble 600 N=true) (f:∀s,fenceModules? p s=some s)
  (size:∀w:World,((boot_heap w.params).isNs mainGlobals && (Array.mk []:Array GenState).size == 0,(boot_heap w.params).objs.size,(boot_heap w.params).nsMap mainGlobals "__annotations__")=(true,m₀,ann))
  (run:∀(w:World) (os:OsState),(mG treeTable p w m₀ ann N ⟨xX w.params,m₀,(boot_heap w.params).life,Array.mk [],boot_drawn,boot_toks,os⟩ (topStub p)).map (fun sT=>((staticsOk (importedModules p.main.body) (boot_heap w.params) sT.abs.heap && namesBound p sT.abs.heap && gensDone sT.abs && laidKept (boot_heap w.params) sT.abs.heap),openSeen q loose (importedModules p.main.body) Xt g0 sT.abs,Yf sT.abs))=some (true,openGood q loose,Ya w)):LeftO p q loose Xt Yf Ya N g0:=fun w=>by
 obtain⟨⟨h,gs,d,k,os⟩,e,e'⟩:=Option.map_eq_some_iff.mp (boot_open e hN f w);obtain⟨rfl,rfl,rfl,rfl⟩:h=boot_heap w.params/\gs=Array.mk []/\d=boot_drawn/\k=boot_toks:=by simpa using e'
 obtain⟨z1,z2,z3⟩:_/\_/\_:=by simpa only [Prod.mk.injEq] using size w
 obtain⟨sT,r,l⟩:=Option.map_eq_some_iff.mp (run w os);obtain⟨l1,l2,l3⟩:_/\_/\_:=by simpa only [Prod.mk.injEq] using l
 have r:=nX r
 rw [show SharedT.abs ⟨xX w.params,m₀,(boot_heap w.params).life,Array.mk [],boot_drawn,boot_toks,os⟩=⟨boot_heap w.params,Array.mk [],boot_drawn,boot_toks,os⟩ by
  unfold SharedT.abs;dsimp only;rw [<- z2,vI]] at r
 have t:topFrom treeTable p w N ⟨boot_heap w.params,Array.mk [],boot_drawn,boot_toks,os⟩=some sT.abs:=by
  unfold topFrom;dsimp only;rw [z1,z2,z3,r];show (match staticsOk (importedModules p.main.body) (boot_heap w.params) sT.abs.heap && namesBound p sT.abs.heap && gensDone sT.abs && laidKept (boot_heap w.params) sT.abs.heap with|true=>_|false=>_)=_;rw [l1]
 unfold openEnds;rw [e];show (topFrom treeTable p w N _).map _=_;rw [t];exact congrArg some (Prod.ext l2 l3)
end L2
section
open PySem PySem.W PyProof.Rows
def xY:Program:=PySem.W.view PySem.Challenge.pw_shortglue_k48_turnable [1,2,3,4,5,6,8,9,11,12,13,15,17,18,20,21,22,23,24,25,27,28,29,30,31,32,33,34,35,36,37,38,39,40,41,42,43,44,45]
local macro_rules | `(tactic| o_head $H)=>`(tactic| (refine holds_open (q:=xY) (loose:=[PySem.Str.ofString "is_text"]) (Xt:=fun s=>xlAt xY [] s && recOk (RowW.records (OpenRow.toRowW (OpenLaw.row PySem.Challenge.rw_shortglue_k48_turnable))) s) (XP:=XL xY []) (Yf:=Hook.obs $H) (Ya:=Hook.val $H) (YP:=Hook.says $H) (N:=5370) ?hl (Hook.of $H) (Hook.keeps $H) (fun s e=>xl_of s (and_eq_true_iff.mp e).1) XL.keeps (by rfl) (by rfl) (by rfl) (fun s e=>recFacts_of (and_eq_true_iff.mp e).2) (by rfl) (by first | assumption | decide +kernel) (by decide +kernel) ⟨rfl,rfl,rfl,rfl,rfl,by decide +kernel⟩ ?hw ?hc;(case hl=>(refine L2.Ac (m₀:=11) (ann:=some (.ref 6)) (by kernel_rfl) (by rfl) (fun s=>by kernel_rfl) (fun w=>by kernel_rfl) ?_;intro w os;kernel_rfl))))
set_option maxRecDepth 100000 in
set_option maxHeartbeats 0 in
open_top topHd for PySem.Challenge.rw_shortglue_k48_turnable
end
-- CHANGE: your row's module here,as the last of these rows
namespace L2
open PySem PySem.Spec PyProof.Rows
abbrev Key:=Sum Int Str
def rG:Key->Value->Bool
 | .inl k,v=>Value.isInt k v
 | .inr x,v=>Value.isStrOf x v
def En(w:World):Key->Int
 | .inl k=>hashInt k
 | .inr x=>hashStr w x
theorem cp:∀{k:Key}{v:Value},rG k v=true->(∃i t,k=Sum.inl i/\v=Value.int i t)\/(∃x t,k=Sum.inr x/\v=Value.str x t)
 | .inl i,v,h=>by
  obtain⟨t,e⟩:=Value.isInt_shape (k:=i) (v:=v) h;exact .inl ⟨i,t,rfl,e⟩
 | .inr x,v,h=>by
  obtain⟨t,e⟩:=Value.isStrOf_shape (x:=x) (v:=v) h;exact .inr ⟨x,t,rfl,e⟩
theorem sL(i:Int)(t:Tok):rG (.inl i) (.int i t)=true:=by simp [rG,Value.isInt]
theorem sM(x:Str)(t:Tok):rG (.inr x) (.str x t)=true:=by simp [rG,Value.isStrOf]
theorem Ad(a b:Int):decide ((Sum.inl a:Key)=Sum.inl b)=(a == b):=by
 by_cases e:a=b
 .subst e;simp
 .have h:¬ (Sum.inl a:Key)=Sum.inl b:=fun q=>e (Sum.inl.inj q);rw [decide_eq_false h];exact (beq_eq_false_iff_ne.mpr e).symm
theorem Ae(a b:Str):decide ((Sum.inr a:Key)=Sum.inr b)=decide (a=b):=by
 by_cases e:a=b
 .subst e;simp
 .have h:¬ (Sum.inr a:Key)=Sum.inr b:=fun q=>e (Sum.inr.inj q);rw [decide_eq_false h,decide_eq_false e]
theorem Af(a:Int)(b:Str):decide ((Sum.inl a:Key)=Sum.inr b)=false:=decide_eq_false (fun q=>nomatch q)
theorem Ag(a:Str)(b:Int):decide ((Sum.inr a:Key)=Sum.inl b)=false:=decide_eq_false (fun q=>nomatch q)
def eZ(prog:Program)(w:World):PySem.KeyKind prog w Key where
 is:=rG
 hash:=En w
 inj:=fun v a b ha hb=>by
  rcases cp ha with ⟨i,t,rfl,rfl⟩|⟨x,t,rfl,rfl⟩
  .rcases cp hb with ⟨j,u,rfl,e⟩|⟨y,u,rfl,e⟩
   .injection e with e1 _;rw [e1]
   .exact nomatch e
  .rcases cp hb with ⟨j,u,rfl,e⟩|⟨y,u,rfl,e⟩
   .exact nomatch e
   .injection e with e1 _;rw [e1]
 byValue:=fun k v h=>by
  rcases cp h with ⟨i,t,rfl,rfl⟩|⟨x,t,rfl,rfl⟩ <;> rfl
 pyHash:=fun hv h=>by
  rcases cp hv with ⟨i,t,rfl,rfl⟩|⟨x,t,rfl,rfl⟩
  .exact wpAny_pyHash_int h
  .exact wpAny_pyHash_str h
 eqBool:=fun hu hv h=>by
  rcases cp hu with ⟨i,t,rfl,rfl⟩|⟨x,t,rfl,rfl⟩
  .rcases cp hv with ⟨j,u,rfl,rfl⟩|⟨y,u,rfl,rfl⟩
   .rw [Ad] at h;exact wpAny_eqBool_int h
   .rw [Af] at h;exact SeqAt.EqAt.int_str i t y u _ _ _ _ h
  .rcases cp hv with ⟨j,u,rfl,rfl⟩|⟨y,u,rfl,rfl⟩
   .rw [Ag] at h;exact SeqAt.EqAt.str_int x t j u _ _ _ _ h
   .rw [Ae] at h;exact wpAny_eqBool_str h
 «strs»:=fun k x t v h=>by
  rcases cp h with ⟨i,u,rfl,e⟩|⟨y,u,rfl,e⟩
  .exact nomatch e
  .injection e with e1 _;subst e1;cases v <;> rfl
theorem pR(prog:Program)(w:World)(i:Int)(t:Tok):(eZ prog w).is (.inl i) (.int i t)=true:=sL i t
theorem pS(prog:Program)(w:World)(x:Str)(t:Tok):(eZ prog w).is (.inr x) (.str x t)=true:=sM x t
inductive V where
 | non|bl (b:Bool)|int (i:Int)|str (x:Str)|byt (b:Array UInt8)|flt (b:UInt64)|ref (a:Addr)|ty (n:String)
 deriving DecidableEq
def dn:V->Value->Prop
 | .non,u=>u=Value.none
 | .bl b,u=>u=Value.bool b
 | .int i,u=>∃t,u=Value.int i t
 | .str x,u=>∃t,u=Value.str x t
 | .byt b,u=>∃t,u=Value.bytes b t
 | .flt b,u=>∃t,u=Value.float b t
 | .ref a,u=>u=Value.ref a
 | .ty n,u=>u=Value.type n
abbrev bZ:List V->List Value->Prop:=Paired dn
theorem bZ.length{xs:List V}{us:List Value}(r:bZ xs us):xs.length=us.length:=Paired.length r
theorem bZ.get:∀{xs:List V}{us:List Value}{i:Nat}{x:V},bZ xs us->xs[i]?=some x->∃u,us[i]?=some u/\dn x u
 | _,_,_,_,.nil,e=>by simp at e
 | _,_,0,_,.cons r _,e=>by simp at e;subst e;exact⟨_,rfl,r⟩
 | _,_,i+1,x,.cons _ t,e=>by
  obtain⟨u,h1,h2⟩:=bZ.get (i:=i) (x:=x) t (by simpa using e);exact⟨u,by simpa using h1,h2⟩
theorem bZ.set{x:V}{u:Value}(r:dn x u):∀{xs:List V}{us:List Value} (i:Nat),bZ xs us->bZ (xs.set i x) (us.set i u)
 | _,_,_,.nil=>.nil
 | _,_,0,.cons _ t=>.cons r t
 | _,_,i+1,.cons q t=>.cons q (bZ.set r i t)
theorem bZ.append:∀{xs ys:List V}{us ws:List Value},bZ xs us->bZ ys ws->bZ (xs++ys) (us++ws)
 | _,_,_,_,.nil,s=>s
 | _,_,_,_,.cons r t,s=>.cons r (bZ.append t s)
theorem bZ.take:∀{xs:List V}{us:List Value} (n:Nat),bZ xs us->bZ (xs.take n) (us.take n)
 | _,_,0,_=>.nil
 | _,_,_+1,.nil=>.nil
 | _,_,n+1,.cons r t=>.cons r (bZ.take n t)
theorem bZ.drop:∀{xs:List V}{us:List Value} (n:Nat),bZ xs us->bZ (xs.drop n) (us.drop n)
 | _,_,0,r=>r
 | _,_,_+1,.nil=>.nil
 | _,_,n+1,.cons _ t=>bZ.drop n t
def rH:Option V->Option Value->Prop
 | some v,some u=>dn v u
 | none,none=>True
 | _,_=>False
def KV{κ:Type}:List (κ×V)->List (κ×Value)->Prop:=Paired fun (p:κ×V) (q:κ×Value)=>p.1=q.1/\dn p.2 q.2
def kV:Key->V
 | .inl i=>.int i
 | .inr x=>.str x
inductive HO where
 | lst (xs:List V)
 | tup (xs:List V)
 | dK (kvs:List (Key×V))|dT (kvs:List (List Key×V))
 | set (S:Int->Bool) (n:Nat)
 | ins (C dx:Addr) (fs:List (Str×V))
 | own (x:Addr)
 | xd (fs:List (Str×V))
 | met (f x:Addr)
 | rng (lo hi:Int)
 | frz (o:Obj) (u:HO)
 | tbl (ps:Array Value)
 | ext (φ:Heap->Prop)
abbrev Hp:=Addr->Option HO
def upd(H:Hp)(a:Addr)(o:HO):Hp:=fun b=>if b=a then some o else H b
theorem ay{H:Hp}{a:Addr}{o:HO}:upd H a o a=some o:=by unfold upd;rw [if_pos rfl]
theorem ap{H:Hp}{a b:Addr}{o:HO}(h:b≠a):upd H a o b=H b:=by unfold upd;rw [if_neg h]
theorem aH{H:Hp}{a b:Addr}{o:HO}(h:H a=some o)(h':H b=none):a≠b:=by
 intro e;subst e;rw [h] at h';cases h'
section
variable (P:Program) (w:World)
def bK(H:Hp)(h:Heap)(a:Addr):HO->Prop
 | .lst xs=>xs.length<=sizeLine/\∃(its:List Value) (n:Nat),bZ xs its/\h.get? a=some { cls:=.type "list",data:=.seq its.toArray n }
 | .tup xs=>xs.length<=sizeLine/\∃its:List Value,bZ xs its/\IsTup h a its.toArray
 | .dK kvs=>kvs.length<=sizeLine/\(a == sysModules)=false/\∃vs,KV kvs vs/\h.DictOf (eZ P w) a vs
 | .dT kvs=>kvs.length<=sizeLine/\(a == sysModules)=false/\∃xs:List (List Key×Addr×Value),
   Paired (fun (p:List Key×V) (q:List Key×Addr×Value)=>p.1=q.1/\H q.2.1=some (.tup (p.1.map kV))/\dn p.2 q.2.2) kvs xs /\
   ∃o es ep,h.get? a=some o/\o.ExactDict/\o.data=.dict es ep/\es.toList=xs.map (entryOfKey (tupleKind (eZ P w)))/\(xs.map (·.1)).Nodup
 | .set S n=>h.SetOf (intKind P w) a S n
 | .ins C dx fs=>H dx=some (.own a)/\fs.length<=1000/\dx≠a/\h.get? a=some (PySem.W.instObj C dx) /\
   ∃mA,h.Ns1 dx mA/\(∀f,rH (fs.lookup f) (mA f))/\PySem.Within mA (fs.map (·.1))
 | .own _=>∃o,h.get? a=some o
 | .xd fs=>∃mA,h.Ns1 a mA/\∀f,rH (fs.lookup f) (mA f)
 | .rng lo hi=>∃t u v,h.get? a=some { cls:=.type "range",data:=.fields #[.int lo t,.int hi u,.int 1 v] }
 | .frz o u=>h.get? a=some o/\bK H h a u
 | .tbl ps=>h.get? a=some { cls:=.none,data:=.fields ps }
 | .met f x=>h.get? a=some (PySem.W.methodObj (.ref f) (.ref x))
 | .ext φ=>φ h/\(∃o,h.get? a=some o)/\∀h1 h2:Heap,φ h1->(∀o,h1.get? a=some o->h2.get? a=some o)->φ h2
def HOk(H:Hp)(h:Heap):Prop:=∀a o,H a=some o->bK P w H h a o
end
section
variable {P:Program}{w:World}{H H':Hp}{h h':Heap}{a:Addr}{o:HO}
theorem bK.lt(x:bK P w H h a o):a<h.objs.size:=by
 cases o with
 | lst xs=>obtain⟨_,_,_,_,e⟩:=x;exact Heap.lt_size e
 | tup xs=>obtain⟨_,_,_,p⟩:=x;exact p.lt
 | dK kvs=>obtain⟨_,_,_,_,o,_,_,e,_⟩:=x;exact Heap.lt_size e
 | dT kvs=>obtain⟨_,_,_,_,o,_,_,e,_⟩:=x;exact Heap.lt_size e
 | set S n=>obtain⟨o,_,_,_,e,_⟩:=x;exact Heap.lt_size e
 | ins C dx fs=>obtain⟨_,_,_,e,_⟩:=x;exact Heap.lt_size e
 | own y=>obtain⟨_,e⟩:=x;exact Heap.lt_size e
 | xd fs=>obtain⟨_,⟨_,_,_,e,_⟩,_⟩:=x;exact Heap.lt_size e
 | rng lo hi=>obtain⟨_,_,_,e⟩:=x;exact Heap.lt_size e
 | frz ob u=>obtain⟨e,_⟩:=x;exact Heap.lt_size e
 | tbl ps=>exact Heap.lt_size (show h.get? a=some _ from x)
 | met f y=>exact Heap.lt_size (show h.get? a=some _ from x)
 | ext φ=>obtain⟨_,⟨_,e⟩,_⟩:=x;exact Heap.lt_size e
theorem Paired.mapP{α β:Type}{F G:α->β->Prop}:∀{l₁:List α}{l₂:List β},Paired F l₁ l₂->(∀a b,F a b->G a b)->Paired G l₁ l₂
 | _,_,.nil,_=>.nil
 | _,_,.cons r t,f=>.cons (f _ _ r) (Paired.mapP t f)
theorem bK.stay(x:bK P w H h a o)(k:∀b u,(b=a\/H b=some (.own a))->h.get? b=some u->h'.get? b=some u)
  (ho:∀b,H b=some (.own a)->H' b=some (.own a)) (ht:∀b xs,H b=some (.tup xs)->H' b=some (.tup xs)):bK P w H' h' a o:=by
 induction o with
 | lst xs=>obtain⟨z,its,n,r,e⟩:=x;exact⟨z,its,n,r,k _ _ (.inl rfl) e⟩
 | tup xs=>obtain⟨z,its,r,ob,e,c⟩:=x;exact⟨z,its,r,ob,k _ _ (.inl rfl) e,c⟩
 | dK kvs=>obtain⟨z,y,vs,r,ob,es,ep,e,c⟩:=x;exact⟨z,y,vs,r,ob,es,ep,k _ _ (.inl rfl) e,c⟩
 | dT kvs =>
  obtain⟨z,y,xs,r,ob,es,ep,e,c⟩:=x;exact⟨z,y,xs,Paired.mapP r fun p q z=>⟨z.1,ht _ _ z.2.1,z.2.2⟩,ob,es,ep,k _ _ (.inl rfl) e,c⟩
 | set S n=>obtain⟨ob,es,ep,t,e,c⟩:=x;exact⟨ob,es,ep,t,k _ _ (.inl rfl) e,c⟩
 | ins C dx fs =>
  obtain⟨d,z,ne,e,mA,⟨od,es,ep,e2,c⟩,r⟩:=x;exact⟨ho _ d,z,ne,k _ _ (.inl rfl) e,mA,⟨od,es,ep,k _ _ (.inr d) e2,c⟩,r⟩
 | own y=>obtain⟨ob,e⟩:=x;exact⟨ob,k _ _ (.inl rfl) e⟩
 | xd fs=>obtain⟨mA,⟨od,es,ep,e,c⟩,r⟩:=x;exact⟨mA,⟨od,es,ep,k _ _ (.inl rfl) e,c⟩,r⟩
 | rng lo hi=>obtain⟨t,u,v,e⟩:=x;exact⟨t,u,v,k _ _ (.inl rfl) e⟩
 | frz ob u ih=>obtain⟨e,q⟩:=x;exact⟨k _ _ (.inl rfl) e,ih q⟩
 | tbl ps =>
  have e:h.get? a=some { cls:=.none,data:=.fields ps }:=x;show h'.get? a=some { cls:=.none,data:=.fields ps };exact k a _ (.inl rfl) e
 | met f y =>
  have e:h.get? a=some (PySem.W.methodObj (.ref f) (.ref y)):=x;show h'.get? a=some (PySem.W.methodObj (.ref f) (.ref y));exact k a _ (.inl rfl) e
 | ext φ=>obtain⟨p,⟨o,e⟩,st⟩:=x;exact⟨st _ _ p fun o q=>k _ _ (.inl rfl) q,⟨o,k _ _ (.inl rfl) e⟩,st⟩
theorem HOk.lt(x:HOk P w H h)(e:H a=some o):a<h.objs.size:=(x a o e).lt
theorem HOk.fresh(x:HOk P w H h)(e:h.objs.size<=a):H a=none:=by
 cases q:H a with
 | none=>rfl
 | some u=>exact absurd (lt_of_lt_of_le (x.lt q) e) (Nat.lt_irrefl _)
theorem HOk.kept(x:HOk P w H h)(k:∀b u,h.get? b=some u->h'.get? b=some u):HOk P w H h':=fun a o e =>
 (x a o e).stay (fun b u _ q=>k b u q) (fun _ q=>q) fun _ _ q=>q
theorem HOk.laid(x:HOk P w H h)(k:∀b u,h.get? b=some u->h'.get? b=some u)(hp:h.objs.size<=a)(new:bK P w (upd H a o) h' a o):HOk P w (upd H a o) h':=fun b u e=>by
 have hn:=x.fresh hp
 by_cases hb:b=a
 .subst hb;rw [ay] at e;cases e;exact new
 .rw [ap hb] at e;exact (x b u e).stay (fun c v _ q=>k c v q) (fun c q=>by rw [ap (aH q hn)];exact q) fun c xs q=>by rw [ap (aH q hn)];exact q
end
def Rd(H:Hp)(a:Addr)(u:HO):Prop:=H a=some u\/∃o,H a=some (.frz o u)
theorem Rd.ok{P:Program}{w:World}{H:Hp}{h:Heap}{a:Addr}{u:HO}(r:Rd H a u)(x:HOk P w H h):bK P w H h a u:=by
 rcases r with r|⟨o,r⟩
 .exact x a u r
 .obtain⟨_,q⟩:=x a _ r;exact q
def Mut:Option HO->Prop
 | some (.lst _)=>True
 | some (.dK _)=>True
 | some (.dT _)=>True
 | some (.set _ _)=>True
 | some (.ins _ _ _)=>True
 | some (.ext _)=>True
 | _=>False
section
variable {P:Program}{w:World}{H:Hp}{h h':Heap}{x e:Addr}{o':HO}
theorem HOk.write(ok:HOk P w H h)(mu:Mut (H x))(he:e=x\/H e=some (.own x))(k:∀b u,b≠e->h.get? b=some u->h'.get? b=some u)(heo:∃u,h'.get? e=some u)
  (new:bK P w (upd H x o') h' x o'):HOk P w (upd H x o') h':=fun b u q=>by
 have nown:∀c y,H c=some (.own y)->c≠x:=fun c y r z=>by subst z;rw [r] at mu;exact mu
 have ntup:∀c xs,H c=some (.tup xs)->c≠x:=fun c xs r z=>by subst z;rw [r] at mu;exact mu
 by_cases hb:b=x
 .subst hb;rw [ay] at q;cases q;exact new
 .rw [ap hb] at q
  by_cases hbe:b=e
  .have q':H b=some (.own x):=by
    rcases he with z|z
    .exact absurd (hbe.trans z) hb
    .rw [hbe];exact z
   rw [q] at q';cases q';obtain⟨v,hv⟩:=heo;exact⟨v,by rw [hbe];exact hv⟩
  .refine (ok b u q).stay (fun c v hc r=>k c v ?_ r) (fun c r=>by rw [ap (nown c b r)];exact r) fun c xs r=>by rw [ap (ntup c xs r)];exact r
   rcases hc with rfl|hc
   .exact hbe
   .rintro rfl
    rcases he with z|z
    .exact nown c b hc z
    .rw [hc] at z;cases z;exact hb rfl
end
structure Un (fs ex:List Addr) (H H':Hp) (h h':Heap):Prop where
 keep:∀b o,h.get? b=some o->H b=none->b∉fs->b∉ex->h'.get? b=some o
 slot:∀b o,h.get? b=some o->H b=none->b∈fs->b∉ex->∃sl,h'.get? b=some { o with slots:=sl }
 free:∀b o,h.get? b=some o->H b=none->b∉ex->H' b=none
 there:∀b o,h.get? b=some o->b∉ex->∃o',h'.get? b=some o'
 tups:∀b xs,H b=some (.tup xs)->H' b=some (.tup xs)
 frzs:∀b o u,H b=some (.frz o u)->H' b=some (.frz o u)
 tbls:∀b ps,H b=some (.tbl ps)->∃more,H' b=some (.tbl (ps++more))
section
variable {fs fs' ex ex':List Addr}{H H1 H2:Hp}{h h1 h2 h':Heap}{a x e:Addr}{o:HO}
theorem Un.any(u:Un fs ex H H1 h h1){b:Addr}{ob:Obj}(q:h.get? b=some ob)(n:H b=none)(hx:b∉ex):∃sl,h1.get? b=some { ob with slots:=sl }:=by
 by_cases hb:b∈fs
 .exact u.slot b ob q n hb hx
 .exact⟨ob.slots,u.keep b ob q n hb hx⟩
theorem Un.kept(k:∀b u,h.get? b=some u->h'.get? b=some u):Un fs ex H H h h' :=
 ⟨fun b ob q _ _ _=>k b ob q,fun b ob q _ _ _=>⟨ob.slots,k b ob q⟩,fun _ _ _ n _=>n,fun b ob q _=>⟨ob,k b ob q⟩,fun _ _ q=>q,fun _ _ _ q=>q,fun _ ps q=>⟨#[],by rw [q];simp⟩⟩
theorem Un.refl:Un fs ex H H h h:=Un.kept fun _ _ q=>q
theorem Un.laid(k:∀b u,h.get? b=some u->h'.get? b=some u)(hp:h.objs.size<=a)(hn:H a=none):Un fs ex H (upd H a o) h h' where
 keep:=fun b u q _ _ _=>k b u q
 slot:=fun b u q _ _ _=>⟨u.slots,k b u q⟩
 free:=fun b u q n _=>by rw [ap (ne_of_lt (lt_of_lt_of_le (Heap.lt_size q) hp))];exact n
 there:=fun b u q _=>⟨u,k b u q⟩
 tups:=fun b xs q=>by rw [ap (aH q hn)];exact q
 frzs:=fun b u xs q=>by rw [ap (aH q hn)];exact q
 tbls:=fun b ps q=>⟨#[],by rw [ap (aH q hn),q];simp⟩
theorem Un.write(mu:Mut (H x))(he:e=x\/H e=some (.own x))(k:∀b u,b≠e->h.get? b=some u->h'.get? b=some u)(heo:∃u,h'.get? e=some u):Un fs ex H (upd H x o) h h':=by
 have hx:∀b,H b=none->b≠x:=fun b n z=>by subst z;rw [n] at mu;exact mu
 have hb:∀b,H b=none->b≠e:=fun b n z=>by
  subst z
  rcases he with r|r
  .exact hx b n r
  .rw [n] at r;cases r
 have hm:∀b u,H b=some u->¬ Mut (some u)->b≠x:=fun b u q nm z=>by subst z;rw [q] at mu;exact nm mu
 refine⟨fun b u q n _ _=>k b u (hb b n) q,fun b u q n _ _=>⟨u.slots,k b u (hb b n) q⟩,fun b u q n _=>by rw [ap (hx b n)];exact n,fun b u q _=>?_,
  fun b xs q=>by rw [ap (hm b _ q fun z=>z)];exact q,fun b u xs q=>by rw [ap (hm b _ q fun z=>z)];exact q,fun b ps q=>⟨#[],by rw [ap (hm b _ q fun z=>z),q];simp⟩⟩
 by_cases hbe:b=e
 .subst hbe;exact heo
 .exact⟨u,k b u hbe q⟩
end
def trk(h:Heap)(H:Hp):List Addr:=(List.range h.objs.size).filter fun a=>(H a).isSome
def vJ(h:Heap)(H:Hp):Heap:=PySem.W.hideAll h (trk h H)
theorem sN(h:Heap)(H:Hp):(vJ h H).objs.size=h.objs.size:=PySem.W.hideAll_size _ _
theorem vK{h:Heap}{H:Hp}{b:Addr}{o:Obj}(e:h.get? b=some o)(n:H b=none):(vJ h H).get? b=some o :=
 PySem.W.hideAll_get _ e fun hm=>by
  have q:(H b).isSome=true:=(mem_filter.mp hm).2;rw [n] at q;simp at q
theorem xZ{h:Heap}{H:Hp}{b:Addr}{o:Obj}(e:(vJ h H).get? b=some o):h.get? b=some o/\H b=none:=by
 have e':h.get? b=some o:=PySem.W.of_hideAll (trk h H) e;refine⟨e',?_⟩
 cases q:H b with
 | none=>rfl
 | some x =>
  have hm:b∈trk h H:=mem_filter.mpr ⟨mem_range.mpr (Heap.lt_size e'),by simp [q]⟩;have z:(vJ h H).get? b=none:=PySem.W.hideAll_none (trk h H) hm;rw [z] at e;cases e
structure Mod (K:PySem.W.Frag) (mg:Str->Option Value) (base:Heap):Prop where
 kin:K.In base
 glob:base.Ns mainGlobals mg
 blt:∃mb,base.Ns builtinsNs mb/\∀x:Str,x≠"__name__"->mb x=bootBuiltins x
 nolimit:base.NoLimit
structure Cx where
 prog:Program
 w:World
 K:PySem.W.Frag
 mg:Str->Option Value
 base:Heap
 A:Around
 N:List Str
 s₀:Shared
 H₀:Hp
 env:Env
 outer:List Env
 stack:List Env
 ex:List Addr
 fn:Str->Bool
 calm:Bool
 pn:List (Addr×Obj)
 xe:Value->Shared->Prop
def frs(l:List Env):List Addr:=l.filterMap (·.frame)
abbrev Cx.fs(X:Cx):List Addr:=frs X.outer
def Vis(sc:Scope)(x:Str):Prop:=sc.names.lookup x=some .local\/sc.names.lookup x=some .cell\/sc.names.lookup x=some .free
def Loc(sc:Scope)(x:Str):Prop:=sc.names.lookup x=some .local\/sc.names.lookup x=some .cell
def Ep(env:Env)(h:Heap)(m:Str->Option Value)(x:Str)(u:Value):Prop :=
 (env.kindOf x=some .local/\m x=some u)\/((env.kindOf x=some .cell\/env.kindOf x=some .free)/\∃c,env.cells.lookup x=some c/\h.IsCell c (some u))
structure Cx.Ok (X:Cx):Prop where
 mod:Mod X.K X.mg X.base
 kind:X.env.scope.kind=.function
 glob:X.env.globals=mainGlobals
 blt:X.env.builtins=builtinsNs
 above:X.s₀.heap.objs.size<=X.env.locals
 inj:∀x y c,X.env.cells.lookup x=some c->X.env.cells.lookup y=some c->x=y
 has:∀x,(X.env.kindOf x=some .cell\/X.env.kindOf x=some .free)->∃c,X.env.cells.lookup x=some c
 cab:∀x c,X.fn x=true->X.env.cells.lookup x=some c->X.s₀.heap.objs.size<=c
 hd:X.calm=true->X.A.handled=none
 frames:X.A.frames=some X.stack
 stk:X.stack=X.outer\/(X.stack=X.env::X.outer/\X.env.frame=some X.env.locals)
 exf:∀b∈X.ex,b≠X.env.locals/\∀x c,X.env.cells.lookup x=some c->c≠b
 bs:∀b o,X.base.get? b=some o->X.s₀.heap.get? b=some o/\X.H₀ b=none
 bsz:X.base.objs.size<=X.s₀.heap.objs.size
 noex:∀b o,X.base.get? b=some o->b∉X.ex
 exfs:∀b∈X.ex,b∉X.fs
 funs:X.s₀.heap.FunFrames X.base X.outer
 frf:∀b∈X.fs,X.H₀ b=none
structure Inv (X:Cx) (pins:List (Addr×Obj)) (σ:List (Option V)) (H:Hp) (s:Shared):Prop where
 ok:X.Ok
 os:s.os=X.s₀.os
 bare:AllBare s.gens
 base:Un X.fs X.ex X.H₀ H X.s₀.heap s.heap
 loc:∃m,s.heap.Ns X.env.locals m/\∀(i:Nat) (x:Str) (v:V),X.N[i]?=some x->σ[i]?=some (some v)->Vis X.env.scope x->∃u,dn v u/\Ep X.env s.heap m x u
 cell:∀x c,X.env.cells.lookup x=some c->∃v,s.heap.IsCell c v
 free:H X.env.locals=none
 freeC:∀x c,X.env.cells.lookup x=some c->H c=none
 pin:∀p∈X.pn++pins,s.heap.get? p.1=some p.2/\H p.1=none/\p.1≠X.env.locals/\p.1∉X.fs/\∀v,p.2.data≠.cell v
 hok:HOk X.prog X.w H s.heap
 len:σ.length=X.N.length
section
variable {X:Cx}{pins:List (Addr×Obj)}{σ:List (Option V)}{H H':Hp}{s:Shared}{h':Heap}
theorem Cx.Ok.nofr(ok:X.Ok){b:Addr}{o:Obj}(e:X.base.get? b=some o):b∉X.fs:=fun hb=>by
 have:=(ok.funs.mem hb).1;rw [e] at this;cases this
theorem Inv.bs(I:Inv X pins σ H s):∀b o,X.base.get? b=some o->s.heap.get? b=some o/\H b=none:=fun b o e =>
 ⟨I.base.keep b o (I.ok.bs b o e).1 (I.ok.bs b o e).2 (I.ok.nofr e) (I.ok.noex b o e),I.base.free b o (I.ok.bs b o e).1 (I.ok.bs b o e).2 (I.ok.noex b o e)⟩
theorem Inv.bk(I:Inv X pins σ H s):∀b o,X.base.get? b=some o->s.heap.get? b=some o:=fun b o e=>(I.bs b o e).1
theorem Inv.mod(I:Inv X pins σ H s):Mod X.K X.mg X.base:=I.ok.mod
theorem Inv.kIn(I:Inv X pins σ H s):X.K.In s.heap:=I.ok.mod.kin.keeps I.bk
theorem Inv.lt(I:Inv X pins σ H s):X.env.locals<s.heap.objs.size:=let ⟨_,hn,_⟩:=I.loc;hn.lt
theorem Inv.sz(I:Inv X pins σ H s):X.s₀.heap.objs.size<=s.heap.objs.size:=le_trans I.ok.above (le_of_lt I.lt)
theorem Inv.nofs(I:Inv X pins σ H s){a:Addr}(h:s.heap.objs.size<=a):a∉X.fs:=fun hb=>by
 obtain⟨_,o,ho,_⟩:=I.ok.funs.mem hb;exact absurd (lt_of_lt_of_le (Heap.lt_size ho) (le_trans I.sz h)) (Nat.lt_irrefl _)
theorem Inv.cne(I:Inv X pins σ H s):∀x c,X.env.cells.lookup x=some c->c≠X.env.locals:=fun x c e z=>by
 obtain⟨v,o,ho,hd⟩:=I.cell x c e;obtain⟨m,⟨o',es,ep,ho',hd',_⟩,_⟩:=I.loc;rw [z,ho'] at ho;cases ho;rw [hd'] at hd;cases hd
theorem Inv.funs(I:Inv X pins σ H s):s.heap.FunFrames X.base X.outer:=by
 have all:∀(l:List Env),(∀b∈frs l,b∈X.fs)->X.s₀.heap.FunFrames X.base l->s.heap.FunFrames X.base l:=by
  intro l
  induction l with
  | nil=>intro _ _;trivial
  | cons env r ih =>
   intro hs hl;obtain⟨hk,⟨L,o,hf,hn,ho,hd⟩,hr⟩:=hl;have hL:L∈X.fs:=hs L (by unfold frs;rw [filterMap_cons,hf];exact mem_cons_self);obtain⟨sl,e⟩:=I.base.slot L o ho (I.ok.frf L hL) hL fun z=>I.ok.exfs L z hL;exact⟨hk,⟨L,_,hf,hn,e,hd⟩,ih (fun b hb=>hs b (by unfold frs;rw [filterMap_cons,hf];exact mem_cons_of_mem _ hb)) hr⟩
 exact all X.outer (fun _ hb=>hb) I.ok.funs
theorem Inv.stack(I:Inv X pins σ H s):s.heap.FunFrames X.base X.stack:=by
 rcases I.ok.stk with e|⟨e,hf⟩
 .rw [e];exact I.funs
 .rw [e];obtain⟨m,hn,_⟩:=I.loc;refine .cons (by rw [I.ok.kind];decide) hf hn ?_ I.funs;exact Heap.get?_none_of_le (le_trans I.ok.bsz I.ok.above)
theorem Inv.stkSub(I:Inv X pins σ H s):∀b∈frs X.stack,b∈X.env.locals::X.fs:=fun b hb=>by
 rcases I.ok.stk with e|⟨e,hf⟩
 .rw [e] at hb;exact mem_cons_of_mem _ hb
 .rw [e] at hb;unfold frs at hb;rw [filterMap_cons,hf] at hb;exact hb
theorem Inv.stkFree(I:Inv X pins σ H s):∀b∈frs X.stack,H b=none:=fun b hb=>by
 rcases mem_cons.mp (I.stkSub b hb) with e|hb
 .rw [e];exact I.free
 .obtain⟨_,o,ho,_⟩:=I.ok.funs.mem hb;exact I.base.free b o ho (I.ok.frf b hb) fun z=>I.ok.exfs b z hb
theorem Inv.step{g':Array GenState}{t':Nat}{d':Drawn}{ch:List Addr}(I:Inv X pins σ H s)
  (hch:∀b∈ch,(b∈X.ex\/X.s₀.heap.objs.size<=b)/\b≠X.env.locals/\(∀x c,X.env.cells.lookup x=some c->c≠b)/\∀p∈X.pn++pins,p.1≠b)
  (keep:∀b o,b≠X.env.locals->b∉X.fs->b∉ch->s.heap.get? b=some o->H b=none->h'.get? b=some o)
  (slot:∀b o,b≠X.env.locals->b∈X.fs->b∉ch->s.heap.get? b=some o->H b=none->∃sl,h'.get? b=some { o with slots:=sl }) (free:∀b o,b∉ch->s.heap.get? b=some o->H b=none->H' b=none)
  (there:∀b o,b∉ch->s.heap.get? b=some o->∃o',h'.get? b=some o')
  (tups:∀b xs,H b=some (.tup xs)->H' b=some (.tup xs)) (frzs:∀b o u,H b=some (.frz o u)->H' b=some (.frz o u)) (tbls:∀b ps,H b=some (.tbl ps)->∃more,H' b=some (.tbl (ps++more)))
  (ns:∀m,s.heap.Ns X.env.locals m->h'.Ns X.env.locals m) (hok:HOk X.prog X.w H' h') (hg:AllBare g') :
  Inv X pins σ H' { s with heap:=h',gens:=g',drawn:=d',toks:=t' }:=by
 have neL:∀b o,X.s₀.heap.get? b=some o->b≠X.env.locals:=fun b o e=>ne_of_lt (lt_of_lt_of_le (Heap.lt_size e) I.ok.above)
 have neC:∀b o,X.s₀.heap.get? b=some o->b∉X.ex->b∉ch:=fun b o e hx hb=>by
  rcases (hch b hb).1 with z|z
  .exact hx z
  .exact absurd (lt_of_lt_of_le (Heap.lt_size e) z) (Nat.lt_irrefl _)
 have cellK:∀x c,X.env.cells.lookup x=some c->∀v,s.heap.IsCell c v->h'.IsCell c v:=fun x c e v ⟨o,ho,hd⟩=>by
  have nch:c∉ch:=fun z=>(hch c z).2.2.1 x c e rfl
  by_cases hc:c∈X.fs
  .obtain⟨sl,q⟩:=slot c o (I.cne x c e) hc nch ho (I.freeC x c e);exact⟨_,q,hd⟩
  .exact⟨o,keep c o (I.cne x c e) hc nch ho (I.freeC x c e),hd⟩
 refine⟨I.ok,I.os,hg,⟨fun b o e n hb hx=>?_,fun b o e n hb hx=>?_,fun b o e n hx=>?_,fun b o e hx=>?_,fun b xs e=>tups b xs (I.base.tups b xs e),fun b o xs e=>frzs b o xs (I.base.frzs b o xs e),fun b ps e=>?_⟩,?_,fun x c e=>?_,?_,fun x c e=>?_,fun p hp=>?_,hok,I.len⟩
 .exact keep b o (neL b o e) hb (neC b o e hx) (I.base.keep b o e n hb hx) (I.base.free b o e n hx)
 .obtain⟨sl,e1⟩:=I.base.slot b o e n hb hx;obtain⟨sl',e2⟩:=slot b _ (neL b o e) hb (neC b o e hx) e1 (I.base.free b o e n hx);exact⟨sl',e2⟩
 .obtain⟨o',e1⟩:=I.base.there b o e hx;exact free b o' (neC b o e hx) e1 (I.base.free b o e n hx)
 .obtain⟨o',e1⟩:=I.base.there b o e hx;exact there b o' (neC b o e hx) e1
 .obtain⟨m1,e1⟩:=I.base.tbls b ps e;obtain⟨m2,e2⟩:=tbls b _ e1;exact⟨m1++m2,by rw [e2,Array.append_assoc]⟩
 .obtain⟨m,hn,hl⟩:=I.loc;refine⟨m,ns m hn,fun i x v e1 e2 e3=>?_⟩;obtain⟨u,r,l⟩:=hl i x v e1 e2 e3;refine⟨u,r,?_⟩
  rcases l with l|⟨k,c,e,z⟩
  .exact .inl l
  .exact .inr ⟨k,c,e,cellK x c e _ z⟩
 .obtain⟨v,z⟩:=I.cell x c e;exact⟨v,cellK x c e v z⟩
 .obtain⟨m,⟨o,_,_,ho,_⟩,_⟩:=I.loc;exact free _ o (fun z=>(hch _ z).2.1 rfl) ho I.free
 .obtain⟨v,o,ho,hd⟩:=I.cell x c e;exact free c o (fun z=>(hch c z).2.2.1 x c e rfl) ho (I.freeC x c e)
 .obtain⟨e,n,ne,nf,d⟩:=I.pin p hp;have nch:p.1∉ch:=fun z=>(hch p.1 z).2.2.2 p hp rfl;exact⟨keep p.1 p.2 ne nf nch e n,free p.1 p.2 nch e n,ne,nf,d⟩
theorem Inv.un{t':Nat}(I:Inv X pins σ H s)(u:Un X.fs [] H H' s.heap h')(hok:HOk X.prog X.w H' h'):Inv X pins σ H' { s with heap:=h',toks:=t' }:=by
 obtain⟨m,⟨o,es,ep,ho,r⟩,_⟩:=id I.loc;obtain⟨sl,hL⟩:=u.any ho I.free (by simp)
 exact I.step (g':=s.gens) (d':=s.drawn) (ch:=[]) (fun _ z=>nomatch z) (fun b o _ hb _ e n=>u.keep b o e n hb (by simp)) (fun b o _ hb _ e n=>u.slot b o e n hb (by simp)) (fun b o _ e n=>u.free b o e n (by simp)) (fun b o _ e=>u.there b o e (by simp)) u.tups u.frzs u.tbls (fun m' hm=>by
  obtain⟨o',es',ep',ho',r'⟩:=hm;rw [ho] at ho';cases ho';exact⟨_,es',ep',hL,r'⟩) hok I.bare
theorem Inv.call{g':Array GenState}{t':Nat}{d':Drawn}{ch:List Addr}(I:Inv X pins σ H s)(u:Un (frs X.stack) ch H H' s.heap h')(hok:HOk X.prog X.w H' h')(hg:AllBare g')
  (hch:∀b∈ch,(b∈X.ex\/X.s₀.heap.objs.size<=b)/\b≠X.env.locals/\(∀x c,X.env.cells.lookup x=some c->c≠b)/\∀p∈X.pn++pins,p.1≠b) :
  Inv X pins σ H' { s with heap:=h',gens:=g',drawn:=d',toks:=t' }:=by
 obtain⟨m,⟨o,es,ep,ho,r⟩,_⟩:=id I.loc;obtain⟨sl,hL⟩:=u.any ho I.free fun z=>(hch _ z).2.1 rfl
 exact I.step (ch:=ch) hch (fun b o hL hb hc e n=>u.keep b o e n (fun z=>(mem_cons.mp (I.stkSub b z)).elim hL hb) hc) (fun b o _ _ hc e n=>u.any e n hc) (fun b o hc e n=>u.free b o e n hc) (fun b o hc e=>u.there b o e hc) u.tups u.frzs u.tbls (fun m' hm=>by
  obtain⟨o',es',ep',ho',r'⟩:=hm;rw [ho] at ho';cases ho';exact⟨_,es',ep',hL,r'⟩) hok hg
theorem Inv.turned{t':Nat}{it:Addr}(I:Inv X pins σ H s)(k:∀b o,b≠it->s.heap.get? b=some o->h'.get? b=some o)(hn:H it=none)(hL:it≠X.env.locals)
  (h1:it∈X.ex\/X.s₀.heap.objs.size<=it) (h2:∀x c,X.env.cells.lookup x=some c->c≠it) (h3:∀p∈X.pn++pins,p.1≠it):Inv X pins σ H { s with heap:=h',toks:=t' }:=by
 have nit:∀b u,H b=some u->b≠it:=fun b u e z=>by rw [z,hn] at e;cases e
 refine I.step (g':=s.gens) (d':=s.drawn) (ch:=[it]) (fun b hb=>?_) (fun b o _ _ hc e _=>k b o (fun z=>hc (by simp [z])) e) (fun b o _ _ hc e _=>⟨o.slots,k b o (fun z=>hc (by simp [z])) e⟩) (fun _ _ _ _ n=>n)
  (fun b o hc e=>⟨o,k b o (fun z=>hc (by simp [z])) e⟩) (fun _ _ e=>e) (fun _ _ _ e=>e) (fun b ps e=>⟨#[],by rw [e];simp⟩) (fun m hm=>?_) (fun b u e=>?_) I.bare
 .have e:b=it:=by simpa using hb
  subst e;exact⟨h1,hL,h2,h3⟩
 .obtain⟨o,es,ep,ho,r⟩:=hm;exact⟨o,es,ep,k _ o (Ne.symm hL) ho,r⟩
 .refine (I.hok b u e).stay (fun c v hc q=>k c v ?_ q) (fun _ q=>q) fun _ _ q=>q
  rcases hc with z|z
  .rw [z];exact nit b u e
  .exact nit c _ z
theorem Inv.tok(I:Inv X pins σ H s)(t:Nat):Inv X pins σ H { s with toks:=t }:=I.un (h':=s.heap) (t':=t) Un.refl I.hok
theorem Inv.kept{t':Nat}(I:Inv X pins σ H s)(k:∀b u,s.heap.get? b=some u->h'.get? b=some u):Inv X pins σ H { s with heap:=h',toks:=t' }:=I.un (Un.kept k) (I.hok.kept k)
theorem Inv.laid{a:Addr}{o:HO}{t':Nat}(I:Inv X pins σ H s)(k:∀b u,s.heap.get? b=some u->h'.get? b=some u)(hp:s.heap.objs.size<=a)(new:bK X.prog X.w (upd H a o) h' a o) :
  Inv X pins σ (upd H a o) { s with heap:=h',toks:=t' }:=I.un (Un.laid k hp (I.hok.fresh hp)) (I.hok.laid k hp new)
theorem Inv.write{x e:Addr}{o:HO}{t':Nat}(I:Inv X pins σ H s)(mu:Mut (H x))(he:e=x\/H e=some (.own x))(k:∀b u,b≠e->s.heap.get? b=some u->h'.get? b=some u)(heo:∃u,h'.get? e=some u)
  (new:bK X.prog X.w (upd H x o) h' x o):Inv X pins σ (upd H x o) { s with heap:=h',toks:=t' }:=I.un (Un.write mu he k heo) (I.hok.write mu he k heo new)
theorem Inv.pins_of{pins':List (Addr×Obj)}(I:Inv X pins σ H s)(h:∀p∈pins',s.heap.get? p.1=some p.2/\H p.1=none/\p.1≠X.env.locals/\p.1∉X.fs/\∀v,p.2.data≠.cell v):Inv X pins' σ H s :=
 ⟨I.ok,I.os,I.bare,I.base,I.loc,I.cell,I.free,I.freeC,fun p hp=>(mem_append.mp hp).elim (fun z=>I.pin p (mem_append_left _ z)) (h p),I.hok,I.len⟩
theorem mH{N:List Str}(hN:N.Nodup){i j:Nat}{x:Str}(a:N[i]?=some x)(b:N[j]?=some x):i=j:=by
 obtain⟨h1,e1⟩:=List.getElem?_eq_some_iff.mp a;obtain⟨h2,e2⟩:=List.getElem?_eq_some_iff.mp b;exact (getElem_inj hN).mp (e1.trans e2.symm)
theorem sO{M:Model}{A:Around}{E:Value->Shared->Prop}{i:Nat}{x:Str}{v:V}{u:Value}{Q:Unit->Shared->Prop}(I:Inv X pins σ H s)(hN:X.N.Nodup)(hi:X.N[i]?=some x)(hx:Loc X.env.scope x)(r:dn v u)
  (h:∀s',Inv X pins (σ.set i (some v)) H s'->(∃a,Heap.SameBut a s.heap s'.heap/\(a=X.env.locals\/X.env.cells.lookup x=some a))->Q () s') (hf:X.fn x=true\/X.env.scope.names.lookup x=some .local:=by first|exact .inl rfl|exact .inr rfl|assumption):wpAny M A (storeName X.env x u) Q E s:=by
 obtain⟨m,hn,hl⟩:=id I.loc;have hcls:(X.env.scope.kind == .class || (X.env.scope.kind == .module && X.env.locals != X.env.globals))=false:=by rw [I.ok.kind];rfl
 have hiσ:i<σ.length:=by rw [I.len];exact (List.getElem?_eq_some_iff.mp hi).1
 have cne:=I.cne
 have tracked:∀{a:Addr}{h':Heap},(∃o,s.heap.get? a=some o/\H a=none)->Heap.SameBut a s.heap h'->HOk X.prog X.w H h':=fun {a h'} ha hs b ob e=>by
  obtain⟨_,_,hfree⟩:=ha;refine (I.hok b ob e).stay (fun c w' hc q=>(hs.2 c ?_).trans q) (fun _ q=>q) fun _ _ q=>q;rintro rfl
  rcases hc with rfl|hc
  .rw [hfree] at e;cases e
  .rw [hfree] at hc;cases hc
 rcases hx with hk|hk
 .refine wpAny_storeName_local hk hn (fun h' hn' hs=>?_) hcls;obtain⟨oL,_,_,hoL,_⟩:=id hn
  refine h _ ⟨I.ok,I.os,I.bare,⟨fun b o e n hb hx=>?_,fun b o e n hb hx=>?_,I.base.free,fun b o e hx=>?_,I.base.tups,I.base.frzs,I.base.tbls⟩,⟨_,hn',fun j y v' e1 e2 e3=>?_⟩,fun y c e=>?_,I.free,I.freeC,fun p hp=>?_,tracked ⟨oL,hoL,I.free⟩ hs,by simpa using I.len⟩ ⟨_,hs,.inl rfl⟩
  .exact (hs.2 b (ne_of_lt (lt_of_lt_of_le (Heap.lt_size e) I.ok.above))).trans (I.base.keep b o e n hb hx)
  .obtain⟨sl,e1⟩:=I.base.slot b o e n hb hx;exact⟨sl,(hs.2 b (ne_of_lt (lt_of_lt_of_le (Heap.lt_size e) I.ok.above))).trans e1⟩
  .obtain⟨o',e1⟩:=I.base.there b o e hx;exact⟨o',(hs.2 b (ne_of_lt (lt_of_lt_of_le (Heap.lt_size e) I.ok.above))).trans e1⟩
  .by_cases hj:j=i
   .subst hj;rw [hi] at e1;cases e1;rw [getElem?_set_self hiσ] at e2;cases e2;exact⟨u,r,.inl ⟨hk,by simp⟩⟩
   .rw [getElem?_set_ne (Ne.symm hj)] at e2;obtain⟨u',r',q⟩:=hl j y v' e1 e2 e3;refine⟨u',r',?_⟩
    rcases q with ⟨k,e⟩|⟨k,c,e,z⟩
    .refine .inl ⟨k,?_⟩;have:y≠x:=fun e=>hj (mH hN e1 (e ▸ hi));simp [this,e]
    .exact .inr ⟨k,c,e,z.sameBut hs (cne y c e)⟩
  .obtain⟨w',z⟩:=I.cell y c e;exact⟨w',z.sameBut hs (cne y c e)⟩
  .obtain⟨e,n,ne,nf,d⟩:=I.pin p hp;exact⟨(hs.2 p.1 ne).trans e,n,ne,nf,d⟩
 .have hfn:X.fn x=true:=by
   rcases hf with z|z
   .exact z
   .rw [z] at hk;cases hk
  obtain⟨c,hc⟩:=I.ok.has x (.inl hk);obtain⟨w',z⟩:=I.cell x c hc;refine wpAny_storeName_cell I.ok.kind hk hc z (fun h' hc' hs=>?_);obtain⟨oc,hoc,hocd⟩:=id z
  refine h { s with heap:=h' } ⟨I.ok,I.os,I.bare,⟨fun b o e n hb hx=>?_,fun b o e n hb hx=>?_,I.base.free,fun b o e hx=>?_,I.base.tups,I.base.frzs,I.base.tbls⟩,⟨m,hn.sameBut hs (Ne.symm (cne x c hc)),fun j y v' e1 e2 e3=>?_⟩,fun y c' e=>?_,I.free,I.freeC,fun p hp=>?_,tracked ⟨oc,hoc,I.freeC x c hc⟩ hs,by simpa using I.len⟩ ⟨c,hs,.inr hc⟩
  .exact (hs.2 b (ne_of_lt (lt_of_lt_of_le (Heap.lt_size e) (I.ok.cab x c hfn hc)))).trans (I.base.keep b o e n hb hx)
  .obtain⟨sl,e1⟩:=I.base.slot b o e n hb hx;exact⟨sl,(hs.2 b (ne_of_lt (lt_of_lt_of_le (Heap.lt_size e) (I.ok.cab x c hfn hc)))).trans e1⟩
  .obtain⟨o',e1⟩:=I.base.there b o e hx;exact⟨o',(hs.2 b (ne_of_lt (lt_of_lt_of_le (Heap.lt_size e) (I.ok.cab x c hfn hc)))).trans e1⟩
  .by_cases hj:j=i
   .subst hj;rw [hi] at e1;cases e1;rw [getElem?_set_self hiσ] at e2;cases e2;exact⟨u,r,.inr ⟨.inl hk,c,hc,hc'⟩⟩
   .rw [getElem?_set_ne (Ne.symm hj)] at e2;obtain⟨u',r',q⟩:=hl j y v' e1 e2 e3;refine⟨u',r',?_⟩
    rcases q with q|⟨k,c',e,z'⟩
    .exact .inl q
    .refine .inr ⟨k,c',e,z'.sameBut hs ?_⟩;rintro rfl;exact hj (mH hN e1 (I.ok.inj _ _ _ e hc ▸ hi))
  .by_cases hcc:c'=c
   .subst hcc;exact⟨_,hc'⟩
   .obtain⟨w2,z2⟩:=I.cell y c' e;exact⟨w2,z2.sameBut hs hcc⟩
  .obtain⟨e,n,ne,nf,d⟩:=I.pin p hp;refine⟨(hs.2 p.1 ?_).trans e,n,ne,nf,d⟩;intro q;rw [q,hoc] at e;have q':oc=p.2:=Option.some.inj e;exact d w' (by rw [<- q'];exact hocd)
theorem j6{M:Model}{A:Around}{E:Value->Shared->Prop}{i:Nat}{x:Str}{v:V}{u:Value}{Q:Unit->Shared->Prop}(I:Inv X pins σ H s)(hN:X.N.Nodup)(hi:X.N[i]?=some x)(hx:Loc X.env.scope x)(r:dn v u)
  (h:∀s',Inv X pins (σ.set i (some v)) H s'->Q () s') (hf:X.fn x=true\/X.env.scope.names.lookup x=some .local:=by first|exact .inl rfl|exact .inr rfl|assumption):wpAny M A (storeName X.env x u) Q E s :=
 sO I hN hi hx r (fun s' I' _=>h s' I') hf
theorem Inv.call'{s':Shared}{ch:List Addr}(I:Inv X pins σ H s)(ho:s'.os=s.os)(u:Un (frs X.stack) ch H H' s.heap s'.heap)(hok:HOk X.prog X.w H' s'.heap)(hg:AllBare s'.gens)
  (hch:∀b∈ch,(b∈X.ex\/X.s₀.heap.objs.size<=b)/\b≠X.env.locals/\(∀x c,X.env.cells.lookup x=some c->c≠b)/\∀p∈X.pn++pins,p.1≠b):Inv X pins σ H' s':=by
 obtain⟨h',g',d',t',o'⟩:=s';have e:o'=s.os:=ho;subst e;exact I.call (g':=g') (t':=t') (d':=d') u hok hg hch
end
abbrev XK:=Value->Option Addr->Hp->Prop
abbrev St:=List (Option V)
abbrev VK:=V->Hp->Prop
abbrev TE:=St->Hp->VK->Prop
abbrev TT:=St->Hp->(Bool->Hp->Prop)->Prop
abbrev TA:=St->Hp->(List V->Hp->Prop)->Prop
structure sP where
 nx:St->Hp->Prop
 rt:VK
 bk:St->Hp->Prop:=fun _ _=>False
 ct:St->Hp->Prop:=fun _ _=>False
abbrev TS:=sP->St->Hp->Prop
def EP(X:Cx)(pins:List (Addr×Obj))(σ:St)(Q:VK)(u:Value)(s':Shared):Prop:=∃v H',Inv X pins σ H' s'/\dn v u/\Q v H'
def TP(X:Cx)(pins:List (Addr×Obj))(σ:St)(Q:Bool->Hp->Prop)(b:Bool)(s':Shared):Prop:=∃H',Inv X pins σ H' s'/\Q b H'
def AP(X:Cx)(pins:List (Addr×Obj))(σ:St)(Q:List V->Hp->Prop)(us:List Value)(s':Shared):Prop:=∃vs H',Inv X pins σ H' s'/\bZ vs us/\Q vs H'
def SP(X:Cx)(pins:List (Addr×Obj))(D:sP)(f:Flow)(s':Shared):Prop :=
 match f with
 | .next=>∃σ' H',Inv X pins σ' H' s'/\D.nx σ' H'
 | .brk=>∃σ' H',Inv X pins σ' H' s'/\D.bk σ' H'
 | .cont=>∃σ' H',Inv X pins σ' H' s'/\D.ct σ' H'
 | .ret u=>∃v σ' H',Inv X pins σ' H' s'/\dn v u/\D.rt v H'
def PE(X:Cx)(e:Expr)(t:TE):Prop :=
 ∀(pins:List (Addr×Obj)) (s:Shared) (σ:St) (H:Hp) (Q:VK),Inv X pins σ H s->t σ H Q->wpAny (model X.prog X.w) X.A (eval e X.env) (EP X pins σ Q) X.xe s
def PT(X:Cx)(e:Expr)(t:TT):Prop :=
 ∀(pins:List (Addr×Obj)) (s:Shared) (σ:St) (H:Hp) (Q:Bool->Hp->Prop),Inv X pins σ H s->t σ H Q->wpAny (model X.prog X.w) X.A (isTrue e X.env (eval e X.env)) (TP X pins σ Q) X.xe s
def PW(X:Cx)(e:Expr)(t:TT):Prop :=
 ∀(whole:Sem Value) (pins:List (Addr×Obj)) (s:Shared) (σ:St) (H:Hp) (Q:Bool->Hp->Prop),Inv X pins σ H s->t σ H Q->wpAny (model X.prog X.w) X.A (isTrue e X.env whole) (TP X pins σ Q) X.xe s
theorem PW.pt{X:Cx}{e:Expr}{t:TT}(h:PW X e t):PT X e t:=h _
def PA(X:Cx)(es:List Expr)(t:TA):Prop :=
 ∀(pos:Pos) (pins:List (Addr×Obj)) (s:Shared) (σ:St) (H:Hp) (Q:List V->Hp->Prop),Inv X pins σ H s->t σ H Q->wpAny (model X.prog X.w) X.A (spliced (backTo pos (starEach es X.env))) (AP X pins σ Q) X.xe s
def PS(X:Cx)(st:Stmt)(t:TS):Prop :=
 ∀(pins:List (Addr×Obj)) (s:Shared) (σ:St) (H:Hp) (D:sP),Inv X pins σ H s->t D σ H->wpAny (model X.prog X.w) X.A (exec st X.env) (SP X pins D) X.xe s
def PSs(X:Cx)(st:List Stmt)(t:TS):Prop :=
 ∀(pins:List (Addr×Obj)) (s:Shared) (σ:St) (H:Hp) (D:sP),Inv X pins σ H s->t D σ H->wpAny (model X.prog X.w) X.A (execs st X.env) (SP X pins D) X.xe s
theorem thn{α:Type}{t:Sem α}{Q Q':α->Shared->Prop}{M:Model}{A:Around}{E:Value->Shared->Prop}{s:Shared}(h:wpAny M A t Q E s)(hQ:∀a s,Q a s->Q' a s):wpAny M A t Q' E s:=wpAny_mono h hQ fun _ _ x=>x
section
variable {X:Cx}
def ck(i:Nat):TE:=fun σ H Q=>∃v,σ[i]?=some (some v)/\Q v H
def tC(v:V):TE:=fun _ H Q=>Q v H
theorem Ah{i:Nat}{x:Str}{pos:Pos}(hN:X.N[i]?=some x)(hv:Vis X.env.scope x)(hd:(x == ("__debug__":Str))=false:=by decide)(hcd:(x == ("__classdict__":Str))=false:=by decide):PE X (.Name x pos) (ck i):=by
 intro pins s σ H Q I h;obtain⟨v,e,h⟩:=h;obtain⟨m,hn,hl⟩:=I.loc;obtain⟨u,r,l⟩:=hl i x v hN e hv;have fin:EP X pins σ Q u s:=⟨v,H,I,r,h⟩
 rcases l with ⟨hk,hm⟩|⟨hk,c,hc,hcell⟩
 .exact wpAny_Name (wpAny_loadName_local I.ok.kind hk hn hm fin) hd
 .rcases hk with hk|hk
  .exact wpAny_Name (wpAny_loadName_cell I.ok.kind hk hc hcell fin) hd
  .exact wpAny_Name (wpAny_loadName_free I.ok.kind hk hc hcell fin hcd) hd
theorem ar{i j pos}:PE X (.Constant (.int i) j pos) (tC (.int i)):=fun _ _ _ H _ I h=>wpAny_Constant_int ⟨.int i,H,I.tok _,⟨_,rfl⟩,h⟩
theorem fB{b j pos}:PE X (.Constant (.bool b) j pos) (tC (.bl b)):=fun _ _ _ H _ I h=>Constant_bool ⟨.bl b,H,I,rfl,h⟩
theorem sQ{j pos}:PE X (.Constant .none j pos) (tC .non):=fun _ _ _ H _ I h=>Constant_none ⟨.non,H,I,rfl,h⟩
theorem Aj{x j pos}:PE X (.Constant (.str x) j pos) (tC (.str x)):=fun _ _ _ H _ I h=>Calls.Constant_str ⟨.str x,H,I.tok _,⟨_,rfl⟩,h⟩
def Gl(X:Cx)(x:Str):Prop:=X.env.kindOf x=some .globalImplicit
theorem gF{E:Value->Shared->Prop}{pins:List (Addr×Obj)}{s:Shared}{σ:St}{H:Hp}{x:Str}{u:Value}{pos:Pos}{Q:Value->Shared->Prop}(I:Inv X pins σ H s)(hg:Gl X x)(hm:X.mg x=some u)(h:Q u s)
  (hd:(x == ("__debug__":Str))=false:=by decide):wpAny (model X.prog X.w) X.A (eval (.Name x pos) X.env) Q E s :=
 Calls.Name_function_global I.ok.kind hg (Calls.loadGlobal_global (by rw [I.ok.glob];exact I.mod.glob.keeps I.bk) hm h) hd
theorem jH{E:Value->Shared->Prop}{pins:List (Addr×Obj)}{s:Shared}{σ:St}{H:Hp}{x:Str}{u:Value}{pos:Pos}{Q:Value->Shared->Prop}(I:Inv X pins σ H s)(hg:Gl X x)(hm:X.mg x=none)(hv:bootBuiltins x=some u)(h:Q u s)
  (hn:x≠"__name__":=by decide) (hd:(x == ("__debug__":Str))=false:=by decide):wpAny (model X.prog X.w) X.A (eval (.Name x pos) X.env) Q E s:=by
 obtain⟨mb,h1,h2⟩:=I.mod.blt;exact Calls.Name_function_global I.ok.kind hg (Calls.loadGlobal_builtin (by rw [I.ok.glob];exact I.mod.glob.keeps I.bk) hm (by rw [I.ok.blt];exact h1.keeps I.bk) ((h2 x hn).trans hv) h) hd
theorem x0{x:Str}{v:V}{u:Value}{pos:Pos}(hg:Gl X x)(hm:X.mg x=some u)(r:dn v u)(hd:(x == ("__debug__":Str))=false:=by decide):PE X (.Name x pos) (tC v) :=
 fun _ _ _ H _ I h=>gF I hg hm ⟨v,H,I,r,h⟩ hd
theorem fC{x:Str}{v:V}{u:Value}{pos:Pos}(hg:Gl X x)(hm:X.mg x=none)(hv:bootBuiltins x=some u)(r:dn v u)(hn:x≠"__name__":=by decide)(hd:(x == ("__debug__":Str))=false:=by decide):PE X (.Name x pos) (tC v) :=
 fun _ _ _ H _ I h=>jH I hg hm hv ⟨v,H,I,r,h⟩ hn hd
variable {a b:Expr}{ta tb:TE}{pos:Pos}
def tB(t:TE):TT:=fun σ H Q=>t σ H fun x H1=>∃c,x=.bl c/\Q c H1
theorem Ak{e:Expr}{t:TE}(h:PE X e t)(he:∀whole,isTrue e X.env whole=(do let v <- whole;standAt e.pos;holding [v] (truthy v)):=by intro _;rfl):PT X e (tB t):=by
 intro pins s σ H Q I hw;refine isTrue_plain (thn (h pins s σ H _ I hw) fun v s1 ⟨x,H1,I1,r1,q1⟩=>?_) (he _);obtain⟨d,rfl,q⟩:=q1;cases r1;exact wpAny_truthy_bool ⟨H1,I1,q⟩
variable {tA tB':TT}{rest:List Expr}
def DP(t u:TT):TT:=fun σ H Q=>t σ H fun c H1=>if c=true then u σ H1 Q else Q false H1
def tOr(t u:TT):TT:=fun σ H Q=>t σ H fun c H1=>if c=true then Q true H1 else u σ H1 Q
def Cw(t:TT):TT:=fun σ H Q=>t σ H fun c H1=>Q (!c) H1
theorem sR(ha:PT X a tA):PW X (.BoolOp .And [a] pos) tA:=by
 intro wh pins s σ H Q I h;refine isTrue_and (thn (ha pins s σ H Q I h) fun c s1 e=>?_)
 cases c with
 | true=>exact isTrue_and_nil e
 | false=>exact e
theorem fg(ha:PT X a tA):PW X (.BoolOp .Or [a] pos) tA:=by
 intro wh pins s σ H Q I h;refine isTrue_or (thn (ha pins s σ H Q I h) fun c s1 e=>?_)
 cases c with
 | false=>exact isTrue_or_nil e
 | true=>exact e
theorem xm(ha:PT X a tA)(hb:PW X (.BoolOp .And (b::rest) pos) tB'):PW X (.BoolOp .And (a::b::rest) pos) (DP tA tB'):=by
 intro wh pins s σ H Q I h;refine isTrue_and (thn (ha pins s σ H _ I h) fun c s1 ⟨H1,I1,q1⟩=>?_)
 cases c with
 | true=>exact hb wh pins s1 σ H1 Q I1 q1
 | false=>exact⟨H1,I1,q1⟩
theorem gG(ha:PT X a tA)(hb:PW X (.BoolOp .Or (b::rest) pos) tB'):PW X (.BoolOp .Or (a::b::rest) pos) (tOr tA tB'):=by
 intro wh pins s σ H Q I h;refine isTrue_or (thn (ha pins s σ H _ I h) fun c s1 ⟨H1,I1,q1⟩=>?_)
 cases c with
 | true=>exact⟨H1,I1,q1⟩
 | false=>exact hb wh pins s1 σ H1 Q I1 q1
theorem cM(ha:PT X a tA):PT X (.UnaryOp .Not a pos) (Cw tA):=by
 intro pins s σ H Q I h;exact isTrue_not (ha pins s σ H (fun c H1=>Q (!c) H1) I h)
def Al(ta tb:TE):TE:=fun σ H Q=>ta σ H fun x H1=>∃c,x=.bl c/\if c=true then tb σ H1 Q else Q (.bl false) H1
def DQ(ta tb:TE):TE:=fun σ H Q=>ta σ H fun x H1=>∃c,x=.bl c/\if c=true then Q (.bl true) H1 else tb σ H1 Q
def Am(ta:TE):TE:=fun σ H Q=>ta σ H fun x H1=>∃c,x=.bl c/\Q (.bl (!c)) H1
theorem nY{op}{t:TE}(h:PE X a t):PE X (.BoolOp op [a] pos) t:=fun pins s σ H Q I hw=>BoolOp_one (h pins s σ H Q I hw)
theorem nZ(ha:PE X a ta)(hb:PE X (.BoolOp .And (b::rest) pos) tb):PE X (.BoolOp .And (a::b::rest) pos) (Al ta tb):=by
 intro pins s σ H Q I h;refine BoolOp_and (thn (ha pins s σ H _ I h) fun v s1 ⟨x,H1,I1,r1,q1⟩=>?_);obtain⟨c,rfl,q1⟩:=q1;cases r1;refine wpAny_truthy_bool ?_
 cases c with
 | true=>exact hb pins s1 σ H1 Q I1 q1
 | false=>exact⟨.bl false,H1,I1,rfl,q1⟩
theorem An(ha:PE X a ta)(hb:PE X (.BoolOp .Or (b::rest) pos) tb):PE X (.BoolOp .Or (a::b::rest) pos) (DQ ta tb):=by
 intro pins s σ H Q I h;refine BoolOp_or (thn (ha pins s σ H _ I h) fun v s1 ⟨x,H1,I1,r1,q1⟩=>?_);obtain⟨c,rfl,q1⟩:=q1;cases r1;refine wpAny_truthy_bool ?_
 cases c with
 | false=>exact hb pins s1 σ H1 Q I1 q1
 | true=>exact⟨.bl true,H1,I1,rfl,q1⟩
theorem sS(ha:PE X a ta):PE X (.UnaryOp .Not a pos) (Am ta):=by
 intro pins s σ H Q I h;refine UnaryOp_ (thn (ha pins s σ H _ I h) fun v s1 ⟨x,H1,I1,r1,q1⟩=>?_);obtain⟨c,rfl,q1⟩:=q1;cases r1;exact not_of (wpAny_truthy_bool ⟨.bl (!c),H1,I1,rfl,q1⟩)
def tIf(t:TT)(ta tb:TE):TE:=fun σ H Q=>t σ H fun c H1=>if c=true then ta σ H1 Q else tb σ H1 Q
theorem qN{c:Expr}(hc:PT X c tA)(ha:PE X a ta)(hb:PE X b tb):PE X (.IfExp c a b pos) (tIf tA ta tb):=by
 intro pins s σ H Q I h;refine wpAny_IfExp (thn (hc pins s σ H _ I h) fun d s1 ⟨H1,I1,q1⟩=>?_)
 cases d with
 | true=>exact ha pins s1 σ H1 Q I1 q1
 | false=>exact hb pins s1 σ H1 Q I1 q1
end
def SqL(K:PySem.W.Frag)(H:Hp)(a:Addr)(xs:List V):Prop :=
 Rd H a (.lst xs) \/
  ∃(o:Obj) (its:Array Value) (n:Nat),K.lookup a=some o/\o.cls=.type "list"/\o.dict=none/\o.data=.seq its n/\its.size<=sizeLine/\bZ xs its.toList
def SqT(K:PySem.W.Frag)(H:Hp)(a:Addr)(xs:List V):Prop :=
 Rd H a (.tup xs) \/
  ∃(o:Obj) (its:Array Value) (n:Nat),K.lookup a=some o/\o.cls=.type "tuple"/\o.data=.seq its n/\its.size<=sizeLine/\bZ xs its.toList
def Es:Value->Option V
 | .none=>some .non
 | .bool b=>some (.bl b)
 | .int i _=>some (.int i)
 | .str x _=>some (.str x)
 | .bytes b _=>some (.byt b)
 | .float b _=>some (.flt b)
 | .ref a=>some (.ref a)
 | .type n=>some (.ty n)
 | _=>none
theorem dn.abs{x:V}{u:Value}(r:dn x u):Es u=some x:=by
 cases x with
 | non=>cases r;rfl
 | bl _=>cases r;rfl
 | int _=>obtain⟨t,rfl⟩:=r;rfl
 | str _=>obtain⟨t,rfl⟩:=r;rfl
 | byt _=>obtain⟨t,rfl⟩:=r;rfl
 | flt _=>obtain⟨t,rfl⟩:=r;rfl
 | ref _=>cases r;rfl
 | ty _=>cases r;rfl
theorem dn.inj{x y:V}{u:Value}(r:dn x u)(q:dn y u):x=y:=Option.some.inj (r.abs.symm.trans q.abs)
theorem bZ.inj:∀{xs ys:List V}{us:List Value},bZ xs us->bZ ys us->xs=ys
 | _,_,_,.nil,.nil=>rfl
 | _,_,_,.cons r t,.cons r' t'=>by rw [r.inj r',bZ.inj t t']
section
variable {X:Cx}{pins:List (Addr×Obj)}{σ:St}{H:Hp}{s:Shared}{a:Addr}{xs ys:List V}
theorem SqL.of{K:PySem.W.Frag}(h:H a=some (.lst xs)):SqL K H a xs:=.inl (.inl h)
theorem SqT.of{K:PySem.W.Frag}(h:H a=some (.tup xs)):SqT K H a xs:=.inl (.inl h)
theorem Inv.list(I:Inv X pins σ H s)(h:SqL X.K H a xs):∃its:List Value,bZ xs its/\PlainL s.heap a its.toArray/\xs.length<=sizeLine:=by
 rcases h with h|⟨o,its,n,hk,hc,hd,hs,hz,r⟩
 .obtain⟨z,its,n,r,e⟩:=h.ok I.hok;exact⟨its,r,⟨_,n,e,rfl,rfl,rfl⟩,z⟩
 .refine⟨its.toList,r,⟨o,n,I.kIn a o hk,hc,hd,by simpa using hs⟩,?_⟩;have e:=r.length;simp only [Array.length_toList] at e;omega
theorem Inv.tuple(I:Inv X pins σ H s)(h:SqT X.K H a xs):∃its:List Value,bZ xs its/\IsTup s.heap a its.toArray/\xs.length<=sizeLine:=by
 rcases h with h|⟨o,its,n,hk,hc,hs,hz,r⟩
 .obtain⟨z,its,r,p⟩:=h.ok I.hok;exact⟨its,r,p,z⟩
 .refine⟨its.toList,r,⟨o,I.kIn a o hk,hc,n,by simpa using hs⟩,?_⟩;have e:=r.length;simp only [Array.length_toList] at e;omega
theorem Inv.list_inj(I:Inv X pins σ H s)(h:SqL X.K H a xs)(h':SqL X.K H a ys):xs=ys:=by
 obtain⟨its,r,⟨o,n,e,_,_,d⟩,_⟩:=I.list h;obtain⟨its',r',⟨o',n',e',_,_,d'⟩,_⟩:=I.list h';rw [e] at e';cases e';rw [d] at d';injection d' with d1 _;have:its=its':=by simpa using congrArg Array.toList d1
 subst this;exact r.inj r'
theorem Inv.tuple_inj(I:Inv X pins σ H s)(h:SqT X.K H a xs)(h':SqT X.K H a ys):xs=ys:=by
 obtain⟨its,r,⟨o,e,_,n,d⟩,_⟩:=I.tuple h;obtain⟨its',r',⟨o',e',_,n',d'⟩,_⟩:=I.tuple h';rw [e] at e';cases e';rw [d] at d';injection d' with d1 _;have:its=its':=by simpa using congrArg Array.toList d1
 subst this;exact r.inj r'
end
abbrev Cx.wish(X:Cx)(E:Value->Shared->Prop):Cx:={ X with xe:=E }
abbrev Cx.nox(X:Cx):Cx:=X.wish fun _ _=>False
theorem Cx.Ok.wish{X:Cx}(ok:X.Ok)(E:Value->Shared->Prop):(X.wish E).Ok :=
 ⟨ok.mod,ok.kind,ok.glob,ok.blt,ok.above,ok.inj,ok.has,ok.cab,ok.hd,ok.frames,ok.stk,ok.exf,ok.bs,ok.bsz,ok.noex,ok.exfs,ok.funs,ok.frf⟩
theorem Cx.Ok.unwish{X:Cx}{E:Value->Shared->Prop}(ok:(X.wish E).Ok):X.Ok :=
 ⟨ok.mod,ok.kind,ok.glob,ok.blt,ok.above,ok.inj,ok.has,ok.cab,ok.hd,ok.frames,ok.stk,ok.exf,ok.bs,ok.bsz,ok.noex,ok.exfs,ok.funs,ok.frf⟩
section
variable {X:Cx}{pins:List (Addr×Obj)}{σ:St}{H:Hp}{s:Shared}{E:Value->Shared->Prop}
theorem Inv.wish(I:Inv X pins σ H s)(E:Value->Shared->Prop):Inv (X.wish E) pins σ H s:=⟨I.ok.wish E,I.os,I.bare,I.base,I.loc,I.cell,I.free,I.freeC,I.pin,I.hok,I.len⟩
theorem Inv.unwish(I:Inv (X.wish E) pins σ H s):Inv X pins σ H s:=⟨I.ok.unwish,I.os,I.bare,I.base,I.loc,I.cell,I.free,I.freeC,I.pin,I.hok,I.len⟩
theorem SP.unwish{D:sP}{f:Flow}{s':Shared}(h:SP (X.wish E) pins D f s'):SP X pins D f s':=by
 cases f with
 | next=>obtain⟨σ',H',I,q⟩:=h;exact⟨σ',H',I.unwish,q⟩
 | brk=>obtain⟨σ',H',I,q⟩:=h;exact⟨σ',H',I.unwish,q⟩
 | cont=>obtain⟨σ',H',I,q⟩:=h;exact⟨σ',H',I.unwish,q⟩
 | ret u=>obtain⟨v,σ',H',I,r,q⟩:=h;exact⟨v,σ',H',I.unwish,r,q⟩
theorem PT.nox{e:Expr}{t:TT}(h:PT X.nox e t):PT X e t:=fun pins s σ H Q I hw =>
 wpAny_mono (h pins s σ H Q (I.wish _) hw) (fun _ _ ⟨H',I',q⟩=>⟨H',I'.unwish,q⟩) fun _ _ z=>False.elim z
theorem PSs.nox{st:List Stmt}{t:TS}(h:PSs X.nox st t):PSs X st t:=fun pins s σ H D I hw =>
 wpAny_mono (h pins s σ H D (I.wish _) hw) (fun _ _ q=>q.unwish) fun _ _ z=>False.elim z
end
section
variable {X:Cx}{st:Stmt}{rest:List Stmt}{t u:TS}{e:Expr}{te:TE}{pos:Pos}
def x4:TS:=fun D σ H=>D.nx σ H
def Ao(t u:TS):TS:=fun D σ H=>t { D with nx:=u D } σ H
theorem bj:PSs X [] x4:=fun _ _ σ H _ I h=>wpAny_execs_nil ⟨σ,H,I,h⟩
theorem ah(h1:PS X st t)(h2:PSs X rest u):PSs X (st::rest) (Ao t u):=by
 intro pins s σ H D I h;refine wpAny_execs_cons (thn (h1 pins s σ H { D with nx:=u D } I h) fun f s1 q=>?_)
 cases f with
 | next =>
  obtain⟨σ',H',I',q⟩:=q;exact h2 pins s1 σ' H' D I' q
 | ret v=>exact q
 | brk=>exact q
 | cont=>exact q
theorem am(h1:PS X st t):PSs X [st] t:=by
 intro pins s σ H D I h;refine wpAny_execs_cons (thn (h1 pins s σ H D I h) fun f s1 q=>?_)
 cases f with
 | next=>exact wpAny_execs_nil q
 | ret v=>exact q
 | brk=>exact q
 | cont=>exact q
theorem Inv.quiet{pins:List (Addr×Obj)}{σ:St}{H:Hp}{s:Shared}(I:Inv X pins σ H s):interactive X.env=false:=by simp [interactive,I.ok.kind]
def vL(te:TE):TS:=fun D σ H=>te σ H fun _ H1=>D.nx σ H1
theorem gH(he:PE X e te)(hs:swapsWith e none pos.line X.env=pure false:=by rfl):PS X (.Expr e pos) (vL te):=by
 intro pins s σ H D I h;exact wpAny_Expr_any (thn (he pins s σ H _ I h) fun v s1 ⟨x,H1,I1,r1,q1⟩=>⟨σ,H1,I1,q1⟩) I.quiet hs
def DR(te:TE):TS:=fun D σ H=>te σ H D.rt
theorem aW(he:PE X e te):PS X (.Return (some e) pos) (DR te):=by
 intro pins s σ H D I h;exact wpAny_Return_some (thn (he pins s σ H _ I h) fun v s1 ⟨x,H1,I1,r1,q1⟩=>⟨x,σ,H1,I1,r1,q1⟩)
def Cy(c:TT)(t u:TS):TS:=fun D σ H=>c σ H fun b H1=>if b=true then t D σ H1 else u D σ H1
theorem cN{c:Expr}{a b:List Stmt}{tc:TT}(hc:PT X c tc)(ha:PSs X a t)(hb:PSs X b u):PS X (.If c a b pos) (Cy tc t u):=by
 intro pins s σ H D I h;refine wpAny_If (thn (hc pins s σ H _ I h) fun d s1 ⟨H1,I1,q1⟩=>?_)
 cases d with
 | true=>exact ha pins s1 σ H1 D I1 q1
 | false=>exact hb pins s1 σ H1 D I1 q1
def xn:TS:=fun _ _ _=>False
end
abbrev TG:=V->St->Hp->(St->Hp->Prop)->Prop
abbrev TGs:=List V->St->Hp->(St->Hp->Prop)->Prop
def PG(X:Cx)(target:Expr)(t:TG):Prop :=
 ∀(pins:List (Addr×Obj)) (s:Shared) (σ:St) (H:Hp) (v:V) (u:Value) (Q:St->Hp->Prop),Inv X pins σ H s->dn v u->t v σ H Q ->
  wpAny (model X.prog X.w) X.A (assign target X.env u) (fun _ s'=>∃σ' H',Inv X pins σ' H' s'/\Q σ' H') X.xe s
def PGs(X:Cx)(ts:List Expr)(t:TGs):Prop :=
 ∀(pins:List (Addr×Obj)) (s:Shared) (σ:St) (H:Hp) (vs:List V) (us:List Value) (Q:St->Hp->Prop),Inv X pins σ H s->bZ vs us->t vs σ H Q ->
  wpAny (model X.prog X.w) X.A (assignInOrder ((assignEach ts X.env).map (·.2)) us) (fun _ s'=>∃σ' H',Inv X pins σ' H' s'/\Q σ' H') X.xe s
abbrev Cz:=V->V->V->Hp->(Hp->Prop)->Prop
def DS(X:Cx)(t:Cz):Prop :=
 ∀(pins:List (Addr×Obj)) (s:Shared) (σ:St) (H:Hp) (o i v:V) (ov iv u:Value) (Q:Hp->Prop),Inv X pins σ H s->dn o ov->dn i iv->dn v u->t o i v H Q ->
  wpAny (model X.prog X.w) X.A (setItem ov iv u) (fun _ s'=>∃H',Inv X pins σ H' s'/\Q H') X.xe s
section
variable {X:Cx}{pos:Pos}
def dQ(i:Nat):TG:=fun v σ H Q=>Q (σ.set i (some v)) H
theorem aY{i:Nat}{x:Str}(hN:X.N.Nodup)(hi:X.N[i]?=some x)(hx:Loc X.env.scope x)(hf:X.fn x=true\/X.env.scope.names.lookup x=some .local:=by first|exact .inl rfl|exact .inr rfl|assumption):PG X (.Name x pos) (dQ i):=by
 intro pins s σ H v u Q I r h;exact wpAny_assign_Name (j6 I hN hi hx r (fun s' I'=>⟨_,H,I',h⟩) hf)
def DT:TGs:=fun vs σ H Q=>vs=[]/\Q σ H
def Ap(t:TG)(u:TGs):TGs:=fun vs σ H Q=>∃v r,vs=v::r/\t v σ H fun σ' H'=>u r σ' H' Q
theorem kd:PGs X [] DT:=by
 intro pins s σ H vs us Q I r h;obtain⟨e,h⟩:=h;subst e;cases r;exact assignInOrder_nil ⟨σ,H,I,h⟩
theorem dH{e:Expr}{es:List Expr}{t:TG}{u:TGs}(h1:PG X e t)(h2:PGs X es u)
  (hs:(assignEach (e::es) X.env).map (·.2)=assign e X.env::(assignEach es X.env).map (·.2):=by rfl):PGs X (e::es) (Ap t u):=by
 intro pins s σ H vs us Q I r h;obtain⟨v,vr,e1,h⟩:=h;subst e1
 cases r with
 | cons r rr =>
  rw [hs];refine assignInOrder_cons (thn (h1 pins s σ H _ _ _ I r h) fun _ s1 ⟨σ1,H1,I1,q1⟩=>?_);exact h2 pins s1 σ1 H1 _ _ Q I1 rr q1
def Et(K:PySem.W.Frag)(n:Nat)(t:TGs):TG:=fun v σ H Q=>∃a xs,v=.ref a/\SqT K H a xs/\xs.length=n/\t xs σ H Q
theorem Aq{es:List Expr}{k:Nat}{t:TGs}{n:Nat}(hc:X.calm=true)(h:PGs X es t)
  (hn:(assignEach es X.env).length=n:=by rfl) (hst:(assignEach es X.env).findIdx? (·.1)=none:=by rfl):PG X (.Tuple es k pos) (Et X.K n t):=by
 intro pins s σ H v u Q I r hw;obtain⟨a,xs,e1,hq,hl,hw⟩:=hw;subst e1;cases r;obtain⟨its,rv,ht,hz⟩:=I.tuple hq;refine assign_Tuple_tuple (I.ok.hd hc) ht (by simp [hn,<- hl,rv.length]) hst fun h' hx=>?_;have I1:Inv X pins σ H { s with heap:=h' }:=I.kept (t':=s.toks) fun b o e=>hx b o (ne_of_lt (Heap.lt_size e)) e;exact h pins _ σ H xs _ Q I1 (by simpa using rv) hw
def DU(to ti:TE)(t:Cz):TG:=fun v σ H Q=>to σ H fun o H1=>ti σ H1 fun i H2=>t o i v H2 fun H3=>Q σ H3
theorem sU{o i:Expr}{to ti:TE}{t:Cz}(ho:PE X o to)(hi:PE X i ti)(hs:DS X t)
  (ha:∀v,assign (.Subscript o i pos) X.env v=(do
   let ov <- holding [v] (eval o X.env)
   let iv <- holding [v,ov] (eval i X.env)
   standAt pos
   holding [v,ov,iv] (setItem ov iv v)
   release [v,ov,iv] []):=by intro _;rfl):PG X (.Subscript o i pos) (DU to ti t):=by
 intro pins s σ H v u Q I r h;rw [ha];refine wpAny_bind (wpAny_holding (thn (ho pins s σ H _ I h) fun ov s1 ⟨x,H1,I1,r1,q1⟩=>?_));refine wpAny_bind (wpAny_holding (thn (hi pins s1 σ H1 _ I1 q1) fun iv s2 ⟨y,H2,I2,r2,q2⟩=>?_));refine wpAny_bind (wpAny_standAt (wpAny_bind (wpAny_holding (thn (hs pins s2 σ H2 x y v ov iv u _ I2 r1 r2 r q2) fun _ s3 ⟨H3,I3,q3⟩=>?_))));exact wpAny_release ⟨σ,H3,I3,q3⟩
def Ar(te:TE)(g:TG):TS:=fun D σ H=>te σ H fun x H1=>g x σ H1 D.nx
theorem xo{tg e:Expr}{te:TE}{g:TG}(he:PE X e te)(hg:PG X tg g)(hs:swapsWithSole [tg] e pos.line X.env=pure false:=by rfl)(hw:swappedStores [tg] e X.env=pure none:=by rfl)
  (h1:(assignEach [tg] X.env).map (·.2)=[assign tg X.env]:=by rfl):PS X (.Assign [tg] e pos) (Ar te g):=by
 intro pins s σ H D I h;refine wpAny_Assign_stores (thn (he pins s σ H _ I h) fun v s1 ⟨x,H1,I1,r1,q1⟩=>?_) hs hw;rw [h1];exact thn (hg pins s1 σ H1 x v _ I1 r1 q1) fun _ s2 q=>q
theorem aR{i:Nat}{x:Str}{e:Expr}{te:TE}{pos':Pos}(hN:X.N.Nodup)(hi:X.N[i]?=some x)(hx:Loc X.env.scope x)(he:PE X e te)(hs:swapsWith e (some (.Name x pos')) pos.line X.env=pure false:=by rfl)(hf:X.fn x=true\/X.env.scope.names.lookup x=some .local:=by first|exact .inl rfl|exact .inr rfl|assumption) :
  PS X (.Assign [.Name x pos'] e pos) (Ar te (dQ i)):=by
 intro pins s σ H D I h;refine wpAny_Assign_Name (thn (he pins s σ H _ I h) fun v s1 ⟨y,H1,I1,r1,q1⟩=>?_) hs;exact j6 I1 hN hi hx r1 (fun s2 I2=>⟨_,H1,I2,q1⟩) hf
end
structure It where
 go:Nat->Hp->Prop
 yld:Nat->Hp->V->Hp->Prop
 stop:Nat->Hp->Prop
def pO(X:Cx)(pins:List (Addr×Obj))(H:Hp)(b:Addr):Prop :=
 H b=none/\b≠X.env.locals/\b∉X.fs/\(b∈X.ex\/X.s₀.heap.objs.size<=b)/\(∀x c,X.env.cells.lookup x=some c->c≠b)/\∀p∈X.pn++pins,p.1≠b
theorem Inv.fpOk{X:Cx}{pins:List (Addr×Obj)}{σ:St}{H H':Hp}{s:Shared}{b:Addr}(I:Inv X pins σ H s)(hb:s.heap.objs.size<=b)(hn:H' b=none):pO X pins H' b:=by
 refine⟨hn,ne_of_gt (lt_of_lt_of_le I.lt hb),I.nofs hb,.inr (le_trans I.sz hb),fun x c e z=>?_,fun p hp z=>?_⟩
 .obtain⟨v,q⟩:=I.cell x c e;exact absurd (lt_of_lt_of_le q.lt (by rw [z];exact hb)) (Nat.lt_irrefl _)
 .exact absurd (lt_of_lt_of_le (Heap.lt_size (I.pin p hp).1) (by rw [z];exact hb)) (Nat.lt_irrefl _)
structure xp (P:Program) (w:World) (K:PySem.W.Frag) (tg:Expr) (J:It) (fp:List Addr) (it:Addr) (tn:Nat->Heap->Prop):Prop where
 mem:it∈fp
 obj:∀i h,tn i h->∀b∈fp,∃o,h.get? b=some o/\∀v,o.data≠.cell v
 keep:∀i h h',tn i h->(∀b∈fp,∀o,h.get? b=some o->h'.get? b=some o)->tn i h'
 item:∀(X:Cx),X.prog=P->X.w=w->X.K=K->X.calm=true->∀(i:Nat) (pins:List (Addr×Obj)) (s:Shared) (σ:St) (H:Hp) (E:Value->Shared->Prop),Inv X pins σ H s->(∀b∈fp,pO X pins H b)->tn i s.heap->J.go i H ->
  wpAny (model P w) X.A (pyNext (.ref it)) (fun r s1=>∃u,r=some u /\
   wpAny (model P w) X.A (letOwnedTupleGo tg (.ref it) u) (fun _ s2=>∃x H',Inv X pins σ H' s2/\dn x u/\J.yld i H x H'/\tn (i+1) s2.heap/\∀b∈fp,H' b=none) E s1) E s
 done:∀(X:Cx),X.prog=P->X.w=w->X.K=K->X.calm=true->∀(i:Nat) (pins:List (Addr×Obj)) (s:Shared) (σ:St) (H:Hp) (E:Value->Shared->Prop),Inv X pins σ H s->(∀b∈fp,pO X pins H b)->tn i s.heap->J.stop i H ->
  wpAny (model P w) X.A (pyNext (.ref it)) (fun r s1=>r=none/\Inv X pins σ H s1) E s
 self:∀(A:Around) (i:Nat) (s:Shared) (Q:Value->Shared->Prop) (E:Value->Shared->Prop),tn i s.heap->Q (.ref it) s->wpAny (model P w) A (pyIter (.ref it)) Q E s
abbrev TI:=St->Hp->(It->Hp->Prop)->Prop
def PIE(X:Cx)(pins:List (Addr×Obj))(σ:St)(tg:Expr)(R:It->Hp->Prop)(itv:Value)(s2:Shared):Prop :=
 ∃(it:Addr) (fp:List Addr) (tn:Nat->Heap->Prop) (J:It) (H':Hp),itv=.ref it/\Inv X pins σ H' s2/\xp X.prog X.w X.K tg J fp it tn/\tn 0 s2.heap/\(∀b∈fp,pO X pins H' b)/\R J H'
def PI(X:Cx)(tg iter:Expr)(wi:TI):Prop :=
 ∀(pins:List (Addr×Obj)) (s:Shared) (σ:St) (H:Hp) (R:It->Hp->Prop),Inv X pins σ H s->wi σ H R ->
  wpAny (model X.prog X.w) X.A (eval iter X.env) (fun v s1=>wpAny (model X.prog X.w) X.A (pyIter v) (PIE X pins σ tg R) X.xe s1) X.xe s
theorem x5{M:Model}{A:Around}{E:Value->Shared->Prop}{s:Shared}{tg:Expr}{it:Addr}{u:Value}{o:Obj}{n:String}{vs:Array Value}{Q:Unit->Shared->Prop}(ho:s.heap.get? it=some o)(hc:o.cls=.type n)(hd:o.data=.fields vs)
    (hn:["enumerate","zip","dict_itemiterator","dict_reverseitemiterator","odict_iterator","itertools.zip_longest","itertools.pairwise"].contains n=false) (hQ:Q () s):wpAny M A (letOwnedTupleGo tg (.ref it) u) Q E s:=by
  unfold letOwnedTupleGo
  cases tg <;> first
    | exact wpAny_pure hQ
    | (cases u <;> first
        | exact wpAny_pure hQ
        | (refine wpAny_bind (wpAny_load ho ?_)
           rw [hc,hd];show wpAny M A (if (["enumerate","zip","dict_itemiterator","dict_reverseitemiterator","odict_iterator","itertools.zip_longest","itertools.pairwise"].contains n && vs[0]? == some (rawInt _))=true then _ else _) Q E s;rw [if_neg (by intro h;rw [hn,Bool.false_and] at h;cases h)];exact wpAny_pure hQ))
def Itl(K:PySem.W.Frag)(a:Addr):It :=
 ⟨fun i H=>∃xs x,SqL K H a xs/\xs[i]?=some x,fun i H x H'=>H'=H/\∀xs,SqL K H a xs->xs[i]?=some x,fun i H=>∃xs,SqL K H a xs/\xs.length<=i⟩
def Itt(K:PySem.W.Frag)(a:Addr):It :=
 ⟨fun i H=>∃xs x,SqT K H a xs/\xs[i]?=some x,fun i H x H'=>H'=H/\∀xs,SqT K H a xs->xs[i]?=some x,fun i H=>∃xs,SqT K H a xs/\xs.length<=i⟩
def Itr(lo:Int)(n:Nat):It:=⟨fun i _=>i<n,fun i H x H'=>H'=H/\x=.int (lo+i),fun i _=>n<=i⟩
theorem sV{P:Program}{w:World}{K:PySem.W.Frag}{tg:Expr}(a it:Addr):xp P w K tg (Itl K a) [it] it (fun i h=>h.IsListIter it a i) where
 mem:=by simp
 obj:=fun i h st b hb=>by
  have e:b=it:=by simpa using hb
  subst e;obtain⟨o,e,c,d⟩:=st;exact⟨o,e,fun v z=>by rw [d] at z;cases z⟩
 keep:=fun i h h' st k=>st.at fun o e=>k it (by simp) o e
 item:=by
  intro X hP hw hK hc i pins s σ H E I hf st hg;subst hP hw hK;obtain⟨xs,x,hq,hx⟩:=hg;obtain⟨its,rv,p,hz⟩:=I.list hq;obtain⟨u,hu,ru⟩:=rv.get hx;obtain⟨f0,f1,f2,f3,f4,f5⟩:=hf it (by simp);refine wpAny_pyNext_list_item st p.isList (x:=u) (by simpa using hu) fun h' st' sb=>?_;have I1:Inv X pins σ H { s with heap:=h' }:=I.turned (t':=s.toks) (fun b o hb e=>(sb.2 b hb).trans e) f0 f1 f3 f4 f5;obtain⟨o,e,c,d⟩:=id st'
  exact⟨u,rfl,x5 (s:={ s with heap:=h' }) e c d (by decide) ⟨x,H,I1,ru,⟨rfl,fun ys hy=>by rw [I.list_inj hy hq];exact hx⟩,st',fun b hb=>(hf b hb).1⟩⟩
 done:=by
  intro X hP hw hK hc i pins s σ H E I hf st hg;subst hP hw hK;obtain⟨xs,hq,hx⟩:=hg;obtain⟨its,rv,p,hz⟩:=I.list hq;obtain⟨f0,f1,f2,f3,f4,f5⟩:=hf it (by simp);have hl:=rv.length;exact wpAny_pyNext_list_end (I.ok.hd hc) st p.isList (by simp;omega) fun h' eb=>⟨rfl,I.turned (t':=s.toks) (fun b o hb e=>eb b o hb e) f0 f1 f3 f4 f5⟩
 self:=fun _ _ _ _ _ st h=>wpAny_pyIter_listiter st h
theorem rJ{P:Program}{w:World}{K:PySem.W.Frag}{tg:Expr}(a it:Addr):xp P w K tg (Itt K a) [it] it (fun i h=>h.IsTupleIter it a i) where
 mem:=by simp
 obj:=fun i h st b hb=>by
  have e:b=it:=by simpa using hb
  subst e;obtain⟨o,e,c,d⟩:=st;exact⟨o,e,fun v z=>by rw [d] at z;cases z⟩
 keep:=fun i h h' st k=>st.at fun o e=>k it (by simp) o e
 item:=by
  intro X hP hw hK hc i pins s σ H E I hf st hg;subst hP hw hK;obtain⟨xs,x,hq,hx⟩:=hg;obtain⟨its,rv,p,hz⟩:=I.tuple hq;obtain⟨u,hu,ru⟩:=rv.get hx;obtain⟨f0,f1,f2,f3,f4,f5⟩:=hf it (by simp);refine wpAny_pyNext_tuple_item st (show s.heap.IsTuple a its.toArray from p) (x:=u) (by simpa using hu) fun h' st' sb=>?_;have I1:Inv X pins σ H { s with heap:=h' }:=I.turned (t':=s.toks) (fun b o hb e=>(sb.2 b hb).trans e) f0 f1 f3 f4 f5
  obtain⟨o,e,c,d⟩:=id st';exact⟨u,rfl,x5 (s:={ s with heap:=h' }) e c d (by decide) ⟨x,H,I1,ru,⟨rfl,fun ys hy=>by rw [I.tuple_inj hy hq];exact hx⟩,st',fun b hb=>(hf b hb).1⟩⟩
 done:=by
  intro X hP hw hK hc i pins s σ H E I hf st hg;subst hP hw hK;obtain⟨xs,hq,hx⟩:=hg;obtain⟨its,rv,p,hz⟩:=I.tuple hq;obtain⟨f0,f1,f2,f3,f4,f5⟩:=hf it (by simp);have hl:=rv.length;exact wpAny_pyNext_tuple_end (I.ok.hd hc) st (show s.heap.IsTuple a its.toArray from p) (by simp;omega) fun h' eb=>⟨rfl,I.turned (t':=s.toks) (fun b o hb e=>eb b o hb e) f0 f1 f3 f4 f5⟩
 self:=fun _ _ _ _ _ st h=>wpAny_pyIter_tupleiter st h
theorem rK{P:Program}{w:World}{K:PySem.W.Frag}{tg:Expr}(it:Addr)(lo:Int)(n:Nat):xp P w K tg (Itr lo n) [it] it (fun i h=>IsRangeIter h it (lo+(i:Nat)*1) ((n:Int) - (i:Nat)) 1) where
 mem:=by simp
 obj:=fun i h st b hb=>by
  have e:b=it:=by simpa using hb
  subst e
  exact⟨_,st,fun v z=>by
   have z':Data.fields _=Data.cell v:=z;cases z'⟩
 keep:=fun i h h' st k=>k it (by simp) _ st
 item:=by
  intro X hP hw hK hc i pins s σ H E I hf st hg;subst hP hw hK;obtain⟨f0,f1,f2,f3,f4,f5⟩:=hf it (by simp);have W:=Walks.range (prog:=X.prog) (w:=X.w) (I.ok.hd hc) it lo 1 n;refine W.item i s _ _ hg st fun v h' tk hv st' kk=>?_;obtain⟨t,rfl⟩:=hv;have I1:Inv X pins σ H { s with heap:=h',toks:=tk }:=I.turned (fun b o hb e=>kk b o (by simpa using hb) e) f0 f1 f3 f4 f5;refine⟨_,rfl,x5 (s:={ s with heap:=h',toks:=tk }) (n:="range_iterator") st' rfl rfl (by decide) ⟨.int (lo+i),H,I1,⟨t,?_⟩,⟨rfl,rfl⟩,st',fun b hb=>(hf b hb).1⟩⟩
  rw [mul_one]
 done:=by
  intro X hP hw hK hc i pins s σ H E I hf st hg;subst hP hw hK;obtain⟨f0,f1,f2,f3,f4,f5⟩:=hf it (by simp);exact wpAny_pyNext_range_end (I.ok.hd hc) st (by have:n<=i:=hg;omega) fun h' eb=>⟨rfl,I.turned (t':=s.toks) (fun b o hb e=>eb b o hb e) f0 f1 f3 f4 f5⟩
 self:=fun _ _ _ _ _ st h=>wpAny_pyIter_rangeiter st h
section
variable {X:Cx}{tg:Expr}
theorem vM{pins:List (Addr×Obj)}{σ:St}{H:Hp}{s:Shared}{R:It->Hp->Prop}{E:Value->Shared->Prop}{lo hi:Int}{t u v:Tok}{tk:Nat}(I:Inv X pins σ H s)(h1:-(2^62)<=lo)(h2:lo<2^62)(h3:-(2^62)<=hi)(h4:hi<2^62)
  (q:R (Itr lo (hi - lo).toNat) H):wpAny (model X.prog X.w) X.A (pyIter (.ref s.heap.objs.size)) (PIE X pins σ tg R) E { s with heap:=s.heap.push { cls:=.type "range",data:=.fields #[.int lo t,.int hi u,.int 1 v] },toks:=tk }:=by
 refine wpAny_pyIter_range (IsRange.new ..) (small_one h1 h2 h3 h4) ?_;have I1:Inv X pins σ H { s with heap:=s.heap.push { cls:=.type "range",data:=.fields #[.int lo t,.int hi u,.int 1 v] },toks:=tk }:=I.kept fun b o e=>Heap.get?_push_of_some _ e
 refine⟨(s.heap.push { cls:=.type "range",data:=.fields #[.int lo t,.int hi u,.int 1 v] }).objs.size,[(s.heap.push { cls:=.type "range",data:=.fields #[.int lo t,.int hi u,.int 1 v] }).objs.size],_,_,H,rfl,
  I1.kept (t':=tk) fun b o e=>Heap.get?_push_of_some _ e,rK _ lo (hi - lo).toNat,?_,fun b hb=>?_,q⟩
 .have e1:lo+((0:Nat):Int)*1=lo:=by simp
  have e2:(((hi - lo).toNat:Nat):Int) - ((0:Nat):Int)=Builtin.Range.rangeSize lo hi 1:=by rw [rangeSize_one];split <;> omega
  show IsRangeIter _ _ (lo+((0:Nat):Int)*1) ((((hi - lo).toNat:Nat):Int) - ((0:Nat):Int)) 1;rw [e1,e2];exact Heap.get?_push_size _ rfl
 .have e:b=(s.heap.push { cls:=.type "range",data:=.fields #[.int lo t,.int hi u,.int 1 v] }).objs.size:=by simpa using hb
  subst e;exact I1.fpOk (le_refl _) (I1.hok.fresh (le_refl _))
def vN(ta:TA):TI:=fun σ H R=>ta σ H fun vs H1=>∃j:Int,vs=[.int j]/\-(2^62)<=j/\j<2^62/\R (Itr 0 j.toNat) H1
theorem gI{a:Expr}{ta:TA}{p pos:Pos}(hg:Gl X "range")(hm:X.mg "range"=none)(ha:PA X [a] ta)(hs:starEach [a] X.env=[(false,eval a X.env)]:=by rfl):PI X tg (.Call (.Name "range" p) [a] [] pos) (vN ta):=by
 intro pins s σ H R I h;refine Call_ (jH I hg hm boot_range (PyProof.Rows.callWith_type1 (thn (ha pos pins s σ H _ I h) fun us s1 ⟨vs,H1,I1,r1,q1⟩=>?_) hs rfl));obtain⟨j,e,q1,q2,q⟩:=q1;subst e
 cases r1 with
 | cons r rr =>
  cases rr;obtain⟨t,rfl⟩:=r;exact call_range_1 (vM I1 (by omega) (by omega) q1 q2 (by simpa using q))
def CA(wi:TI)(g:TG)(tb:TS):TS:=fun D σ H=>wi σ H fun J H1=>∃W:Nat->Nat->St->Hp->Prop,(∃m,W 0 m σ H1)/\∀i m σ H,W i m σ H ->
 (J.stop i H/\D.nx σ H)\/(J.go i H/\∃N:St->Hp->Prop,(∀σ' H',N σ' H'->∃m',m'<m/\W (i+1) m' σ' H')/\∀x H',J.yld i H x H'->g x σ H' fun σ2 H2=>tb { D with nx:=N,ct:=N,bk:=D.nx } σ2 H2)
def ke(fp:List Addr)(h:Heap):List (Addr×Obj):=fp.filterMap fun b=>(h.get? b).map fun o=>(b,o)
theorem dh{fp:List Addr}{h:Heap}{b:Addr}{o:Obj}(hb:b∈fp)(e:h.get? b=some o):(b,o)∈ke fp h:=mem_filterMap.mpr ⟨b,hb,by rw [e];rfl⟩
theorem sW{fp:List Addr}{h:Heap}{p:Addr×Obj}(hp:p∈ke fp h):p.1∈fp/\h.get? p.1=some p.2:=by
 obtain⟨b,hb,e⟩:=mem_filterMap.mp hp
 cases q:h.get? b with
 | none=>rw [q] at e;cases e
 | some o =>
  rw [q] at e;have e':(b,o)=p:=Option.some.inj e;subst e';exact⟨hb,q⟩
theorem Inv.pinned{pins:List (Addr×Obj)}{σ:St}{H:Hp}{s:Shared}{fp:List Addr}(I:Inv X pins σ H s)(hf:∀b∈fp,pO X pins H b)(ho:∀b∈fp,∃o,s.heap.get? b=some o/\∀v,o.data≠.cell v):Inv X (pins++ke fp s.heap) σ H s :=
 I.pins_of fun p hp=>(mem_append.mp hp).elim (fun z=>I.pin p (mem_append_right _ z)) fun z=>by
  obtain⟨hb,e⟩:=sW z;obtain⟨f0,f1,f2,_⟩:=hf p.1 hb;obtain⟨o,e',d⟩:=ho p.1 hb;rw [e] at e';cases e';exact⟨e,f0,f1,f2,d⟩
theorem Inv.unpinned{pins pl:List (Addr×Obj)}{σ:St}{H:Hp}{s:Shared}(I:Inv X (pins++pl) σ H s):Inv X pins σ H s:=I.pins_of fun p hp=>I.pin p (mem_append_right _ (mem_append_left _ hp))
theorem gc{iter:Expr}{body:List Stmt}{wi:TI}{g:TG}{tb:TS}{pos:Pos}(hp:PassesOwn (model X.prog X.w) X.A X.env X.xe)(hc:X.calm=true)(hi:PI X tg iter wi)(hg:PG X tg g)(hb:PSs X body tb)
  (hs:∀x,foldedSetIterable iter X.env x=pure x:=by intro _;rfl):PS X (.For tg iter body [] pos) (CA wi g tb):=by
 intro pins s σ H D I h;refine wpAny_For (thn (hi pins s σ H _ I h) fun v s1 h1=>thn h1 fun itv s2 h2=>?_) hs;obtain⟨it,fp,tn,J,H2,e,I2,T,st2,f2,W,⟨m0,w0⟩,turn⟩:=h2;subst e
 -- what stays true of the iterator's objects through the loop
 have stat:∀{H':Hp},(∀b∈fp,H' b=none)->∀b∈fp,pO X pins H' b:=fun hn b hb=>⟨hn b hb,(f2 b hb).2⟩
 refine codeAny_forLoop_any (fun n s'=>∃i σ' H',Inv X pins σ' H' s'/\tn i s'.heap/\(∀b∈fp,H' b=none)/\W i n σ' H') ?_ m0 ⟨0,σ,H2,I2,st2,fun b hb=>(f2 b hb).1,w0⟩;rintro n s3 ⟨i,σ3,H3,I3,st3,fr3,w3⟩
 rcases turn i n σ3 H3 w3 with ⟨stop,qn⟩|⟨go,N,hN,step⟩
 .refine wpAny_passesOwn hp (thn (T.done X rfl rfl rfl hc i pins s3 σ3 H3 X.xe I3 (stat fr3) st3 stop) fun r s4 ⟨hr,I4⟩=>?_);subst hr;exact wpAny_execs_nil ⟨σ3,H3,I4,qn⟩
 .refine wpAny_passesOwn hp (thn (T.item X rfl rfl rfl hc i pins s3 σ3 H3 X.xe I3 (stat fr3) st3 go) fun r s4 ⟨u,hr,h4⟩=>?_);subst hr;refine wpAny_passesOwn hp (thn h4 fun _ s5 ⟨x,H5,I5,r5,y5,st5,fr5⟩=>?_);have I5':=I5.pinned (stat fr5) (T.obj _ _ st5);refine wpAny_passesOwn hp (thn (hg _ s5 σ3 H5 x u _ I5' r5 (step x H5 y5)) fun _ s6 ⟨σ6,H6,I6,q6⟩=>?_);refine wpAny_passesOwn hp (thn (hb _ s6 σ6 H6 _ I6 q6) fun f s7 q7=>?_)
  have again:∀{σ7:St}{H7:Hp},Inv X (pins++ke fp s5.heap) σ7 H7 s7->N σ7 H7->∃m,m<n/\∃i σ' H',Inv X pins σ' H' s7/\tn i s7.heap/\(∀b∈fp,H' b=none)/\W i m σ' H':=fun {σ7 H7} I7 n7=>by
   obtain⟨m',hm,w7⟩:=hN σ7 H7 n7;refine⟨m',hm,i+1,σ7,H7,I7.unpinned,T.keep _ _ _ st5 fun b hb o e=>(I7.pin (b,o) (mem_append_right _ (mem_append_right _ (dh hb e)))).1,fun b hb=>?_,w7⟩;obtain⟨o,e,d⟩:=T.obj _ _ st5 b hb;exact (I7.pin (b,o) (mem_append_right _ (mem_append_right _ (dh hb e)))).2.1
  cases f with
  | next=>obtain⟨σ7,H7,I7,n7⟩:=q7;exact again I7 n7
  | cont=>obtain⟨σ7,H7,I7,n7⟩:=q7;exact again I7 n7
  | brk=>obtain⟨σ7,H7,I7,q7⟩:=q7;exact⟨σ7,H7,I7.unpinned,q7⟩
  | ret v=>obtain⟨x7,σ7,H7,I7,r7,q7⟩:=q7;exact⟨x7,σ7,H7,I7.unpinned,r7,q7⟩
end
abbrev R2:=V->V->Hp->VK->Prop
def OpR(X:Cx)(f:Value->Value->Sem Value)(r:R2):Prop :=
 ∀(pins:List (Addr×Obj)) (s:Shared) (σ:St) (H:Hp) (x y:V) (v u:Value) (Q:VK),Inv X pins σ H s->dn x v->dn y u->r x y H Q ->
  wpAny (model X.prog X.w) X.A (f v u) (EP X pins σ Q) X.xe s
def UnR(X:Cx)(f:Value->Sem Value)(r:V->Hp->VK->Prop):Prop :=
 ∀(pins:List (Addr×Obj)) (s:Shared) (σ:St) (H:Hp) (x:V) (v:Value) (Q:VK),Inv X pins σ H s->dn x v->r x H Q ->
  wpAny (model X.prog X.w) X.A (f v) (EP X pins σ Q) X.xe s
def bJ(X:Cx)(f:Value)(r:List V->Hp->VK->Prop):Prop :=
 ∀(pins:List (Addr×Obj)) (s:Shared) (σ:St) (H:Hp) (xs:List V) (us:List Value) (Q:VK),Inv X pins σ H s->bZ xs us->r xs H Q ->
  wpAny (model X.prog X.w) X.A (call f us) (EP X pins σ Q) X.xe s
def tOp(r:R2)(ta tb:TE):TE:=fun σ H Q=>ta σ H fun x H1=>tb σ H1 fun y H2=>r x y H2 Q
def tUn(r:V->Hp->VK->Prop)(ta:TE):TE:=fun σ H Q=>ta σ H fun x H1=>r x H1 Q
def rI(C:Int->Int->Prop)(g:Int->Int->V):R2:=fun x y H Q=>∃i j,x=.int i/\y=.int j/\C i j/\Q (g i j) H
def rI0(g:Int->Int->V):R2:=fun x y H Q=>∃i j,x=.int i/\y=.int j/\Q (g i j) H
def rU(g:Int->V):V->Hp->VK->Prop:=fun x H Q=>∃i,x=.int i/\Q (g i) H
section
variable {X:Cx}{a b c:Expr}{ta tb tc:TE}{pos:Pos}
theorem CB(ha:PE X a ta)(hb:PE X b tb){pins:List (Addr×Obj)}{s:Shared}{σ:St}{H:Hp}{R:V->V->Hp->Prop}(I:Inv X pins σ H s)
  (h:ta σ H fun x H1=>tb σ H1 fun y H2=>R x y H2) {Q:Value->Shared->Prop}{f:Value->Value->Sem Value}
  (hf:∀v u s2 x y H2,Inv X pins σ H2 s2->dn x v->dn y u->R x y H2->wpAny (model X.prog X.w) X.A (f v u) Q X.xe s2) :
  wpAny (model X.prog X.w) X.A (eval a X.env) (fun v s₁=>wpAny (model X.prog X.w) X.A (eval b X.env) (fun u s₂=>wpAny (model X.prog X.w) X.A (f v u) Q X.xe s₂) X.xe s₁) X.xe s:=by
 refine thn (ha pins s σ H _ I h) fun v s1 ⟨x,H1,I1,r1,q1⟩=>?_;refine thn (hb pins s1 σ H1 _ I1 q1) fun u s2 ⟨y,H2,I2,r2,q2⟩=>?_;exact hf v u s2 x y H2 I2 r1 r2 q2
theorem bY{op:Operator}{r:R2}(ho:OpR X (binaryOp op) r)(ha:PE X a ta)(hb:PE X b tb):PE X (.BinOp a op b pos) (tOp r ta tb):=by
 intro pins s σ H Q I h;exact wpAny_BinOp (CB ha hb I h fun v u s2 x y H2 I2 rx ry q=>ho pins s2 σ H2 x y v u Q I2 rx ry q)
theorem vO{op:UnaryOp}{r:V->Hp->VK->Prop}(ho:UnR X (unaryOp op) r)(ha:PE X a ta):PE X (.UnaryOp op a pos) (tUn r ta):=by
 intro pins s σ H Q I h;exact UnaryOp_ (thn (ha pins s σ H _ I h) fun v s1 ⟨x,H1,I1,r1,q1⟩=>ho pins s1 σ H1 x v Q I1 r1 q1)
theorem opI{f:Value->Value->Sem Value}{C:Int->Int->Prop}{g:Int->Int->Int}
  (rule:∀(i j:Int) (t u:Tok) (s:Shared) (Q:Value->Shared->Prop) (E:Value->Shared->Prop),C i j->Q (.int (g i j) s.toks) { s with toks:=s.toks+1 }->wpAny (model X.prog X.w) X.A (f (.int i t) (.int j u)) Q E s) :
  OpR X f (rI C fun i j=>.int (g i j)):=by
 intro pins s σ H x y v u Q I rx ry h;obtain⟨i,j,rfl,rfl,hc,q⟩:=h;obtain⟨t,rfl⟩:=rx;obtain⟨t',rfl⟩:=ry;exact rule i j t t' s _ _ hc ⟨.int (g i j),H,I.tok _,⟨_,rfl⟩,q⟩
theorem DW{f:Value->Value->Sem Value}{g:Int->Int->Int}
  (rule:∀(i j:Int) (t u:Tok) (s:Shared) (Q:Value->Shared->Prop) (E:Value->Shared->Prop),Q (.int (g i j) s.toks) { s with toks:=s.toks+1 }->wpAny (model X.prog X.w) X.A (f (.int i t) (.int j u)) Q E s) :
  OpR X f (rI0 fun i j=>.int (g i j)):=by
 intro pins s σ H x y v u Q I rx ry h;obtain⟨i,j,rfl,rfl,q⟩:=h;obtain⟨t,rfl⟩:=rx;obtain⟨t',rfl⟩:=ry;exact rule i j t t' s _ _ ⟨.int (g i j),H,I.tok _,⟨_,rfl⟩,q⟩
theorem zS{f:Value->Value->Sem Value}{g:Int->Int->Bool}
  (rule:∀(i j:Int) (t u:Tok) (s:Shared) (Q:Value->Shared->Prop) (E:Value->Shared->Prop),Q (.bool (g i j)) s->wpAny (model X.prog X.w) X.A (f (.int i t) (.int j u)) Q E s) :
  OpR X f (rI0 fun i j=>.bl (g i j)):=by
 intro pins s σ H x y v u Q I rx ry h;obtain⟨i,j,rfl,rfl,q⟩:=h;obtain⟨t,rfl⟩:=rx;obtain⟨t',rfl⟩:=ry;exact rule i j t t' s _ _ ⟨.bl (g i j),H,I,rfl,q⟩
def CC(i j:Int):Prop:=0<j/\j<1073741824
def CD(i j:Int):Prop:=0<=j/\j<=1000000/\i.natAbs<2^64
def Ck(i j:Int):Prop:=(-(2^64)<i/\i<2^64)\/(-(2^64)<j/\j<2^64)
theorem Ck.ok{i j:Int}(h:Ck i j):IntMulOk i j:=by
 rcases h with ⟨h1,h2⟩|⟨h1,h2⟩
 .exact .of_left (intBits_le_64 h1 h2)
 .exact .of_right (intBits_le_64 h1 h2)
theorem As:OpR X (binaryOp .Add) (rI0 fun i j=>.int (i+j)):=DW fun _ _ _ _ _ _ _ q=>add_int q
theorem At:OpR X (binaryOp .Sub) (rI0 fun i j=>.int (i - j)):=DW fun _ _ _ _ _ _ _ q=>sub_int q
theorem Au:OpR X (binaryOp .Mult) (rI Ck fun i j=>.int (i*j)):=opI fun _ _ _ _ _ _ _ hc q=>mul_int q hc.ok
theorem x6:OpR X (binaryOp .FloorDiv) (rI CC fun i j=>.int (i / j)):=opI fun i j _ _ _ _ _ hc q=>by
 have h1:(0:Int)<j:=hc.1;have h2:j<1073741824:=hc.2;exact floordiv_int (by omega) (by rw [fdiv_eq_ediv_of_nonneg i (by omega)];exact q) (.inl (PyProof.noPylong_small (by omega)))
theorem Av:OpR X (binaryOp .Mod) (rI (fun _ j=>0<j) fun i j=>.int (i % j)):=opI fun i j _ _ _ _ _ hc q=>by
 have h1:(0:Int)<j:=hc;exact mod_int' (by omega) (by rw [fmod_eq_emod_of_nonneg i (by omega)];exact q)
theorem Aw:OpR X (binaryOp .Pow) (rI CD fun i j=>.int (i^j.toNat)):=opI fun _ _ _ _ _ _ _ hc q=>pow_int_small hc.1 hc.2.1 hc.2.2 q
theorem unI{f:Value->Sem Value}{g:Int->Int}
  (rule:∀(i:Int) (t:Tok) (s:Shared) (Q:Value->Shared->Prop) (E:Value->Shared->Prop),Q (.int (g i) s.toks) { s with toks:=s.toks+1 }->wpAny (model X.prog X.w) X.A (f (.int i t)) Q E s) :
  UnR X f (rU fun i=>.int (g i)):=by
 intro pins s σ H x v Q I rx h;obtain⟨i,rfl,q⟩:=h;obtain⟨t,rfl⟩:=rx;exact rule i t s _ _ ⟨.int (g i),H,I.tok _,⟨_,rfl⟩,q⟩
theorem qO:UnR X (unaryOp .USub) (rU fun i=>.int (-i)):=unI fun _ _ _ _ _ q=>neg_int q
end
def DX:V->V->Bool
 | .non,.non=>true|.non,.int _=>true|.int _,.non=>true|.non,.bl _=>true|.bl _,.non=>true|.non,.str _=>true|.str _,.non=>true
 | .int _,.int _=>true|.bl _,.bl _=>true|.str _,.str _=>true|.byt _,.byt _=>true
 | .int _,.str _=>true|.str _,.int _=>true|.bl _,.str _=>true|.str _,.bl _=>true
 | _,_=>false
def rEq:R2:=fun x y H Q=>DX x y=true/\Q (.bl (decide (x=y))) H
def rNe:R2:=fun x y H Q=>DX x y=true/\Q (.bl (!decide (x=y))) H
theorem sX{i j:Int}:decide (V.int i=V.int j)=(i == j):=by
 rw [Bool.eq_iff_iff];simp
theorem xq{i j:Bool}:decide (V.bl i=V.bl j)=(i == j):=by
 rw [Bool.eq_iff_iff];simp
theorem sY{i j:Str}:decide (V.str i=V.str j)=(i == j):=by
 rw [Bool.eq_iff_iff];simp
theorem sZ{i j:Array UInt8}:decide (V.byt i=V.byt j)=(i.toList == j.toList):=by
 rw [Bool.eq_iff_iff];cases i;cases j;simp
section
variable {X:Cx}{a b c:Expr}{ta tb tc:TE}{pos:Pos}
theorem bL{pins:List (Addr×Obj)}{σ:St}{H:Hp}{s:Shared}{Q:VK}{k k':Bool}(I:Inv X pins σ H s)(q:Q (.bl k) H)(e:k=k'):EP X pins σ Q (.bool k') s:=by
 subst e;exact⟨.bl k,H,I,rfl,q⟩
theorem CF:OpR X (compareOp .Eq) rEq:=by
 intro pins s σ H x y v u Q I rx ry h;obtain⟨hs,q⟩:=h
 cases x with
 | non =>
  cases rx
  cases y with
  | non=>cases ry;exact PySem.EqNone.eq_none_none (bL I q (by simp))
  | bl j=>cases ry;exact PySem.EqNone.eq_none_bool (bL I q (by simp))
  | int j=>obtain⟨t',rfl⟩:=ry;exact PySem.EqNone.eq_none_int (bL I q (by simp))
  | str j=>obtain⟨t',rfl⟩:=ry;exact PySem.EqNone.eq_none_str (bL I q (by simp))
  | _=>exact absurd (show false=true from hs) Bool.false_ne_true
 | bl i =>
  cases rx
  cases y with
  | non=>cases ry;exact PySem.EqNone.eq_bool_none (bL I q (by simp))
  | bl j=>cases ry;exact eq_bool (bL I q xq)
  | str j=>obtain⟨t',rfl⟩:=ry;exact PySem.EqMixed.eq_bool_str (bL I q (by simp))
  | _=>exact absurd (show false=true from hs) Bool.false_ne_true
 | int i =>
  obtain⟨t,rfl⟩:=rx
  cases y with
  | non=>cases ry;exact PySem.EqNone.eq_int_none (bL I q (by simp))
  | int j=>obtain⟨t',rfl⟩:=ry;exact eq_int (bL I q sX)
  | str j=>obtain⟨t',rfl⟩:=ry;exact PySem.EqMixed.eq_int_str (bL I q (by simp))
  | _=>exact absurd (show false=true from hs) Bool.false_ne_true
 | str i =>
  obtain⟨t,rfl⟩:=rx
  cases y with
  | non=>cases ry;exact PySem.EqNone.eq_str_none (bL I q (by simp))
  | bl j=>cases ry;exact PySem.EqMixed.eq_str_bool (bL I q (by simp))
  | int j=>obtain⟨t',rfl⟩:=ry;exact PySem.EqMixed.eq_str_int (bL I q (by simp))
  | str j=>obtain⟨t',rfl⟩:=ry;exact eq_str (bL I q sY)
  | _=>exact absurd (show false=true from hs) Bool.false_ne_true
 | byt i =>
  obtain⟨t,rfl⟩:=rx
  cases y with
  | byt j=>obtain⟨t',rfl⟩:=ry;exact PySem.W.eq_bytes (bL I q sZ)
  | _=>exact absurd (show false=true from hs) Bool.false_ne_true
 | _=>cases y <;> exact absurd (show false=true from hs) Bool.false_ne_true
theorem CG:OpR X (compareOp .NotEq) rNe:=by
 intro pins s σ H x y v u Q I rx ry h;obtain⟨hs,q⟩:=h
 cases x with
 | non =>
  cases rx
  cases y with
  | non=>cases ry;exact PySem.EqNone.ne_none_none (bL I q (by simp))
  | bl j=>cases ry;exact PySem.EqNone.ne_none_bool (bL I q (by simp))
  | int j=>obtain⟨t',rfl⟩:=ry;exact PySem.EqNone.ne_none_int (bL I q (by simp))
  | str j=>obtain⟨t',rfl⟩:=ry;exact PySem.EqNone.ne_none_str (bL I q (by simp))
  | _=>exact absurd (show false=true from hs) Bool.false_ne_true
 | bl i =>
  cases rx
  cases y with
  | non=>cases ry;exact PySem.EqNone.ne_bool_none (bL I q (by simp))
  | bl j=>cases ry;exact ne_bool (bL I q (congrArg not xq))
  | str j=>obtain⟨t',rfl⟩:=ry;exact PySem.EqMixed.ne_bool_str (bL I q (by simp))
  | _=>exact absurd (show false=true from hs) Bool.false_ne_true
 | int i =>
  obtain⟨t,rfl⟩:=rx
  cases y with
  | non=>cases ry;exact PySem.EqNone.ne_int_none (bL I q (by simp))
  | int j=>obtain⟨t',rfl⟩:=ry;exact ne_int (bL I q (congrArg not sX))
  | str j=>obtain⟨t',rfl⟩:=ry;exact PySem.EqMixed.ne_int_str (bL I q (by simp))
  | _=>exact absurd (show false=true from hs) Bool.false_ne_true
 | str i =>
  obtain⟨t,rfl⟩:=rx
  cases y with
  | non=>cases ry;exact PySem.EqNone.ne_str_none (bL I q (by simp))
  | bl j=>cases ry;exact PySem.EqMixed.ne_str_bool (bL I q (by simp))
  | int j=>obtain⟨t',rfl⟩:=ry;exact PySem.EqMixed.ne_str_int (bL I q (by simp))
  | str j=>obtain⟨t',rfl⟩:=ry;exact ne_str (bL I q (congrArg not sY))
  | _=>exact absurd (show false=true from hs) Bool.false_ne_true
 | byt i =>
  obtain⟨t,rfl⟩:=rx
  cases y with
  | byt j=>obtain⟨t',rfl⟩:=ry;exact PySem.W.ne_bytes (bL I q (congrArg not sZ))
  | _=>exact absurd (show false=true from hs) Bool.false_ne_true
 | _=>cases y <;> exact absurd (show false=true from hs) Bool.false_ne_true
theorem CH:OpR X (compareOp .Lt) (rI0 fun i j=>.bl (decide (i<j))):=zS fun _ _ _ _ _ _ _ q=>lt_int q
theorem CI:OpR X (compareOp .LtE) (rI0 fun i j=>.bl (decide (i<=j))):=zS fun _ _ _ _ _ _ _ q=>le_int q
theorem CJ:OpR X (compareOp .Gt) (rI0 fun i j=>.bl (decide (j<i))):=zS fun _ _ _ _ _ _ _ q=>gt_int q
theorem CK:OpR X (compareOp .GtE) (rI0 fun i j=>.bl (decide (j<=i))):=zS fun _ _ _ _ _ _ _ q=>ge_int q
theorem tm:OpR X (compareOp .Lt) (fun x y H Q=>∃i j,x=.str i/\y=.str j/\Q (.bl (decide (i.cps.toList<j.cps.toList))) H):=by
 intro pins s σ H x y v u Q I rx ry h;obtain⟨i,j,rfl,rfl,q⟩:=h;obtain⟨t,rfl⟩:=rx;obtain⟨t',rfl⟩:=ry;exact lt_str (bL I q rfl)
theorem OpR.or{f:Value->Value->Sem Value}{r r':R2}(h:OpR X f r)(h':OpR X f r'):OpR X f (fun x y H Q=>r x y H Q\/r' x y H Q):=by
 intro pins s σ H x y v u Q I rx ry q
 rcases q with q|q
 .exact h pins s σ H x y v u Q I rx ry q
 .exact h' pins s σ H x y v u Q I rx ry q
theorem bG(b:Expr){op:CmpOp}(h:op≠.In:=by decide)(h2:op≠.NotIn:=by decide):behindInMarks op b=false:=by
 have e1:(op == CmpOp.In)=false:=by cases op <;> first|rfl|exact absurd rfl h
 have e2:(op == CmpOp.NotIn)=false:=by cases op <;> first|rfl|exact absurd rfl h2
 cases b <;> simp [behindInMarks,e1,e2]
theorem jg{op:CmpOp}{r:R2}(ho:OpR X (compareOp op) r)(ha:PE X a ta)(hb:PE X b tb)(hm:behindInMarks op b=false):PE X (.Compare a [op] [b] pos) (tOp r ta tb):=by
 intro pins s σ H Q I h;exact wpAny_Compare1 (CB ha hb I h fun v u s2 x y H2 I2 rx ry q=>ho pins s2 σ H2 x y v u Q I2 rx ry q) hm
def rL(t:TE):TT:=fun σ H Q=>t σ H fun x H'=>∃k,x=.bl k/\Q k H'
theorem ba{op:CmpOp}{r:R2}(ho:OpR X (compareOp op) r)(ha:PE X a ta)(hb:PE X b tb)(hm:behindInMarks op b=false):PT X (.Compare a [op] [b] pos) (rL (tOp r ta tb)):=by
 intro pins s σ H Q I h
 refine wpAny_isTrue_Compare1 (thn (ha pins s σ H _ I h) fun v s1 ⟨x,H1,I1,r1,q1⟩=>thn (hb pins s1 σ H1 _ I1 q1) fun u s2 ⟨y,H2,I2,r2,q2⟩ =>
  thn (ho pins s2 σ H2 x y v u _ I2 r1 r2 q2) fun c s3 ⟨z,H3,I3,r3,k,e,q3⟩=>?_) hm
 subst e;cases r3;exact wpAny_truthy_bool ⟨H3,I3,q3⟩
def qP(r r':R2)(ta tb tc:TE):TE:=fun σ H Q=>ta σ H fun x H1=>tb σ H1 fun y H2=>r x y H2 fun z H3=>∃k,z=.bl k /\
 (if k=true then tc σ H3 fun w' H4=>r' y w' H4 Q else Q (.bl false) H3)
theorem vP{op op':CmpOp}{r r':R2}(ho:OpR X (compareOp op) r)(ho':OpR X (compareOp op') r')(ha:PE X a ta)(hb:PE X b tb)(hc:PE X c tc)
  (hm:lastMarks [op,op'] [b,c]=false:=by with_unfolding_all rfl):PE X (.Compare a [op,op'] [b,c] pos) (qP r r' ta tb tc):=by
 intro pins s σ H Q I h
 refine Compare_chain (thn (ha pins s σ H _ I h) fun v s1 ⟨x,H1,I1,r1,q1⟩=>chain_link (thn (hb pins s1 σ H1 _ I1 q1) fun u s2 ⟨y,H2,I2,r2,q2⟩ =>
  thn (ho pins s2 σ H2 x y v u _ I2 r1 r2 q2) fun d s3 ⟨z,H3,I3,r3,k,e,q3⟩=>?_)) hm
 subst e;cases r3;refine wpAny_truthy_bool ?_
 cases k with
 | false=>exact ite_ff ⟨.bl false,H3,I3,rfl,q3⟩
 | true=>exact ite_tt (chain_last (thn (hc pins s3 σ H3 _ I3 q3) fun w' s4 ⟨z',H4,I4,r4,q4⟩=>ho' pins s4 σ H4 y z' u w' Q I4 r2 r4 q4))
theorem vQ{op op':CmpOp}{r r':R2}(ho:OpR X (compareOp op) r)(ho':OpR X (compareOp op') r')(ha:PE X a ta)(hb:PE X b tb)(hc:PE X c tc)
  (hm:lastMarks [op,op'] [b,c]=false:=by with_unfolding_all rfl):PT X (.Compare a [op,op'] [b,c] pos) (rL (qP r r' ta tb tc)):=by
 intro pins s σ H Q I h
 refine isTrue_chain (thn (ha pins s σ H _ I h) fun v s1 ⟨x,H1,I1,r1,q1⟩=>test_link (thn (hb pins s1 σ H1 _ I1 q1) fun u s2 ⟨y,H2,I2,r2,q2⟩ =>
  thn (ho pins s2 σ H2 x y v u _ I2 r1 r2 q2) fun d s3 ⟨z,H3,I3,r3,k,e,q3⟩=>?_)) hm
 subst e;cases r3;refine wpAny_truthy_bool ?_
 cases k with
 | false =>
  obtain⟨k',e',q'⟩:=q3;cases e';exact ite_ff ⟨H3,I3,q'⟩
 | true =>
  refine ite_tt (test_last (thn (hc pins s3 σ H3 _ I3 q3) fun w' s4 ⟨z',H4,I4,r4,q4⟩=>thn (ho' pins s4 σ H4 y z' u w' _ I4 r2 r4 q4) fun d' s5 ⟨z2,H5,I5,r5,k2,e2,q5⟩=>?_));subst e2;cases r5;exact wpAny_truthy_bool ⟨H5,I5,q5⟩
theorem lX:(sizeLine:Nat)<2^63:=by rw [sizeLine_eq];decide
theorem rM:OpR X (binaryOp .Add) (fun x y H Q=>∃i j,x=.str i/\y=.str j/\i.length+j.length<=sizeLine/\Q (.str (i++j)) H):=by
 intro pins s σ H x y v u Q I rx ry h;obtain⟨i,j,rfl,rfl,hz,q⟩:=h;obtain⟨t,rfl⟩:=rx;obtain⟨t',rfl⟩:=ry;exact add_str (fun t' tk=>⟨.str (i++j),H,I.tok _,⟨_,rfl⟩,q⟩) hz
theorem gJ{x:V}{us:List Value}(r:bZ [x] us):∃u,us=[u]/\dn x u:=by
 cases r with
 | cons r1 r2=>cases r2;exact⟨_,rfl,r1⟩
theorem rN{x y:V}{us:List Value}(r:bZ [x,y] us):∃u w',us=[u,w']/\dn x u/\dn y w':=by
 cases r with
 | cons r1 r2 =>
  cases r2 with
  | cons r3 r4=>cases r4;exact⟨_,_,rfl,r1,r3⟩
theorem vR:bJ X (.builtin "abs") (fun xs H Q=>∃i,xs=[.int i]/\Q (.int (if i<0 then -i else i)) H):=by
 intro pins s σ H xs us Q I r h;obtain⟨i,rfl,q⟩:=h;obtain⟨u,rfl,t,rfl⟩:=gJ r;exact call_abs_int fun u tk=>⟨.int (if i<0 then -i else i),H,I.tok _,⟨_,rfl⟩,q⟩
theorem tq(hc:X.calm=true):bJ X (.builtin "max") (fun xs H Q=>∃i j,xs=[.int i,.int j]/\Q (.int (if j > i then j else i)) H):=by
 intro pins s σ H xs us Q I r h;obtain⟨i,j,rfl,q⟩:=h;obtain⟨u,w',rfl,⟨t,rfl⟩,⟨t',rfl⟩⟩:=rN r;refine max_two_ints (I.ok.hd hc) fun h' tk k=>⟨_,H,I.kept k,?_,q⟩
 by_cases hj:j > i
 .rw [if_pos hj,if_pos hj];exact⟨_,rfl⟩
 .rw [if_neg hj,if_neg hj];exact⟨_,rfl⟩
theorem tu(hc:X.calm=true):bJ X (.builtin "min") (fun xs H Q=>∃i j,xs=[.int i,.int j]/\Q (.int (if j<i then j else i)) H):=by
 intro pins s σ H xs us Q I r h;obtain⟨i,j,rfl,q⟩:=h;obtain⟨u,w',rfl,⟨t,rfl⟩,⟨t',rfl⟩⟩:=rN r;refine min_two_ints (I.ok.hd hc) fun h' tk k=>⟨_,H,I.kept k,?_,q⟩
 by_cases hj:j<i
 .rw [if_pos hj,if_pos hj];exact⟨_,rfl⟩
 .rw [if_neg hj,if_neg hj];exact⟨_,rfl⟩
end
structure x8 (h:Heap) (x dx C:Addr) (mA:Str->Option Value):Prop where
 obj:h.get? x=some (PySem.W.instObj C dx)
 ns:h.Ns1 dx mA
 ne:dx≠x
theorem tw{h:Heap}{dx:Addr}{mA:Str->Option Value}(n:h.Ns1 dx mA):∃od,h.get? dx=some od/\∀name,PySem.W.lookIn name od=some (mA name):=by
 obtain⟨o,es,ep,ho,hd,hk,_,hm⟩:=n;refine⟨o,ho,fun name=>?_⟩;have e:=hm name;unfold nsFind findBy at e;rw [<- Array.find?_toList] at e;unfold PySem.W.lookIn;rw [hd];dsimp only
 split
 .rename_i y q;rw [q] at e;exact congrArg some e
 .rename_i q;rw [q] at e
  have a:es.toList.any (·.refKey)=false:=by
   rw [any_eq_false];intro y hy;obtain⟨z,t,hkey⟩:=hk y (Array.mem_toList_iff.mp hy);simp [DictEntry.refKey,hkey]
  have a':¬ es.toList.any (·.refKey)=true:=by rw [a];exact Bool.false_ne_true
  rw [if_neg a'];exact congrArg some e
theorem x8.look{h:Heap}{x dx C:Addr}{mA:Str->Option Value}(I:x8 h x dx C mA):∃od,PySem.W.InstAt h x (PySem.W.instObj C dx) C (some od)/\∀name,PySem.W.lookIn name od=some (mA name) :=
 let ⟨od,ho,hl⟩:=tw I.ns
 ⟨od,⟨I.obj,rfl,rfl,ho⟩,hl⟩
section
variable {prog:Program}{w:World}{A:Around}{E:Value->Shared->Prop}{s:Shared}{K:PySem.W.Frag}{x dx C f:Addr}{mA:Str->Option Value}{name:Str}{v:Value}
theorem x9{expr:Bool}{Q:Value->Shared->Prop}(X:K.In s.heap)(I:x8 s.heap x dx C mA)(hg:PySem.W.plainGet K C name=true)(hh:PySem.W.hasDictIn K C=true)
  (ha:PySem.W.findIn K (.ref C) name=some none) (hv:mA name=some v) (hv':PySem.W.handedIn v=true) (h:Q v { s with toks:=s.toks+1 }) :
  wpAny (model prog w) A (getAttr (.ref x) name expr) Q E s:=by
 obtain⟨od,J,hl⟩:=I.look;exact PySem.W.get_value X J (PySem.W.plainGet_of hg).1 (PySem.W.findObj_own hh ha rfl (by rw [hl,hv])) hv' h
theorem vS{pl:Sem Bool}{Q:Value×List Value->Shared->Prop}(X:K.In s.heap)(I:x8 s.heap x dx C mA)(hg:PySem.W.plainGet K C name=true)
  (hf:PySem.W.findIn K (.ref C) name=some (some (.ref f))) (ht:PySem.W.isFn K (.ref f)=true) (hv:mA name=none) (h:Q (.ref f,[.ref x]) s) :
  wpAny (model prog w) A (getMethod (.ref x) name pl) Q E s:=by
 obtain⟨od,J,hl⟩:=I.look;exact PySem.W.method_fn X J (PySem.W.plainGet_of hg).1 (PySem.W.plainGet_of hg).2 hf (beq_iff_eq.mp ht) (by show (PySem.W.lookIn name od).map (·.isSome)=some false;rw [hl,hv];rfl) h
theorem ya{ns:List Str}{Q:Unit->Shared->Prop}(X:K.In s.heap)(I:x8 s.heap x dx C mA)
  (hs:PySem.W.findIn K (.ref C) "__setattr__"=some (some (.builtin "object.__setattr__"))) (hp:PySem.W.plainOver K C=true) (ht:PySem.W.takerIn K C name=some none) (hh:PySem.W.hasDictIn K C=true)
  (hw:PySem.Within mA ns) (hsz:ns.length<=sizeLine)
  (h:∀h',x8 h' x dx C (fun y=>if y=name then some v else mA y)->Heap.SameBut dx s.heap h'->Q () { s with heap:=h',toks:=s.toks+2 }) :
  wpAny (model prog w) A (setAttr (.ref x) name v) Q E s:=by
 obtain⟨od,J,hl⟩:=I.look;refine PySem.W.set_plain X J hs (PySem.W.osa_open (s:={ s with toks:=s.toks+1 }) (r:=none) X J hp ht fun b=>?_);obtain⟨cd,hc,hd'⟩:=PySem.W.any_some hh;have hx:s.heap.get? x=some ⟨.ref C,some dx,.plain,#[]⟩:=I.obj;refine wpAny_bind (wpAny_pure (wpAny_bind (wpAny_bind (wpAny_loadPart hx (wpAny_bind (PySem.W.Looks.here (s:={ s with toks:=s.toks+1 }) (PySem.W.looks_clsIn X hc) ?_))))))
 rw [hd'];refine wpAny_pure (a:=some dx) (wpAny_bind (wpAny_pure (wpAny_bind ?_)));refine wpAny_nsSet1 (s:={ s with toks:=s.toks+1 }) I.ns fun h' hn2 hs2=>?_;obtain⟨oD,esD,epD,hoD,hdD,hcD⟩:=hn2.count (PySem.Within.cons name v hw);refine wpAny_bind (wpAny_lookBehind hoD (by rw [hdD];exact pastItsLine_dict (le_trans hcD (by rw [length_cons];omega))) ?_);exact wpAny_pure (h _ ⟨(hs2.2 _ (Ne.symm I.ne)).trans I.obj,hn2,I.ne⟩ hs2)
theorem qQ{R:Result->Shared->Prop}{vs:List Value}{kw:List (Str×Value)}(X:K.In s.heap)(hm:PySem.W.makesIn K C=true)
  (hi:PySem.W.findIn K (.ref C) "__init__"=some (some (.ref f))) (hf:PySem.W.typeIn K (.ref f)=some (.type "function"))
  (h:codeAny (model prog w) (A.under (.builtin "type.__call__" ⟨.ref C::vs,kw⟩)) (.call (.ref f) ⟨.ref (s.heap.objs.size+1)::vs,kw⟩) (PySem.W.InitBack (s.heap.objs.size+1) R)
   { s with heap:=(s.heap.push PySem.W.emptyDict).push (PySem.W.instObj C s.heap.objs.size) }) :
  codeAny (model prog w) A (.call (.ref C) ⟨vs,kw⟩) R s:=by
 obtain⟨hh,g,d,t,os⟩:=s;exact PySem.W.make_core (PySem.W.makes_of X hm) (PySem.W.looks_findIn X hi) (fun self=>PySem.W.bind_fn X self hf) (.inl rfl) h
end
def lY(f:Str)(v:V):List (Str×V)->List (Str×V)
 | []=>[(f,v)]
 | (g,x)::r=>if g=f then (g,v)::r else (g,x)::lY f v r
theorem kf(f g:Str)(v:V):∀fs:List (Str×V),(lY f v fs).lookup g=if g=f then some v else fs.lookup g
 | []=>by
  show List.lookup g [(f,v)]=_
  by_cases h:g=f
  .have hb:(g == f)=true:=beq_iff_eq.mpr h;simp only [List.lookup,hb,if_pos h]
  .have hb:(g == f)=false:=beq_eq_false_iff_ne.mpr h;simp only [List.lookup,hb,if_neg h]
 | (k,x)::r=>by
  have ih:=kf f g v r;rw [show lY f v ((k,x)::r)=(if k=f then (k,v)::r else (k,x)::lY f v r) from rfl]
  by_cases hk:k=f
  .rw [if_pos hk]
   by_cases h:g=k
   .have hb:(g == k)=true:=beq_iff_eq.mpr h;simp only [List.lookup,hb,if_pos (h.trans hk)]
   .have hb:(g == k)=false:=beq_eq_false_iff_ne.mpr h;simp only [List.lookup,hb,if_neg (fun e:g=f=>h (e.trans hk.symm))]
  .rw [if_neg hk]
   by_cases h:g=k
   .have hb:(g == k)=true:=beq_iff_eq.mpr h;simp only [List.lookup,hb,if_neg (fun e:g=f=>hk (h.symm.trans e))]
   .have hb:(g == k)=false:=beq_eq_false_iff_ne.mpr h;simp only [List.lookup,hb];exact ih
theorem kg(f:Str)(v:V):∀fs:List (Str×V),f∈(lY f v fs).map (·.1)/\∀g,g∈fs.map (·.1)->g∈(lY f v fs).map (·.1)
 | []=>⟨by simp [lY],fun g h=>by simp at h⟩
 | (k,x)::r=>by
  obtain⟨i1,i2⟩:=kg f v r;rw [show lY f v ((k,x)::r)=(if k=f then (k,v)::r else (k,x)::lY f v r) from rfl]
  by_cases hk:k=f
  .rw [if_pos hk];subst hk;exact⟨by simp,fun g h=>by simpa using h⟩
  .rw [if_neg hk]
   refine⟨?_,fun g h=>?_⟩
   .rw [map_cons];exact mem_cons_of_mem _ i1
   .rw [map_cons] at h ⊢
    rcases mem_cons.mp h with e|e
    .exact mem_cons.mpr (.inl e)
    .exact mem_cons_of_mem _ (i2 g e)
theorem kh(f:Str)(v:V):∀fs:List (Str×V),(lY f v fs).length<=fs.length+1
 | []=>by simp [lY]
 | (k,x)::r=>by
  have ih:=kh f v r;rw [show lY f v ((k,x)::r)=(if k=f then (k,v)::r else (k,x)::lY f v r) from rfl]
  by_cases hk:k=f
  .rw [if_pos hk,length_cons,length_cons];omega
  .rw [if_neg hk,length_cons,length_cons];omega
theorem rH.some_of{v:V}{o:Option Value}(r:rH (some v) o):∃u,o=some u/\dn v u:=by
 cases o with
 | none=>exact (show False from r).elim
 | some u=>exact⟨u,rfl,r⟩
theorem rH.none_of{o:Option Value}(r:rH none o):o=none:=by
 cases o with
 | none=>rfl
 | some u=>exact (show False from r).elim
theorem tz{v:V}{u:Value}(r:dn v u):PySem.W.handedIn u=true:=by
 cases v with
 | non=>cases (show u=Value.none from r);rfl
 | bl b=>cases (show u=Value.bool b from r);rfl
 | int i=>obtain⟨t,e⟩:=(show ∃t,u=Value.int i t from r);cases e;rfl
 | str x=>obtain⟨t,e⟩:=(show ∃t,u=Value.str x t from r);cases e;rfl
 | byt b=>obtain⟨t,e⟩:=(show ∃t,u=Value.bytes b t from r);cases e;rfl
 | flt b=>obtain⟨t,e⟩:=(show ∃t,u=Value.float b t from r);cases e;rfl
 | ref a=>cases (show u=Value.ref a from r);rfl
 | ty n=>cases (show u=Value.type n from r);rfl
section
variable {P:Program}{w:World}{H H':Hp}{h h':Heap}{a C dx:Addr}{fs fs':List (Str×V)}
theorem mI(hok:HOk P w H h)(e:H a=some (.ins C dx fs)):∃mA,x8 h a dx C mA/\(∀f,rH (fs.lookup f) (mA f))/\PySem.Within mA (fs.map (·.1))/\fs.length<=1000/\H dx=some (.own a):=by
 obtain⟨d,z,ne,ob,mA,n,r,q⟩:=(show bK P w H h a (.ins C dx fs) from hok a _ e)
 exact⟨mA,⟨ob,n,ne⟩,r,q,z,d⟩
end
structure Cls (K:PySem.W.Frag) (C:Addr):Prop where
 pg:PySem.W.plainGet K C Str.empty=true
 hd:PySem.W.hasDictIn K C=true
 po:PySem.W.plainOver K C=true
 sa:PySem.W.findIn K (.ref C) "__setattr__"=some (some (.builtin "object.__setattr__"))
theorem Cls.get{K:PySem.W.Frag}{C:Addr}(c:Cls K C)(f:Str):PySem.W.plainGet K C f=true:=c.pg
def eB(K:PySem.W.Frag)(C:Addr)(f:Str):Prop:=PySem.W.findIn K (.ref C) f=some none
theorem eB.taker{K:PySem.W.Frag}{C:Addr}{f:Str}(n:eB K C f):PySem.W.takerIn K C f=some none:=by
 unfold PySem.W.takerIn;rw [show PySem.W.findIn K (.ref C) f=some none from n];rfl
structure Cm (K:PySem.W.Frag) (C:Addr) (m:Str) (f:Addr):Prop where
 at_:PySem.W.findIn K (.ref C) m=some (some (.ref f))
 fn:PySem.W.isFn K (.ref f)=true
 kp:PySem.W.keepIn K (.ref f)=true
section
variable {X:Cx}{pins:List (Addr×Obj)}{σ:St}{H:Hp}{s:Shared}{a C dx:Addr}{fs:List (Str×V)}{f:Str}{v:V}{A:Around}{E:Value->Shared->Prop}
theorem rO{b:Bool}{Q:Value->Shared->Prop}(I:Inv X pins σ H s)(e:H a=some (.ins C dx fs))(c:Cls X.K C)(n:eB X.K C f)(l:fs.lookup f=some v)
  (h:∀u s',Inv X pins σ H s'->dn v u->Q u s'):wpAny (model X.prog X.w) A (getAttr (.ref a) f b) Q E s:=by
 obtain⟨mA,O,r,_,_,_⟩:=mI I.hok e;obtain⟨u,hu,ru⟩:=rH.some_of (v:=v) (o:=mA f) (by rw [<- l];exact r f);exact x9 I.kIn O (c.get f) c.hd n hu (tz ru) (h u _ (I.tok _) ru)
theorem rP{m:Str}{g:Addr}{pl:Sem Bool}{Q:Value×List Value->Shared->Prop}(I:Inv X pins σ H s)(e:H a=some (.ins C dx fs))(c:Cls X.K C)(k:Cm X.K C m g)(l:fs.lookup m=none)
  (h:Q (.ref g,[.ref a]) s):wpAny (model X.prog X.w) A (getMethod (.ref a) m pl) Q E s:=by
 obtain⟨mA,O,r,_,_,_⟩:=mI I.hok e;have hn:mA m=none:=rH.none_of (by rw [<- l];exact r m);exact vS I.kIn O (c.get m) k.at_ k.fn hn h
theorem rQ{y:V}{u:Value}{Q:Unit->Shared->Prop}(I:Inv X pins σ H s)(e:H a=some (.ins C dx fs))(c:Cls X.K C)(n:eB X.K C f)(hl:fs.length<1000)(ry:dn y u)
  (h:∀s',Inv X pins σ (upd H a (.ins C dx (lY f y fs))) s'->Q () s'):wpAny (model X.prog X.w) A (setAttr (.ref a) f u) Q E s:=by
 obtain⟨mA,O,r,wi,_,ho⟩:=mI I.hok e;have hz:(fs.map (·.1)).length<=sizeLine:=by rw [length_map,sizeLine_eq];omega
 refine ya I.kIn O c.sa c.po n.taker c.hd wi hz fun h' O' sb=>h _ ?_;have hd:∃o,h'.get? dx=some o:=let ⟨o,_,_,e',_⟩:=O'.ns;⟨o,e'⟩
 refine I.write (x:=a) (e:=dx) (by rw [e];exact True.intro) (.inr ho) (fun b q hb z=>(sb.2 b hb).trans z) hd ?_
 refine⟨by rw [ap O.ne];exact ho,?_,O.ne,O'.obj,_,O'.ns,fun g=>?_,fun g hg=>?_⟩
 .have:=kh f y fs;omega
 .show rH ((lY f y fs).lookup g) (if g=f then some u else mA g);rw [kf]
  by_cases q:g=f
  .rw [if_pos q,if_pos q];exact ry
  .rw [if_neg q,if_neg q];exact r g
 .by_cases q:g=f
  .rw [q];exact (kg f y fs).1
  .refine (kg f y fs).2 g (wi g fun z=>hg ?_);show (if g=f then some u else mA g)=none;rw [if_neg q];exact z
theorem Inv.made(I:Inv X pins σ H s):Inv X pins σ (upd (upd H s.heap.objs.size (.own (s.heap.objs.size+1))) (s.heap.objs.size+1) (.ins C s.heap.objs.size []))
  { s with heap:=(s.heap.push PySem.W.emptyDict).push (PySem.W.instObj C s.heap.objs.size) }:=by
 have e1:(s.heap.push PySem.W.emptyDict).get? s.heap.objs.size=some PySem.W.emptyDict:=Heap.get?_push_size s.heap rfl
 have e2:((s.heap.push PySem.W.emptyDict).push (PySem.W.instObj C s.heap.objs.size)).get? (s.heap.objs.size+1)=some (PySem.W.instObj C s.heap.objs.size):=by
  have:=Heap.get?_push_size (s.heap.push PySem.W.emptyDict) (o:=PySem.W.instObj C s.heap.objs.size) rfl
  rwa [Heap.size_push] at this
 have e3:(s.heap.push PySem.W.emptyDict).Ns s.heap.objs.size (fun _=>none):=⟨PySem.W.emptyDict,#[],_,e1,rfl,(fun e he=>absurd he (by simp)),fun _=>rfl⟩
 have I1:=I.laid (a:=s.heap.objs.size) (o:=.own (s.heap.objs.size+1)) (h':=s.heap.push PySem.W.emptyDict) (t':=s.toks) (fun b u q=>Heap.get?_push_of_some _ q) (le_refl _) ⟨_,e1⟩;refine I1.laid (a:=s.heap.objs.size+1) (o:=.ins C s.heap.objs.size []) (t':=s.toks) (fun b u q=>Heap.get?_push_of_some _ q) (le_of_eq (Heap.size_push _ _)) ?_;have ne:s.heap.objs.size≠s.heap.objs.size+1:=ne_of_lt (lt_succ_self _)
 refine⟨by rw [ap ne,ay],zero_le _,ne,e2,fun _=>none,(Heap.Ns1.of_empty e3).at fun o q=>Heap.get?_push_of_some _ q,fun _=>True.intro,fun y hy=>absurd rfl hy⟩
theorem tD{prog:Program}{w:World}{env:Env}{e:Expr}{f:Str}{pos:Pos}{s:Shared}{Q:Value->Shared->Prop}(hb:attributeBase e f env (eval e env)=eval e env)
  (h:wpAny (model prog w) A (eval e env) (fun o s₁=>wpAny (model prog w) A (getAttr o f true) Q E s₁) E s):wpAny (model prog w) A (eval (.Attribute e f pos) env) Q E s :=
 Attribute_any_ h (by rw [arm_eval_Attribute,hb])
end
def tE(K:PySem.W.Frag)(ta:TE)(f:Str):TE:=fun σ H Q=>ta σ H fun x H1=>∃a C dx fs v,x=.ref a/\H1 a=some (.ins C dx fs)/\Cls K C/\eB K C f/\fs.lookup f=some v/\Q v H1
def DY(K:PySem.W.Frag)(ta tv:TE)(f:Str):TS:=fun D σ H=>tv σ H fun y H1=>ta σ H1 fun x H2=>∃a C dx fs,x=.ref a/\H2 a=some (.ins C dx fs)/\Cls K C/\eB K C f/\fs.length<1000 /\
 D.nx σ (upd H2 a (.ins C dx (lY f y fs)))
section
variable {X:Cx}{o e value:Expr}{f:Str}{pos pos' tpos:Pos}{ta tv:TE}
theorem Ax(he:PE X e ta)(hb:attributeBase e f X.env (eval e X.env)=eval e X.env):PE X (.Attribute e f pos) (tE X.K ta f):=by
 intro pins s σ H Q I h;refine tD hb (thn (he pins s σ H _ I h) fun u s1 ⟨x,H1,I1,rx,a,C,dx,fs,v,ex,ea,c,n,l,q⟩=>?_);subst ex;obtain rfl:u=Value.ref a:=rx;exact rO I1 ea c n l fun u' s2 I2 ru=>⟨v,H1,I2,ru,q⟩
theorem ki(ha:PE X o ta)(hv:PE X value tv)(hs:swapsWith value (some (.Attribute o f pos')) pos.line X.env=pure false):PS X (.Assign [.Attribute o f pos'] value pos) (DY X.K ta tv f):=by
 intro pins s σ H D I h;refine plainObj_wpAny_Assign_Attribute (thn (hv pins s σ H _ I h) fun u s1 ⟨y,H1,I1,ry,q⟩=>thn (ha pins s1 σ H1 _ I1 q) fun ov s2 ⟨x,H2,I2,rx,a,C,dx,fs,ex,ea,c,n,l,q2⟩=>?_) hs;subst ex;obtain rfl:ov=Value.ref a:=rx;exact rQ I2 ea c n l ry fun s3 I3=>⟨σ,_,I3,q2⟩
end
section
variable {X:Cx}{pins:List (Addr×Obj)}{σ:St}{H:Hp}{s:Shared}{A:Around}{E:Value->Shared->Prop}{Q:Value->Shared->Prop}{c:Value}{b:Bool}
inductive pT (K:PySem.W.Frag) (H:Hp):V->Value->Prop where
 | non:pT K H .non (.type "NoneType")
 | bl (x:Bool):pT K H (.bl x) (.type "bool")
 | int (i:Int):pT K H (.int i) (.type "int")
 | str (x:Str):pT K H (.str x) (.type "str")
 | flt (x:UInt64):pT K H (.flt x) (.type "float")
 | lst {a:Addr}{xs:List V} (e:H a=some (.lst xs)):pT K H (.ref a) (.type "list")
 | frz {a:Addr}{o:Obj}{xs:List V} (e:H a=some (.frz o (.lst xs))):pT K H (.ref a) (.type "list")
 | tup {a:Addr}{xs:List V} (e:H a=some (.tup xs)):pT K H (.ref a) (.type "tuple")
 | dK {a:Addr}{kvs:List (Key×V)} (e:H a=some (.dK kvs)):pT K H (.ref a) (.type "dict")
 | dT {a:Addr}{kvs:List (List Key×V)} (e:H a=some (.dT kvs)):pT K H (.ref a) (.type "dict")
 | ins {a C dx:Addr}{fs:List (Str×V)} (e:H a=some (.ins C dx fs)) (cl:Cls K C) (ha:PySem.W.findIn K (.ref C) "__class__"=some (some (.builtin "object.__class__")))
   (hn:PySem.W.specialIn K (.builtin "object.__class__") "__get__"=some (some (.builtin "getset_descriptor.__get__"))) (htk:PySem.W.takesIn K (.builtin "object.__class__")=some true)
   (hm:PySem.W.mroIn K C (.type "object")=some true):pT K H (.ref a) (.ref C)
theorem tF{x:V}{u t:Value}(I:Inv X pins σ H s)(rx:dn x u)(ty:pT X.K H x t)(e:PySem.W.kitOne X.K t c=some b)(h:∀tk,Q (.bool b) { s with toks:=tk }) :
  wpAny (model X.prog X.w) A (call (.builtin "isinstance") [u,c]) Q E s:=by
 cases ty with
 | non=>cases (show u=Value.none from rx);exact PySem.W.kia_one PySem.W.kitx_none I.kIn True.intro e (fun z=>nomatch z) h
 | bl y=>cases (show u=Value.bool y from rx);exact PySem.W.kia_one PySem.W.kitx_bool I.kIn True.intro e (fun z=>nomatch z) h
 | int i=>obtain⟨t,q⟩:=(show ∃t,u=Value.int i t from rx);cases q;exact PySem.W.kia_one PySem.W.kitx_int I.kIn True.intro e (fun z=>nomatch z) h
 | str y=>obtain⟨t,q⟩:=(show ∃t,u=Value.str y t from rx);cases q;exact PySem.W.kia_one PySem.W.kitx_str I.kIn True.intro e (fun z=>nomatch z) h
 | flt y=>obtain⟨t,q⟩:=(show ∃t,u=Value.float y t from rx);cases q;exact PySem.W.kia_one PySem.W.kitx_float I.kIn True.intro e (fun z=>nomatch z) h
 | @lst a xs ea =>
  cases (show u=Value.ref a from rx);obtain⟨_,_,n,_,h1⟩:=(show bK X.prog X.w H s.heap a (.lst xs) from I.hok a _ ea)
  exact PySem.W.kia_one PySem.W.kitx_list I.kIn ⟨_,h1,rfl⟩ e (fun z=>nomatch z) h
 | @frz a ob xs ea =>
  cases (show u=Value.ref a from rx);obtain⟨_,_,_,n,_,h1⟩:=(show bK X.prog X.w H s.heap a (.frz ob (.lst xs)) from I.hok a _ ea)
  exact PySem.W.kia_one PySem.W.kitx_list I.kIn ⟨_,h1,rfl⟩ e (fun z=>nomatch z) h
 | @tup a xs ea =>
  cases (show u=Value.ref a from rx);obtain⟨_,_,_,p⟩:=(show bK X.prog X.w H s.heap a (.tup xs) from I.hok a _ ea)
  obtain⟨o,h1,h2,_⟩:=p;exact PySem.W.kia_one PySem.W.kitx_tuple I.kIn ⟨o,h1,h2⟩ e (fun z=>nomatch z) h
 | @dK a kvs ea =>
  cases (show u=Value.ref a from rx);obtain⟨_,_,vs,_,p⟩:=(show bK X.prog X.w H s.heap a (.dK kvs) from I.hok a _ ea)
  obtain⟨o,es,ep,h1,h2,_⟩:=p;exact PySem.W.kia_one PySem.W.kitx_dict I.kIn ⟨o,h1,h2.1⟩ e (fun z=>nomatch z) h
 | @dT a kvs ea =>
  cases (show u=Value.ref a from rx);obtain⟨_,_,xs,_,o,es,ep,h1,h2,_⟩:=(show bK X.prog X.w H s.heap a (.dT kvs) from I.hok a _ ea)
  exact PySem.W.kia_one PySem.W.kitx_dict I.kIn ⟨o,h1,h2.1⟩ e (fun z=>nomatch z) h
 | @ins a C dx fs ea cl ha hn htk hm =>
  cases (show u=Value.ref a from rx);obtain⟨mA,O,_⟩:=mI I.hok ea;obtain⟨od,J,_⟩:=O.look;exact PySem.W.kia_one (PySem.W.kitx_own (cl.get _) cl.hd ha hn htk hm) I.kIn J e (fun z=>nomatch z) h
end
structure fh (k:Nat) (A:Around):Prop where
 hd:A.handled=none
 dp:A.depth+3*k+5<recursionLimit
 un:A.units+16*k+200<cLine
theorem fh.mono{j k:Nat}{A:Around}(r:fh k A)(h:j<=k):fh j A:=⟨r.hd,by have:=r.dp;omega,by have:=r.un;omega⟩
theorem fh.deeper{k:Nat}{A:Around}(r:fh (k+1) A)(env:Env):fh k (A.deeper env) :=
 ⟨r.hd,by have:=r.dp;show A.depth+1+3*k+5<_;omega,by have:=r.un;show A.units+3+16*k+200<_;omega⟩
theorem rR{A:Around}{C:Addr}{us:List Value}{kw:List (Str×Value)}:(A.under (.builtin "type.__call__" ⟨.ref C::us,kw⟩)).depth=A.depth+1:=by
 first|rfl|simp [Around.under,Code.weight,Code.isCreation,Code.isGuard,Code.isCaller,Code.frames,Code.isFrame,guardIds]
theorem rS{A:Around}{C:Addr}{us:List Value}{kw:List (Str×Value)}:(A.under (.builtin "type.__call__" ⟨.ref C::us,kw⟩)).units=A.units+1:=by
 first|rfl|simp [Around.under,Code.cUnits,Code.frames,Code.isFrame]
theorem fh.make{k:Nat}{A:Around}(r:fh (k+1) A)(C:Addr)(us:List Value)(kw:List (Str×Value)):fh k (A.under (.builtin "type.__call__" ⟨.ref C::us,kw⟩)) :=
 ⟨r.hd,by have:=r.dp;rw [rR];omega,by have:=r.un;rw [rS];omega⟩
theorem fh.depth{k:Nat}{A:Around}(r:fh k A):A.depth<recursionLimit:=by have:=r.dp;omega
theorem fh.units{k:Nat}{A:Around}(r:fh k A):A.units+64<cLine:=by have:=r.un;omega
def fE:TA:=fun _ H Q=>Q [] H
def bp(ta:TE)(tr:TA):TA:=fun σ H Q=>ta σ H fun x H1=>tr σ H1 fun xs H2=>Q (x::xs) H2
section
variable {X:Cx}{e:Expr}{es:List Expr}{te:TE}{t:TA}{pos:Pos}
theorem ag:PA X [] fE:=fun _ _ _ _ H Q I h=>Calls.spliced_nil ⟨[],H,I,.nil,h⟩
theorem yb(ha:PE X e te)(hr:PA X es t)(hs:starEach (e::es) X.env=(false,eval e X.env)::starEach es X.env:=by rfl):PA X (e::es) (bp te t):=by
 intro pos pins s σ H Q I h;rw [hs];show wpAny _ _ (spliced ((false,eval e X.env)::backTo pos (starEach es X.env))) _ _ s;refine Calls.spliced_cons (thn (ha pins s σ H _ I h) fun u s1 ⟨x,H1,I1,r1,q1⟩=>?_);exact thn (hr pos pins s1 σ H1 _ I1 q1) fun us s2 ⟨xs,H2,I2,r2,q2⟩=>⟨x::xs,H2,I2,.cons r1 r2,q2⟩
def Cn(t:TA):TE:=fun σ H Q=>t σ H fun xs H1=>xs.length<=sizeLine/\∀p,H1 p=none->Q (.ref p) (upd H1 p (.tup xs))
def DZ(t:TA):TE:=fun σ H Q=>t σ H fun xs H1=>xs.length<=sizeLine/\∀p,H1 p=none->Q (.ref p) (upd H1 p (.lst xs))
theorem ia{x1}(h:PA X es t):PE X (.Tuple es x1 pos) (Cn t):=by
 intro pins s σ H Q I hq;refine wpAny_Tuple_spliced (thn (h pos pins s σ H _ I hq) fun us s1 ⟨xs,H1,I1,r,z,q⟩=>⟨by rw [<- r.length];exact z,?_⟩);have hf:H1 s1.heap.objs.size=none:=I1.hok.fresh (le_refl _);refine⟨.ref s1.heap.objs.size,upd H1 s1.heap.objs.size (.tup xs),I1.laid (t':=s1.toks) (fun b u e=>Heap.get?_push_of_some _ e) (le_refl _) ?_,rfl,q _ hf⟩;exact⟨z,us,r,⟨_,Heap.get?_push_size _ rfl,rfl,_,rfl⟩⟩
theorem dR(h:PA X es t):PE X (.List es pos) (DZ t):=by
 intro pins s σ H Q I hq;refine wpAny_List_spliced (thn (h pos pins s σ H _ I hq) fun us s1 ⟨xs,H1,I1,r,z,q⟩=>⟨by rw [<- r.length];exact z,?_⟩);have hf:H1 s1.heap.objs.size=none:=I1.hok.fresh (le_refl _);refine⟨.ref s1.heap.objs.size,upd H1 s1.heap.objs.size (.lst xs),I1.laid (t':=s1.toks) (fun b u e=>Heap.get?_push_of_some _ e) (le_refl _) ?_,rfl,q _ hf⟩;exact⟨z,us,0,r,Heap.get?_push_size _ rfl⟩
end
abbrev Sp:=List V->Hp->VK->XK->Prop
abbrev CXT:=List Env->Hp->Shared->XK->Value->Shared->Prop
structure yc (P:Program) (w:World) (K:PySem.W.Frag) (mg:Str->Option Value) (base:Heap) (A:Around) (outer:List Env) (s:Shared) (H:Hp):Prop where
 frames:A.frames=some outer
 mod:Mod K mg base
 bs:∀b o,base.get? b=some o->s.heap.get? b=some o/\H b=none
 bsz:base.objs.size<=s.heap.objs.size
 funs:s.heap.FunFrames base outer
 frf:∀b∈frs outer,H b=none
 hok:HOk P w H s.heap
 bare:AllBare s.gens
def CE(outer:List Env)(P:Program)(w:World)(H:Hp)(s:Shared)(Q:VK)(u:Value)(s':Shared):Prop :=
 ∃v H',s'.os=s.os/\AllBare s'.gens/\Un (frs outer) [] H H' s.heap s'.heap/\HOk P w H' s'.heap/\dn v u/\Q v H'
def CR(CX:CXT)(outer:List Env)(P:Program)(w:World)(H:Hp)(s:Shared)(Q:VK)(E:XK)(r:Result)(s':Shared):Prop :=
 match r with
 | .ok (.ret u)=>CE outer P w H s Q u s'
 | .ok _=>False
 | .error e=>CX outer H s E e s'
structure lA (P:Program) (w:World) (K:PySem.W.Frag) (mg:Str->Option Value) (base:Heap) (CX:CXT) (k:Nat) (f:Addr) (fd:FuncData) (ps:List Str) (sp:Sp):Prop where
 len:∀vs H Q E,sp vs H Q E->vs.length=ps.length
 run:∀(A:Around) (outer:List Env) (s:Shared) (H:Hp) (args:Args) (us:List Value) (vs:List V) (Q:VK) (E:XK),fh k A->yc P w K mg base A outer s H->BindsTo s fd args (ps.zip us)->bZ vs us->sp vs H Q E ->
  codeAny (model P w) A (.call (.ref f) args) (CR CX outer P w H s Q E) s
theorem lA.imp{P:Program}{w:World}{K:PySem.W.Frag}{mg:Str->Option Value}{base:Heap}{CX:CXT}{k:Nat}{f:Addr}{fd:FuncData}{ps:List Str}{sp sp':Sp}(F:lA P w K mg base CX k f fd ps sp)
  (h:∀vs H Q E,sp' vs H Q E->sp vs H Q E):lA P w K mg base CX k f fd ps sp' :=
 ⟨fun vs H Q E q=>F.len vs H Q E (h _ _ _ _ q),fun A outer s H args us vs Q E hr he hb hv hs=>F.run A outer s H args us vs Q E hr he hb hv (h _ _ _ _ hs)⟩
theorem yc.make{P:Program}{w:World}{K:PySem.W.Frag}{mg:Str->Option Value}{base:Heap}{A:Around}{outer:List Env}{s:Shared}{H:Hp}(e:yc P w K mg base A outer s H)(C:Addr)(us:List Value)(kw:List (Str×Value)) :
  yc P w K mg base (A.under (.builtin "type.__call__" ⟨.ref C::us,kw⟩)) outer s H:=⟨by first|exact e.frames|(simpa [Around.under,Code.envs,Code.isFrame,pushEnvs] using e.frames),e.mod,e.bs,e.bsz,e.funs,e.frf,e.hok,e.bare⟩
section
variable {X:Cx}{pins:List (Addr×Obj)}{σ:St}{H:Hp}{s s':Shared}
theorem Inv.env0(I:Inv X pins σ H s):yc X.prog X.w X.K X.mg X.base X.A X.stack s H :=
 ⟨I.ok.frames,I.ok.mod,I.bs,le_trans I.ok.bsz I.sz,I.stack,I.stkFree,I.hok,I.bare⟩
theorem Inv.after{Q:VK}{u:Value}(I:Inv X pins σ H s)(h:CE X.stack X.prog X.w H s Q u s'):EP X pins σ Q u s':=by
 obtain⟨v,H',os,bare,un,hok,r,q⟩:=h;obtain⟨hh,g,d,t,os'⟩:=s';obtain rfl:os'=s.os:=os;exact⟨v,H',I.call (h':=hh) (g':=g) (d':=d) (t':=t) (ch:=[]) un hok bare (fun b z=>absurd z (by simp)),r,q⟩
end
def fi(sp:Sp)(dvs:List V)(E:XK)(t:TA):TE:=fun σ H Q=>t σ H fun vs H1=>sp (vs++dvs) H1 Q E
def ye(C:Addr)(m:Str)(sp:Sp)(dvs:List V)(E:XK)(ta:TE)(t:TA):TE:=fun σ H Q=>ta σ H fun x H1=>∃a dx fs,x=.ref a/\H1 a=some (.ins C dx fs)/\fs.lookup m=none /\
 t σ H1 fun vs H2=>sp (x::(vs++dvs)) H2 Q E
def tG(C:Addr)(sp:Sp)(dvs:List V)(E:XK)(t:TA):TE:=fun σ H Q=>t σ H fun vs H1=>∀x dx,H1 x=none->H1 dx=none->dx≠x ->
 sp (.ref x::(vs++dvs)) (upd (upd H1 dx (.own x)) x (.ins C dx [])) (fun v H2=>v=.non/\Q (.ref x) H2) E
def iu(K:PySem.W.Frag)(fd:FuncData)(ps:List Str)(ds:List Value):Prop :=
 ∀(s:Shared) (us:List Value),K.In s.heap->(us++ds).length=ps.length->BindsTo s fd ⟨us,[]⟩ (ps.zip (us++ds))
theorem iu.all{K:PySem.W.Frag}{fd:FuncData}{ps:List Str}(h:∀us:List Value,us.length=ps.length->bindArgs fd ⟨us,[]⟩=pure (ps.zip us)):iu K fd ps []:=fun s us _ hl=>by
 rw [append_nil] at hl ⊢;exact .of_eq (h us hl)
def lZ(CX:CXT)(X:Cx)(E:XK):Prop:=∀(pins:List (Addr×Obj)) (σ:St) (H:Hp) (s:Shared) (e:Value) (s':Shared),Inv X pins σ H s->CX X.stack H s E e s'->X.xe e s'
section
variable {X:Cx}{CX:CXT}{k:Nat}{f C:Addr}{fd:FuncData}{ps:List Str}{sp:Sp}{dvs:List V}{ds:List Value}{E:XK}{x m:Str}{p pos apos:Pos}{e o:Expr}{es:List Expr}{ta:TE}{t:TA}
theorem xt{pins:List (Addr×Obj)}{σ:St}{H:Hp}{s:Shared}{Q:VK}{us:List Value}{vs:List V}(F:lA X.prog X.w X.K X.mg X.base CX k f fd ps sp)(hr:fh k X.A)(hb:iu X.K fd ps ds)(hd:bZ dvs ds)(hx:lZ CX X E)
  (I:Inv X pins σ H s) (r:bZ vs us) (h:sp (vs++dvs) H Q E):wpAny (model X.prog X.w) X.A (call (.ref f) us) (EP X pins σ Q) X.xe s:=by
 have r2:bZ (vs++dvs) (us++ds):=r.append hd;have hl:(us++ds).length=ps.length:=by rw [<- r2.length];exact F.len _ _ _ _ h
 refine wpAny_call (codeAny_mono (F.run X.A X.stack s H ⟨us,[]⟩ (us++ds) (vs++dvs) Q E hr I.env0 (hb s us I.kIn hl) r2 h) fun r s' hq=>?_)
 cases r with
 | error e=>exact hx pins σ H s e s' I hq
 | ok fl =>
  cases fl with
  | ret u=>exact I.after hq
  | next=>exact False.elim hq
  | brk=>exact False.elim hq
  | cont=>exact False.elim hq
theorem tH(F:lA X.prog X.w X.K X.mg X.base CX k f fd ps sp)(hr:fh k X.A)(hg:Gl X x)(hm:X.mg x=some (.ref f))(hk:PySem.W.keepIn X.K (.ref f)=true)(hb:iu X.K fd ps ds)(hd:bZ dvs ds)(hx:lZ CX X E)
  (ha:PA X (e::es) t) (hdb:(x == ("__debug__":Str))=false:=by decide) (he:starEach (e::es) X.env=(false,eval e X.env)::starEach es X.env:=by rfl) (hpl:(backTo pos (starEach es X.env)).any (·.1)=false:=by rfl) :
  PE X (.Call (.Name x p) (e::es) [] pos) (fi sp dvs E t):=by
 intro pins s σ H Q I h;refine wpAny_Call_Name_kw (gF I hg hm ?_ hdb);refine PySem.W.callWith_K (h₀:=X.base) I.ok.mod.kin hk (thn (ha pos pins s σ H _ I h) fun us s1 ⟨vs,H1,I1,r,q⟩=>⟨I1.kIn,?_⟩) he hpl;exact xt F hr hb hd hx I1 r q
theorem vT{pl:Sem Bool}(he:PE X o ta)(c:Cls X.K C)(hm:Cm X.K C m f)(F:lA X.prog X.w X.K X.mg X.base CX k f fd ps sp)(hr:fh k X.A)(hb:iu X.K fd ps ds)(hd:bZ dvs ds)(hx:lZ CX X E)
  (ht:eval (.Call (.Attribute o m apos) [] [] pos) X.env=(do
   let ov <- eval o X.env
   standAt apos.atName
   let (f,first) <- holding [ov] (getMethod ov m pl)
   callWith pos f first (backTo pos (starEach [] X.env)) (backToKw pos (keywordEach [] X.env))):=by rfl) :
  PE X (.Call (.Attribute o m apos) [] [] pos) (ye C m sp dvs E ta fE):=by
 intro pins s σ H Q I h;refine PySem.W.methodCall_KW (pl:=pl) (thn (he pins s σ H _ I h) fun u s1 ⟨x,H1,I1,rx,a,dx,fs,ex,ea,l,q⟩=>?_) ht;subst ex;obtain rfl:u=Value.ref a:=rx;refine rP I1 ea c hm l ?_;exact PySem.W.callWith_K0 (first:=[.ref a]) I1.kIn hm.kp (xt (us:=[.ref a]) (vs:=[.ref a]) F hr hb hd hx I1 (.cons rfl .nil) q)
structure Mk (K:PySem.W.Frag) (C f:Addr):Prop where
 makes:PySem.W.makesIn K C=true
 init:PySem.W.findIn K (.ref C) "__init__"=some (some (.ref f))
 fn:PySem.W.isFn K (.ref f)=true
 kp:PySem.W.keepIn K (.ref C)=true
theorem vU{pins:List (Addr×Obj)}{σ:St}{H:Hp}{s:Shared}{Q:VK}{us:List Value}{vs:List V}(M:Mk X.K C f)(F:lA X.prog X.w X.K X.mg X.base CX k f fd ps sp)(hr:fh (k+1) X.A)(hb:iu X.K fd ps ds)(hd:bZ dvs ds)
  (hx:lZ CX X E) (I:Inv X pins σ H s) (r:bZ vs us)
  (h:∀x dx,H x=none->H dx=none->dx≠x->sp (.ref x::(vs++dvs)) (upd (upd H dx (.own x)) x (.ins C dx [])) (fun v H2=>v=.non/\Q (.ref x) H2) E) :
  wpAny (model X.prog X.w) X.A (call (.ref C) us) (EP X pins σ Q) X.xe s:=by
 have hq:=h (s.heap.objs.size+1) s.heap.objs.size (I.hok.fresh (le_succ _)) (I.hok.fresh (le_refl _)) (ne_of_lt (lt_succ_self _));have I2:=Inv.made (C:=C) I;have r2:bZ (V.ref (s.heap.objs.size+1)::(vs++dvs)) (Value.ref (s.heap.objs.size+1)::(us++ds)):=.cons rfl (r.append hd)
 have hl:(Value.ref (s.heap.objs.size+1)::us++ds).length=ps.length:=by
  have e:=r2.length;rw [F.len _ _ _ _ hq] at e;exact e.symm
 refine wpAny_call (qQ (f:=f) I.kIn M.makes M.init (beq_iff_eq.mp M.fn) (codeAny_mono (F.run _ X.stack _ _ ⟨Value.ref (s.heap.objs.size+1)::us,[]⟩ (Value.ref (s.heap.objs.size+1)::(us++ds)) _ _ E (hr.make C us [])
  (I2.env0.make C us []) (hb _ (Value.ref (s.heap.objs.size+1)::us) I2.kIn hl) r2 hq) fun r s' hq'=>?_))
 cases r with
 | error e=>exact hx pins σ _ _ e s' I2 hq'
 | ok fl =>
  cases fl with
  | ret u =>
   obtain⟨v,H',I3,rv,ev,q3⟩:=I2.after hq';subst ev;exact⟨rv,⟨V.ref (s.heap.objs.size+1),H',I3,rfl,q3⟩⟩
  | next=>exact False.elim hq'
  | brk=>exact False.elim hq'
  | cont=>exact False.elim hq'
theorem yf(M:Mk X.K C f)(F:lA X.prog X.w X.K X.mg X.base CX k f fd ps sp)(hr:fh (k+1) X.A)(hg:Gl X x)(hm:X.mg x=some (.ref C))(hb:iu X.K fd ps ds)(hd:bZ dvs ds)(hx:lZ CX X E)
  (ha:PA X (e::es) t) (hdb:(x == ("__debug__":Str))=false:=by decide) (he:starEach (e::es) X.env=(false,eval e X.env)::starEach es X.env:=by rfl) (hpl:(backTo pos (starEach es X.env)).any (·.1)=false:=by rfl) :
  PE X (.Call (.Name x p) (e::es) [] pos) (tG C sp dvs E t):=by
 intro pins s σ H Q I h;refine wpAny_Call_Name_kw (gF I hg hm ?_ hdb);refine PySem.W.callWith_K (h₀:=X.base) I.ok.mod.kin M.kp (thn (ha pos pins s σ H _ I h) fun us s1 ⟨vs,H1,I1,r,q⟩=>⟨I1.kIn,?_⟩) he hpl;exact vU M F hr hb hd hx I1 r q
end
structure aM (N P:List Str) (sc:Scope):Prop where
 kind:sc.kind=.function
 co:sc.isCoroutine=false
 gen:sc.isGenerator=false
 nd:N.Nodup
 pre:N.take P.length=P
 par:∀x∈P,sc.names.lookup x=some .local\/sc.names.lookup x=some .cell
 nofree:∀y∈sc.names,y.2≠.free
theorem n5{kindOf:Str->Option NameKind}{x:Str}:∀{binds:List (Str×Value)}{m:Str->Option Value},(∀v,(x,v)∉binds)->bindL kindOf binds m x=m x
 | [],_,_=>rfl
 | (n,v)::r,m,h=>by
  unfold bindL;rw [n5 fun w hw=>h w (mem_cons_of_mem _ hw)]
  split
  .have:x≠n:=by rintro rfl;exact h v mem_cons_self
   simp [this]
  .rfl
theorem n6{kindOf:Str->Option NameKind}{x:Str}:∀{binds:List (Str×Value)}{m:Str->Option Value},(∀v,(x,v)∉binds)->bindC kindOf binds m x=m x
 | [],_,_=>rfl
 | (n,v)::r,m,h=>by
  unfold bindC;rw [n6 fun w hw=>h w (mem_cons_of_mem _ hw)]
  split
  .rfl
  .have:x≠n:=by rintro rfl;exact h v mem_cons_self
   simp [this]
theorem n8{kindOf:Str->Option NameKind}{x:Str}{v:Value}:∀{P:List Str}{vs:List Value}{i:Nat}{m:Str->Option Value},P.Nodup->P[i]?=some x->vs[i]?=some v->kindOf x=some .local ->
  bindL kindOf (P.zip vs) m x=some v
 | [],_,_,_,_,h,_,_=>by simp at h
 | _::_,[],_,_,_,_,h,_=>by simp at h
 | p::P,w::vs,0,m,nd,h1,h2,hk=>by
  simp at h1 h2;subst h1;subst h2;show bindL kindOf ((p,w)::P.zip vs) m p=_;unfold bindL;rw [n5 fun v hv=>(nodup_cons.mp nd).1 (of_mem_zip hv).1,if_pos hk];simp
 | p::P,w::vs,i+1,m,nd,h1,h2,hk=>by
  show bindL kindOf ((p,w)::P.zip vs) m x=_;unfold bindL;exact n8 (i:=i) (nodup_cons.mp nd).2 (by simpa using h1) (by simpa using h2) hk
theorem n9{kindOf:Str->Option NameKind}{x:Str}{v:Value}:∀{P:List Str}{vs:List Value}{i:Nat}{m:Str->Option Value},P.Nodup->P[i]?=some x->vs[i]?=some v->kindOf x≠some .local ->
  bindC kindOf (P.zip vs) m x=some v
 | [],_,_,_,_,h,_,_=>by simp at h
 | _::_,[],_,_,_,_,h,_=>by simp at h
 | p::P,w::vs,0,m,nd,h1,h2,hk=>by
  simp at h1 h2;subst h1;subst h2;show bindC kindOf ((p,w)::P.zip vs) m p=_;unfold bindC;rw [n6 fun v hv=>(nodup_cons.mp nd).1 (of_mem_zip hv).1,if_neg hk];simp
 | p::P,w::vs,i+1,m,nd,h1,h2,hk=>by
  show bindC kindOf ((p,w)::P.zip vs) m x=_;unfold bindC;exact n9 (i:=i) (nodup_cons.mp nd).2 (by simpa using h1) (by simpa using h2) hk
def start(N:List Str)(vs:List V):St:=vs.map some++List.replicate (N.length - vs.length) none
def mJ(CX:CXT)(P:Program)(w:World)(K:PySem.W.Frag)(mg:Str->Option Value)(base:Heap)(N:List Str)(qual:Str)(scope:Scope)(f:Addr)(cd:Value)(A:Around)(outer:List Env)(s:Shared)(H:Hp)(E:XK):Cx where
 prog:=P
 w:=w
 K:=K
 mg:=mg
 base:=base
 A:=A.deeper (envOfC qual scope s.heap.objs.size f cd)
 N:=N
 s₀:=s
 H₀:=H
 env:=envOfC qual scope s.heap.objs.size f cd
 outer:=outer
 stack:=envOfC qual scope s.heap.objs.size f cd::outer
 ex:=[]
 calm:=true
 fn:=fun _=>true
 pn:=[]
 xe:=fun e s'=>wpAny (model P w) (A.deeper (envOfC qual scope s.heap.objs.size f cd)) (leaving (envOfC qual scope s.heap.objs.size f cd) e) (fun _ s''=>CX outer H s E e s'') (fun e' s''=>CX outer H s E e' s'') s'
theorem qR{sc:Scope}{n:Nat}{x:Str}(h:sc.names.lookup x=some .cell):∃c,(cellsFrom n sc.names []).lookup x=some c:=by
 have q:=PySem.W.cellsFrom_some sc.names n [] (.inl h);exact Option.isSome_iff_exists.mp q
theorem tI{CX:CXT}{P:Program}{w:World}{K:PySem.W.Frag}{mg:Str->Option Value}{base:Heap}{N ps:List Str}{qual:Str}{scope:Scope}{f:Addr}{cd:Value}{A:Around}{outer:List Env}{s s1:Shared}{H:Hp}{E:XK}{us:List Value}{vs:List V}
  (S:aM N ps scope) (hd:A.handled=none) (e0:yc P w K mg base A outer s H) (hl:vs.length=ps.length) (r:bZ vs us)
  (x:InCallC s s.heap.objs.size (bindL (envOfC qual scope s.heap.objs.size f cd).kindOf (ps.zip us) fun _=>none) (cellsFrom (s.heap.objs.size+1) scope.names []) (bindC (envOfC qual scope s.heap.objs.size f cd).kindOf (ps.zip us) fun _=>none) s1) :
  Inv (mJ CX P w K mg base N qual scope f cd A outer s H E) [] (start N vs) H s1:=by
 have hpl:ps.length<=N.length:=by have:=congrArg List.length S.pre;rw [length_take] at this;omega
 obtain⟨h1,tk,rfl,hk⟩:=x.done;have noA:∀b:Addr,b∉(mJ CX P w K mg base N qual scope f cd A outer s H E).ex:=fun b z=>absurd (show b∈([]:List Addr) from z) (by simp)
 refine⟨⟨e0.mod,S.kind,rfl,rfl,le_refl _,fun y z c h1 h2=>?_,fun y hy=>?_,fun y c _ h=>?_,fun _=>hd,Around.frames_deeper e0.frames,.inr ⟨rfl,rfl⟩,fun b z=>absurd z (noA b),e0.bs,e0.bsz,fun b _ _=>noA b,fun b z=>absurd z (noA b),e0.funs,e0.frf⟩,
  rfl,e0.bare,Un.kept hk,⟨_,x.toInCall.ns,fun i y v h1 h2 h3=>?_⟩,fun y c h=>⟨_,x.cell y c h⟩,e0.hok.fresh (le_refl _),fun y c h=>?_,fun p hp=>absurd (show p∈([]:List (Addr×Obj)) from hp) (by simp),e0.hok.kept hk,?_⟩
 .exact name_of_addr x.apart (PySem.mem_of_lookup h1) (PySem.mem_of_lookup h2)
 .have hy:scope.names.lookup y=some .cell\/scope.names.lookup y=some .free:=hy
  rcases hy with hy|hy
  .exact qR hy
  .exact absurd rfl (S.nofree _ (PySem.mem_of_lookup hy))
 .exact le_of_lt (x.above y c (PySem.mem_of_lookup h))
 .have hi:i<vs.length:=by
   unfold start at h2
   by_cases hi:i<vs.length
   .exact hi
   .rw [getElem?_append_right (by simpa using hi)] at h2;rw [getElem?_replicate] at h2;split at h2 <;> cases h2
  have ha:vs[i]?=some v:=by
   unfold start at h2;rw [getElem?_append_left (by simpa using hi),getElem?_map] at h2
   cases e:vs[i]? with
   | none=>rw [e] at h2;cases h2
   | some a=>rw [e] at h2;cases h2;rfl
  obtain⟨u,hu,rv⟩:=r.get ha
  have hp:ps[i]?=some y:=by
   rw [<- S.pre,getElem?_take_of_lt (by omega)];exact h1
  have ndP:ps.Nodup:=by rw [<- S.pre];exact S.nd.sublist (take_sublist _ _)
  refine⟨u,rv,?_⟩
  rcases S.par y (mem_of_getElem? hp) with k|k
  .exact .inl ⟨k,n8 ndP hp hu k⟩
  .obtain⟨c,e⟩:=qR (n:=s.heap.objs.size+1) k;refine .inr ⟨.inl k,c,e,?_⟩;have q:=x.cell y c e;rw [n9 ndP hp hu (by show scope.names.lookup y≠_;rw [k];decide)] at q;exact q
 .exact e0.hok.fresh (le_of_lt (x.above y c (PySem.mem_of_lookup h)))
 .unfold start;show _=N.length;rw [length_append,length_map,length_replicate];omega
theorem vV{CX:CXT}{P:Program}{w:World}{K:PySem.W.Frag}{mg:Str->Option Value}{base:Heap}{k:Nat}{f:Addr}{name qual:Str}{params:Arguments}{body:List Stmt}{scope:Scope}{dV kV doc pm cdv ct oc:Value}{an od:Option Addr}
  {osl:Array (Option Value)}{N ps:List Str}{sp:Sp} (lk:K.lookup f=some ⟨oc,od,.func (PySem.W.fnOf name qual params body scope dV kV doc pm an cdv ct),osl⟩) (hcd:PySem.W.codeIn K cdv qual=true) (S:aM N ps scope)
  (len:∀vs H Q E,sp vs H Q E->vs.length=ps.length)
  (hbody:∀(A:Around) (outer:List Env) (s:Shared) (H:Hp) (vs:List V) (Q:VK) (E:XK),fh k (A.deeper (envOfC qual scope s.heap.objs.size f cdv))->sp vs H Q E ->
   ∃t,PSs (mJ CX P w K mg base N qual scope f cdv A outer s H E) body t/\t { nx:=fun _ H'=>Q .non H',rt:=Q } (start N vs) H) :
  lA P w K mg base CX (k+1) f (PySem.W.fnOf name qual params body scope dV kV doc pm an cdv ct) ps sp:=by
 refine⟨len,fun A outer s H args us vs Q E hr e0 hb r hsp=>?_⟩;have hl:=len _ _ _ _ hsp;have KX:K.In s.heap:=e0.mod.kin.keeps fun b o e=>(e0.bs b o e).1;have lim:s.heap.NoLimit:=e0.mod.nolimit.keeps fun b o e=>(e0.bs b o e).1
 have hkind:∀y∈ps.zip us,scope.names.lookup y.1=some .local\/(scope.names.lookup y.1=some .cell/\((cellsFrom (s.heap.objs.size+1) scope.names []).lookup y.1).isSome=true):=fun ⟨n,v⟩ hy=>by
  rcases S.par n (of_mem_zip hy).1 with q|q
  .exact .inl q
  .exact .inr ⟨q,PySem.W.cellsFrom_some _ _ _ (.inl q)⟩
 refine codeAny_call_function hr.depth (KX _ _ lk) rfl S.co S.gen rfl (PySem.W.codeRec_of KX hcd) (hb _ _ _ _ ?_);refine wpAny_newFunctionEnv_cells S.kind hkind fun env he s1 x=>?_;subst he;refine⟨lim.keeps x.toInCall.keep,codeAny_func ?_⟩;obtain⟨t,ht,hq⟩:=hbody A outer s H vs Q E (hr.deeper _) hsp;have I:Inv (mJ CX P w K mg base N qual scope f cdv A outer s H E) [] (start N vs) H s1:=tI S hr.hd e0 hl r x
 refine wpAny_mono (ht [] s1 (start N vs) H _ I hq) (fun fl s' hs=>?_) fun e s' hs=>hs
 have fin:∀{σ':St}{H':Hp}{v:V}{u:Value},Inv (mJ CX P w K mg base N qual scope f cdv A outer s H E) [] σ' H' s'->dn v u->Q v H'->CE outer P w H s Q u s' :=
  fun {σ' H' v u} J rv q=>⟨v,H',J.os,J.bare,J.base,J.hok,rv,q⟩
 cases fl with
 | ret u =>
  obtain⟨v,σ',H',J,rv,q⟩:=hs;exact fin J rv q
 | next =>
  obtain⟨σ',H',J,q⟩:=hs;exact fin (v:=V.non) (u:=Value.none) J rfl q
 | brk =>
  obtain⟨_,_,_,q⟩:=hs;exact False.elim q
 | cont =>
  obtain⟨_,_,_,q⟩:=hs;exact False.elim q
section
variable {X:Cx}{x:Str}{p pos:Pos}{e:Expr}{es:List Expr}{t:TA}{id T:String}{r:List V->Hp->VK->Prop}
def tCB(r:List V->Hp->VK->Prop)(t:TA):TE:=fun σ H Q=>t σ H fun vs H1=>r vs H1 Q
theorem vW(hc:bJ X (.builtin id) r)(hg:Gl X x)(hm:X.mg x=none)(hv:bootBuiltins x=some (.builtin id))(ha:PA X (e::es) t)(hn:x≠"__name__":=by decide)(hdb:(x == ("__debug__":Str))=false:=by decide)
  (he:starEach (e::es) X.env=(false,eval e X.env)::starEach es X.env:=by rfl) (hpl:(backTo pos (starEach es X.env)).any (·.1)=false:=by rfl):PE X (.Call (.Name x p) (e::es) [] pos) (tCB r t):=by
 intro pins s σ H Q I h;refine wpAny_Call_Name_kw (jH I hg hm hv ?_ hn hdb);exact PyProof.Rows.callWith_builtin1 (thn (ha pos pins s σ H _ I h) fun us s1 ⟨vs,H1,I1,r1,q1⟩=>hc pins s1 σ H1 vs us Q I1 r1 q1) he hpl
theorem tJ(hc:bJ X (.type T) r)(hg:Gl X x)(hm:X.mg x=none)(hv:bootBuiltins x=some (.type T))(ha:PA X (e::es) t)(hn:x≠"__name__":=by decide)(hdb:(x == ("__debug__":Str))=false:=by decide)
  (he:starEach (e::es) X.env=(false,eval e X.env)::starEach es X.env:=by rfl) (hpl:(backTo pos (starEach es X.env)).any (·.1)=false:=by rfl):PE X (.Call (.Name x p) (e::es) [] pos) (tCB r t):=by
 intro pins s σ H Q I h;refine wpAny_Call_Name_kw (jH I hg hm hv ?_ hn hdb);exact PyProof.Rows.callWith_type1 (thn (ha pos pins s σ H _ I h) fun us s1 ⟨vs,H1,I1,r1,q1⟩=>hc pins s1 σ H1 vs us Q I1 r1 q1) he hpl
end
end L2
namespace HT
open PySem PyProof.Rows
section
open PySem.SeqAt
open PySem.AutoSeq1 (wpAny_loadPart')
open PySem.MeetsSeq PySem.MeetsSeq2 PySem.MeetsSeq3
end
section
variable {prog:Program}{w:World}{A:Around}{E:Value->Shared->Prop}{s:Shared}
theorem cat_tup{t b:Addr}{vs ws:List Value}{Q:Value->Shared->Prop}(ht:IsTup s.heap t vs.toArray)(hb:IsTup s.heap b ws.toArray)(hv:vs≠[])
  (h1:ws=[]->Q (.ref t) s) (h2:ws≠[]->Q (.ref s.heap.objs.size) { s with heap:=s.heap.push { cls:=.type "tuple",data:=.seq (vs++ws).toArray } })
  (hsz:vs.length+ws.length<=sizeLine):wpAny (model prog w) A (binaryOp .Add (.ref t) (.ref b)) Q E s:=by
 obtain⟨⟨cls,dd,data,sl⟩,ho,hc,n,hd⟩:=id ht;obtain⟨⟨cls2,dd2,data2,sl2⟩,ho2,hc2,n2,hd2⟩:=id hb;simp only at hc hd hc2 hd2;subst hc hd hc2 hd2;have e:vs.toArray++ws.toArray=(vs++ws).toArray:=by simp
 by_cases hw:ws=[]
 .exact concat_meets ⟨_,ho,rfl⟩ ⟨_,ho2,rfl⟩ noFill_tuple_add seq_tuple_add PySem.F.slot_tuple_add PySem.F.entry_tuple_add (PySem.F.args_tuple_add_2 _ _)
   (tuple_addW1 t b vs.toArray ws.toArray n n2 dd dd2 sl sl2 (by simpa using hv) (by simp [hw])) ⟨ho,ho2,h1 hw⟩
 .refine concat_meets ⟨_,ho,rfl⟩ ⟨_,ho2,rfl⟩ noFill_tuple_add seq_tuple_add PySem.F.slot_tuple_add PySem.F.entry_tuple_add (PySem.F.args_tuple_add_2 _ _)
   (tuple_addW2 t b vs.toArray ws.toArray n n2 dd dd2 sl sl2 (by simpa using hv) (by simpa using hw) (by rw [size_toArray,size_toArray];exact hsz)) ⟨ho,ho2,?_⟩
  rw [e];exact h2 hw
def sIx(n d:Nat):Option Int->Nat
 | none=>d
 | some v=>if v<0 then (v+(n:Int)).toNat else min v.toNat n
theorem sIx_nat(n d k:Nat):sIx n d (some (k:Int))=min k n:=by
 show (if (k:Int)<0 then ((k:Int)+(n:Int)).toNat else min (k:Int).toNat n)=min k n;rw [if_neg (by omega),toNat_natCast]
theorem sIx_le(n d:Nat)(hd:d<=n)(o:Option Int):sIx n d o<=n:=by
 cases o with
 | none=>exact hd
 | some v =>
  show (if v<0 then (v+(n:Int)).toNat else min v.toNat n)<=n
  by_cases hv:v<0
  .rw [if_pos hv];omega
  .rw [if_neg hv];exact min_le_right _ _
theorem clip_eq(v:Int)(n d:Nat):(if v<0 then max (v+(n:Int)) 0 else min v (n:Int))=((sIx n d (some v):Nat):Int):=by
 show (if v<0 then max (v+(n:Int)) 0 else min v (n:Int))=(((if v<0 then (v+(n:Int)).toNat else min v.toNat n):Nat):Int)
 by_cases hv:v<0
 .simp only [if_pos hv];omega
 .simp only [if_neg hv];omega
theorem rT(lo hi:Option Int)(n:Nat):Builtin.Slice.sliceAdjust lo hi 1 (n:Int)=(((sIx n 0 lo:Nat):Int),((sIx n n hi:Nat):Int)):=by
 have h1:¬ ((1:Int)<0):=by omega
 unfold Builtin.Slice.sliceAdjust;simp only [h1,if_false]
 refine Prod.ext ?_ ?_
 .cases lo with
  | none=>rfl
  | some v=>exact clip_eq v n 0
 .cases hi with
  | none=>rfl
  | some v=>exact clip_eq v n n
theorem rV(i j:Nat):Builtin.Slice.slicePlaces (i:Int) (j:Int) 1=j - i:=by
 unfold Builtin.Slice.slicePlaces;have h1:(1:Int) > 0:=by omega
 simp only [h1,if_true,ediv_one];split <;> omega
theorem l0{v:Value}{o:Option Int}{Q:Option Int->Shared->Prop}(p:IsPart v o)(h:Q o s):wpAny (model prog w) A (Builtin.Slice.slicePartIndex v) Q E s:=by
 cases p with
 | none=>exact slicePart_none h
 | int i t=>exact slicePart_int h
theorem gf{sl:Addr}{vl vu:Value}{lo hi:Option Int}{n:Nat}{Q:Int×Int×Nat->Shared->Prop}(hs:s.heap.IsSliceOf sl vl vu .none)(pl:IsPart vl lo)(pu:IsPart vu hi)
  (h:Q (((sIx n 0 lo:Nat):Int),1,sIx n n hi - sIx n 0 lo) s):wpAny (model prog w) A (Builtin.Slice.sliceApplied (.ref sl) (pure (n:Int))) Q E s:=by
 obtain⟨os,hos,hcs,hds⟩:=id hs;unfold Builtin.Slice.sliceApplied Builtin.Slice.sliceFields;refine wpAny_bind (wpAny_bind (wpAny_field hos hds (x:=vl) rfl (wpAny_bind (wpAny_field hos hds (x:=vu) rfl (wpAny_bind (wpAny_field hos hds (x:=.none) rfl (wpAny_pure ?_)))))));refine wpAny_bind (slicePart_none ?_);show wpAny _ _ (if ((1:Int) == 0)=true then _ else _) _ _ s;rw [if_neg (by decide)];refine wpAny_bind (l0 pl (wpAny_bind (l0 pu (wpAny_bind (wpAny_pure ?_)))))
 show wpAny _ _ (match Builtin.Slice.sliceAdjust lo hi 1 (n:Int) with|(lo,hi)=>pure (lo,(1:Int),Builtin.Slice.slicePlaces lo hi 1)) _ _ s;rw [rT lo hi n];show wpAny _ _ (pure (((sIx n 0 lo:Nat):Int),(1:Int),Builtin.Slice.slicePlaces ((sIx n 0 lo:Nat):Int) ((sIx n n hi:Nat):Int) 1)) _ _ s;rw [rV];exact wpAny_pure h
theorem vX(xs:Array Value)(i k:Nat):((List.range k).filterMap fun (m:Nat)=>xs[((i:Int)+(m:Int)*1).toNat]?).toArray=((xs.toList.drop i).take k).toArray:=by
 have e:(fun (m:Nat)=>xs[((i:Int)+(m:Int)*1).toNat]?)=fun m=>xs[i+m]?:=by
  funext m;have:((i:Int)+(m:Int)*1).toNat=i+m:=by omega
  rw [this]
 rw [e];have:=pick_run xs i k;rw [filterMap_map] at this;have e2:((fun x=>xs[x]?) ∘ fun x=>i+x)=fun m=>xs[i+m]?:=rfl;rw [e2] at this;rw [this]
theorem getItem_tuple_cut{t sl:Addr}{items:Array Value}{vl vu:Value}{lo hi:Option Int}{Q:Value->Shared->Prop}(ht:IsTup s.heap t items)(hs:s.heap.IsSliceOf sl vl vu .none)(pl:IsPart vl lo)(pu:IsPart vu hi)
  (hw:¬ (sIx items.size 0 lo=0/\sIx items.size items.size hi=items.size))
  (h:Q (.ref s.heap.objs.size) { s with heap:=s.heap.push { cls:=.type "tuple",data:=.seq ((items.toList.drop (sIx items.size 0 lo)).take (sIx items.size items.size hi - sIx items.size 0 lo)).toArray } })
  (hsz:items.size<=sizeLine):wpAny (model prog w) A (getItem (.ref t) (.ref sl)) Q E s:=by
 have htake:sizeOk (.seq ((items.toList.drop (sIx items.size 0 lo)).take (sIx items.size items.size hi - sIx items.size 0 lo)).toArray):=by
  show ((items.toList.drop (sIx items.size 0 lo)).take (sIx items.size items.size hi - sIx items.size 0 lo)).toArray.size<=sizeLine;rw [size_toArray,length_take,length_drop,Array.length_toList];omega
 have hj:sIx items.size items.size hi<=items.size:=sIx_le _ _ (le_refl _) hi;obtain⟨os,hos,hcs,hds⟩:=id hs;have hTs:s.TypeIs (.ref sl) "slice":=⟨os,hos,hcs⟩
 unfold getItem
 try with_reducible refine wpAny_holding ?_
 first|refine wpAny_bind (wpAny_pure ?_)|skip
 refine wpAny_bind (wpAny_sequenceKey ht.typeIs (by decide) ?_)
 refine wpAny_bind (wpAny_callSpecial?_slot (name:=Str.ofString "__getitem__") ht.typeIs PyProof.Rows.slot_tuple_getitem
  (wpAny_call_entry PyProof.Rows.slot_tuple_getitem ht.typeIs entry_tuple_getitem ?_ (args_tuple_getitem _ _)))
 show wpAny _ _ (Builtin.Tuple.tupleItemsOf (.ref t) >>= _) _ _ s;refine wpAny_bind (tupleItemsOf_ ht ?_);refine wpAny_bind (wpAny_typeOf hTs ?_);rw [if_pos (by decide)];refine wpAny_bind (gf hs pl pu ?_)
 have hno:¬ ((((sIx items.size 0 lo:Nat):Int) == 0 && (1:Int) == 1 && (sIx items.size items.size hi - sIx items.size 0 lo) == items.size)=true):=by
  intro q;rw [and_eq_true,and_eq_true] at q;have q1:((sIx items.size 0 lo:Nat):Int)=0:=eq_of_beq q.1.1;have q2:sIx items.size items.size hi - sIx items.size 0 lo=items.size:=eq_of_beq q.2;exact hw ⟨by omega,by omega⟩
 show wpAny _ _ (if (((sIx items.size 0 lo:Nat):Int) == 0 && (1:Int) == 1 && (sIx items.size items.size hi - sIx items.size 0 lo) == items.size)=true then _ else _) _ _ s;rw [if_neg hno,vX]
 first
  | exact wpAny_bind (m:=Builtin.Tuple.tupleExact _) (wpAny_newObj_type (wpAny_pure ⟨_,rfl,wpAny_pure h⟩) htake)
  | exact wpAny_bind (m:=Builtin.Tuple.tupleExact _) (wpAny_newObj_type (wpAny_bind (wpAny_pure (wpAny_pure ⟨_,rfl,wpAny_pure h⟩))) htake)
  | exact wpAny_bind (wpAny_bind (m:=Builtin.Tuple.tupleExact _) (wpAny_newObj_type (wpAny_pure (wpAny_pure ⟨_,rfl,wpAny_pure h⟩)) htake))
  | exact wpAny_bind (wpAny_bind (m:=Builtin.Tuple.tupleExact _) (wpAny_newObj_type (wpAny_pure ⟨_,rfl,wpAny_pure h⟩) htake))
end
end HT
namespace L2
open PySem PySem.Spec PyProof.Rows
abbrev TO:=St->Hp->(Option Int->Hp->Prop)->Prop
def PO(X:Cx)(e:Option Expr)(t:TO):Prop :=
 ∀(pins:List (Addr×Obj)) (s:Shared) (σ:St) (H:Hp) (Q:Option Int->Hp->Prop),Inv X pins σ H s->t σ H Q ->
  wpAny (model X.prog X.w) X.A (evalPart e X.env) (fun u s'=>∃o H',Inv X pins σ H' s'/\IsPart u o/\Q o H') X.xe s
def tK:TO:=fun _ H Q=>Q none H
def Ay(t:TE):TO:=fun σ H Q=>t σ H fun x H1=>∃i,x=.int i/\Q (some i) H1
theorem jh{ns:List Int}:∀{us:List Value},bZ (ns.map V.int) us->IntsAre us ns:=by
 induction ns with
 | nil=>intro us r;rw [map_nil] at r;cases r;exact .nil
 | cons n ns ih =>
  intro us r;rw [map_cons] at r
  cases r with
  | cons r1 r2 =>
   obtain⟨t,e⟩:=r1;subst e;exact .cons n t (ih r2)
section
variable {X:Cx}{e:Expr}{te:TE}{lo hi:Option Expr}{tl th:TO}{pos p2:Pos}
theorem de:PO X none tK:=by
 intro pins s σ H Q I h;rw [evalPart_none];exact wpAny_pure ⟨none,H,I,.none,h⟩
theorem cC(h:PE X e te):PO X (some e) (Ay te):=by
 intro pins s σ H Q I hw;rw [evalPart_some];refine thn (h pins s σ H _ I hw) fun u s1 ⟨x,H1,I1,r1,q1⟩=>?_;obtain⟨i,rfl,q⟩:=q1;obtain⟨t,rfl⟩:=r1;exact⟨some i,H1,I1,.int i t,q⟩
def SlR(X:Cx)(r:V->Option Int->Option Int->Hp->VK->Prop):Prop :=
 ∀(pins:List (Addr×Obj)) (s:Shared) (σ:St) (H:Hp) (x:V) (v vl vu:Value) (lo hi:Option Int) (sl:Addr) (Q:VK),Inv X pins σ H s->dn x v->s.heap.IsSliceOf sl vl vu .none->IsPart vl lo->IsPart vu hi->r x lo hi H Q ->
  ∃T id,typeLookup (.type T) "__getitem__"=pure (some (.builtin id))/\s.TypeIs v T/\wpAny (model X.prog X.w) X.A (getItem v (.ref sl)) (EP X pins σ Q) X.xe s
theorem SlR.or{r r':V->Option Int->Option Int->Hp->VK->Prop}(h:SlR X r)(h':SlR X r'):SlR X (fun x lo hi H Q=>r x lo hi H Q\/r' x lo hi H Q):=by
 intro pins s σ H x v vl vu lo hi sl Q I rx hs pl pu q
 rcases q with q|q
 .exact h pins s σ H x v vl vu lo hi sl Q I rx hs pl pu q
 .exact h' pins s σ H x v vl vu lo hi sl Q I rx hs pl pu q
def tSl(r:V->Option Int->Option Int->Hp->VK->Prop)(te:TE)(tl th:TO):TE:=fun σ H Q=>te σ H fun x H1=>tl σ H1 fun l H2=>th σ H2 fun u H3=>r x l u H3 Q
theorem b9{r:V->Option Int->Option Int->Hp->VK->Prop}(hr:SlR X r)(he:PE X e te)(hl:PO X lo tl)(hu:PO X hi th):PE X (.Subscript e (.Slice lo hi none p2) pos) (tSl r te tl th):=by
 intro pins s σ H Q I h;refine Subscript_ (thn (he pins s σ H _ I h) fun v s1 ⟨x,H1,I1,r1,q1⟩=>?_);refine wpAny_Slice (thn (hl pins s1 σ H1 _ I1 q1) fun vl s2 ⟨l,H2,I2,pl,q2⟩=>thn (hu pins s2 σ H2 _ I2 q2) fun vu s3 ⟨u,H3,I3,pu,q3⟩=>?_);rw [evalPart_none];refine wpAny_pure ?_;have I4:Inv X pins σ H3 { s3 with heap:=s3.heap.push { cls:=.type "slice",data:=.fields #[vl,vu,.none] } }:=I3.kept (t':=s3.toks) fun b ob q=>Heap.get?_push_of_some _ q
 obtain⟨T,id,hT,ht,hg⟩:=hr pins { s3 with heap:=s3.heap.push { cls:=.type "slice",data:=.fields #[vl,vu,.none] } } σ H3 x v vl vu l u s3.heap.objs.size Q I4 r1 (Heap.IsSliceOf.new ..) pl pu q3;show wpAny (model X.prog X.w) X.A (subscriptTail e (.Slice lo hi none p2) v (.ref s3.heap.objs.size)) (EP X pins σ Q) X.xe { s3 with heap:=s3.heap.push { cls:=.type "slice",data:=.fields #[vl,vu,.none] } };exact tail_any (ops:=[.ref s3.heap.objs.size,v]) ht hT hg (by with_unfolding_all rfl)
def yg(xs:List V)(lo hi:Option Int):List V:=(xs.drop (HT.sIx xs.length 0 lo)).take (HT.sIx xs.length xs.length hi - HT.sIx xs.length 0 lo)
theorem kj(xs:List V)(lo hi:Option Int):(yg xs lo hi).length<=xs.length:=by
 unfold yg;rw [length_take,length_drop];omega
def D0(K:PySem.W.Frag):V->Option Int->Option Int->Hp->VK->Prop:=fun x lo hi H Q=>∃a xs,x=.ref a/\SqT K H a xs /\
 ¬ (HT.sIx xs.length 0 lo=0/\HT.sIx xs.length xs.length hi=xs.length)/\∀p,H p=none->Q (.ref p) (upd H p (.tup (yg xs lo hi)))
theorem Az:SlR X (D0 X.K):=by
 intro pins s σ H x v vl vu lo hi sl Q I rx hs pl pu h;obtain⟨a,xs,rfl,hx,hw,q⟩:=h;cases rx;obtain⟨its,r,ht,hz⟩:=I.tuple hx;have hlen:its.toArray.size=xs.length:=by rw [size_toArray];exact r.length.symm
 refine⟨"tuple",_,PyProof.Rows.slot_tuple_getitem.lookup,ht.typeIs,?_⟩;refine HT.getItem_tuple_cut ht hs pl pu (by rw [hlen];exact hw) ?_ (by rw [hlen];exact hz);rw [hlen];refine⟨.ref s.heap.objs.size,_,I.laid (t':=s.toks) (o:=.tup (yg xs lo hi)) (fun b ob q=>Heap.get?_push_of_some _ q) (le_refl _) ?_,rfl,q _ (I.hok.fresh (le_refl _))⟩;exact⟨le_trans (kj xs lo hi) hz,_,(r.drop (HT.sIx xs.length 0 lo)).take (HT.sIx xs.length xs.length hi - HT.sIx xs.length 0 lo),IsTup.new _ _⟩
def AA(K:PySem.W.Frag):R2:=fun x y H Q=>∃a b xs ys,x=.ref a/\y=.ref b/\SqT K H a xs/\SqT K H b ys/\xs≠[]/\xs.length+ys.length<=sizeLine /\
 (ys=[]->Q (.ref a) H)/\(ys≠[]->∀p,H p=none->Q (.ref p) (upd H p (.tup (xs++ys))))
theorem bZ.nil_iff{xs:List V}{us:List Value}(r:bZ xs us):us=[] ↔ xs=[]:=by
 cases r with
 | nil=>simp
 | cons _ _=>simp
theorem yh:OpR X (binaryOp .Add) (AA X.K):=by
 intro pins s σ H x y v u Q I rx ry h;obtain⟨a,b,xs,ys,rfl,rfl,ha,hb,hx,hz,q1,q2⟩:=h;cases rx;cases ry;obtain⟨its,r1,p1,_⟩:=I.tuple ha;obtain⟨its2,r2,p2,_⟩:=I.tuple hb;refine HT.cat_tup p1 p2 (fun z=>hx (r1.nil_iff.mp z)) (fun z=>⟨.ref a,H,I,rfl,q1 (r2.nil_iff.mp z)⟩) (fun z=>?_) (by rw [<- r1.length,<- r2.length];exact hz);refine⟨.ref s.heap.objs.size,_,I.laid (t':=s.toks) (o:=.tup (xs++ys)) (fun b ob q=>Heap.get?_push_of_some _ q) (le_refl _) ?_,rfl,q2 (fun w=>z (r2.nil_iff.mpr w)) _ (I.hok.fresh (le_refl _))⟩
 exact⟨by rw [length_append];exact hz,_,r1.append r2,IsTup.new _ _⟩
end
def ixN(n:Nat)(i:Int):Option Nat:=if 0<=i then (if i<n then some i.toNat else none) else if -(n:Int)<=i then some (i+n).toNat else none
def atI{α:Type}(xs:List α)(i:Int):Option α:=(ixN xs.length i).bind fun j=>xs[j]?
theorem tL{n:Nat}{i:Int}{j:Nat}(h:ixN n i=some j):seqIndex? i n=some j/\j<n/\-(n:Int)<=i/\i<n:=by
 unfold ixN at h
 by_cases h0:0<=i
 .rw [if_pos h0] at h
  by_cases h1:i<n
  .rw [if_pos h1] at h;have e:i.toNat=j:=Option.some.inj h;exact⟨by rw [seqIndex_of h0 h1,e],by omega,by omega,h1⟩
  .rw [if_neg h1] at h;cases h
 .rw [if_neg h0] at h
  by_cases h1:-(n:Int)<=i
  .rw [if_pos h1] at h;have e:(i+n).toNat=j:=Option.some.inj h;exact⟨by rw [seqIndex_neg (by omega) h1,e],by omega,h1,by omega⟩
  .rw [if_neg h1] at h;cases h
theorem pU{α:Type}{xs:List α}{i:Int}{v:α}(h:atI xs i=some v):∃j,seqIndex? i xs.length=some j/\xs[j]?=some v/\j<xs.length/\-(xs.length:Int)<=i/\i<xs.length:=by
 unfold atI at h
 cases e:ixN xs.length i with
 | none=>rw [e] at h;cases h
 | some j =>
  rw [e] at h;obtain⟨h1,h2,h3,h4⟩:=tL e;exact⟨j,h1,h,h2,h3,h4⟩
theorem yi{α:Type}{xs:List α}{j:Nat}{v:α}(h:xs[j]?=some v):atI xs (j:Int)=some v:=by
 have hj:j<xs.length:=(List.getElem?_eq_some_iff.mp h).1
 have e:ixN xs.length (j:Int)=some j:=by
  unfold ixN;rw [if_pos (by omega),if_pos (by omega)];simp
 unfold atI;rw [e];exact h
def yj(b:Expr):Prop:=∀o i,subscripted b false o i=operate [o,i] (getItem o i)
def IxR(X:Cx)(r:R2):Prop :=
 ∀(value slice:Expr) (pins:List (Addr×Obj)) (s:Shared) (σ:St) (H:Hp) (x y:V) (v u:Value) (Q:VK),Inv X pins σ H s->dn x v->dn y u->r x y H Q ->
  subscripted slice false v u=operate [v,u] (getItem v u)->wpAny (model X.prog X.w) X.A (subscriptTail value slice v u) (EP X pins σ Q) X.xe s
def MtR(X:Cx)(id:String)(r:V->List V->Hp->VK->Prop):Prop :=
 ∀(pins:List (Addr×Obj)) (s:Shared) (σ:St) (H:Hp) (x:V) (xs:List V) (v:Value) (us:List Value) (Q:VK),Inv X pins σ H s->dn x v->bZ xs us->r x xs H Q ->
  wpAny (model X.prog X.w) X.A (call (.builtin id) (v::us)) (EP X pins σ Q) X.xe s
section
variable {X:Cx}{a b:Expr}{ta tb:TE}{pos:Pos}
theorem IxR.or{r r':R2}(h:IxR X r)(h':IxR X r'):IxR X (fun x y H Q=>r x y H Q\/r' x y H Q):=by
 intro value slice pins s σ H x y v u Q I rx ry q hs
 rcases q with q|q
 .exact h value slice pins s σ H x y v u Q I rx ry q hs
 .exact h' value slice pins s σ H x y v u Q I rx ry q hs
theorem df{r:R2}(hr:IxR X r)(ha:PE X a ta)(hb:PE X b tb)(hs:yj b):PE X (.Subscript a b pos) (tOp r ta tb):=by
 intro pins s σ H Q I h;exact Subscript_ (CB ha hb I h fun v u s2 x y H2 I2 rx ry q=>hr a b pins s2 σ H2 x y v u Q I2 rx ry q (hs _ _))
def D1(K:PySem.W.Frag):R2:=fun x y H Q=>∃p xs i v,x=.ref p/\y=.int i/\SqL K H p xs/\atI xs i=some v/\Q v H
def D2(K:PySem.W.Frag):R2:=fun x y H Q=>∃p xs i v,x=.ref p/\y=.int i/\SqT K H p xs/\atI xs i=some v/\Q v H
def Eu:R2:=fun x y H Q=>∃z i c,x=.str z/\y=.int i/\z.length<=sizeLine/\atI z.cps.toList i=some c/\Q (.str ⟨#[c]⟩) H
theorem yk:IxR X (D1 X.K):=by
 intro value slice pins s σ H x y v u Q I rx ry h hs;obtain⟨p,xs,i,z,rfl,rfl,hq,he,q⟩:=h;cases rx;obtain⟨t,rfl⟩:=ry;obtain⟨its,r,pl,hz⟩:=I.list hq;obtain⟨j,h1,h2,h3,h4,h5⟩:=pU he;obtain⟨w,ew,rw'⟩:=r.get h2;have hl:=r.length;have hn:=lX;have fin:EP X pins σ Q w s:=⟨z,H,I,rw',q⟩
 by_cases h0:0<=i
 .have hj:i.toNat=j:=by
   rw [seqIndex_of h0 h5] at h1;exact Option.some.inj h1
  exact item_listR pl.isList h0 (by omega) (by rw [hj];simpa using ew) fin hs
 .have hj:(i+(its.toArray.size:Int)).toNat=j:=by
   rw [seqIndex_neg (by omega) h4] at h1;rw [size_toArray,<- hl];exact Option.some.inj h1
  exact subscriptTail_builtinR (x:=w) pl.isList.typeIs slot_list_getitem.lookup
   (wpAny_getItem_list_neg (Q:=fun r s'=>r=w/\EP X pins σ Q r s') pl.isList (by omega) (by rw [size_toArray] <;> omega) (by omega) (by rw [hj];simpa using ew) ⟨rfl,fin⟩) hs
theorem AB:IxR X (D2 X.K):=by
 intro value slice pins s σ H x y v u Q I rx ry h hs;obtain⟨p,xs,i,z,rfl,rfl,hq,he,q⟩:=h;cases rx;obtain⟨t,rfl⟩:=ry;obtain⟨its,r,pl,hz⟩:=I.tuple hq;obtain⟨j,h1,h2,h3,h4,h5⟩:=pU he;obtain⟨w,ew,rw'⟩:=r.get h2;have hl:=r.length;have hn:=lX;have fin:EP X pins σ Q w s:=⟨z,H,I,rw',q⟩
 exact subscriptTail_builtinR (x:=w) pl.typeIs slot_tuple_getitem.lookup
  (getItem_tuple (j:=j) (Q:=fun r s'=>r=w/\EP X pins σ Q r s') pl (by omega) (by omega) (by rw [size_toArray,<- hl];exact h1) (by simpa using ew) ⟨rfl,fin⟩) hs
theorem AC:IxR X Eu:=by
 intro value slice pins s σ H x y v u Q I rx ry h hs;obtain⟨z,i,c,rfl,rfl,hz,he,q⟩:=h;obtain⟨t,rfl⟩:=rx;obtain⟨t',rfl⟩:=ry;obtain⟨j,h1,h2,h3,h4,h5⟩:=pU he;have hl:z.cps.toList.length=z.length:=by simp [Str.length]
 rw [hl] at h1 h4 h5;have hn:=lX
 exact tail_any (typeIs_str s z t) slot_str_getitem.lookup (getItem_str (c:=c) (by
  have e1:decide (i < -(2^63:Int))=false:=decide_eq_false (by omega);have e2:decide (i >= 2^63)=false:=decide_eq_false (by omega);rw [e1,e2,Bool.or_false]) (by rw [h1];simpa using h2) ⟨.str ⟨#[c]⟩,H,I.tok _,⟨_,rfl⟩,q⟩) hs
theorem rW(its:List Value)(n j:Nat)(u:Value):Obj.mapSeq (·.setIfInBounds j u) { cls:=.type "list",data:=.seq its.toArray n }={ cls:=.type "list",data:=.seq (its.set j u).toArray n }:=by
 simp [Obj.mapSeq]
theorem Inv.lst{pins:List (Addr×Obj)}{σ:St}{H:Hp}{s:Shared}{p:Addr}{xs:List V}(I:Inv X pins σ H s)(h:H p=some (.lst xs)) :
  ∃(its:List Value) (n:Nat),bZ xs its/\s.heap.get? p=some { cls:=.type "list",data:=.seq its.toArray n }/\xs.length<=sizeLine:=by
 obtain⟨z,its,n,r,e⟩:=I.hok p _ h;exact⟨its,n,r,e,z⟩
theorem Inv.lstUpd{pins:List (Addr×Obj)}{σ:St}{H:Hp}{s:Shared}{p:Addr}{xs ys:List V}{its its':List Value}{n n':Nat}{f:Obj->Obj}(I:Inv X pins σ H s)(h:H p=some (.lst xs))
  (ho:s.heap.get? p=some { cls:=.type "list",data:=.seq its.toArray n }) (hf:f { cls:=.type "list",data:=.seq its.toArray n }={ cls:=.type "list",data:=.seq its'.toArray n' }) (r:bZ ys its') (hz:ys.length<=sizeLine) (t:Nat) :
  Inv X pins σ (upd H p (.lst ys)) { s with heap:=s.heap.update p f,toks:=t }:=by
 have e:(s.heap.update p f).get? p=some { cls:=.type "list",data:=.seq its'.toArray n' }:=by
  rw [Heap.get?_update_self f ho (by rw [hf] <;> rfl),hf]
 refine I.write (x:=p) (e:=p) (by rw [h];trivial) (.inl rfl) (fun b u hb q=>(Heap.get?_update_other _ _ (Ne.symm hb)).trans q) ⟨_,e⟩ ?_;exact⟨hz,its',n',r,e⟩
def AD:V->V->V->Hp->(Hp->Prop)->Prop:=fun o i v H Q=>∃p xs k j,o=.ref p/\i=.int k/\H p=some (.lst xs)/\ixN xs.length k=some j/\Q (upd H p (.lst (xs.set j v)))
theorem mK:DS X AD:=by
 intro pins s σ H o i v ov iv u Q I ro ri rv h;obtain⟨p,xs,k,j,rfl,rfl,hp,hj,q⟩:=h;cases ro;obtain⟨t,rfl⟩:=ri;obtain⟨its,n,r,ho,hz⟩:=I.lst hp;obtain⟨h1,h2,h3,h4⟩:=tL hj;have hl:=r.length;have hn:=lX
 have I':Inv X pins σ (upd H p (.lst (xs.set j v))) { s with heap:=s.heap.update p (Obj.mapSeq (·.setIfInBounds j u)) } :=
  I.lstUpd hp ho (rW its n j u) (r.set rv j) (by rw [length_set];exact hz) s.toks
 by_cases h0:0<=k
 .have hk:k.toNat=j:=by
   rw [seqIndex_of h0 h4] at h1;exact Option.some.inj h1
  exact PySem.W.ki_setAt ho h0 (by omega) (by rw [size_toArray,<- hl];exact h4) (by rw [hk];exact⟨_,I',q⟩)
 .have hk:(k+(its.toArray.size:Int)).toNat=j:=by
   rw [seqIndex_neg (by omega) h3] at h1;rw [size_toArray,<- hl];exact Option.some.inj h1
  exact PySem.W.ki_setBack ho (by omega) (by rw [size_toArray,<- hl];exact h3) (by omega) (by rw [hk];exact⟨_,I',q⟩)
theorem oa(lo hi:Option Int)(n:Nat):(sliceBounds lo hi none n).1=((HT.sIx n 0 lo:Nat):Int)/\(sliceBounds lo hi none n).2.1=((HT.sIx n n hi:Nat):Int)/\(sliceBounds lo hi none n).2.2=1:=by
 refine⟨?_,?_,rfl⟩
 .cases lo with
  | none=>simp [sliceBounds,HT.sIx]
  | some i =>
   simp only [sliceBounds,HT.sIx,Option.getD_none,show (1:Int) > 0 by decide,if_true]
   by_cases h:i<0
   .simp only [h,if_true] <;> omega
   .simp only [h,if_false] <;> omega
 .cases hi with
  | none=>simp [sliceBounds,HT.sIx]
  | some i =>
   simp only [sliceBounds,HT.sIx,Option.getD_none,show (1:Int) > 0 by decide,if_true]
   by_cases h:i<0
   .simp only [h,if_true] <;> omega
   .simp only [h,if_false] <;> omega
theorem mL(its:List Value)(lo hi:Option Int):slicePick its.toArray lo hi none=((its.drop (HT.sIx its.length 0 lo)).take (HT.sIx its.length its.length hi - HT.sIx its.length 0 lo)).toArray:=by
 obtain⟨h1,h2,h3⟩:=oa lo hi its.toArray.size;unfold slicePick;rw [h1,h2,h3];simp only [sliceRange_one,pick_run,size_toArray] <;> rfl
def D3(K:PySem.W.Frag):V->Option Int->Option Int->Hp->VK->Prop:=fun x lo hi H Q=>∃a xs,x=.ref a/\SqL K H a xs/\∀p,H p=none->Q (.ref p) (upd H p (.lst (yg xs lo hi)))
theorem yl:SlR X (D3 X.K):=by
 intro pins s σ H x v vl vu lo hi sl Q I rx hs pl pu h;obtain⟨a,xs,rfl,hx,q⟩:=h;cases rx;obtain⟨its,r,ht,hz⟩:=I.list hx;have hlen:=r.length;refine⟨"list",_,slot_list_getitem.lookup,ht.isList.typeIs,?_⟩;refine wpAny_getItem_list_slice ht.isList hs pl pu .none (by simp) ?_ (by rw [size_toArray] <;> omega);rw [mL,<- hlen];refine⟨.ref s.heap.objs.size,_,I.laid (t':=s.toks) (o:=.lst (yg xs lo hi)) (fun b ob q=>Heap.get?_push_of_some _ q) (le_refl _) ?_,rfl,q _ (I.hok.fresh (le_refl _))⟩
 exact⟨le_trans (kj xs lo hi) hz,_,0,(r.drop (HT.sIx xs.length 0 lo)).take (HT.sIx xs.length xs.length hi - HT.sIx xs.length 0 lo),Heap.get?_push_size _ rfl⟩
def lC:V->Bool
 | .non=>true
 | .bl _=>true
 | .int _=>true
 | .str _=>true
 | _=>false
def eqV:V->V->Bool
 | .non,.non=>true
 | .bl a,.bl b=>a == b
 | .bl a,.int b=>(if a then 1 else 0) == b
 | .int a,.bl b=>a == (if b then 1 else 0)
 | .int a,.int b=>a == b
 | .str a,.str b=>a == b
 | _,_=>false
theorem AE{A:Around}{s:Shared}{y x:V}{u v:Value}(ry:dn y u)(rx:dn x v)(fy:lC y=true)(fx:lC x=true):SeqAt.EqAt A s u v (eqV y x):=by
 cases y with
 | non =>
  cases ry
  cases x with
  | non=>cases rx;exact SeqAt.EqAt.same _
  | bl b=>cases rx;exact SeqAt.EqAt.none_bool b
  | int b=>obtain⟨t,rfl⟩:=rx;exact SeqAt.EqAt.none_int b t
  | str b=>obtain⟨t,rfl⟩:=rx;exact SeqAt.EqAt.none_str b t
  | _=>exact absurd (show false=true from fx) Bool.false_ne_true
 | bl a =>
  cases ry
  cases x with
  | non=>cases rx;exact SeqAt.EqAt.bool_none a
  | bl b=>cases rx;exact SeqAt.EqAt.bool_bool a b
  | int b=>obtain⟨t,rfl⟩:=rx;exact SeqAt.EqAt.bool_int a b t
  | str b=>obtain⟨t,rfl⟩:=rx;exact SeqAt.EqAt.bool_str a b t
  | _=>exact absurd (show false=true from fx) Bool.false_ne_true
 | int a =>
  obtain⟨t',rfl⟩:=ry
  cases x with
  | non=>cases rx;exact SeqAt.EqAt.int_none a t'
  | bl b=>cases rx;exact SeqAt.EqAt.int_bool a t' b
  | int b=>obtain⟨t,rfl⟩:=rx;exact SeqAt.EqAt.int_int a t' b t
  | str b=>obtain⟨t,rfl⟩:=rx;exact SeqAt.EqAt.int_str a t' b t
  | _=>exact absurd (show false=true from fx) Bool.false_ne_true
 | str a =>
  obtain⟨t',rfl⟩:=ry
  cases x with
  | non=>cases rx;exact SeqAt.EqAt.str_none a t'
  | bl b=>cases rx;exact SeqAt.EqAt.str_bool a t' b
  | int b=>obtain⟨t,rfl⟩:=rx;exact SeqAt.EqAt.str_int a t' b t
  | str b=>obtain⟨t,rfl⟩:=rx;exact SeqAt.EqAt.str_str a t' b t
  | _=>exact absurd (show false=true from fx) Bool.false_ne_true
 | _=>exact absurd (show false=true from fy) Bool.false_ne_true
def eqU(x:V)(u:Value):Bool:=match u with
 | .none=>eqV .non x
 | .bool b=>eqV (.bl b) x
 | .int i _=>eqV (.int i) x
 | .str z _=>eqV (.str z) x
 | _=>false
theorem xu{x y:V}{u:Value}(r:dn y u)(f:lC y=true):eqU x u=eqV y x:=by
 cases y with
 | non=>cases r;rfl
 | bl b=>cases r;rfl
 | int i=>obtain⟨t,rfl⟩:=r;rfl
 | str z=>obtain⟨t,rfl⟩:=r;rfl
 | _=>exact absurd (show false=true from f) Bool.false_ne_true
theorem kl{x:V}:∀{xs:List V}{us:List Value},bZ xs us->xs.all lC=true->us.any (eqU x)=xs.any fun y=>eqV y x
 | _,_,.nil,_=>rfl
 | y::xs,u::us,.cons r t,f=>by
  rw [all_cons,and_eq_true] at f;rw [any_cons,any_cons,xu r f.1,kl t f.2]
theorem iK{A:Around}{s:Shared}{x:V}{v:Value}(rx:dn x v)(fx:lC x=true):∀{xs:List V}{us:List Value},bZ xs us->xs.all lC=true->∀u∈us,SeqAt.EqAt A s u v (eqU x u)
 | _,_,.nil,_=>fun u hu=>by cases hu
 | y::xs,u::us,.cons r t,f=>fun u' hu=>by
  rw [all_cons,and_eq_true] at f
  rcases mem_cons.mp hu with rfl|hu
  .rw [xu r f.1];exact AE r rx f.1 fx
  .exact iK rx fx t f.2 u' hu
def inV(x:V)(xs:List V):Bool:=xs.any fun y=>eqV y x
def rIn(K:PySem.W.Frag)(neg:Bool):R2:=fun x y H Q=>∃p xs,y=.ref p/\(SqL K H p xs\/SqT K H p xs)/\lC x=true/\xs.all lC=true/\Q (.bl (if neg then !inV x xs else inV x xs)) H
theorem tM:OpR X (compareOp .In) (rIn X.K false):=by
 intro pins s σ H x y v u Q I rx ry h;obtain⟨p,xs,rfl,hq,fx,fs,q⟩:=h;cases ry
 rcases hq with hq|hq
 .obtain⟨its,r,pl,hz⟩:=I.list hq;refine SeqAt.in_listAt (eqU x) pl.isList (fun w hw=>iK rx fx r fs w (by simpa using hw)) ⟨.bl _,H,I,rfl,?_⟩;rw [show its.toArray.any (eqU x)=its.any (eqU x) by simp,kl r fs];exact q
 .obtain⟨its,r,pl,hz⟩:=I.tuple hq;refine SeqAt.in_tupleAt (eqU x) pl (fun w hw=>iK rx fx r fs w (by simpa using hw)) ⟨.bl _,H,I,rfl,?_⟩;rw [show its.toArray.any (eqU x)=its.any (eqU x) by simp,kl r fs];exact q
theorem og:OpR X (compareOp .NotIn) (rIn X.K true):=by
 intro pins s σ H x y v u Q I rx ry h;obtain⟨p,xs,rfl,hq,fx,fs,q⟩:=h;cases ry
 rcases hq with hq|hq
 .obtain⟨its,r,pl,hz⟩:=I.list hq;refine SeqAt.notIn_listAt (eqU x) pl.isList (fun w hw=>iK rx fx r fs w (by simpa using hw)) ⟨.bl _,H,I,rfl,?_⟩;rw [show its.toArray.any (eqU x)=its.any (eqU x) by simp,kl r fs];exact q
 .obtain⟨its,r,pl,hz⟩:=I.tuple hq;refine SeqAt.notIn_tupleAt (eqU x) pl (fun w hw=>iK rx fx r fs w (by simpa using hw)) ⟨.bl _,H,I,rfl,?_⟩;rw [show its.toArray.any (eqU x)=its.any (eqU x) by simp,kl r fs];exact q
theorem jI:bJ X (.builtin "len") (fun xs H Q=>∃p ys,xs=[.ref p]/\(SqL X.K H p ys\/SqT X.K H p ys)/\Q (.int ys.length) H):=by
 intro pins s σ H xs us Q I r h;obtain⟨p,ys,rfl,hq,q⟩:=h;obtain⟨u,rfl,rx⟩:=gJ r;cases rx;have hn:=lX
 rcases hq with hq|hq
 .obtain⟨its,r',pl,hz⟩:=I.list hq;have hlen:=r'.length;exact Calls.call_len_list pl.isList (by simp only [size_toArray] <;> omega) ⟨.int ys.length,H,I.tok _,⟨s.toks+1,by rw [size_toArray,hlen]⟩,q⟩
 .obtain⟨its,r',pl,hz⟩:=I.tuple hq;have hlen:=r'.length;exact len_tuple pl (by simp only [size_toArray] <;> omega) ⟨.int ys.length,H,I.tok _,⟨s.toks+1,by rw [size_toArray,hlen]⟩,q⟩
theorem oh:bJ X (.builtin "len") (fun xs H Q=>∃z,xs=[.str z]/\z.length<=sizeLine/\Q (.int z.length) H):=by
 intro pins s σ H xs us Q I r h;obtain⟨z,rfl,hz,q⟩:=h;obtain⟨u,rfl,t,rfl⟩:=gJ r;have hn:=lX;exact len_str (by omega) ⟨.int z.length,H,I.tok _,⟨_,rfl⟩,q⟩
theorem bJ.or{f:Value}{r r':List V->Hp->VK->Prop}(h:bJ X f r)(h':bJ X f r'):bJ X f (fun xs H Q=>r xs H Q\/r' xs H Q):=by
 intro pins s σ H xs us Q I rs q
 rcases q with q|q
 .exact h pins s σ H xs us Q I rs q
 .exact h' pins s σ H xs us Q I rs q
theorem oi:bJ X (.type "list") (fun xs H Q=>∃p ys,xs=[.ref p]/\(SqL X.K H p ys\/SqT X.K H p ys)/\∀l,H l=none->Q (.ref l) (upd H l (.lst ys))):=by
 intro pins s σ H xs us Q I r h;obtain⟨p,ys,rfl,hq,q⟩:=h;obtain⟨u,rfl,rx⟩:=gJ r;cases rx
 have fin:∀(its:List Value),bZ ys its->ys.length<=sizeLine->∀(h':Heap) (c':Nat),(∀b o',s.heap.get? b=some o'->h'.get? b=some o') ->
   h'.get? s.heap.objs.size=some { cls:=.type "list",dict:=none,data:=.seq its.toArray c',slots:=#[] }->EP X pins σ Q (.ref s.heap.objs.size) { s with heap:=h' }:=fun its r' hz h' c' kp e =>
  ⟨.ref s.heap.objs.size,_,I.laid (t':=s.toks) kp (le_refl _) (show bK X.prog X.w _ h' _ (.lst ys) from ⟨hz,its,c',r',e⟩),rfl,q _ (I.hok.fresh (le_refl _))⟩
 rcases hq with hq|hq
 .obtain⟨its,r',pl,hz⟩:=I.list hq;have hlen:=r'.length;obtain⟨o,ho,hc,n,hd⟩:=pl.isList;exact call_list_seq p (.inl rfl) ho hc hd (fun h' c' kp e=>fin its r' hz h' c' kp e) (by simp only [size_toArray] <;> omega)
 .obtain⟨its,r',pl,hz⟩:=I.tuple hq;have hlen:=r'.length;obtain⟨o,ho,hc,n,hd⟩:=pl;exact call_list_seq p (.inr rfl) ho hc hd (fun h' c' kp e=>fin its r' hz h' c' kp e) (by simp only [size_toArray] <;> omega)
theorem mM:bJ X (.type "tuple") (fun xs H Q=>∃p ys,xs=[.ref p]/\((SqL X.K H p ys/\∀l,H l=none->Q (.ref l) (upd H l (.tup ys)))\/(SqT X.K H p ys/\Q (.ref p) H))):=by
 intro pins s σ H xs us Q I r h;obtain⟨p,ys,rfl,h⟩:=h;obtain⟨u,rfl,rx⟩:=gJ r;cases rx
 rcases h with ⟨hq,q⟩|⟨hq,q⟩
 .obtain⟨its,r',pl,hz⟩:=I.list hq;have hlen:=r'.length;refine call_tuple_list pl.isList (fun h' kp=>?_) (by simp only [size_toArray] <;> omega);have I1:Inv X pins σ H { s with heap:=h' }:=I.kept (t':=s.toks) kp
  have I2:Inv X pins σ (upd H h'.objs.size (.tup ys)) { s with heap:=h'.push { cls:=.type "tuple",data:=.seq its.toArray } } :=
   I1.laid (t':=s.toks) (fun b o e=>Heap.get?_push_of_some _ e) (le_refl _) (show bK X.prog X.w _ _ _ (.tup ys) from ⟨hz,its,r',IsTup.new _ _⟩)
  exact⟨.ref h'.objs.size,_,I2,rfl,q _ (I1.hok.fresh (le_refl _))⟩
 .obtain⟨its,r',pl,hz⟩:=I.tuple hq;exact call_tuple_same pl ⟨.ref p,H,I,rfl,q⟩
def tyV(K:PySem.W.Frag)(T:String)(x:V)(H:Hp):Prop:=match x with
 | .str _=>T="str"
 | .int _=>T="int"
 | .ref p=>(T="list"/\∃xs,SqL K H p xs)\/(T="tuple"/\∃o,K.lookup p=some o/\o.cls=.type "tuple"/\o.dict=none) \/
   (T="dict"/\((∃kvs,H p=some (.dK kvs))\/∃kvs,H p=some (.dT kvs)))\/(T="set"/\∃S n,H p=some (.set S n))
 | _=>False
theorem AF{pins:List (Addr×Obj)}{σ:St}{H:Hp}{s:Shared}{T:String}{x:V}{v:Value}(I:Inv X pins σ H s)(r:dn x v)(ty:tyV X.K T x H) :
  s.TypeIs v T/\∀a,v=.ref a->∃ob,s.heap.get? a=some ob/\ob.dict=none:=by
 cases x with
 | str z =>
  obtain⟨t,rfl⟩:=r;cases (show T="str" from ty);exact⟨typeIs_str s z t,fun _ e=>nomatch e⟩
 | int i =>
  obtain⟨t,rfl⟩:=r;cases (show T="int" from ty);exact⟨typeIs_int s i t,fun _ e=>nomatch e⟩
 | ref p =>
  cases r
  rcases ty with ⟨rfl,xs,hq⟩|⟨rfl,o,hk,hc,hd⟩|⟨rfl,hk⟩|⟨rfl,S,n,hk⟩
  .obtain⟨its,_,pl,_⟩:=I.list hq;refine⟨pl.isList.typeIs,fun a e=>?_⟩;cases e;obtain⟨o,n,e,c,hd,_⟩:=pl;exact⟨o,e,hd⟩
  .refine⟨⟨o,I.kIn p o hk,hc⟩,fun a e=>?_⟩;cases e;exact⟨o,I.kIn _ o hk,hd⟩
  .have z:∃o,s.heap.get? p=some o/\o.ExactDict:=by
    rcases hk with ⟨kvs,hk⟩|⟨kvs,hk⟩
    .obtain⟨_,_,_,_,o,_,_,e,ex,_⟩:=I.hok p _ hk;exact⟨o,e,ex⟩
    .obtain⟨_,_,_,_,o,_,_,e,ex,_⟩:=I.hok p _ hk;exact⟨o,e,ex⟩
   obtain⟨o,e,ex⟩:=z;refine⟨⟨o,e,ex.1⟩,fun a e2=>?_⟩;cases e2;exact⟨o,e,ex.2.1⟩
  .obtain⟨o,_,_,_,e,ex,_⟩:=I.hok p _ hk;refine⟨⟨o,e,ex.1⟩,fun a e2=>?_⟩;cases e2;exact⟨o,e,ex.2.1⟩
 | _=>exact False.elim ty
def tBM(K:PySem.W.Frag)(T:String)(r:V->List V->Hp->VK->Prop)(to:TE)(t:TA):TE:=fun σ H Q=>to σ H fun x H1=>tyV K T x H1/\t σ H1 fun xs H2=>r x xs H2 Q
variable {o e:Expr}{es:List Expr}{to:TE}{t:TA}{name:Str}{apos cpos:Pos}{T id:String}{r:V->List V->Hp->VK->Prop}
theorem CL(pa:PlainAttrs T)(slot:Slot T name id)(hty:typeOf (.builtin id)=pure (.type "method_descriptor"))(hm:MtR X id r)(ho:PE X o to)(ha:PA X (e::es) t)
  (hbase:attributeBase o name X.env (eval o X.env)=eval o X.env:=by rfl)
  (hfew:((backTo cpos (starEach (e::es) X.env)).all (fun x=>!x.1) && (backToKw cpos (keywordEach [] X.env)).all (fun x=>x.1.isSome)
   && decide ((e::es).length+([]:List Keyword).length+(if ([]:List Keyword).isEmpty then 0 else 1)<30))=true:=by rfl)
  (hline:(apos.endLine == cpos.line)=true:=by rfl) (hs:starEach (e::es) X.env=(false,eval e X.env)::starEach es X.env:=by rfl) (hplain:(backTo cpos (starEach es X.env)).any (·.1)=false:=by rfl) :
  PE X (.Call (.Attribute o name apos) (e::es) [] cpos) (tBM X.K T r to t):=by
 intro pins s σ H Q I h;refine wpAny_Call_method_late hbase hfew hline rfl (thn (ho pins s σ H _ I h) fun v s1 ⟨x,H1,I1,r1,ty,q1⟩=>?_);obtain⟨h1,h2⟩:=AF I1 r1 ty;refine⟨T,id,pa,slot,hty,h1,h2,?_⟩;have hA:=ha cpos pins s1 σ H1 _ I1 q1;rw [hs] at hA ⊢;refine Calls.callWith_builtin (by show (false || (backTo cpos (starEach es X.env)).any (·.1))=false;rw [hplain] <;> rfl) (Calls.evalArgs_plain ?_);exact thn hA fun us s2 ⟨vs,H2,I2,r2,q2⟩=>hm pins s2 σ H2 x vs v us Q I2 r1 r2 q2
end
def MtM(X:Cx)(id:String)(r:V->List V->Hp->VK->Prop):Prop :=
 ∀(pins:List (Addr×Obj)) (s:Shared) (σ:St) (H:Hp) (x:V) (xs:List V) (v:Value) (us:List Value) (Q:VK),Inv X pins σ H s->dn x v->bZ xs us->r x xs H Q ->
  wpAny (model X.prog X.w) X.A (call (.builtin id) (v::us)) (EP X pins σ Q) X.xe s
theorem bZ.one:∀{x:V}{us:List Value},bZ [x] us->∃u,us=[u]/\dn x u
 | _,_,.cons r .nil=>⟨_,rfl,r⟩
theorem bZ.reverse{xs:List V}{us:List Value}(h:bZ xs us):bZ xs.reverse us.reverse:=by
 induction h with
 | nil=>exact .nil
 | cons r t ih=>rw [reverse_cons,reverse_cons];exact bZ.append ih (.cons r .nil)
theorem bZ.rep{xs:List V}{us:List Value}(h:bZ xs us):∀k:Nat,bZ (List.replicate k xs).flatten (List.replicate k us).flatten
 | 0=>.nil
 | k+1=>by
  rw [replicate_succ,replicate_succ,flatten_cons,flatten_cons];exact bZ.append h (bZ.rep h k)
theorem oj(its:List Value):∀(k:Nat) (acc:List Value),
  List.foldl (fun x1 x2=>x1++x2) acc.toArray (List.replicate k its.toArray)=(acc++(List.replicate k its).flatten).toArray
 | 0,acc=>by simp
 | k+1,acc=>by
  have e:acc.toArray++its.toArray=(acc++its).toArray:=by simp
  have e2:(acc++its)++(List.replicate k its).flatten=acc++(List.replicate (k+1) its).flatten:=by
   rw [replicate_succ,flatten_cons,append_assoc]
  rw [<- e2,<- oj its k (acc++its),<- e,replicate_succ,foldl_cons]
section
variable {X:Cx}{pins:List (Addr×Obj)}{σ:St}{H:Hp}{s:Shared}{l b:Addr}{xs ys zs:List V}
theorem Inv.lset{its its':List Value}{n:Nat}{f:Array Value->Array Value}{t':Nat}(I:Inv X pins σ H s)(hH:H l=some (.lst xs))
  (e:s.heap.get? l=some { cls:=.type "list",data:=.seq its.toArray n }) (hf:f its.toArray=its'.toArray) (hv:bZ ys its') (hz:ys.length<=sizeLine) :
  Inv X pins σ (upd H l (.lst ys)) { s with heap:=s.heap.update l (Obj.mapSeq f),toks:=t' }:=by
 have q:=PySem.IsL.update e f;rw [hf] at q;refine I.write (x:=l) (e:=l) (by rw [hH];exact trivial) (.inl rfl) (fun b' u hb hu=>(Heap.get?_update_other s.heap (Obj.mapSeq f) (Ne.symm hb)).trans hu) ⟨_,q⟩ ?_;exact⟨hz,its',_,hv,q⟩
theorem Inv.lnew{its:List Value}{t':Nat}(I:Inv X pins σ H s)(hv:bZ ys its)(hz:ys.length<=sizeLine) :
  Inv X pins σ (upd H s.heap.objs.size (.lst ys)) { s with heap:=s.heap.push { cls:=.type "list",data:=.seq its.toArray },toks:=t' } :=
 I.laid (fun _ _ q=>Heap.get?_push_of_some _ q) (le_refl _) ⟨hz,its,0,hv,Heap.get?_push_size _ rfl⟩
theorem Inv.fresh(I:Inv X pins σ H s):H s.heap.objs.size=none:=I.hok.fresh (le_refl _)
theorem Inv.lstM(I:Inv X pins σ H s)(hH:H l=some (.lst xs)):xs.length<=sizeLine/\∃(its:List Value) (n:Nat),bZ xs its/\xs.length=its.length/\s.heap.get? l=some { cls:=.type "list",data:=.seq its.toArray n }:=by
 obtain⟨z,its,n,r,e⟩:=I.hok l _ hH;exact⟨z,its,n,r,r.length,e⟩
theorem qS{n:Nat}(h:n<=sizeLine):Builtin.List.listTooLong n=false:=by
 unfold Builtin.List.listTooLong;exact decide_eq_false (by omega)
end
section
variable {X:Cx}
def tN:V->List V->Hp->VK->Prop:=fun x vs H Q=>∃l xs y,x=.ref l/\vs=[y]/\H l=some (.lst xs)/\xs.length<sizeLine/\Q .non (upd H l (.lst (xs++[y])))
theorem fj:MtM X "list.append" tN:=by
 intro pins s σ H x vs v us Q I rx rv h;obtain⟨l,xs,y,rfl,rfl,hH,hz,q⟩:=h;cases rx;obtain⟨u,rfl,ru⟩:=rv.one;obtain⟨z,its,n,r,hl,e⟩:=I.lstM hH;refine call_meets F.slot_list_append ⟨_,e,rfl⟩ F.entry_list_append (F.args_list_append_2 _ _) (PySem.list_append l its.toArray n u (by rw [size_toArray];omega)) ⟨e,?_⟩;refine⟨.non,_,I.lset (its':=its++[u]) hH e (by simp) (r.append (.cons ru .nil)) ?_,rfl,q⟩;rw [length_append,length_singleton]
 omega
def tO:V->List V->Hp->VK->Prop:=fun x vs H Q=>∃l b xs zs,x=.ref l/\vs=[.ref b]/\H l=some (.lst xs)/\H b=some (.lst zs)/\xs.length+zs.length<=sizeLine/\Q .non (upd H l (.lst (xs++zs)))
theorem tP:MtM X "list.extend" tO:=by
 intro pins s σ H x vs v us Q I rx rv h;obtain⟨l,b,xs,zs,rfl,rfl,hH,hB,hz,q⟩:=h;cases rx;obtain⟨u,rfl,ru⟩:=rv.one;cases ru;obtain⟨z,its,n,r,hl,e⟩:=I.lstM hH;obtain⟨z2,its2,n2,r2,hl2,e2⟩:=I.lstM hB;have hsz:its.toArray.size+its2.toArray.size<=sizeLine:=by rw [size_toArray,size_toArray];omega
 have hlong:¬ (!its.toArray.isEmpty && Builtin.List.listTooLong (its.toArray.size+its2.toArray.size))=true:=by
  rw [qS hsz,Bool.and_false];exact Bool.false_ne_true
 refine call_meets F.slot_list_extend ⟨_,e,rfl⟩ F.entry_list_extend (F.args_list_extend_2 _ _)
  (AutoSeq1.list_extend_list_list_0 l its.toArray n b its2.toArray n2 hlong (by rw [size_toArray];omega) (by omega)) ⟨e,e2,?_⟩
 refine⟨.non,_,I.lset (its':=its++its2) hH e (by simp) (r.append r2) ?_,rfl,q⟩;rw [length_append];omega
def D4:R2:=fun x y H Q=>∃l k xs,x=.ref l/\y=.int k/\H l=some (.lst xs)/\-(2^63)<=k/\k<2^63/\xs.length*k.toNat<=sizeLine /\
 ∀p,H p=none->Q (.ref p) (upd H p (.lst (List.replicate k.toNat xs).flatten))
theorem ym{α:Type}(xs:List α)(k:Nat):(List.replicate k xs).flatten.length=k*xs.length:=by
 induction k with
 | zero=>simp
 | succ k ih=>rw [replicate_succ,flatten_cons,length_append,ih,succ_mul,add_comm]
theorem AG:OpR X (binaryOp .Mult) D4:=by
 intro pins s σ H x y v u Q I rx ry h;obtain⟨l,k,xs,rfl,rfl,hH,h1,h2,hz,q⟩:=h;cases rx;obtain⟨t,rfl⟩:=ry;obtain⟨z,its,n,r,hl,e⟩:=I.lstM hH;have hlen:its.toArray.size*k.toNat<=sizeLine:=by rw [size_toArray,<- hl];exact hz
 have hcap:¬ its.toArray.size*k.toNat > (2^63 - 1) / 8:=by
  have:(sizeLine:Nat)<=(2^63 - 1) / 8:=by decide
  omega
 have hfit:¬ (!Builtin.List.listFitsIndex k)=true:=by
  rw [fitsIndex_both h1 h2];exact Bool.false_ne_true
 have hlong:¬ Builtin.List.listTooLong (its.toArray.size*k.toNat)=true:=by
  rw [qS hlen];exact Bool.false_ne_true
 have hnew:List.foldl (fun x1 x2=>x1++x2) #[] (List.replicate (if its.toArray.isEmpty=true then 0 else k.toNat) its.toArray)=(List.replicate k.toNat its).flatten.toArray:=by
  have f0:∀m:Nat,List.foldl (fun x1 x2=>x1++x2) #[] (List.replicate m its.toArray)=(List.replicate m its).flatten.toArray:=fun m=>by
   have:=oj its m [];rw [nil_append] at this;exact this
  rw [f0]
  cases its with
  | nil=>simp
  | cons a r'=>rw [if_neg (by simp)]
 refine wpAny_binaryOp_repeat_ref (T:="list") (U:="int") (by decide) ⟨_,e,rfl⟩ (fun s'=>typeIs_int s' k t) noFill_list_mul F.fills_int_mul F.slot_int_rmul repeat_list F.slot_int_index.lookup
  (call_meets F.slot_int_rmul (typeIs_int s k t) F.entry_int_rmul (F.args_int_rmul_2 _ _) (int___rmul___int_list k t l its.toArray n)
   ⟨e,rfl,⟨_,e,rfl⟩,call_meets F.slot_list_mul ⟨_,e,rfl⟩ F.entry_list_mul (F.args_list_mul_2 _ _) (AutoListH.list___mul___list_int_3 l its.toArray n k t hfit hcap hlong) ⟨e,?_⟩⟩)
 rw [hnew];exact⟨.ref _,_,I.lnew (t':=s.toks) (r.rep k.toNat) (by rw [ym,mul_comm];exact hz),rfl,q _ I.fresh⟩
end
end L2
namespace Att
open PySem PySem.W PySem.Calls PyProof.Rows
theorem km{P:Params}{h:Heap}:∀(ns:List Int) (vs:List Value),WellAll P h vs (ns.map WData.int)->IntsAre vs ns:=by
 intro ns
 induction ns with
 | nil =>
  intro vs w;rw [map_nil] at w;cases w;exact .nil
 | cons n ns ih =>
  intro vs w;rw [map_cons] at w
  cases w with
  | cons a b =>
   cases a;exact .cons _ _ (ih _ b)
theorem tQ{l:OpenLaw}{n:Nat}(hn:l.most=some n){P:Params}{h:Heap}{args:List WData}{vals:List Value}
  (hpre:l.row.toRowW.claim.pre args=true) (hwl:WellAll P h vals args) :
  ∃a vs ns,vals=[Value.ref a]/\args=[WData.list (ns.map WData.int)]/\h.get? a=some { cls:=.type "list",data:=.seq vs.toArray }/\IntsAre vs ns/\ns.length<=n:=by
 have hsh:WShape.hasAll [] args [.list .int]=true:=(pre_splitW hpre).1;have hc:l.pre.holds [] { args:=args }=true:=(pre_splitW hpre).2;obtain⟨d,r,rfl,h1,h2⟩:=hasAllW_cons hsh;obtain rfl:=hasAllW_nil h2;obtain⟨xs,rfl,h3⟩:=hasW_list h1;obtain⟨ns,rfl⟩:=items_int h3
 have hlen:ns.length<=n:=by
  unfold OpenLaw.pre at hc
  have h4:(WTm.not (.lt (.lit (.int (n:Int))) (.len (.arg 0)))).holds [] { args:=[.list (ns.map .int)] }=true:=by
   have h4:=(holds_andW hc).1;rw [hn] at h4;exact h4
  have h5:=condW_of h4 (w_not (w_lt w_lit (w_len_list (w_arg rfl))));rw [length_map] at h5;refine le_of_not_lt fun q=>?_;have q':(n:Int)<((ns.length:Nat):Int):=by omega
  first
   | (rw [decide_eq_true q'] at h5;exact absurd h5 (by decide))
   | (simp at h5;omega)
 cases hwl with
 | cons w1 w2 =>
  cases w2
  cases w1 with
  | list ho hall=>exact⟨_,_,ns,rfl,rfl,ho,km ns _ hall,hlen⟩
theorem tR(l:OpenLaw)(args:List WData):l.row.toRowW.claim.post args (.bool true) args=true :=
 postW_of (r:=l.row.toRowW) (X:=(true == true))
  (show WShape.has [] (.bool true) .bool=true by first|rfl|decide|simp [WShape.has,WShape.arms,WShape.armsAll])
  (show (WTm.eq .res (.lit (.bool true))).value [] { args:=args,res:=some (.bool true),after:=args }=some (.bool (true == true)) from w_eq_bool (w_res rfl) w_lit) rfl
theorem attach_call{l:OpenLaw}{n:Nat}{q:Program}{loose:List Str}{XP:(Str->Option Value)->Heap->Prop}{YP:World->Heap->Prop}{d:DefRec}
  (hn:l.most=some n) (hdf:d.params.defaults=[])
  (call:∀(w:World) (s₀ s₁:Shared) (mg mb:Str->Option Value) (fa:Addr) (o:Obj) (pm cd doc:Value) (a:Addr) (vs:List Value) (ns:List Int),
   Ground q loose [] XP w s₀ mg mb s₁.heap->YP w s₁.heap ->
   s₁.heap.get? fa=some o->o.data=.func (docDef d.name d.params d.body d.scope pm cd doc)->s₁.heap.CodeRec cd d.name->mg d.name=some (.ref fa) ->
   s₁.heap.get? a=some { cls:=.type "list",data:=.seq vs.toArray }->IntsAre vs ns->ns.length<=n->s₁.gens=#[] ->
   codeAny (model l.prog w) callerA (.call (.ref fa) ⟨[.ref a],[]⟩) (fun r s'=>r=.ok (.ret (.bool true))/\OldK s₁.heap s'.heap/\s'.os=s₁.os/\AllBare s'.gens) s₁) :
  WalkO q loose XP YP l.row.toRowW d [] (fun f vs=>PySem.call f vs):=by
 intro w s₀ s₁ mg mb G Y fa o pm cd doc dV kV ho hd hcd hD hmg hg args vals as hpre hlay hrd hwl hlo;obtain rfl:dV=.none:=Dflts.none hD hdf;obtain rfl:kV=.none:=Dflts.noKw hD;obtain⟨a,vs,ns,rfl,rfl,hobj,hints,hlen⟩:=tQ hn hpre hwl;refine enter_call (codeAny_mono (call w s₀ s₁ mg mb fa o pm cd doc a vs ns G Y ho (fd_plain hd) hcd hmg hobj hints hlen hg) fun r s' hq=>?_);obtain⟨rfl,h2,h3,h4⟩:=hq;exact⟨.inl ⟨.bool true,.bool true,[],rfl,fun _=>rfl,.bool true,tR l _,fun _=>⟨List.Pairwise.nil,fun _ hm=>(nomatch hm)⟩⟩,h2,h3,h4⟩
end Att
namespace L2
open PySem PySem.Spec PyProof.Rows
theorem om:∀{vs:List Value}{ns:List Int},IntsAre vs ns->bZ (ns.map V.int) vs
 | _,_,.nil=>.nil
 | _,_,.cons n t h=>.cons ⟨t,rfl⟩ (om h)
def CM(H:Hp):Prop:=∀b,H b=none\/∃o xs,H b=some (.frz o (.lst xs))
theorem vY{P:Program}{w:World}{K:PySem.W.Frag}{mg mb:Str->Option Value}{CX:CXT}{k:Nat}{fa a:Addr}{fd:FuncData}{x:Str}{sp:Sp}{s₁:Shared}{vs:List Value}{ns:List Int}
  (KX:K.In s₁.heap) (hns:s₁.heap.Ns mainGlobals mg) (hb:s₁.heap.Ns builtinsNs mb) (hbb:∀x:Str,x≠"__name__"->mb x=bootBuiltins x) (hlim:s₁.heap.NoLimit) (hg:s₁.gens=#[])
  (ha:s₁.heap.get? a=some { cls:=.type "list",data:=.seq vs.toArray }) (hi:IntsAre vs ns) (hl:ns.length<=sizeLine) (hr:fh k callerA)
  (F:∀base:Heap,K.In base->base.Ns mainGlobals mg->lA P w K mg base CX k fa fd [x] sp) (hbind:∀(s:Shared) (u:Value),BindsTo s fd ⟨[u],[]⟩ [(x,u)])
  (hsp:∀H:Hp,CM H->SqL K H a (ns.map V.int)->sp [.ref a] H (fun v _=>v=.bl true) fun _ _ _=>False)
  (hCX:∀H e s',CX [] H s₁ (fun _ _ _=>False) e s'->False) :
  codeAny (model P w) callerA (.call (.ref fa) ⟨[.ref a],[]⟩) (fun r s'=>r=.ok (.ret (.bool true))/\OldK s₁.heap s'.heap/\s'.os=s₁.os/\AllBare s'.gens) s₁:=by
 have rv:=om hi;have lenV:=hi.length
 -- from an abstract heap in which nothing but the script may be tracked
 have core:∀H:Hp,CM H->SqL K H a (ns.map V.int)->HOk P w H s₁.heap->(∀b,H b≠none->b=a)->(H a≠none->K.lookup a=none) ->
   codeAny (model P w) callerA (.call (.ref fa) ⟨[.ref a],[]⟩) (fun r s'=>r=.ok (.ret (.bool true))/\OldK s₁.heap s'.heap/\s'.os=s₁.os/\AllBare s'.gens) s₁:=by
  intro H hO hS hok hA hK;have base_of:∀{b:Addr}{o:Obj},s₁.heap.get? b=some o->H b=none->(vJ s₁.heap H).get? b=some o:=fun e n=>vK e n
  have noA:∀{b:Addr}{o:Obj}{es:Array DictEntry}{ep:Nat},s₁.heap.get? b=some o->o.data=.dict es ep->H b=none:=fun {b o es ep} e d=>by
   cases q:H b with
   | none=>rfl
   | some u =>
    have e':b=a:=hA b (by rw [q];simp);subst e';rw [ha] at e;cases e;have d':Data.seq vs.toArray _=Data.dict es ep:=d;cases d'
  have nsK:∀{b:Addr}{m:Str->Option Value},s₁.heap.Ns b m->(vJ s₁.heap H).Ns b m:=fun {b m} ⟨o,es,ep,e,d,r⟩=>⟨o,es,ep,base_of e (noA e d),d,r⟩
  have hKb:K.In (vJ s₁.heap H):=fun b o e=>base_of (KX b o e) (by
   cases q:H b with
   | none=>rfl
   | some u =>
    have e':b=a:=hA b (by rw [q];simp);subst e';rw [hK (by rw [q];simp)] at e;cases e)
  have hM:Mod K mg (vJ s₁.heap H):=⟨hKb,nsK hns,⟨mb,nsK hb,hbb⟩,let ⟨mc,h1,h2⟩:=hlim;⟨mc,nsK h1,h2⟩⟩
  have e0:yc P w K mg (vJ s₁.heap H) callerA [] s₁ H:=⟨rfl,hM,fun b o e=>xZ e,le_of_eq (sN _ _),trivial,fun b hb=>absurd (show b∈([]:List Addr) from hb) (by simp),hok,.of_eq hg⟩
  refine codeAny_mono ((F _ hKb (nsK hns)).run callerA [] s₁ H ⟨[.ref a],[]⟩ [.ref a] [.ref a] _ _ hr e0 (hbind s₁ (.ref a)) (.cons rfl .nil) (hsp H hO hS)) fun r s' h=>?_
  cases r with
  | error e=>exact (hCX H e s' h).elim
  | ok fl =>
   cases fl with
   | next=>exact False.elim h
   | brk=>exact False.elim h
   | cont=>exact False.elim h
   | ret u =>
    obtain⟨v,H',os,bare,un,hok',r',q⟩:=h;have q':v=.bl true:=q;subst q';obtain rfl:u=Value.bool true:=r';refine⟨rfl,OldK.of_keep fun b o e=>?_,os,bare⟩
    cases q:H b with
    | none=>exact un.keep b o e q (by intro z;exact absurd (show b∈([]:List Addr) from z) (by simp)) (by simp)
    | some u =>
     rcases hO b with z|⟨ob,xs,z⟩
     .rw [q] at z;cases z
     .have z2:=un.frzs b ob _ z;obtain⟨e1,_⟩:=hok b _ z;obtain⟨e2,_⟩:=hok' b _ z2;rw [e] at e1;cases e1;exact e2
 cases hk:K.lookup a with
 | some o =>
  -- the script is one of the module's own objects
  have e:=KX a o hk;rw [ha] at e;cases e;refine core (fun _=>none) (fun _=>.inl rfl) (.inr ⟨_,vs.toArray,_,hk,rfl,rfl,rfl,by rw [size_toArray,lenV];exact hl,by simpa using rv⟩) (fun b u z=>by have z':(none:Option HO)=some u:=z;cases z') (fun b z=>absurd rfl z) fun z=>absurd rfl z
 | none =>
  refine core (fun b=>if b=a then some (.frz { cls:=.type "list",data:=.seq vs.toArray } (.lst (ns.map V.int))) else none) (fun b=>?_) (.inl (.inr ⟨{ cls:=.type "list",data:=.seq vs.toArray },if_pos rfl⟩)) (fun b u z=>?_) (fun b z=>?_) fun _=>hk
  .by_cases hb:b=a
   .exact .inr ⟨_,_,if_pos hb⟩
   .exact .inl (if_neg hb)
  .by_cases hb:b=a
   .have z':=(if_pos hb).symm.trans z;cases z';subst hb;exact⟨ha,by rw [length_map];exact hl,vs,_,rv,ha⟩
   .have z':=(if_neg hb).symm.trans z;cases z'
  .by_cases hb:b=a
   .exact hb
   .exact absurd (if_neg hb) z
theorem yn{l:PySem.W.OpenLaw}{n k:Nat}{q:Program}{loose:List Str}{XP:(Str->Option Value)->Heap->Prop}{YP:World->Heap->Prop}{d:DefRec}{K:Params->PySem.W.Frag}{CX:World->CXT}{sp:World->Sp}{x:Str}
  (hn:l.most=some n) (hn2:n<=sizeLine) (hdf:d.params.defaults=[]) (hr:fh k callerA)
  (hY:∀(w:World) (h:Heap),YP w h->(K w.params).In h)
  (F:∀(w:World) (mg:Str->Option Value) (fa:Addr) (h:Heap),(K w.params).In h->h.Ns mainGlobals mg->mg d.name=some (.ref fa) ->
   ∃fd:FuncData,(∀(s:Shared) (u:Value),BindsTo s fd ⟨[u],[]⟩ [(x,u)]) /\
    ∀base:Heap,(K w.params).In base->base.Ns mainGlobals mg->lA l.prog w (K w.params) mg base (CX w) k fa fd [x] (sp w))
  (hsp:∀(w:World) (H:Hp) (a:Addr) (ns:List Int),ns.length<=n->CM H->SqL (K w.params) H a (ns.map V.int)->sp w [.ref a] H (fun v _=>v=.bl true) fun _ _ _=>False)
  (hCX:∀(w:World) (H:Hp) (s:Shared) (e:Value) (s':Shared),CX w [] H s (fun _ _ _=>False) e s'->False) :
  PySem.W.WalkO q loose XP YP l.row.toRowW d [] (fun f vs=>PySem.call f vs):=by
 refine Att.attach_call hn hdf fun w s₀ s₁ mg mb fa o pm cd doc a vs ns G Y ho hd hcd hmg hobj hints hlen hg=>?_;have KX:=hY w _ Y;obtain⟨fd,hb,hF⟩:=F w mg fa _ KX G.T.g hmg;exact vY KX G.T.g G.T.b G.T.builtins G.T.nolimit hg hobj hints (le_trans hlen hn2) hr hF hb (fun H hO hS=>hsp w H a ns hlen hO hS) fun H e s'=>hCX w H s₁ e s'
def ji(s:Stmt)(j:Nat):Stmt:=match s with
 | .ClassDef _ _ _ body _ _ _ _ _ _ _=>body.getD j (.Pass ⟨0,0,0,0⟩)
 | _=>.Pass ⟨0,0,0,0⟩
def bM(s:Stmt):Arguments:=match s with
 | .FunctionDef _ a _ _ _ _ _ _ _ _=>a
 | _=>{ posonlyargs:=[],args:=[],vararg:=none,kwonlyargs:=[],kw_defaults:=[],kwarg:=none,defaults:=[] }
def bh(s:Stmt):List Stmt:=match s with
 | .FunctionDef _ _ b _ _ _ _ _ _ _=>b
 | _=>[]
def ai(s:Stmt):Scope:=match s with
 | .FunctionDef _ _ _ _ _ _ sc _ _ _=>sc
 | _=>{ kind:=.function,names:=[],isGenerator:=false,isCoroutine:=false }
abbrev CX0:CXT:=fun _ _ _ _ _ _=>False
abbrev E0:XK:=fun _ _ _=>False
theorem vZ{X:Cx}:lZ CX0 X E0:=fun _ _ _ _ _ _ _ h=>h.elim
structure Fun (K:PySem.W.Frag) (x qual:Str) (st:Stmt) (f:Addr) (fd:FuncData):Prop where
 ex:∃(oc:Value) (od:Option Addr) (kV doc pm:Value) (an:Option Addr) (cdv ct:Value) (osl:Array (Option Value)),
  fd=PySem.W.fnOf x qual (bM st) (bh st) (ai st) .none kV doc pm an cdv ct/\K.lookup f=some ⟨oc,od,.func fd,osl⟩/\PySem.W.codeIn K cdv qual=true
 kp:PySem.W.keepIn K (.ref f)=true
section
variable {P:Program}{w:World}{K:PySem.W.Frag}{mg:Str->Option Value}{base:Heap}
theorem Fun.ok{x qual:Str}{st:Stmt}{f:Addr}{fd:FuncData}{N ps:List Str}{k:Nat}{sp:Sp}(F:Fun K x qual st f fd)(S:aM N ps (ai st))(len:∀vs H Q E,sp vs H Q E->vs.length=ps.length)
  (hbody:∀(cdv:Value) (A:Around) (outer:List Env) (s:Shared) (H:Hp) (vs:List V) (Q:VK) (E:XK),fh k (A.deeper (envOfC qual (ai st) s.heap.objs.size f cdv))->sp vs H Q E ->
   ∃t,PSs (mJ CX0 P w K mg base N qual (ai st) f cdv A outer s H E).nox (bh st) t/\t { nx:=fun _ H'=>Q .non H',rt:=Q } (start N vs) H):lA P w K mg base CX0 (k+1) f fd ps sp:=by
 obtain⟨oc,od,kV,doc,pm,an,cdv,ct,osl,rfl,lk,hcd⟩:=F.ex;refine vV lk hcd S len fun A outer s H vs Q E hr hsp=>?_;obtain⟨t,h,q⟩:=hbody cdv A outer s H vs Q E hr hsp;exact⟨t,h.nox,q⟩
theorem Fun.binds{x qual:Str}{st:Stmt}{f:Addr}{fd:FuncData}{ps:List Str}(F:Fun K x qual st f fd)
  (h:∀(kV doc pm:Value) (an:Option Addr) (cdv ct:Value) (us:List Value),us.length=ps.length->bindArgs (PySem.W.fnOf x qual (bM st) (bh st) (ai st) .none kV doc pm an cdv ct) ⟨us,[]⟩=pure (ps.zip us)):iu K fd ps []:=by
 obtain⟨oc,od,kV,doc,pm,an,cdv,ct,osl,rfl,lk,hcd⟩:=F.ex;exact .all (h kV doc pm an cdv ct)
theorem kn{x qual:Str}{st:Stmt}{f:Addr}{oc:Value}{od an:Option Addr}{osl:Array (Option Value)}{kV doc pm cdv ct:Value}(l:K.lookup f=some ⟨oc,od,.func (PySem.W.fnOf x qual (bM st) (bh st) (ai st) .none kV doc pm an cdv ct),osl⟩)
  (c:PySem.W.codeIn K cdv qual=true) (k:PySem.W.keepIn K (.ref f)=true):Fun K x qual st f (PySem.W.fnOf x qual (bM st) (bh st) (ai st) .none kV doc pm an cdv ct):=⟨⟨oc,od,kV,doc,pm,an,cdv,ct,osl,rfl,l,c⟩,k⟩
end
section
variable {X:Cx}
theorem pv(i:Nat){x:Str}{pos:Pos}(hN:X.N[i]?=some x:=by rfl)(hv:Vis X.env.scope x:=by first|exact Or.inl rfl|exact Or.inr (Or.inl rfl)|exact Or.inr (Or.inr rfl))(hd:(x == ("__debug__":Str))=false:=by decide)
  (hcd:(x == ("__classdict__":Str))=false:=by decide):PE X (.Name x pos) (ck i):=Ah hN hv hd hcd
end
def S(l:List Nat):Str:=⟨l.toArray⟩
theorem fk(l:List Nat):(S l).length=l.length:=by simp [S,Str.length]
theorem yo(a b:List Nat):S a++S b=S (a++b):=by
 show (⟨a.toArray++b.toArray⟩:Str)=⟨(a++b).toArray⟩
 rw [append_toArray]
theorem AH{a b:List Nat}(h:S a=S b):a=b:=by
 have h':=congrArg (fun x:Str=>x.cps.toList) h;simpa [S] using h'
theorem Ev{a b:List Nat}(h:a≠b):S a≠S b:=fun e=>h (AH e)
theorem AI{a b:List Nat}:V.str (S a)=V.str (S b) ↔ a=b:=⟨fun h=>AH (V.str.inj h),fun h=>by rw [h]⟩
theorem AJ(a b:List Nat):decide (V.str (S a)=V.str (S b))=decide (a=b):=by
 by_cases h:a=b
 .rw [decide_eq_true h,decide_eq_true (AI.mpr h)]
 .rw [decide_eq_false h,decide_eq_false (fun z=>h (AI.mp z))]
def e6{α:Type}(xs:List α)(lo hi:Option Int):List α:=(xs.drop (HT.sIx xs.length 0 lo)).take (HT.sIx xs.length xs.length hi - HT.sIx xs.length 0 lo)
theorem e7{α:Type}(xs:List α)(lo hi:Option Int):(e6 xs lo hi).length<=xs.length:=by
 unfold e6;rw [length_take,length_drop];omega
theorem tS(xs:List V)(lo hi:Option Int):yg xs lo hi=e6 xs lo hi:=rfl
theorem AK(lo hi:Option Int)(n:Nat):Builtin.Str.strSliceIndices lo hi 1 n=(List.range (HT.sIx n n hi - HT.sIx n 0 lo)).map (fun k=>HT.sIx n 0 lo+k):=by
 have key:∀(o:Option Int) (d:Nat),d<=n->(match o with|none=>(d:Int)|some i=>max 0 (min (if i<0 then i+(n:Int) else i) (n:Int)))=((HT.sIx n d o:Nat):Int):=by
  intro o d hd
  cases o with
  | none=>rfl
  | some i =>
   show max 0 (min (if i<0 then i+(n:Int) else i) (n:Int))=_;rw [<- HT.clip_eq i n d]
   by_cases h:i<0
   .rw [if_pos h,if_pos h];omega
   .rw [if_neg h,if_neg h];omega
 have k1:=key lo 0 (zero_le _);have k2:=key hi n (le_refl _);unfold Builtin.Str.strSliceIndices;simp only [show (1:Int) > 0 by decide,if_true];refine Eq.trans (congrArg (fun a=>sliceRange a _ 1) k1) (Eq.trans (congrArg (fun b=>sliceRange _ b 1) k2) ?_);unfold sliceRange;simp only [show (1:Int) > 0 by decide,if_true];generalize HT.sIx n 0 lo=a;generalize HT.sIx n n hi=b
 have ec:(if (a:Int)<(b:Int) then ((b:Int) - (a:Int)+1 - 1) / 1 else 0).toNat=b - a:=by
  split <;> omega
 rw [ec];apply map_congr_left;intro k _;omega
theorem tT{α:Type}(l:List α)(a m:Nat):((List.range m).map (fun k=>a+k)).filterMap (fun i=>l[i]?)=(l.drop a).take m:=by
 induction m generalizing a with
 | zero=>simp
 | succ m ih =>
  rw [range_succ_eq_map,map_cons,map_map,filterMap_cons];have e:((fun k=>a+k) ∘ Nat.succ)=fun k=>(a+1)+k:=by funext k;simp;omega
  rw [e,ih (a+1)]
  cases h:l[a+0]? with
  | none =>
   have hl:l.length<=a:=by simpa using List.getElem?_eq_none_iff.mp h
   rw [drop_eq_nil_of_le hl,drop_eq_nil_of_le (by omega)];simp
  | some v =>
   have hl:a<l.length:=by simpa using (List.getElem?_eq_some_iff.mp h).1
   have hv:l[a]=v:=by simpa using (List.getElem?_eq_some_iff.mp h).2
   rw [drop_eq_getElem_cons hl,hv];rfl
theorem yp(l:List Nat)(lo hi:Option Int):Txt.slice (S l) lo hi=S (e6 l lo hi):=by
 have e1:(Builtin.Str.strSliceIndices lo hi 1 (S l).length).filterMap ((S l).cps[·]?)=e6 l lo hi:=by
  rw [AK,fk];have e:(fun i:Nat=>(S l).cps[i]?)=fun i:Nat=>l[i]?:=by funext i;simp [S]
  rw [e];exact tT l _ _
 unfold Txt.slice
 split
 .rename_i h;have h2:(Builtin.Str.strSliceIndices lo hi 1 (S l).length).length=(S l).length:=by simpa using h
  rw [AK,fk,length_map,length_range] at h2;have a0:=HT.sIx_le l.length 0 (zero_le _) lo;have b0:=HT.sIx_le l.length l.length (le_refl _) hi;unfold e6
  by_cases hz:l.length=0
  .have:l=[]:=length_eq_zero_iff.mp hz;subst this;simp
  .have ha:HT.sIx l.length 0 lo=0:=by omega
   have hb:HT.sIx l.length l.length hi=l.length:=by omega
   rw [ha,hb];simp
 .rw [e1];rfl
theorem fF{α:Type}(l:List α)(k:Nat):e6 l none (some (k:Int))=l.take k:=by
 unfold e6;rw [HT.sIx_nat];show (l.drop 0).take (min k l.length - 0)=l.take k;rw [drop_zero,Nat.sub_zero]
 by_cases h:k<=l.length
 .rw [min_eq_left h]
 .rw [min_eq_right (by omega),take_of_length_le (le_refl _),take_of_length_le (by omega)]
theorem oq{α:Type}(l:List α)(k:Nat):e6 l (some (k:Int)) none=l.drop k:=by
 unfold e6;rw [HT.sIx_nat];show (l.drop (min k l.length)).take (l.length - min k l.length)=l.drop k
 by_cases h:k<=l.length
 .rw [min_eq_left h,take_of_length_le (by rw [length_drop];exact le_refl _)]
 .rw [min_eq_right (by omega),sub_self,take_zero,drop_eq_nil_of_le (by omega)]
theorem tU{α:Type}(l:List α)(i j:Nat):e6 l (some (i:Int)) (some (j:Int))=(l.drop i).take (j - i):=by
 unfold e6;rw [HT.sIx_nat,HT.sIx_nat]
 by_cases h:i<=l.length
 .rw [min_eq_left h]
  by_cases h2:j<=l.length
  .rw [min_eq_left h2]
  .rw [min_eq_right (by omega),take_of_length_le (by rw [length_drop];omega),take_of_length_le (by rw [length_drop];omega)]
 .have e:min i l.length=l.length:=min_eq_right (by omega);rw [e,drop_eq_nil_of_le (le_refl _),drop_eq_nil_of_le (by omega),take_nil,take_nil]
section
variable {X:Cx}
def D5:V->Option Int->Option Int->Hp->VK->Prop:=fun x lo hi H Q=>∃l,x=.str (S l)/\l.length<=sizeLine/\Q (.str (S (e6 l lo hi))) H
theorem AL:SlR X D5:=by
 intro pins s σ H x v vl vu lo hi sl Q I rx hs pl pu h;obtain⟨l,rfl,hz,q⟩:=h;obtain⟨t,rfl⟩:=rx;refine⟨"str",_,slot_str_getitem.lookup,typeIs_str s _ t,?_⟩
 obtain⟨l',hl',el⟩:∃l':Option (Int×Tok),vl=partValue l'/\l'.map (·.1)=lo:=by
  cases pl with
  | none=>exact⟨none,rfl,rfl⟩
  | int i t=>exact⟨some (i,t),rfl,rfl⟩
 obtain⟨u',hu',eu⟩:∃l':Option (Int×Tok),vu=partValue l'/\l'.map (·.1)=hi:=by
  cases pu with
  | none=>exact⟨none,rfl,rfl⟩
  | int i t=>exact⟨some (i,t),rfl,rfl⟩
 subst hl' hu';refine wpAny_getItem_str_slice (l:=l') (u:=u') (st:=none) hs rfl ?_;have hm:∀t' k,EP X pins σ Q (.str (Txt.slice (S l) lo hi) t') { s with toks:=k }:=fun t' k=>⟨.str (S (e6 l lo hi)),H,I.tok _,⟨t',by rw [yp]⟩,q⟩
 have hlen:(Txt.slice (S l) lo hi).length<=sizeLine:=le_trans (Txt.slice_le _ _ _) (by rw [fk];exact hz);subst el eu;exact post_val_or_str ⟨hlen,hm⟩
def lD{α:Type}(l:List α)(n:Int):List α:=(List.replicate n.toNat l).flatten
theorem tV(k:Nat)(l acc:List Nat):(List.replicate k l.toArray).foldl (·++·) acc.toArray=(acc++(List.replicate k l).flatten).toArray:=by
 induction k generalizing acc with
 | zero=>simp
 | succ k ih =>
  rw [replicate_succ,foldl_cons,append_toArray,ih (acc++l),replicate_succ,flatten_cons,append_assoc]
theorem CN(l:List Nat)(n:Int):Txt.mul (S l) n=S (lD l n):=by
 unfold Txt.mul lD
 by_cases h:n<1
 .rw [if_pos h];have:n.toNat=0:=by omega
  rw [this];rfl
 .rw [if_neg h]
  split
  .rename_i h2;rw [fk] at h2;simp only [or_eq_true,beq_iff_eq] at h2
   rcases h2 with h2|h2
   .subst h2;simp [S]
   .have:l=[]:=length_eq_zero_iff.mp h2;subst this;simp [S]
  .have e:=tV n.toNat l [];show (⟨_⟩:Str)=_
   have e':(List.replicate n.toNat (S l).cps).foldl (·++·) #[]=((List.replicate n.toNat l).flatten).toArray:=by
    simpa [S] using e
   rw [e'];rfl
theorem iw{α:Type}(l:List α)(n:Int):(lD l n).length=n.toNat*l.length:=by
 unfold lD;rw [length_flatten,map_replicate,sum_replicate_nat]
theorem rX:OpR X (binaryOp .Mult) (fun x y H Q=>∃l n,x=.str (S l)/\y=.int n/\-1000000<=n/\n<=1000000/\n.toNat*l.length<=sizeLine/\Q (.str (S (lD l n))) H):=by
 intro pins s σ H x y v u Q I rx ry h;obtain⟨l,n,rfl,rfl,h1,h2,hz,q⟩:=h;obtain⟨t,rfl⟩:=rx;obtain⟨t',rfl⟩:=ry;have hs:sizeLine=16777216:=sizeLine_eq;have hz':n.toNat*l.length<=16777216:=by rw [<- hs];exact hz
 refine SB.mul ⟨?_,fun hn hc=>?_,fun hn hc=>?_⟩ fun t' k=>⟨.str (S (lD l n)),H,I.tok _,⟨t',by rw [CN]⟩,q⟩
 .rw [decide_eq_false (by omega),decide_eq_false (by omega)];rfl
 .rw [fk];intro hgt
  have hl:l.length<=16777216:=by
   have:1*l.length<=n.toNat*l.length:=mul_le_mul_right _ (by omega);omega
  have hdiv:(2^63 - 1:Int) / 1000000<=(2^63 - 1) / n:=by
   apply le_ediv_of_mul_le (by omega);have:=mul_le_mul_of_nonneg_left h2 (show (0:Int)<=(2^63 - 1) / 1000000 by decide);have e2:((2^63 - 1:Int) / 1000000)*1000000<=2^63 - 1:=by decide
   omega
  have e3:(2^63 - 1:Int) / 1000000=9223372036854:=by decide
  omega
 .rw [fk];have:l.length*n.toNat<=16777216:=by rw [mul_comm];exact hz'
  exact decide_eq_false (by omega)
theorem tW:OpR X (compareOp .LtE) (fun x y H Q=>∃i j,x=.str i/\y=.str j/\Q (.bl (!decide (j.cps.toList<i.cps.toList))) H):=by
 intro pins s σ H x y v u Q I rx ry h;obtain⟨i,j,rfl,rfl,q⟩:=h;obtain⟨t,rfl⟩:=rx;obtain⟨t',rfl⟩:=ry;exact PySem.P.le_str ⟨.bl _,H,I,rfl,q⟩
end
def Its(xs:List V):It:=⟨fun i _=>i<xs.length,fun i H x H'=>H'=H/\xs[i]?=some x,fun i _=>xs.length=i⟩
theorem tX{M:Model}{A:Around}{E:Value->Shared->Prop}{s:Shared}{tg:Expr}{it:Addr}{u:Value}{Q:Unit->Shared->Prop}(hu:∀a,u≠.ref a)(hQ:Q () s):wpAny M A (letOwnedTupleGo tg (.ref it) u) Q E s:=by
 unfold letOwnedTupleGo
 cases tg <;> first
  | exact wpAny_pure hQ
  | (cases u <;> first
    | exact wpAny_pure hQ
    | exact absurd rfl (hu _))
theorem ko{P:Program}{w:World}{K:PySem.W.Frag}{tg:Expr}{it:Addr}{xs:List V}{n:Nat}{Pt:Nat->Value->Prop}{St:Nat->Heap->Prop}
  (W:∀A:Around,A.handled=none->Walks P w A it [it] [it] n Pt St) (hn:xs.length=n)
  (hv:∀i v,i<n->Pt i v->∃x,xs[i]?=some x/\dn x v) (hsc:∀i v,Pt i v->∀a,v≠.ref a)
  (hobj:∀i h,St i h->∃o,h.get? it=some o/\∀v,o.data≠.cell v)
  (hfr:∀i h h',St i h->(∀b∈[it],∀o,h.get? b=some o->h'.get? b=some o)->St i h')
  (hself:∀(A:Around) (i:Nat) (s:Shared) (Q:Value->Shared->Prop) (E:Value->Shared->Prop),St i s.heap->Q (.ref it) s->wpAny (model P w) A (pyIter (.ref it)) Q E s) :
  xp P w K tg (Its xs) [it] it St where
 mem:=by simp
 obj:=fun i h st b hb=>by
  have e:b=it:=by simpa using hb
  subst e;exact hobj i h st
 keep:=fun i h h' st k=>hfr i h h' st k
 item:=by
  intro X hP hw hK hc i pins s σ H E I hf st hg;subst hP hw hK;obtain⟨f0,f1,f2,f3,f4,f5⟩:=hf it (by simp);refine (W X.A (I.ok.hd hc)).item i s _ _ (by rw [<- hn];exact hg) st fun v h' tk hp st' kk=>?_;obtain⟨x,hx,rx⟩:=hv i v (by rw [<- hn];exact hg) hp;have I1:Inv X pins σ H { s with heap:=h',toks:=tk }:=I.turned (fun b o hb e=>kk b o (by simpa using hb) e) f0 f1 f3 f4 f5;exact⟨v,rfl,tX (s:={ s with heap:=h',toks:=tk }) (hsc i v hp) ⟨x,H,I1,rx,⟨rfl,hx⟩,st',fun b hb=>(hf b hb).1⟩⟩
 done:=by
  intro X hP hw hK hc i pins s σ H E I hf st hg;subst hP hw hK;obtain⟨f0,f1,f2,f3,f4,f5⟩:=hf it (by simp);have e:n=i:=hn.symm.trans hg;subst e;exact (W X.A (I.ok.hd hc)).done s _ _ st fun h' tk kk=>⟨rfl,I.turned (fun b o hb e=>kk b o (by simpa using hb) e) f0 f1 f3 f4 f5⟩
 self:=hself
section
variable {X:Cx}{tg:Expr}
def cD(l:List Nat):List V:=l.map fun c=>V.str (S [c])
theorem fm{l:List Nat}{i:Nat}{x:V}(h:(cD l)[i]?=some x):∃c,l[i]?=some c/\x=.str (S [c]):=by
 unfold cD at h;rw [getElem?_map] at h
 cases e:l[i]? with
 | none=>rw [e] at h;cases h
 | some c=>rw [e] at h;exact⟨c,rfl,(Option.some.inj h).symm⟩
theorem cH(l:List Nat):(cD l).length=l.length:=length_map _
def mO(i:Int)(n:Nat):List V:=(List.range n).map fun (k:Nat)=>V.int (i - k)
theorem kq(i:Int)(n:Nat):(mO i n).length=n:=by simp [mO]
theorem tY{i:Int}{n k:Nat}{x:V}(h:(mO i n)[k]?=some x):k<n/\x=.int (i - k):=by
 unfold mO at h;rw [getElem?_map] at h
 by_cases hk:k<n
 .rw [getElem?_range hk] at h;exact⟨hk,(Option.some.inj h).symm⟩
 .rw [getElem?_eq_none (by simp;omega)] at h;cases h
def AM(ta:TA):TI:=fun σ H R=>ta σ H fun vs H1=>∃i j:Int,vs=[.int i,.int j,.int (-1)]/\(-(2^60)<=i/\i<2^60/\-(2^60)<=j/\j<2^60)/\R (Its (mO i (i - j).toNat)) H1
theorem ib(i j:Int):Builtin.Range.rangeSize i j (-1)=(((i - j).toNat:Nat):Int):=by
 unfold Builtin.Range.rangeSize;rw [if_neg (by decide)];simp only [neg_neg,ediv_one];split <;> omega
theorem ou{a b c:Expr}{ta:TA}{p pos:Pos}(hg:Gl X "range")(hm:X.mg "range"=none)(ha:PA X [a,b,c] ta)
  (hs:starEach [a,b,c] X.env=[(false,eval a X.env),(false,eval b X.env),(false,eval c X.env)]:=by rfl) (hs2:starEach [b,c] X.env=[(false,eval b X.env),(false,eval c X.env)]:=by rfl) :
  PI X tg (.Call (.Name "range" p) [a,b,c] [] pos) (AM ta):=by
 intro pins s σ H R I h;refine Call_ (jH I hg hm boot_range (PyProof.Rows.callWith_type1 (thn (ha pos pins s σ H _ I h) fun us s1 ⟨vs,H1,I1,r1,q1⟩=>?_) (by rw [hs,hs2]) (by rw [hs2];rfl)));obtain⟨i,j,e,⟨q1,q2,q3,q4⟩,q⟩:=q1;subst e
 cases r1 with
 | cons r rr =>
  cases rr with
  | cons r' rr =>
   cases rr with
   | cons r'' rr =>
    cases rr;obtain⟨t,rfl⟩:=r;obtain⟨t',rfl⟩:=r';obtain⟨t'',rfl⟩:=r'';refine call_range_3 (by decide) ?_ (.inl (PyProof.noPylong_small (by decide)))
    refine wpAny_pyIter_range (IsRange.new ..) ?_ ?_
    .unfold Builtin.Range.small;rw [ib];simp only [Builtin.Range.rangeFitsLong,and_eq_true,or_eq_true,decide_eq_true_eq,beq_iff_eq,show ¬ (-1:Int) > 0 by decide,if_false];omega
    have I2:Inv X pins σ H1 { s1 with heap:=s1.heap.push { cls:=.type "range",data:=.fields #[.int i t,.int j t',.int (-1) t''] },toks:=s1.toks }:=I1.kept fun b o e=>Heap.get?_push_of_some _ e
    refine⟨_,[(s1.heap.push { cls:=.type "range",data:=.fields #[.int i t,.int j t',.int (-1) t''] }).objs.size],_,Its (mO i (i - j).toNat),H1,rfl,I2.kept (t':=s1.toks) fun b o e=>Heap.get?_push_of_some _ e,
     ko (fun A hA=>Walks.range hA _ i (-1) (i - j).toNat) (kq _ _) ?_ ?_ ?_ ?_ (fun A i s Q E st q=>wpAny_pyIter_rangeiter st q),?_,fun b hb=>?_,q⟩
    .rintro k v hk ⟨t,rfl⟩
     refine⟨.int (i - k),?_,t,?_⟩
     .unfold mO;rw [getElem?_map,getElem?_range hk];rfl
     .have e:i+(k:Int)*(-1)=i - k:=by omega
      rw [e]
    .rintro k v ⟨t,rfl⟩ a z;cases z
    .exact fun k h st=>⟨_,st,fun v z=>by
      have z':Data.fields _=Data.cell v:=z;cases z'⟩
    .exact fun k h h' st kk=>kk _ (by simp) _ st
    .show IsRangeIter _ _ (i+((0:Nat):Int)*(-1)) ((((i - j).toNat:Nat):Int) - ((0:Nat):Int)) (-1);rw [<- ib];simp only [natCast_zero,zero_mul,add_zero,Int.sub_zero];exact Heap.get?_push_size _ rfl
    .have e:b=(s1.heap.push { cls:=.type "range",data:=.fields #[.int i t,.int j t',.int (-1) t''] }).objs.size:=by simpa using hb
     subst e;exact I2.fpOk (le_refl _) (I2.hok.fresh (le_refl _))
end
section
variable {X:Cx}
theorem pV:bJ X (.builtin "isinstance") (fun xs H Q=>∃x n t b,xs=[x,.ty n]/\pT X.K H x t/\PySem.W.kitOne X.K t (.type n)=some b/\Q (.bl b) H):=by
 intro pins s σ H xs us Q I r h;obtain⟨x,n,t,b,rfl,ty,e,q⟩:=h;obtain⟨u,w',rfl,rx,ry⟩:=rN r;cases (show w'=Value.type n from ry);exact tF I rx ty e fun tk=>⟨.bl b,H,I.tok _,rfl,q⟩
mutual
inductive DV (K:PySem.W.Frag) (H:Hp):V->PyData->Prop
 | non:DV K H .non .none
 | bl (b:Bool):DV K H (.bl b) (.bool b)
 | int (i:Int):DV K H (.int i) (.int i)
 | str (x:Str):DV K H (.str x) (.str x)
 | lst {a:Addr}{xs:List V}{ds:List PyData}:SqL K H a xs->DVs K H xs ds->DV K H (.ref a) (.list ds)
 | tup {a:Addr}{xs:List V}{ds:List PyData}:SqT K H a xs->DVs K H xs ds->DV K H (.ref a) (.tuple ds)
inductive DVs (K:PySem.W.Frag) (H:Hp):List V->List PyData->Prop
 | nil:DVs K H [] []
 | cons {x:V}{d:PyData}{xs:List V}{ds:List PyData}:DV K H x d->DVs K H xs ds->DVs K H (x::xs) (d::ds)
end
mutual
theorem DV.reads{pins:List (Addr×Obj)}{σ:St}{H:Hp}{s:Shared}(I:Inv X pins σ H s):∀{x:V}{d:PyData}{u:Value},DV X.K H x d->dn x u->∃as,Reads s.heap u d as
 | _,_,u,.non,r=>by cases (show u=Value.none from r);exact⟨_,.none⟩
 | _,_,u,.bl b,r=>by cases (show u=Value.bool b from r);exact⟨_,.bool b⟩
 | _,_,u,.int i,r=>by obtain⟨t,e⟩:=(show ∃t,u=Value.int i t from r);subst e;exact⟨_,.int i t⟩
 | _,_,u,.str x,r=>by obtain⟨t,e⟩:=(show ∃t,u=Value.str x t from r);subst e;exact⟨_,.str x t⟩
 | _,_,u,.lst (a:=a) hq hs,r=>by
  cases (show u=Value.ref a from r);obtain⟨its,rv,pl,_⟩:=I.list hq;obtain⟨o,ho,hc,n,hd⟩:=pl.isList;obtain⟨as,ra⟩:=DVs.reads I hs rv;exact⟨_,.list ho hc hd ra⟩
 | _,_,u,.tup (a:=a) hq hs,r=>by
  cases (show u=Value.ref a from r);obtain⟨its,rv,pl,_⟩:=I.tuple hq;obtain⟨o,ho,hc,n,hd⟩:=pl;obtain⟨as,ra⟩:=DVs.reads I hs rv;exact⟨_,.tuple ho hc hd ra⟩
theorem DVs.reads{pins:List (Addr×Obj)}{σ:St}{H:Hp}{s:Shared}(I:Inv X pins σ H s):∀{xs:List V}{ds:List PyData}{us:List Value},DVs X.K H xs ds->bZ xs us->∃as,ReadsAll s.heap us ds as
 | _,_,_,.nil,.nil=>⟨_,.nil⟩
 | _,_,_,.cons h hs,.cons r rs=>by
  obtain⟨as,ra⟩:=DV.reads I h r;obtain⟨bs,rb⟩:=DVs.reads I hs rs;exact⟨_,.cons ra rb⟩
end
def CO(K:PySem.W.Frag)(neg:Bool):R2:=fun x y H Q=>∃da db,DV K H x da/\DV K H y db/\SeqAt.shaped da=true/\SeqAt.shaped db=true/\Q (.bl (if neg then !PyData.eqv da db else PyData.eqv da db)) H
theorem AN(hu:X.A.units+64<cLine):OpR X (compareOp .Eq) (CO X.K false):=by
 intro pins s σ H x y v u Q I rx ry h;obtain⟨da,db,ha,hb,sa,sb,q⟩:=h;obtain⟨as,ra⟩:=DV.reads I ha rx;obtain⟨bs,rb⟩:=DV.reads I hb ry;exact eq_dataH ra rb sa sb hu ⟨.bl _,H,I,rfl,q⟩
theorem AO(hu:X.A.units+64<cLine):OpR X (compareOp .NotEq) (CO X.K true):=by
 intro pins s σ H x y v u Q I rx ry h;obtain⟨da,db,ha,hb,sa,sb,q⟩:=h;obtain⟨as,ra⟩:=DV.reads I ha rx;obtain⟨bs,rb⟩:=DV.reads I hb ry;exact ne_dataH ra rb sa sb hu ⟨.bl _,H,I,rfl,q⟩
theorem DVs.ints{K:PySem.W.Frag}{H:Hp}:∀ns:List Int,DVs K H (ns.map V.int) (ns.map PyData.int)
 | []=>.nil
 | n::ns=>.cons (.int n) (DVs.ints ns)
theorem pW:MtR X "str.endswith" (fun x xs H Q=>∃a b,x=.str (S a)/\xs=[.str (S b)]/\Q (.bl (decide (b <:+ a))) H):=by
 intro pins s σ H x xs v us Q I rx rs h;obtain⟨a,b,rfl,rfl,q⟩:=h;obtain⟨t,rfl⟩:=rx;obtain⟨u,rfl,t',rfl⟩:=gJ rs
 have e:Txt.endswith (S a) (S b)=decide (b <:+ a):=by
  unfold Txt.endswith Builtin.Str.subAt;rw [fk,fk]
  have e1:((S a).cps.extract (a.length - b.length) (a.length - b.length+b.length))=((a.drop (a.length - b.length)).take b.length).toArray:=by
   show a.toArray.extract _ _=_;rw [extract_toArray,extract_eq_take_drop];have e2:a.length - b.length+b.length - (a.length - b.length)=b.length:=by omega
   rw [e2]
  rw [e1]
  by_cases h:b <:+ a
  .rw [decide_eq_true h];have hl:=h.length_le;have hd:a.drop (a.length - b.length)=b:=(suffix_iff_eq_drop.mp h).symm;rw [hd];simp [S,hl]
  .rw [decide_eq_false h]
   by_cases hl:b.length<=a.length
   .have hne:¬ (a.drop (a.length - b.length)).take b.length=b:=fun z=>h (by
     rw [take_of_length_le (by rw [length_drop];omega)] at z;exact suffix_iff_eq_drop.mpr z.symm)
    simp only [and_eq_false_imp];intro _;show (((a.drop (a.length - b.length)).take b.length).toArray == b.toArray)=false;rw [beq_eq_false_iff_ne];intro z;exact hne (by simpa using congrArg Array.toList z)
   .rw [decide_eq_false (by omega)];rfl
 exact SC.endswith ⟨.bl _,H,I,rfl,by rw [e];exact q⟩
end
section
variable {X:Cx}{a b:Expr}{ta tb:TE}{pos:Pos}
theorem bN{x:Str}{l:List Nat}{j:Nat}(h:x=S l):PE X (.Constant (.str x) j pos) (tC (.str (S l))):=by
 subst h;exact Aj
theorem tZ:bJ X (.builtin "len") (fun xs H Q=>∃l,xs=[.str (S l)]/\l.length<=sizeLine/\Q (.int l.length) H):=by
 intro pins s σ H xs us Q I r h;obtain⟨l,rfl,hz,q⟩:=h;exact oh pins s σ H _ us Q I r ⟨S l,rfl,by rw [fk];exact hz,by rw [fk];exact q⟩
def AQ:R2:=fun x y H Q=>∃l i c,x=.str (S l)/\y=.int i/\l.length<=sizeLine/\atI l i=some c/\Q (.str (S [c])) H
theorem yq:IxR X AQ:=by
 intro value slice pins s σ H x y v u Q I rx ry q hs;obtain⟨l,i,c,rfl,rfl,hz,ha,q⟩:=q;exact AC value slice pins s σ H _ _ v u Q I rx ry ⟨S l,i,c,rfl,rfl,by rw [fk];exact hz,ha,q⟩ hs
theorem yr:OpR X (binaryOp .Add) (fun x y H Q=>∃i j,x=.str (S i)/\y=.str (S j)/\i.length+j.length<=sizeLine/\Q (.str (S (i++j))) H):=by
 intro pins s σ H x y v u Q I rx ry h;obtain⟨i,j,rfl,rfl,hz,q⟩:=h;exact rM pins s σ H _ _ v u Q I rx ry ⟨S i,S j,rfl,rfl,by rw [fk,fk];exact hz,by rw [yo];exact q⟩
theorem AR:OpR X (compareOp .Eq) (fun x y H Q=>∃i j,x=.str (S i)/\y=.str (S j)/\Q (.bl (decide (i=j))) H):=by
 intro pins s σ H x y v u Q I rx ry h;obtain⟨i,j,rfl,rfl,q⟩:=h;exact CF pins s σ H _ _ v u Q I rx ry ⟨rfl,by rw [AJ];exact q⟩
theorem AS:OpR X (compareOp .NotEq) (fun x y H Q=>∃i j,x=.str (S i)/\y=.str (S j)/\Q (.bl (!decide (i=j))) H):=by
 intro pins s σ H x y v u Q I rx ry h;obtain⟨i,j,rfl,rfl,q⟩:=h;exact CG pins s σ H _ _ v u Q I rx ry ⟨rfl,by rw [AJ];exact q⟩
theorem AT:OpR X (compareOp .Eq) (rI0 fun i j=>.bl (decide (i=j))):=zS fun _ _ _ _ _ _ _ q=>eq_int (by rw [beq_eq_decide_eq];exact q)
theorem AU:OpR X (compareOp .NotEq) (rI0 fun i j=>.bl (!decide (i=j))):=zS fun _ _ _ _ _ _ _ q=>ne_int (by rw [bne,beq_eq_decide_eq];exact q)
theorem t0:bJ X (.builtin "len") (fun xs H Q=>∃p ys,xs=[.ref p]/\SqL X.K H p ys/\Q (.int ys.length) H):=by
 intro pins s σ H xs us Q I r h;obtain⟨p,ys,e,hq,q⟩:=h;exact jI pins s σ H xs us Q I r ⟨p,ys,e,.inl hq,q⟩
theorem t4:bJ X (.builtin "len") (fun xs H Q=>∃p ys,xs=[.ref p]/\SqT X.K H p ys/\Q (.int ys.length) H):=by
 intro pins s σ H xs us Q I r h;obtain⟨p,ys,e,hq,q⟩:=h;exact jI pins s σ H xs us Q I r ⟨p,ys,e,.inr hq,q⟩
end
structure Cal (P:Program) (w:World) (K:PySem.W.Frag) (mg:Str->Option Value) (base:Heap) (k:Nat) (x:Str) (ps:List Str) (sp:Sp):Prop where
 ex:∃(f:Addr) (fd:FuncData),lA P w K mg base CX0 k f fd ps sp/\iu K fd ps []/\PySem.W.keepIn K (.ref f)=true/\mg x=some (.ref f)/\∃oc od osl,K.lookup f=some ⟨oc,od,.func fd,osl⟩
structure cw (K:PySem.W.Frag) (mg:Str->Option Value) (x:Str) (st:Stmt):Prop where
 ex:∃(f:Addr) (fd:FuncData),Fun K x x st f fd/\mg x=some (.ref f)
section
variable {P:Program}{w:World}{K:PySem.W.Frag}{mg:Str->Option Value}{base:Heap}{x:Str}{st:Stmt}{N ps:List Str}{k:Nat}{sp:Sp}
theorem cw.ok(D:cw K mg x st)(S:aM N ps (ai st))
  (hb:∀(kV doc pm:Value) (an:Option Addr) (cdv ct:Value) (us:List Value),us.length=ps.length->bindArgs (PySem.W.fnOf x x (bM st) (bh st) (ai st) .none kV doc pm an cdv ct) ⟨us,[]⟩=pure (ps.zip us))
  (len:∀vs H Q E,sp vs H Q E->vs.length=ps.length)
  (hbody:∀(f:Addr) (cdv:Value) (A:Around) (outer:List Env) (s:Shared) (H:Hp) (vs:List V) (Q:VK) (E:XK),fh k (A.deeper (envOfC x (ai st) s.heap.objs.size f cdv))->sp vs H Q E ->
   ∃t,PSs (mJ CX0 P w K mg base N x (ai st) f cdv A outer s H E).nox (bh st) t/\t { nx:=fun _ H'=>Q .non H',rt:=Q } (start N vs) H):Cal P w K mg base (k+1) x ps sp:=by
 obtain⟨f,fd,F,hm⟩:=D.ex
 have lk:∃oc od osl,K.lookup f=some ⟨oc,od,.func fd,osl⟩:=by
  obtain⟨oc,od,kV,doc,pm,an,cdv,ct,osl,rfl,lk,hcd⟩:=F.ex;exact⟨oc,od,osl,lk⟩
 exact⟨f,fd,F.ok S len fun cdv A outer s H vs Q E hr h=>hbody f cdv A outer s H vs Q E hr h,F.binds hb,F.kp,hm,lk⟩
theorem cw.mk'{K:PySem.W.Frag}{h:Heap}{mg:Str->Option Value}{x:Str}{st:Stmt}{f:Addr}{oc:Value}{od an:Option Addr}{osl:Array (Option Value)}{kV doc pm cdv ct:Value}(X:K.In h)(G:h.Ns mainGlobals mg)
  (a:PySem.W.nsIn K mainGlobals x=some (some (.ref f))) (l:K.lookup f=some ⟨oc,od,.func (PySem.W.fnOf x x (bM st) (bh st) (ai st) .none kV doc pm an cdv ct),osl⟩)
  (c:PySem.W.codeIn K cdv x=true) (k:PySem.W.keepIn K (.ref f)=true):cw K mg x st:=⟨f,_,kn (st:=st) l c k,PySem.W.mg_of X G a⟩
end
section
variable {X:Cx}{k:Nat}{x:Str}{ps:List Str}{sp:Sp}{p pos:Pos}{e:Expr}{es:List Expr}{t:TA}
theorem AW(C:Cal X.prog X.w X.K X.mg X.base k x ps sp)(hr:fh k X.A)(ha:PA X (e::es) t)(hg:Gl X x:=by rfl)(hdb:(x == ("__debug__":Str))=false:=by decide)(he:starEach (e::es) X.env=(false,eval e X.env)::starEach es X.env:=by rfl)
  (hpl:(backTo pos (starEach es X.env)).any (·.1)=false:=by rfl):PE X (.Call (.Name x p) (e::es) [] pos) (fi sp [] E0 t):=by
 obtain⟨f,fd,F,hb,hk,hm,_⟩:=C.ex;exact tH F hr hg hm hk hb .nil vZ ha hdb he hpl
end
def rY(K:PySem.W.Frag):Sp:=fun vs H Q _=>∃(a:Addr) (ns:List Int),vs=[.ref a]/\SqL K H a (ns.map V.int)/\ns.length<=63/\∀H',Q (.bl true) H'
theorem AX{P:Program}{w:World}{K:PySem.W.Frag}{mg:Str->Option Value}{fa:Addr}{st:Stmt}{k:Nat}{x:Str}(hfa:mg "law"=some (.ref fa))(D:cw K mg "law" st)
  (hbind:∀(kV doc pm:Value) (an:Option Addr) (cdv ct:Value) (s:Shared) (v:Value),BindsTo s (PySem.W.fnOf "law" "law" (bM st) (bh st) (ai st) .none kV doc pm an cdv ct) ⟨[v],[]⟩ [(x,v)])
  (h:∀base:Heap,Cal P w K mg base k "law" [x] (rY K)) :
  ∃fd:FuncData,(∀(s:Shared) (v:Value),BindsTo s fd ⟨[v],[]⟩ [(x,v)])/\∀base:Heap,K.In base->base.Ns mainGlobals mg->lA P w K mg base CX0 k fa fd [x] (rY K):=by
 obtain⟨f,fd,F,hm⟩:=D.ex;have e:=hfa.symm.trans hm;cases e;obtain⟨oc,od,kV,doc,pm,an,cdv,ct,osl,rfl,lk,hcd⟩:=F.ex;refine⟨_,fun s v=>hbind kV doc pm an cdv ct s v,fun base kb nb=>?_⟩;obtain⟨f',fd',F',_,_,hm',oc',od',osl',lk'⟩:=(h base).ex;have e:=hfa.symm.trans hm';cases e;rw [lk] at lk';cases lk';exact F'
theorem AY{l:PySem.W.OpenLaw}{q:Program}{loose:List Str}{XP:(Str->Option Value)->Heap->Prop}{YP:World->Heap->Prop}{d:DefRec}{K:Params->PySem.W.Frag}{k:Nat}{x:Str}(hn:l.most=some 63)(hdf:d.params.defaults=[])(hr:fh k callerA)
  (hY:∀(w:World) (h:Heap),YP w h->(K w.params).In h)
  (F:∀(w:World) (mg:Str->Option Value) (fa:Addr) (h:Heap),(K w.params).In h->h.Ns mainGlobals mg->mg d.name=some (.ref fa) ->
   ∃fd:FuncData,(∀(s:Shared) (u:Value),BindsTo s fd ⟨[u],[]⟩ [(x,u)])/\∀base:Heap,(K w.params).In base->base.Ns mainGlobals mg->lA l.prog w (K w.params) mg base CX0 k fa fd [x] (rY (K w.params))) :
  PySem.W.WalkO q loose XP YP l.row.toRowW d [] (fun f vs=>PySem.call f vs) :=
 yn (n:=63) (k:=k) (x:=x) (CX:=fun _=>CX0) (sp:=fun w=>rY (K w.params)) hn (by decide) hdf hr hY F (fun _ _ a ns hl _ hS=>⟨a,ns,rfl,hS,hl,fun _=>rfl⟩) fun _ _ _ _ _ z=>z
theorem yt{α β:Type}{f:α->β}{xs:List α}{i:Int}{v:α}(h:atI xs i=some v):atI (xs.map f) i=some (f v):=by
 unfold atI at h ⊢;rw [length_map]
 cases e:ixN xs.length i with
 | none=>rw [e] at h;cases h
 | some j =>
  rw [e] at h;show (xs.map f)[j]?=some (f v);have h':xs[j]?=some v:=h;rw [getElem?_map,h'];rfl
theorem l6{α:Type}{xs:List α}{i:Int}{j:Nat}{v:α}(h:xs[j]?=some v)(e:i=(j:Int)):atI xs i=some v:=by subst e;exact yi h
def fn(l:List Nat)(t:Nat):Nat:=l.getD t 0
theorem xv{l:List Nat}{t:Nat}(h:t<l.length):l[t]?=some (fn l t):=by
 unfold fn;rw [getD_eq_getElem?_getD,getElem?_eq_getElem h];rfl
theorem sz(n:Nat)(h:n<=1000000):n<=sizeLine:=by rw [sizeLine_eq];omega
theorem wb{ns:List Int}{i:Nat}{x:V}(h:(ns.map V.int)[i]?=some x):∃z,ns[i]?=some z/\x=.int z:=by
 rw [getElem?_map] at h
 cases e:ns[i]? with
 | none=>rw [e] at h;cases h
 | some z=>rw [e] at h;exact⟨z,rfl,(Option.some.inj h).symm⟩
section
variable {X:Cx}{st:Stmt}{t:TS}
def AZ(t:TS):TS:=fun D σ H=>∃J:St->Hp->Prop,t { D with nx:=J } σ H/\∀σ' H',J σ' H'->D.nx σ' H'
theorem jj(h:PS X st t):PS X st (AZ t):=by
 intro pins s σ H D I q;obtain⟨J,q1,q2⟩:=q;refine thn (h pins s σ H _ I q1) fun f s' r=>?_
 cases f with
 | next=>obtain⟨σ',H',I',r'⟩:=r;exact⟨σ',H',I',q2 σ' H' r'⟩
 | brk=>exact r
 | cont=>exact r
 | ret u=>exact r
end
theorem wc{α β:Type}(f:α->β)(xs:List α)(lo hi:Option Int):e6 (xs.map f) lo hi=(e6 xs lo hi).map f:=by
 unfold e6;rw [length_map,map_take,map_drop]
theorem wd{α:Type}(l:List α){k:Int}(h:0<=k):e6 l none (some k)=l.take k.toNat:=by
 have e:k=((k.toNat:Nat):Int):=by omega
 rw [e,fF];rfl
theorem eC{x:Str}{c:Addr}:∀(names:List (Str×NameKind)) (n:Nat) (acc:List (Str×Addr)),(cellsFrom n names acc).lookup x=some c->(n<=c/\(x,NameKind.cell)∈names)\/acc.lookup x=some c
 | [],n,acc,h=>.inr h
 | (y,k)::r,n,acc,h=>by
  unfold cellsFrom at h
  split at h
  .rename_i hk;have hk':k=.cell:=by simpa using hk
   subst hk'
   rcases eC r (n+1) ((y,n)::acc) h with ⟨h1,h2⟩|h1
   .exact .inl ⟨by omega,mem_cons_of_mem _ h2⟩
   .rw [lookup_cons] at h1
    cases e:x == y with
    | true =>
     rw [e] at h1;have:n=c:=Option.some.inj h1;have ex:x=y:=by simpa using e
     subst ex;exact .inl ⟨by omega,mem_cons_self⟩
    | false=>rw [e] at h1;exact .inr h1
  .rcases eC r n acc h with ⟨h1,h2⟩|h1
   .exact .inl ⟨h1,mem_cons_of_mem _ h2⟩
   .exact .inr h1
theorem fG{x:Str}:∀(names:List (Str×NameKind)) (n:Nat) (acc:List (Str×Addr)),(x,NameKind.cell)∉names->(cellsFrom n names acc).lookup x=acc.lookup x
 | [],_,_,_=>rfl
 | (y,k)::r,n,acc,h=>by
  unfold cellsFrom
  split
  .rename_i hk;have hk':k=.cell:=by simpa using hk
   subst hk';rw [fG r (n+1) _ (fun z=>h (mem_cons_of_mem _ z)),lookup_cons]
   have:(x == y)=false:=by
    rw [beq_eq_false_iff_ne];intro e;subst e;exact h mem_cons_self
   rw [this]
  .exact fG r n acc (fun z=>h (mem_cons_of_mem _ z))
theorem fH{x y:Str}{c:Addr}:∀(names:List (Str×NameKind)) (n:Nat) (acc:List (Str×Addr)),(∀z d,acc.lookup z=some d->d<n) ->
  (cellsFrom n names acc).lookup x=some c->(cellsFrom n names acc).lookup y=some c->n<=c->x=y
 | [],n,acc,ha,h1,h2,hc=>absurd (ha x c h1) (not_lt.mpr hc)
 | (z,k)::r,n,acc,ha,h1,h2,hc=>by
  unfold cellsFrom at h1 h2
  split at h1
  .rename_i hk;rw [if_pos hk] at h2
   have ha':∀w d,((z,n)::acc).lookup w=some d->d<n+1:=fun w d e=>by
    rw [lookup_cons] at e
    cases q:w == z with
    | true=>rw [q] at e;cases e;exact lt_succ_self _
    | false=>rw [q] at e;exact lt_succ_of_lt (ha w d e)
   by_cases hcn:n+1<=c
   .exact fH r (n+1) _ ha' h1 h2 hcn
   .have e:c=n:=le_antisymm (not_lt.mp hcn) hc;subst e
    have key:∀w:Str,(cellsFrom (c+1) r ((z,c)::acc)).lookup w=some c->w=z:=fun w hw=>by
     rcases eC r (c+1) _ hw with ⟨q,_⟩|q
     .exact absurd q (not_succ_le_self _)
     .rw [lookup_cons] at q
      cases q2:w == z with
      | true=>simpa using q2
      | false=>rw [q2] at q;exact absurd (ha w c q) (Nat.lt_irrefl _)
    rw [key x h1,key y h2]
  .rename_i hk;rw [if_neg hk] at h2;exact fH r n acc ha h1 h2 hc
def iy(env:Env):List (Str×NameKind)->List (Str×Addr)->List (Str×Addr)
 | [],acc=>acc
 | (n,k)::r,acc=>if (k == .free)=true then iy env r ((n,(env.cells.lookup n).getD 0)::acc) else iy env r acc
theorem fJ{env:Env}{x:Str}{c:Addr}:∀(names:List (Str×NameKind)) (acc:List (Str×Addr)),(iy env names acc).lookup x=some c->((x,NameKind.free)∈names/\c=(env.cells.lookup x).getD 0)\/acc.lookup x=some c
 | [],acc,h=>.inr h
 | (y,k)::r,acc,h=>by
  unfold iy at h
  split at h
  .rename_i hk;have hk':k=.free:=by simpa using hk
   subst hk'
   rcases fJ r _ h with ⟨h1,h2⟩|h1
   .exact .inl ⟨mem_cons_of_mem _ h1,h2⟩
   .rw [lookup_cons] at h1
    cases e:x == y with
    | true =>
     rw [e] at h1;have ex:x=y:=by simpa using e
     subst ex;exact .inl ⟨mem_cons_self,(Option.some.inj h1).symm⟩
    | false=>rw [e] at h1;exact .inr h1
  .rcases fJ r acc h with ⟨h1,h2⟩|h1
   .exact .inl ⟨mem_cons_of_mem _ h1,h2⟩
   .exact .inr h1
theorem iL{env:Env}{x:Str}:∀(names:List (Str×NameKind)) (acc:List (Str×Addr)),((x,NameKind.free)∈names\/(acc.lookup x).isSome=true)->((iy env names acc).lookup x).isSome=true
 | [],acc,h=>h.elim (fun z=>nomatch z) id
 | (y,k)::r,acc,h=>by
  unfold iy
  split
  .rename_i hk;refine iL r _ ?_
   by_cases e:(x == y)=true
   .exact .inr (by rw [lookup_cons,e];rfl)
   .rcases h with h|h
    .rcases mem_cons.mp h with z|z
     .cases z;exact absurd (by simp) e
     .exact .inl z
    .exact .inr (by rw [lookup_cons];rw [not_eq_true] at e;rw [e];exact h)
  .rename_i hk;refine iL r acc ?_
   rcases h with h|h
   .rcases mem_cons.mp h with z|z
    .cases z;exact absurd rfl hk
    .exact .inl z
   .exact .inr h
theorem gg{scope:Scope}{env:Env}(h:∀x∈scope.names,x.2=.free->∃c,env.cells.lookup x.1=some c):closureFor scope env=pure (iy env scope.names []):=by
 unfold closureFor
 have key:∀(names:List (Str×NameKind)) (acc:List (Str×Addr)),(∀x∈names,x.2=.free->∃c,env.cells.lookup x.1=some c) ->
   (forIn names acc fun (x:Str×NameKind) (r:List (Str×Addr))=>(if (x.2 == NameKind.free)=true then do let y <- cellOf env x.1;pure (ForInStep.yield ((x.1,y)::r)) else pure (ForInStep.yield r):Sem _))=pure (iy env names acc):=by
  intro names
  induction names with
  | nil=>intro acc _;rfl
  | cons p r ih =>
   intro acc hp;obtain⟨n,k⟩:=p;rw [forIn_cons];have hr:∀x∈r,x.2=.free->∃c,env.cells.lookup x.1=some c:=fun x hx=>hp x (mem_cons_of_mem _ hx);unfold iy
   by_cases hk:(k == NameKind.free)=true
   .obtain⟨c,hc⟩:=hp (n,k) mem_cons_self (by simpa using hk);have hc':env.cells.lookup n=some c:=hc;have e1:cellOf env n=pure c:=by unfold cellOf;rw [hc']
    simp only [hk,if_true];rw [e1,hc'];simp only [pure_bind];exact ih _ hr
   .rw [if_neg hk,if_neg hk];simp only [pure_bind];exact ih _ hr
 have e:=key scope.names [] h;have e2:∀(m:Sem (List (Str×Addr))),(m >>= fun r=>pure r)=m:=fun m=>bind_pure m;rw [<- e]
 first
  | rfl
  | exact (e2 _)
def mP(scope:Scope)(C:Addr)(env:Env):Env :=
 { scope:=relabel scope env,locals:=C,globals:=env.globals,cells:=cellsFrom (C+1) scope.names (iy env scope.names []),qual:=env.qual,func:=none,code:=env.code,frame:=env.frame,builtins:=env.builtins }
def bt(X:Cx)(N':List Str)(scope:Scope)(s:Shared)(H:Hp)(fp:List Addr)(pins:List (Addr×Obj)):Cx :=
 { X with N:=N',s₀:=s,H₀:=H,env:=mP scope s.heap.objs.size X.env,outer:=X.stack,stack:=X.stack,ex:=fp,fn:=fun x=>decide ((x,NameKind.cell)∈scope.names),pn:=X.pn++pins,xe:=fun _ _=>False }
def mQ(sc0:Scope)(N:List Str)(scope:Scope)(N':List Str)(ix:List (Option Nat)):Bool :=
 decide (scope.kind=.function) && scope.names.all (fun y=>(!decide (y.2=.local) || decide (scope.names.lookup y.1=some .local)) &&
  (!decide (y.2=.free) || ((decide (sc0.names.lookup y.1=some .cell) || decide (sc0.names.lookup y.1=some .free)) && !decide ((y.1,NameKind.cell)∈scope.names)))) &&
 decide (N'.length=ix.length) && (N'.zip ix).all (fun p=>match p.2 with|none=>true|some j=>decide (N[j]?=some p.1) && decide (scope.names.lookup p.1=some .free))
structure qT (env:Env) (N:List Str) (scope:Scope) (N':List Str) (ix:List (Option Nat)):Prop where
 kind:scope.kind=.function
 loc:∀y∈scope.names,y.2=.local->scope.names.lookup y.1=some .local
 free:∀y∈scope.names,y.2=.free->(env.kindOf y.1=some .cell\/env.kindOf y.1=some .free)/\(y.1,NameKind.cell)∉scope.names
 len:N'.length=ix.length
 slot:∀(i:Nat) (x:Str) (j:Nat),N'[i]?=some x->ix[i]?=some (some j)->N[j]?=some x/\scope.names.lookup x=some .free
theorem oy{env:Env}{N:List Str}{scope:Scope}{N':List Str}{ix:List (Option Nat)}(h:mQ env.scope N scope N' ix=true):qT env N scope N' ix:=by
 unfold mQ at h;simp only [and_eq_true,decide_eq_true_eq,all_eq_true] at h;obtain⟨⟨⟨h1,h2⟩,h3⟩,h4⟩:=h
 refine⟨h1,fun y hy e=>?_,fun y hy e=>?_,h3,fun i x j e1 e2=>?_⟩
 .have:=(h2 y hy).1;rw [e] at this;simpa using this
 .have:=(h2 y hy).2;rw [e] at this;simpa [Env.kindOf] using this
 .have hm:(x,some j)∈N'.zip ix:=by
   refine mem_of_getElem? (i:=i) ?_;rw [getElem?_zip_eq_some];exact⟨e1,e2⟩
  have:=h4 _ hm;simpa using this
def rlf(env:Env)(p:Str×NameKind):Str×NameKind:=match p with|(n,k)=>if (k == NameKind.free && env.scope.kind == .function && env.kindOf n == some .cell) then (n,.cell) else (n,k)
theorem t5(env:Env)(n:Str)(k:NameKind):∃k',rlf env (n,k)=(n,k')/\(k'=k\/(k=.free/\k'=.cell)):=by
 unfold rlf
 by_cases c:(k == NameKind.free && env.scope.kind == .function && env.kindOf n == some .cell)=true
 .refine⟨.cell,if_pos c,.inr ⟨?_,rfl⟩⟩;simp only [and_eq_true,beq_iff_eq] at c;exact c.1.1
 .exact⟨k,if_neg c,.inl rfl⟩
theorem qU{env:Env}:∀{names:List (Str×NameKind)}{x:Str},names.lookup x=some .free->(names.map (rlf env)).lookup x=some .cell\/(names.map (rlf env)).lookup x=some .free
 | [],_,h=>by simp at h
 | (n,k)::r,x,h=>by
  have ih:=@qU env r x;obtain⟨k',e,hk'⟩:=t5 env n k;rw [map_cons,e]
  cases hx:x == n with
  | true =>
   simp only [lookup_cons,hx] at h ⊢;have hk:k=.free:=Option.some.inj h
   rcases hk' with z|z
   .right;rw [z,hk]
   .left;rw [z.2]
  | false =>
   simp only [lookup_cons,hx] at h ⊢;exact ih h
theorem mR{env:Env}:∀{names:List (Str×NameKind)}{x:Str}{k':NameKind},(names.map (rlf env)).lookup x=some k'->k'=.cell\/k'=.free->names.lookup x=some .cell\/names.lookup x=some .free
 | [],_,_,h,_=>by simp at h
 | (n,k)::r,x,k',h,hk'=>by
  have ih:=@mR env r x k';obtain⟨k2,e,hk2⟩:=t5 env n k;rw [map_cons,e] at h
  cases hx:x == n with
  | true =>
   simp only [lookup_cons,hx] at h ⊢;have:k2=k':=Option.some.inj h;subst this
   rcases hk2 with z|z
   .rw [<- z]
    rcases hk' with q|q
    .left;rw [q]
    .right;rw [q]
   .right;rw [z.1]
  | false =>
   simp only [lookup_cons,hx] at h ⊢;exact ih h hk'
theorem oz{x:Str}{c:Addr}:∀(names:List (Str×NameKind)) (n:Nat) (acc:List (Str×Addr)),(cellsFrom n names acc).lookup x=some c->(x,c)∈cellsFrom n names []\/acc.lookup x=some c:=by
 have app:∀(names:List (Str×NameKind)) (n:Nat) (acc:List (Str×Addr)),cellsFrom n names acc=cellsFrom n names []++acc:=by
  intro names
  induction names with
  | nil=>intro n acc;rfl
  | cons p r ih =>
   intro n acc;obtain⟨y,k⟩:=p;unfold cellsFrom
   split
   .rw [ih (n+1) ((y,n)::acc),ih (n+1) [(y,n)],append_assoc];rfl
   .exact ih n acc
 intro names n acc h;rw [app] at h;rw [lookup_append] at h
 cases e:(cellsFrom n names []).lookup x with
 | some d =>
  rw [e] at h;have:d=c:=by simpa using h
  subst this;exact .inl (mem_of_lookup e)
 | none=>rw [e] at h;exact .inr (by simpa using h)
def oA(ix:List (Option Nat))(σ:St):St:=ix.map fun o=>match o with
 | none=>none
 | some j=>match σ[j]? with
  | some v=>v
  | none=>none
section
variable {X:Cx}{pins:List (Addr×Obj)}{σ:St}{H:Hp}{s:Shared}
theorem qV{N':List Str}{ix:List (Option Nat)}{scope:Scope}{fp:List Addr}(ok:qT X.env X.N scope N' ix)(I:Inv X pins σ H s)(hf:∀b∈fp,pO X pins H b)(hfl:∀b∈fp,b<s.heap.objs.size) :
  Inv (bt X N' scope s H fp pins) [] (oA ix σ) H { s with heap:=pushCells (s.heap.push { cls:=.type "dict",data:=.dict #[] }) scope.names }:=by
 have hk4:∀b o,s.heap.get? b=some o->(pushCells (s.heap.push { cls:=.type "dict",data:=.dict #[] }) scope.names).get? b=some o:=fun b o e=>pushCells_keeps _ _ b o (Heap.get?_push_of_some _ e)
 have hclo:∀x c,(iy X.env scope.names []).lookup x=some c->X.env.cells.lookup x=some c:=fun x c e=>by
  rcases fJ scope.names [] e with ⟨h1,h2⟩|h1
  .obtain⟨d,hd⟩:=I.ok.has x (ok.free _ h1 rfl).1;rw [hd] at h2 ⊢;rw [h2];rfl
  .cases h1
 have hcl:∀x c,X.env.cells.lookup x=some c->c<s.heap.objs.size:=fun x c e=>by
  obtain⟨v,q⟩:=I.cell x c e;exact q.lt
 have own:=cellsFrom_ok scope.names (s.heap.push { cls:=.type "dict",data:=.dict #[] }) (s.heap.objs.size+1) [] ⟨fun _ _ hm=>(nomatch hm),List.Pairwise.nil⟩ (by rw [Heap.size_push];exact le_refl _);rw [Heap.size_push] at own
 have cases:∀x c,(cellsFrom (s.heap.objs.size+1) scope.names (iy X.env scope.names [])).lookup x=some c ->
   ((pushCells (s.heap.push { cls:=.type "dict",data:=.dict #[] }) scope.names).IsCell c none/\s.heap.objs.size+1<=c)\/X.env.cells.lookup x=some c:=fun x c e=>by
  rcases oz _ _ _ e with h|h
  .exact .inl (own.empty x c h)
  .exact .inr (hclo x c h)
 have fs':∀b,b∈frs X.stack->b<s.heap.objs.size:=fun b hb=>by
  rcases mem_cons.mp (I.stkSub b hb) with z|z
  .rw [z];exact I.lt
  .by_cases q:b<s.heap.objs.size
   .exact q
   .exact absurd z (I.nofs (not_lt.mp q))
 have cix:(bt X N' scope s H fp pins).Ok:=by
  refine⟨I.ok.mod,ok.kind,I.ok.glob,I.ok.blt,le_refl _,fun x y c h1 h2=>?_,fun x hx=>?_,fun x c hx e=>?_,I.ok.hd,I.ok.frames,.inl rfl,fun b hb=>⟨ne_of_lt (hfl b hb),fun x c e=>?_⟩,fun b o e=>I.bs b o e,le_trans I.ok.bsz I.sz,fun b o e hb=>?_,fun b hb=>?_,I.stack,I.stkFree⟩
  .rcases cases x c h1 with ⟨_,z⟩|z
   .exact fH scope.names _ _ (fun w d e=>lt_succ_of_lt (hcl w d (hclo w d e))) h1 h2 z
   .rcases cases y c h2 with ⟨_,z2⟩|z2
    .exact absurd (hcl x c z) (not_lt.mpr (le_of_succ_le z2))
    .exact I.ok.inj x y c z z2
  .have hx':scope.names.lookup x=some .cell\/scope.names.lookup x=some .free:=by
    rcases hx with z|z
    .exact mR (env:=X.env) z (.inl rfl)
    .exact mR (env:=X.env) z (.inr rfl)
   rcases hx' with z|z
   .exact Option.isSome_iff_exists.mp (PySem.W.cellsFrom_some scope.names _ _ (.inl z))
   .exact Option.isSome_iff_exists.mp (PySem.W.cellsFrom_some scope.names _ _ (.inr (iL _ _ (.inl (mem_of_lookup z)))))
  .have hx':(x,NameKind.cell)∈scope.names:=of_decide_eq_true hx
   rcases cases x c e with ⟨_,z⟩|z
   .exact le_of_succ_le z
   .rcases oz _ _ _ e with h|h
    .exact le_of_succ_le (own.empty x c h).2
    .rcases fJ scope.names [] h with ⟨h1,_⟩|h1
     .exact absurd hx' (ok.free _ h1 rfl).2
     .cases h1
  .intro z
   rcases cases x c e with ⟨_,z2⟩|z2
   .rw [z] at z2;exact absurd (hfl b hb) (not_lt.mpr (le_of_succ_le z2))
   .exact (hf b hb).2.2.2.2.1 x c z2 z
  .rcases (hf b hb).2.2.2.1 with z|z
   .exact I.ok.noex b o e z
   .exact absurd (Heap.lt_size (I.ok.bs b o e).1) (not_lt.mpr z)
  .intro z
   rcases mem_cons.mp (I.stkSub b z) with q|q
   .exact (hf b hb).2.1 q
   .exact (hf b hb).2.2.1 q
 refine⟨cix,rfl,I.bare,Un.kept hk4,⟨fun _=>none,?_,fun i x v e1 e2 e3=>?_⟩,fun x c e=>?_,I.hok.fresh (le_refl _),fun x c e=>?_,fun p hp=>?_,I.hok.kept hk4,?_⟩
 .exact (Heap.Ns.new s.heap (.type "dict")).keeps (pushCells_keeps _ _)
 .have e2':∃j,ix[i]?=some (some j)/\σ[j]?=some (some v):=by
   unfold oA at e2;rw [getElem?_map] at e2
   cases q:ix[i]? with
   | none=>rw [q] at e2;cases e2
   | some o =>
    rw [q] at e2
    cases o with
    | none=>cases (Option.some.inj e2)
    | some j =>
     refine⟨j,rfl,?_⟩;have e2'':(match σ[j]? with|some v=>v|none=>none)=some v:=Option.some.inj e2
     cases r:σ[j]? with
     | none=>rw [r] at e2'';cases e2''
     | some w=>rw [r] at e2'';exact congrArg some e2''
  obtain⟨j,hj,hv⟩:=e2';obtain⟨hN,hfr⟩:=ok.slot i x j e1 hj;have hk:=(ok.free _ (mem_of_lookup hfr) rfl).1
  have hvis:Vis X.env.scope x:=by
   rcases hk with z|z
   .exact .inr (.inl z)
   .exact .inr (.inr z)
  obtain⟨m,hn,hl⟩:=I.loc;obtain⟨u,ru,lk⟩:=hl j x v hN hv hvis
  refine⟨u,ru,.inr ⟨?_,?_⟩⟩
  .exact qU (env:=X.env) hfr
  .rcases lk with ⟨z,_⟩|⟨_,c,hc,hcell⟩
   .rcases hk with q|q
    .rw [z] at q;cases q
    .rw [z] at q;cases q
   .refine⟨c,?_,hcell.keeps hk4⟩;show (cellsFrom (s.heap.objs.size+1) scope.names (iy X.env scope.names [])).lookup x=some c;rw [fG scope.names _ _ (ok.free _ (mem_of_lookup hfr) rfl).2];obtain⟨d,hd⟩:=Option.isSome_iff_exists.mp (iL (env:=X.env) scope.names [] (.inl (mem_of_lookup hfr)));rw [hd,<- hclo x d hd,hc]
 .rcases cases x c e with ⟨z,_⟩|z
  .exact⟨none,z⟩
  .obtain⟨v,q⟩:=I.cell x c z;exact⟨v,q.keeps hk4⟩
 .rcases cases x c e with ⟨_,z⟩|z
  .exact I.hok.fresh (le_of_succ_le z)
  .exact I.freeC x c z
 .have hp':p∈X.pn++pins:=by simpa [bt] using hp
  obtain⟨q1,q2,q3,q4,q5⟩:=I.pin p hp';refine⟨hk4 _ _ q1,q2,ne_of_lt (Heap.lt_size q1),fun z=>?_,q5⟩
  rcases mem_cons.mp (I.stkSub p.1 z) with q|q
  .exact q3 q
  .exact q4 q
 .unfold oA;rw [length_map];exact ok.len.symm
end
section
variable {M:Model}{A:Around}{E:Value->Shared->Prop}{s:Shared}
theorem eE{scope:Scope}{globals:Addr}{cl:List (Str×Addr)}{qual:Str}{func:Option Addr}{code:Value}{env:Env}{Q:Env->Shared->Prop}
  (hQ:Q { scope:=scope,locals:=s.heap.objs.size,globals:=globals,cells:=cellsFrom (s.heap.objs.size+1) scope.names cl,qual:=qual,func:=func,code:=env.code,frame:=env.frame,builtins:=env.builtins }
   { s with heap:=pushCells (s.heap.push { cls:=.type "dict",data:=.dict #[] }) scope.names }) :
  wpAny M A (newFunctionEnv scope globals cl [] qual func code (some env)) Q E s:=by
 simp only [newFunctionEnv,Option.isSome_some,if_true];refine wpAny_bind (wpAny_alloc ?_);refine wpAny_bind (wpAny_layCells _ (fun name kind cells=>by cases hkc:kind == NameKind.cell <;> simp [hkc]) _ _ _ _ ?_);rw [show ({ s with heap:=s.heap.push { cls:=.type "dict",data:=.dict #[] } }:Shared).heap.objs.size=s.heap.objs.size+1 from Heap.size_push ..];simp only [forIn_nil];exact wpAny_bind (wpAny_pure (wpAny_pure hQ))
end
section
variable {prog:Program}{w:World}{A:Around}{R:Result->Shared->Prop}{s:Shared}
theorem oB{elt target iter:Expr}{ifs:List Expr}{scope:Scope}{pos:Pos}{it acc:Value}{env:Env}(I:Nat->Shared->Prop)
  (turn:∀n s,I n s->wpAny (model prog w) A (pyNext it) (fun r s₁=>match r with
   | none=>R (.ok .next) s₁
   | some v=>wpAny (model prog w) A (letOwnedTupleGo target it v) (fun _ s₂=>wpAny (model prog w) A (assign target env v) (fun _ s₃ =>
     wpAny (model prog w) A (forIn ifs true fun c r=>if r=true then do let ok <- isTrue c env (eval c env);pure (ForInStep.yield ok) else pure (ForInStep.yield r)) (fun ok s₄ =>
      if ok=true then wpAny (model prog w) A (eval elt env) (fun x s₅ =>
       wpAny (model prog w) A (call (.builtin "list.append") [acc,x]) (fun _ s₆=>∃m,m<n/\I m s₆) (fun _ _=>False) s₅) (fun _ _=>False) s₄
      else ∃m,m<n/\I m s₄) (fun _ _=>False) s₃) (fun _ _=>False) s₂) (fun _ _=>False) s₁) (fun _ _=>False) s)
  (n:Nat) (h:I n s) :
  codeAny (model prog w) A (.compLoop (.ListComp elt [⟨target,iter,ifs,0⟩] scope pos) 0 it acc env) R s:=by
 refine codeAny_loop rfl I (fun n s hI=>?_) n h;show wpAny _ A ((compTurn (.ListComp elt [⟨target,iter,ifs,0⟩] scope pos) 0 it acc env).onRaise (fun x=>do noteFrame x env;theTreesLotGoes x)) _ _ s;refine wpAny_noted ?_;rw [compTurn_list];refine wpAny_bind (wpAny_standAt (wpAny_bind (wpAny_mono (turn n s hI) (fun r s₁ h₁=>?_) fun _ _ h'=>h'.elim)))
 cases r with
 | none=>exact wpAny_pure h₁
 | some v =>
  refine wpAny_bind (wpAny_mono h₁ (fun _ s₂ h₂=>?_) fun _ _ h'=>h'.elim);refine wpAny_bind (wpAny_mono h₂ (fun _ s₃ h₃=>wpAny_bind (wpAny_mono h₃ (fun ok s₄ h₄=>?_) fun _ _ h'=>h'.elim)) fun _ _ h'=>h'.elim)
  cases ok with
  | false=>exact wpAny_pure ⟨rfl,h₄⟩
  | true =>
   exact wpAny_bind (wpAny_bind (wpAny_mono h₄ (fun x s₅ h₅=>wpAny_bind (wpAny_mono h₅ (fun _ s₆ h₆=>wpAny_pure (wpAny_pure ⟨rfl,h₆⟩)) fun _ _ h'=>h'.elim)) fun _ _ h'=>h'.elim))
end
def PIf(X:Cx)(ifs:List Expr)(t:TT):Prop :=
 ∀(pins:List (Addr×Obj)) (s:Shared) (σ:St) (H:Hp) (Q:Bool->Hp->Prop),Inv X pins σ H s->t σ H Q ->
  wpAny (model X.prog X.w) X.A (forIn ifs true fun c r=>if r=true then do let ok <- isTrue c X.env (eval c X.env);pure (ForInStep.yield ok) else pure (ForInStep.yield r)) (TP X pins σ Q) X.xe s
def nU:TT:=fun _ H Q=>Q true H
section
variable {X:Cx}
theorem dC:PIf X [] nU:=fun _ _ _ H _ I h=>wpAny_tests_nil ⟨H,I,h⟩
theorem jk{c:Expr}{t:TT}(h:PT X c t):PIf X [c] t:=fun pins s σ H Q I q=>wpAny_tests_one (h pins s σ H Q I q)
end
def rZ(ix:List (Option Nat))(wi:TI)(g:TG)(tts:TT)(te:TE):TE:=fun σ H Q=>wi σ H fun J H1=>∀D,H1 D=none->∃W:Nat->Nat->St->Hp->Prop,(∃m,W 0 m (oA ix σ) (upd H1 D (.lst [])))/\∀i m τ H2,W i m τ H2 ->
 (J.stop i H2/\Q (.ref D) H2)\/(J.go i H2/\∀x H3,J.yld i H2 x H3->g x τ H3 fun τ2 H4=>tts τ2 H4 fun ok H5=>if ok=true then te τ2 H5 fun v H6=>∃ys,H6 D=some (.lst ys)/\ys.length<sizeLine/\∃m',m'<m/\W (i+1) m' τ2 (upd H6 D (.lst (ys++[v])))
  else ∃m',m'<m/\W (i+1) m' τ2 H5)
section
variable {X:Cx}{tg iter elt:Expr}{ifs:List Expr}{scope:Scope}{N':List Str}{ix:List (Option Nat)}{wi:TI}{g:TG}{tts:TT}{te:TE}
theorem t6{use:Option (Value->Sem Unit)}{Qf:Value->Shared->Prop}{pos p':Pos}{pins:List (Addr×Obj)}{σ:St}{H:Hp}{s:Shared}{Q:VK}(hc:X.calm=true)(ok:qT X.env X.N scope N' ix)(hi:PI X tg iter wi)
  (blk:∀s H fp pn,PG (bt X N' scope s H fp pn) tg g/\PIf (bt X N' scope s H fp pn) ifs tts/\PE (bt X N' scope s H fp pn) elt te)
  (hs:∀x,foldedSetIterable iter X.env x=pure x) (I:Inv X pins σ H s) (hw:rZ ix wi g tts te σ H Q)
  (fin:∀D C H' s',Inv X pins σ H' s'->Q (.ref D) H'->(∃m,s'.heap.Ns C m)->H' C=none->X.s₀.heap.objs.size<=C->C≠X.env.locals->(∀x c,X.env.cells.lookup x=some c->c≠C)->C∉X.fs->(∀p∈X.pn++pins,p.1≠C) ->
   compPost (model X.prog X.w) X.A X.xe use Qf (.ref D) C (.ok .next) s') :
  wpAny (model X.prog X.w) X.A (comprehension (.ListComp elt [⟨tg,iter,ifs,0⟩] scope pos) scope X.env p' (newList []) false (eval iter X.env) use) Qf X.xe s:=by
 have hclos:closureFor scope X.env=pure (iy X.env scope.names []):=gg fun y hy e=>I.ok.has y.1 (ok.free y hy e).1;refine wpAny_comprehension_free (use:=use) rfl hs hclos ok.kind ok.loc (thn (hi pins s σ H _ I hw) fun v s1 h1=>thn h1 fun itv s2 h2=>?_);obtain⟨it,fp,tn,J,H2,e,I2,T,st2,f2,hW⟩:=h2;subst e;obtain⟨W,⟨m0,w0⟩,turn⟩:=hW s2.heap.objs.size (I2.hok.fresh (le_refl _))
 have hfl:∀b∈fp,b<s2.heap.objs.size:=fun b hb=>by
  obtain⟨o,e,_⟩:=T.obj 0 _ st2 b hb;exact Heap.lt_size e
 refine wpAny_newObj_type ?_
 have I3:Inv X pins σ (upd H2 s2.heap.objs.size (.lst [])) { s2 with heap:=s2.heap.push { cls:=.type "list",dict:=none,data:=.seq ([]:List Value).toArray } } :=
  I2.laid (t':=s2.toks) (fun b o e=>Heap.get?_push_of_some _ e) (le_refl _) (show bK X.prog X.w _ _ _ (.lst []) from ⟨zero_le _,[],0,.nil,Heap.get?_push_size _ rfl⟩)
 have st3:tn 0 (s2.heap.push { cls:=.type "list",dict:=none,data:=.seq ([]:List Value).toArray }):=T.keep 0 _ _ st2 fun b _ o e=>Heap.get?_push_of_some _ e;have f3:∀b∈fp,pO X pins (upd H2 s2.heap.objs.size (.lst [])) b:=fun b hb=>⟨by rw [ap (ne_of_lt (hfl b hb))];exact (f2 b hb).1,(f2 b hb).2⟩
 have hfl3:∀b∈fp,b<(s2.heap.push { cls:=.type "list",dict:=none,data:=.seq ([]:List Value).toArray }).objs.size:=fun b hb=>by rw [Heap.size_push];exact lt_succ_of_lt (hfl b hb)
 generalize hs3:({ s2 with heap:=s2.heap.push { cls:=.type "list",dict:=none,data:=.seq ([]:List Value).toArray } }:Shared)=s3 at I3 ⊢;have eh3:s3.heap=s2.heap.push { cls:=.type "list",dict:=none,data:=.seq ([]:List Value).toArray }:=by rw [<- hs3]
 rw [<- eh3] at st3 hfl3;generalize hH3:upd H2 s2.heap.objs.size (.lst [])=H3 at I3 f3 w0;generalize hD:s2.heap.objs.size=D at *;refine eE ?_;have I4:=qV ok I3 f3 hfl3;obtain⟨hg,ht,he⟩:=blk s3 H3 fp pins;have st4:tn 0 (pushCells (s3.heap.push { cls:=.type "dict",data:=.dict #[] }) scope.names):=T.keep 0 _ _ st3 fun b _ o e=>pushCells_keeps _ _ b o (Heap.get?_push_of_some _ e)
 have stat:∀{H':Hp},(∀b∈fp,H' b=none)->∀b∈fp,pO (bt X N' scope s3 H3 fp pins) [] H' b:=fun hn b hb=>by
  refine⟨hn b hb,ne_of_lt (hfl3 b hb),I4.ok.exfs b hb,.inl hb,(I4.ok.exf b hb).2,fun p hp=>?_⟩;have hp':p∈X.pn++pins:=by simpa [bt] using hp
  exact (f2 b hb).2.2.2.2.2 p hp'
 have loop:∀(s4:Shared),Inv (bt X N' scope s3 H3 fp pins) [] (oA ix σ) H3 s4->tn 0 s4.heap ->
   codeAny (model X.prog X.w) X.A (.compLoop (.ListComp elt [⟨tg,iter,ifs,0⟩] scope pos) 0 (.ref it) (.ref D) (mP scope s3.heap.objs.size X.env)) (compPost (model X.prog X.w) X.A X.xe use Qf (.ref D) s3.heap.objs.size) s4:=by
  intro s4 I4 st4;refine oB (fun n s'=>∃i τ H',Inv (bt X N' scope s3 H3 fp pins) [] τ H' s'/\tn i s'.heap/\(∀b∈fp,H' b=none)/\W i n τ H') ?_ m0 ⟨0,_,H3,I4,st4,fun b hb=>(f3 b hb).1,w0⟩;rintro n s5 ⟨i,τ,H5,I5,st5,fr5,w5⟩
  rcases turn i n τ H5 w5 with ⟨stop,qn⟩|⟨go,step⟩
  .refine thn (T.done (bt X N' scope s3 H3 fp pins) rfl rfl rfl hc i [] s5 τ H5 (fun _ _=>False) I5 (stat fr5) st5 stop) fun r s6 ⟨hr,I6⟩=>?_;subst hr;have I7:Inv X pins σ H5 s6:=I3.call' (ch:=fp) I6.os I6.base I6.hok I6.bare fun b hb=>⟨(f2 b hb).2.2.2.1,(f2 b hb).2.1,(f2 b hb).2.2.2.2.1,(f2 b hb).2.2.2.2.2⟩
   obtain⟨m6,hn6,_⟩:=I6.loc
   refine fin D s3.heap.objs.size H5 s6 I7 qn ⟨m6,hn6⟩ I6.free ?_ ?_ ?_ ?_ ?_
   .exact I3.sz
   .exact ne_of_gt I3.lt
   .intro x c e z;obtain⟨v,q⟩:=I3.cell x c e;have:=q.lt;rw [z] at this;exact Nat.lt_irrefl _ this
   .exact I3.nofs (le_refl _)
   .intro p hp z;have:=Heap.lt_size (I3.pin p hp).1;rw [z] at this;exact Nat.lt_irrefl _ this
  .refine thn (T.item (bt X N' scope s3 H3 fp pins) rfl rfl rfl hc i [] s5 τ H5 (fun _ _=>False) I5 (stat fr5) st5 go) fun r s6 ⟨u,hr,h6⟩=>?_;subst hr;refine thn h6 fun _ s7 ⟨x,H7,I7,r7,y7,st7,fr7⟩=>?_;have I7':=I7.pinned (stat fr7) (T.obj _ _ st7)
   have again:∀{s8:Shared}{τ8:St}{H8:Hp},Inv (bt X N' scope s3 H3 fp pins) ([]++ke fp s7.heap) τ8 H8 s8->(∃m',m'<n/\W (i+1) m' τ8 H8) ->
     ∃m,m<n/\∃i τ H',Inv (bt X N' scope s3 H3 fp pins) [] τ H' s8/\tn i s8.heap/\(∀b∈fp,H' b=none)/\W i m τ H':=fun {s8 τ8 H8} I8 ⟨m',hm,w8⟩=>by
    refine⟨m',hm,i+1,τ8,H8,I8.unpinned,T.keep _ _ _ st7 fun b hb o e=>(I8.pin (b,o) (mem_append_right _ (mem_append_right _ (dh hb e)))).1,fun b hb=>?_,w8⟩;obtain⟨o,e,d⟩:=T.obj _ _ st7 b hb;exact (I8.pin (b,o) (mem_append_right _ (mem_append_right _ (dh hb e)))).2.1
   refine thn (hg _ s7 τ H7 x u _ I7' r7 (step x H7 y7)) fun _ s8 ⟨τ8,H8,I8,q8⟩=>?_;refine thn (ht _ s8 τ8 H8 _ I8 q8) fun okb s9 ⟨H9,I9,q9⟩=>?_
   cases okb with
   | false =>
    rw [if_neg Bool.false_ne_true] at q9;rw [if_neg Bool.false_ne_true];exact again I9 q9
   | true =>
    rw [if_pos rfl] at q9;rw [if_pos rfl];refine thn (he _ s9 τ8 H9 _ I9 q9) fun v10 s10 ⟨x10,H10,I10,r10,q10⟩=>?_;obtain⟨ys,hD10,hz,m',hm,w10⟩:=q10;refine thn (fj (X:=bt X N' scope s3 H3 fp pins) _ s10 τ8 H10 (.ref D) [x10] (.ref D) [v10] (fun _ H'=>∃m',m'<n/\W (i+1) m' τ8 H') I10 rfl (.cons r10 .nil) ⟨D,ys,x10,rfl,rfl,hD10,hz,m',hm,w10⟩) fun _ s11 ⟨_,H11,I11,_,q11⟩=>?_;exact again I11 q11
 exact codeAny_compStart_list (loop _ I4 st4) (T.self X.A 0 _ _ _ st4 (loop _ I4 st4))
theorem cE{pos:Pos}(N':List Str)(ix:List (Option Nat))(hc:X.calm=true)(hi:PI X tg iter wi)
  (blk:∀s H fp pn,PG (bt X N' scope s H fp pn) tg g/\PIf (bt X N' scope s H fp pn) ifs tts/\PE (bt X N' scope s H fp pn) elt te)
  (chk:mQ X.env.scope X.N scope N' ix=true) (hs:∀x,foldedSetIterable iter X.env x=pure x:=by intro _;rfl) :
  PE X (.ListComp elt [⟨tg,iter,ifs,0⟩] scope pos) (rZ ix wi g tts te):=by
 intro pins s σ H Q I hw;rw [eval_ListComp];refine t6 (use:=none) hc (oy chk) hi blk hs I hw fun D C H' s' I' q hm hn h1 h2 h3 h4 h5=>?_;obtain⟨m,hm⟩:=hm;refine⟨m,hm,fun h' sb=>⟨.ref D,H',?_,rfl,q⟩⟩;exact I'.turned (t':=s'.toks) (fun b o hb e=>(sb.2 b hb).trans e) hn h2 (.inr h1) h3 h5
end
def xw(p:Addr)(a b c:Int):HO:=.ext fun h=>∃t u v,IsRange h p a b c t u v
def pX(a c:Int)(n:Nat):List V:=(List.range n).map fun (k:Nat)=>V.int (a+k*c)
theorem r8{a c:Int}{n:Nat}{acc:Array Value}(h:ItemsOf (fun i v=>∃t,v=.int (a+i*c) t) acc n):bZ (pX a c n) acc.toList:=by
 obtain⟨hn,hi⟩:=h
 have key:∀(m:Nat) (us:List Value) (f:Nat->Int),us.length=m->(∀i u,us[i]?=some u->∃t,u=Value.int (f i) t)->bZ ((List.range m).map fun k=>V.int (f k)) us:=by
  intro m
  induction m with
  | zero=>intro us f hl _;rw [length_eq_zero_iff] at hl;subst hl;exact .nil
  | succ m ih =>
   intro us f hl hu
   cases us with
   | nil=>simp at hl
   | cons u r =>
    rw [range_succ_eq_map,map_cons,map_map];refine .cons (hu 0 u rfl) (ih r (fun k=>f (k+1)) (by simpa using hl) fun i v e=>hu (i+1) v (by simpa using e))
 refine key n acc.toList (fun k=>a+k*c) (by simpa using hn) fun i u e=>?_;exact hi i u (by simpa using e)
theorem t7(a c:Int)(n:Nat):(pX a c n).length=n:=by simp [pX]
section
variable {X:Cx}
theorem wf{pins:List (Addr×Obj)}{σ:St}{H:Hp}{s:Shared}{a b c:Int}{t u v:Tok}{tk:Nat}(I:Inv X pins σ H s) :
  Inv X pins σ (upd H s.heap.objs.size (xw s.heap.objs.size a b c)) { s with heap:=s.heap.push { cls:=.type "range",data:=.fields #[.int a t,.int b u,.int c v] },toks:=tk }:=by
 refine I.laid (fun b o e=>Heap.get?_push_of_some _ e) (le_refl _) ⟨⟨t,u,v,IsRange.new ..⟩,⟨_,Heap.get?_push_size _ rfl⟩,fun h1 h2 ⟨t,u,v,z⟩ k=>⟨t,u,v,k _ z⟩⟩
theorem t9{a:Expr}{ta:TA}{p pos:Pos}(hg:Gl X "range")(hm:X.mg "range"=none)(ha:PA X [a] ta)(hs:starEach [a] X.env=[(false,eval a X.env)]:=by rfl) :
  PE X (.Call (.Name "range" p) [a] [] pos) (fun σ H Q=>ta σ H fun vs H1=>∃j:Int,vs=[.int j]/\∀p,H1 p=none->Q (.ref p) (upd H1 p (xw p 0 j 1))):=by
 intro pins s σ H Q I h;refine Call_ (jH I hg hm boot_range (PyProof.Rows.callWith_type1 (thn (ha pos pins s σ H _ I h) fun us s1 ⟨vs,H1,I1,r1,q1⟩=>?_) hs rfl));obtain⟨j,e,q⟩:=q1;subst e
 cases r1 with
 | cons r rr =>
  cases rr;obtain⟨t,rfl⟩:=r;exact call_range_1 ⟨.ref s1.heap.objs.size,_,wf I1,rfl,q _ (I1.hok.fresh (le_refl _))⟩
def CP(K:PySem.W.Frag)(mk:List V->HO):List V->Hp->VK->Prop:=fun xs H Q=>∃p a b c n,xs=[.ref p]/\H p=some (xw p a b c)/\Builtin.Range.small a b c=true/\Builtin.Range.rangeSize a b c=((n:Nat):Int)/\n<=1000000/\∀l,H l=none->Q (.ref l) (upd H l (mk (pX a c n)))
theorem sd(hc:X.calm=true):bJ X (.type "list") (CP X.K .lst):=by
 intro pins s σ H xs us Q I r h;obtain⟨p,a,b,c,n,rfl,hp,hsm,hsz,hn,q⟩:=h;obtain⟨u,rfl,rx⟩:=gJ r;cases rx;obtain⟨⟨t,u,v,hr⟩,_,_⟩:=(show bK X.prog X.w H s.heap p (xw p a b c) from I.hok p _ hp)
 have hs:sizeLine=16777216:=sizeLine_eq;refine call_list_range (I.ok.hd hc) hr hsm hsz (by omega) fun h' tk acc c' hk e hacc=>?_;exact⟨.ref s.heap.objs.size,_,I.laid (t':=tk) hk (le_refl _) (show bK X.prog X.w _ h' _ (.lst (pX a c n)) from ⟨by rw [t7];omega,acc.toList,c',r8 hacc,by simpa using e⟩),rfl,q _ (I.hok.fresh (le_refl _))⟩
theorem iM{α β:Type}{g:α->Option β}{h:α->β}:∀{xs:List α},(∀x∈xs,g x=some (h x))->xs.filterMap g=xs.map h
 | [],_=>rfl
 | x::r,hx=>by rw [filterMap_cons,hx x mem_cons_self,map_cons,iM fun y hy=>hx y (mem_cons_of_mem _ hy)]
theorem CQ(l:List Nat)(u:Tok):Txt.sliceBy (S l) none none (-1,u)=S l.reverse:=by
 have e1:((slicePicked (S l) none none (some (-1,u))).filterMap ((S l).cps[·]?))=l.reverse:=by
  unfold slicePicked Builtin.Str.strSliceIndices sliceRange;simp only [Option.map_some,Option.getD_some,Option.map_none,show ¬ ((-1:Int) > 0) by decide,if_false];rw [fk]
  have ec:(if ((l.length:Int) - 1 > -1) then ((l.length:Int) - 1 - -1 - -1 - 1) / (- -1) else 0).toNat=l.length:=by
   have:(- -1:Int)=1:=by decide
   rw [this,ediv_one];split <;> omega
  rw [ec]
  have e:((List.range l.length).map fun (k:Nat)=>((l.length:Int) - 1+-1*(k:Int)).toNat)=(List.range l.length).map fun k=>l.length - 1 - k:=by
   apply map_congr_left;intro k _;omega
  rw [e];have e2:(fun i:Nat=>(S l).cps[i]?)=fun i:Nat=>l[i]?:=by funext i;simp [S]
  rw [e2];apply ext_getElem?;intro i;rw [filterMap_map]
  have hall:∀x∈List.range l.length,((fun i:Nat=>l[i]?) ∘ fun k=>l.length - 1 - k) x=some (fn l (l.length - 1 - x)):=fun x hx=>by
   have hx':x<l.length:=mem_range.mp hx;have hx2:l.length - 1 - x<l.length:=by omega
   exact xv hx2
  rw [iM hall]
  by_cases hi:i<l.length
  .rw [getElem?_map,getElem?_range hi,getElem?_reverse hi,xv (by omega)];rfl
  .rw [getElem?_eq_none (by simp;omega),getElem?_eq_none (by simp;omega)]
 unfold Txt.sliceBy;rw [if_neg (by simp),e1];rfl
end
def e8(k:Bool)(h:Heap)(a:Addr)(its:Array Value):Prop:=∃o,h.get? a=some o/\o.cls=.type (cond k "tuple" "list")/\∃n,o.data=.seq its n
def cO(k:Bool)(h:Heap)(it a:Addr)(i:Nat):Prop:=∃o,h.get? it=some o/\o.cls=.type (cond k "tuple_iterator" "list_iterator")/\o.data=.fields #[.ref a,.int i 0]
theorem e8.mv{k:Bool}{h h':Heap}{a:Addr}{its:Array Value}(r:e8 k h a its)(f:∀o,h.get? a=some o->h'.get? a=some o):e8 k h' a its:=let ⟨o,e,q⟩:=r;⟨o,f o e,q⟩
theorem cO.mv{k:Bool}{h h':Heap}{it a:Addr}{i:Nat}(r:cO k h it a i)(f:∀o,h.get? it=some o->h'.get? it=some o):cO k h' it a i:=let ⟨o,e,q⟩:=r;⟨o,f o e,q⟩
section
variable {P:Program}{w:World}{A:Around}{E:Value->Shared->Prop}{s:Shared}{k:Bool}{it a:Addr}{i:Nat}{its:Array Value}
theorem oC{x:Value}{Q:Value->Shared->Prop}(W:s.heap.IsTupleIter it a i)(R:s.heap.IsTuple a its)(hx:its[i]?=some x)
  (hQ:∀h',h'.IsTupleIter it a (i+1)->Heap.SameBut it s.heap h'->Q x { s with heap:=h' }):wpAny (model P w) A (Builtin.SmallTypes.nextOf (.ref it)) Q E s:=by
 have hT:=W.typeIs;obtain⟨o,ho,c,d⟩:=W;obtain⟨ol,hol,_,nl,dl⟩:=R;unfold Builtin.SmallTypes.nextOf;refine wpAny_bind (wpAny_callSpecial?_slot (name:=Str.ofString "__next__") hT F.slot_tuple_iterator_next (wpAny_call_entry F.slot_tuple_iterator_next hT F.entry_tuple_iterator_next ?_ (F.args_tuple_iterator_next_1 _)));refine wpAny_bind (m:=field (.ref it) 0) (wpAny_field ho d (x:=.ref a) rfl ?_);have nn:¬ ((Value.ref a == Value.none)=true):=Bool.false_ne_true
 show wpAny _ _ (if (Value.ref a == Value.none)=true then _ else _) _ _ s;rw [if_neg nn];refine wpAny_bind (m:=field (.ref it) 1) (wpAny_field ho d (x:=.int i 0) rfl ?_);refine wpAny_bind (m:=seqItems? (.ref a)) (wpAny_seqItems hol dl ?_);simp only [toNat_natCast,hx];exact wpAny_bind (wpAny_setField ho d (by simp) (wpAny_pure ⟨x,rfl,wpAny_pure (hQ _ ⟨_,Heap.get?_update_self _ ho (Obj.isFreed_of_fields (Obj.data_mapFields d _)),(Obj.cls_mapFields ..).trans c,by rw [Obj.data_mapFields d];simp [rawInt]⟩ (Heap.SameBut.update ..))⟩))
theorem pY{Q:Value->Shared->Prop}(hh:A.handled=none)(W:s.heap.IsTupleIter it a i)(R:s.heap.IsTuple a its)(hx:its[i]?=none)
  (hE:∀h' e,Heap.ExtBut it s.heap h'->(∃o,h'.get? e=some o/\o.cls=.type "StopIteration")->E (.ref e) { s with heap:=h' }):wpAny (model P w) A (Builtin.SmallTypes.nextOf (.ref it)) Q E s:=by
 have hT:=W.typeIs;obtain⟨o,ho,c,d⟩:=W;obtain⟨ol,hol,_,nl,dl⟩:=R;unfold Builtin.SmallTypes.nextOf;refine wpAny_bind (wpAny_callSpecial?_slot (name:=Str.ofString "__next__") hT F.slot_tuple_iterator_next (wpAny_call_entry F.slot_tuple_iterator_next hT F.entry_tuple_iterator_next ?_ (F.args_tuple_iterator_next_1 _)));refine wpAny_bind (m:=field (.ref it) 0) (wpAny_field ho d (x:=.ref a) rfl ?_);have nn:¬ ((Value.ref a == Value.none)=true):=Bool.false_ne_true
 show wpAny _ _ (if (Value.ref a == Value.none)=true then _ else _) _ _ s;rw [if_neg nn];refine wpAny_bind (m:=field (.ref it) 1) (wpAny_field ho d (x:=.int i 0) rfl ?_);refine wpAny_bind (m:=seqItems? (.ref a)) (wpAny_seqItems hol dl ?_);simp only [toNat_natCast,hx];refine wpAny_bind (wpAny_rule (wpAny_bind (wpAny_setField ho d (by simp) (wpAny_bind (m:=newExc (.type "StopIteration") []) ?_))));simp only [newExc,newTuple]
 refine wpAny_bind (wpAny_newObj_type (wpAny_bind (m:=firstArgMember _ _) (wpAny_of_eq (a:=Value.none) (by first|rfl|(simp only [firstArgMember];rfl)) (wpAny_newObj_type ?_ (by size_fits)))) (by size_fits));simp only [raiseNew];refine wpAny_bind (wpAny_handled ?_)
 first|rw [show A.in1.handled=none from hh]|rw [hh]
 exact wpAny_bind (wpAny_pure (wpAny_throw (hE _ _ (((Heap.SameBut.update ..).extBut.push _).push _) ⟨_,Heap.get?_push_size _ rfl,rfl⟩)))
theorem eT{x:Value}{Q:Value->Shared->Prop}(W:cO k s.heap it a i)(R:e8 k s.heap a its)(hx:its[i]?=some x)
  (hQ:∀h',cO k h' it a (i+1)->Heap.SameBut it s.heap h'->Q x { s with heap:=h' }):wpAny (model P w) A (Builtin.SmallTypes.nextOf (.ref it)) Q E s:=by
 cases k with
 | false=>exact wpAny_nextOf_list_item W R hx hQ
 | true=>exact oC W R hx hQ
theorem fK{Q:Value->Shared->Prop}(hh:A.handled=none)(W:cO k s.heap it a i)(R:e8 k s.heap a its)(hx:its[i]?=none)
  (hE:∀h' e,Heap.ExtBut it s.heap h'->(∃o,h'.get? e=some o/\o.cls=.type "StopIteration")->E (.ref e) { s with heap:=h' }):wpAny (model P w) A (Builtin.SmallTypes.nextOf (.ref it)) Q E s:=by
 cases k with
 | false=>exact wpAny_nextOf_list_end hh W R hx hE
 | true=>exact pY hh W R hx hE
end
structure ZA (z U V i j:Addr):Prop where
 Uz:U≠z
 Vz:V≠z
 iz:i≠z
 jz:j≠z
 UV:U≠V
 Ui:U≠i
 Uj:U≠j
 Vi:V≠i
 Vj:V≠j
 ij:i≠j
section
variable {P:Program}{w:World}{A:Around}{E:Value->Shared->Prop}{s:Shared}{k l:Bool}{z U V i j a c:Addr}{n:Nat}{xs ys:Array Value}{x y u v:Value}
theorem yu{Q:Value->Shared->Prop}(D:ZA z U V i j)(az:a≠z)(cz:c≠z)(ci:c≠i)(cV:c≠V)(hz:IsZip s.heap z U V .none)(hU:IsPair s.heap U (.ref i) (.ref j))(hV:IsPair s.heap V u v)
  (W1:cO k s.heap i a n) (W2:cO l s.heap j c n) (R1:e8 k s.heap a xs) (R2:e8 l s.heap c ys) (hx:xs[n]?=some x) (hy:ys[n]?=some y)
  (hQ:∀h',IsZip h' z U V (rawInt s.heap.objs.size)->IsPair h' V x y->cO k h' i a (n+1)->cO l h' j c (n+1)->IsPair h' s.heap.objs.size x y->h'.objs.size=s.heap.objs.size+1 ->
   (∀b o,b≠z->b≠V->b≠i->b≠j->s.heap.get? b=some o->h'.get? b=some o)->Q (.ref s.heap.objs.size) { s with heap:=h' }) :
  wpAny (model P w) A (Builtin.«zip.__next__» ⟨[.ref z],[]⟩) (fun f s'=>∃r,f=.done (.ret r)/\Q r s') E s:=by
 refine wpAny_bind (m:=field (.ref z) 2) (wpAny_field hz rfl (x:=.bool false) rfl (wpAny_bind (m:=field (.ref z) 3) (wpAny_field hz rfl (x:=.ref U) rfl (wpAny_bind (wpAny_seqItems hU rfl ?_)))));refine wpAny_bind (m:=Builtin.SmallTypes.ownedTupleIsFree (.ref z)) ?_;unfold Builtin.SmallTypes.ownedTupleIsFree;refine wpAny_bind (wpAny_field hz rfl (x:=.none) rfl (wpAny_pure ?_));simp only [if_true];refine wpAny_bind (wpAny_rule (wpAny_bind (wpAny_field hz rfl (x:=.ref V) rfl (wpAny_bind (wpAny_setField_rec hz (by simp) fun g1 z1 b1=>wpAny_bind ?_)))))
 replace z1:IsZip g1 z U V .ellipsis:=z1
 simp only [zipIdx_cons,zipIdx_nil,forIn_cons,forIn_nil];have e1:=b1.extBut;refine wpAny_bind (wpAny_bind (wpAny_onRaise (wpAny_bind (m:=Builtin.SmallTypes.nextOf (.ref i)) (eT (W1.mv fun o e=>e1 _ o D.iz e) (R1.mv fun o e=>e1 _ o az e) hx fun g2 w1 b2=>wpAny_pure ?_))));have e2:=b2.extBut;have v2:IsPair g2 V u v:=e2 _ _ D.Vi (e1 _ _ D.Vz hV);refine wpAny_bind (wpAny_seqItems v2 rfl (wpAny_bind (wpAny_updateSeq_pair v2 fun g3 v3 b3=>wpAny_bind (wpAny_letGo (wpAny_pure ?_)))))
 replace v3:IsPair g3 V x v:=v3
 have e3:=b3.extBut;refine wpAny_bind (wpAny_bind (wpAny_onRaise (wpAny_bind (m:=Builtin.SmallTypes.nextOf (.ref j)) (eT (W2.mv fun o e=>e3 _ o D.Vj.symm (e2 _ o D.ij.symm (e1 _ o D.jz e))) (R2.mv fun o e=>e3 _ o cV (e2 _ o ci (e1 _ o cz e))) hy fun g4 w2 b4=>wpAny_pure ?_))));have e4:=b4.extBut;have v4:IsPair g4 V x v:=e4 _ _ D.Vj v3;refine wpAny_bind (wpAny_seqItems v4 rfl (wpAny_bind (wpAny_updateSeq_pair v4 fun g5 v5 b5=>wpAny_bind (wpAny_letGo (wpAny_pure (wpAny_pure ?_))))))
 replace v5:IsPair g5 V x y:=v5
 have e5:=b5.extBut;refine wpAny_bind (wpAny_seqItems v5 rfl (wpAny_bind (wpAny_newTuple ?_)));have sz:g5.objs.size=s.heap.objs.size:=by rw [b5.1,b4.1,b3.1,b2.1,b1.1]
 have z5:IsZip g5 z U V .ellipsis:=e5 _ _ D.Vz.symm (e4 _ _ D.jz.symm (e3 _ _ D.Vz.symm (e2 _ _ D.iz.symm z1)));have k5:∀b o,b≠z->b≠V->b≠i->b≠j->s.heap.get? b=some o->g5.get? b=some o:=fun b o q1 q2 q3 q4 e=>e5 _ _ q2 (e4 _ _ q4 (e3 _ _ q2 (e2 _ _ q3 (e1 _ _ q1 e))));have w15:cO k g5 i a (n+1):=w1.mv fun o e=>e5 _ o D.Vi.symm (e4 _ o D.ij (e3 _ o D.Vi.symm e));have w25:cO l g5 j c (n+1):=w2.mv fun o e=>e5 _ o D.Vj.symm e
 have zlt:z<g5.objs.size:=Heap.lt_size z5;refine wpAny_bind (m:=Builtin.SmallTypes.ownedTupleHandOut (.ref z) (.ref g5.objs.size)) ?_;unfold Builtin.SmallTypes.ownedTupleHandOut;have z6:IsZip (g5.push { cls:=.type "tuple",data:=.seq #[x,y] }) z U V .ellipsis:=Heap.get?_push_of_some _ z5;refine wpAny_bind (wpAny_setField_rec z6 (by simp) fun g7 z7 b7=>?_)
 replace z7:IsZip g7 z U V (rawInt g5.objs.size):=z7
 refine wpAny_setField_rec z7 (by simp) fun g8 z8 b8=>?_
 replace z8:IsZip g8 z U V (rawInt g5.objs.size):=z8
 have up:∀b o,b≠z->g5.get? b=some o->g8.get? b=some o:=fun b o q e=>b8.extBut _ _ q (b7.extBut _ _ q (Heap.get?_push_of_some _ e));have t8:IsPair g8 g5.objs.size x y:=b8.extBut _ _ (ne_of_gt zlt) (b7.extBut _ _ (ne_of_gt zlt) (Heap.get?_push_size _ rfl));have s8:g8.objs.size=g5.objs.size+1:=by rw [b8.1,b7.1,Heap.size_push]
 rw [sz] at z8 t8 s8;refine wpAny_pure ⟨_,rfl,?_⟩;show Q (.ref g5.objs.size) _;rw [sz];exact hQ g8 z8 (up _ _ D.Vz v5) (w15.mv fun o e=>up _ o D.iz e) (w25.mv fun o e=>up _ o D.jz e) t8 s8 fun b o q1 q2 q3 q4 e=>up b o q1 (k5 b o q1 q2 q3 q4 e)
theorem A0{Q:Fin->Shared->Prop}(hh:A.handled=none)(D:ZA z U V i j)(az:a≠z)(cz:c≠z)(ci:c≠i)(cV:c≠V)(hz:IsZip s.heap z U V .none)(hU:IsPair s.heap U (.ref i) (.ref j))(hV:IsPair s.heap V u v)
  (W1:cO k s.heap i a n) (W2:cO l s.heap j c n) (R1:e8 k s.heap a xs) (R2:e8 l s.heap c ys) (hend:xs[n]?=none\/ys[n]?=none)
  (hE:∀h' e,(∀b o,b≠z->b≠V->b≠i->b≠j->s.heap.get? b=some o->h'.get? b=some o)->(∃o,h'.get? e=some o/\o.cls=.type "StopIteration")->E (.ref e) { s with heap:=h' }) :
  wpAny (model P w) A (Builtin.«zip.__next__» ⟨[.ref z],[]⟩) Q E s:=by
 refine wpAny_bind (m:=field (.ref z) 2) (wpAny_field hz rfl (x:=.bool false) rfl (wpAny_bind (m:=field (.ref z) 3) (wpAny_field hz rfl (x:=.ref U) rfl (wpAny_bind (wpAny_seqItems hU rfl ?_)))));refine wpAny_bind (m:=Builtin.SmallTypes.ownedTupleIsFree (.ref z)) ?_;unfold Builtin.SmallTypes.ownedTupleIsFree;refine wpAny_bind (wpAny_field hz rfl (x:=.none) rfl (wpAny_pure ?_));simp only [if_true];refine wpAny_bind (wpAny_rule (wpAny_bind (wpAny_field hz rfl (x:=.ref V) rfl (wpAny_bind (wpAny_setField_rec hz (by simp) fun g1 z1 b1=>wpAny_bind ?_)))))
 replace z1:IsZip g1 z U V .ellipsis:=z1
 simp only [zipIdx_cons,zipIdx_nil,forIn_cons,forIn_nil];have e1:=b1.extBut
 cases hx:xs[n]? with
 | none =>
  refine wpAny_bind (wpAny_bind (wpAny_onRaise (wpAny_bind (m:=Builtin.SmallTypes.nextOf (.ref i)) (fK hh (W1.mv fun o e=>e1 _ o D.iz e) (R1.mv fun o e=>e1 _ o az e) hx fun g2 e b2 he=>?_))));obtain⟨oe,ge,ce⟩:=he;have z2:IsZip g2 z U V .ellipsis:=b2 _ _ D.iz.symm z1;have ez:e≠z:=fun q=>by subst q;rw [z2] at ge;cases ge;simp at ce
  exact wpAny_setField_rec z2 (by simp) fun g3 _ b3=>hE g3 e (fun b o q1 _ q3 _ q=>b3.extBut _ _ q1 (b2 _ _ q3 (e1 _ _ q1 q))) ⟨oe,b3.extBut _ _ ez ge,ce⟩
 | some x =>
  have hy:ys[n]?=none:=by
   rcases hend with q|q
   .rw [hx] at q;cases q
   .exact q
  refine wpAny_bind (wpAny_bind (wpAny_onRaise (wpAny_bind (m:=Builtin.SmallTypes.nextOf (.ref i)) (eT (W1.mv fun o e=>e1 _ o D.iz e) (R1.mv fun o e=>e1 _ o az e) hx fun g2 w1 b2=>wpAny_pure ?_))));have e2:=b2.extBut;have v2:IsPair g2 V u v:=e2 _ _ D.Vi (e1 _ _ D.Vz hV);refine wpAny_bind (wpAny_seqItems v2 rfl (wpAny_bind (wpAny_updateSeq_pair v2 fun g3 v3 b3=>wpAny_bind (wpAny_letGo (wpAny_pure ?_)))))
  have e3:=b3.extBut;refine wpAny_bind (wpAny_bind (wpAny_onRaise (wpAny_bind (m:=Builtin.SmallTypes.nextOf (.ref j)) (fK hh (W2.mv fun o e=>e3 _ o D.Vj.symm (e2 _ o D.ij.symm (e1 _ o D.jz e))) (R2.mv fun o e=>e3 _ o cV (e2 _ o ci (e1 _ o cz e))) hy fun g4 e b4 he=>?_))));obtain⟨oe,ge,ce⟩:=he;have z4:IsZip g4 z U V .ellipsis:=b4 _ _ D.jz.symm (e3 _ _ D.Vz.symm (e2 _ _ D.iz.symm z1));have ez:e≠z:=fun q=>by subst q;rw [z4] at ge;cases ge;simp at ce
  exact wpAny_setField_rec z4 (by simp) fun g5 _ b5=>hE g5 e (fun b o q1 q2 q3 q4 q=>b5.extBut _ _ q1 (b4 _ _ q4 (e3 _ _ q2 (e2 _ _ q3 (e1 _ _ q1 q))))) ⟨oe,b5.extBut _ _ ez ge,ce⟩
end
def Sq(k:Bool)(K:PySem.W.Frag)(H:Hp)(a:Addr)(xs:List V):Prop:=cond k (SqT K H a xs) (SqL K H a xs)
section
variable {X:Cx}{pins:List (Addr×Obj)}{σ:St}{H:Hp}{s:Shared}{k l:Bool}{a b c:Addr}{xs ys:List V}
theorem Inv.row(I:Inv X pins σ H s)(h:Sq k X.K H a xs):∃its:List Value,bZ xs its/\e8 k s.heap a its.toArray/\xs.length<=sizeLine:=by
 cases k with
 | false=>obtain⟨its,r,p,z⟩:=I.list h;exact⟨its,r,p.isList,z⟩
 | true=>obtain⟨its,r,p,z⟩:=I.tuple h;exact⟨its,r,p,z⟩
theorem Inv.row_inj(I:Inv X pins σ H s)(h:Sq k X.K H a xs)(h':Sq k X.K H a ys):xs=ys:=by
 cases k with
 | false=>exact I.list_inj h h'
 | true=>exact I.tuple_inj h h'
theorem ua{u:HO}(r:Rd H a u):∃v,H a=some v:=by
 rcases r with r|⟨o,r⟩ <;> exact⟨_,r⟩
theorem Inv.row_ne(I:Inv X pins σ H s)(h:Sq k X.K H a xs)(f:pO X pins H b):a≠b:=by
 have kk:∀o,X.K.lookup a=some o->a≠b:=fun o e z=>by
  have e1:=I.ok.mod.kin a o e
  rcases f.2.2.2.1 with q|q
  .exact I.ok.noex a o e1 (z ▸ q)
  .exact absurd (lt_of_lt_of_le (Heap.lt_size (I.ok.bs a o e1).1) (z ▸ q)) (Nat.lt_irrefl _)
 have hh:∀u,H a=some u->a≠b:=fun u e z=>by rw [z,f.1] at e;cases e
 cases k with
 | false =>
  rcases h with r|⟨o,its,n,e,_⟩
  .obtain⟨v,e⟩:=ua r;exact hh v e
  .exact kk o e
 | true =>
  rcases h with r|⟨o,its,n,e,_⟩
  .obtain⟨v,e⟩:=ua r;exact hh v e
  .exact kk o e
theorem Inv.yielded{h':Heap}{T:Addr}{zs:List V}{t':Nat}{ch:List Addr}(I:Inv X pins σ H s)(hf:∀b∈ch,pO X pins H b)(hT:s.heap.objs.size<=T)
  (kp:∀b o,b∉ch->s.heap.get? b=some o->h'.get? b=some o) (new:bK X.prog X.w (upd H T (.tup zs)) h' T (.tup zs)):Inv X pins σ (upd H T (.tup zs)) { s with heap:=h',toks:=t' }:=by
 have hn:H T=none:=I.hok.fresh hT;have nT:∀b u,H b=some u->b≠T:=fun b u e z=>by rw [z,hn] at e;cases e
 have oT:∀b o,s.heap.get? b=some o->b≠T:=fun b o e z=>absurd (lt_of_lt_of_le (Heap.lt_size e) (z ▸ hT)) (Nat.lt_irrefl _);have nc:∀b u,H b=some u->b∉ch:=fun b u e z=>by rw [(hf b z).1] at e;cases e
 refine I.step (g':=s.gens) (d':=s.drawn) (ch:=ch) (fun b hb=>⟨(hf b hb).2.2.2.1,(hf b hb).2.1,(hf b hb).2.2.2.2.1,(hf b hb).2.2.2.2.2⟩) (fun b o _ _ hc e _=>kp b o hc e) (fun b o _ _ hc e _=>⟨o.slots,kp b o hc e⟩)
  (fun b o _ e n=>by rw [ap (oT b o e)];exact n) (fun b o hc e=>⟨o,kp b o hc e⟩) (fun b xs e=>by rw [ap (nT b _ e)];exact e) (fun b o u e=>by rw [ap (nT b _ e)];exact e)
  (fun b ps e=>⟨#[],by rw [ap (nT b _ e),e];simp⟩) (fun m hm=>?_) (fun b u e=>?_) I.bare
 .obtain⟨o,es,ep,ho,r⟩:=hm;exact⟨o,es,ep,kp _ o (fun z=>(hf _ z).2.1 rfl) ho,r⟩
 .by_cases hb:b=T
  .subst hb;rw [ay] at e;cases e;exact new
  .rw [ap hb] at e;refine (I.hok b u e).stay (fun c v hc q=>kp c v ?_ q) (fun c q=>by rw [ap (nT c _ q)];exact q) fun c xs q=>by rw [ap (nT c _ q)];exact q
   rcases hc with z|z
   .rw [z];exact nc b u e
   .exact nc c _ z
end
def Itz(k l:Bool)(K:PySem.W.Frag)(a c:Addr):It :=
  ⟨fun i H=>∃xs ys x y,Sq k K H a xs/\Sq l K H c ys/\xs[i]?=some x/\ys[i]?=some y,
   fun i H p H'=>∃T x y,H T=none/\p=.ref T/\(∀xs,Sq k K H a xs->xs[i]?=some x)/\(∀ys,Sq l K H c ys->ys[i]?=some y)/\H'=upd H T (.tup [x,y]),
   fun i H=>∃xs ys,Sq k K H a xs/\Sq l K H c ys/\(xs.length<=i\/ys.length<=i)⟩
theorem wg{P:Program}{w:World}{K:PySem.W.Frag}{es:List Expr}{ct:Nat}{tp:Pos}{k l:Bool}{a c z U V i j:Addr}(D:ZA z U V i j) :
  xp P w K (.Tuple es ct tp) (Itz k l K a c) [z,U,V,i,j] z (fun n h=>IsZip h z U V .none/\IsPair h U (.ref i) (.ref j)/\(∃u v,IsPair h V u v)/\cO k h i a n/\cO l h j c n) where
 mem:=by simp
 obj:=fun n h st b hb=>by
  obtain⟨hz,hU,⟨u,v,hV⟩,⟨o1,g1,c1,d1⟩,⟨o2,g2,c2,d2⟩⟩:=st;simp only [mem_cons,not_mem_nil,or_false] at hb
  rcases hb with rfl|rfl|rfl|rfl|rfl
  .exact⟨_,hz,fun v q=>by cases q⟩
  .exact⟨_,hU,fun v q=>by cases q⟩
  .exact⟨_,hV,fun v q=>by cases q⟩
  .exact⟨_,g1,fun v q=>by rw [d1] at q;cases q⟩
  .exact⟨_,g2,fun v q=>by rw [d2] at q;cases q⟩
 keep:=fun n h h' st kk=>by
  obtain⟨hz,hU,⟨u,v,hV⟩,w1,w2⟩:=st;exact⟨kk z (by simp) _ hz,kk U (by simp) _ hU,⟨u,v,kk V (by simp) _ hV⟩,w1.mv fun o e=>kk i (by simp) o e,w2.mv fun o e=>kk j (by simp) o e⟩
 item:=by
  intro X hP hw hK hc n pins s σ H E I hf st hg;subst hP hw hK;obtain⟨xs,ys,x,y,q1,q2,hx,hy⟩:=hg;obtain⟨hz,hU,⟨u,v,hV⟩,w1,w2⟩:=st;obtain⟨its,rv,p,_⟩:=I.row q1;obtain⟨jts,rv',p',_⟩:=I.row q2;obtain⟨ux,hux,rx⟩:=rv.get hx;obtain⟨uy,huy,ry⟩:=rv'.get hy;have hT:s.TypeIs (.ref z) "zip":=⟨_,hz,rfl⟩
  have nz:=I.row_ne q1 (hf z (by simp));have mz:=I.row_ne q2 (hf z (by simp));have mi:=I.row_ne q2 (hf i (by simp));have mV:=I.row_ne q2 (hf V (by simp));unfold pyNext
  refine wpAny_bind (wpAny_attempt (wpAny_callSpecial?_slot (name:=Str.ofString "__next__") hT F.slot_zip_next (wpAny_call_entry F.slot_zip_next hT F.entry_zip_next
   (yu (x:=ux) (y:=uy) D nz mz mi mV hz hU hV w1 w2 p p' (by simpa using hux) (by simpa using huy) fun h' a1 a2 a3 a4 a5 a6 a7=>wpAny_pure ?_) (F.args_zip_next_1 _))))
  refine⟨_,rfl,wpAny_letOwnedTupleGo_zip a1 fun g gz gs=>?_⟩;have lt:∀{b o},s.heap.get? b=some o->s.heap.objs.size≠b:=fun e=>ne_of_gt (Heap.lt_size e)
  have kp:∀b o,b∉[z,V,i,j]->s.heap.get? b=some o->g.get? b=some o:=fun b o hb e=>by
   simp only [mem_cons,not_mem_nil,or_false,not_or] at hb;exact gs.extBut _ _ hb.1 (a7 b o hb.1 hb.2.1 hb.2.2.1 hb.2.2.2 e)
  have I2:Inv X pins σ (upd H s.heap.objs.size (.tup [x,y])) { s with heap:=g,toks:=s.toks }:=I.yielded (ch:=[z,V,i,j]) (fun b hb=>hf b (by
   simp only [mem_cons,not_mem_nil,or_false] at hb ⊢;rcases hb with q|q|q|q <;> simp [q])) (le_refl _) kp ⟨by show 2<=sizeLine;decide,[ux,uy],.cons rx (.cons ry .nil),_,gs.extBut _ _ (lt hz) a5,rfl,_,rfl⟩
  refine⟨.ref s.heap.objs.size,_,I2,rfl,⟨_,x,y,I.hok.fresh (le_refl _),rfl,fun xs' q=>by rw [I.row_inj q q1];exact hx,fun ys' q=>by rw [I.row_inj q q2];exact hy,rfl⟩,
   ⟨gz,gs.extBut _ _ D.Uz (a7 _ _ D.Uz D.UV D.Ui D.Uj hU),⟨_,_,gs.extBut _ _ D.Vz a2⟩,a3.mv fun o e=>gs.extBut _ o D.iz e,a4.mv fun o e=>gs.extBut _ o D.jz e⟩,fun b hb=>?_⟩
  rw [ap ?_]
  .exact (hf b hb).1
  .intro q;subst q;simp only [mem_cons,not_mem_nil,or_false] at hb;obtain⟨o1,g1,_⟩:=w1;obtain⟨o2,g2,_⟩:=w2
   rcases hb with q|q|q|q|q
   .exact lt hz q
   .exact lt hU q
   .exact lt hV q
   .exact lt g1 q
   .exact lt g2 q
 done:=by
  intro X hP hw hK hc n pins s σ H E I hf st hg;subst hP hw hK;obtain⟨xs,ys,q1,q2,hend⟩:=hg;obtain⟨hz,hU,⟨u,v,hV⟩,w1,w2⟩:=st;obtain⟨its,rv,p,_⟩:=I.row q1;obtain⟨jts,rv',p',_⟩:=I.row q2;have e1:=rv.length;have e2:=rv'.length;have hT:s.TypeIs (.ref z) "zip":=⟨_,hz,rfl⟩
  unfold pyNext
  refine wpAny_bind (wpAny_attempt (wpAny_callSpecial?_slot (name:=Str.ofString "__next__") hT F.slot_zip_next (wpAny_call_entry F.slot_zip_next hT F.entry_zip_next
   (A0 (I.ok.hd hc) D (I.row_ne q1 (hf z (by simp))) (I.row_ne q2 (hf z (by simp))) (I.row_ne q2 (hf i (by simp))) (I.row_ne q2 (hf V (by simp))) hz hU hV w1 w2 p p' ?_ fun h' e hk he=>?_) (F.args_zip_next_1 _))))
  .rcases hend with q|q
   .exact .inl (by simp;omega)
   .exact .inr (by simp;omega)
  .obtain⟨o,ho,hcl⟩:=he;refine wpAny_bind (wpAny_isInstance (T:="StopIteration") (b:=true) ⟨o,ho,hcl⟩ isSubtype_stop (wpAny_pure ⟨rfl,?_⟩))
   exact I.step (g':=s.gens) (d':=s.drawn) (t':=s.toks) (ch:=[z,V,i,j]) (fun b hb=>by
     have q:=hf b (by
      simp only [mem_cons,not_mem_nil,or_false] at hb ⊢;rcases hb with q|q|q|q <;> simp [q])
     exact⟨q.2.2.2.1,q.2.1,q.2.2.2.2.1,q.2.2.2.2.2⟩) (fun b o _ _ hc e _=>by
     simp only [mem_cons,not_mem_nil,or_false,not_or] at hc;exact hk b o hc.1 hc.2.1 hc.2.2.1 hc.2.2.2 e) (fun b o _ _ hc e _=>⟨o.slots,by
     simp only [mem_cons,not_mem_nil,or_false,not_or] at hc;exact hk b o hc.1 hc.2.1 hc.2.2.1 hc.2.2.2 e⟩) (fun _ _ _ _ q=>q) (fun b o hc e=>⟨o,by
     simp only [mem_cons,not_mem_nil,or_false,not_or] at hc;exact hk b o hc.1 hc.2.1 hc.2.2.1 hc.2.2.2 e⟩) (fun _ _ e=>e) (fun _ _ _ e=>e) (fun b ps e=>⟨#[],by rw [e];simp⟩) (fun m hm=>by
     obtain⟨o,es,ep,ho,r⟩:=hm;exact⟨o,es,ep,hk _ o (hf z (by simp)).2.1.symm (hf V (by simp)).2.1.symm (hf i (by simp)).2.1.symm (hf j (by simp)).2.1.symm ho,r⟩) (fun b u e=>by
     have nn:∀b u,H b=some u->b≠z/\b≠V/\b≠i/\b≠j:=fun b u e=>⟨fun q=>(by rw [q,(hf z (by simp)).1] at e;cases e),fun q=>(by rw [q,(hf V (by simp)).1] at e;cases e),fun q=>(by rw [q,(hf i (by simp)).1] at e;cases e),fun q=>(by rw [q,(hf j (by simp)).1] at e;cases e)⟩
     refine (I.hok b u e).stay (fun c v hc q=>?_) (fun _ q=>q) fun _ _ q=>q
     have n4:c≠z/\c≠V/\c≠i/\c≠j:=by
      rcases hc with q|q
      .rw [q];exact nn b u e
      .exact nn c _ q
     exact hk c v n4.1 n4.2.1 n4.2.2.1 n4.2.2.2 q) I.bare
 self:=fun _ _ _ _ _ st h=>wpAny_pyIter_zip st.1 h
theorem A1(n:Nat):ZA (n+4) (n+2) (n+3) n (n+1):=by
 refine⟨?_,?_,?_,?_,?_,?_,?_,?_,?_,?_⟩ <;> (intro h;have h2:@Eq Nat _ _:=h;omega)
section
variable {P:Program}{w:World}{A:Around}{E:Value->Shared->Prop}{s:Shared}{k l:Bool}
abbrev jQ(k:Bool)(a:Addr):Obj:={ cls:=.type (cond k "tuple_iterator" "list_iterator"),data:=.fields #[.ref a,.int 0 0] }
theorem fo{a:Addr}{its:Array Value}{Q:Value->Shared->Prop}(R:e8 k s.heap a its)(hQ:Q (.ref s.heap.objs.size) { s with heap:=s.heap.push (jQ k a) }):wpAny (model P w) A (pyIter (.ref a)) Q E s:=by
 cases k with
 | false=>exact wpAny_pyIter_list R hQ
 | true=>exact wpAny_pyIter_tuple R hQ
abbrev zg1(h:Heap)(k:Bool)(a:Addr):Heap:=h.push (jQ k a)
abbrev zg2(h:Heap)(k l:Bool)(a c:Addr):Heap:=(zg1 h k a).push (jQ l c)
abbrev zg3(h:Heap)(k l:Bool)(a c:Addr):Heap:=(zg2 h k l a c).push { cls:=.type "tuple",data:=.seq #[.ref h.objs.size,.ref (zg1 h k a).objs.size] }
abbrev zg4(h:Heap)(k l:Bool)(a c:Addr):Heap:=(zg3 h k l a c).push { cls:=.type "tuple",data:=.seq #[.none,.none] }
abbrev zg5(h:Heap)(k l:Bool)(a c:Addr):Heap:=(zg4 h k l a c).push { cls:=.type "zip",data:=.fields #[.none,.bool false,.bool false,.ref (zg2 h k l a c).objs.size,.ref (zg3 h k l a c).objs.size] }
theorem yv(k l:Bool)(a c:Addr)(xs ys:Array Value):Meets (Builtin.«zip.__new__» ⟨[.type "zip",.ref a,.ref c],[]⟩) (fun _ R s=>e8 k s.heap a xs/\e8 l s.heap c ys /\
   R (.ok (.ret (.ref (zg4 s.heap k l a c).objs.size))) { s with heap:=zg5 s.heap k l a c }) :=
 .of_wp fun prog w A R s h=>by
  obtain⟨hp,g,d,tk,os⟩:=s;obtain⟨r1,r2,h⟩:=h;have hsub:=sub_zip;have R1:e8 k (Shared.heap ⟨hp,g,d,tk,os⟩) a xs:=r1;have R2:e8 l (Shared.heap ⟨hp.push (jQ k a),g,d,tk,os⟩) c ys:=r2.mv fun o e=>Heap.get?_push_of_some _ e
  wp_walk using fo R1,fo R2
  exact⟨_,rfl,h⟩
theorem yw{a c:Addr}{xs ys:Array Value}{Q:Value->Shared->Prop}(r1:e8 k s.heap a xs)(r2:e8 l s.heap c ys)
  (h:∀h',IsZip h' (s.heap.objs.size+4) (s.heap.objs.size+2) (s.heap.objs.size+3) .none->IsPair h' (s.heap.objs.size+2) (.ref s.heap.objs.size) (.ref (s.heap.objs.size+1)) ->
   IsPair h' (s.heap.objs.size+3) .none .none->cO k h' s.heap.objs.size a 0->cO l h' (s.heap.objs.size+1) c 0->(∀b o,s.heap.get? b=some o->h'.get? b=some o)->Q (.ref (s.heap.objs.size+4)) { s with heap:=h' }) :
  wpAny (model P w) A (call (.type "zip") [.ref a,.ref c]) Q E s:=by
 refine callType_new F.called_zip (by decide) (F.typeCall_zip_2 _ _) (F.newCall_zip_2 _ _) (fun obj=>F.args_object_init_3 obj _ _) F.entry_zip_new (yv k l a c xs ys) ⟨r1,r2,?_⟩;have z1:(zg1 s.heap k a).objs.size=s.heap.objs.size+1:=Heap.size_push ..;have z2:(zg2 s.heap k l a c).objs.size=s.heap.objs.size+2:=by rw [Heap.size_push,z1]
 have z3:(zg3 s.heap k l a c).objs.size=s.heap.objs.size+3:=by rw [Heap.size_push,z2]
 have z4:(zg4 s.heap k l a c).objs.size=s.heap.objs.size+4:=by rw [Heap.size_push,z3]
 have m4:∀b o,(zg4 s.heap k l a c).get? b=some o->(zg5 s.heap k l a c).get? b=some o:=fun b o e=>Heap.get?_push_of_some _ e;have m3:∀b o,(zg3 s.heap k l a c).get? b=some o->(zg5 s.heap k l a c).get? b=some o:=fun b o e=>m4 b o (Heap.get?_push_of_some _ e);have m2:∀b o,(zg2 s.heap k l a c).get? b=some o->(zg5 s.heap k l a c).get? b=some o:=fun b o e=>m3 b o (Heap.get?_push_of_some _ e);have m1:∀b o,(zg1 s.heap k a).get? b=some o->(zg5 s.heap k l a c).get? b=some o:=fun b o e=>m2 b o (Heap.get?_push_of_some _ e)
 have g5:(zg5 s.heap k l a c).get? (zg4 s.heap k l a c).objs.size=some _:=Heap.get?_push_size _ rfl;have g4:=m4 _ _ (Heap.get?_push_size (zg3 s.heap k l a c) (o:={ cls:=.type "tuple",data:=.seq #[.none,.none] }) rfl);have g3:=m3 _ _ (Heap.get?_push_size (zg2 s.heap k l a c) (o:={ cls:=.type "tuple",data:=.seq #[.ref s.heap.objs.size,.ref (zg1 s.heap k a).objs.size] }) rfl);have g2:=m2 _ _ (Heap.get?_push_size (zg1 s.heap k a) (o:=jQ l c) rfl)
 have g1:=m1 _ _ (Heap.get?_push_size s.heap (o:=jQ k a) rfl);show _/\_;rw [z2,z3,z4] at g5;rw [z1,z2] at g3;rw [z3] at g4;rw [z1] at g2;rw [z4];exact⟨⟨_,g5,rfl⟩,h _ g5 g3 g4 ⟨_,g1,rfl,rfl⟩ ⟨_,g2,rfl,rfl⟩ fun b o e=>m1 b o (Heap.get?_push_of_some _ e)⟩
end
def stA(a b:List Nat)(i:Nat):Bool:=decide (i+b.length<=a.length/\(a.drop i).take b.length=b)
def fnd(a b:List Nat)(lo:Nat):Int:=match (List.range' lo (a.length+1 - lo)).find? (stA a b) with|some k=>(k:Int)|none=>-1
theorem oE(s sub:Str)(hi:Nat):∀(l:List Nat) (st:Array Nat×Nat),st.fst.size=1->(forIn l st (StrLaws.occBody s sub hi 1)).run.fst=st.fst
 | [],_,_=>rfl
 | x::l,st,h=>by
  rw [forIn_cons];unfold StrLaws.occBody;rw [if_neg (fun z=>by have:=z.1.1.1;omega)];exact oE s sub hi l (st.fst,st.snd) h
theorem oF(s sub:Str)(hi:Nat)(p:Nat->Bool)(hp:∀i,p i=true ↔ (i+sub.length<=hi/\Builtin.Str.subAt s sub i=true)):∀(l:List Nat) (free:Nat),(∀i∈l,free<=i) ->
  (forIn l ((#[]:Array Nat),free) (StrLaws.occBody s sub hi 1)).run.fst=(match l.find? p with|some k=>#[k]|none=>#[])
 | [],_,_=>rfl
 | x::l,free,hf=>by
  rw [forIn_cons,find?_cons];unfold StrLaws.occBody;have hx:free<=x:=hf x (mem_cons_self ..)
  cases c:p x with
  | true =>
   have hc:=(hp x).mp c;rw [if_pos ⟨⟨⟨by simp,hx⟩,hc.1⟩,hc.2⟩];exact oE s sub hi l (#[x],x+sub.length) rfl
  | false =>
   rw [if_neg (fun z=>by
    have:=(hp x).mpr ⟨z.1.2,z.2⟩;rw [c] at this;cases this)]
   exact oF s sub hi p hp l free fun i h=>hf i (mem_cons_of_mem _ h)
theorem yx(a b:List Nat)(i:Nat):Builtin.Str.subAt (S a) (S b) i=decide ((a.drop i).take b.length=b):=by
 unfold Builtin.Str.subAt;rw [fk]
 have e1:((S a).cps.extract i (i+b.length))=((a.drop i).take b.length).toArray:=by
  show a.toArray.extract _ _=_;rw [extract_toArray,extract_eq_take_drop];congr 2;omega
 rw [e1];show (((a.drop i).take b.length).toArray == b.toArray)=_
 by_cases h:(a.drop i).take b.length=b
 .rw [decide_eq_true h,h];simp
 .rw [decide_eq_false h,beq_eq_false_iff_ne];intro z;exact h (by simpa using congrArg Array.toList z)
theorem ub(a b:List Nat)(lo:Nat):(match Builtin.Str.occurrences (S a) (S b) lo (S a).length 1 with|k::_=>(k:Int)|[]=>-1)=fnd a b lo:=by
 rw [StrLaws.occ_eq,fk,oF (S a) (S b) a.length (stA a b) (fun i=>?_) _ lo (fun i hi=>(mem_range'_1.mp hi).1)]
 .unfold fnd;cases (List.range' lo (a.length+1 - lo)).find? (stA a b) <;> rfl
 .unfold stA;rw [yx,fk];simp
section
variable {X:Cx}
theorem wj:MtR X "str.find" (fun x xs H Q=>∃a b,x=.str (S a)/\xs=[.str (S b)]/\Q (.int (fnd a b 0)) H):=by
 intro pins s σ H x xs v us Q I rx rs h;obtain⟨a,b,rfl,rfl,q⟩:=h;obtain⟨t,rfl⟩:=rx;obtain⟨u,rfl,t',rfl⟩:=gJ rs;have e:Txt.find (S a) (S b)=fnd a b 0:=ub a b 0;exact SC.find ⟨.int _,H,I.tok _,⟨_,rfl⟩,by rw [e];exact q⟩
end
theorem qW{a b:List Nat}{lo:Nat}(h:fnd a b lo≠-1):∃k:Nat,fnd a b lo=(k:Int)/\lo<=k/\stA a b k=true/\∀j,lo<=j->j<k->stA a b j=false:=by
 unfold fnd at h ⊢
 cases e:(List.range' lo (a.length+1 - lo)).find? (stA a b) with
 | none=>rw [e] at h;exact absurd rfl h
 | some k =>
  obtain⟨h1,h2⟩:=find?_eq_some_iff_append.mp e;obtain⟨as,bs,hl,hn⟩:=h2;have hk:k∈List.range' lo (a.length+1 - lo):=by rw [hl];simp
  refine⟨k,rfl,(mem_range'_1.mp hk).1,h1,fun j hj1 hj2=>?_⟩;have hj:j∈List.range' lo (a.length+1 - lo):=mem_range'_1.mpr ⟨hj1,by have:=(mem_range'_1.mp hk).2;omega⟩;have hs:(List.range' lo (a.length+1 - lo)).Pairwise (·<·):=List.pairwise_lt_range';rw [hl] at hj hs
  rcases mem_append.mp hj with z|z
  .have:=hn j z;simpa using this
  .rcases mem_cons.mp z with z|z
   .omega
   .have:=(pairwise_cons.mp (pairwise_append.mp hs).2.1).1 j z;omega
theorem wk{a b:List Nat}{lo:Nat}(h:fnd a b lo=-1):∀j,lo<=j->stA a b j=false:=by
 unfold fnd at h
 cases e:(List.range' lo (a.length+1 - lo)).find? (stA a b) with
 | some k=>rw [e] at h;simp only at h;omega
 | none =>
  intro j hj
  by_cases hlt:j<a.length+1
  .have:=find?_eq_none.mp e j (mem_range'_1.mpr ⟨hj,by omega⟩);simpa using this
  .unfold stA;rw [decide_eq_false (fun z=>by have:=z.1;omega)]
section
variable {X:Cx}{tg:Expr}
def Itk(k:Bool)(K:PySem.W.Frag)(a:Addr):It:=cond k (Itt K a) (Itl K a)
def A2(K:PySem.W.Frag):R2:=fun x y H Q=>∃l b xs zs,x=.ref l/\y=.ref b/\SqL K H l xs/\SqL K H b zs/\xs.length+zs.length<=sizeLine/\∀p,H p=none->Q (.ref p) (upd H p (.lst (xs++zs)))
theorem yz:OpR X (binaryOp .Add) (A2 X.K):=by
 intro pins s σ H x y v u Q I rx ry h;obtain⟨l,b,xs,zs,rfl,rfl,hH,hB,hz,q⟩:=h;cases rx;cases ry;obtain⟨its,r,pl,hl⟩:=I.list hH;obtain⟨its2,r2,pl2,hl2⟩:=I.list hB;obtain⟨⟨cls,dd,data,sl⟩,ho,hc,n,hd⟩:=pl.isList;obtain⟨⟨cls2,dd2,data2,sl2⟩,ho2,hc2,n2,hd2⟩:=pl2.isList;simp only at hc hd hc2 hd2;subst hc hd hc2 hd2;have n1:=r.length;have n2':=r2.length;have ea:its.toArray++its2.toArray=(its++its2).toArray:=by simp
 have fin:EP X pins σ Q (.ref s.heap.objs.size) { s with heap:=s.heap.push { cls:=.type "list",data:=.seq (its.toArray++its2.toArray) } }:=by
  rw [ea];exact⟨.ref _,_,I.lnew (t':=s.toks) (r.append r2) (by rw [length_append];omega),rfl,q _ I.fresh⟩
 exact concat_meets ⟨_,ho,rfl⟩ ⟨_,ho2,rfl⟩ noFill_list_add seq_list_add PySem.F.slot_list_add PySem.F.entry_list_add (PySem.F.args_list_add_2 _ _) (list_addW l b its.toArray its2.toArray n n2 dd dd2 sl sl2 (by simp;omega)) ⟨ho,ho2,fin⟩
end
def tx(l:List Nat):V:=.str (S l)
def l7(n:Nat)(d:PyData):Prop:=d.canLay0=true/\d.depth<=n
theorem l7.shaped{n:Nat}{d:PyData}(h:l7 n d)(hn:n<=64):SeqAt.shaped d=true:=by
 unfold SeqAt.shaped;rw [h.1,decide_eq_true (le_trans h.2 hn)];rfl
theorem pZ{n:Nat}:∀{ds:List PyData},(∀d∈ds,l7 n d)->PyData.canLayAll0 ds=true/\PyData.depthAll ds<=n
 | [],_=>⟨rfl,zero_le _⟩
 | d::ds,h=>by
  obtain⟨a,b⟩:=pZ (ds:=ds) fun x hx=>h x (mem_cons_of_mem _ hx);obtain⟨c,e⟩:=h d mem_cons_self;simp only [PyData.canLayAll0,PyData.depthAll,a,c];exact⟨rfl,max_le.mpr ⟨e,b⟩⟩
theorem l7.list{n:Nat}{ds:List PyData}(h:∀d∈ds,l7 n d):l7 (n+1) (.list ds):=by
 obtain⟨a,b⟩:=pZ h;exact⟨by simp only [PyData.canLay0];exact a,by simp only [PyData.depth];omega⟩
theorem l7.tuple{n:Nat}{ds:List PyData}(h:∀d∈ds,l7 n d):l7 (n+1) (.tuple ds):=by
 obtain⟨a,b⟩:=pZ h;exact⟨by simp only [PyData.canLay0];exact a,by simp only [PyData.depth];omega⟩
theorem l7.int(i:Int):l7 0 (.int i):=⟨by simp [PyData.canLay0],by simp [PyData.depth]⟩
def Lts(l:List Nat):Prop:=∀c∈l,97<=c/\c<=122
theorem Lts.nil:Lts []:=fun c h=>nomatch h
theorem Lts.app{a b:List Nat}(x:Lts a)(y:Lts b):Lts (a++b):=fun c h=>(mem_append.mp h).elim (x c) (y c)
theorem Lts.one{c:Nat}(h:97<=c/\c<=122):Lts [c]:=fun d hd=>by
 have:d=c:=by simpa using hd
 subst this;exact h
theorem Lts.take{a:List Nat}(x:Lts a)(n:Nat):Lts (a.take n):=fun c h=>x c (mem_of_mem_take h)
theorem Lts.drop{a:List Nat}(x:Lts a)(n:Nat):Lts (a.drop n):=fun c h=>x c (mem_of_mem_drop h)
theorem Lts.cut{a:List Nat}(x:Lts a)(lo hi:Option Int):Lts (e6 a lo hi):=(x.drop _).take _
theorem Lts.rep{a:List Nat}(x:Lts a)(n:Int):Lts (lD a n):=fun c h=>by
 unfold lD at h;obtain⟨l,h1,h2⟩:=mem_flatten.mp h;rw [eq_of_mem_replicate h1] at h2;exact x c h2
theorem l7.str{l:List Nat}(h:Lts l):l7 0 (.str (S l)):=by
 refine⟨?_,by simp [PyData.depth]⟩;simp only [PyData.canLay0,PyData.strOk,S];rw [Array.all_eq_true];intro i hi;have:=h l[i] (getElem_mem _);simp only [getElem_toArray,decide_eq_true_eq];omega
theorem uc(ns:List Int):∀d∈ns.map PyData.int,l7 0 d:=fun d hd=>by
 obtain⟨i,_,rfl⟩:=mem_map.mp hd;exact l7.int i
theorem l8{ws:List (List Nat)}(h:∀w∈ws,Lts w):∀d∈ws.map (fun w=>PyData.str (S w)),l7 0 d:=fun d hd=>by
 obtain⟨i,hi,rfl⟩:=mem_map.mp hd;exact l7.str (h i hi)
theorem oG{ws:List (List Nat)}(h:∀w∈ws,Lts w):SeqAt.shaped (.list (ws.map fun w=>PyData.str (S w)))=true:=(l7.list (l8 h)).shaped (by decide)
theorem wl{d:PyData}(h:SeqAt.shaped d=true):PyData.eqv d d=true:=SeqAt.eqv_refl d (SeqAt.canLay_of_shaped h)
theorem kr(p:Nat->Prop)(h0:p 0):∀n,0<n->∃k,k<n/\p k/\∀j,j<n->p j->j<=k
 | 0,h=>absurd h (by decide)
 | 1,_=>⟨0,by decide,h0,fun j hj _=>by omega⟩
 | n+2,_=>by
  obtain⟨k,h1,h2,h3⟩:=kr p h0 (n+1) (by omega)
  by_cases c:p (n+1)
  .exact⟨n+1,by omega,c,fun j hj _=>by omega⟩
  .refine⟨k,by omega,h2,fun j hj hp=>?_⟩
   by_cases e:j=n+1
   .subst e;exact absurd hp c
   .exact h3 j (by omega) hp
section
variable {κ:Type} [DecidableEq κ]
def ud(kvs:List (κ×V))(k:κ)(v:V):List (κ×V) :=
 if (kvs.any fun kv=>decide (kv.1=k))=true then kvs.map (fun kv=>if kv.1=k then (kv.1,v) else kv) else kvs++[(k,v)]
theorem p3(kvs:List (κ×V))(k:κ)(v:V):(ud kvs k v).length<=kvs.length+1:=by
 unfold ud
 split
 .rw [length_map];omega
 .rw [length_append,length_cons,length_nil];omega
theorem KV.any{kvs:List (κ×V)}{vs:List (κ×Value)}(r:KV kvs vs)(k:κ):(kvs.any fun kv=>decide (kv.1=k))=vs.any fun kv=>decide (kv.1=k):=by
 unfold KV at r
 induction r with
 | nil=>rfl
 | cons h t ih=>rw [any_cons,any_cons,ih,h.1]
theorem KV.repl{kvs:List (κ×V)}{vs:List (κ×Value)}(r:KV kvs vs)(k:κ){y:V}{u:Value}(ry:dn y u) :
  KV (kvs.map fun kv=>if kv.1=k then (kv.1,y) else kv) (vs.map fun kv=>if kv.1=k then (kv.1,u) else kv):=by
 unfold KV at r ⊢
 induction r with
 | nil=>exact .nil
 | @cons p q ps qs h t ih =>
  rw [map_cons,map_cons];refine .cons ?_ ih;obtain⟨h1,h2⟩:=h
  by_cases e:p.1=k
  .rw [if_pos e,if_pos (h1.symm.trans e)];exact⟨h1,ry⟩
  .rw [if_neg e,if_neg (fun z=>e (h1.trans z))];exact⟨h1,h2⟩
theorem KV.put{kvs:List (κ×V)}{vs:List (κ×Value)}(r:KV kvs vs)(k:κ){y:V}{u:Value}(ry:dn y u):KV (ud kvs k y) (stored vs k u):=by
 unfold ud stored;rw [r.any k]
 by_cases e:(vs.any fun kv=>decide (kv.1=k))=true
 .rw [if_pos e,if_pos e];exact r.repl k ry
 .rw [if_neg e,if_neg e];exact Paired.snoc r ⟨rfl,ry⟩
theorem KV.length{kvs:List (κ×V)}{vs:List (κ×Value)}(r:KV kvs vs):kvs.length=vs.length:=Paired.length r
end
theorem CS{P:Program}{w:World}{k:Key}{u:Value}(r:dn (kV k) u):(eZ P w).is k u=true:=by
 cases k with
 | inl i=>obtain⟨t,e⟩:=(show ∃t,u=Value.int i t from r);subst e;exact pR P w i t
 | inr x=>obtain⟨t,e⟩:=(show ∃t,u=Value.str x t from r);subst e;exact pS P w x t
section
variable {P:Program}{w:World}{H:Hp}{h:Heap}{a:Addr}
theorem CT{u:HO}(ok:HOk P w H h)(e:Rd H a u):bK P w H h a u:=e.ok ok
theorem A3{kvs:List (Key×V)}(ok:HOk P w H h)(e:Rd H a (.dK kvs)):kvs.length<=sizeLine/\(a == sysModules)=false/\∃vs,KV kvs vs/\h.DictOf (eZ P w) a vs :=
 show bK P w H h a (.dK kvs) from CT ok e
theorem CU{kvs:List (Key×V)}(ok:HOk P w H h)(e:H a=some (.dK kvs)):kvs.length<=sizeLine/\(a == sysModules)=false/\∃vs,KV kvs vs/\h.DictOf (eZ P w) a vs:=A3 ok (.inl e)
end
section
variable {X:Cx}{pins:List (Addr×Obj)}{σ:St}{H:Hp}{s:Shared}{a:Addr}{y v:V}{u r:Value}{o:Option V}{A:Around}{E:Value->Shared->Prop}
theorem Inv.big(I:Inv X pins σ H s):sysModules<s.heap.objs.size:=by
 have h:mainGlobals<s.heap.objs.size:=(I.mod.glob.keeps I.bk).lt;exact lt_trans (by decide) h
theorem yA{h':Heap}{t':Nat}{ob:HO}(I:Inv X pins σ H s)(mu:Mut (H a))(hs:Heap.SameBut a s.heap h')(he:∃q,h'.get? a=some q)(new:bK X.prog X.w (upd H a ob) h' a ob) :
  Inv X pins σ (upd H a ob) { s with heap:=h',toks:=t' } :=
 I.write (x:=a) (e:=a) mu (.inl rfl) (fun b q hb z=>(hs.2 b hb).trans z) he new
theorem A4{P:Program}{w:World}{H':Hp}{h':Heap}{kvs:List (Key×V)}{vs:List (Key×Value)}(z:kvs.length<=sizeLine)(hd:(a == sysModules)=false)(rel:KV kvs vs)(dd:h'.DictOf (eZ P w) a vs) :
  bK P w H' h' a (.dK kvs):=⟨z,hd,vs,rel,dd⟩
end
section
variable {X:Cx}{pins:List (Addr×Obj)}{σ:St}{H:Hp}{s:Shared}{a:Addr}{kvs:List (Key×V)}{k:Key}{u:Value}{A:Around}{E:Value->Shared->Prop}
theorem CV{Q:Value->Shared->Prop}(I:Inv X pins σ H s)(e:Rd H a (.dK kvs))(h:∀t s',Inv X pins σ H s'->Q (.int kvs.length t) s'):wpAny (model X.prog X.w) A (call (.builtin "len") [.ref a]) Q E s:=by
 obtain⟨z,hd,vs,rel,dd⟩:=A3 I.hok e;refine call_len_dict hd dd (by rw [<- rel.length];rw [sizeLine_eq] at z;omega) ?_;rw [<- rel.length];exact h _ _ (I.tok _)
end
theorem wm{P:Program}{w:World}{H:Hp}(h:Heap)(hb:sysModules<h.objs.size):bK P w H (h.push { cls:=.type "dict",data:=.dict #[] }) h.objs.size (.dK []) :=
 ⟨zero_le _,beq_eq_false_iff_ne.mpr (Ne.symm (ne_of_lt hb)),[],.nil,Heap.DictOf.new h⟩
def qX:List (TE×TE)->St->Hp->(List (V×V)->Hp->Prop)->Prop
 | [],_,H,Q=>Q [] H
 | (tk,tv)::r,σ,H,Q=>tk σ H fun x H1=>tv σ H1 fun y H2=>qX r σ H2 fun ps H3=>Q ((x,y)::ps) H3
abbrev VV:List (V×V)->List (Value×Value)->Prop:=Paired fun p q=>dn p.1 q.1/\dn p.2 q.2
def PPs(X:Cx)(pos:Pos)(keys:List (Option Expr))(values:List Expr)(trs:List (TE×TE)):Prop :=
 ∀(pins:List (Addr×Obj)) (s:Shared) (σ:St) (H:Hp) (Q:List (V×V)->Hp->Prop),Inv X pins σ H s->qX trs σ H Q ->
  wpAny (model X.prog X.w) X.A (evalPairs (pairTrees keys values X.env pos)) (fun vs s'=>∃ps H',Inv X pins σ H' s'/\VV ps vs/\Q ps H') X.xe s
theorem yB{X:Cx}{pos:Pos}:PPs X pos [] [] []:=fun pins s σ H Q I h=>pairTrees_nil_walk ⟨[],H,I,.nil,h⟩
theorem wn{X:Cx}{pos:Pos}{k v:Expr}{ks:List (Option Expr)}{vs:List Expr}{tk tv:TE}{trs:List (TE×TE)}(hk:PE X k tk)(hv:PE X v tv)(hr:PPs X pos ks vs trs) :
  PPs X pos (some k::ks) (v::vs) ((tk,tv)::trs):=fun pins s σ H Q I h =>
 pairTrees_cons_walk (thn (hk pins s σ H _ I h) fun u s1 ⟨x,H1,I1,rx,q1⟩=>thn (hv pins s1 σ H1 _ I1 q1) fun w2 s2 ⟨y,H2,I2,ry,q2⟩ =>
  thn (hr pins s2 σ H2 _ I2 q2) fun ws s3 ⟨ps,H3,I3,rel,q3⟩=>⟨(x,y)::ps,H3,I3,.cons ⟨rx,ry⟩ rel,q3⟩)
def jJ(kvs more:List (Key×V)):List (Key×V):=more.foldl (fun acc kv=>ud acc kv.1 kv.2) kvs
theorem KV.merge:∀{more:List (Key×V)}{rs:List (Key×Value)}{kvs:List (Key×V)}{vs:List (Key×Value)},KV more rs->KV kvs vs->KV (jJ kvs more) (merged vs rs):=by
 intro more rs kvs vs r;unfold KV at r
 induction r generalizing kvs vs with
 | nil=>intro q;exact q
 | @cons p q ps qs h t ih =>
  intro r0
  have e:KV (ud kvs p.1 p.2) (stored vs q.1 q.2):=by
   have:=r0.put p.1 h.2;rw [<- h.1];exact this
  exact ih e
theorem iN:∀(more kvs:List (Key×V)),(jJ kvs more).length<=kvs.length+more.length
 | [],kvs=>by show kvs.length<=kvs.length+0;omega
 | p::r,kvs=>by
  have h1:=iN r (ud kvs p.1 p.2);have h2:=p3 kvs p.1 p.2;show (jJ (ud kvs p.1 p.2) r).length<=_;rw [length_cons];omega
theorem l9{P:Program}{w:World}:∀{kvs:List (Key×V)}{ws:List (Value×Value)},VV (kvs.map fun kv=>(kV kv.1,kv.2)) ws->∃rs,Carries (eZ P w) ws rs/\KV kvs rs
 | [],_,r=>by rw [map_nil] at r;cases r;exact⟨[],True.intro,.nil⟩
 | p::kvs,_,r=>by
  rw [map_cons] at r
  cases r with
  | @cons a b as bs h t =>
   obtain⟨rs,c,q⟩:=l9 (P:=P) (w:=w) t;obtain⟨b1,b2⟩:=b;exact⟨(p.1,b2)::rs,⟨CS h.1,rfl,c⟩,.cons ⟨rfl,h.2⟩ q⟩
def A5(trs:List (TE×TE)):TE:=fun σ H Q=>∀p,H p=none->qX trs σ (upd H p (.dK [])) fun ps H2=>H2 p=some (.dK [])/\∃kvs:List (Key×V),ps=kvs.map (fun kv=>(kV kv.1,kv.2))/\kvs.length<=15/\Q (.ref p) (upd H2 p (.dK (jJ [] kvs)))
theorem yC{X:Cx}{pos:Pos}{keys:List (Option Expr)}{values:List Expr}{trs:List (TE×TE)}(h:PPs X pos keys values trs)(hall:keys.all (·.isSome)=true)(hl:keys.length=values.length)(h0:keys≠[])
  (h15:keys.length<=15):PE X (.Dict keys values pos) (A5 trs):=by
 intro pins s σ H Q I q;have hn:=I.hok.fresh (le_refl s.heap.objs.size);have I1:=I.laid (a:=s.heap.objs.size) (o:=.dK []) (h':=s.heap.push { cls:=.type "dict",data:=.dict #[] }) (t':=s.toks) (fun _ _ q=>Heap.get?_push_of_some _ q) (le_refl _) (wm s.heap I.big);refine wpAny_Dict_walk (knd:=eZ X.prog X.w) hall hl h0 h15 (thn (h pins _ σ _ _ I1 (q _ hn)) fun ws s2 ⟨ps,H2,I2,rel,e,kvs,ep,lk,q2⟩=>?_);subst ep
 obtain⟨rs,c,rk⟩:=l9 (P:=X.prog) (w:=X.w) rel;obtain⟨z,hd,vs0,r0,dd⟩:=CU I2.hok e;cases r0;refine⟨rs,c,dd,fun h' dd' hs=>⟨.ref s.heap.objs.size,_,?_,rfl,q2⟩⟩
 have hz:(jJ [] kvs).length<=sizeLine:=by
  have h1:=iN kvs [];rw [length_nil] at h1;rw [sizeLine_eq];omega
 have he:∃q,h'.get? s.heap.objs.size=some q:=let ⟨q,_,_,hq,_⟩:=dd';⟨q,hq⟩
 exact yA I2 (by rw [e];exact True.intro) hs he (A4 hz hd (rk.merge .nil) dd')
section
variable {X:Cx}
theorem mS{x:Str}{i:Int}{pos:Pos}(hg:Gl X x)(h:∃t,X.mg x=some (.int i t))(hd:(x == ("__debug__":Str))=false:=by decide):PE X (.Name x pos) (tC (.int i)):=by
 obtain⟨t,e⟩:=h;exact x0 (u:=.int i t) hg e ⟨t,rfl⟩ hd
end
structure A6 (P:Program) (w:World) (K:PySem.W.Frag) (mg:Str->Option Value) (base:Heap) (k:Nat) (x:Str) (ps:List Str) (dvs:List V) (sp:Sp):Prop where
 ex:∃(f:Addr) (fd:FuncData),lA P w K mg base CX0 k f fd ps sp/\(∀n,n<=dvs.length->∃ds,bZ (dvs.drop n) ds/\iu K fd ps ds)/\PySem.W.keepIn K (.ref f)=true/\mg x=some (.ref f)
structure qY (K:PySem.W.Frag) (mg:Str->Option Value) (x:Str) (st:Stmt) (dvs:List V):Prop where
 ex:∃(f dT:Addr) (oc:Value) (od an dd:Option Addr) (kV doc pm cdv ct:Value) (osl sl:Array (Option Value)) (items:List Value) (n:Nat),
  K.lookup f=some ⟨oc,od,.func (PySem.W.fnOf x x (bM st) (bh st) (ai st) (.ref dT) kV doc pm an cdv ct),osl⟩/\PySem.W.codeIn K cdv x=true/\PySem.W.keepIn K (.ref f)=true/\mg x=some (.ref f) /\
  K.lookup dT=some ⟨.type "tuple",dd,.seq items.toArray n,sl⟩/\bZ dvs items
section
variable {P:Program}{w:World}{K:PySem.W.Frag}{mg:Str->Option Value}{base:Heap}{x:Str}{st:Stmt}{N ps:List Str}{k:Nat}{sp:Sp}{dvs:List V}
theorem qY.ok(D:qY K mg x st dvs)(S:aM N ps (ai st))
  (hb:∀(dT:Addr) (kV doc pm:Value) (an:Option Addr) (cdv ct:Value) (items:List Value) (us:List Value) (n:Nat),items.length=dvs.length->n<=dvs.length->(us++items.drop n).length=ps.length ->
   ∃k,bindArgs (PySem.W.fnOf x x (bM st) (bh st) (ai st) (.ref dT) kV doc pm an cdv ct) ⟨us,[]⟩=seqItems? (.ref dT) >>= k/\k (some items.toArray)=pure (ps.zip (us++items.drop n)))
  (len:∀vs H Q E,sp vs H Q E->vs.length=ps.length)
  (hbody:∀(f:Addr) (cdv:Value) (A:Around) (outer:List Env) (s:Shared) (H:Hp) (vs:List V) (Q:VK) (E:XK),fh k (A.deeper (envOfC x (ai st) s.heap.objs.size f cdv))->sp vs H Q E ->
   ∃t,PSs (mJ CX0 P w K mg base N x (ai st) f cdv A outer s H E).nox (bh st) t/\t { nx:=fun _ H'=>Q .non H',rt:=Q } (start N vs) H):A6 P w K mg base (k+1) x ps dvs sp:=by
 obtain⟨f,dT,oc,od,an,dd,kV,doc,pm,cdv,ct,osl,sl,items,n,lk,hcd,kp,hm,lt,rv⟩:=D.ex;have hl:=rv.length
 refine⟨f,_,vV lk hcd S len fun A outer s H vs Q E hr hsp=>?_,fun j hj=>⟨items.drop j,rv.drop j,fun s us X hlen=>?_⟩,kp,hm⟩
 .obtain⟨t,h,q⟩:=hbody f cdv A outer s H vs Q E hr hsp;exact⟨t,h.nox,q⟩
 .obtain⟨k,h1,h2⟩:=hb dT kV doc pm an cdv ct items us j hl.symm hj hlen;exact BindsTo.of_defaults rfl (X dT _ lt) rfl h1 h2
end
section
variable {X:Cx}{k:Nat}{x:Str}{ps:List Str}{sp:Sp}{p pos:Pos}{e:Expr}{es:List Expr}{t:TA}{dvs:List V}
theorem yD(j:Nat)(C:A6 X.prog X.w X.K X.mg X.base k x ps dvs sp)(hr:fh k X.A)(hj:j<=dvs.length)(ha:PA X (e::es) t)(hg:Gl X x:=by rfl)(hdb:(x == ("__debug__":Str))=false:=by decide)(he:starEach (e::es) X.env=(false,eval e X.env)::starEach es X.env:=by rfl)
  (hpl:(backTo pos (starEach es X.env)).any (·.1)=false:=by rfl):PE X (.Call (.Name x p) (e::es) [] pos) (fi sp (dvs.drop j) E0 t):=by
 obtain⟨f,fd,F,hb,hk,hm⟩:=C.ex;obtain⟨ds,rv,hb⟩:=hb j hj;exact tH F hr hg hm hk hb rv vZ ha hdb he hpl
theorem mT(bs:List Bool):(List.range bs.length).all (fun i=>bs.getD i false)=bs.all id:=by
 induction bs with
 | nil=>rfl
 | cons b bs ih=>rw [length_cons,range_succ_eq_map,all_cons,all_map,all_cons,<- ih];rfl
theorem mU(bs:List Bool):(List.range bs.length).any (fun i=>bs.getD i false)=bs.any id:=by
 induction bs with
 | nil=>rfl
 | cons b bs ih=>rw [length_cons,range_succ_eq_map,any_cons,any_map,any_cons,<- ih];rfl
theorem ue{bs:List Bool}{its:List Value}(r:bZ (bs.map V.bl) its){i:Nat}{v:Value}(h:its.toArray[i]?=some v):v=.bool (bs.getD i false):=by
 have h':its[i]?=some v:=by simpa using h
 have hl:=r.length;rw [length_map] at hl;have hi:i<bs.length:=by have:=(List.getElem?_eq_some_iff.mp h').1;omega
 obtain⟨u,e1,e2⟩:=r.get (i:=i) (x:=V.bl bs[i]) (by rw [getElem?_map,getElem?_eq_getElem hi];rfl);rw [h'] at e1;cases e1;rw [show v=Value.bool bs[i] from e2,getD_eq_getElem?_getD,getElem?_eq_getElem hi];rfl
theorem wo(hc:X.calm=true):bJ X (.builtin "all") (fun xs H Q=>∃(p:Addr) (bs:List Bool),xs=[.ref p]/\SqL X.K H p (bs.map V.bl)/\Q (.bl (bs.all id)) H):=by
 intro pins s σ H xs us Q I r h;obtain⟨p,bs,rfl,hS,q⟩:=h;obtain⟨u,rfl,ru⟩:=gJ r;cases (show u=Value.ref p from ru);obtain⟨its,rv,pl,hz⟩:=I.list hS;have hl:=rv.length;rw [length_map] at hl;have hps:p<s.heap.objs.size:=let ⟨o,ho,_⟩:=pl.isList;Heap.lt_size ho
 obtain⟨f0,f1,f2,f3,f4,f5⟩:=I.fpOk (H':=H) (le_refl s.heap.objs.size) (I.hok.fresh (le_refl _))
 refine call_all_walk (wpAny_pyIter_list pl.isList ⟨s.heap.objs.size,_,_,its.toArray.size,_,_,fun i=>bs.getD i false,rfl,Walks.list (by exact I.ok.hd hc) s.heap.objs.size p (ne_of_lt hps) its.toArray,⟨⟨_,Heap.get?_push_size _ rfl,rfl,rfl⟩,pl.isList.push _⟩,fun i v s Q E hP hQ=>?_,fun h' tk hk=>?_⟩)
 .rw [ue rv hP];exact wpAny_truthy_bool hQ
 .have I1:Inv X pins σ H { s with heap:=s.heap.push { cls:=.type "list_iterator",data:=.fields #[.ref p,.int 0 0] } }:=I.kept (t':=s.toks) fun b o e=>Heap.get?_push_of_some _ e;have I2:=I1.turned (h':=h') (t':=tk) (it:=s.heap.objs.size) (fun b o hb e=>hk b o (by simpa using hb) e) f0 f1 f3 f4 f5;refine⟨.bl (bs.all id),H,I2,?_,q⟩;show Value.bool _=Value.bool _;rw [size_toArray,<- hl,mT]
theorem wp(hc:X.calm=true):bJ X (.builtin "any") (fun xs H Q=>∃(p:Addr) (bs:List Bool),xs=[.ref p]/\SqL X.K H p (bs.map V.bl)/\Q (.bl (bs.any id)) H):=by
 intro pins s σ H xs us Q I r h;obtain⟨p,bs,rfl,hS,q⟩:=h;obtain⟨u,rfl,ru⟩:=gJ r;cases (show u=Value.ref p from ru);obtain⟨its,rv,pl,hz⟩:=I.list hS;have hl:=rv.length;rw [length_map] at hl;have hps:p<s.heap.objs.size:=let ⟨o,ho,_⟩:=pl.isList;Heap.lt_size ho
 obtain⟨f0,f1,f2,f3,f4,f5⟩:=I.fpOk (H':=H) (le_refl s.heap.objs.size) (I.hok.fresh (le_refl _))
 refine call_any_walk (wpAny_pyIter_list pl.isList ⟨s.heap.objs.size,_,_,its.toArray.size,_,_,fun i=>bs.getD i false,rfl,Walks.list (by exact I.ok.hd hc) s.heap.objs.size p (ne_of_lt hps) its.toArray,⟨⟨_,Heap.get?_push_size _ rfl,rfl,rfl⟩,pl.isList.push _⟩,fun i v s Q E hP hQ=>?_,fun h' tk hk=>?_⟩)
 .rw [ue rv hP];exact wpAny_truthy_bool hQ
 .have I1:Inv X pins σ H { s with heap:=s.heap.push { cls:=.type "list_iterator",data:=.fields #[.ref p,.int 0 0] } }:=I.kept (t':=s.toks) fun b o e=>Heap.get?_push_of_some _ e;have I2:=I1.turned (h':=h') (t':=tk) (it:=s.heap.objs.size) (fun b o hb e=>hk b o (by simpa using hb) e) f0 f1 f3 f4 f5;refine⟨.bl (bs.any id),H,I2,?_,q⟩;show Value.bool _=Value.bool _;rw [size_toArray,<- hl,mU]
end
section
variable {X:Cx}{o e f:Expr}{apos cpos:Pos}{td ty tx:TE}
theorem uf:bJ X (.builtin "len") (fun xs H Q=>∃p kvs,xs=[.ref p]/\Rd H p (.dK kvs)/\Q (.int kvs.length) H):=by
 intro pins s σ H xs us Q I r h;obtain⟨p,kvs,rfl,hd,q⟩:=h;obtain⟨u,rfl,ru⟩:=gJ r;cases (show u=Value.ref p from ru);exact CV I hd fun t s' I'=>⟨.int kvs.length,H,I',⟨t,rfl⟩,q⟩
end
def aD(K:PySem.W.Frag)(x:Str):Addr:=match PySem.W.nsIn K mainGlobals x with
 | some (some (.ref C))=>C
 | _=>0
theorem fL{K:PySem.W.Frag}{x:Str}{C:Addr}(h:PySem.W.nsIn K mainGlobals x=some (some (.ref C))):aD K x=C:=by unfold aD;rw [h]
structure Co (P:Program) (w:World) (K:PySem.W.Frag) (mg:Str->Option Value) (base:Heap) (k:Nat) (C:Addr) (m:Str) (ps:List Str) (sp:Sp):Prop where
 ex:∃(f:Addr) (fd:FuncData),lA P w K mg base CX0 k f fd ps sp/\iu K fd ps []/\Cm K C m f
structure A7 (P:Program) (w:World) (K:PySem.W.Frag) (mg:Str->Option Value) (base:Heap) (k:Nat) (C:Addr) (x:Str) (ps:List Str) (sp:Sp):Prop where
 ex:∃(f:Addr) (fd:FuncData),lA P w K mg base CX0 k f fd ps sp/\iu K fd ps []/\Mk K C f/\mg x=some (.ref C)
structure qZ (K:PySem.W.Frag) (C:Addr) (m qual:Str) (st:Stmt):Prop where
 ex:∃(f:Addr) (fd:FuncData),Fun K m qual st f fd/\Cm K C m f
structure kt (K:PySem.W.Frag) (mg:Str->Option Value) (C:Addr) (x qual:Str) (st:Stmt):Prop where
 ex:∃(f:Addr) (fd:FuncData),Fun K "__init__" qual st f fd/\Mk K C f/\mg x=some (.ref C)
section
variable {P:Program}{w:World}{K:PySem.W.Frag}{mg:Str->Option Value}{base:Heap}{x m qual:Str}{C:Addr}{st:Stmt}{N ps:List Str}{k:Nat}{sp:Sp}
theorem qZ.ok(D:qZ K C m qual st)(S:aM N ps (ai st))
  (hb:∀(kV doc pm:Value) (an:Option Addr) (cdv ct:Value) (us:List Value),us.length=ps.length->bindArgs (PySem.W.fnOf m qual (bM st) (bh st) (ai st) .none kV doc pm an cdv ct) ⟨us,[]⟩=pure (ps.zip us))
  (len:∀vs H Q E,sp vs H Q E->vs.length=ps.length)
  (hbody:∀(f:Addr) (cdv:Value) (A:Around) (outer:List Env) (s:Shared) (H:Hp) (vs:List V) (Q:VK) (E:XK),fh k (A.deeper (envOfC qual (ai st) s.heap.objs.size f cdv))->sp vs H Q E ->
   ∃t,PSs (mJ CX0 P w K mg base N qual (ai st) f cdv A outer s H E).nox (bh st) t/\t { nx:=fun _ H'=>Q .non H',rt:=Q } (start N vs) H):Co P w K mg base (k+1) C m ps sp:=by
 obtain⟨f,fd,F,hm⟩:=D.ex;exact⟨f,fd,F.ok S len fun cdv A outer s H vs Q E hr h=>hbody f cdv A outer s H vs Q E hr h,F.binds hb,hm⟩
theorem kt.ok(D:kt K mg C x qual st)(S:aM N ps (ai st))
  (hb:∀(kV doc pm:Value) (an:Option Addr) (cdv ct:Value) (us:List Value),us.length=ps.length->bindArgs (PySem.W.fnOf "__init__" qual (bM st) (bh st) (ai st) .none kV doc pm an cdv ct) ⟨us,[]⟩=pure (ps.zip us))
  (len:∀vs H Q E,sp vs H Q E->vs.length=ps.length)
  (hbody:∀(f:Addr) (cdv:Value) (A:Around) (outer:List Env) (s:Shared) (H:Hp) (vs:List V) (Q:VK) (E:XK),fh k (A.deeper (envOfC qual (ai st) s.heap.objs.size f cdv))->sp vs H Q E ->
   ∃t,PSs (mJ CX0 P w K mg base N qual (ai st) f cdv A outer s H E).nox (bh st) t/\t { nx:=fun _ H'=>Q .non H',rt:=Q } (start N vs) H):A7 P w K mg base (k+1) C x ps sp:=by
 obtain⟨f,fd,F,hm,e⟩:=D.ex;exact⟨f,fd,F.ok S len fun cdv A outer s H vs Q E hr h=>hbody f cdv A outer s H vs Q E hr h,F.binds hb,hm,e⟩
end
section
variable {X:Cx}{k:Nat}{x m:Str}{C:Addr}{ps:List Str}{sp:Sp}{p pos apos:Pos}{o e:Expr}{es:List Expr}{ta:TE}{t:TA}
theorem yE(M:A7 X.prog X.w X.K X.mg X.base k C x ps sp)(hr:fh (k+1) X.A)(ha:PA X (e::es) t)(hg:Gl X x:=by rfl)(hdb:(x == ("__debug__":Str))=false:=by decide)(he:starEach (e::es) X.env=(false,eval e X.env)::starEach es X.env:=by rfl)
  (hpl:(backTo pos (starEach es X.env)).any (·.1)=false:=by rfl):PE X (.Call (.Name x p) (e::es) [] pos) (tG C sp [] E0 t):=by
 obtain⟨f,fd,F,hb,hk,hm⟩:=M.ex;exact yf hk F hr hg hm hb .nil vZ ha hdb he hpl
theorem q0{pl:Sem Bool}(he:PE X o ta)(c:Cls X.K C)(M:Co X.prog X.w X.K X.mg X.base k C m ps sp)(hr:fh k X.A)
  (ht:eval (.Call (.Attribute o m apos) [] [] pos) X.env=(do
   let ov <- eval o X.env
   standAt apos.atName
   let (f,first) <- holding [ov] (getMethod ov m pl)
   callWith pos f first (backTo pos (starEach [] X.env)) (backToKw pos (keywordEach [] X.env))):=by rfl) :
  PE X (.Call (.Attribute o m apos) [] [] pos) (ye C m sp [] E0 ta fE):=by
 obtain⟨f,fd,F,hb,hm⟩:=M.ex;exact vT (pl:=pl) he c hm F hr hb .nil vZ ht
end
theorem ug{prog:Program}{w:World}{A:Around}(k:Bool)(hh:A.handled=none)(it a:Addr)(hne:a≠it)(its:Array Value) :
  Draws prog w A it [it,a] its.size (fun i v=>its[i]?=some v) (fun i h=>cO k h it a i/\e8 k h a its) where
 live:=fun _ _ st=>let ⟨o,ho,_⟩:=st.1;⟨o,ho⟩
 frame:=fun _ _ _ st hk=>⟨st.1.mv fun o e=>hk it (by simp) o e,st.2.mv fun o e=>hk a (by simp) o e⟩
 item:=fun i s Q E hi st hQ=>by
  refine eT st.1 st.2 (x:=its[i]) (by simp [hi]) fun h' hit' hs'=>?_;exact hQ _ h' s.toks (by simp [hi]) ⟨hit',st.2.mv fun o e=>hs'.extBut _ o hne e⟩ hs'
 done:=fun s Q E st hE=>fK hh st.1 st.2 (by simp) hE
def Ite(k:Bool)(K:PySem.W.Frag)(a:Addr):It :=
  ⟨fun i H=>∃xs x,Sq k K H a xs/\xs[i]?=some x,
   fun i H p H'=>∃T x,H T=none/\p=.ref T/\(∀xs,Sq k K H a xs->xs[i]?=some x)/\H'=upd H T (.tup [.int (i:Int),x]),
   fun i H=>∃xs,Sq k K H a xs/\xs.length<=i⟩
theorem uh{P:Program}{w:World}{K:PySem.W.Frag}{es:List Expr}{ct:Nat}{tp:Pos}{k:Bool}{a e it:Addr}(hei:e≠it) :
  xp P w K (.Tuple es ct tp) (Ite k K a) [e,it] e (fun n h=>(∃old,IsEnum h e it ((n:Nat):Int) old)/\cO k h it a n) where
 mem:=by simp
 obj:=fun n h st b hb=>by
  obtain⟨⟨old,he⟩,o1,g1,c1,d1⟩:=st;simp only [mem_cons,not_mem_nil,or_false] at hb
  rcases hb with rfl|rfl
  .exact⟨_,he,fun v q=>by cases q⟩
  .exact⟨_,g1,fun v q=>by rw [d1] at q;cases q⟩
 keep:=fun n h h' st kk=>by
  obtain⟨⟨old,he⟩,w1⟩:=st;exact⟨⟨old,kk e (by simp) _ he⟩,w1.mv fun o q=>kk it (by simp) o q⟩
 item:=by
  intro X hP hw hK hc n pins s σ H E I hf st hg;subst hP hw hK;obtain⟨xs,x,q1,hx⟩:=hg;obtain⟨⟨old,he⟩,w1⟩:=st;obtain⟨its,rv,p,_⟩:=I.row q1;obtain⟨ux,hux,rx⟩:=rv.get hx;have ne:=I.row_ne q1 (hf e (by simp));have ni:=I.row_ne q1 (hf it (by simp))
  have hlt:n<its.toArray.size:=by
   have:=(List.getElem?_eq_some_iff.mp hux).1;simpa using this
  have hhd:X.A.in1.handled=none:=by exact I.ok.hd hc
  refine wpAny_pyNext_enum_itemD (ug k hhd it a ni its.toArray) he ⟨w1,p⟩ hlt hei (by simp [hei,Ne.symm ne]) fun y h' tk hP ho hst ht hsz hk=>?_
  have hy:y=ux:=by
   have h1:its[n]?=some y:=by simpa using hP
   rw [hux] at h1;exact (Option.some.inj h1).symm
  subst hy;refine⟨_,rfl,wpAny_letOwnedTupleGo_enum ho fun g ge gs=>?_⟩;have lt:∀{b o},s.heap.get? b=some o->s.heap.objs.size≠b:=fun q=>ne_of_gt (Heap.lt_size q)
  have kp:∀b o,b∉[e,it]->s.heap.get? b=some o->g.get? b=some o:=fun b o hb q=>by
   simp only [mem_cons,not_mem_nil,or_false,not_or] at hb;exact gs.extBut _ _ hb.1 (hk b o hb.1 hb.2 q)
  have I2:Inv X pins σ (upd H s.heap.objs.size (.tup [.int (n:Int),x])) { s with heap:=g,toks:=tk+1 }:=I.yielded (ch:=[e,it]) (fun b hb=>hf b hb) (le_refl _) kp
   ⟨by show 2<=sizeLine;decide,[.int (n:Int) tk,y],.cons ⟨tk,rfl⟩ (.cons rx .nil),_,gs.extBut _ _ (lt he) ht,rfl,_,rfl⟩
  refine⟨.ref s.heap.objs.size,_,I2,rfl,⟨_,x,I.hok.fresh (le_refl _),rfl,fun xs' q=>by rw [I.row_inj q q1];exact hx,rfl⟩,⟨⟨y,by simpa using ge⟩,hst.1.mv fun o q=>gs.extBut _ o (Ne.symm hei) q⟩,fun b hb=>?_⟩
  rw [ap ?_]
  .exact (hf b hb).1
  .intro q;subst q;simp only [mem_cons,not_mem_nil,or_false] at hb;obtain⟨o1,g1,_⟩:=w1
   rcases hb with q|q
   .exact lt he q
   .exact lt g1 q
 done:=by
  intro X hP hw hK hc n pins s σ H E I hf st hg;subst hP hw hK;obtain⟨xs,q1,hend⟩:=hg;obtain⟨⟨old,he⟩,w1⟩:=st;obtain⟨its,rv,p,_⟩:=I.row q1;have e1:=rv.length;have ni:=I.row_ne q1 (hf it (by simp));have hhd:X.A.in1.handled=none:=by exact I.ok.hd hc
  obtain⟨f0,f1,f2,f3,f4,f5⟩:=hf it (by simp)
  -- the walk's end is wherever the row has no item
  have hT:s.TypeIs (.ref e) "enumerate":=⟨_,he,rfl⟩
  unfold pyNext
  refine wpAny_bind (wpAny_attempt (wpAny_callSpecial?_slot (name:=Str.ofString "__next__") hT F.slot_enumerate_next
   (wpAny_call_entry F.slot_enumerate_next hT F.entry_enumerate_next ?_ (F.args_enumerate_next_1 _))))
  show wpAny _ _ (field (.ref e) 2 >>= _) _ _ _;refine wpAny_bind (wpAny_field he rfl (x:=.ref it) rfl ?_);refine wpAny_bind (fK hhd w1 p (by simp;omega) fun h' x he' hx'=>?_);obtain⟨o,ho,hcl⟩:=hx';refine wpAny_bind (wpAny_isInstance (T:="StopIteration") (b:=true) ⟨o,ho,hcl⟩ isSubtype_stop ?_);exact wpAny_pure ⟨rfl,I.turned (t':=s.toks) (fun b o hb q=>he' b o hb q) f0 f1 f3 f4 f5⟩
 self:=fun _ _ _ _ _ st h=>let ⟨⟨_,he⟩,_⟩:=st;wpAny_pyIter_enum he h
section
variable {P:Program}{w:World}{A:Around}{E:Value->Shared->Prop}{s:Shared}{k:Bool}
theorem wq(k:Bool)(a:Addr)(xs:Array Value):Meets (Builtin.«enumerate.__new__» ⟨[.type "enumerate",.ref a],[]⟩) (fun _ R s=>e8 k s.heap a xs /\
   R (.ok (.ret (.ref (s.heap.push (jQ k a)).objs.size))) { s with heap:=(s.heap.push (jQ k a)).push { cls:=.type "enumerate",data:=.fields #[.none,.bool false,.ref s.heap.objs.size,rawInt 0,.none,.none] } }) :=
 .of_wp fun prog w A R s h=>by
  obtain⟨hp,g,d,tk,os⟩:=s;obtain⟨r1,h⟩:=h;have hsub:=sub_enumerate;have R1:e8 k (Shared.heap ⟨hp,g,d,tk,os⟩) a xs:=r1;obtain⟨⟨cls,dd,data,sl⟩,ho,hc,n,hd⟩:=id r1;simp only at hc hd;subst hc hd
  wp_walk using AutoSeq1.wpAny_loadPart' ho
  refine wpAny_stack_any fun st=>wpAny_pure ?_
  split
  .rename_i c _ _ _ _ _
   cases (c == Value.type "enumerate")
   .wp_walk using AutoSeq1.wpAny_loadPart' ho,fo R1
    exact⟨_,rfl,h⟩
   .wp_walk using AutoSeq1.wpAny_loadPart' ho,fo R1
    exact⟨_,rfl,h⟩
  .wp_walk using AutoSeq1.wpAny_loadPart' ho,fo R1
   exact⟨_,rfl,h⟩
theorem wt{a:Addr}{xs:Array Value}{Q:Value->Shared->Prop}(r1:e8 k s.heap a xs)
  (h:∀h',IsEnum h' (s.heap.objs.size+1) s.heap.objs.size 0 .none->cO k h' s.heap.objs.size a 0->(∀b o,s.heap.get? b=some o->h'.get? b=some o)->Q (.ref (s.heap.objs.size+1)) { s with heap:=h' }) :
  wpAny (model P w) A (call (.type "enumerate") [.ref a]) Q E s:=by
 refine callType_new F.called_enumerate (by decide) (F.typeCall_enumerate_1 _) (F.newCall_enumerate_1 _) (fun obj=>F.args_object_init_2 obj _) F.entry_enumerate_new (wq k a xs) ⟨r1,?_⟩;have z1:(s.heap.push (jQ k a)).objs.size=s.heap.objs.size+1:=Heap.size_push ..;have g2:((s.heap.push (jQ k a)).push { cls:=.type "enumerate",data:=.fields #[.none,.bool false,.ref s.heap.objs.size,rawInt 0,.none,.none] }).get? (s.heap.push (jQ k a)).objs.size=some _:=Heap.get?_push_size _ rfl
 have g1:=Heap.get?_push_of_some { cls:=.type "enumerate",data:=.fields #[.none,.bool false,.ref s.heap.objs.size,rawInt 0,.none,.none] } (Heap.get?_push_size s.heap (o:=jQ k a) rfl);show _/\_;rw [z1] at g2 ⊢;exact⟨⟨_,g2,rfl⟩,h _ g2 ⟨_,g1,rfl,rfl⟩ fun b o q=>Heap.get?_push_of_some _ (Heap.get?_push_of_some _ q)⟩
end
section
variable {X:Cx}{es:List Expr}{ct:Nat}{tp:Pos}
def yF(K:PySem.W.Frag)(ta:TA):TI:=fun σ H R=>ta σ H fun vs H1=>∃k a,vs=[.ref a]/\(∃xs,Sq k K H1 a xs)/\R (Ite k K a) H1
theorem yG{a:Expr}{ta:TA}{p pos:Pos}(hg:Gl X "enumerate")(hm:X.mg "enumerate"=none)(ha:PA X [a] ta)(hs:starEach [a] X.env=[(false,eval a X.env)]:=by rfl) :
  PI X (.Tuple es ct tp) (.Call (.Name "enumerate" p) [a] [] pos) (yF X.K ta):=by
 intro pins s σ H R I h;refine Call_ (jH I hg hm boot_enumerate (PyProof.Rows.callWith_type1 (thn (ha pos pins s σ H _ I h) fun us s1 ⟨vs,H1,I1,r1,q1⟩=>?_) hs rfl));obtain⟨k,a,e,⟨xs,q1⟩,q⟩:=q1;subst e
 cases r1 with
 | cons r rr =>
  cases rr;cases r;obtain⟨its,rv,p,_⟩:=I1.row q1;refine wt p fun h' g1 g2 kk=>wpAny_pyIter_enum g1 ?_;have I2:Inv X pins σ H1 { s1 with heap:=h',toks:=s1.toks }:=I1.kept kk;refine⟨s1.heap.objs.size+1,[s1.heap.objs.size+1,s1.heap.objs.size],_,_,H1,rfl,I2,uh (k:=k) (a:=a) (it:=s1.heap.objs.size) (ne_of_gt (lt_succ_self _)),⟨⟨_,g1⟩,g2⟩,fun b hb=>?_,q⟩
  have hle:s1.heap.objs.size<=b:=by
   simp only [mem_cons,not_mem_nil,or_false] at hb
   rcases hb with e|e
   .rw [e];exact le_add_right _ _
   .rw [e];exact le_refl _
  exact I1.fpOk hle (I1.hok.fresh hle)
end
section
variable {X:Cx}
theorem ui(hc:X.calm=true):bJ X (.builtin "min") (fun xs H Q=>∃(p:Addr) (ns:List Int),xs=[.ref p]/\SqL X.K H p (ns.map V.int)/\0<ns.length/\∀m:Int,m∈ns->(∀a∈ns,m<=a)->Q (.int m) H):=by
 intro pins s σ H xs us Q I r h;obtain⟨p,ns,rfl,hS,hne,q⟩:=h;obtain⟨u,rfl,ru⟩:=gJ r;cases (show u=Value.ref p from ru);obtain⟨its,rv,pl,hz⟩:=I.list hS;have hi:=jh rv;have hl:=pl.isList;obtain⟨ys,e⟩:=hi.allInts.items;have hns:ns=ys.toList.map (·.1):=by rw [<- hi.numsOf,<- nums_intItems,<- e]
 have hsz:0<ys.size:=by
  have h3:=hne;rw [hns,length_map,Array.length_toList] at h3;exact h3
 rw [e] at hl;refine min_intList (by exact I.ok.hd hc) hl hsz fun v h' tk hv hk=>?_;obtain⟨t,rfl⟩:=intItems_at hv;obtain⟨h1,h2⟩:=argBest_lt (numAt ys) (ys.size - 1)
 refine⟨.int _,H,I.kept (t':=tk) hk,⟨t,rfl⟩,q _ ?_ fun a ha=>?_⟩
 .rw [hns,numAt_eq];exact getD_mem (by rw [length_map,Array.length_toList];omega)
 .rw [hns] at ha;obtain⟨j,hj,rfl⟩:=mem_getD ha;rw [length_map,Array.length_toList] at hj;rw [<- numAt_eq];exact h2 j (by omega)
theorem ma(ns:List Int):∀k,k<=ns.length->preSum (fun i=>ns.getD i 0) k=(ns.take k).sum
 | 0,_=>rfl
 | k+1,h=>by
  rw [preSum,ma ns k (by omega),take_add_one,getElem?_eq_getElem (by omega),sum_append,getD_eq_getElem?_getD,getElem?_eq_getElem (by omega)];simp
theorem uj(hc:X.calm=true):bJ X (.builtin "sum") (fun xs H Q=>∃(p:Addr) (ns:List Int),xs=[.ref p]/\SqL X.K H p (ns.map V.int)/\Q (.int ns.sum) H):=by
 intro pins s σ H xs us Q I r h;obtain⟨p,ns,rfl,hS,q⟩:=h;obtain⟨u,rfl,ru⟩:=gJ r;cases (show u=Value.ref p from ru);obtain⟨its,rv,pl,hz⟩:=I.list hS;have hi:=jh rv;have hl:=pl.isList;obtain⟨ys,e⟩:=hi.allInts.items;have hns:ns=ys.toList.map (·.1):=by rw [<- hi.numsOf,<- nums_intItems,<- e]
 rw [e] at hl;refine sum_intListG (by exact I.ok.hd hc) hl fun h' tk t' hk=>⟨.int ns.sum,H,I.kept (t':=tk) hk,⟨t',?_⟩,q⟩
 have hlen:ys.size=ns.length:=by rw [hns,length_map,Array.length_toList]
 have hnum:numAt ys=fun i=>ns.getD i 0:=by
  funext i;rw [numAt_eq,hns]
 rw [hnum,hlen,ma ns ns.length (le_refl _),take_length]
theorem uk:∀{ws:List (List Nat)}{us:List Value},bZ (ws.map tx) us->StrsAre us (ws.map S)
 | [],_,.nil=>.nil
 | w::ws,_,.cons r rr=>by
  obtain⟨t,e⟩:=r;subst e;exact .cons _ _ (uk rr)
end
section
variable {X:Cx}{es:List Expr}{ct:Nat}{tp:Pos}
def CW(K:PySem.W.Frag)(ta:TA):TI:=fun σ H R=>ta σ H fun vs H1=>∃k l a c,vs=[.ref a,.ref c]/\(∃xs ys,Sq k K H1 a xs/\Sq l K H1 c ys)/\R (Itz k l K a c) H1
end
section
variable {X:Cx}{e:Expr}{ta:TE}{f:Str}{pos:Pos}
theorem cg(K:PySem.W.Frag)(eK:X.K=K)(he:PE X e ta)(hb:attributeBase e f X.env (eval e X.env)=eval e X.env):PE X (.Attribute e f pos) (tE K ta f):=eK ▸ Ax he hb
def CY(K:PySem.W.Frag):List V->Hp->VK->Prop:=fun xs H Q=>∃p ys,xs=[.ref p]/\SqL K H p ys/\Q (.int ys.length) H
def CZ(K:PySem.W.Frag):List V->Hp->VK->Prop:=fun xs H Q=>∃p ys,xs=[.ref p]/\SqT K H p ys/\Q (.int ys.length) H
def D6(K:PySem.W.Frag):List V->Hp->VK->Prop:=fun xs H Q=>∃x n t b,xs=[x,.ty n]/\pT K H x t/\PySem.W.kitOne K t (.type n)=some b/\Q (.bl b) H
def ul(K:PySem.W.Frag):List V->Hp->VK->Prop:=fun xs H Q=>∃p ys,xs=[.ref p]/\(SqL K H p ys\/SqT K H p ys)/\∀l,H l=none->Q (.ref l) (upd H l (.lst ys))
end
section
variable {X:Cx}{o e:Expr}{es:List Expr}{to:TE}{t:TA}{name:Str}{apos cpos:Pos}{T id:String}{r:V->List V->Hp->VK->Prop}
theorem fq(K:PySem.W.Frag)(eK:X.K=K)(pa:PlainAttrs T)(slot:Slot T name id)(hty:typeOf (.builtin id)=pure (.type "method_descriptor"))(hm:MtR X id r)(ho:PE X o to)(ha:PA X (e::es) t)
  (hbase:attributeBase o name X.env (eval o X.env)=eval o X.env:=by rfl)
  (hfew:((backTo cpos (starEach (e::es) X.env)).all (fun x=>!x.1) && (backToKw cpos (keywordEach [] X.env)).all (fun x=>x.1.isSome)
   && decide ((e::es).length+([]:List Keyword).length+(if ([]:List Keyword).isEmpty then 0 else 1)<30))=true:=by rfl)
  (hline:(apos.endLine == cpos.line)=true:=by rfl) (hs:starEach (e::es) X.env=(false,eval e X.env)::starEach es X.env:=by rfl) (hplain:(backTo cpos (starEach es X.env)).any (·.1)=false:=by rfl) :
  PE X (.Call (.Attribute o name apos) (e::es) [] cpos) (tBM K T r to t):=eK ▸ CL pa slot hty hm ho ha hbase hfew hline hs hplain
end
def ic(c:Bool)(A B:Prop):Prop:=match c with|true=>A|false=>B
theorem zT{c:Bool}{A B:Prop}(h1:c=true->A)(h2:c=false->B):ic c A B:=by
 cases c with
 | true=>exact h1 rfl
 | false=>exact h2 rfl
theorem eR{p:Prop}[Decidable p]{A B:Prop}(h1:p->A)(h2:¬ p->B):ic (decide p) A B:=zT (fun h=>h1 (of_decide_eq_true h)) (fun h=>h2 (of_decide_eq_false h))
theorem um{p:Prop}[Decidable p]{A B:Prop}(h1:¬ p->A)(h2:p->B):ic (!decide p) A B:=zT (fun h=>h1 fun z=>by rw [decide_eq_true z] at h;cases h) (fun h=>h2 (by
 by_cases z:p
 .exact z
 .rw [decide_eq_false z] at h;cases h))
theorem C1{p:Prop}[Decidable p]{A B:Prop}(h:p)(hA:A):ic (decide p) A B:=eR (fun _=>hA) (fun z=>absurd h z)
theorem C3{p:Prop}[Decidable p]{A B:Prop}(h:¬ p)(hB:B):ic (decide p) A B:=eR (fun z=>absurd z h) (fun _=>hB)
theorem A8{p:Prop}[Decidable p]{A B:Prop}(h:¬ p)(hA:A):ic (!decide p) A B:=um (fun _=>hA) (fun z=>absurd z h)
theorem A9{p:Prop}[Decidable p]{A B:Prop}(h:p)(hB:B):ic (!decide p) A B:=um (fun z=>absurd h z) (fun _=>hB)
theorem mW{c:Bool}{A B:Prop}(h:ic c B A):ic (!c) A B:=by
 cases c <;> exact h
theorem Ew{c:Bool}{A B:Prop}(h:c=true)(hA:A):ic c A B:=by subst h;exact hA
theorem Ex{c:Bool}{A B:Prop}(h:c=false)(hB:B):ic c A B:=by subst h;exact hB
theorem C4{c:Bool}{A B:Prop}(h:c=false)(hA:A):ic (!c) A B:=by subst h;exact hA
theorem C5{c:Bool}{A B:Prop}(h:c=true)(hB:B):ic (!c) A B:=by subst h;exact hB
inductive D where
 | non|bl (b:Bool)|int (i:Int)|str (l:List Nat)|ty (n:String)
 | lst (ds:List D)|tup (ds:List D)|scr (ns:List Int)|dic (ks:List Key) (ds:List D)|obj (c:Str) (ns:List Str) (ds:List D)|exc (c:Str) (ns:List Str) (ds:List D)
def XAt(x C:Addr)(dd:Option Addr)(new:Bool)(h:Heap):Prop:=∃o vs,h.get? x=some o/\o.cls=.ref C/\o.dict=dd/\o.data=.fields vs/\1<vs.size/\(new=true->vs[1]?=some .none)
def et(A:Addr->Prop)(a:Addr):Addr->Prop:=fun b=>A b\/b=a
def zU(K:PySem.W.Frag)(O:Addr->Prop)(H:Hp)(a:Addr)(xs:List V):Prop :=
 (¬ O a/\Rd H a (.lst xs))\/∃(o:Obj) (its:Array Value) (n:Nat),K.lookup a=some o/\o.cls=.type "list"/\o.dict=none/\o.data=.seq its n/\its.size<=sizeLine/\bZ xs its.toList
theorem zU.sq{K:PySem.W.Frag}{O:Addr->Prop}{H:Hp}{a:Addr}{xs:List V}(h:zU K O H a xs):SqL K H a xs:=h.elim (fun z=>.inl z.2) .inr
def aO(O:Addr->Prop)(H:Hp)(O':Addr->Prop)(H':Hp):Prop:=∀b o,¬ O b->H b=some o->¬ O' b/\H' b=some o
theorem Rd.keeps{O O':Addr->Prop}{H H':Hp}{a:Addr}{u:HO}(k:aO O H O' H')(n:¬ O a)(r:Rd H a u):¬ O' a/\Rd H' a u:=by
 rcases r with e|⟨o,e⟩
 .exact⟨(k _ _ n e).1,.inl (k _ _ n e).2⟩
 .exact⟨(k _ _ n e).1,.inr ⟨o,(k _ _ n e).2⟩⟩
theorem zU.keeps{K:PySem.W.Frag}{O O':Addr->Prop}{H H':Hp}{a:Addr}{xs:List V}(k:aO O H O' H')(h:zU K O H a xs):zU K O' H' a xs:=by
 rcases h with ⟨n,r⟩|r
 .exact .inl (r.keeps k n)
 .exact .inr r
mutual
inductive FV (K:PySem.W.Frag) (O:Addr->Prop) (H:Hp):V->D->Prop
 | non:FV K O H .non .non
 | bl (b:Bool):FV K O H (.bl b) (.bl b)
 | int (i:Int):FV K O H (.int i) (.int i)
 | str (l:List Nat):l.length<=1000000->FV K O H (.str (S l)) (.str l)
 | ty (n:String):FV K O H (.ty n) (.ty n)
 | scr {a:Addr}{ns:List Int}:zU K O H a (ns.map V.int)->FV K O H (.ref a) (.scr ns)
 | lst {a:Addr}{xs:List V}{ds:List D}:¬ O a->H a=some (.lst xs)->FVs K O H xs ds->FV K O H (.ref a) (.lst ds)
 | tup {a:Addr}{xs:List V}{ds:List D}:¬ O a->H a=some (.tup xs)->FVs K O H xs ds->FV K O H (.ref a) (.tup ds)
 | dic {a:Addr}{kvs:List (Key×V)}{ks:List Key}{ds:List D}:¬ O a->H a=some (.dK kvs)->kvs.map Prod.fst=ks->FVs K O H (kvs.map Prod.snd) ds->FV K O H (.ref a) (.dic ks ds)
 | obj {a dx:Addr}{c:Str}{fs:List (Str×V)}{ns:List Str}{ds:List D}:¬ O a->H a=some (.ins (aD K c) dx fs)->fs.map Prod.fst=ns->FVs K O H (fs.map Prod.snd) ds->FV K O H (.ref a) (.obj c ns ds)
 | exc0 {a:Addr}{c:Str}{new:Bool}:¬ O a->H a=some (.ext (XAt a (aD K c) none new))->FV K O H (.ref a) (.exc c [] [])
 | exc1 {a dx:Addr}{c:Str}{new:Bool}{fs:List (Str×V)}{ns:List Str}{ds:List D}:¬ O a->¬ O dx->H a=some (.ext (XAt a (aD K c) (some dx) new))->H dx=some (.xd fs)->fs.map Prod.fst=ns->FVs K O H (fs.map Prod.snd) ds->FV K O H (.ref a) (.exc c ns ds)
inductive FVs (K:PySem.W.Frag) (O:Addr->Prop) (H:Hp):List V->List D->Prop
 | nil:FVs K O H [] []
 | cons {x:V}{d:D}{xs:List V}{ds:List D}:FV K O H x d->FVs K O H xs ds->FVs K O H (x::xs) (d::ds)
end
section
variable {K:PySem.W.Frag}{O O':Addr->Prop}{H H':Hp}
mutual
theorem FV.keeps(k:aO O H O' H'):∀{v:V}{d:D},FV K O H v d->FV K O' H' v d
 | _,_,.non=>.non
 | _,_,.bl b=>.bl b
 | _,_,.int i=>.int i
 | _,_,.str l h=>.str l h
 | _,_,.ty n=>.ty n
 | _,_,.scr s=>.scr (s.keeps k)
 | _,_,.lst n e f=>.lst (k _ _ n e).1 (k _ _ n e).2 (FVs.keeps k f)
 | _,_,.tup n e f=>.tup (k _ _ n e).1 (k _ _ n e).2 (FVs.keeps k f)
 | _,_,.dic n e m f=>.dic (k _ _ n e).1 (k _ _ n e).2 m (FVs.keeps k f)
 | _,_,.obj n e m f=>.obj (k _ _ n e).1 (k _ _ n e).2 m (FVs.keeps k f)
 | _,_,.exc0 n e=>.exc0 (k _ _ n e).1 (k _ _ n e).2
 | _,_,.exc1 n n2 e e2 m f=>.exc1 (k _ _ n e).1 (k _ _ n2 e2).1 (k _ _ n e).2 (k _ _ n2 e2).2 m (FVs.keeps k f)
theorem FVs.keeps(k:aO O H O' H'):∀{vs:List V}{ds:List D},FVs K O H vs ds->FVs K O' H' vs ds
 | _,_,.nil=>.nil
 | _,_,.cons a b=>.cons (FV.keeps k a) (FVs.keeps k b)
end
theorem FVs.length:∀{vs:List V}{ds:List D},FVs K O H vs ds->vs.length=ds.length
 | _,_,.nil=>rfl
 | _,_,.cons _ b=>by rw [length_cons,length_cons,b.length]
theorem FVs.get:∀{vs:List V}{ds:List D}{i:Nat}{v:V},FVs K O H vs ds->vs[i]?=some v->∃d,ds[i]?=some d/\FV K O H v d
 | _,_,0,_,.cons a _,e=>by simp at e;subst e;exact⟨_,rfl,a⟩
 | _,_,i+1,v,.cons _ b,e=>by
  obtain⟨d,h1,h2⟩:=b.get (i:=i) (v:=v) (by simpa using e);exact⟨d,by simpa using h1,h2⟩
theorem FVs.getD:∀{vs:List V}{ds:List D}{i:Nat}{d:D},FVs K O H vs ds->ds[i]?=some d->∃v,vs[i]?=some v/\FV K O H v d
 | _,_,0,_,.cons a _,e=>by simp at e;subst e;exact⟨_,rfl,a⟩
 | _,_,i+1,v,.cons _ b,e=>by
  obtain⟨d,h1,h2⟩:=b.getD (i:=i) (d:=v) (by simpa using e);exact⟨d,by simpa using h1,h2⟩
theorem FVs.append:∀{vs ws:List V}{ds es:List D},FVs K O H vs ds->FVs K O H ws es->FVs K O H (vs++ws) (ds++es)
 | _,_,_,_,.nil,s=>s
 | _,_,_,_,.cons a b,s=>.cons a (b.append s)
theorem FVs.set{v:V}{d:D}(f:FV K O H v d):∀{vs:List V}{ds:List D} (i:Nat),FVs K O H vs ds->FVs K O H (vs.set i v) (ds.set i d)
 | _,_,_,.nil=>.nil
 | _,_,0,.cons _ t=>.cons f t
 | _,_,i+1,.cons q t=>.cons q (FVs.set f i t)
theorem FVs.take:∀{vs:List V}{ds:List D} (n:Nat),FVs K O H vs ds->FVs K O H (vs.take n) (ds.take n)
 | _,_,0,_=>.nil
 | _,_,_+1,.nil=>.nil
 | _,_,n+1,.cons r t=>.cons r (t.take n)
theorem FVs.drop:∀{vs:List V}{ds:List D} (n:Nat),FVs K O H vs ds->FVs K O H (vs.drop n) (ds.drop n)
 | _,_,0,r=>r
 | _,_,_+1,.nil=>.nil
 | _,_,n+1,.cons _ t=>t.drop n
theorem FVs.reverse:∀{vs:List V}{ds:List D},FVs K O H vs ds->FVs K O H vs.reverse ds.reverse
 | _,_,.nil=>.nil
 | _,_,.cons r t=>by rw [reverse_cons,reverse_cons];exact t.reverse.append (.cons r .nil)
theorem FVs.ints:∀{vs:List V}{ns:List Int},FVs K O H vs (ns.map D.int)->vs=ns.map V.int
 | _,[],.nil=>rfl
 | _,n::r,h=>by
  cases h with
  | cons a b=>cases a;rw [FVs.ints b];rfl
theorem FVs.of_ints:∀ns:List Int,FVs K O H (ns.map V.int) (ns.map D.int)
 | []=>.nil
 | n::r=>.cons (.int n) (FVs.of_ints r)
theorem FVs.strs:∀{vs:List V}{ws:List (List Nat)},FVs K O H vs (ws.map D.str)->vs=ws.map tx
 | _,[],.nil=>rfl
 | _,n::r,h=>by
  cases h with
  | cons a b=>cases a;rw [FVs.strs b];rfl
theorem FVs.bls:∀{vs:List V}{bs:List Bool},FVs K O H vs (bs.map D.bl)->vs=bs.map V.bl
 | _,[],.nil=>rfl
 | _,n::r,h=>by
  cases h with
  | cons a b=>cases a;rw [FVs.bls b];rfl
end
def D.flat:D->Bool
 | .non=>true|.bl _=>true|.int _=>true|.str _=>true|.ty _=>true
 | _=>false
theorem FV.of_flat{K:PySem.W.Frag}{O O':Addr->Prop}{H H':Hp}{v:V}{d:D}(h:FV K O H v d)(f:d.flat=true):FV K O' H' v d:=by
 cases h with
 | non=>exact .non
 | bl b=>exact .bl b
 | int i=>exact .int i
 | str l h=>exact .str l h
 | ty n=>exact .ty n
 | scr _=>cases f
 | lst _ _ _=>cases f
 | tup _ _ _=>cases f
 | dic _ _ _ _=>cases f
 | obj _ _ _ _=>cases f
 | exc0 _ _=>cases f
 | exc1 _ _ _ _ _ _=>cases f
inductive PV where
 | dat (d:D)|own (ds:List D)|ins (c:Str) (ns:List Str) (ds:List D)
def PV.isOwn:PV->Bool
 | .dat _=>false
 | _=>true
def PV.d:PV->D
 | .dat d=>d
 | .own ds=>.lst ds
 | .ins c ns ds=>.obj c ns ds
abbrev PSt:=List (Option PV)
def Wr(ρ:PSt)(σ:St)(b:Addr):Prop:=∃(i:Nat) (p:PV),ρ[i]?=some (some p)/\p.isOwn=true/\σ[i]?=some (some (.ref b))
def OO(A:Addr->Prop)(ρ:PSt)(σ:St)(b:Addr):Prop:=A b\/Wr ρ σ b
def RS(K:PySem.W.Frag)(O:Addr->Prop)(H:Hp):PV->V->Prop
 | .dat d,v=>FV K O H v d
 | .own ds,v=>∃a xs,v=.ref a/\H a=some (.lst xs)/\FVs K O H xs ds
 | .ins c ns ds,v=>∃a dx fs,v=.ref a/\H a=some (.ins (aD K c) dx fs)/\fs.map Prod.fst=ns/\FVs K O H (fs.map Prod.snd) ds
structure Rel (K:PySem.W.Frag) (A:Addr->Prop) (ρ:PSt) (σ:St) (H:Hp):Prop where
 len:ρ.length=σ.length
 get:∀(i:Nat) (p:PV),ρ[i]?=some (some p)->∃v,σ[i]?=some (some v)/\RS K (OO A ρ σ) H p v
 dj:∀(i j:Nat) (p q:PV) (v:V),ρ[i]?=some (some p)->ρ[j]?=some (some q)->p.isOwn=true->q.isOwn=true->σ[i]?=some (some v)->σ[j]?=some (some v)->i=j
 dom:∀b,A b->H b≠none
 sep:∀b,A b->¬ Wr ρ σ b
structure Fr (ρ:PSt) (σ:St) (H:Hp) (ρ':PSt) (H':Hp):Prop where
 kp:∀b o,¬ Wr ρ σ b->H b=some o->H' b=some o
 dm:∀b,H b≠none->H' b≠none
 ow:∀b,Wr ρ' σ b->Wr ρ σ b
theorem Fr.refl(ρ:PSt)(σ:St)(H:Hp):Fr ρ σ H ρ H:=⟨fun _ _ _ h=>h,fun _ h=>h,fun _ h=>h⟩
theorem Fr.trans{ρ ρ1 ρ2:PSt}{σ:St}{H H1 H2:Hp}(a:Fr ρ σ H ρ1 H1)(b:Fr ρ1 σ H1 ρ2 H2):Fr ρ σ H ρ2 H2 :=
 ⟨fun c o n h=>b.kp c o (fun z=>n (a.ow c z)) (a.kp c o n h),fun c h=>b.dm c (a.dm c h),fun c h=>a.ow c (b.ow c h)⟩
theorem Fr.keeps{ρ ρ':PSt}{σ:St}{H H':Hp}{A:Addr->Prop}(f:Fr ρ σ H ρ' H'):aO (OO A ρ σ) H (OO A ρ' σ) H':=fun b o n h =>
 ⟨fun z=>z.elim (fun z=>n (.inl z)) (fun z=>n (.inr (f.ow b z))),f.kp b o (fun z=>n (.inr z)) h⟩
theorem Fr.new{ρ:PSt}{σ:St}{H:Hp}{p:Addr}{o:HO}(h:H p=none):Fr ρ σ H ρ (upd H p o) :=
 ⟨fun b u _ e=>by rw [ap (aH e h)];exact e,fun b e=>by
  by_cases z:b=p
  .rw [z,ay];exact nofun
  .rw [ap z];exact e,fun _ h=>h⟩
theorem aO.fresh{O:Addr->Prop}{H:Hp}{p:Addr}{o:HO}(h:H p=none):aO O H (et O p) (upd H p o):=fun b u n e =>
 ⟨fun z=>z.elim n (fun z=>by rw [z,h] at e;cases e),by rw [ap (aH e h)];exact e⟩
theorem aO.less{O O':Addr->Prop}{H:Hp}(h:∀b,O' b->O b):aO O H O' H:=fun b o n e=>⟨fun z=>n (h b z),e⟩
theorem RS.keeps{K:PySem.W.Frag}{O O':Addr->Prop}{H H':Hp}{p:PV}{v:V}(k:aO O H O' H')(w:p.isOwn=true->∀a,v=.ref a->H' a=H a)(h:RS K O H p v):RS K O' H' p v:=by
 cases p with
 | dat d=>exact FV.keeps k h
 | own ds =>
  obtain⟨a,xs,e,g,f⟩:=h;exact⟨a,xs,e,by rw [w rfl a e];exact g,f.keeps k⟩
 | ins c ns ds =>
  obtain⟨a,dx,fs,e,g,m,f⟩:=h;exact⟨a,dx,fs,e,by rw [w rfl a e];exact g,m,f.keeps k⟩
theorem RS.ref{K:PySem.W.Frag}{O:Addr->Prop}{H:Hp}{p:PV}{v:V}(h:RS K O H p v)(o:p.isOwn=true):∃a u,v=.ref a/\H a=some u:=by
 cases p with
 | dat d=>cases o
 | own ds=>obtain⟨a,xs,e,g,f⟩:=h;exact⟨a,_,e,g⟩
 | ins c ns ds=>obtain⟨a,dx,fs,e,g,m,f⟩:=h;exact⟨a,_,e,g⟩
theorem Rel.wr{K:PySem.W.Frag}{A:Addr->Prop}{ρ:PSt}{σ:St}{H:Hp}(R:Rel K A ρ σ H){b:Addr}(h:Wr ρ σ b):H b≠none:=by
 obtain⟨i,p,e,o,s⟩:=h;obtain⟨v,s',r⟩:=R.get i p e;rw [s] at s';cases s';obtain⟨a,u,e1,e2⟩:=r.ref o;cases e1;rw [e2];exact nofun
theorem Rel.oo{K:PySem.W.Frag}{A:Addr->Prop}{ρ:PSt}{σ:St}{H:Hp}(R:Rel K A ρ σ H){b:Addr}(h:H b=none):¬ OO A ρ σ b:=fun z=>z.elim (fun z=>R.dom b z h) (fun z=>R.wr z h)
theorem Rel.grow{K:PySem.W.Frag}{A:Addr->Prop}{ρ:PSt}{σ:St}{H:Hp}(R:Rel K A ρ σ H){p:Addr}{o:HO}(h:H p=none):Rel K A ρ σ (upd H p o):=by
 have k:aO (OO A ρ σ) H (OO A ρ σ) (upd H p o):=Fr.keeps (Fr.new h);refine⟨R.len,fun i q e=>?_,R.dj,fun b z=>(Fr.new (ρ:=ρ) (σ:=σ) h).dm b (R.dom b z),R.sep⟩;obtain⟨v,s,r⟩:=R.get i q e;refine⟨v,s,r.keeps k fun ow a ea=>?_⟩;obtain⟨a',u,e1,e2⟩:=r.ref ow;rw [ea] at e1;cases e1;rw [ap (aH e2 h)]
theorem Rel.less{K:PySem.W.Frag}{A A':Addr->Prop}{ρ:PSt}{σ:St}{H:Hp}(R:Rel K A ρ σ H)(h:∀b,A' b->A b):Rel K A' ρ σ H:=by
 refine⟨R.len,fun i q e=>?_,R.dj,fun b z=>R.dom b (h b z),fun b z=>R.sep b (h b z)⟩;obtain⟨v,s,r⟩:=R.get i q e;exact⟨v,s,r.keeps (aO.less fun b z=>z.imp (h b) id) fun _ _ _=>rfl⟩
theorem Rel.write{K:PySem.W.Frag}{A:Addr->Prop}{ρ:PSt}{σ:St}{H:Hp}(R:Rel K A ρ σ H){i:Nat}{p q:PV}{a:Addr}{o:HO}(e:ρ[i]?=some (some p))(ow:p.isOwn=true)(ow':q.isOwn=true)(es:σ[i]?=some (some (.ref a)))
  (new:RS K (OO A ρ σ) (upd H a o) q (.ref a)):Rel K A (ρ.set i (some q)) σ (upd H a o)/\Fr ρ σ H (ρ.set i (some q)) (upd H a o):=by
 have hi:i<ρ.length:=(List.getElem?_eq_some_iff.mp e).1;have wa:Wr ρ σ a:=⟨i,p,e,ow,es⟩
 have weq:∀b,Wr (ρ.set i (some q)) σ b ↔ Wr ρ σ b:=fun b=>by
  constructor
  .rintro⟨j,r,e1,o1,s1⟩
   by_cases z:i=j
   .subst z;exact⟨i,p,e,ow,s1⟩
   .rw [getElem?_set_ne z] at e1;exact⟨j,r,e1,o1,s1⟩
  .rintro⟨j,r,e1,o1,s1⟩
   by_cases z:i=j
   .subst z;exact⟨i,q,getElem?_set_self hi,ow',s1⟩
   .exact⟨j,r,by rw [getElem?_set_ne z];exact e1,o1,s1⟩
 have oeq:OO A (ρ.set i (some q)) σ=OO A ρ σ:=funext fun b=>propext (or_congr Iff.rfl (weq b));have kp:∀b u,¬ Wr ρ σ b->H b=some u->upd H a o b=some u:=fun b u n h=>by rw [ap (fun z=>n (by rw [z];exact wa))];exact h
 have k:aO (OO A ρ σ) H (OO A ρ σ) (upd H a o):=fun b u n h=>⟨n,kp b u (fun z=>n (.inr z)) h⟩
 have dm:∀b,H b≠none->upd H a o b≠none:=fun b n=>by
  by_cases z:b=a
  .rw [z,ay];exact nofun
  .rw [ap z];exact n
 refine⟨⟨by rw [length_set];exact R.len,fun j r e1=>?_,fun j l p1 q1 v e1 e2 o1 o2 s1 s2=>?_,fun b z=>dm b (R.dom b z),fun b z w=>R.sep b z ((weq b).mp w)⟩,⟨kp,dm,fun b w=>(weq b).mp w⟩⟩
 .rw [oeq]
  by_cases z:i=j
  .subst z;rw [getElem?_set_self hi] at e1;cases e1;exact⟨_,es,new⟩
  .rw [getElem?_set_ne z] at e1;obtain⟨v,s,rr⟩:=R.get j r e1;refine⟨v,s,rr.keeps k fun ow2 b eb=>?_⟩;rw [ap];intro zz;subst zz;rw [eb] at s;exact z (R.dj i j p r _ e e1 ow ow2 es s)
 .have ex:∀(m:Nat) (x:PV),(ρ.set i (some q))[m]?=some (some x)->x.isOwn=true->∃y:PV,ρ[m]?=some (some y)/\y.isOwn=true:=fun m x em ox=>by
   by_cases z:i=m
   .subst z;exact⟨p,e,ow⟩
   .rw [getElem?_set_ne z] at em;exact⟨x,em,ox⟩
  obtain⟨y1,h1,h2⟩:=ex j p1 e1 o1;obtain⟨y2,h3,h4⟩:=ex l q1 e2 o2;exact R.dj j l y1 y2 v h1 h3 h2 h4 s1 s2
theorem Rel.frz{K:PySem.W.Frag}{A:Addr->Prop}{ρ:PSt}{σ:St}{H:Hp}(R:Rel K A ρ σ H){i:Nat}{p:PV}(e:ρ[i]?=some (some p)) :
  Rel K A (ρ.set i (some (.dat p.d))) σ H/\Fr ρ σ H (ρ.set i (some (.dat p.d))) H:=by
 have hi:i<ρ.length:=(List.getElem?_eq_some_iff.mp e).1
 have ex:∀(m:Nat) (x:PV),(ρ.set i (some (.dat p.d)))[m]?=some (some x)->x.isOwn=true->m≠i/\ρ[m]?=some (some x):=fun m x em ox=>by
  by_cases z:i=m
  .subst z;rw [getElem?_set_self hi] at em;cases em;cases ox
  .rw [getElem?_set_ne z] at em;exact⟨fun q=>z q.symm,em⟩
 have ow:∀b,Wr (ρ.set i (some (.dat p.d))) σ b->Wr ρ σ b:=fun b ⟨j,r,e1,o1,s1⟩=>⟨j,r,(ex j r e1 o1).2,o1,s1⟩
 have k:aO (OO A ρ σ) H (OO A (ρ.set i (some (.dat p.d))) σ) H:=aO.less fun b z=>z.imp id (ow b);refine⟨⟨by rw [length_set];exact R.len,fun j r e1=>?_,fun j l p1 q1 v e1 e2 o1 o2 s1 s2=>R.dj j l p1 q1 v (ex j p1 e1 o1).2 (ex l q1 e2 o2).2 o1 o2 s1 s2,R.dom,fun b z w=>R.sep b z (ow b w)⟩,⟨fun _ _ _ h=>h,fun _ h=>h,ow⟩⟩
 by_cases z:i=j
 .subst z;rw [getElem?_set_self hi] at e1;cases e1;obtain⟨v,s,r⟩:=R.get i p e;refine⟨v,s,?_⟩
  have na:∀a,v=.ref a->p.isOwn=true->¬ OO A (ρ.set i (some (.dat p.d))) σ a:=fun a ea oo z=>by
   subst ea
   rcases z with z|⟨j,r,e1,o1,s1⟩
   .exact R.sep a z ⟨i,p,e,oo,s⟩
   .obtain⟨n1,n2⟩:=ex j r e1 o1;exact n1 (R.dj j i r p _ n2 e o1 oo s1 s)
  cases p with
  | dat d=>exact FV.keeps k r
  | own ds =>
   obtain⟨a,xs,rfl,g,f⟩:=r;exact .lst (na a rfl rfl) g (f.keeps k)
  | ins c ns ds =>
   obtain⟨a,dx,fs,rfl,g,m,f⟩:=r;exact .obj (na a rfl rfl) g m (f.keeps k)
 .rw [getElem?_set_ne z] at e1;obtain⟨v,s,r⟩:=R.get j _ e1;exact⟨v,s,r.keeps k fun _ _ _=>rfl⟩
abbrev PKt:=PV->PSt->Prop
abbrev PTE:=PSt->PKt->Prop
abbrev PTT:=PSt->(Bool->PSt->Prop)->Prop
inductive AV where
 | v (d:D)|sl (i:Nat)
abbrev PA1:=PSt->(AV->PSt->Prop)->Prop
abbrev PTA:=PSt->(List AV->PSt->Prop)->Prop
def Out(K:PySem.W.Frag)(A:Addr->Prop)(ρ:PSt)(σ:St)(H0 H:Hp):PV->V->Prop
 | .dat d,v=>Rel K A ρ σ H/\FV K (OO A ρ σ) H v d
 | .own ds,v=>∃a xs,v=.ref a/\¬ A a/\H0 a=none/\H a=some (.lst xs)/\Rel K (et A a) ρ σ H/\FVs K (OO (et A a) ρ σ) H xs ds
 | .ins c ns ds,v=>∃a dx fs,v=.ref a/\¬ A a/\H0 a=none/\H a=some (.ins (aD K c) dx fs)/\fs.map Prod.fst=ns/\Rel K (et A a) ρ σ H/\FVs K (OO (et A a) ρ σ) H (fs.map Prod.snd) ds
def LE(K:PySem.W.Frag)(te:TE)(pe:PTE):Prop:=∀(A:Addr->Prop) (ρ:PSt) (σ:St) (H:Hp) (Q:PKt) (Q':VK),Rel K A ρ σ H->pe ρ Q ->
 (∀v H' p ρ',Q p ρ'->Fr ρ σ H ρ' H'->Out K A ρ' σ H H' p v->Q' v H')->te σ H Q'
def LT(K:PySem.W.Frag)(tt:TT)(pt:PTT):Prop:=∀(A:Addr->Prop) (ρ:PSt) (σ:St) (H:Hp) (Q:Bool->PSt->Prop) (Q':Bool->Hp->Prop),Rel K A ρ σ H->pt ρ Q ->
 (∀b H' ρ',Q b ρ'->Fr ρ σ H ρ' H'->Rel K A ρ' σ H'->Q' b H')->tt σ H Q'
def AOk(K:PySem.W.Frag)(O:Addr->Prop)(σ:St)(H:Hp):AV->V->Prop
 | .v d,v=>FV K O H v d
 | .sl i,v=>σ[i]?=some (some v)
def LA1(K:PySem.W.Frag)(te:TE)(pa:PA1):Prop:=∀(A:Addr->Prop) (ρ:PSt) (σ:St) (H:Hp) (Q:AV->PSt->Prop) (Q':VK),Rel K A ρ σ H->pa ρ Q ->
 (∀v H' av ρ',Q av ρ'->Fr ρ σ H ρ' H'->Rel K A ρ' σ H'->AOk K (OO A ρ' σ) σ H' av v->Q' v H')->te σ H Q'
inductive xx (K:PySem.W.Frag) (O:Addr->Prop) (σ:St) (H:Hp):List AV->List V->Prop
 | nil:xx K O σ H [] []
 | cons {a:AV}{v:V}{as:List AV}{vs:List V}:AOk K O σ H a v->xx K O σ H as vs->xx K O σ H (a::as) (v::vs)
def LAs(K:PySem.W.Frag)(ta:TA)(pa:PTA):Prop:=∀(A:Addr->Prop) (ρ:PSt) (σ:St) (H:Hp) (Q:List AV->PSt->Prop) (Q':List V->Hp->Prop),Rel K A ρ σ H->pa ρ Q ->
 (∀vs H' as ρ',Q as ρ'->Fr ρ σ H ρ' H'->Rel K A ρ' σ H'->xx K (OO A ρ' σ) σ H' as vs->Q' vs H')->ta σ H Q'
section
variable {K:PySem.W.Frag}{A O O':Addr->Prop}{ρ ρ':PSt}{σ:St}{H H' H0:Hp}
theorem AOk.keeps{a:AV}{v:V}(k:aO O H O' H')(h:AOk K O σ H a v):AOk K O' σ H' a v:=by
 cases a with
 | v d=>exact FV.keeps k h
 | sl i=>exact h
theorem Out.frz{p:PV}{v:V}(h:Out K A ρ σ H0 H p v):Rel K A ρ σ H/\FV K (OO A ρ σ) H v p.d:=by
 cases p with
 | dat d=>exact h
 | own ds =>
  obtain⟨a,xs,rfl,na,_,e,R,f⟩:=h;refine⟨R.less fun b z=>.inl z,.lst (fun z=>?_) e (f.keeps (aO.less fun b z=>z.imp .inl id))⟩;exact z.elim na (fun z=>R.sep a (.inr rfl) z)
 | ins c ns ds =>
  obtain⟨a,dx,fs,rfl,na,_,e,m,R,f⟩:=h;refine⟨R.less fun b z=>.inl z,.obj (fun z=>?_) e m (f.keeps (aO.less fun b z=>z.imp .inl id))⟩;exact z.elim na (fun z=>R.sep a (.inr rfl) z)
theorem Out.h0{p:PV}{v:V}{H1:Hp}(h:Out K A ρ σ H0 H p v)(dm:∀b,H1 b≠none->H0 b≠none):Out K A ρ σ H1 H p v:=by
 have k:∀a,H0 a=none->H1 a=none:=fun a e=>by
  cases z:H1 a with
  | none=>rfl
  | some o=>exact absurd e (dm a (by rw [z];exact nofun))
 cases p with
 | dat d=>exact h
 | own ds=>obtain⟨a,xs,e1,na,e2,r⟩:=h;exact⟨a,xs,e1,na,k a e2,r⟩
 | ins c ns ds=>obtain⟨a,dx,fs,e1,na,e2,r⟩:=h;exact⟨a,dx,fs,e1,na,k a e2,r⟩
def Gr(H H':Hp):Prop:=∀b o,H b=some o->H' b=some o
theorem Gr.fr(g:Gr H H'):Fr ρ σ H ρ H':=⟨fun b o _ h=>g b o h,fun b h=>by
 cases e:H b with
 | none=>exact absurd e h
 | some o=>rw [g b o e];exact nofun,fun _ h=>h⟩
theorem Gr.new{p:Addr}{o:HO}(h:H p=none):Gr H (upd H p o):=fun b u e=>by rw [ap (aH e h)];exact e
theorem Gr.refl(H:Hp):Gr H H:=fun _ _ h=>h
theorem Rel.gr(R:Rel K A ρ σ H)(g:Gr H H'):Rel K A ρ σ H':=by
 refine⟨R.len,fun i q e=>?_,R.dj,fun b z=>(g.fr (ρ:=ρ) (σ:=σ)).dm b (R.dom b z),R.sep⟩;obtain⟨v,s,r⟩:=R.get i q e;refine⟨v,s,r.keeps (g.fr (ρ:=ρ) (σ:=σ)).keeps fun ow a ea=>?_⟩;obtain⟨a',u,e1,e2⟩:=r.ref ow;rw [ea] at e1;cases e1;rw [e2];exact g _ _ e2
theorem Rel.grA(R:Rel K A ρ σ H)(g:Gr H H'){p:Addr}(h:H p=none)(h':H' p≠none):Rel K (et A p) ρ σ H':=by
 have k:aO (OO A ρ σ) H (OO (et A p) ρ σ) H':=fun b u n e=>by
  refine⟨fun z=>?_,g _ _ e⟩
  rcases z with (z|z)|z
  .exact n (.inl z)
  .rw [z,h] at e;cases e
  .exact n (.inr z)
 refine⟨R.len,fun i q e=>?_,R.dj,fun b z=>?_,fun b z w=>?_⟩
 .obtain⟨v,s,r⟩:=R.get i q e;refine⟨v,s,r.keeps k fun ow a ea=>?_⟩;obtain⟨a',u,e1,e2⟩:=r.ref ow;rw [ea] at e1;cases e1;rw [e2];exact g _ _ e2
 .rcases z with z|z
  .exact (g.fr (ρ:=ρ) (σ:=σ)).dm b (R.dom b z)
  .rw [z];exact h'
 .rcases z with z|z
  .exact R.sep b z w
  .exact R.wr w (by rw [z];exact h)
def pP(K:PySem.W.Frag)(O:Addr->Prop)(H0 H:Hp):PV->V->Prop
 | .dat d,v=>FV K O H v d
 | .own ds,v=>∃a xs,v=.ref a/\H0 a=none/\H a=some (.lst xs)/\FVs K (et O a) H xs ds
 | .ins c ns ds,v=>∃a dx fs,v=.ref a/\H0 a=none/\H a=some (.ins (aD K c) dx fs)/\fs.map Prod.fst=ns/\FVs K (et O a) H (fs.map Prod.snd) ds
theorem pP.out{p:PV}{v:V}(R:Rel K A ρ σ H)(g:Gr H H')(h:pP K (OO A ρ σ) H H' p v):Out K A ρ σ H H' p v:=by
 cases p with
 | dat d=>exact⟨R.gr g,h⟩
 | own ds =>
  obtain⟨a,xs,rfl,e0,e,f⟩:=h;refine⟨a,xs,rfl,fun z=>R.dom a z e0,e0,e,R.grA g e0 (by rw [e];exact nofun),f.keeps (aO.less fun b z=>?_)⟩
  rcases z with (z|z)|z
  .exact .inl (.inl z)
  .exact .inr z
  .exact .inl (.inr z)
 | ins c ns ds =>
  obtain⟨a,dx,fs,rfl,e0,e,m,f⟩:=h;refine⟨a,dx,fs,rfl,fun z=>R.dom a z e0,e0,e,m,R.grA g e0 (by rw [e];exact nofun),f.keeps (aO.less fun b z=>?_)⟩
  rcases z with (z|z)|z
  .exact .inl (.inl z)
  .exact .inr z
  .exact .inl (.inr z)
def FVc(K:PySem.W.Frag)(O:Addr->Prop)(H:Hp)(v:V)(d:D):Prop:=FV K O H v d\/(∃a xs ds,v=.ref a/\d=.lst ds/\H a=some (.lst xs)/\FVs K O H xs ds) \/
 ∃a dx c fs ns ds,v=.ref a/\d=.obj c ns ds/\H a=some (.ins (aD K c) dx fs)/\fs.map Prod.fst=ns/\FVs K O H (fs.map Prod.snd) ds
def cont(ρ:PSt):AV->Option D
 | .v d=>some d
 | .sl i=>match ρ[i]? with|some (some p)=>some p.d|_=>none
theorem Rel.cont{av:AV}{v:V}{d:D}(R:Rel K A ρ σ H)(h:AOk K (OO A ρ σ) σ H av v)(e:L2.cont ρ av=some d):FVc K (OO A ρ σ) H v d:=by
 cases av with
 | v d'=>cases e;exact .inl h
 | sl i =>
  have h:σ[i]?=some (some v):=h;simp only [L2.cont] at e
  split at e
  .rename_i p ep;cases e;obtain⟨v',s,r⟩:=R.get i p ep;rw [h] at s;cases s
   cases p with
   | dat d=>exact .inl r
   | own ds=>obtain⟨a,xs,e1,e2,f⟩:=r;exact .inr (.inl ⟨a,xs,ds,e1,rfl,e2,f⟩)
   | ins c ns ds=>obtain⟨a,dx,fs,e1,e2,m,f⟩:=r;exact .inr (.inr ⟨a,dx,c,fs,ns,ds,e1,rfl,e2,m,f⟩)
  .cases e
theorem FVc.lst{v:V}{ds:List D}(h:FVc K O H v (.lst ds)):∃a xs,v=.ref a/\H a=some (.lst xs)/\FVs K O H xs ds:=by
 rcases h with h|⟨a,xs,ds',e1,e2,e3,f⟩|⟨a,dx,c,fs,ns,ds',e1,e2,_⟩
 .cases h with
  | lst n s f=>exact⟨_,_,rfl,s,f⟩
 .cases e2;exact⟨a,xs,e1,e3,f⟩
 .cases e2
theorem FVc.fv{v:V}{d:D}(h:FVc K O H v d)(n:∀ds,d≠.lst ds)(n':∀c ns ds,d≠.obj c ns ds):FV K O H v d:=by
 rcases h with h|⟨a,xs,ds',e1,e2,e3,f⟩|⟨a,dx,c,fs,ns,ds',e1,e2,_⟩
 .exact h
 .exact absurd e2 (n _)
 .exact absurd e2 (n' _ _ _)
theorem FVc.tup{v:V}{ds:List D}(h:FVc K O H v (.tup ds)):∃a xs,v=.ref a/\¬ O a/\H a=some (.tup xs)/\FVs K O H xs ds:=by
 cases h.fv nofun nofun with
 | tup n s f=>exact⟨_,_,rfl,n,s,f⟩
theorem FVc.scr{v:V}{ns:List Int}(h:FVc K O H v (.scr ns)):∃a,v=.ref a/\SqL K H a (ns.map V.int):=by
 cases h.fv nofun nofun with
 | scr s=>exact⟨_,rfl,s.sq⟩
theorem FVc.int{v:V}{i:Int}(h:FVc K O H v (.int i)):v=.int i:=by cases h.fv nofun nofun;rfl
theorem FVc.bl{v:V}{i:Bool}(h:FVc K O H v (.bl i)):v=.bl i:=by cases h.fv nofun nofun;rfl
theorem FVc.str{v:V}{i:List Nat}(h:FVc K O H v (.str i)):v=.str (S i)/\i.length<=1000000:=by
 cases h.fv nofun nofun with
 | str _ z=>exact⟨rfl,z⟩
end
def pC(d:D):PTE:=fun ρ Q=>Q (.dat d) ρ
def bg(i:Nat):PTE:=fun ρ Q=>match ρ[i]? with
 | some (some (.dat d))=>Q (.dat d) ρ
 | some (some (.own ds))=>Q (.dat (.lst ds)) (ρ.set i (some (.dat (.lst ds))))
 | some (some (.ins c ns ds))=>Q (.dat (.obj c ns ds)) (ρ.set i (some (.dat (.obj c ns ds))))
 | _=>False
def pSl(i:Nat):PA1:=fun ρ Q=>match ρ[i]? with
 | some (some (.dat d))=>Q (.v d) ρ
 | some (some (.own _))=>Q (.sl i) ρ
 | some (some (.ins _ _ _))=>Q (.sl i) ρ
 | _=>False
def pFz(pe:PTE):PA1:=fun ρ Q=>pe ρ fun p ρ1=>Q (.v p.d) ρ1
def ak:PTA:=fun ρ Q=>Q [] ρ
def ac(pa:PA1)(pr:PTA):PTA:=fun ρ Q=>pa ρ fun a ρ1=>pr ρ1 fun as ρ2=>Q (a::as) ρ2
section
variable {K:PySem.W.Frag}{ta tb tc:TE}{pa pb pc:PA1}{pe pe':PTE}{tr:TA}{pr:PTA}
theorem Cp{v:V}{d:D}(h:∀O H,FV K O H v d):LE K (tC v) (pC d):=fun A ρ σ H Q Q' R q k=>k v H (.dat d) ρ q (Fr.refl _ _ _) ⟨R,h _ _⟩
theorem le_int{i:Int}:LE K (tC (.int i)) (pC (.int i)):=Cp fun _ _=>.int i
theorem fM{i:Bool}:LE K (tC (.bl i)) (pC (.bl i)):=Cp fun _ _=>.bl i
theorem uo:LE K (tC .non) (pC .non):=Cp fun _ _=>.non
theorem le_str{l:List Nat}(h:l.length<=1000000:=by decide):LE K (tC (.str (S l))) (pC (.str l)):=Cp fun _ _=>.str l h
theorem aj{i:Nat}:LE K (ck i) (bg i):=by
 intro A ρ σ H Q Q' R q k;unfold bg at q
 split at q
 .rename_i d e;obtain⟨v,s,r⟩:=R.get i _ e;exact⟨v,s,k v H (.dat d) ρ q (Fr.refl _ _ _) ⟨R,r⟩⟩
 .rename_i ds e;obtain⟨R',f⟩:=R.frz e;obtain⟨v,s,r⟩:=R'.get i _ (getElem?_set_self (List.getElem?_eq_some_iff.mp e).1);exact⟨v,s,k v H (.dat (.lst ds)) _ q f ⟨R',r⟩⟩
 .rename_i c ns ds e;obtain⟨R',f⟩:=R.frz e;obtain⟨v,s,r⟩:=R'.get i _ (getElem?_set_self (List.getElem?_eq_some_iff.mp e).1);exact⟨v,s,k v H (.dat (.obj c ns ds)) _ q f ⟨R',r⟩⟩
 .exact q.elim
theorem ao{i:Nat}:LA1 K (ck i) (pSl i):=by
 intro A ρ σ H Q Q' R q k;unfold pSl at q
 split at q
 .rename_i d e;obtain⟨v,s,r⟩:=R.get i _ e;exact⟨v,s,k v H _ ρ q (Fr.refl _ _ _) R r⟩
 .rename_i e;obtain⟨v,s,r⟩:=R.get i _ e;exact⟨v,s,k v H _ ρ q (Fr.refl _ _ _) R s⟩
 .rename_i e;obtain⟨v,s,r⟩:=R.get i _ e;exact⟨v,s,k v H _ ρ q (Fr.refl _ _ _) R s⟩
 .exact q.elim
theorem ae(h:LE K ta pe):LA1 K ta (pFz pe):=fun A ρ σ H Q Q' R q k=>h A ρ σ H _ Q' R q fun v H' p ρ' q f o=>k v H' _ ρ' q f o.frz.1 o.frz.2
theorem af:LAs K fE ak:=fun A ρ σ H Q Q' R q k=>k [] H [] ρ q (Fr.refl _ _ _) R .nil
theorem aa(h:LA1 K ta pa)(hr:LAs K tr pr):LAs K (bp ta tr) (ac pa pr):=fun A ρ σ H Q Q' R q k =>
 h A ρ σ H _ _ R q fun v H1 a ρ1 q1 f1 R1 o1=>hr A ρ1 σ H1 _ _ R1 q1 fun vs H2 as ρ2 q2 f2 R2 o2=>k _ H2 _ ρ2 q2 (f1.trans f2) R2 (.cons (o1.keeps f2.keeps) o2)
def LO(K:PySem.W.Frag)(r:R2)(f:D->D->(PV->Prop)->Prop):Prop:=∀(O:Addr->Prop) (H:Hp) (x y:V) (a b:D) (Q:PV->Prop) (Q':VK),(∀b,O b->H b≠none)->FVc K O H x a->FVc K O H y b->f a b Q ->
 (∀v H' p,Q p->Gr H H'->pP K O H H' p v->Q' v H')->r x y H Q'
def op2(f:D->D->(PV->Prop)->Prop)(ρ:PSt)(x y:AV)(Q:PKt):Prop:=match cont ρ x,cont ρ y with
 | some a,some b=>f a b fun p=>Q p ρ
 | _,_=>False
def pOp(f:D->D->(PV->Prop)->Prop)(pa pb:PA1):PTE:=fun ρ Q=>pa ρ fun x ρ1=>pb ρ1 fun y ρ2=>op2 f ρ2 x y Q
theorem Rel.dom2{A:Addr->Prop}{ρ:PSt}{σ:St}{H:Hp}(R:Rel K A ρ σ H):∀b,OO A ρ σ b->H b≠none:=fun b z=>z.elim (R.dom b) R.wr
theorem aC{r:R2}{f:D->D->(PV->Prop)->Prop}(o:LO K r f)(ha:LA1 K ta pa)(hb:LA1 K tb pb):LE K (tOp r ta tb) (pOp f pa pb):=fun A ρ σ H Q Q' R q k =>
 ha A ρ σ H _ _ R q fun v H1 a ρ1 q1 f1 R1 o1=>hb A ρ1 σ H1 _ _ R1 q1 fun w H2 b ρ2 q2 f2 R2 o2=>by
  unfold op2 at q2
  split at q2
  .rename_i da db e1 e2;exact o _ H2 v w da db _ _ R2.dom2 (R2.cont (o1.keeps f2.keeps) e1) (R2.cont o2 e2) q2 fun z H3 p q3 g ov=>k z H3 p ρ2 q3 ((f1.trans f2).trans g.fr) ((ov.out R2 g).h0 fun b z=>f2.dm b (f1.dm b z))
  .exact q2.elim
def LU(K:PySem.W.Frag)(r:V->Hp->VK->Prop)(f:D->(PV->Prop)->Prop):Prop:=∀(O:Addr->Prop) (H:Hp) (x:V) (a:D) (Q:PV->Prop) (Q':VK),(∀b,O b->H b≠none)->FVc K O H x a->f a Q ->
 (∀v H' p,Q p->Gr H H'->pP K O H H' p v->Q' v H')->r x H Q'
def op1(f:D->(PV->Prop)->Prop)(ρ:PSt)(x:AV)(Q:PKt):Prop:=match cont ρ x with
 | some a=>f a fun p=>Q p ρ
 | _=>False
def pUn(f:D->(PV->Prop)->Prop)(pa:PA1):PTE:=fun ρ Q=>pa ρ fun x ρ1=>op1 f ρ1 x Q
theorem wu{r:V->Hp->VK->Prop}{f:D->(PV->Prop)->Prop}(o:LU K r f)(ha:LA1 K ta pa):LE K (tUn r ta) (pUn f pa):=fun A ρ σ H Q Q' R q k =>
 ha A ρ σ H _ _ R q fun v H1 a ρ1 q1 f1 R1 o1=>by
  unfold op1 at q1
  split at q1
  .rename_i da e1;exact o _ H1 v da _ _ R1.dom2 (R1.cont o1 e1) q1 fun z H3 p q3 g ov=>k z H3 p ρ1 q3 (f1.trans g.fr) ((ov.out R1 g).h0 fun b z=>f1.dm b z)
  .exact q1.elim
inductive zV (K:PySem.W.Frag) (O:Addr->Prop) (H:Hp):List V->List D->Prop
 | nil:zV K O H [] []
 | cons {x:V}{d:D}{xs:List V}{ds:List D}:FVc K O H x d->zV K O H xs ds->zV K O H (x::xs) (d::ds)
def conts(ρ:PSt):List AV->Option (List D)
 | []=>some []
 | a::r=>match cont ρ a,conts ρ r with
  | some d,some ds=>some (d::ds)
  | _,_=>none
theorem Rel.conts{A:Addr->Prop}{ρ:PSt}{σ:St}{H:Hp}(R:Rel K A ρ σ H):∀{as:List AV}{vs:List V}{ds:List D},xx K (OO A ρ σ) σ H as vs->L2.conts ρ as=some ds->zV K (OO A ρ σ) H vs ds
 | _,_,_,.nil,e=>by cases e;exact .nil
 | _,_,_,.cons a b,e=>by
  unfold L2.conts at e
  split at e
  .rename_i e1 e2;cases e;exact .cons (R.cont a e1) (R.conts b e2)
  .cases e
def LC(K:PySem.W.Frag)(r:List V->Hp->VK->Prop)(f:List D->(PV->Prop)->Prop):Prop:=∀(O:Addr->Prop) (H:Hp) (xs:List V) (as:List D) (Q:PV->Prop) (Q':VK),(∀b,O b->H b≠none)->zV K O H xs as->f as Q ->
 (∀v H' p,Q p->Gr H H'->pP K O H H' p v->Q' v H')->r xs H Q'
def opN(f:List D->(PV->Prop)->Prop)(ρ:PSt)(as:List AV)(Q:PKt):Prop:=match conts ρ as with
 | some ds=>f ds fun p=>Q p ρ
 | _=>False
def pCB(f:List D->(PV->Prop)->Prop)(pr:PTA):PTE:=fun ρ Q=>pr ρ fun as ρ1=>opN f ρ1 as Q
theorem br{r:List V->Hp->VK->Prop}{f:List D->(PV->Prop)->Prop}(o:LC K r f)(ha:LAs K tr pr):LE K (tCB r tr) (pCB f pr):=fun A ρ σ H Q Q' R q k =>
 ha A ρ σ H _ _ R q fun vs H1 as ρ1 q1 f1 R1 o1=>by
  unfold opN at q1
  split at q1
  .rename_i ds e1;exact o _ H1 vs ds _ _ R1.dom2 (R1.conts o1 e1) q1 fun z H3 p q3 g ov=>k z H3 p ρ1 q3 (f1.trans g.fr) ((ov.out R1 g).h0 fun b z=>f1.dm b z)
  .exact q1.elim
def avD:List AV->Option (List D)
 | []=>some []
 | .v d::r=>match avD r with|some ds=>some (d::ds)|none=>none
 | .sl _::_=>none
theorem xx.avD{O:Addr->Prop}{σ:St}{H:Hp}:∀{as:List AV}{vs:List V}{ds:List D},xx K O σ H as vs->L2.avD as=some ds->FVs K O H vs ds
 | _,_,_,.nil,e=>by cases e;exact .nil
 | .v d::r,_,_,.cons a b,e=>by
  simp only [L2.avD] at e
  split at e
  .rename_i e1;cases e;exact .cons a (b.avD e1)
  .cases e
 | .sl i::r,_,_,.cons a b,e=>by cases e
def nV(pr:PTA):PTE:=fun ρ Q=>pr ρ fun as ρ1=>match avD as with
 | some ds=>ds.length<=1000000/\Q (.own ds) ρ1
 | _=>False
def vE(pr:PTA):PTE:=fun ρ Q=>pr ρ fun as ρ1=>match avD as with
 | some ds=>ds.length<=1000000/\Q (.dat (.tup ds)) ρ1
 | _=>False
theorem dS(ha:LAs K tr pr):LE K (DZ tr) (nV pr):=fun A ρ σ H Q Q' R q k =>
 ha A ρ σ H _ _ R q fun vs H1 as ρ1 q1 f1 R1 o1=>by
  split at q1
  .rename_i ds e1;have fs:=o1.avD e1;refine⟨sz _ (by rw [fs.length];exact q1.1),fun p hp=>k _ _ (.own ds) ρ1 q1.2 (f1.trans (Fr.new hp)) ?_⟩;have g:Gr H1 (upd H1 p (.lst vs)):=Gr.new hp;exact (pP.out (p:=.own ds) R1 g ⟨p,vs,rfl,hp,ay,fs.keeps (aO.fresh hp)⟩).h0 fun b z=>f1.dm b z
  .exact q1.elim
theorem iO(ha:LAs K tr pr):LE K (Cn tr) (vE pr):=fun A ρ σ H Q Q' R q k =>
 ha A ρ σ H _ _ R q fun vs H1 as ρ1 q1 f1 R1 o1=>by
  split at q1
  .rename_i ds e1;have fs:=o1.avD e1;refine⟨sz _ (by rw [fs.length];exact q1.1),fun p hp=>k _ _ (.dat (.tup ds)) ρ1 q1.2 (f1.trans (Fr.new hp)) ⟨R1.grow hp,?_⟩⟩;exact .tup (R1.oo hp) ay (fs.keeps (Fr.new hp).keeps)
  .exact q1.elim
def pB(pe:PTE):PTT:=fun ρ Q=>pe ρ fun p ρ1=>match p with
 | .dat (.bl b)=>Q b ρ1
 | _=>False
theorem jl(h:LE K ta pe):LT K (tB ta) (pB pe):=fun A ρ σ H Q Q' R q k=>h A ρ σ H _ _ R q fun v H1 p ρ1 q1 f1 o1=>by
 split at q1
 .rename_i b;obtain⟨R1,f⟩:=o1;cases f;exact⟨b,rfl,k b H1 ρ1 q1 f1 R1⟩
 .exact q1.elim
theorem hZ(h:LE K ta pe):LT K (rL ta) (pB pe):=jl h
def C6(a b:PTT):PTT:=fun ρ Q=>a ρ fun c ρ1=>ic c (b ρ1 Q) (Q false ρ1)
def pOr(a b:PTT):PTT:=fun ρ Q=>a ρ fun c ρ1=>ic c (Q true ρ1) (b ρ1 Q)
def lB(a:PTT):PTT:=fun ρ Q=>a ρ fun c ρ1=>Q (!c) ρ1
variable {tta ttb:TT}{pta ptb:PTT}
theorem xy(ha:LT K tta pta)(hb:LT K ttb ptb):LT K (DP tta ttb) (C6 pta ptb):=fun A ρ σ H Q Q' R q k=>ha A ρ σ H _ _ R q fun c H1 ρ1 q1 f1 R1=>by
 cases c with
 | true=>exact hb A ρ1 σ H1 _ _ R1 q1 fun b H2 ρ2 q2 f2 R2=>k b H2 ρ2 q2 (f1.trans f2) R2
 | false=>exact k false H1 ρ1 q1 f1 R1
theorem gK(ha:LT K tta pta)(hb:LT K ttb ptb):LT K (tOr tta ttb) (pOr pta ptb):=fun A ρ σ H Q Q' R q k=>ha A ρ σ H _ _ R q fun c H1 ρ1 q1 f1 R1=>by
 cases c with
 | false=>exact hb A ρ1 σ H1 _ _ R1 q1 fun b H2 ρ2 q2 f2 R2=>k b H2 ρ2 q2 (f1.trans f2) R2
 | true=>exact k true H1 ρ1 q1 f1 R1
theorem cP(ha:LT K tta pta):LT K (Cw tta) (lB pta):=fun A ρ σ H Q Q' R q k=>ha A ρ σ H _ _ R q fun c H1 ρ1 q1 f1 R1=>k _ H1 ρ1 q1 f1 R1
def se(a b:PTE):PTE:=fun ρ Q=>a ρ fun p ρ1=>match p with
 | .dat (.bl c)=>ic c (b ρ1 Q) (Q (.dat (.bl false)) ρ1)
 | _=>False
def C7(a b:PTE):PTE:=fun ρ Q=>a ρ fun p ρ1=>match p with
 | .dat (.bl c)=>ic c (Q (.dat (.bl true)) ρ1) (b ρ1 Q)
 | _=>False
def wv(a:PTE):PTE:=fun ρ Q=>a ρ fun p ρ1=>match p with
 | .dat (.bl c)=>Q (.dat (.bl (!c))) ρ1
 | _=>False
theorem oH(ha:LE K ta pe)(hb:LE K tb pe'):LE K (Al ta tb) (se pe pe'):=fun A ρ σ H Q Q' R q k=>ha A ρ σ H _ _ R q fun v H1 p ρ1 q1 f1 o1=>by
 split at q1
 .rename_i c;obtain⟨R1,f⟩:=o1;cases f;refine⟨c,rfl,?_⟩
  cases c with
  | true=>exact hb A ρ1 σ H1 _ _ R1 q1 fun b H2 p2 ρ2 q2 f2 o2=>k b H2 p2 ρ2 q2 (f1.trans f2) (o2.h0 fun b z=>f1.dm b z)
  | false=>exact k _ H1 _ ρ1 q1 f1 ⟨R1,.bl false⟩
 .exact q1.elim
theorem Ba(ha:LE K ta pe)(hb:LE K tb pe'):LE K (DQ ta tb) (C7 pe pe'):=fun A ρ σ H Q Q' R q k=>ha A ρ σ H _ _ R q fun v H1 p ρ1 q1 f1 o1=>by
 split at q1
 .rename_i c;obtain⟨R1,f⟩:=o1;cases f;refine⟨c,rfl,?_⟩
  cases c with
  | false=>exact hb A ρ1 σ H1 _ _ R1 q1 fun b H2 p2 ρ2 q2 f2 o2=>k b H2 p2 ρ2 q2 (f1.trans f2) (o2.h0 fun b z=>f1.dm b z)
  | true=>exact k _ H1 _ ρ1 q1 f1 ⟨R1,.bl true⟩
 .exact q1.elim
theorem uq(ha:LE K ta pe):LE K (Am ta) (wv pe):=fun A ρ σ H Q Q' R q k=>ha A ρ σ H _ _ R q fun v H1 p ρ1 q1 f1 o1=>by
 split at q1
 .rename_i c;obtain⟨R1,f⟩:=o1;cases f;exact⟨c,rfl,k _ H1 _ ρ1 q1 f1 ⟨R1,.bl (!c)⟩⟩
 .exact q1.elim
def pIf(t:PTT)(a b:PTE):PTE:=fun ρ Q=>t ρ fun c ρ1=>ic c (a ρ1 Q) (b ρ1 Q)
theorem Bb(ht:LT K tta pta)(ha:LE K ta pe)(hb:LE K tb pe'):LE K (tIf tta ta tb) (pIf pta pe pe'):=fun A ρ σ H Q Q' R q k=>ht A ρ σ H _ _ R q fun c H1 ρ1 q1 f1 R1=>by
 cases c with
 | true=>exact ha A ρ1 σ H1 _ _ R1 q1 fun b H2 p2 ρ2 q2 f2 o2=>k b H2 p2 ρ2 q2 (f1.trans f2) (o2.h0 fun b z=>f1.dm b z)
 | false=>exact hb A ρ1 σ H1 _ _ R1 q1 fun b H2 p2 ρ2 q2 f2 o2=>k b H2 p2 ρ2 q2 (f1.trans f2) (o2.h0 fun b z=>f1.dm b z)
end
abbrev F2:=D->D->(PV->Prop)->Prop
def fI0(g:Int->Int->D):F2
 | .int i,.int j,Q=>Q (.dat (g i j))
 | _,_,_=>False
def fI(C:Int->Int->Prop)(g:Int->Int->D):F2
 | .int i,.int j,Q=>C i j/\Q (.dat (g i j))
 | _,_,_=>False
section
variable {K:PySem.W.Frag}{X:Cx}
theorem yH{g:Int->Int->V}{g':Int->Int->D}(h:∀i j O H,FV K O H (g i j) (g' i j)):LO K (rI0 g) (fI0 g'):=by
 intro O H x y a b Q Q' dom fx fy q k;unfold fI0 at q
 split at q
 .rename_i i j;exact⟨i,j,fx.int,fy.int,k _ H _ q (Gr.refl _) (h i j _ _)⟩
 .exact q.elim
theorem C8{C:Int->Int->Prop}{g:Int->Int->V}{g':Int->Int->D}(h:∀i j O H,FV K O H (g i j) (g' i j)):LO K (rI C g) (fI C g'):=by
 intro O H x y a b Q Q' dom fx fy q k;unfold fI at q
 split at q
 .rename_i i j;exact⟨i,j,fx.int,fy.int,q.1,k _ H _ q.2 (Gr.refl _) (h i j _ _)⟩
 .exact q.elim
theorem e9{O:Addr->Prop}{H:Hp}{xs:List V}{ds:List D}{p:Addr}(hp:H p=none)(f:FVs K O H xs ds):pP K O H (upd H p (.lst xs)) (.own ds) (.ref p) :=
 ⟨p,xs,rfl,hp,ay,f.keeps (aO.fresh hp)⟩
theorem ku{O:Addr->Prop}{H:Hp}{xs:List V}{ds:List D}{p:Addr}(dom:∀b,O b->H b≠none)(hp:H p=none)(f:FVs K O H xs ds):pP K O H (upd H p (.tup xs)) (.dat (.tup ds)) (.ref p) :=
 .tup (fun z=>dom p z hp) ay (f.keeps fun b o n e=>⟨n,by rw [ap (aH e hp)];exact e⟩)
def C9:R2:=fun x y H Q=>∃i j,x=.str (S i)/\y=.str (S j)/\i.length+j.length<=sizeLine/\Q (.str (S (i++j))) H
def yI(K:PySem.W.Frag):R2:=fun x y H Q=>rI0 (fun i j=>.int (i+j)) x y H Q\/C9 x y H Q\/A2 K x y H Q\/AA K x y H Q
theorem Db(K:PySem.W.Frag)(e:X.K=K):OpR X (binaryOp .Add) (yI K):=by
 subst e;exact OpR.or As (OpR.or yr (OpR.or yz yh))
def Dc:F2
 | .int i,.int j,Q=>Q (.dat (.int (i+j)))
 | .str a,.str b,Q=>a.length+b.length<=1000000/\Q (.dat (.str (a++b)))
 | .lst a,.lst b,Q=>a.length+b.length<=1000000/\Q (.own (a++b))
 | .scr a,.lst b,Q=>a.length+b.length<=1000000/\Q (.own (a.map .int++b))
 | .tup a,.tup b,Q=>a≠[]/\a.length+b.length<=1000000/\Q (.dat (.tup (a++b)))
 | _,_,_=>False
theorem xz:LO K (yI K) Dc:=by
 intro O H x y a b Q Q' dom fx fy q k;unfold Dc at q
 split at q
 .rename_i i j;exact .inl ⟨i,j,fx.int,fy.int,k _ H _ q (Gr.refl _) (.int _)⟩
 .rename_i i j;exact .inr (.inl ⟨i,j,fx.str.1,fy.str.1,sz _ q.1,k _ H _ q.2 (Gr.refl _) (.str _ (by rw [length_append];exact q.1))⟩)
 .rename_i i j;obtain⟨a,xs,rfl,e1,f1⟩:=fx.lst;obtain⟨b,ys,rfl,e2,f2⟩:=fy.lst;exact .inr (.inr (.inl ⟨a,b,xs,ys,rfl,rfl,SqL.of e1,SqL.of e2,sz _ (by rw [f1.length,f2.length];exact q.1),fun p hp=>k _ _ _ q.2 (Gr.new hp) (e9 hp (f1.append f2))⟩))
 .rename_i i j;obtain⟨a,rfl,e1⟩:=fx.scr;obtain⟨b,ys,rfl,e2,f2⟩:=fy.lst;exact .inr (.inr (.inl ⟨a,b,_,ys,rfl,rfl,e1,SqL.of e2,sz _ (by rw [length_map,f2.length];exact q.1),fun p hp=>k _ _ _ q.2 (Gr.new hp) (e9 hp ((FVs.of_ints i).append f2))⟩))
 .rename_i i j;obtain⟨a,xs,rfl,n1,e1,f1⟩:=fx.tup;obtain⟨b,ys,rfl,n2,e2,f2⟩:=fy.tup;have l1:=f1.length;have l2:=f2.length
  refine .inr (.inr (.inr ⟨a,b,xs,ys,rfl,rfl,SqT.of e1,SqT.of e2,fun z=>q.1 ?_,sz _ (by rw [l1,l2];exact q.2.1),fun z=>?_,fun _ p hp=>k _ _ _ q.2.2 (Gr.new hp) (ku dom hp (f1.append f2))⟩))
  .exact length_eq_zero_iff.mp (by rw [<- l1,z];rfl)
  .have:j=[]:=length_eq_zero_iff.mp (by rw [<- l2,z];rfl);subst this;exact k _ H _ q.2.2 (Gr.refl _) (by rw [append_nil];exact .tup n1 e1 f1)
 .exact q.elim
theorem rc:LO K (rI0 fun i j=>.int (i - j)) (fI0 fun i j=>.int (i - j)):=yH fun _ _ _ _=>.int _
theorem md:LO K (rI (fun _ j=>0<j) fun i j=>.int (i % j)) (fI (fun _ j=>0<j) fun i j=>.int (i % j)):=C8 fun _ _ _ _=>.int _
theorem p4:LO K (rI CC fun i j=>.int (i / j)) (fI (fun _ j=>0<j/\j<1073741824) fun i j=>.int (i / j)):=C8 fun _ _ _ _=>.int _
theorem Bc:LO K (rI CD fun i j=>.int (i^j.toNat)) (fI (fun i j=>0<=j/\j<=1000000/\i.natAbs<2^64) fun i j=>.int (i^j.toNat)):=C8 fun _ _ _ _=>.int _
def Dd:R2:=fun x y H Q=>∃l n,x=.str (S l)/\y=.int n/\-1000000<=n/\n<=1000000/\n.toNat*l.length<=sizeLine/\Q (.str (S (lD l n))) H
def Bd:R2:=fun x y H Q=>rI Ck (fun i j=>.int (i*j)) x y H Q\/Dd x y H Q\/D4 x y H Q
theorem jR:OpR X (binaryOp .Mult) Bd:=OpR.or Au (OpR.or rX AG)
def rd:F2
 | .int i,.int j,Q=>((-(2^64)<i/\i<2^64)\/(-(2^64)<j/\j<2^64))/\Q (.dat (.int (i*j)))
 | .str a,.int n,Q=>(-1000000<=n/\n<=1000000/\n.toNat*a.length<=1000000)/\Q (.dat (.str (lD a n)))
 | .lst a,.int n,Q=>(-1000000<=n/\n<=1000000/\a.length*n.toNat<=1000000)/\Q (.own (lD a n))
 | _,_,_=>False
theorem FVs.rep{O:Addr->Prop}{H:Hp}{xs:List V}{ds:List D}(f:FVs K O H xs ds):∀n,FVs K O H (List.replicate n xs).flatten (List.replicate n ds).flatten
 | 0=>.nil
 | n+1=>by rw [replicate_succ,replicate_succ,flatten_cons,flatten_cons];exact f.append (f.rep n)
theorem gi:LO K Bd rd:=by
 intro O H x y a b Q Q' dom fx fy q k;unfold rd at q
 split at q
 .rename_i i j;exact .inl ⟨i,j,fx.int,fy.int,q.1,k _ H _ q.2 (Gr.refl _) (.int _)⟩
 .rename_i i j;exact .inr (.inl ⟨i,j,fx.str.1,fy.int,q.1.1,q.1.2.1,sz _ q.1.2.2,k _ H _ q.2 (Gr.refl _) (.str _ (by rw [iw];exact q.1.2.2))⟩)
 .rename_i i j;obtain⟨a,xs,rfl,e1,f1⟩:=fx.lst;exact .inr (.inr ⟨a,j,xs,rfl,fy.int,e1,by omega,by omega,sz _ (by rw [f1.length];exact q.1.2.2),fun p hp=>k _ _ _ q.2 (Gr.new hp) (e9 hp (f1.rep _))⟩)
 .exact q.elim
def D7:R2:=fun x y H Q=>rI0 (fun i j=>.bl (decide (i<j))) x y H Q\/∃i j,x=.str i/\y=.str j/\Q (.bl (decide (i.cps.toList<j.cps.toList))) H
def Cq:R2:=fun x y H Q=>rI0 (fun i j=>.bl (decide (i<=j))) x y H Q\/∃i j,x=.str i/\y=.str j/\Q (.bl (!decide (j.cps.toList<i.cps.toList))) H
theorem Ey:OpR X (compareOp .Lt) D7:=OpR.or CH tm
theorem Cr:OpR X (compareOp .LtE) Cq:=OpR.or CI tW
def fLt:F2
 | .int i,.int j,Q=>Q (.dat (.bl (decide (i<j))))
 | .str i,.str j,Q=>Q (.dat (.bl (decide (i<j))))
 | _,_,_=>False
def fLe:F2
 | .int i,.int j,Q=>Q (.dat (.bl (decide (i<=j))))
 | .str i,.str j,Q=>Q (.dat (.bl (!decide (j<i))))
 | _,_,_=>False
theorem De:LO K D7 fLt:=by
 intro O H x y a b Q Q' dom fx fy q k;unfold fLt at q
 split at q
 .rename_i i j;exact .inl ⟨i,j,fx.int,fy.int,k _ H _ q (Gr.refl _) (.bl _)⟩
 .rename_i i j;exact .inr ⟨_,_,fx.str.1,fy.str.1,k _ H _ q (Gr.refl _) (.bl _)⟩
 .exact q.elim
theorem ww:LO K Cq fLe:=by
 intro O H x y a b Q Q' dom fx fy q k;unfold fLe at q
 split at q
 .rename_i i j;exact .inl ⟨i,j,fx.int,fy.int,k _ H _ q (Gr.refl _) (.bl _)⟩
 .rename_i i j;exact .inr ⟨_,_,fx.str.1,fy.str.1,k _ H _ q (Gr.refl _) (.bl _)⟩
 .exact q.elim
theorem sf:LO K (rI0 fun i j=>.bl (decide (j<i))) (fI0 fun i j=>.bl (decide (j<i))):=yH fun _ _ _ _=>.bl _
theorem wx:LO K (rI0 fun i j=>.bl (decide (j<=i))) (fI0 fun i j=>.bl (decide (j<=i))):=yH fun _ _ _ _=>.bl _
mutual
def D.py:D->PyData
 | .non=>.none|.bl b=>.bool b|.int i=>.int i|.str l=>.str (S l)|.ty _=>.none
 | .lst ds=>.list (D.pys ds)|.tup ds=>.tuple (D.pys ds)|.scr ns=>.list (ns.map .int)|.dic _ _=>.none|.obj _ _ _=>.none|.exc _ _ _=>.none
def D.pys:List D->List PyData
 | []=>[]
 | d::r=>d.py::D.pys r
end
mutual
def D.plain:D->Bool
 | .non=>true|.bl _=>true|.int _=>true|.str _=>true|.ty _=>false
 | .lst ds=>D.plains ds|.tup ds=>D.plains ds|.scr _=>true|.dic _ _=>false|.obj _ _ _=>false|.exc _ _ _=>false
def D.plains:List D->Bool
 | []=>true
 | d::r=>d.plain && D.plains r
end
mutual
theorem FV.dv{O:Addr->Prop}{H:Hp}:∀{v:V}{d:D},FV K O H v d->d.plain=true->DV K H v d.py
 | _,_,.non,_=>.non
 | _,_,.bl b,_=>.bl b
 | _,_,.int i,_=>.int i
 | _,_,.str l h,_=>.str (S l)
 | _,_,.ty n,p=>nomatch p
 | _,_,.scr s,_=>.lst s.sq (DVs.ints _)
 | _,_,.lst n e f,p=>.lst (SqL.of e) (FVs.dvs f p)
 | _,_,.tup n e f,p=>.tup (SqT.of e) (FVs.dvs f p)
 | _,_,.dic _ _ _ _,p=>nomatch p
 | _,_,.obj _ _ _ _,p=>nomatch p
 | _,_,.exc0 _ _,p=>nomatch p
 | _,_,.exc1 _ _ _ _ _ _,p=>nomatch p
theorem FVs.dvs{O:Addr->Prop}{H:Hp}:∀{vs:List V}{ds:List D},FVs K O H vs ds->D.plains ds=true->DVs K H vs (D.pys ds)
 | _,_,.nil,_=>.nil
 | _,_,.cons a b,p=>by
  have p:(_ && _)=true:=p;rw [and_eq_true] at p;exact .cons (FV.dv a p.1) (FVs.dvs b p.2)
end
theorem FVc.dv{O:Addr->Prop}{H:Hp}{v:V}{d:D}(h:FVc K O H v d)(p:d.plain=true):DV K H v d.py:=by
 rcases h with h|⟨a,xs,ds',rfl,rfl,e3,f⟩|⟨a,dx,c,fs,ns,ds',e1,rfl,_⟩
 .exact h.dv p
 .exact .lst (SqL.of e3) (f.dvs p)
 .cases p
def Be(K:PySem.W.Frag)(neg:Bool):R2:=fun x y H Q=>rI0 (fun i j=>.bl (if neg then !decide (i=j) else decide (i=j))) x y H Q\/(∃i j,x=.str (S i)/\y=.str (S j)/\Q (.bl (if neg then !decide (i=j) else decide (i=j))) H)\/CO K neg x y H Q
theorem Ez(K:PySem.W.Frag)(e:X.K=K)(hu:X.A.units+64<cLine):OpR X (compareOp .Eq) (Be K false):=by
 subst e;exact OpR.or AT (OpR.or AR (AN hu))
theorem EA(K:PySem.W.Frag)(e:X.K=K)(hu:X.A.units+64<cLine):OpR X (compareOp .NotEq) (Be K true):=by
 subst e;exact OpR.or AU (OpR.or AS (AO hu))
def vF(a b:D):Prop:=a.plain=true/\b.plain=true/\SeqAt.shaped a.py=true/\SeqAt.shaped b.py=true
def deq(a b:D):Bool:=PyData.eqv a.py b.py
def fEq:F2
 | .int i,.int j,Q=>Q (.dat (.bl (decide (i=j))))
 | .str i,.str j,Q=>Q (.dat (.bl (decide (i=j))))
 | a,b,Q=>vF a b/\Q (.dat (.bl (deq a b)))
def fNe:F2
 | .int i,.int j,Q=>Q (.dat (.bl (!decide (i=j))))
 | .str i,.str j,Q=>Q (.dat (.bl (!decide (i=j))))
 | a,b,Q=>vF a b/\Q (.dat (.bl (!deq a b)))
theorem Df:LO K (Be K false) fEq:=by
 intro O H x y a b Q Q' dom fx fy q k;unfold fEq at q
 split at q
 .rename_i i j;exact .inl ⟨i,j,fx.int,fy.int,k _ H _ q (Gr.refl _) (.bl _)⟩
 .rename_i i j;exact .inr (.inl ⟨i,j,fx.str.1,fy.str.1,k _ H _ q (Gr.refl _) (.bl _)⟩)
 .exact .inr (.inr ⟨_,_,fx.dv q.1.1,fy.dv q.1.2.1,q.1.2.2.1,q.1.2.2.2,k _ H _ q.2 (Gr.refl _) (.bl _)⟩)
theorem Dg:LO K (Be K true) fNe:=by
 intro O H x y a b Q Q' dom fx fy q k;unfold fNe at q
 split at q
 .rename_i i j;exact .inl ⟨i,j,fx.int,fy.int,k _ H _ q (Gr.refl _) (.bl _)⟩
 .rename_i i j;exact .inr (.inl ⟨i,j,fx.str.1,fy.str.1,k _ H _ q (Gr.refl _) (.bl _)⟩)
 .exact .inr (.inr ⟨_,_,fx.dv q.1.1,fy.dv q.1.2.1,q.1.2.2.1,q.1.2.2.2,k _ H _ q.2 (Gr.refl _) (.bl _)⟩)
def D.fl:D->Bool
 | .non=>true|.bl _=>true|.int _=>true|.str _=>true
 | _=>false
def eqF:D->D->Bool
 | .non,.non=>true
 | .bl a,.bl b=>a == b
 | .bl a,.int b=>(if a then 1 else 0) == b
 | .int a,.bl b=>a == (if b then 1 else 0)
 | .int a,.int b=>a == b
 | .str a,.str b=>a == b
 | _,_=>false
def inD(x:D)(xs:List D):Bool:=xs.any fun y=>eqF y x
theorem FV.fl{O:Addr->Prop}{H:Hp}{v:V}{d:D}(h:FV K O H v d)(f:d.fl=true):lC v=true:=by cases h <;> first|rfl|cases f
theorem Bf(a b:List Nat):(S a == S b)=(a == b):=by
 by_cases h:a=b
 .subst h;rw [beq_self_eq_true,beq_self_eq_true]
 .rw [beq_eq_false_iff_ne.mpr h,beq_eq_false_iff_ne.mpr (Ev h)]
theorem FV.eqF{O:Addr->Prop}{H:Hp}{v w:V}{d e:D}(h:FV K O H v d)(f:d.fl=true)(h':FV K O H w e)(f':e.fl=true):eqV v w=L2.eqF d e:=by
 cases h <;> first|(cases f;done)|(cases h' <;> first|(cases f';done)|rfl|exact Bf _ _)
theorem FVs.inD{O:Addr->Prop}{H:Hp}{v:V}{d:D}(h:FV K O H v d)(f:d.fl=true):∀{xs:List V}{ds:List D},FVs K O H xs ds->ds.all D.fl=true->xs.all lC=true/\inV v xs=L2.inD d ds
 | _,_,.nil,_=>⟨rfl,rfl⟩
 | _,_,.cons a b,g=>by
  rw [all_cons,and_eq_true] at g;obtain⟨i1,i2⟩:=b.inD h f g.2;refine⟨by rw [all_cons,a.fl g.1,i1];rfl,?_⟩;unfold inV L2.inD at i2 ⊢;rw [any_cons,any_cons,i2,a.eqF g.1 h f]
def fIn(neg:Bool):F2
 | a,.lst ds,Q=>(a.fl=true/\ds.all D.fl=true)/\Q (.dat (.bl (if neg then !inD a ds else inD a ds)))
 | a,.tup ds,Q=>(a.fl=true/\ds.all D.fl=true)/\Q (.dat (.bl (if neg then !inD a ds else inD a ds)))
 | _,_,_=>False
theorem FVc.fl{O:Addr->Prop}{H:Hp}{v:V}{d:D}(h:FVc K O H v d)(f:d.fl=true):FV K O H v d:=h.fv (fun _ z=>by rw [z] at f;cases f) (fun _ _ _ z=>by rw [z] at f;cases f)
theorem EB(K:PySem.W.Frag)(e:X.K=K):OpR X (compareOp .In) (rIn K false):=by subst e;exact tM
theorem yJ(K:PySem.W.Frag)(e:X.K=K):OpR X (compareOp .NotIn) (rIn K true):=by subst e;exact og
theorem Bg{neg:Bool}:LO K (rIn K neg) (fIn neg):=by
 intro O H x y a b Q Q' dom fx fy q k;unfold fIn at q
 split at q
 .obtain⟨p,xs,rfl,e1,f1⟩:=fy.lst;obtain⟨g1,g2⟩:=f1.inD (fx.fl q.1.1) q.1.1 q.1.2;exact⟨p,xs,rfl,.inl (SqL.of e1),(fx.fl q.1.1).fl q.1.1,g1,by rw [g2];exact k _ H _ q.2 (Gr.refl _) (.bl _)⟩
 .obtain⟨p,xs,rfl,n1,e1,f1⟩:=fy.tup;obtain⟨g1,g2⟩:=f1.inD (fx.fl q.1.1) q.1.1 q.1.2;exact⟨p,xs,rfl,.inr (SqT.of e1),(fx.fl q.1.1).fl q.1.1,g1,by rw [g2];exact k _ H _ q.2 (Gr.refl _) (.bl _)⟩
 .exact q.elim
def xA(K:PySem.W.Frag):R2:=fun x y H Q=>D1 K x y H Q\/D2 K x y H Q\/AQ x y H Q
theorem iA(K:PySem.W.Frag)(e:X.K=K):IxR X (xA K):=by
 subst e;exact IxR.or yk (IxR.or AB yq)
def fIx:F2
 | .lst ds,.int i,Q=>∃d,atI ds i=some d/\Q (.dat d)
 | .tup ds,.int i,Q=>∃d,atI ds i=some d/\Q (.dat d)
 | .scr ns,.int i,Q=>∃d,atI ns i=some d/\Q (.dat (.int d))
 | .str l,.int i,Q=>∃c,atI l i=some c/\Q (.dat (.str [c]))
 | _,_,_=>False
theorem FVs.atI{O:Addr->Prop}{H:Hp}{vs:List V}{ds:List D}{i:Int}{d:D}(f:FVs K O H vs ds)(h:L2.atI ds i=some d):∃v,L2.atI vs i=some v/\FV K O H v d:=by
 unfold L2.atI at h ⊢;rw [f.length]
 cases e:ixN ds.length i with
 | none=>rw [e] at h;cases h
 | some j=>rw [e] at h;exact f.getD h
theorem dg:LO K (xA K) fIx:=by
 intro O H x y a b Q Q' dom fx fy q k;unfold fIx at q
 split at q
 .obtain⟨d,hd,q⟩:=q;obtain⟨p,xs,rfl,e1,f1⟩:=fx.lst;obtain⟨v,hv,fv⟩:=f1.atI hd;exact .inl ⟨p,xs,_,v,rfl,fy.int,SqL.of e1,hv,k _ H _ q (Gr.refl _) fv⟩
 .obtain⟨d,hd,q⟩:=q;obtain⟨p,xs,rfl,n1,e1,f1⟩:=fx.tup;obtain⟨v,hv,fv⟩:=f1.atI hd;exact .inr (.inl ⟨p,xs,_,v,rfl,fy.int,SqT.of e1,hv,k _ H _ q (Gr.refl _) fv⟩)
 .obtain⟨d,hd,q⟩:=q;obtain⟨p,rfl,e1⟩:=fx.scr;exact .inl ⟨p,_,_,_,rfl,fy.int,e1,yt hd,k _ H _ q (Gr.refl _) (.int d)⟩
 .obtain⟨c,hc,q⟩:=q;exact .inr (.inr ⟨_,_,c,fx.str.1,fy.int,sz _ fx.str.2,hc,k _ H _ q (Gr.refl _) (.str _ (by show 1<=1000000;decide))⟩)
 .exact q.elim
end
end L2
namespace L2
open PySem PySem.Spec PyProof.Rows _root_.HT
section
variable {prog:Program}{w:World}{A:Around}{E:Value->Shared->Prop}{s:Shared}
theorem jm{t sl:Addr}{items:Array Value}{vl vu:Value}{lo hi:Option Int}{Q:Value->Shared->Prop}(ht:IsTup s.heap t items)(hs:s.heap.IsSliceOf sl vl vu .none)(pl:IsPart vl lo)(pu:IsPart vu hi)
  (hw:sIx items.size 0 lo=0/\sIx items.size items.size hi=items.size)
  (h:Q (.ref t) s):wpAny (model prog w) A (getItem (.ref t) (.ref sl)) Q E s:=by
 obtain⟨os,hos,hcs,hds⟩:=id hs;have hTs:s.TypeIs (.ref sl) "slice":=⟨os,hos,hcs⟩
 unfold getItem
 try with_reducible refine wpAny_holding ?_
 first|refine wpAny_bind (wpAny_pure ?_)|skip
 refine wpAny_bind (wpAny_sequenceKey ht.typeIs (by decide) ?_)
 refine wpAny_bind (wpAny_callSpecial?_slot (name:=Str.ofString "__getitem__") ht.typeIs PyProof.Rows.slot_tuple_getitem
  (wpAny_call_entry PyProof.Rows.slot_tuple_getitem ht.typeIs entry_tuple_getitem ?_ (args_tuple_getitem _ _)))
 show wpAny _ _ (Builtin.Tuple.tupleItemsOf (.ref t) >>= _) _ _ s;refine wpAny_bind (tupleItemsOf_ ht ?_);refine wpAny_bind (wpAny_typeOf hTs ?_);rw [if_pos (by decide)];refine wpAny_bind (gf hs pl pu ?_)
 have hyes:(((sIx items.size 0 lo:Nat):Int) == 0 && (1:Int) == 1 && (sIx items.size items.size hi - sIx items.size 0 lo) == items.size)=true:=by
  rw [hw.1,hw.2,Nat.sub_zero];simp
 show wpAny _ _ (if (((sIx items.size 0 lo:Nat):Int) == 0 && (1:Int) == 1 && (sIx items.size items.size hi - sIx items.size 0 lo) == items.size)=true then _ else _) _ _ s;rw [if_pos hyes];refine wpAny_bind (m:=Builtin.Tuple.tupleIsExact _) (wpAny_bind (wpAny_typeOf ht.typeIs (wpAny_pure ?_)));rw [if_pos (by decide)]
 first
  | exact wpAny_bind (m:=rule _) (wpAny_pure (wpAny_pure ⟨_,rfl,wpAny_pure h⟩))
  | exact wpAny_pure ⟨_,rfl,wpAny_pure h⟩
  | exact wpAny_bind (wpAny_rule (wpAny_pure ⟨_,rfl,wpAny_pure h⟩))
def Bh(K:PySem.W.Frag):V->Option Int->Option Int->Hp->VK->Prop:=fun x lo hi H Q=>∃a xs,x=.ref a/\SqT K H a xs/\(sIx xs.length 0 lo=0/\sIx xs.length xs.length hi=xs.length)/\Q (.ref a) H
theorem yK{X:Cx}:SlR X (Bh X.K):=by
 intro pins s σ H x v vl vu lo hi sl Q I rx hs pl pu h;obtain⟨a,xs,rfl,hx,hw,q⟩:=h;cases rx;obtain⟨its,r,ht,hz⟩:=I.tuple hx;have hlen:its.toArray.size=xs.length:=by rw [size_toArray];exact r.length.symm
 refine⟨"tuple",_,PyProof.Rows.slot_tuple_getitem.lookup,ht.typeIs,?_⟩;exact jm ht hs pl pu (by rw [hlen];exact hw) ⟨.ref a,H,I,rfl,q⟩
end
end L2
namespace L2
open PySem PySem.Spec PyProof.Rows
section
variable {K:PySem.W.Frag}{X:Cx}{ta tb tc to:TE}{pa pb pc:PA1}{pe:PTE}{tr:TA}{pr:PTA}
def ur(f f':F2)(pa pb pc:PA1):PTE:=fun ρ Q=>pa ρ fun x ρ1=>pb ρ1 fun y ρ2=>op2 f ρ2 x y fun p ρ3=>match p with
 | .dat (.bl k)=>ic k (pc ρ3 fun z ρ4=>op2 f' ρ4 y z Q) (Q (.dat (.bl false)) ρ3)
 | _=>False
theorem re{r r':R2}{f f':F2}(o:LO K r f)(o':LO K r' f')(ha:LA1 K ta pa)(hb:LA1 K tb pb)(hc:LA1 K tc pc):LE K (qP r r' ta tb tc) (ur f f' pa pb pc):=fun A ρ σ H Q Q' R q k =>
 ha A ρ σ H _ _ R q fun v H1 a ρ1 q1 f1 R1 o1=>hb A ρ1 σ H1 _ _ R1 q1 fun w H2 b ρ2 q2 f2 R2 o2=>by
  unfold op2 at q2
  split at q2
  .rename_i da db e1 e2;refine o _ H2 v w da db _ _ R2.dom2 (R2.cont (o1.keeps f2.keeps) e1) (R2.cont o2 e2) q2 fun z H3 p q3 g ov=>?_;dsimp only at q3
   split at q3
   .rename_i c;cases ov;refine⟨c,rfl,?_⟩;have R3:=R2.gr g
    cases c with
    | true =>
     refine hc A ρ2 σ H3 _ _ R3 q3 fun u H4 cc ρ4 q4 f4 R4 o4=>?_
     try unfold op2 at q4
     split at q4
     .rename_i dc dd e3 e4;have o2':AOk K (OO A ρ4 σ) σ H4 b w:=(o2.keeps (g.fr (ρ:=ρ2) (σ:=σ)).keeps).keeps f4.keeps;exact o' _ H4 w u _ _ _ _ R4.dom2 (R4.cont o2' e3) (R4.cont o4 e4) q4 fun z H5 p q5 g5 ov=>k z H5 p ρ4 q5 ((((f1.trans f2).trans g.fr).trans f4).trans g5.fr) ((ov.out R4 g5).h0 fun b z=>f4.dm b ((g.fr (ρ:=ρ2) (σ:=σ)).dm b (f2.dm b (f1.dm b z))))
     .exact q4.elim
    | false=>exact k _ H3 _ ρ2 q3 ((f1.trans f2).trans g.fr) ⟨R3,.bl false⟩
   .exact q3.elim
  .exact q2.elim
abbrev PTO:=PSt->(Option Int->PSt->Prop)->Prop
def LPo(K:PySem.W.Frag)(t:TO)(p:PTO):Prop:=∀(A:Addr->Prop) (ρ:PSt) (σ:St) (H:Hp) (Q:Option Int->PSt->Prop) (Q':Option Int->Hp->Prop),Rel K A ρ σ H->p ρ Q ->
 (∀b H' ρ',Q b ρ'->Fr ρ σ H ρ' H'->Rel K A ρ' σ H'->Q' b H')->t σ H Q'
def dX:PTO:=fun ρ Q=>Q none ρ
def dB(pe:PTE):PTO:=fun ρ Q=>pe ρ fun p ρ1=>match p with
 | .dat (.int i)=>Q (some i) ρ1
 | _=>False
theorem cq:LPo K tK dX:=fun A ρ σ H Q Q' R q k=>k none H ρ q (Fr.refl _ _ _) R
theorem bR(h:LE K ta pe):LPo K (Ay ta) (dB pe):=fun A ρ σ H Q Q' R q k=>h A ρ σ H _ _ R q fun v H1 p ρ1 q1 f1 o1=>by
 split at q1
 .rename_i i;obtain⟨R1,f⟩:=o1;cases f;exact⟨i,rfl,k _ H1 ρ1 q1 f1 R1⟩
 .exact q1.elim
def Dh(K:PySem.W.Frag):V->Option Int->Option Int->Hp->VK->Prop:=fun x lo hi H Q=>D3 K x lo hi H Q\/D5 x lo hi H Q\/D0 K x lo hi H Q\/Bh K x lo hi H Q
theorem pQ(K:PySem.W.Frag)(e:X.K=K):SlR X (Dh K):=by
 subst e;exact SlR.or yl (SlR.or AL (SlR.or Az yK))
def fSl:D->Option Int->Option Int->(PV->Prop)->Prop
 | .lst ds,lo,hi,Q=>Q (.own (e6 ds lo hi))
 | .scr ns,lo,hi,Q=>Q (.own ((e6 ns lo hi).map .int))
 | .str l,lo,hi,Q=>Q (.dat (.str (e6 l lo hi)))
 | .tup ds,lo,hi,Q=>Q (.dat (.tup (e6 ds lo hi)))
 | _,_,_,_=>False
theorem FVs.cut{O:Addr->Prop}{H:Hp}{xs:List V}{ds:List D}(f:FVs K O H xs ds)(lo hi:Option Int):FVs K O H (e6 xs lo hi) (e6 ds lo hi):=by
 unfold e6;rw [f.length];exact (f.drop _).take _
def dU(pa:PA1)(pl ph:PTO):PTE:=fun ρ Q=>pa ρ fun x ρ1=>pl ρ1 fun lo ρ2=>ph ρ2 fun hi ρ3=>match cont ρ3 x with
 | some d=>fSl d lo hi fun p=>Q p ρ3
 | _=>False
theorem yL{α:Type}{ds:List α}{lo hi:Option Int}{n:Nat}(h:n=ds.length)(hw:HT.sIx n 0 lo=0/\HT.sIx n n hi=n):e6 ds lo hi=ds:=by
 subst h;unfold e6;rw [hw.1,hw.2,drop_zero,Nat.sub_zero,take_length]
theorem lsl{O:Addr->Prop}{H:Hp}{x:V}{d:D}{lo hi:Option Int}{Q:PV->Prop}{Q':VK}(dom:∀b,O b->H b≠none)(fx:FVc K O H x d)(q:fSl d lo hi Q)(k:∀v H' p,Q p->Gr H H'->pP K O H H' p v->Q' v H'):Dh K x lo hi H Q':=by
 unfold fSl at q
 split at q
 .obtain⟨a,xs,rfl,e1,f1⟩:=fx.lst;exact .inl ⟨a,xs,rfl,SqL.of e1,fun p hp=>k _ _ _ q (Gr.new hp) (e9 hp (f1.cut _ _))⟩
 .obtain⟨a,rfl,e1⟩:=fx.scr;exact .inl ⟨a,_,rfl,e1,fun p hp=>k _ _ _ q (Gr.new hp) (e9 hp (by rw [tS,wc];exact FVs.of_ints _))⟩
 .exact .inr (.inl ⟨_,fx.str.1,sz _ fx.str.2,k _ H _ q (Gr.refl _) (.str _ (le_trans (e7 _ _ _) fx.str.2))⟩)
 .obtain⟨a,xs,rfl,n1,e1,f1⟩:=fx.tup
  by_cases hw:HT.sIx xs.length 0 lo=0/\HT.sIx xs.length xs.length hi=xs.length
  .refine .inr (.inr (.inr ⟨a,xs,rfl,SqT.of e1,hw,k _ H _ q (Gr.refl _) ?_⟩));rw [yL f1.length hw];exact .tup n1 e1 f1
  .exact .inr (.inr (.inl ⟨a,xs,rfl,SqT.of e1,hw,fun p hp=>k _ _ _ q (Gr.new hp) (ku dom hp (f1.cut _ _))⟩))
 .exact q.elim
theorem cb{tl th:TO}{pl ph:PTO}(ha:LA1 K ta pa)(hl:LPo K tl pl)(hh:LPo K th ph):LE K (tSl (Dh K) ta tl th) (dU pa pl ph):=fun A ρ σ H Q Q' R q k =>
 ha A ρ σ H _ _ R q fun v H1 a ρ1 q1 f1 R1 o1=>hl A ρ1 σ H1 _ _ R1 q1 fun lo H2 ρ2 q2 f2 R2=>hh A ρ2 σ H2 _ _ R2 q2 fun hi H3 ρ3 q3 f3 R3=>by
  split at q3
  .rename_i d e1;exact lsl R3.dom2 (R3.cont (o1.keeps (f2.trans f3).keeps) e1) q3 fun z H4 p q4 g ov=>k z H4 p ρ3 q4 (((f1.trans f2).trans f3).trans g.fr) ((ov.out R3 g).h0 fun b z=>f3.dm b (f2.dm b (f1.dm b z)))
  .exact q3.elim
abbrev FN:=List D->(PV->Prop)->Prop
def oI(K:PySem.W.Frag):List V->Hp->VK->Prop:=fun xs H Q=>(∃l,xs=[.str (S l)]/\l.length<=sizeLine/\Q (.int l.length) H)\/CY K xs H Q\/CZ K xs H Q\/∃p kvs,xs=[.ref p]/\Rd H p (.dK kvs)/\Q (.int kvs.length) H
theorem cQ(K:PySem.W.Frag)(e:X.K=K):bJ X (.builtin "len") (oI K):=by
 subst e;exact bJ.or tZ (bJ.or t0 (bJ.or t4 uf))
def gW:FN
 | [.str l],Q=>Q (.dat (.int l.length))
 | [.lst l],Q=>Q (.dat (.int l.length))
 | [.tup l],Q=>Q (.dat (.int l.length))
 | [.scr l],Q=>Q (.dat (.int l.length))
 | [.dic ks _],Q=>Q (.dat (.int ks.length))
 | _,_=>False
theorem bH:LC K (oI K) gW:=by
 intro O H xs as Q Q' dom fs q k;unfold gW at q
 split at q
 .cases fs with|cons a b=>cases b;rw [a.str.1];exact .inl ⟨_,rfl,sz _ a.str.2,k _ H _ q (Gr.refl _) (.int _)⟩
 .cases fs with
  | cons a b =>
   cases b;obtain⟨p,ys,rfl,e1,f1⟩:=a.lst;exact .inr (.inl ⟨p,ys,rfl,SqL.of e1,by rw [f1.length];exact k _ H _ q (Gr.refl _) (.int _)⟩)
 .cases fs with
  | cons a b =>
   cases b;obtain⟨p,ys,rfl,n1,e1,f1⟩:=a.tup;exact .inr (.inr (.inl ⟨p,ys,rfl,SqT.of e1,by rw [f1.length];exact k _ H _ q (Gr.refl _) (.int _)⟩))
 .cases fs with
  | cons a b =>
   cases b;obtain⟨p,rfl,e1⟩:=a.scr;exact .inr (.inl ⟨p,_,rfl,e1,by rw [length_map];exact k _ H _ q (Gr.refl _) (.int _)⟩)
 .cases fs with
  | cons a b =>
   cases b
   cases a.fv nofun nofun with
   | dic n e m f=>subst m;exact .inr (.inr (.inr ⟨_,_,rfl,.inl e,k _ H _ q (Gr.refl _) (by rw [length_map];exact .int _)⟩))
 .exact q.elim
inductive Kd where
 | int|bool|str|list|tuple|dict
def Kd.nm:Kd->String
 | .int=>"int"|.bool=>"bool"|.str=>"str"|.list=>"list"|.tuple=>"tuple"|.dict=>"dict"
def isK:Kd->D->Bool
 | .int,.int _=>true
 | .int,.bl _=>true
 | .bool,.bl _=>true
 | .str,.str _=>true
 | .list,.lst _=>true
 | .tuple,.tup _=>true
 | .dict,.dic _ _=>true
 | _,_=>false
def D.sort:D->Bool
 | .obj _ _ _=>false
 | .exc _ _ _=>false
 | .scr _=>false
 | .ty _=>false
 | _=>true
theorem FVc.ty{O:Addr->Prop}{H:Hp}{v:V}{d:D}(h:FVc K O H v d)(s:d.sort=true):∃t,pT K H v t/\∀k:Kd,PySem.W.kitOne K t (.type k.nm)=some (isK k d):=by
 rcases h with h|⟨a,xs,ds',rfl,rfl,e3,f⟩|⟨a,dx,c,fs,ns,ds',rfl,rfl,_⟩
 .cases h with
  | non=>exact⟨_,.non,fun k=>by cases k <;> rfl⟩
  | bl b=>exact⟨_,.bl b,fun k=>by cases k <;> rfl⟩
  | int i=>exact⟨_,.int i,fun k=>by cases k <;> rfl⟩
  | str l h=>exact⟨_,.str _,fun k=>by cases k <;> rfl⟩
  | ty n=>cases s
  | scr _=>cases s
  | lst n e f=>exact⟨_,.lst e,fun k=>by cases k <;> rfl⟩
  | tup n e f=>exact⟨_,.tup e,fun k=>by cases k <;> rfl⟩
  | dic n e m f=>exact⟨_,.dK e,fun k=>by cases k <;> rfl⟩
  | obj _ _ _ _=>cases s
  | exc0 _ _=>cases s
  | exc1 _ _ _ _ _ _=>cases s
 .exact⟨_,.lst e3,fun k=>by cases k <;> rfl⟩
 .cases s
theorem oJ(K:PySem.W.Frag)(e:X.K=K):bJ X (.builtin "isinstance") (D6 K):=by subst e;exact pV
def wy(k:Kd)(pa:PA1):PTE:=fun ρ Q=>pa ρ fun x ρ1=>match cont ρ1 x with
 | some d=>ic d.sort (Q (.dat (.bl (isK k d))) ρ1) False
 | _=>False
theorem jK(k:Kd)(ha:LA1 K ta pa):LE K (tCB (D6 K) (bp ta (bp (tC (.ty k.nm)) fE))) (wy k pa):=fun A ρ σ H Q Q' R q kk =>
 ha A ρ σ H _ _ R q fun v H1 a ρ1 q1 f1 R1 o1=>by
  split at q1
  .rename_i d e1
   cases hs:d.sort with
   | false=>rw [hs] at q1;exact q1.elim
   | true =>
    rw [hs] at q1;obtain⟨t,ty,hk⟩:=(R1.cont o1 e1).ty hs;exact⟨v,k.nm,t,isK k d,rfl,ty,hk k,kk _ H1 _ ρ1 q1 f1 ⟨R1,.bl _⟩⟩
  .exact q1.elim
end
structure wz where
 nx:PSt->Prop
 rt:PV->PSt->Prop
 bk:PSt->Prop:=fun _=>False
 ct:PSt->Prop:=fun _=>False
abbrev PTS:=wz->PSt->Prop
structure dA (fx:List (Nat×V)) (R:Addr->Prop) (H0:Hp) (ρ:PSt) (σ:St) (H:Hp):Prop where
 kp:∀b o,¬ R b->H0 b=some o->H b=some o
 dm:∀b,H0 b≠none->H b≠none
 ow:∀b,Wr ρ σ b->R b\/H0 b=none
 fx:∀p∈fx,σ[p.1]?=some (some p.2)
section
variable {K:PySem.W.Frag}{fx:List (Nat×V)}{A R:Addr->Prop}{H0 H H':Hp}{ρ ρ':PSt}{σ:St}
theorem dA.fr(F:dA fx R H0 ρ σ H)(f:Fr ρ σ H ρ' H'):dA fx R H0 ρ' σ H' :=
 ⟨fun b o n e=>f.kp b o (fun w=>(F.ow b w).elim n (fun z=>by rw [z] at e;cases e)) (F.kp b o n e),fun b z=>f.dm b (F.dm b z),fun b w=>F.ow b (f.ow b w),F.fx⟩
theorem dA.start(hfx:∀p∈fx,σ[p.1]?=some (some p.2)):dA fx (Wr ρ σ) H ρ σ H:=⟨fun _ _ _ h=>h,fun _ h=>h,fun _ h=>.inl h,hfx⟩
theorem dA.keepsR{ρ1:PSt}{σ1:St}{H1:Hp}(F:dA fx R H1 ρ σ H)(hR:∀b,R b->OO A ρ1 σ1 b):aO (OO A ρ1 σ1) H1 (OO A ρ σ) H:=fun b o n e=>by
 refine⟨fun z=>?_,F.kp b o (fun z=>n (hR b z)) e⟩
 rcases z with z|z
 .exact n (.inl z)
 .rcases F.ow b z with z|z
  .exact n (hR b z)
  .rw [z] at e;cases e
theorem dA.keeps{ρ1:PSt}{σ1:St}{H1:Hp}(F:dA fx (Wr ρ1 σ1) H1 ρ σ H):aO (OO A ρ1 σ1) H1 (OO A ρ σ) H:=F.keepsR fun b z=>.inr z
theorem dA.trans{fx':List (Nat×V)}{ρ1:PSt}{σ1:St}{H1:Hp}(F:dA fx R H0 ρ1 σ1 H1)(G:dA fx' (Wr ρ1 σ1) H1 ρ σ H)(hfx:∀p∈fx,σ[p.1]?=some (some p.2)):dA fx R H0 ρ σ H:=by
 refine⟨fun b o n e=>G.kp b o (fun w=>(F.ow b w).elim n (fun z=>by rw [z] at e;cases e)) (F.kp b o n e),fun b z=>G.dm b (F.dm b z),fun b w=>?_,hfx⟩
 rcases G.ow b w with z|z
 .exact F.ow b z
 .refine .inr ?_
  cases e:H0 b with
  | none=>rfl
  | some o=>exact absurd z (F.dm b (by rw [e];exact nofun))
theorem Out.put{p:PV}{v:V}{i:Nat}(h:Out K A ρ σ H0 H p v):Rel K A (ρ.set i (some p)) (σ.set i (some v)) H/\∀b,Wr (ρ.set i (some p)) (σ.set i (some v)) b->Wr ρ σ b\/H0 b=none:=by
 have get:∀(j:Nat) (q:PV),(ρ.set i (some p))[j]?=some (some q)->(j=i/\q=p/\i<ρ.length)\/(j≠i/\ρ[j]?=some (some q)):=fun j q e=>by
  by_cases z:i=j
  .subst z
   by_cases hi:i<ρ.length
   .rw [getElem?_set_self hi] at e;cases e;exact .inl ⟨rfl,rfl,hi⟩
   .rw [getElem?_eq_none (by rw [length_set];omega)] at e;cases e
  .rw [getElem?_set_ne z] at e;exact .inr ⟨fun q=>z q.symm,e⟩
 cases p with
 | dat d =>
  obtain⟨R1,f⟩:=h
  have ow:∀b,Wr (ρ.set i (some (.dat d))) (σ.set i (some v)) b->Wr ρ σ b:=fun b ⟨j,r,e1,o1,s1⟩=>by
   rcases get j r e1 with ⟨_,rfl,_⟩|⟨n,e⟩
   .cases o1
   .rw [getElem?_set_ne (fun z=>n z.symm)] at s1;exact⟨j,r,e,o1,s1⟩
  have k:aO (OO A ρ σ) H (OO A (ρ.set i (some (.dat d))) (σ.set i (some v))) H:=aO.less fun b z=>z.imp id (ow b)
  refine⟨⟨by rw [length_set,length_set];exact R1.len,fun j r e1=>?_,fun j l p1 q1 v' e1 e2 o1 o2 s1 s2=>?_,R1.dom,fun b z w=>R1.sep b z (ow b w)⟩,fun b w=>.inl (ow b w)⟩
  .rcases get j r e1 with ⟨rfl,rfl,hi⟩|⟨n,e⟩
   .exact⟨v,getElem?_set_self (by rw [<- R1.len];exact hi),f.keeps k⟩
   .obtain⟨u,s,r'⟩:=R1.get j r e;exact⟨u,by rw [getElem?_set_ne (fun z=>n z.symm)];exact s,r'.keeps k fun _ _ _=>rfl⟩
  .rcases get j p1 e1 with ⟨_,rfl,_⟩|⟨n1,e1⟩
   .cases o1
   .rcases get l q1 e2 with ⟨_,rfl,_⟩|⟨n2,e2⟩
    .cases o2
    .rw [getElem?_set_ne (fun z=>n1 z.symm)] at s1;rw [getElem?_set_ne (fun z=>n2 z.symm)] at s2;exact R1.dj j l p1 q1 v' e1 e2 o1 o2 s1 s2
 | own ds =>
  obtain⟨a,xs,rfl,na,hn,e0,R1,f⟩:=h
  have ow:∀b,Wr (ρ.set i (some (.own ds))) (σ.set i (some (.ref a))) b->Wr ρ σ b\/b=a:=fun b ⟨j,r,e1,o1,s1⟩=>by
   rcases get j r e1 with ⟨rfl,rfl,hi⟩|⟨n,e⟩
   .rw [getElem?_set_self (by rw [<- R1.len];exact hi)] at s1;cases s1;exact .inr rfl
   .rw [getElem?_set_ne (fun z=>n z.symm)] at s1;exact .inl ⟨j,r,e,o1,s1⟩
  have k:aO (OO (et A a) ρ σ) H (OO A (ρ.set i (some (.own ds))) (σ.set i (some (.ref a)))) H:=aO.less fun b z=>by
   rcases z with z|z
   .exact .inl (.inl z)
   .rcases ow b z with z|z
    .exact .inr z
    .exact .inl (.inr z)
  refine⟨⟨by rw [length_set,length_set];exact R1.len,fun j r e1=>?_,fun j l p1 q1 v' e1 e2 o1 o2 s1 s2=>?_,fun b z=>R1.dom b (.inl z),fun b z w=>?_⟩,fun b w=>(ow b w).imp id fun z=>by rw [z];exact hn⟩
  .rcases get j r e1 with ⟨rfl,rfl,hi⟩|⟨n,e⟩
   .exact⟨_,getElem?_set_self (by rw [<- R1.len];exact hi),a,xs,rfl,e0,f.keeps k⟩
   .obtain⟨u,s,r'⟩:=R1.get j r e;exact⟨u,by rw [getElem?_set_ne (fun z=>n z.symm)];exact s,r'.keeps k fun _ _ _=>rfl⟩
  .rcases get j p1 e1 with ⟨rfl,rfl,hi⟩|⟨n1,e1'⟩
   .rw [getElem?_set_self (by rw [<- R1.len];exact hi)] at s1;cases s1
    rcases get l q1 e2 with ⟨rfl,rfl,_⟩|⟨n2,e2⟩
    .rfl
    .rw [getElem?_set_ne (fun z=>n2 z.symm)] at s2;exact absurd ⟨l,q1,e2,o2,s2⟩ (R1.sep a (.inr rfl))
   .rw [getElem?_set_ne (fun z=>n1 z.symm)] at s1
    rcases get l q1 e2 with ⟨rfl,rfl,hi⟩|⟨n2,e2⟩
    .rw [getElem?_set_self (by rw [<- R1.len];exact hi)] at s2;cases s2;exact absurd ⟨j,p1,e1',o1,s1⟩ (R1.sep a (.inr rfl))
    .rw [getElem?_set_ne (fun z=>n2 z.symm)] at s2;exact R1.dj j l p1 q1 v' e1' e2 o1 o2 s1 s2
  .rcases ow b w with w|w
   .exact R1.sep b (.inl z) w
   .rw [w] at z;exact na z
 | ins c ns ds =>
  obtain⟨a,dx,fs,rfl,na,hn,e0,m,R1,f⟩:=h
  have ow:∀b,Wr (ρ.set i (some (.ins c ns ds))) (σ.set i (some (.ref a))) b->Wr ρ σ b\/b=a:=fun b ⟨j,r,e1,o1,s1⟩=>by
   rcases get j r e1 with ⟨rfl,rfl,hi⟩|⟨n,e⟩
   .rw [getElem?_set_self (by rw [<- R1.len];exact hi)] at s1;cases s1;exact .inr rfl
   .rw [getElem?_set_ne (fun z=>n z.symm)] at s1;exact .inl ⟨j,r,e,o1,s1⟩
  have k:aO (OO (et A a) ρ σ) H (OO A (ρ.set i (some (.ins c ns ds))) (σ.set i (some (.ref a)))) H:=aO.less fun b z=>by
   rcases z with z|z
   .exact .inl (.inl z)
   .rcases ow b z with z|z
    .exact .inr z
    .exact .inl (.inr z)
  refine⟨⟨by rw [length_set,length_set];exact R1.len,fun j r e1=>?_,fun j l p1 q1 v' e1 e2 o1 o2 s1 s2=>?_,fun b z=>R1.dom b (.inl z),fun b z w=>?_⟩,fun b w=>(ow b w).imp id fun z=>by rw [z];exact hn⟩
  .rcases get j r e1 with ⟨rfl,rfl,hi⟩|⟨n,e⟩
   .exact⟨_,getElem?_set_self (by rw [<- R1.len];exact hi),a,dx,fs,rfl,e0,m,f.keeps k⟩
   .obtain⟨u,s,r'⟩:=R1.get j r e;exact⟨u,by rw [getElem?_set_ne (fun z=>n z.symm)];exact s,r'.keeps k fun _ _ _=>rfl⟩
  .rcases get j p1 e1 with ⟨rfl,rfl,hi⟩|⟨n1,e1'⟩
   .rw [getElem?_set_self (by rw [<- R1.len];exact hi)] at s1;cases s1
    rcases get l q1 e2 with ⟨rfl,rfl,_⟩|⟨n2,e2⟩
    .rfl
    .rw [getElem?_set_ne (fun z=>n2 z.symm)] at s2;exact absurd ⟨l,q1,e2,o2,s2⟩ (R1.sep a (.inr rfl))
   .rw [getElem?_set_ne (fun z=>n1 z.symm)] at s1
    rcases get l q1 e2 with ⟨rfl,rfl,hi⟩|⟨n2,e2⟩
    .rw [getElem?_set_self (by rw [<- R1.len];exact hi)] at s2;cases s2;exact absurd ⟨j,p1,e1',o1,s1⟩ (R1.sep a (.inr rfl))
    .rw [getElem?_set_ne (fun z=>n2 z.symm)] at s2;exact R1.dj j l p1 q1 v' e1' e2 o1 o2 s1 s2
  .rcases ow b w with w|w
   .exact R1.sep b (.inl z) w
   .rw [w] at z;exact na z
end
abbrev PTG:=PV->PSt->(PSt->Prop)->Prop
abbrev xB:=List D->PSt->(PSt->Prop)->Prop
def LG(K:PySem.W.Frag)(fs:List Nat)(g:TG)(pg:PTG):Prop:=∀(fx:List (Nat×V)) (A R:Addr->Prop) (H0:Hp) (ρ:PSt) (σ:St) (H:Hp) (p:PV) (v:V) (Q:PSt->Prop) (Q':St->Hp->Prop),fx.map Prod.fst=fs->dA fx R H0 ρ σ H->Out K A ρ σ H0 H p v->pg p ρ Q ->
 (∀ρ' σ' H',Q ρ'->Rel K A ρ' σ' H'->dA fx R H0 ρ' σ' H'->Q' σ' H')->g v σ H Q'
def LGs(K:PySem.W.Frag)(fs:List Nat)(g:TGs)(pg:xB):Prop:=∀(fx:List (Nat×V)) (A R:Addr->Prop) (H0:Hp) (ρ:PSt) (σ:St) (H:Hp) (ds:List D) (vs:List V) (Q:PSt->Prop) (Q':St->Hp->Prop),fx.map Prod.fst=fs->dA fx R H0 ρ σ H->Rel K A ρ σ H->FVs K (OO A ρ σ) H vs ds->pg ds ρ Q ->
 (∀ρ' σ',Q ρ'->Rel K A ρ' σ' H->dA fx R H0 ρ' σ' H->(∀b,Wr ρ' σ' b->Wr ρ σ b)->Q' σ' H)->g vs σ H Q'
def LGd(K:PySem.W.Frag)(fs:List Nat)(g:TG)(pg:PTG):Prop:=∀(fx:List (Nat×V)) (A R:Addr->Prop) (H0:Hp) (ρ:PSt) (σ:St) (H:Hp) (d:D) (v:V) (Q:PSt->Prop) (Q':St->Hp->Prop),fx.map Prod.fst=fs->dA fx R H0 ρ σ H->Rel K A ρ σ H->FV K (OO A ρ σ) H v d->pg (.dat d) ρ Q ->
 (∀ρ' σ',Q ρ'->Rel K A ρ' σ' H->dA fx R H0 ρ' σ' H->(∀b,Wr ρ' σ' b->Wr ρ σ b)->Q' σ' H)->g v σ H Q'
def aw(i:Nat):PTG:=fun p ρ Q=>Q (ρ.set i (some p))
def p5:xB:=fun ds ρ Q=>match ds with|[]=>Q ρ|_=>False
def gj(g:PTG)(gs:xB):xB:=fun ds ρ Q=>match ds with|d::r=>g (.dat d) ρ fun ρ1=>gs r ρ1 Q|[]=>False
section
variable {K:PySem.W.Frag}{fs:List Nat}
theorem dA.put{fx:List (Nat×V)}{R:Addr->Prop}{H0 H:Hp}{ρ:PSt}{σ:St}{i:Nat}{p:PV}{v:V}(hf:fx.map Prod.fst=fs)(hi:fs.contains i=false)(F:dA fx R H0 ρ σ H)(ow:∀b,Wr (ρ.set i (some p)) (σ.set i (some v)) b->Wr ρ σ b\/H0 b=none):dA fx R H0 (ρ.set i (some p)) (σ.set i (some v)) H :=
 ⟨F.kp,F.dm,fun b w=>(ow b w).elim (F.ow b) .inr,fun q hq=>by
  have:q.1≠i:=fun z=>by
   have h1:i∈fs:=by rw [<- hf,<- z];exact mem_map_of_mem hq
   rw [contains_iff_mem.mpr h1] at hi;cases hi
  rw [getElem?_set_ne (fun z=>this z.symm)];exact F.fx q hq⟩
theorem aE{i:Nat}(hi:fs.contains i=false):LG K fs (dQ i) (aw i):=fun fx A R H0 ρ σ H p v Q Q' hf F o q k=>k _ _ _ q o.put.1 (F.put hf hi o.put.2)
theorem ky:LGs K fs DT p5:=fun fx A R H0 ρ σ H ds vs Q Q' hf F r fv q k=>by
 unfold p5 at q
 split at q
 .cases fv;exact⟨rfl,k _ _ q r F fun _ h=>h⟩
 .exact q.elim
theorem aK{i:Nat}(hi:fs.contains i=false):LGd K fs (dQ i) (aw i):=fun fx A R H0 ρ σ H d v Q Q' hf F r fv q k=>by
 have o:Out K A ρ σ H0 H (.dat d) v:=⟨r,fv⟩
 have ow:∀b,Wr (ρ.set i (some (.dat d))) (σ.set i (some v)) b->Wr ρ σ b:=fun b ⟨j,p,e1,o1,s1⟩=>by
  by_cases z:i=j
  .subst z
   by_cases hl:i<ρ.length
   .rw [getElem?_set_self hl] at e1;cases e1;cases o1
   .rw [getElem?_eq_none (by rw [length_set];omega)] at e1;cases e1
  .rw [getElem?_set_ne z] at e1 s1;exact⟨j,p,e1,o1,s1⟩
 exact k _ _ q o.put.1 (F.put hf hi o.put.2) ow
theorem dI{g:TG}{pg:PTG}{gs:TGs}{pgs:xB}(hg:LGd K fs g pg)(h:LGs K fs gs pgs):LGs K fs (Ap g gs) (gj pg pgs):=fun fx A R H0 ρ σ H ds vs Q Q' hf F r fv q k=>by
 unfold gj at q
 split at q
 .cases fv with
  | cons a b =>
   exact⟨_,_,rfl,hg fx A R H0 ρ σ H _ _ _ _ hf F r a q fun ρ1 σ1 q1 r1 F1 w1=>h fx A R H0 ρ1 σ1 H _ _ _ _ hf F1 r1 (b.keeps (aO.less fun b z=>z.imp id (w1 b))) q1 fun ρ2 σ2 q2 r2 F2 w2=>k ρ2 σ2 q2 r2 F2 fun b z=>w1 b (w2 b z)⟩
 .exact q.elim
end
def LS(K:PySem.W.Frag)(fs:List Nat)(ts:TS)(ps:PTS):Prop:=∀(fx:List (Nat×V)) (A R:Addr->Prop) (H0:Hp) (ρ:PSt) (σ:St) (H:Hp) (D:wz) (D':sP),fx.map Prod.fst=fs->Rel K A ρ σ H->dA fx R H0 ρ σ H->ps D ρ ->
 (∀ρ' σ' H',D.nx ρ'->Rel K A ρ' σ' H'->dA fx R H0 ρ' σ' H'->D'.nx σ' H') ->
 (∀v p ρ' σ' H',D.rt p ρ'->Out K A ρ' σ' H0 H' p v->dA fx R H0 ρ' σ' H'->D'.rt v H') ->
 (∀ρ' σ' H',D.bk ρ'->Rel K A ρ' σ' H'->dA fx R H0 ρ' σ' H'->D'.bk σ' H') ->
 (∀ρ' σ' H',D.ct ρ'->Rel K A ρ' σ' H'->dA fx R H0 ρ' σ' H'->D'.ct σ' H')->ts D' σ H
def bS:PTS:=fun D ρ=>D.nx ρ
def aN(a b:PTS):PTS:=fun D ρ=>a { D with nx:=b D } ρ
def kz(pe:PTE):PTS:=fun D ρ=>pe ρ fun _ ρ1=>D.nx ρ1
def bD(pe:PTE):PTS:=fun D ρ=>pe ρ D.rt
def gX(t:PTT)(a b:PTS):PTS:=fun D ρ=>t ρ fun c ρ1=>ic c (a D ρ1) (b D ρ1)
def bx(pe:PTE)(g:PTG):PTS:=fun D ρ=>pe ρ fun p ρ1=>g p ρ1 D.nx
def kA(a:PTS):PTS:=fun D ρ=>∃J:PSt->Prop,a { D with nx:=J } ρ/\∀ρ',J ρ'->D.nx ρ'
section
variable {K:PySem.W.Frag}{fs:List Nat}{ta tb:TS}{pa pb:PTS}{te:TE}{pe:PTE}{tt:TT}{pt:PTT}
theorem bq:LS K fs x4 bS:=fun fx A R H0 ρ σ H D D' hf r F q k1 k2 k3 k4=>k1 _ _ _ q r F
theorem ax(ha:LS K fs ta pa)(hb:LS K fs tb pb):LS K fs (Ao ta tb) (aN pa pb):=fun fx A R H0 ρ σ H D D' hf r F q k1 k2 k3 k4 =>
 ha fx A R H0 ρ σ H _ _ hf r F q (fun ρ1 σ1 H1 q1 r1 F1=>hb fx A R H0 ρ1 σ1 H1 _ _ hf r1 F1 q1 k1 k2 k3 k4) k2 k3 k4
theorem jn(h:LE K te pe):LS K fs (vL te) (kz pe):=fun fx A R H0 ρ σ H D D' hf r F q k1 k2 k3 k4=>h A ρ σ H _ _ r q fun v H1 p ρ1 q1 f1 o1=>k1 _ _ _ q1 o1.frz.1 (F.fr f1)
theorem aX(h:LE K te pe):LS K fs (DR te) (bD pe):=fun fx A R H0 ρ σ H D D' hf r F q k1 k2 k3 k4=>h A ρ σ H _ _ r q fun v H1 p ρ1 q1 f1 o1=>k2 v p ρ1 σ H1 q1 (o1.h0 F.dm) (F.fr f1)
theorem dq(ht:LT K tt pt)(ha:LS K fs ta pa)(hb:LS K fs tb pb):LS K fs (Cy tt ta tb) (gX pt pa pb):=fun fx A R H0 ρ σ H D D' hf r F q k1 k2 k3 k4=>ht A ρ σ H _ _ r q fun c H1 ρ1 q1 f1 r1=>by
 cases c with
 | true=>exact ha fx A R H0 ρ1 σ H1 D D' hf r1 (F.fr f1) q1 k1 k2 k3 k4
 | false=>exact hb fx A R H0 ρ1 σ H1 D D' hf r1 (F.fr f1) q1 k1 k2 k3 k4
theorem aQ{g:TG}{pg:PTG}(h:LE K te pe)(hg:LG K fs g pg):LS K fs (Ar te g) (bx pe pg):=fun fx A R H0 ρ σ H D D' hf r F q k1 k2 k3 k4=>h A ρ σ H _ _ r q fun v H1 p ρ1 q1 f1 o1 =>
 hg fx A R H0 ρ1 σ H1 p v _ _ hf (F.fr f1) (o1.h0 F.dm) q1 k1
theorem jo(h:LS K fs ta pa):LS K fs (AZ ta) (kA pa):=fun fx A R H0 ρ σ H D D' hf r F q k1 k2 k3 k4=>by
 obtain⟨J,q1,q2⟩:=q;refine⟨fun σ' H'=>∃ρ',J ρ'/\Rel K A ρ' σ' H'/\dA fx R H0 ρ' σ' H',?_,fun σ' H' ⟨ρ',j,r',F'⟩=>k1 ρ' σ' H' (q2 ρ' j) r' F'⟩;exact h fx A R H0 ρ σ H _ _ hf r F q1 (fun ρ' σ' H' j r' F'=>⟨ρ',j,r',F'⟩) k2 k3 k4
end
def kB(K:PySem.W.Frag)(tl:TE):TI:=fun σ H R=>tl σ H fun x H1=>(∃k a xs,x=.ref a/\Sq k K H1 a xs/\R (Itk k K a) H1)\/∃l,x=.str (S l)/\R (Its (cD l)) H1
section
variable {X:Cx}{tg:Expr}
theorem yM{l:Expr}{tl:TE}(hl:PE X l tl):PI X tg l (kB X.K tl):=by
 intro pins s σ H R I h;refine thn (hl pins s σ H _ I h) fun v s1 ⟨x,H1,I1,r1,q1⟩=>?_
 have fin:∀b∈[s1.heap.objs.size],pO X pins H1 b:=fun b hb=>by
  have e:b=s1.heap.objs.size:=by simpa using hb
  subst e;exact I1.fpOk (le_refl _) (I1.hok.fresh (le_refl _))
 rcases q1 with ⟨k,a,xs,e,hq,q⟩|⟨l,e,q⟩
 .subst e;cases r1
  cases k with
  | false =>
   obtain⟨its,rv,p,hz⟩:=I1.list hq;refine wpAny_pyIter_list p.isList ?_;exact⟨s1.heap.objs.size,[s1.heap.objs.size],_,_,H1,rfl,I1.kept (t':=s1.toks) fun b o e=>Heap.get?_push_of_some _ e,sV a _,⟨_,Heap.get?_push_size _ rfl,rfl,rfl⟩,fin,q⟩
  | true =>
   obtain⟨its,rv,p,hz⟩:=I1.tuple hq;refine wpAny_pyIter_tuple (show s1.heap.IsTuple a its.toArray from p) ?_;exact⟨s1.heap.objs.size,[s1.heap.objs.size],_,_,H1,rfl,I1.kept (t':=s1.toks) fun b o e=>Heap.get?_push_of_some _ e,rJ a _,⟨_,Heap.get?_push_size _ rfl,rfl,rfl⟩,fin,q⟩
 .subst e;obtain⟨t,rfl⟩:=r1
  have hv:∀i v,i<(S l).cps.size->SignAt (S l) i v->∃x,(cD l)[i]?=some x/\dn x v:=fun i v _ ⟨c,u,hc,e⟩=>by
   subst e;have hc':l[i]?=some c:=by simpa [S] using hc
   exact⟨.str (S [c]),by unfold cD;rw [getElem?_map,hc'];rfl,u,rfl⟩
  have hsc:∀i v,SignAt (S l) i v->∀a,v≠.ref a:=fun i v ⟨c,u,hc,e⟩ a z=>by subst e;cases z
  have hn:(cD l).length=(S l).cps.size:=by rw [cH];simp [S]
  have hobj:∀ty i (h:Heap),h.IsStrIter s1.heap.objs.size ty (S l) t i->∃o,h.get? s1.heap.objs.size=some o/\∀v,o.data≠.cell v:=fun ty i h ⟨o,ho,_,hd⟩=>⟨o,ho,fun v z=>by rw [hd] at z;cases z⟩
  have hfr:∀ty i (h h':Heap),h.IsStrIter s1.heap.objs.size ty (S l) t i->(∀b∈[s1.heap.objs.size],∀o,h.get? b=some o->h'.get? b=some o)->h'.IsStrIter s1.heap.objs.size ty (S l) t i:=fun ty i h h' ⟨o,ho,r⟩ k=>⟨o,k _ (by simp) o ho,r⟩
  cases ha:(S l).cps.all (·<128)
  .refine wpAny_pyIter_wide ha ⟨s1.heap.objs.size,[s1.heap.objs.size],_,Its (cD l),H1,rfl,I1.kept (t':=s1.toks) fun b o e=>Heap.get?_push_of_some _ e,
    ko (fun A hA=>Walks.strWide hA _ (S l) t) hn hv hsc (hobj _) (hfr _) (fun A i s Q E st q=>wpAny_pyIter_striter_wide st q),⟨_,Heap.get?_push_size _ rfl,rfl,rfl⟩,fin,q⟩
  .refine wpAny_pyIter_ascii ha ⟨s1.heap.objs.size,[s1.heap.objs.size],_,Its (cD l),H1,rfl,I1.kept (t':=s1.toks) fun b o e=>Heap.get?_push_of_some _ e,
    ko (fun A hA=>Walks.strAscii hA _ (S l) t) hn hv hsc (hobj _) (hfr _) (fun A i s Q E st q=>wpAny_pyIter_striter_ascii st q),⟨_,Heap.get?_push_size _ rfl,rfl,rfl⟩,fin,q⟩
theorem cR(K:PySem.W.Frag)(e:X.K=K){l:Expr}{tl:TE}(hl:PE X l tl):PI X tg l (kB K tl):=by subst e;exact yM hl
end
abbrev PTI:=PSt->(Nat->(Nat->D)->PSt->Prop)->Prop
def Wlk(K:PySem.W.Frag)(O:Addr->Prop)(H:Hp)(J:It)(n:Nat)(it:Nat->D):Prop:=∀(O':Addr->Prop) (H':Hp),aO O H O' H'->(∀b,O' b->H' b≠none) ->
 (∀k,k<n->J.go k H'/\∀x H'',J.yld k H' x H''->Gr H' H''/\FV K O' H'' x (it k))/\J.stop n H'
def LI(K:PySem.W.Frag)(wi:TI)(pi:PTI):Prop:=∀(A:Addr->Prop) (ρ:PSt) (σ:St) (H:Hp) (Q:Nat->(Nat->D)->PSt->Prop) (Q':It->Hp->Prop),Rel K A ρ σ H->pi ρ Q ->
 (∀J H' n it ρ',Q n it ρ'->Fr ρ σ H ρ' H'->Rel K A ρ' σ H'->Wlk K (OO A ρ' σ) H' J n it->Q' J H')->wi σ H Q'
def itD(ds:List D)(k:Nat):D:=ds.getD k .non
theorem yN{ds:List D}{k:Nat}(h:k<ds.length):ds[k]?=some (itD ds k):=by unfold itD;rw [getD_eq_getElem?_getD,getElem?_eq_getElem h];rfl
theorem kC{ds:List D}{k:Nat}{d:D}(h:ds[k]?=some d):itD ds k=d:=by unfold itD;rw [getD_eq_getElem?_getD,h];rfl
def Di:D->Option (Nat×(Nat->D))
 | .lst ds=>some (ds.length,itD ds)
 | .tup ds=>some (ds.length,itD ds)
 | .scr ns=>some (ns.length,fun k=>.int (ns.getD k 0))
 | .str l=>some (l.length,fun k=>.str [l.getD k 0])
 | _=>none
def eS(pe:PTE):PTI:=fun ρ Q=>pe ρ fun p ρ1=>match Di p.d with
 | some (n,it)=>Q n it ρ1
 | none=>False
section
variable {K:PySem.W.Frag}{te:TE}{pe:PTE}{ta:TA}{pa:PTA}
theorem FV.row{O:Addr->Prop}{H:Hp}{v:V}{d:D}{n:Nat}{it:Nat->D}(h:FV K O H v d)(e:Di d=some (n,it)) :
  (∃k a xs,v=.ref a/\xs.length=n/\(∀O' H',aO O H O' H'->Sq k K H' a xs/\∀j x,xs[j]?=some x->FV K O' H' x (it j)))\/∃l,v=.str (S l)/\l.length=n/\(∀k,it k=.str [l.getD k 0]):=by
 cases h with
 | lst nn e0 f =>
  cases e;refine .inl ⟨false,_,_,rfl,f.length,fun O' H' k=>⟨SqL.of (k _ _ nn e0).2,fun j x hx=>?_⟩⟩;obtain⟨d,hd,fd⟩:=f.get hx;rw [kC hd];exact fd.keeps k
 | tup nn e0 f =>
  cases e;refine .inl ⟨true,_,_,rfl,f.length,fun O' H' k=>⟨SqT.of (k _ _ nn e0).2,fun j x hx=>?_⟩⟩;obtain⟨d,hd,fd⟩:=f.get hx;rw [kC hd];exact fd.keeps k
 | scr s =>
  cases e;refine .inl ⟨false,_,_,rfl,length_map _,fun O' H' k=>⟨(s.keeps k).sq,fun j x hx=>?_⟩⟩;obtain⟨z,hz,rfl⟩:=wb hx;show FV K O' H' (V.int z) (D.int (List.getD _ j 0));rw [getD_eq_getElem?_getD,hz];exact .int z
 | str l hl=>cases e;exact .inr ⟨l,rfl,rfl,fun _=>rfl⟩
 | non=>cases e
 | bl b=>cases e
 | int i=>cases e
 | ty n=>cases e
 | dic _ _ _ _=>cases e
 | obj _ _ _ _=>cases e
 | exc0 _ _=>cases e
 | exc1 _ _ _ _ _ _=>cases e
theorem cS(h:LE K te pe):LI K (kB K te) (eS pe):=fun A ρ σ H Q Q' R q k=>h A ρ σ H _ _ R q fun v H1 p ρ1 q1 f1 o1=>by
 obtain⟨R1,fv⟩:=o1.frz
 split at q1
 .rename_i n it e
  rcases fv.row e with ⟨b,a,xs,rfl,hl,hr⟩|⟨l,rfl,hl,hi⟩
  .refine .inl ⟨b,a,xs,rfl,(hr _ H1 (fun b o n h=>⟨n,h⟩)).1,k _ H1 n it ρ1 q1 f1 R1 fun O' H' kk dom=>?_⟩;obtain⟨sq,hx⟩:=hr O' H' kk
   cases b with
   | false =>
    refine⟨fun j hj=>⟨⟨xs,_,sq,getElem?_eq_getElem (by rw [hl];exact hj)⟩,fun x H'' ⟨e,y⟩=>?_⟩,⟨xs,sq,by rw [hl];exact le_refl _⟩⟩;subst e;exact⟨Gr.refl _,hx j x (y xs sq)⟩
   | true =>
    refine⟨fun j hj=>⟨⟨xs,_,sq,getElem?_eq_getElem (by rw [hl];exact hj)⟩,fun x H'' ⟨e,y⟩=>?_⟩,⟨xs,sq,by rw [hl];exact le_refl _⟩⟩;subst e;exact⟨Gr.refl _,hx j x (y xs sq)⟩
  .refine .inr ⟨l,rfl,k _ H1 n it ρ1 q1 f1 R1 fun O' H' kk dom=>?_⟩;refine⟨fun j hj=>⟨by show j<(cD l).length;rw [cH,hl];exact hj,fun x H'' ⟨e,y⟩=>?_⟩,by show (cD l).length=n;rw [cH,hl]⟩;subst e;obtain⟨c,hc,rfl⟩:=fm y;rw [hi,getD_eq_getElem?_getD,hc];exact⟨Gr.refl _,.str _ (by show 1<=1000000;decide)⟩
 .exact q1.elim
def zW(pa:PTA):PTI:=fun ρ Q=>pa ρ fun as ρ1=>match as with
 | [.v (.int j)]=>(-(2^60)<=j/\j<2^60)/\Q j.toNat (fun k=>.int (k:Int)) ρ1
 | _=>False
def Dj(pa:PTA):PTI:=fun ρ Q=>pa ρ fun as ρ1=>match as with
 | [.v (.int i),.v (.int j),.v (.int (-1))]=>(-(2^60)<=i/\i<2^60/\-(2^60)<=j/\j<2^60)/\Q (i - j).toNat (fun k=>.int (i - (k:Int))) ρ1
 | _=>False
theorem Dk{O:Addr->Prop}{H:Hp}{lo:Int}{n:Nat}{it:Nat->D}(h:∀k:Nat,it k=.int (lo+k)):Wlk K O H (Itr lo n) n it:=fun O' H' _ _ =>
 ⟨fun j hj=>⟨hj,fun x H'' ⟨e,y⟩=>by subst e y;rw [h];exact⟨Gr.refl _,.int _⟩⟩,le_refl _⟩
theorem Dl{O:Addr->Prop}{H:Hp}{lo:Int}{n:Nat}:Wlk K O H (Its (mO lo n)) n (fun k=>.int (lo - (k:Int))):=fun O' H' _ _ =>
 ⟨fun j hj=>⟨by show j<(mO lo n).length;rw [kq];exact hj,fun x H'' ⟨e,y⟩=>by subst e;rw [(tY y).2];exact⟨Gr.refl _,.int _⟩⟩,kq _ _⟩
theorem ut(h:LAs K ta pa):LI K (vN ta) (zW pa):=fun A ρ σ H Q Q' R q k=>h A ρ σ H _ _ R q fun vs H1 as ρ1 q1 f1 R1 o1=>by
 split at q1
 .rename_i j
  cases o1 with
  | cons a b =>
   cases b;cases a;exact⟨j,rfl,by omega,by omega,k _ H1 _ _ ρ1 q1.2 f1 R1 (Dk fun k=>by rw [Int.zero_add])⟩
 .exact q1.elim
theorem Bi(h:LAs K ta pa):LI K (AM ta) (Dj pa):=fun A ρ σ H Q Q' R q k=>h A ρ σ H _ _ R q fun vs H1 as ρ1 q1 f1 R1 o1=>by
 split at q1
 .rename_i i j
  cases o1 with
  | cons a b =>
   cases b with
   | cons c d =>
    cases d with
    | cons e f =>
     cases f;cases a;cases c;cases e;exact⟨i,j,rfl,q1.1,k _ H1 _ _ ρ1 q1.2 f1 R1 Dl⟩
 .exact q1.elim
def rowD:D->Option (List D)
 | .lst ds=>some ds
 | .tup ds=>some ds
 | .scr ns=>some (ns.map .int)
 | _=>none
theorem FV.rowD{O:Addr->Prop}{H:Hp}{v:V}{d:D}{ds:List D}(h:FV K O H v d)(e:L2.rowD d=some ds) :
  ∃k a xs,v=.ref a/\xs.length=ds.length/\(∀O' H',aO O H O' H'->Sq k K H' a xs/\FVs K O' H' xs ds):=by
 cases h with
 | lst nn e0 f=>cases e;exact⟨false,_,_,rfl,f.length,fun O' H' k=>⟨SqL.of (k _ _ nn e0).2,f.keeps k⟩⟩
 | tup nn e0 f=>cases e;exact⟨true,_,_,rfl,f.length,fun O' H' k=>⟨SqT.of (k _ _ nn e0).2,f.keeps k⟩⟩
 | scr s=>cases e;exact⟨false,_,_,rfl,by rw [length_map,length_map],fun O' H' k=>⟨(s.keeps k).sq,FVs.of_ints _⟩⟩
 | str l hl=>cases e
 | non=>cases e
 | bl b=>cases e
 | int i=>cases e
 | ty n=>cases e
 | dic _ _ _ _=>cases e
 | obj _ _ _ _=>cases e
 | exc0 _ _=>cases e
 | exc1 _ _ _ _ _ _=>cases e
def Dm(pa:PTA):PTI:=fun ρ Q=>pa ρ fun as ρ1=>match as with
 | [.v a,.v b]=>(match rowD a,rowD b with
  | some xs,some ys=>Q (min xs.length ys.length) (fun k=>.tup [itD xs k,itD ys k]) ρ1
  | _,_=>False)
 | _=>False
def xC(pa:PTA):PTI:=fun ρ Q=>pa ρ fun as ρ1=>match as with
 | [.v a]=>(match rowD a with
  | some xs=>Q xs.length (fun k=>.tup [.int (k:Int),itD xs k]) ρ1
  | _=>False)
 | _=>False
theorem Bj(h:LAs K ta pa):LI K (CW K ta) (Dm pa):=fun A ρ σ H Q Q' R q k=>h A ρ σ H _ _ R q fun vs H1 as ρ1 q1 f1 R1 o1=>by
 split at q1
 .rename_i da db
  cases o1 with
  | cons o1 o2 =>
   cases o2 with
   | cons o2 o3 =>
    cases o3
    split at q1
    .rename_i xs ys ex ey;obtain⟨b1,a1,us,rfl,l1,w1⟩:=FV.rowD (show FV K _ H1 _ da from o1) ex;obtain⟨b2,a2,ws,rfl,l2,w2⟩:=FV.rowD (show FV K _ H1 _ db from o2) ey;have t1:=w1 _ H1 (fun b o n h=>⟨n,h⟩);have t2:=w2 _ H1 (fun b o n h=>⟨n,h⟩);refine⟨b1,b2,a1,a2,rfl,⟨us,ws,t1.1,t2.1⟩,k _ H1 _ _ ρ1 q1 f1 R1 fun O' H' kk dom=>?_⟩;obtain⟨s1,g1⟩:=w1 O' H' kk;obtain⟨s2,g2⟩:=w2 O' H' kk;refine⟨fun j hj=>?_,⟨us,ws,s1,s2,by omega⟩⟩
     have h1:j<us.length:=by omega
     have h2:j<ws.length:=by omega
     refine⟨⟨us,ws,_,_,s1,s2,getElem?_eq_getElem h1,getElem?_eq_getElem h2⟩,fun x H'' ⟨T,u,w,hT,e,y1,y2,e2⟩=>?_⟩;subst e e2;obtain⟨d1,hd1,fd1⟩:=g1.get (y1 us s1);obtain⟨d2,hd2,fd2⟩:=g2.get (y2 ws s2);have e1:itD xs j=d1:=by unfold itD;rw [getD_eq_getElem?_getD,hd1];rfl
     have e2:itD ys j=d2:=by unfold itD;rw [getD_eq_getElem?_getD,hd2];rfl
     rw [e1,e2];have kk2:aO O' H' O' (upd H' T (.tup [u,w])):=fun b o n e=>⟨n,by rw [ap (aH e hT)];exact e⟩
     exact⟨Gr.new hT,.tup (fun z=>dom T z hT) ay (.cons (fd1.keeps kk2) (.cons (fd2.keeps kk2) .nil))⟩
    .exact q1.elim
 .exact q1.elim
theorem yO(h:LAs K ta pa):LI K (yF K ta) (xC pa):=fun A ρ σ H Q Q' R q k=>h A ρ σ H _ _ R q fun vs H1 as ρ1 q1 f1 R1 o1=>by
 split at q1
 .rename_i da
  cases o1 with
  | cons o1 o3 =>
   cases o3
   split at q1
   .rename_i xs ex;obtain⟨b1,a1,us,rfl,l1,w1⟩:=FV.rowD (show FV K _ H1 _ da from o1) ex;have t1:=w1 _ H1 (fun b o n h=>⟨n,h⟩);refine⟨b1,a1,rfl,⟨us,t1.1⟩,k _ H1 _ _ ρ1 q1 f1 R1 fun O' H' kk dom=>?_⟩;obtain⟨s1,g1⟩:=w1 O' H' kk;refine⟨fun j hj=>?_,⟨us,s1,by omega⟩⟩;have h1:j<us.length:=by omega
    refine⟨⟨us,_,s1,getElem?_eq_getElem h1⟩,fun x H'' ⟨T,u,hT,e,y1,e2⟩=>?_⟩;subst e e2;obtain⟨d1,hd1,fd1⟩:=g1.get (y1 us s1);have e1:itD xs j=d1:=by unfold itD;rw [getD_eq_getElem?_getD,hd1];rfl
    rw [e1];have kk2:aO O' H' O' (upd H' T (.tup [.int (j:Int),u])):=fun b o n e=>⟨n,by rw [ap (aH e hT)];exact e⟩
    exact⟨Gr.new hT,.tup (fun z=>dom T z hT) ay (.cons (.int _) (.cons (fd1.keeps kk2) .nil))⟩
   .exact q1.elim
 .exact q1.elim
end
def iP(pi:PTI)(g:PTG)(pb:PTS):PTS:=fun D ρ=>pi ρ fun n it ρ1=>∃I:Nat->PSt->Prop,I 0 ρ1/\(∀k ρ d,k<n->d=it k->I k ρ->g (.dat d) ρ fun ρ2=>pb { D with nx:=I (k+1),ct:=I (k+1),bk:=D.nx } ρ2)/\∀ρ,I n ρ->D.nx ρ
section
variable {K:PySem.W.Frag}{fs:List Nat}{wi:TI}{pi:PTI}{g:TG}{pg:PTG}{tb:TS}{pb:PTS}{tt:TT}{pt:PTT}
theorem gL(hi:LI K wi pi)(hg:LGd K fs g pg)(hb:LS K fs tb pb):LS K fs (CA wi g tb) (iP pi pg pb):=fun fx A R H0 ρ σ H D D' hf r F q k1 k2 k3 k4=>hi A ρ σ H _ _ r q fun J H1 n it ρ1 q1 f1 r1 W=>by
 obtain⟨I,i0,turn,after⟩:=q1;have F1:=F.fr f1;refine⟨fun i m σ' H'=>i+m=n/\∃ρ',I i ρ'/\Rel K A ρ' σ' H'/\dA fx (Wr ρ1 σ) H1 ρ' σ' H',⟨n,Nat.zero_add n,ρ1,i0,r1,dA.start F1.fx⟩,fun i m σ' H' ⟨him,ρ',iv,r',F'⟩=>?_⟩;obtain⟨go,stop⟩:=W _ H' F'.keeps r'.dom2
 by_cases hk:i<n
 .obtain⟨g1,g2⟩:=go i hk;refine .inr ⟨g1,fun σ'' H''=>∃ρ'',I (i+1) ρ''/\Rel K A ρ'' σ'' H''/\dA fx (Wr ρ1 σ) H1 ρ'' σ'' H'',fun σ'' H'' z=>⟨m - 1,by omega,by omega,z⟩,fun x H'' y=>?_⟩;obtain⟨gr,fv⟩:=g2 x H'' y;refine hg fx A (Wr ρ1 σ) H1 ρ' σ' H'' _ x _ _ hf (F'.fr gr.fr) (r'.gr gr) fv (turn i ρ' _ hk rfl iv) fun ρ2 σ2 q2 r2 F2 _=>?_;refine hb fx A (Wr ρ1 σ) H1 ρ2 σ2 H'' _ _ hf r2 F2 q2 (fun ρ3 σ3 H3 q3 r3 F3=>⟨ρ3,q3,r3,F3⟩) (fun v p ρ3 σ3 H3 q3 o3 F3=>k2 v p ρ3 σ3 H3 q3 (o3.h0 F1.dm) (F1.trans F3 F3.fx)) (fun ρ3 σ3 H3 q3 r3 F3=>k1 ρ3 σ3 H3 q3 r3 (F1.trans F3 F3.fx)) (fun ρ3 σ3 H3 q3 r3 F3=>⟨ρ3,q3,r3,F3⟩)
 .have e:i=n:=by omega
  subst e;exact .inl ⟨stop,k1 ρ' σ' H' (after ρ' iv) r' (F1.trans F' F'.fx)⟩
end
def cm(ix:List (Option Nat))(ρ:PSt):PSt:=ix.map fun o=>match o with
 | none=>none
 | some j=>match ρ[j]? with
  | some v=>v
  | none=>none
def eU:List (Option Nat)->PSt->PSt->PSt
 | some j::ix,ρ,t::τ=>eU ix (ρ.set j t) τ
 | none::ix,ρ,_::τ=>eU ix ρ τ
 | _,ρ,_=>ρ
def xD:List (Option Nat)->Bool
 | []=>true
 | none::r=>xD r
 | some j::r=>!r.contains (some j) && xD r
theorem j7:∀(ix:List (Option Nat)) (ρ τ:PSt),(eU ix ρ τ).length=ρ.length
 | [],ρ,τ=>by unfold eU;rfl
 | some j::ix,ρ,t::τ=>by show (eU ix (ρ.set j t) τ).length=_;rw [j7 ix,length_set]
 | none::ix,ρ,t::τ=>by show (eU ix ρ τ).length=_;exact j7 ix ρ τ
 | some j::ix,ρ,[]=>by unfold eU;rfl
 | none::ix,ρ,[]=>by unfold eU;rfl
theorem iQ:∀(ix:List (Option Nat)) (ρ τ:PSt) (j:Nat),some j∉ix->(eU ix ρ τ)[j]?=ρ[j]?
 | [],ρ,τ,j,_=>by unfold eU;rfl
 | some i::ix,ρ,t::τ,j,h=>by
  show (eU ix (ρ.set i t) τ)[j]?=_;rw [iQ ix _ τ j (fun z=>h (mem_cons_of_mem _ z)),getElem?_set_ne (fun z=>h (by rw [z];exact mem_cons_self ..))]
 | none::ix,ρ,t::τ,j,h=>by show (eU ix ρ τ)[j]?=_;exact iQ ix ρ τ j fun z=>h (mem_cons_of_mem _ z)
 | some i::ix,ρ,[],j,_=>by unfold eU;rfl
 | none::ix,ρ,[],j,_=>by unfold eU;rfl
theorem mX:∀(ix:List (Option Nat)) (ρ τ:PSt) (j k:Nat),xD ix=true->ix[k]?=some (some j)->k<τ.length->j<ρ.length->(eU ix ρ τ)[j]?=τ[k]?
 | some i::ix,ρ,t::τ,j,k,h,e,hk,hj=>by
  have h:(!ix.contains (some i) && xD ix)=true:=h;rw [and_eq_true] at h;show (eU ix (ρ.set i t) τ)[j]?=_
  cases k with
  | zero =>
   have e:some (some i)=some (some j):=e;cases e
   have hn:some i∉ix:=fun z=>by
    have:=h.1;rw [contains_iff_mem.mpr z] at this;cases this
   rw [iQ ix _ τ i hn,getElem?_set_self hj];rfl
  | succ k =>
   have e:ix[k]?=some (some j):=by simpa using e
   rw [mX ix _ τ j k h.2 e (by simpa using hk) (by rw [length_set];exact hj)];simp
 | none::ix,ρ,t::τ,j,k,h,e,hk,hj=>by
  show (eU ix ρ τ)[j]?=_
  cases k with
  | zero=>cases e
  | succ k =>
   have e:ix[k]?=some (some j):=by simpa using e
   rw [mX ix _ τ j k h e (by simpa using hk) hj];simp
 | [],ρ,τ,j,k,h,e,hk,hj=>by simp at e
 | some i::ix,ρ,[],j,k,h,e,hk,hj=>absurd hk (not_lt_zero _)
 | none::ix,ρ,[],j,k,h,e,hk,hj=>absurd hk (not_lt_zero _)
theorem j8:∀{ix:List (Option Nat)}{k l j:Nat},xD ix=true->ix[k]?=some (some j)->ix[l]?=some (some j)->k=l
 | some i::ix,k,l,j,h,e1,e2=>by
  have h:(!ix.contains (some i) && xD ix)=true:=h;rw [and_eq_true] at h
  have no:∀m,ix[m]?≠some (some i):=fun m z=>by
   have:=h.1;rw [contains_iff_mem.mpr (mem_of_getElem? z)] at this;cases this
  cases k with
  | zero =>
   have e1:some (some i)=some (some j):=e1;cases e1
   cases l with
   | zero=>rfl
   | succ l=>exact absurd (by simpa using e2) (no l)
  | succ k =>
   cases l with
   | zero =>
    have e2:some (some i)=some (some j):=e2;cases e2;exact absurd (by simpa using e1) (no k)
   | succ l=>rw [j8 (k:=k) (l:=l) h.2 (by simpa using e1) (by simpa using e2)]
 | none::ix,k,l,j,h,e1,e2=>by
  cases k with
  | zero=>cases e1
  | succ k =>
   cases l with
   | zero=>cases e2
   | succ l=>rw [j8 (ix:=ix) (k:=k) (l:=l) (j:=j) h (by simpa using e1) (by simpa using e2)]
 | [],k,l,j,h,e1,e2=>by simp at e1
theorem cT{ix:List (Option Nat)}{ρ:PSt}{k:Nat}{p:PV}(h:(cm ix ρ)[k]?=some (some p)):∃j,ix[k]?=some (some j)/\ρ[j]?=some (some p):=by
 unfold cm at h;rw [getElem?_map] at h
 cases e:ix[k]? with
 | none=>rw [e] at h;cases h
 | some o =>
  rw [e] at h
  cases o with
  | none=>cases h
  | some j =>
   refine⟨j,rfl,?_⟩;have h:some (match ρ[j]? with|some v=>v|none=>none)=some (some p):=h
   cases e2:ρ[j]? with
   | none=>rw [e2] at h;cases h
   | some v=>rw [e2] at h;exact h
theorem cY{ix:List (Option Nat)}{σ:St}{k j:Nat}{v:V}(h:ix[k]?=some (some j))(e:σ[j]?=some (some v)):(oA ix σ)[k]?=some (some v):=by
 unfold oA;rw [getElem?_map,h];show some (match σ[j]? with|some v=>v|none=>none)=some (some v);rw [e]
theorem Rel.amb{K:PySem.W.Frag}{A:Addr->Prop}{ρ:PSt}{σ:St}{H:Hp}{a:Addr}{o:HO}(R:Rel K A ρ σ H)(ha:A a):Rel K A ρ σ (upd H a o):=by
 have k:aO (OO A ρ σ) H (OO A ρ σ) (upd H a o):=fun b u n e=>⟨n,by rw [ap (fun z=>n (by rw [z];exact .inl ha))];exact e⟩
 refine⟨R.len,fun i q e=>?_,R.dj,fun b z=>?_,R.sep⟩
 .obtain⟨v,s,r⟩:=R.get i q e;refine⟨v,s,r.keeps k fun ow b eb=>?_⟩;rw [ap];intro z;subst z eb;exact R.sep b ha ⟨i,q,e,ow,s⟩
 .by_cases z':b=a
  .rw [z',ay];exact nofun
  .rw [ap z'];exact R.dom b z
def Bk(ix:List (Option Nat))(ρ:PSt):Bool:=ix.all fun o=>match o with|none=>true|some j=>(match ρ[j]? with|some (some _)=>true|_=>false)
structure mY (ix:List (Option Nat)) (ρ1:PSt) (n:Nat) (it:Nat->D) (g:PTG) (pt:PTT) (pe:PTE) (Q:PKt):Prop where
 ex:∃I:Nat->List D->PSt->Prop,I 0 [] (cm ix ρ1) /\
  (∀k ys τ d,k<n->d=it k->I k ys τ->g (.dat d) τ fun τ2=>pt τ2 fun ok τ3=>ic ok (pe τ3 fun p τ4=>I (k+1) (ys++[p.d]) τ4) (I (k+1) ys τ3))/\∀ys τ,I n ys τ->Q (.own ys) (eU ix ρ1 τ)
def gD(ix:List (Option Nat))(pi:PTI)(g:PTG)(pt:PTT)(pe:PTE):PTE:=fun ρ Q=>pi ρ fun n it ρ1=>Bk ix ρ1=true/\n<=1000000/\mY ix ρ1 n it g pt pe Q
def oK:PTT:=fun ρ Q=>Q true ρ
theorem fu{K:PySem.W.Frag}:LT K nU oK:=fun A ρ σ H Q Q' R q k=>k true H ρ q (Fr.refl _ _ _) R
def uu(ix:List (Option Nat)):List Nat:=(List.range ix.length).filter fun k=>(ix.getD k none).isSome
theorem cF{K:PySem.W.Frag}{ix:List (Option Nat)}{wi:TI}{pi:PTI}{g:TG}{pg:PTG}{tts:TT}{pt:PTT}{te:TE}{pe:PTE}(hix:xD ix=true)(hi:LI K wi pi)(hg:∀fs:List Nat,(∀k∈fs,k∈uu ix)->LGd K fs g pg)(ht:LT K tts pt)(he:LE K te pe) :
  LE K (rZ ix wi g tts te) (gD ix pi pg pt pe):=fun A ρ σ H Q Q' R q k=>hi A ρ σ H _ _ R q fun J H1 n it ρ1 q1 f1 R1 W D hD=>by
 obtain⟨hcap,hn,⟨I,i0,turn,after⟩⟩:=q1
 let τρ0:=cm ix ρ1
 let τσ0:=oA ix σ
 let Ai:Addr->Prop:=fun b=>A b\/b=D\/(Wr ρ1 σ b/\¬ Wr τρ0 τσ0 b)
 let H0':=upd H1 D (.lst [])
 have wsub:∀b,Wr τρ0 τσ0 b->Wr ρ1 σ b:=fun b ⟨m,p,e,o,s⟩=>by
  obtain⟨j,h1,h2⟩:=cT e;obtain⟨v,hv,_⟩:=R1.get j p h2;have:=cY h1 hv;rw [s] at this;cases this;exact⟨j,p,h2,o,hv⟩
 have nD:¬ Wr ρ1 σ D:=fun z=>R1.wr z hD
 have oosub:∀b,OO Ai τρ0 τσ0 b->OO A ρ1 σ b\/b=D:=fun b z=>by
  rcases z with (z|z|z)|z
  .exact .inl (.inl z)
  .exact .inr z
  .exact .inl (.inr z.1)
  .exact .inl (.inr (wsub b z))
 have kD:aO (OO A ρ1 σ) H1 (OO Ai τρ0 τσ0) H0':=fun b o nn e=>by
  refine⟨fun z=>?_,?_⟩
  .rcases oosub b z with z|z
   .exact nn z
   .rw [z,hD] at e;cases e
  .rw [show H0' b=H1 b from ap (aH e hD)];exact e
 have Ri:Rel K Ai τρ0 τσ0 H0':=by
  refine⟨by show (cm ix ρ1).length=(oA ix σ).length;unfold cm oA;rw [length_map,length_map],fun m p e=>?_,fun m l p q v e1 e2 o1 o2 s1 s2=>?_,fun b z=>?_,fun b z w=>?_⟩
  .obtain⟨j,h1,h2⟩:=cT e;obtain⟨v,hv,r⟩:=R1.get j p h2;refine⟨v,cY h1 hv,r.keeps kD fun ow a ea=>?_⟩;subst ea;exact ap (fun z=>nD (by rw [<- z];exact⟨j,p,h2,ow,hv⟩))
  .obtain⟨j,h1,h2⟩:=cT e1;obtain⟨j',h3,h4⟩:=cT e2;obtain⟨v1,hv1,_⟩:=R1.get j p h2;obtain⟨v2,hv2,_⟩:=R1.get j' q h4;have t1:=cY h1 hv1;have t2:=cY h3 hv2;rw [s1] at t1;rw [s2] at t2;cases t1;cases t2;have:=R1.dj j j' p q _ h2 h4 o1 o2 hv1 hv2;subst this;exact j8 hix h1 h3
  .rcases z with z|z|z
   .intro e
    by_cases zz:b=D
    .exact R1.dom b z (by rw [zz];exact hD)
    .rw [show H0' b=H1 b from ap zz] at e;exact R1.dom b z e
   .rw [z];show upd H1 D _ D≠none;rw [ay];exact nofun
   .intro e;rw [show H0' b=H1 b from ap (fun zz=>nD (by rw [<- zz];exact z.1))] at e;exact R1.wr z.1 e
  .rcases z with z|z|z
   .exact R1.sep b z (wsub b w)
   .rw [z] at w;exact nD (wsub D w)
   .exact z.2 w
 let fxi:List (Nat×V):=(uu ix).filterMap fun m=>match (τσ0[m]?) with|some (some v)=>some (m,v)|_=>none
 have hfx:∀p∈fxi,τσ0[p.1]?=some (some p.2):=fun p hp=>by
  obtain⟨m,hm,e⟩:=mem_filterMap.mp hp
  split at e
  .rename_i v ev;cases e;exact ev
  .cases e
 have hfs:∀m∈fxi.map Prod.fst,m∈uu ix:=fun m hm=>by
  obtain⟨p,hp,rfl⟩:=mem_map.mp hm;obtain⟨m',hm',e⟩:=mem_filterMap.mp hp
  split at e
  .cases e;exact hm'
  .cases e
 have hgi:=hg (fxi.map Prod.fst) hfs
 have fxget:∀(m j:Nat) (v:V),ix[m]?=some (some j)->σ[j]?=some (some v)->(m,v)∈fxi:=fun m j v h1 h2=>by
  refine mem_filterMap.mpr ⟨m,?_,?_⟩
  .unfold uu;refine mem_filter.mpr ⟨mem_range.mpr (List.getElem?_eq_some_iff.mp h1).1,?_⟩;rw [getD_eq_getElem?_getD,h1];rfl
  .show (match (oA ix σ)[m]? with|some (some v)=>some (m,v)|_=>none)=_;rw [cY h1 h2]
 let Rr:Addr->Prop:=fun b=>Wr τρ0 τσ0 b\/b=D
 have hRr:∀b,Rr b->OO Ai τρ0 τσ0 b:=fun b z=>z.elim (fun z=>.inr z) (fun z=>.inl (.inr (.inl z)));have F0:dA fxi Rr H0' τρ0 τσ0 H0':=⟨fun _ _ _ h=>h,fun _ h=>h,fun b w=>.inl (.inl w),hfx⟩
 refine⟨fun i m τ H2=>i+m=n/\∃ys τρ xs,I i ys τρ/\ys.length<=i/\Rel K Ai τρ τ H2/\dA fxi Rr H0' τρ τ H2/\H2 D=some (.lst xs)/\FVs K (OO Ai τρ τ) H2 xs ys/\∀b,Wr τρ τ b->Wr τρ0 τσ0 b,
  ⟨n,Nat.zero_add n,[],τρ0,[],i0,le_refl _,Ri,F0,ay,.nil,fun _ h=>h⟩,fun i m τ H2 ⟨him,ys,τρ,xs,iv,hy,r2,F2,eD,fD,hw⟩=>?_⟩
 have kk:aO (OO A ρ1 σ) H1 (OO Ai τρ τ) H2:=fun b o nn e=>(F2.keepsR hRr) b o (kD b o nn e).1 (kD b o nn e).2;obtain⟨go,stop⟩:=W _ H2 kk r2.dom2
 by_cases hk:i<n
 .obtain⟨g1,g2⟩:=go i hk;refine .inr ⟨g1,fun x H3 y=>?_⟩;obtain⟨gr,fv⟩:=g2 x H3 y;have AiD:Ai D:=.inr (.inl rfl);refine hgi fxi Ai Rr H0' τρ τ H3 _ x _ _ rfl (F2.fr gr.fr) (r2.gr gr) fv (turn i ys τρ _ hk rfl iv) fun τρ2 τ2 q2 r3 F3 w3=>?_;refine ht Ai τρ2 τ2 H3 _ _ r3 q2 fun ok H5 τρ3 q3 f5 r5=>?_;have F5:=F3.fr f5;have fD5:FVs K (OO Ai τρ3 τ2) H5 xs ys:=((fD.keeps (gr.fr (ρ:=τρ) (σ:=τ)).keeps).keeps (aO.less fun b z=>z.imp id (w3 b))).keeps f5.keeps
  have eD5:H5 D=some (.lst xs):=f5.kp D _ (r3.sep D AiD) (gr D _ eD)
  cases ok with
  | true =>
   refine he Ai τρ3 τ2 H5 _ _ r5 q3 fun v H6 p τρ4 q4 f6 o6=>?_;obtain⟨r6,fv6⟩:=o6.frz;have F6:=F5.fr f6;have eD6:H6 D=some (.lst xs):=f6.kp D _ (r5.sep D AiD) eD5;have kw:aO (OO Ai τρ4 τ2) H6 (OO Ai τρ4 τ2) (upd H6 D (.lst (xs++[v]))):=fun b o nn e=>⟨nn,by rw [ap (fun z=>nn (by rw [z];exact .inl AiD))];exact e⟩
   refine⟨xs,eD6,?_,m - 1,by omega,by omega,ys++[p.d],τρ4,xs++[v],q4,by rw [length_append];show _+1<=_;omega,r6.amb AiD,⟨fun b o nn e=>?_,fun b z=>?_,F6.ow,F6.fx⟩,ay,((fD5.keeps f6.keeps).append (.cons fv6 .nil)).keeps kw,fun b z=>hw b (w3 b (f5.ow b (f6.ow b z)))⟩
   .have:xs.length=ys.length:=fD.length;exact lt_of_lt_of_le (by omega:xs.length<1000000) (sz _ (le_refl _))
   .rw [ap (fun z=>nn (.inr z))];exact F6.kp b o nn e
   .by_cases zz:b=D
    .rw [zz,ay];exact nofun
    .rw [ap zz];exact F6.dm b z
  | false=>exact⟨m - 1,by omega,by omega,ys,τρ3,xs,q3,by omega,r5,F5,eD5,fD5,fun b z=>hw b (w3 b (f5.ow b z))⟩
 .have e:i=n:=by omega
  subst e;refine .inl ⟨stop,?_⟩;have q':=after ys τρ iv
  have cap:∀(m j:Nat),ix[m]?=some (some j)->∃p v,ρ1[j]?=some (some p)/\σ[j]?=some (some v)/\τ[m]?=some (some v):=fun m j e=>by
   have h1:=all_eq_true.mp hcap _ (mem_of_getElem? e);have h1:(match ρ1[j]? with|some (some _)=>true|_=>false)=true:=h1
   split at h1
   .rename_i p ep;obtain⟨v,hv,_⟩:=R1.get j p ep;exact⟨p,v,ep,hv,F2.fx _ (fxget m j v e hv)⟩
   .cases h1
  have get':∀(j:Nat) (p:PV),(eU ix ρ1 τρ)[j]?=some (some p)->(∃m v,ix[m]?=some (some j)/\σ[j]?=some (some v)/\τ[m]?=some (some v)/\τρ[m]?=some (some p))\/(some j∉ix/\ρ1[j]?=some (some p)):=fun j p e=>by
   by_cases hj:some j∈ix
   .obtain⟨m,hm,em⟩:=getElem_of_mem hj;have em':ix[m]?=some (some j):=by rw [getElem?_eq_getElem hm,em]
    obtain⟨p0,v,h1,h2,h3⟩:=cap m j em';rw [mX ix ρ1 τρ j m hix em' (by rw [r2.len];exact (List.getElem?_eq_some_iff.mp h3).1) (List.getElem?_eq_some_iff.mp h1).1] at e;exact .inl ⟨m,v,em',h2,h3,e⟩
   .rw [iQ ix ρ1 τρ j hj] at e;exact .inr ⟨hj,e⟩
  have nocap:∀(j:Nat) (p:PV) (b:Addr),some j∉ix->ρ1[j]?=some (some p)->p.isOwn=true->σ[j]?=some (some (.ref b))->¬ Wr τρ0 τσ0 b:=fun j p b hj e o s ⟨m,q,e1,o1,s1⟩=>by
   obtain⟨j',h1,h2⟩:=cT e1;obtain⟨v,hv,_⟩:=R1.get j' q h2;have:=cY h1 hv;rw [s1] at this;cases this;have:=R1.dj j j' p q _ e h2 o o1 s hv;subst this;exact hj (mem_of_getElem? h1)
  have w':∀b,Wr (eU ix ρ1 τρ) σ b->Wr τρ τ b\/(Wr ρ1 σ b/\¬ Wr τρ0 τσ0 b):=fun b ⟨j,p,e,o,s⟩=>by
   rcases get' j p e with ⟨m,v,h1,h2,h3,h4⟩|⟨hj,h1⟩
   .rw [s] at h2;cases h2;exact .inl ⟨m,p,h4,o,h3⟩
   .exact .inr ⟨⟨j,p,h1,o,s⟩,nocap j p b hj h1 o s⟩
  have oo':∀b,OO (et A D) (eU ix ρ1 τρ) σ b->OO Ai τρ τ b:=fun b z=>by
   rcases z with (z|z)|z
   .exact .inl (.inl z)
   .exact .inl (.inr (.inl z))
   .rcases w' b z with z|z
    .exact .inr z
    .exact .inl (.inr (.inr z))
  have kp1:∀b o,¬ Wr τρ0 τσ0 b->b≠D->H1 b=some o->H2 b=some o:=fun b o n1 n2 e=>F2.kp b o (fun z=>z.elim n1 n2) (by rw [show H0' b=H1 b from ap n2];exact e);have k1:aO (OO A ρ1 σ) H1 (OO (et A D) (eU ix ρ1 τρ) σ) H2:=fun b o nn e=>⟨fun z=>(kk b o nn e).1 (oo' b z),(kk b o nn e).2⟩
  have AiD:Ai D:=.inr (.inl rfl)
  have R':Rel K (et A D) (eU ix ρ1 τρ) σ H2:=by
   refine⟨by rw [j7];exact R1.len,fun j p e=>?_,fun j l p q v e1 e2 o1 o2 s1 s2=>?_,fun b z=>?_,fun b z w=>?_⟩
   .rcases get' j p e with ⟨m,v,h1,h2,h3,h4⟩|⟨hj,h1⟩
    .obtain⟨v',hv',r⟩:=r2.get m p h4;rw [h3] at hv';cases hv';exact⟨v,h2,r.keeps (aO.less oo') fun _ _ _=>rfl⟩
    .obtain⟨v,hv,r⟩:=R1.get j p h1;refine⟨v,hv,r.keeps k1 fun ow a ea=>?_⟩;subst ea;obtain⟨a',u,e1,e2⟩:=r.ref ow;cases e1;rw [e2];exact kp1 a u (nocap j p a hj h1 ow hv) (fun z=>by rw [z,hD] at e2;cases e2) e2
   .rcases get' j p e1 with ⟨m,v1,h1,h2,h3,h4⟩|⟨hj,h1⟩
    .rw [s1] at h2;cases h2
     rcases get' l q e2 with ⟨m',v2,g1,g2,g3,g4⟩|⟨hl,g1⟩
     .rw [s2] at g2;cases g2;have:=r2.dj m m' p q _ h4 g4 o1 o2 h3 g3;subst this;rw [h1] at g1;cases g1;rfl
     .exfalso;obtain⟨v',hv',r⟩:=r2.get m p h4;rw [h3] at hv';cases hv';obtain⟨a,u,ea,_⟩:=r.ref o1;subst ea;exact nocap l q a hl g1 o2 s2 (hw a ⟨m,p,h4,o1,h3⟩)
    .rcases get' l q e2 with ⟨m',v2,g1,g2,g3,g4⟩|⟨hl,g1⟩
     .rw [s2] at g2;cases g2;exfalso;obtain⟨v',hv',r⟩:=r2.get m' q g4;rw [g3] at hv';cases hv';obtain⟨a,u,ea,_⟩:=r.ref o2;subst ea;exact nocap j p a hj h1 o1 s1 (hw a ⟨m',q,g4,o2,g3⟩)
     .exact R1.dj j l p q v h1 g1 o1 o2 s1 s2
   .rcases z with z|z
    .exact r2.dom b (.inl z)
    .rw [z,eD];exact nofun
   .rcases w' b w with w|w
    .rcases z with z|z
     .exact r2.sep b (.inl z) w
     .rw [z] at w;exact r2.sep D AiD w
    .rcases z with z|z
     .exact R1.sep b z w.1
     .rw [z] at w;exact nD w.1
  have f2:Fr ρ1 σ H1 (eU ix ρ1 τρ) H2:=by
   refine⟨fun b o nn e=>kp1 b o (fun z=>nn (wsub b z)) (fun z=>by rw [z,hD] at e;cases e) e,fun b z=>F2.dm b ?_,fun b z=>?_⟩
   .intro e
    by_cases zz:b=D
    .exact z (by rw [zz];exact hD)
    .rw [show H0' b=H1 b from ap zz] at e;exact z e
   .rcases w' b z with z|z
    .exact wsub b (hw b z)
    .exact z.1
  have hD0:H D=none:=by
   cases e:H D with
   | none=>rfl
   | some o=>exact absurd hD (f1.dm D (by rw [e];exact nofun))
  exact k _ H2 (.own ys) _ q' (f1.trans f2) ⟨D,xs,rfl,fun z=>R1.dom D z hD,hD0,eD,R',fD.keeps (aO.less oo')⟩
section
variable {K:PySem.W.Frag}{A A':Addr->Prop}{ρ:PSt}{σ:St}{H H':Hp}
theorem Rel.step(R:Rel K A ρ σ H){i:Nat}{p q:PV}{a:Addr}(e:ρ[i]?=some (some p))(ow:p.isOwn=true)(ow':q.isOwn=true)(es:σ[i]?=some (some (.ref a)))
  (kp:∀b o,b≠a->H b=some o->H' b=some o) (ha:H' a≠none) (h1:∀b,A b->A' b) (h2:∀b,A' b->A b\/H b=none) (dom':∀b,A' b->H' b≠none)
  (new:RS K (OO A' ρ σ) H' q (.ref a)):Rel K A' (ρ.set i (some q)) σ H'/\Fr ρ σ H (ρ.set i (some q)) H':=by
 have hi:i<ρ.length:=(List.getElem?_eq_some_iff.mp e).1;have wa:Wr ρ σ a:=⟨i,p,e,ow,es⟩
 have weq:∀b,Wr (ρ.set i (some q)) σ b ↔ Wr ρ σ b:=fun b=>by
  constructor
  .rintro⟨j,r,e1,o1,s1⟩
   by_cases z:i=j
   .subst z;exact⟨i,p,e,ow,s1⟩
   .rw [getElem?_set_ne z] at e1;exact⟨j,r,e1,o1,s1⟩
  .rintro⟨j,r,e1,o1,s1⟩
   by_cases z:i=j
   .subst z;exact⟨i,q,getElem?_set_self hi,ow',s1⟩
   .exact⟨j,r,by rw [getElem?_set_ne z];exact e1,o1,s1⟩
 have oeq:OO A' (ρ.set i (some q)) σ=OO A' ρ σ:=funext fun b=>propext (or_congr Iff.rfl (weq b));have kp1:∀b u,¬ Wr ρ σ b->H b=some u->H' b=some u:=fun b u n h=>kp b u (fun z=>n (by rw [z];exact wa)) h
 have k:aO (OO A ρ σ) H (OO A' ρ σ) H':=fun b u n h=>by
  refine⟨fun z=>?_,kp1 b u (fun z=>n (.inr z)) h⟩
  rcases z with z|z
  .rcases h2 b z with z|z
   .exact n (.inl z)
   .rw [z] at h;cases h
  .exact n (.inr z)
 have dm:∀b,H b≠none->H' b≠none:=fun b n=>by
  by_cases z:b=a
  .rw [z];exact ha
  .cases eb:H b with
   | none=>exact absurd eb n
   | some o=>rw [kp b o z eb];exact nofun
 refine⟨⟨by rw [length_set];exact R.len,fun j r e1=>?_,fun j l p1 q1 v e1 e2 o1 o2 s1 s2=>?_,dom',fun b z w=>?_⟩,⟨kp1,dm,fun b w=>(weq b).mp w⟩⟩
 .rw [oeq]
  by_cases z:i=j
  .subst z;rw [getElem?_set_self hi] at e1;cases e1;exact⟨_,es,new⟩
  .rw [getElem?_set_ne z] at e1;obtain⟨v,s,rr⟩:=R.get j r e1;refine⟨v,s,rr.keeps k fun ow2 b eb=>?_⟩;obtain⟨b',u,e3,e4⟩:=rr.ref ow2;rw [eb] at e3;cases e3;rw [e4];refine kp b u (fun zz=>?_) e4;subst zz;rw [eb] at s;exact z (R.dj i j p r _ e e1 ow ow2 es s)
 .have ex:∀(m:Nat) (x:PV),(ρ.set i (some q))[m]?=some (some x)->x.isOwn=true->∃y:PV,ρ[m]?=some (some y)/\y.isOwn=true:=fun m x em ox=>by
   by_cases z:i=m
   .subst z;exact⟨p,e,ow⟩
   .rw [getElem?_set_ne z] at em;exact⟨x,em,ox⟩
  obtain⟨y1,g1,g2⟩:=ex j p1 e1 o1;obtain⟨y2,g3,g4⟩:=ex l q1 e2 o2;exact R.dj j l y1 y2 v g1 g3 g2 g4 s1 s2
 .rcases h2 b z with z|z
  .exact R.sep b z ((weq b).mp w)
  .exact R.wr ((weq b).mp w) z
theorem Rel.lstw(R:Rel K A ρ σ H){i:Nat}{ds es:List D}{a:Addr}{ys:List V}(e:ρ[i]?=some (some (.own ds)))(es':σ[i]?=some (some (.ref a)))(f:FVs K (OO A ρ σ) H ys es) :
  Rel K A (ρ.set i (some (.own es))) σ (upd H a (.lst ys))/\Fr ρ σ H (ρ.set i (some (.own es))) (upd H a (.lst ys)):=by
 have wa:OO A ρ σ a:=.inr ⟨i,_,e,rfl,es'⟩;exact R.write (q:=.own es) e rfl rfl es' ⟨a,ys,rfl,ay,f.keeps fun b u n h=>⟨n,by rw [ap (fun z=>n (by rw [z];exact wa))];exact h⟩⟩
theorem Rel.ownAt(R:Rel K A ρ σ H){i:Nat}{ds:List D}(e:ρ[i]?=some (some (.own ds))):∃a xs,σ[i]?=some (some (.ref a))/\H a=some (.lst xs)/\FVs K (OO A ρ σ) H xs ds:=by
 obtain⟨v,s,a,xs,rfl,g,f⟩:=R.get i _ e;exact⟨a,xs,s,g,f⟩
end
def zX(i:Nat)(pe:PTE):PTE:=fun ρ Q=>match ρ[i]? with
 | some (some (.own _))=>pe ρ fun p ρ1=>(match ρ1[i]? with
  | some (some (.own ds))=>ds.length<1000000/\Q (.dat .non) (ρ1.set i (some (.own (ds++[p.d]))))
  | _=>False)
 | _=>False
def rf(i:Nat)(pe pk:PTE):PTS:=fun D ρ=>pe ρ fun p ρ1=>(match ρ1[i]? with
 | some (some (.own _))=>pk ρ1 fun kp ρ2=>(match ρ2[i]?,kp with
  | some (some (.own ds)),.dat (.int k)=>∃j,ixN ds.length k=some j/\D.nx (ρ2.set i (some (.own (ds.set j p.d))))
  | _,_=>False)
 | _=>False)
section
variable {K:PySem.W.Frag}{te tk:TE}{pe pk:PTE}{fs:List Nat}
theorem rg{i:Nat}(h:LE K te pe):LE K (tBM K "list" tN (ck i) (bp te fE)) (zX i pe):=fun A ρ σ H Q Q' R q k=>by
 unfold zX at q
 split at q
 .rename_i ds0 e0;obtain⟨a0,xs0,s0,g0,f0⟩:=R.ownAt e0;refine⟨_,s0,.inl ⟨rfl,xs0,SqL.of g0⟩,h A ρ σ H _ _ R q fun v H1 p ρ1 q1 f1 o1=>?_⟩;obtain⟨R1,fv⟩:=o1.frz
  split at q1
  .rename_i ds e1;obtain⟨a,xs,s,g,f⟩:=R1.ownAt e1;rw [s0] at s;cases s;obtain⟨R2,f2⟩:=R1.lstw e1 s0 (f.append (.cons fv .nil));exact⟨a0,xs,v,rfl,rfl,g,lt_of_lt_of_le (by rw [f.length];exact q1.1) (sz _ (le_refl _)),k _ _ _ _ q1.2 (f1.trans f2) ⟨R2,.non⟩⟩
  .exact q1.elim
 .exact q.elim
theorem p6{i:Nat}(h:LE K te pe)(hk:LE K tk pk):LS K fs (Ar te (DU (ck i) tk AD)) (rf i pe pk):=fun fx A R H0 ρ σ H D D' hf r F q k1 k2 k3 k4=>h A ρ σ H _ _ r q fun v H1 p ρ1 q1 f1 o1=>by
 obtain⟨R1,fv⟩:=o1.frz
 split at q1
 .rename_i ds0 e0;obtain⟨a0,xs0,s0,g0,f0⟩:=R1.ownAt e0;refine⟨_,s0,hk A ρ1 σ H1 _ _ R1 q1 fun w H2 kp ρ2 q2 f2 o2=>?_⟩
  split at q2
  .rename_i ds j e2;obtain⟨n,hn,q2⟩:=q2;obtain⟨R2,fw⟩:=o2;cases fw;obtain⟨a,xs,s,g,f⟩:=R2.ownAt e2;rw [s0] at s;cases s;obtain⟨R3,f3⟩:=R2.lstw e2 s0 (FVs.set (fv.keeps f2.keeps) n f);exact⟨a0,xs,j,n,rfl,rfl,g,by rw [f.length];exact hn,k1 _ _ _ q2 R3 (((F.fr f1).fr f2).fr f3)⟩
  .exact q2.elim
 .exact q1.elim
end
def spP(K:PySem.W.Frag)(c:FN):Sp:=fun vs H Q _=>∃(O:Addr->Prop) (ds:List D) (Qc:PV->Prop),(∀b,O b->H b≠none)/\FVs K O H vs ds/\c ds Qc/\∀r,Qc r->∀v H',Gr H H'->pP K O H H' r v->Q v H'
def a9(c:FN)(pr:PTA):PTE:=fun ρ Q=>pr ρ fun as ρ1=>match avD as with
 | some ds=>c ds fun r=>Q r ρ1
 | none=>False
theorem iR{N:List Str}{vs:List V}{i:Nat}{v:V}(h:vs[i]?=some v):(start N vs)[i]?=some (some v):=by
 unfold start;rw [getElem?_append_left (by rw [length_map];exact (List.getElem?_eq_some_iff.mp h).1),getElem?_map,h];rfl
def di(n:Nat)(ps:List PV):PSt:=ps.map some++List.replicate (n - ps.length) none
theorem dr{n:Nat}{ps:List PV}{i:Nat}{p:PV}(h:(di n ps)[i]?=some (some p)):ps[i]?=some p:=by
 unfold di at h
 by_cases hi:i<ps.length
 .rw [getElem?_append_left (by rw [length_map];exact hi),getElem?_map] at h
  cases e:ps[i]? with
  | none=>rw [e] at h;cases h
  | some q=>rw [e] at h;cases h;rfl
 .rw [getElem?_append_right (by rw [length_map];omega)] at h;have:=mem_of_getElem? h;rw [mem_replicate] at this;cases this.2
section
variable {K:PySem.W.Frag}{tr:TA}{pr:PTA}{ts:TS}{ps:PTS}
theorem aB{c:FN}(h:LAs K tr pr):LE K (fi (spP K c) [] E0 tr) (a9 c pr):=fun A ρ σ H Q Q' R q k=>h A ρ σ H _ _ R q fun vs H1 as ρ1 q1 f1 R1 o1=>by
 split at q1
 .rename_i ds e;rw [append_nil];exact⟨OO A ρ1 σ,ds,_,R1.dom2,o1.avD e,q1,fun r qr v H' g ov=>k v H' r ρ1 qr (f1.trans g.fr) ((ov.out R1 g).h0 f1.dm)⟩
 .exact q1.elim
theorem Out.outV{O:Addr->Prop}{ρ:PSt}{σ:St}{H H':Hp}{p:PV}{v:V}(h:Out K O ρ σ H H' p v):pP K O H H' p v:=by
 cases p with
 | dat d=>exact h.2.keeps (aO.less fun b z=>.inl z)
 | own ds =>
  obtain⟨a,xs,e1,na,e2,e3,R,f⟩:=h;exact⟨a,xs,e1,e2,e3,f.keeps (aO.less fun b z=>.inl z)⟩
 | ins c ns ds =>
  obtain⟨a,dx,fs,e1,na,e2,e3,m,R,f⟩:=h;exact⟨a,dx,fs,e1,e2,e3,m,f.keeps (aO.less fun b z=>.inl z)⟩
theorem fnP{c:FN}{N:List Str}(hl:LS K [] ts ps)(hn:∀ds Q,c ds Q->ds.length<=N.length)(hc:∀ds Q,c ds Q->ps { nx:=fun _=>Q (.dat .non),rt:=fun p _=>Q p } (di N.length (ds.map .dat)))
  {vs:List V}{H:Hp}{Q:VK}{E:XK} (h:spP K c vs H Q E):ts { nx:=fun _ H'=>Q .non H',rt:=Q } (start N vs) H:=by
 obtain⟨O,ds,Qc,dom,fv,hq,k⟩:=h
 have nw:∀(ρ:PSt) (b:Addr),ρ=di N.length (ds.map .dat)->¬ Wr ρ (start N vs) b:=fun ρ b e ⟨i,p,e1,o1,s1⟩=>by
  rw [e] at e1;have:=dr e1;rw [getElem?_map] at this
  cases e2:ds[i]? with
  | none=>rw [e2] at this;cases this
  | some d=>rw [e2] at this;cases this;cases o1
 have lenv:=fv.length;have hle:=hn ds Qc hq
 have R0:Rel K O (di N.length (ds.map .dat)) (start N vs) H:=by
  refine⟨?_,fun i p e=>?_,fun i j p q v e1 e2 o1 o2 s1 s2=>?_,dom,fun b _ w=>nw _ b rfl w⟩
  .unfold di start;rw [length_append,length_append,length_map,length_map,length_map,length_replicate,length_replicate,lenv]
  .have:=dr e;rw [getElem?_map] at this
   cases e2:ds[i]? with
   | none=>rw [e2] at this;cases this
   | some d =>
    rw [e2] at this;cases this;obtain⟨v,hv,f⟩:=fv.getD e2;exact⟨v,iR hv,f.keeps (aO.less fun b z=>z.elim id fun w=>absurd w (nw _ b rfl))⟩
  .have:=dr e1;rw [getElem?_map] at this
   cases e3:ds[i]? with
   | none=>rw [e3] at this;cases this
   | some d=>rw [e3] at this;cases this;cases o1
 refine hl [] O (fun _=>False) H _ _ H _ _ rfl R0 ⟨fun _ _ _ h=>h,fun _ h=>h,fun b w=>absurd w (nw _ b rfl),fun p hp=>nomatch hp⟩ (hc ds Qc hq) (fun ρ' σ' H' q r F=>?_) (fun v p ρ' σ' H' q o F=>?_) (fun _ _ _ z=>z.elim) (fun _ _ _ z=>z.elim)
 .exact k _ q .non H' (fun b o e=>F.kp b o id e) .non
 .exact k _ q v H' (fun b o e=>F.kp b o id e) o.outV
abbrev FR:=PV->List D->(PV->PV->Prop)->Prop
def spR(K:PySem.W.Frag)(c:FR):Sp:=fun vs H Q _=>∃(A:Addr->Prop) (a:Addr) (p:PV) (ws:List V) (ds:List D) (Qc:PV->PV->Prop),vs=.ref a::ws/\p.isOwn=true/\(∀b,A b->H b≠none)/\¬ A a/\RS K (et A a) H p (.ref a)/\FVs K (et A a) H ws ds/\c p ds Qc /\
 ∀r p',Qc r p'->p'.isOwn=true->∀v H',(∀b o,b≠a->H b=some o->H' b=some o)->H' a≠none->RS K (et A a) H' p' (.ref a)->pP K (et A a) H H' r v->(∀a',v=.ref a'->r.isOwn=true->RS K (et (et A a) a') H' p' (.ref a))->Q v H'
def bP(c:FR)(i:Nat)(pr:PTA):PTE:=fun ρ Q=>match ρ[i]? with
 | some (some _)=>pr ρ fun as ρ1=>(match ρ1[i]?,avD as with
  | some (some p),some ds=>p.isOwn=true/\c p ds fun r p'=>Q r (ρ1.set i (some p'))
  | _,_=>False)
 | _=>False
theorem aZ{c:FR}{i:Nat}(h:LAs K tr pr):LE K (fi (spR K c) [] E0 (bp (ck i) tr)) (bP c i pr):=fun A ρ σ H Q Q' R q k=>by
 unfold bP at q
 split at q
 .rename_i p0 e0;obtain⟨v0,s0,_⟩:=R.get i p0 e0;refine⟨v0,s0,h A ρ σ H _ _ R q fun vs H1 as ρ1 q1 f1 R1 o1=>?_⟩
  split at q1
  .rename_i p ds e1 ed;obtain⟨ow,q1⟩:=q1;obtain⟨v1,s1,rs⟩:=R1.get i p e1;rw [s0] at s1;cases s1;obtain⟨a,u,rfl,ea⟩:=rs.ref ow;rw [append_nil];have wa:Wr ρ1 σ a:=⟨i,p,e1,ow,s0⟩
   have oeq:et (fun b=>(OO A ρ1 σ b)/\b≠a) a=OO A ρ1 σ:=funext fun b=>propext ⟨fun z=>z.elim (fun z=>z.1) (fun z=>by rw [z];exact .inr wa),fun z=>by
    by_cases e:b=a
    .exact .inr e
    .exact .inl ⟨z,e⟩⟩
   refine⟨fun b=>(OO A ρ1 σ b)/\b≠a,a,p,vs,ds,_,rfl,ow,fun b z=>R1.dom2 b z.1,fun z=>z.2 rfl,by rw [oeq];exact rs,by rw [oeq];exact o1.avD ed,q1,fun r p' qr ow' v H' kp ha rs' ov hx=>?_⟩;rw [oeq] at rs' ov hx
   have domA:∀b,A b->H' b≠none:=fun b z=>by
    have:b≠a:=fun e=>R1.sep b z (by rw [e];exact wa)
    cases eb:H1 b with
    | none=>exact absurd eb (R1.dom b z)
    | some o=>rw [kp b o this eb];exact nofun
   cases r with
   | dat d =>
    obtain⟨R2,f2⟩:=R1.step (A':=A) e1 ow ow' s0 kp ha (fun _ h=>h) (fun _ h=>.inl h) domA rs';exact k v H' _ _ qr (f1.trans f2) ⟨R2,FV.keeps (aO.less fun b z=>z.imp id (f2.ow b)) ov⟩
   | own es =>
    obtain⟨a',xs,rfl,n1,e2,f⟩:=ov;have hx:=hx a' rfl rfl;have na:a'≠a:=fun e=>by rw [e,ea] at n1;cases n1
    have oo2:∀b,OO (et A a') ρ1 σ b ↔ et (OO A ρ1 σ) a' b:=fun b=>⟨fun z=>by
     rcases z with (z|z)|z
     .exact .inl (.inl z)
     .exact .inr z
     .exact .inl (.inr z),fun z=>by
     rcases z with (z|z)|z
     .exact .inl (.inl z)
     .exact .inr z
     .exact .inl (.inr z)⟩
    have oo2':OO (et A a') ρ1 σ=et (OO A ρ1 σ) a':=funext fun b=>propext (oo2 b)
    obtain⟨R2,f2⟩:=R1.step (A':=et A a') e1 ow ow' s0 kp ha (fun _ h=>.inl h) (fun b z=>z.imp id fun z=>by rw [z];exact n1) (fun b z=>z.elim (domA b) fun z=>by rw [z,e2];exact nofun) (by rw [oo2'];exact hx)
    .refine k _ H' (.own es) _ qr (f1.trans f2) ⟨a',xs,rfl,fun z=>R1.dom a' z n1,?_,e2,R2,f.keeps (aO.less fun b z=>?_)⟩
     .cases eb:H a' with
      | none=>rfl
      | some o=>exact absurd n1 (f1.dm a' (by rw [eb];exact nofun))
     .rw [<- oo2'];exact z.imp id (f2.ow b)
   | ins c ns es =>
    obtain⟨a',dx,fs,rfl,n1,e2,m,f⟩:=ov;have hx:=hx a' rfl rfl
    have oo2':OO (et A a') ρ1 σ=et (OO A ρ1 σ) a':=funext fun b=>propext ⟨fun z=>by
     rcases z with (z|z)|z
     .exact .inl (.inl z)
     .exact .inr z
     .exact .inl (.inr z),fun z=>by
     rcases z with (z|z)|z
     .exact .inl (.inl z)
     .exact .inr z
     .exact .inl (.inr z)⟩
    obtain⟨R2,f2⟩:=R1.step (A':=et A a') e1 ow ow' s0 kp ha (fun _ h=>.inl h) (fun b z=>z.imp id fun z=>by rw [z];exact n1) (fun b z=>z.elim (domA b) fun z=>by rw [z,e2];exact nofun) (by rw [oo2'];exact hx)
    .refine k _ H' (.ins c ns es) _ qr (f1.trans f2) ⟨a',dx,fs,rfl,fun z=>R1.dom a' z n1,?_,e2,m,R2,f.keeps (aO.less fun b z=>?_)⟩
     .cases eb:H a' with
      | none=>rfl
      | some o=>exact absurd n1 (f1.dm a' (by rw [eb];exact nofun))
     .rw [<- oo2'];exact z.imp id (f2.ow b)
  .exact q1.elim
 .exact q.elim
def zY(Q:PV->PV->Prop)(r:PV)(ρ:PSt):Prop:=match ρ[0]? with
 | some (some p)=>p.isOwn=true/\Q r p
 | _=>False
theorem fnR{c:FR}{N:List Str}(hl:LS K [0] ts ps)(hn:∀p ds Q,c p ds Q->ds.length+1<=N.length)(hc:∀p ds Q,p.isOwn=true->c p ds Q->ps { nx:=zY Q (.dat .non),rt:=zY Q } (di N.length (p::ds.map .dat)))
  {vs:List V}{H:Hp}{Q:VK}{E:XK} (h:spR K c vs H Q E):ts { nx:=fun _ H'=>Q .non H',rt:=Q } (start N vs) H:=by
 obtain⟨A,a,p,ws,ds,Qc,rfl,ow,dom,na,rs,fv,hq,k⟩:=h;have s0:(start N (V.ref a::ws))[0]?=some (some (.ref a)):=iR rfl;have b0:(di N.length (p::ds.map .dat))[0]?=some (some p):=rfl
 have wr:∀b,Wr (di N.length (p::ds.map .dat)) (start N (.ref a::ws)) b->b=a:=fun b ⟨i,q,e1,o1,s1⟩=>by
  have:=dr e1
  cases i with
  | zero=>rw [s0] at s1;cases s1;rfl
  | succ i =>
   rw [getElem?_cons_succ,getElem?_map] at this
   cases e2:ds[i]? with
   | none=>rw [e2] at this;cases this
   | some d=>rw [e2] at this;cases this;cases o1
 have wa:Wr (di N.length (p::ds.map .dat)) (start N (.ref a::ws)) a:=⟨0,p,b0,ow,s0⟩
 have oeq:OO A (di N.length (p::ds.map .dat)) (start N (.ref a::ws))=et A a:=funext fun b=>propext ⟨fun z=>z.imp id (wr b),fun z=>z.imp id fun z=>by rw [z];exact wa⟩;have lenv:=fv.length;have hle:=hn p ds Qc hq
 have R0:Rel K A (di N.length (p::ds.map .dat)) (start N (.ref a::ws)) H:=by
  refine⟨?_,fun i q e=>?_,fun i j q1 q2 v e1 e2 o1 o2 s1 s2=>?_,dom,fun b z w=>?_⟩
  .unfold di start;simp only [length_append,length_map,length_replicate,length_cons,lenv]
  .have:=dr e;rw [oeq]
   cases i with
   | zero=>cases this;exact⟨_,s0,rs⟩
   | succ i =>
    rw [getElem?_cons_succ,getElem?_map] at this
    cases e2:ds[i]? with
    | none=>rw [e2] at this;cases this
    | some d =>
     rw [e2] at this;cases this;obtain⟨v,hv,f⟩:=fv.getD e2;exact⟨v,iR (by rw [getElem?_cons_succ];exact hv),f⟩
  .have own0:∀(i:Nat) (q:PV),(di N.length (p::ds.map .dat))[i]?=some (some q)->q.isOwn=true->i=0:=fun i q e o=>by
    have:=dr e
    cases i with
    | zero=>rfl
    | succ i =>
     rw [getElem?_cons_succ,getElem?_map] at this
     cases e2:ds[i]? with
     | none=>rw [e2] at this;cases this
     | some d=>rw [e2] at this;cases this;cases o
   rw [own0 i q1 e1 o1,own0 j q2 e2 o2]
  .rw [wr b w] at z;exact na z
 have fin:∀(v:V) (r:PV) (ρ':PSt) (σ':St) (H':Hp),zY Qc r ρ'->Out K A ρ' σ' H H' r v->dA [(0,.ref a)] (fun b=>b=a) H ρ' σ' H'->Q v H':=fun v r ρ' σ' H' q o F=>by
  unfold zY at q
  split at q
  .rename_i p' e';obtain⟨ow',q⟩:=q;have sa:=F.fx (0,.ref a) (mem_singleton.mpr rfl);have wa':Wr ρ' σ' a:=⟨0,p',e',ow',sa⟩
   have kpa:∀b o,b≠a->H b=some o->H' b=some o:=fun b o n e=>F.kp b o n e
   cases r with
   | dat d =>
    obtain⟨R1,f1⟩:=o;obtain⟨v1,s1,rs1⟩:=R1.get 0 p' e';rw [sa] at s1;cases s1;have less:∀b,et A a b->OO A ρ' σ' b:=fun b z=>z.imp id fun z=>by rw [z];exact wa'
    exact k _ p' q ow' v H' kpa (R1.wr wa') (rs1.keeps (aO.less less) fun _ _ _=>rfl) (f1.keeps (aO.less less)) (fun _ _ z=>nomatch z)
   | own es =>
    obtain⟨a',xs,rfl,n1,n2,e3,R1,f1⟩:=o;obtain⟨v1,s1,rs1⟩:=R1.get 0 p' e';rw [sa] at s1;cases s1
    have less:∀b,et (et A a) a' b->OO (et A a') ρ' σ' b:=fun b z=>by
     rcases z with (z|z)|z
     .exact .inl (.inl z)
     .exact .inr (by rw [z];exact wa')
     .exact .inl (.inr z)
    exact k _ p' q ow' _ H' kpa (R1.wr wa') (rs1.keeps (aO.less fun b z=>less b (.inl z)) fun _ _ _=>rfl) ⟨a',xs,rfl,n2,e3,f1.keeps (aO.less less)⟩ (fun a'' e _=>by cases e;exact rs1.keeps (aO.less less) fun _ _ _=>rfl)
   | ins c ns es =>
    obtain⟨a',dx,fs,rfl,n1,n2,e3,m,R1,f1⟩:=o;obtain⟨v1,s1,rs1⟩:=R1.get 0 p' e';rw [sa] at s1;cases s1
    have less:∀b,et (et A a) a' b->OO (et A a') ρ' σ' b:=fun b z=>by
     rcases z with (z|z)|z
     .exact .inl (.inl z)
     .exact .inr (by rw [z];exact wa')
     .exact .inl (.inr z)
    exact k _ p' q ow' _ H' kpa (R1.wr wa') (rs1.keeps (aO.less fun b z=>less b (.inl z)) fun _ _ _=>rfl) ⟨a',dx,fs,rfl,n2,e3,m,f1.keeps (aO.less less)⟩ (fun a'' e _=>by cases e;exact rs1.keeps (aO.less less) fun _ _ _=>rfl)
  .exact q.elim
 refine hl [(0,.ref a)] A (fun b=>b=a) H _ _ H _ _ rfl R0 ⟨fun _ _ _ h=>h,fun _ h=>h,fun b w=>.inl (wr b w),fun q hq=>by rw [mem_singleton.mp hq];exact s0⟩ (hc p ds Qc ow hq) (fun ρ' σ' H' q r F=>fin .non (.dat .non) ρ' σ' H' q ⟨r,.non⟩ F) (fun v p ρ' σ' H' q o F=>fin v p ρ' σ' H' q o F) (fun _ _ _ z=>z.elim) (fun _ _ _ z=>z.elim)
end
def D8:FN:=fun as Q=>∃ns:List Int,as=[.scr ns]/\ns.length<=63/\Q (.dat (.bl true))
theorem yP{K:PySem.W.Frag}{vs:List V}{H:Hp}{Q:VK}{E:XK}(h:rY K vs H Q E):spP K D8 vs H Q E:=by
 obtain⟨a,ns,rfl,hS,h63,q⟩:=h
 refine⟨fun _=>False,[.scr ns],fun r=>r=.dat (.bl true),nofun,.cons (.scr ?_) .nil,⟨ns,rfl,h63,rfl⟩,fun r e v H' g o=>?_⟩
 .rcases hS with h|h
  .exact .inl ⟨id,h⟩
  .exact .inr h
 .subst e;cases o;exact q H'
section
variable {K:PySem.W.Frag}{X:Cx}
def D9:List V->Hp->VK->Prop:=fun xs H Q=>∃i,xs=[.int i]/\Q (.int (if i<0 then -i else i)) H
def Bl:List V->Hp->VK->Prop:=fun xs H Q=>∃i j,xs=[.int i,.int j]/\Q (.int (if j<i then j else i)) H
def Bm:List V->Hp->VK->Prop:=fun xs H Q=>∃i j,xs=[.int i,.int j]/\Q (.int (if j > i then j else i)) H
theorem Dn:bJ X (.builtin "abs") D9:=vR
theorem uv(hc:X.calm=true):bJ X (.builtin "min") Bl:=tu hc
theorem Bn(hc:X.calm=true):bJ X (.builtin "max") Bm:=tq hc
def Do:FN
 | [.int i],Q=>Q (.dat (.int (if i<0 then -i else i)))
 | _,_=>False
def uw:FN
 | [.int i,.int j],Q=>Q (.dat (.int (if j<i then j else i)))
 | _,_=>False
def yQ:FN
 | [.int i,.int j],Q=>Q (.dat (.int (if j > i then j else i)))
 | _,_=>False
theorem Bo:LC K D9 Do:=by
 intro O H xs as Q Q' dom fs q k;unfold Do at q
 split at q
 .cases fs with|cons a b=>cases b;rw [a.int];exact⟨_,rfl,k _ H _ q (Gr.refl _) (.int _)⟩
 .exact q.elim
theorem p7:LC K Bl uw:=by
 intro O H xs as Q Q' dom fs q k;unfold uw at q
 split at q
 .cases fs with
  | cons a b=>cases b with|cons b c=>cases c;rw [a.int,b.int];exact⟨_,_,rfl,k _ H _ q (Gr.refl _) (.int _)⟩
 .exact q.elim
theorem yR:LC K Bm yQ:=by
 intro O H xs as Q Q' dom fs q k;unfold yQ at q
 split at q
 .cases fs with
  | cons a b=>cases b with|cons b c=>cases c;rw [a.int,b.int];exact⟨_,_,rfl,k _ H _ q (Gr.refl _) (.int _)⟩
 .exact q.elim
def Bp(K:PySem.W.Frag):List V->Hp->VK->Prop:=fun xs H Q=>∃(p:Addr) (ns:List Int),xs=[.ref p]/\SqL K H p (ns.map V.int)/\0<ns.length/\∀m:Int,m∈ns->(∀a∈ns,m<=a)->Q (.int m) H
def Bq(K:PySem.W.Frag):List V->Hp->VK->Prop:=fun xs H Q=>∃(p:Addr) (ns:List Int),xs=[.ref p]/\SqL K H p (ns.map V.int)/\Q (.int ns.sum) H
def Ea(K:PySem.W.Frag):List V->Hp->VK->Prop:=fun xs H Q=>∃(p:Addr) (bs:List Bool),xs=[.ref p]/\SqL K H p (bs.map V.bl)/\Q (.bl (bs.all id)) H
def Eb(K:PySem.W.Frag):List V->Hp->VK->Prop:=fun xs H Q=>∃(p:Addr) (bs:List Bool),xs=[.ref p]/\SqL K H p (bs.map V.bl)/\Q (.bl (bs.any id)) H
theorem Br(K:PySem.W.Frag)(e:X.K=K)(hc:X.calm=true):bJ X (.builtin "min") (Bp K):=by subst e;exact ui hc
theorem xE(K:PySem.W.Frag)(e:X.K=K)(hc:X.calm=true):bJ X (.builtin "sum") (Bq K):=by subst e;exact uj hc
theorem Dp(K:PySem.W.Frag)(e:X.K=K)(hc:X.calm=true):bJ X (.builtin "all") (Ea K):=by subst e;exact wo hc
theorem Dq(K:PySem.W.Frag)(e:X.K=K)(hc:X.calm=true):bJ X (.builtin "any") (Eb K):=by subst e;exact wp hc
def yS:FN
 | [.lst ds],Q=>∃ns:List Int,ds=ns.map .int/\0<ns.length/\∀m:Int,m∈ns->(∀a∈ns,m<=a)->Q (.dat (.int m))
 | _,_=>False
def wA:FN
 | [.lst ds],Q=>∃ns:List Int,ds=ns.map .int/\Q (.dat (.int ns.sum))
 | _,_=>False
def Dr:FN
 | [.lst ds],Q=>∃bs:List Bool,ds=bs.map .bl/\Q (.dat (.bl (bs.all id)))
 | _,_=>False
def Ds:FN
 | [.lst ds],Q=>∃bs:List Bool,ds=bs.map .bl/\Q (.dat (.bl (bs.any id)))
 | _,_=>False
theorem yT:LC K (Bp K) yS:=by
 intro O H xs as Q Q' dom fs q k;unfold yS at q
 split at q
 .obtain⟨ns,rfl,h0,q⟩:=q
  cases fs with
  | cons a b =>
   cases b;obtain⟨p,ys,rfl,e1,f1⟩:=a.lst;rw [f1.ints] at e1;exact⟨p,ns,rfl,SqL.of e1,h0,fun m hm hle=>k _ H _ (q m hm hle) (Gr.refl _) (.int _)⟩
 .exact q.elim
theorem uz:LC K (Bq K) wA:=by
 intro O H xs as Q Q' dom fs q k;unfold wA at q
 split at q
 .obtain⟨ns,rfl,q⟩:=q
  cases fs with
  | cons a b =>
   cases b;obtain⟨p,ys,rfl,e1,f1⟩:=a.lst;rw [f1.ints] at e1;exact⟨p,ns,rfl,SqL.of e1,k _ H _ q (Gr.refl _) (.int _)⟩
 .exact q.elim
theorem Bs:LC K (Ea K) Dr:=by
 intro O H xs as Q Q' dom fs q k;unfold Dr at q
 split at q
 .obtain⟨ns,rfl,q⟩:=q
  cases fs with
  | cons a b =>
   cases b;obtain⟨p,ys,rfl,e1,f1⟩:=a.lst;rw [f1.bls] at e1;exact⟨p,ns,rfl,SqL.of e1,k _ H _ q (Gr.refl _) (.bl _)⟩
 .exact q.elim
theorem Bt:LC K (Eb K) Ds:=by
 intro O H xs as Q Q' dom fs q k;unfold Ds at q
 split at q
 .obtain⟨ns,rfl,q⟩:=q
  cases fs with
  | cons a b =>
   cases b;obtain⟨p,ys,rfl,e1,f1⟩:=a.lst;rw [f1.bls] at e1;exact⟨p,ns,rfl,SqL.of e1,k _ H _ q (Gr.refl _) (.bl _)⟩
 .exact q.elim
def yU(K:PySem.W.Frag):List V->Hp->VK->Prop:=fun xs H Q=>∃p ys,xs=[.ref p]/\((SqL K H p ys/\∀l,H l=none->Q (.ref l) (upd H l (.tup ys)))\/(SqT K H p ys/\Q (.ref p) H))
theorem eF(K:PySem.W.Frag)(e:X.K=K):bJ X (.type "tuple") (yU K):=by subst e;exact mM
theorem Bu(K:PySem.W.Frag)(e:X.K=K):bJ X (.type "list") (ul K):=by subst e;exact oi
def eV:FN
 | [.lst ds],Q=>Q (.dat (.tup ds))
 | [.tup ds],Q=>Q (.dat (.tup ds))
 | [.scr ns],Q=>Q (.dat (.tup (ns.map .int)))
 | _,_=>False
def yV:FN
 | [.lst ds],Q=>Q (.own ds)
 | [.tup ds],Q=>Q (.own ds)
 | [.scr ns],Q=>Q (.own (ns.map .int))
 | _,_=>False
theorem du:LC K (yU K) eV:=by
 intro O H xs as Q Q' dom fs q k;unfold eV at q
 split at q
 .cases fs with
  | cons a b =>
   cases b;obtain⟨p,ys,rfl,e1,f1⟩:=a.lst;exact⟨p,ys,rfl,.inl ⟨SqL.of e1,fun l hl=>k _ _ _ q (Gr.new hl) (ku dom hl f1)⟩⟩
 .cases fs with
  | cons a b =>
   cases b;obtain⟨p,ys,rfl,n1,e1,f1⟩:=a.tup;exact⟨p,ys,rfl,.inr ⟨SqT.of e1,k _ H _ q (Gr.refl _) (.tup n1 e1 f1)⟩⟩
 .cases fs with
  | cons a b =>
   cases b;obtain⟨p,rfl,e1⟩:=a.scr;exact⟨p,_,rfl,.inl ⟨e1,fun l hl=>k _ _ _ q (Gr.new hl) (ku dom hl (FVs.of_ints _))⟩⟩
 .exact q.elim
theorem yW:LC K (ul K) yV:=by
 intro O H xs as Q Q' dom fs q k;unfold yV at q
 split at q
 .cases fs with
  | cons a b =>
   cases b;obtain⟨p,ys,rfl,e1,f1⟩:=a.lst;exact⟨p,ys,rfl,.inl (SqL.of e1),fun l hl=>k _ _ _ q (Gr.new hl) (e9 hl f1)⟩
 .cases fs with
  | cons a b =>
   cases b;obtain⟨p,ys,rfl,n1,e1,f1⟩:=a.tup;exact⟨p,ys,rfl,.inr (SqT.of e1),fun l hl=>k _ _ _ q (Gr.new hl) (e9 hl f1)⟩
 .cases fs with
  | cons a b =>
   cases b;obtain⟨p,rfl,e1⟩:=a.scr;exact⟨p,_,rfl,.inl e1,fun l hl=>k _ _ _ q (Gr.new hl) (e9 hl (FVs.of_ints _))⟩
 .exact q.elim
variable {ta:TE}{pa:PA1}{tr:TA}{pr:PTA}{pe:PTE}
def Bv(i:Int)(n:Nat):List D:=(List.range n).map fun (k:Nat)=>D.int (i+(k:Int))
def mkL(tup:Bool)(ds:List D):PV:=match tup with|true=>.dat (.tup ds)|false=>.own ds
def Bw(tup:Bool)(pr:PTA):PTE:=fun ρ Q=>pr ρ fun as ρ1=>match as with
 | [.v (.int j)]=>(0<=j/\j<=1000000)/\Q (mkL tup (Bv 0 j.toNat)) ρ1
 | _=>False
theorem Bx{O:Addr->Prop}{H:Hp}(i:Int)(n:Nat):FVs K O H (pX i 1 n) (Bv i n):=by
 have e:∀l:List Nat,FVs K O H (l.map fun (k:Nat)=>V.int (i+k*1)) (l.map fun (k:Nat)=>D.int (i+(k:Int))):=fun l=>by
  induction l with
  | nil=>exact .nil
  | cons a r ih=>exact .cons (by show FV K O H (V.int (i+(a:Int)*1)) (D.int (i+(a:Int)));rw [show i+(a:Int)*1=i+(a:Int) by omega];exact .int _) ih
 exact e _
theorem me{i j:Int}(h:i<=j):Builtin.Range.rangeSize i j 1=(((j - i).toNat:Nat):Int):=by
 unfold Builtin.Range.rangeSize;rw [if_pos (by decide)];simp only [ediv_one];split <;> omega
theorem sg{i j:Int}(h0:-1000000<=i)(h1:i<=j)(h2:j<=1000000):Builtin.Range.small i j 1=true:=by
 unfold Builtin.Range.small;rw [me h1];simp only [Builtin.Range.rangeFitsLong,and_eq_true,or_eq_true,decide_eq_true_eq,beq_iff_eq,show (1:Int) > 0 by decide,if_true];omega
def mkO(tup:Bool):List V->HO:=match tup with|true=>.tup|false=>.lst
theorem By{O:Addr->Prop}{H:Hp}{xs:List V}{ds:List D}{p:Addr}(tup:Bool)(dom:∀b,O b->H b≠none)(hp:H p=none)(f:FVs K O H xs ds):pP K O H (upd H p (mkO tup xs)) (mkL tup ds) (.ref p):=by
 cases tup with
 | true=>exact ku dom hp f
 | false=>exact e9 hp f
theorem wB(tup:Bool)(h:LAs K tr pr):LE K (tCB (CP K (mkO tup)) (bp (fun σ H Q=>tr σ H fun vs H1=>∃j:Int,vs=[.int j]/\∀p,H1 p=none->Q (.ref p) (upd H1 p (xw p 0 j 1))) fE)) (Bw tup pr):=fun A ρ σ H Q Q' R q k=>h A ρ σ H _ _ R q fun vs H1 as ρ1 q1 f1 R1 o1=>by
 split at q1
 .rename_i j
  cases o1 with
  | cons a b =>
   cases b;cases a;refine⟨j,rfl,fun p hp=>⟨p,0,j,1,j.toNat,rfl,ay,sg (by decide) q1.1.1 q1.1.2,by rw [me q1.1.1,Int.sub_zero],by omega,fun l hl=>?_⟩⟩;have g:Gr H1 (upd H1 p (xw p 0 j 1)):=Gr.new hp;have R2:=R1.gr g;have g2:Gr (upd H1 p (xw p 0 j 1)) (upd (upd H1 p (xw p 0 j 1)) l (mkO tup (pX 0 1 j.toNat))):=Gr.new hl;exact k _ _ _ ρ1 q1.2 (f1.trans (g.fr.trans g2.fr)) ((pP.out R2 g2 (By tup R2.dom2 hl (Bx 0 _))).h0 fun b z=>(g.fr (ρ:=ρ1) (σ:=σ)).dm b (f1.dm b z))
 .exact q1.elim
theorem Bz(K:PySem.W.Frag)(e:X.K=K)(hc:X.calm=true):bJ X (.type "list") (CP K (mkO false)):=by subst e;exact sd hc
abbrev FM:=List Nat->List D->(PV->Prop)->Prop
def LM(K:PySem.W.Frag)(r:V->List V->Hp->VK->Prop)(f:FM):Prop:=∀(O:Addr->Prop) (H:Hp) (l:List Nat) (xs:List V) (as:List D) (Q:PV->Prop) (Q':VK),(∀b,O b->H b≠none)->l.length<=1000000->zV K O H xs as->f l as Q ->
 (∀v H' p,Q p->Gr H H'->pP K O H H' p v->Q' v H')->r (.str (S l)) xs H Q'
def pSM(f:FM)(pe:PTE)(pr:PTA):PTE:=fun ρ Q=>pe ρ fun p ρ1=>match p with
 | .dat (.str l)=>pr ρ1 fun as ρ2=>(match conts ρ2 as with
  | some ds=>f l ds fun r=>Q r ρ2
  | none=>False)
 | _=>False
theorem oM{r:V->List V->Hp->VK->Prop}{f:FM}(o:LM K r f)(he:LE K ta pe)(hr:LAs K tr pr):LE K (tBM K "str" r ta tr) (pSM f pe pr):=fun A ρ σ H Q Q' R q k=>he A ρ σ H _ _ R q fun v H1 p ρ1 q1 f1 o1=>by
 split at q1
 .rename_i l;obtain⟨R1,fv⟩:=o1
  cases fv with
  | str _ hl =>
   refine⟨rfl,hr A ρ1 σ H1 _ _ R1 q1 fun vs H2 as ρ2 q2 f2 R2 o2=>?_⟩
   split at q2
   .rename_i ds e;exact o _ H2 l vs ds _ _ R2.dom2 hl (R2.conts o2 e) q2 fun z H3 p q3 g ov=>k z H3 p ρ2 q3 ((f1.trans f2).trans g.fr) ((ov.out R2 g).h0 fun b z=>f2.dm b (f1.dm b z))
   .exact q2.elim
 .exact q1.elim
def BA:V->List V->Hp->VK->Prop:=fun x xs H Q=>∃a b,x=.str (S a)/\xs=[.str (S b)]/\Q (.bl (decide (b <:+ a))) H
def rh:V->List V->Hp->VK->Prop:=fun x xs H Q=>∃a b,x=.str (S a)/\xs=[.str (S b)]/\Q (.int (fnd a b 0)) H
theorem yX:MtR X "str.endswith" BA:=pW
theorem gY:MtR X "str.find" rh:=wj
def yY:FM
 | a,[.str b],Q=>Q (.dat (.bl (decide (b <:+ a))))
 | _,_,_=>False
def jL:FM
 | a,[.str b],Q=>Q (.dat (.int (fnd a b 0)))
 | _,_,_=>False
theorem yZ:LM K BA yY:=by
 intro O H l xs as Q Q' dom hl fs q k;unfold yY at q
 split at q
 .cases fs with|cons a b=>cases b;rw [a.str.1];exact⟨_,_,rfl,rfl,k _ H _ q (Gr.refl _) (.bl _)⟩
 .exact q.elim
theorem gZ:LM K rh jL:=by
 intro O H l xs as Q Q' dom hl fs q k;unfold jL at q
 split at q
 .cases fs with|cons a b=>cases b;rw [a.str.1];exact⟨_,_,rfl,rfl,k _ H _ q (Gr.refl _) (.int _)⟩
 .exact q.elim
def eG(f:Str):List Str->Option Nat
 | []=>none
 | n::r=>if n=f then some 0 else (eG f r).map (·+1)
theorem kE{f:Str}:∀{fs:List (Str×V)}{k:Nat},eG f (fs.map Prod.fst)=some k->fs.lookup f=(fs.map Prod.snd)[k]?
 | [],k,h=>by cases h
 | (n,v)::r,k,h=>by
  unfold eG at h;rw [map_cons] at h;simp only at h;rw [lookup_cons]
  by_cases e:n=f
  .rw [if_pos e] at h;cases h;rw [show (f == n)=true by rw [e];exact beq_self_eq_true _];rfl
  .rw [if_neg e] at h;rw [show (f == n)=false from beq_eq_false_iff_ne.mpr fun z=>e z.symm]
   cases e2:eG f (r.map Prod.fst) with
   | none=>rw [e2] at h;cases h
   | some j=>rw [e2] at h;cases h;show List.lookup f r=_;rw [kE e2];simp
theorem kF{f:Str}:∀{fs:List (Str×V)},eG f (fs.map Prod.fst)=none->fs.lookup f=none
 | [],h=>rfl
 | (n,v)::r,h=>by
  unfold eG at h;rw [map_cons] at h;simp only at h;rw [lookup_cons]
  by_cases e:n=f
  .rw [if_pos e] at h;cases h
  .rw [if_neg e] at h;rw [show (f == n)=false from beq_eq_false_iff_ne.mpr fun z=>e z.symm]
   cases e2:eG f (r.map Prod.fst) with
   | none=>exact kF e2
   | some j=>rw [e2] at h;cases h
theorem mZ{f:Str}{v:V}:∀{fs:List (Str×V)},eG f (fs.map Prod.fst)=none->lY f v fs=fs++[(f,v)]
 | [],h=>rfl
 | (n,x)::r,h=>by
  unfold eG at h;rw [map_cons] at h;simp only at h
  by_cases e:n=f
  .rw [if_pos e] at h;cases h
  .rw [if_neg e] at h
   cases e2:eG f (r.map Prod.fst) with
   | none=>unfold lY;rw [if_neg e,mZ e2];rfl
   | some j=>rw [e2] at h;cases h
theorem FVc.obj{O:Addr->Prop}{H:Hp}{v:V}{c:Str}{ns:List Str}{ds:List D}(h:FVc K O H v (.obj c ns ds)):∃a dx fs,v=.ref a/\H a=some (.ins (aD K c) dx fs)/\fs.map Prod.fst=ns/\FVs K O H (fs.map Prod.snd) ds:=by
 rcases h with h|⟨a,xs,ds',e1,e2,e3,f⟩|⟨a,dx,c,fs,ns,ds',e1,e2,e3,m,f⟩
 .cases h with
  | obj n e m f=>exact⟨_,_,_,rfl,e,m,f⟩
 .cases e2
 .cases e2;exact⟨a,dx,fs,e1,e3,m,f⟩
def lE(c0:Str)(ns0:List Str)(k:Nat)(pa:PA1):PTE:=fun ρ Q=>pa ρ fun x ρ1=>match cont ρ1 x with
 | some (.obj c ns ds)=>(c=c0/\ns=ns0)/\∃d,ds[k]?=some d/\Q (.dat d) ρ1
 | _=>False
theorem dk{c0 f:Str}{ns0:List Str}{i:Nat}(hc:Cls K (aD K c0))(hn:eB K (aD K c0) f)(hk:eG f ns0=some i)(h:LA1 K ta pa):LE K (tE K ta f) (lE c0 ns0 i pa):=fun A ρ σ H Q Q' R q k=>h A ρ σ H _ _ R q fun v H1 a ρ1 q1 f1 R1 o1=>by
 split at q1
 .rename_i c ns ds e;obtain⟨⟨rfl,rfl⟩,d,hd,q1⟩:=q1;obtain⟨a,dx,fs,rfl,e1,m,f⟩:=(R1.cont o1 e).obj;obtain⟨v,hv,fv⟩:=f.getD hd;exact⟨a,_,dx,fs,v,rfl,e1,hc,hn,by rw [kE (k:=i) (by rw [m];exact hk)];exact hv,k v H1 _ ρ1 q1 f1 ⟨R1,fv⟩⟩
 .exact q1.elim
def jM(c0:Str)(ns0:List Str)(f:Str)(i:Nat)(pe:PTE):PTS:=fun D ρ=>pe ρ fun p ρ1=>match ρ1[i]? with
 | some (some (.ins c ns ds))=>(c=c0/\ns=ns0/\ns0.length<1000)/\D.nx (ρ1.set i (some (.ins c0 (ns0++[f]) (ds++[p.d]))))
 | _=>False
theorem iB{fs':List Nat}{c0 f:Str}{ns0:List Str}{i:Nat}(hc:Cls K (aD K c0))(hn:eB K (aD K c0) f)(hk:eG f ns0=none)(h:LE K ta pe):LS K fs' (DY K (ck i) ta f) (jM c0 ns0 f i pe):=fun fx A R H0 ρ σ H D D' hf r F q k1 k2 k3 k4=>h A ρ σ H _ _ r q fun v H1 p ρ1 q1 f1 o1=>by
 obtain⟨R1,fv⟩:=o1.frz
 split at q1
 .rename_i c ns ds e;obtain⟨⟨rfl,rfl,hl⟩,q1⟩:=q1;obtain⟨w,s,a,dx,fs,rfl,g,m,ff⟩:=R1.get i _ e;have hk':eG f (fs.map Prod.fst)=none:=by rw [m];exact hk
  have wa:OO A ρ1 σ a:=.inr ⟨i,_,e,rfl,s⟩;have kw:∀o,aO (OO A ρ1 σ) H1 (OO A ρ1 σ) (upd H1 a o):=fun o b u n h=>⟨n,by rw [ap (fun z=>n (by rw [z];exact wa))];exact h⟩
  obtain⟨R2,f2⟩:=R1.write (o:=.ins (aD K c) dx (lY f v fs)) (q:=.ins c (ns++[f]) (ds++[p.d])) e rfl rfl s ⟨a,dx,lY f v fs,rfl,ay,by rw [mZ hk',map_append,m];rfl,by rw [mZ hk',map_append];exact (ff.append (.cons fv .nil)).keeps (kw _)⟩;refine⟨_,s,a,_,dx,fs,rfl,g,hc,hn,?_,k1 _ _ _ q1 R2 ((F.fr f1).fr f2)⟩;have:fs.length=ns.length:=by rw [<- m,length_map]
  omega
 .exact q1.elim
def y0(c0:Str)(c:FR)(pr:PTA):PTE:=fun ρ Q=>pr ρ fun as ρ1=>match avD as with
 | some ds=>c (.ins c0 [] []) ds fun r p'=>(match r,p' with
  | .dat .non,.ins c1 ns es=>c1=c0/\Q (.ins c1 ns es) ρ1
  | _,_=>False)
 | none=>False
theorem uA{c0:Str}{c:FR}(h:LAs K tr pr):LE K (tG (aD K c0) (spR K c) [] E0 tr) (y0 c0 c pr):=fun A ρ σ H Q Q' R q k=>h A ρ σ H _ _ R q fun vs H1 as ρ1 q1 f1 R1 o1=>by
 split at q1
 .rename_i ds e;intro x dx hx hdx hne;rw [append_nil]
  let H2:=upd (upd H1 dx (.own x)) x (.ins (aD K c0) dx [])
  have g2:Gr H1 H2:=fun b o z=>by
   show upd (upd H1 dx (.own x)) x _ b=_;rw [ap (aH z hx),ap (aH z hdx)];exact z
  have nx:¬ OO A ρ1 σ x:=R1.oo hx
  have keep2:aO (OO A ρ1 σ) H1 (et (OO A ρ1 σ) x) H2:=fun b o n z=>by
   refine⟨fun y=>?_,g2 b o z⟩
   rcases y with y|y
   .exact n y
   .rw [y,hx] at z;cases z
  refine⟨OO A ρ1 σ,x,.ins c0 [] [],vs,ds,_,rfl,rfl,fun b z=>(g2.fr (ρ:=ρ1) (σ:=σ)).dm b (R1.dom2 b z),nx,⟨x,dx,[],rfl,ay,rfl,.nil⟩,(o1.avD e).keeps keep2,q1,fun r p' qr ow' v H' kp ha rs ov _=>?_⟩
  split at qr
  .obtain⟨rfl,qr⟩:=qr;cases ov;refine⟨rfl,?_⟩;obtain⟨a',dx',fs,ea,e2,m,f⟩:=rs;cases ea;have g:Gr H1 H':=fun b o z=>kp b o (aH z hx) (g2 b o z)
   have hx0:H x=none:=by
    cases eb:H x with
    | none=>rfl
    | some o=>exact absurd hx (f1.dm x (by rw [eb];exact nofun))
   refine k _ H' _ ρ1 qr (f1.trans g.fr) ⟨x,dx',fs,rfl,fun z=>nx (.inl z),hx0,e2,m,R1.grA g hx (by rw [e2];exact nofun),f.keeps (aO.less fun b z=>?_)⟩
   rcases z with (z|z)|z
   .exact .inl (.inl z)
   .exact .inr z
   .exact .inl (.inr z)
  .exact qr.elim
 .exact q1.elim
def uB(c0:Str)(ns0:List Str)(c:FN)(pe:PTE)(pr:PTA):PTE:=fun ρ Q=>pe ρ fun p ρ1=>match p.d with
 | .obj c1 ns ds=>(c1=c0/\ns=ns0)/\pr ρ1 fun as ρ2=>(match avD as with
  | some es=>c (.obj c1 ns ds::es) fun r=>Q r ρ2
  | none=>False)
 | _=>False
theorem rj{c0 m:Str}{ns0:List Str}{c:FN}(hm:eG m ns0=none)(he:LE K ta pe)(hr:LAs K tr pr):LE K (ye (aD K c0) m (spP K c) [] E0 ta tr) (uB c0 ns0 c pe pr):=fun A ρ σ H Q Q' R q k=>he A ρ σ H _ _ R q fun v H1 p ρ1 q1 f1 o1=>by
 obtain⟨R1,fv⟩:=o1.frz
 split at q1
 .rename_i c1 ns ds e;rw [e] at fv;obtain⟨⟨rfl,rfl⟩,q1⟩:=q1;obtain⟨a,dx,fs,rfl,e1,mm,f⟩:=FVc.obj (.inl fv);refine⟨a,dx,fs,rfl,e1,kF (by rw [mm];exact hm),hr A ρ1 σ H1 _ _ R1 q1 fun vs H2 as ρ2 q2 f2 R2 o2=>?_⟩
  split at q2
  .rename_i es e3;rw [append_nil];exact⟨OO A ρ2 σ,_::es,_,R2.dom2,.cons (fv.keeps f2.keeps) (o2.avD e3),q2,fun r qr v H' g ov=>k v H' r ρ2 qr ((f1.trans f2).trans g.fr) ((ov.out R2 g).h0 fun b z=>f2.dm b (f1.dm b z))⟩
  .exact q2.elim
 .exact q1.elim
end
abbrev Dt:R2:=rI0 fun i j=>.int (i - j)
abbrev Du:R2:=rI (fun _ j=>0<j) fun i j=>.int (i % j)
abbrev Dv:R2:=rI CC fun i j=>.int (i / j)
abbrev Dw:R2:=rI CD fun i j=>.int (i^j.toNat)
abbrev Ed:R2:=rI0 fun i j=>.bl (decide (j<i))
abbrev Ee:R2:=rI0 fun i j=>.bl (decide (j<=i))
abbrev Dx:V->Hp->VK->Prop:=rU fun i=>.int (-i)
abbrev Cs:F2:=fI0 fun i j=>.int (i - j)
abbrev zZ:F2:=fI (fun _ j=>0<j) fun i j=>.int (i % j)
abbrev Dy:F2:=fI (fun _ j=>0<j/\j<1073741824) fun i j=>.int (i / j)
abbrev EC:F2:=fI (fun i j=>0<=j/\j<=1000000/\i.natAbs<2^64) fun i j=>.int (i^j.toNat)
abbrev fGt:F2:=fI0 fun i j=>.bl (decide (j<i))
abbrev fGe:F2:=fI0 fun i j=>.bl (decide (j<=i))
def z0:D->(PV->Prop)->Prop
 | .int i,Q=>Q (.dat (.int (-i)))
 | _,_=>False
section
variable {K:PySem.W.Frag}{X:Cx}{ta:TE}{tr:TA}{pr:PTA}{ts:TS}{ps:PTS}
theorem wC:OpR X (binaryOp .Sub) Dt:=At
theorem sh:OpR X (binaryOp .Mod) Du:=Av
theorem uC:OpR X (binaryOp .FloorDiv) Dv:=x6
theorem Dz:OpR X (binaryOp .Pow) Dw:=Aw
theorem Aa:OpR X (compareOp .Gt) Ed:=CJ
theorem Ct:OpR X (compareOp .GtE) Ee:=CK
theorem rl:LU K Dx z0:=by
 intro O H x a Q Q' dom fx q k;unfold z0 at q
 split at q
 .rename_i i;exact⟨i,fx.int,k _ H _ q (Gr.refl _) (.int _)⟩
 .exact q.elim
theorem wD{es:List Expr}{ct:Nat}{tp:Pos}(K:PySem.W.Frag)(e:X.K=K){a:Expr}{ta:TA}{p pos:Pos}(hg:Gl X "enumerate")(hm:X.mg "enumerate"=none)(ha:PA X [a] ta)(hs:starEach [a] X.env=[(false,eval a X.env)]:=by rfl) :
  PI X (.Tuple es ct tp) (.Call (.Name "enumerate" p) [a] [] pos) (yF K ta):=by subst e;exact yG hg hm ha hs
theorem m5{ix:List (Option Nat)}{fs:List Nat}{i:Nat}(h:∀k∈fs,k∈uu ix)(hi:(uu ix).contains i=false):fs.contains i=false:=by
 cases e:fs.contains i with
 | false=>rfl
 | true =>
  have:=h i (contains_iff_mem.mp e);rw [contains_iff_mem.mpr this] at hi;cases hi
def xF(c:FN)(es:List D)(pr:PTA):PTE:=fun ρ Q=>pr ρ fun as ρ1=>match avD as with
 | some ds=>c (ds++es) fun r=>Q r ρ1
 | none=>False
theorem wE{c:FN}{vs0:List V}{ds:List D}(hd:∀{O:Addr->Prop}{H:Hp},FVs K O H vs0 ds)(h:LAs K tr pr):LE K (fi (spP K c) vs0 E0 tr) (xF c ds pr):=fun A ρ σ H Q Q' R q k=>h A ρ σ H _ _ R q fun vs H1 as ρ1 q1 f1 R1 o1=>by
 split at q1
 .rename_i es e;exact⟨OO A ρ1 σ,_,_,R1.dom2,(o1.avD e).append hd,q1,fun r qr v H' g ov=>k v H' r ρ1 qr (f1.trans g.fr) ((ov.out R1 g).h0 f1.dm)⟩
 .exact q1.elim
theorem j9{c:FN}{n:Nat}(hn:∀ds Q,c ds Q->ds.length=n){vs:List V}{H:Hp}{Q:VK}{E:XK}(h:spP K c vs H Q E):vs.length=n:=by
 obtain⟨O,ds,Qc,_,f,hq,_⟩:=h;rw [f.length];exact hn ds Qc hq
theorem y3{c:FR}{n:Nat}(hn:∀p ds Q,c p ds Q->ds.length+1=n){vs:List V}{H:Hp}{Q:VK}{E:XK}(h:spR K c vs H Q E):vs.length=n:=by
 obtain⟨A,a,p,ws,ds,Qc,rfl,_,_,_,_,f,hq,_⟩:=h;rw [length_cons,f.length];exact hn p ds Qc hq
abbrev eA(pp:PTS)(n:Nat)(ds:List D)(Q:PV->Prop):Prop:=pp { nx:=fun _=>Q (.dat .non),rt:=fun p _=>Q p } (di n (ds.map .dat))
abbrev rm(pp:PTS)(n:Nat)(p:PV)(ds:List D)(Q:PV->PV->Prop):Prop:=pp { nx:=zY Q (.dat .non),rt:=zY Q } (di n (p::ds.map .dat))
end
end L2
namespace L2
theorem Cal.imp{P:PySem.Program}{w:PySem.World}{K:PySem.W.Frag}{mg:PySem.Str->Option PySem.Value}{base:PySem.Heap}{k:Nat}{x:PySem.Str}{ps:List PySem.Str}{sp sp':Sp}(C:Cal P w K mg base k x ps sp)(h:∀vs H Q E,sp' vs H Q E->sp vs H Q E):Cal P w K mg base k x ps sp':=by
 obtain⟨f,fd,F,r⟩:=C.ex;exact⟨f,fd,F.imp h,r⟩
end L2
namespace L2
open PySem PySem.Spec PyProof.Rows
theorem cfm{ix:List (Option Nat)}{ρ1:PSt}{n:Nat}{it:Nat->D}{g:PTG}{pt:PTT}{pe:PTE}{Q:PKt}(T:PSt->Prop)(f:Nat->Option D)(h0:T (cm ix ρ1))
  (hs:∀k τ d,k<n->d=it k->T τ->∀(K1:D->PSt->Prop) (K2:PSt->Prop),(∀d τ',f k=some d->T τ'->K1 d τ')->(∀τ',f k=none->T τ'->K2 τ')->g (.dat d) τ fun τ2=>pt τ2 fun ok τ3=>ic ok (pe τ3 fun p τ4=>K1 p.d τ4) (K2 τ3))
  (hq:∀τ,T τ->Q (.own ((List.range n).filterMap f)) (eU ix ρ1 τ)) :
  mY ix ρ1 n it g pt pe Q:=by
 refine⟨fun k ys τ=>ys=(List.range k).filterMap f/\T τ,⟨rfl,h0⟩,fun k ys τ dd hk ed ⟨e,t⟩=>?_,fun ys τ ⟨e,t⟩=>by rw [e];exact hq τ t⟩
 have r:(List.range (k+1)).filterMap f=(List.range k).filterMap f++(f k).toList:=by
  rw [range_succ,filterMap_append]
  cases e:f k with
  | none=>rw [show [k].filterMap f=[] by simp [e]];rfl
  | some d=>rw [show [k].filterMap f=[d] by simp [e]];rfl
 refine hs k τ dd hk ed t (fun d τ'=>(ys++[d]=(List.range (k+1)).filterMap f/\T τ')) (fun τ'=>(ys=(List.range (k+1)).filterMap f/\T τ')) (fun d τ' h t'=>⟨?_,t'⟩) (fun τ' h t'=>⟨?_,t'⟩)
 .rw [r,e,h];rfl
 .rw [r,e,h];simp
theorem DA{ix:List (Option Nat)}{ρ1:PSt}{n:Nat}{it:Nat->D}{g:PTG}{pe:PTE}{Q:PKt}(T:PSt->Prop)(f:Nat->D)(h0:T (cm ix ρ1))
  (hs:∀k τ d,k<n->d=it k->T τ->∀K1:D->PSt->Prop,(∀τ',T τ'->K1 (f k) τ')->g (.dat d) τ fun τ2=>pe τ2 fun p τ4=>K1 p.d τ4)
  (hq:∀τ,T τ->Q (.own ((List.range n).map f)) (eU ix ρ1 τ)) :
  mY ix ρ1 n it g oK pe Q:=by
 refine cfm T (fun k=>some (f k)) h0 (fun k τ d hk ed t K1 K2 k1 k2=>?_) fun τ t=>?_
 .exact hs k τ d hk ed t K1 fun τ' t'=>k1 _ τ' rfl t'
 .have:(List.range n).filterMap (fun k=>some (f k))=(List.range n).map f:=by rw [<- filterMap_eq_map];rfl
  rw [this];exact hq τ t
theorem p8{β:Type}(f:Nat->β)(l:List Nat):(List.range l.length).map (fun k=>f (l.getD k 0))=l.map f:=by
 apply ext_getElem?;intro i;rw [getElem?_map,getElem?_map]
 by_cases h:i<l.length
 .rw [getElem?_range h];show some (f (l.getD i 0))=_;rw [getD_eq_getElem?_getD,getElem?_eq_getElem h];rfl
 .rw [getElem?_eq_none (by rw [length_range];omega),getElem?_eq_none (by omega)];rfl
def pw(ws:List (List Nat))(k:Nat):List Nat:=ws.getD k []
theorem ie{ws:List (List Nat)}{k:Nat}(h:k<ws.length):ws[k]?=some (pw ws k):=by unfold pw;rw [getD_eq_getElem?_getD,getElem?_eq_getElem h];rfl
theorem gk{ws:List (List Nat)}{k:Nat}(h:k<ws.length):pw ws k∈ws:=mem_of_getElem? (ie h)
theorem m7{ws:List (List Nat)}{k:Nat}(h:k<(ws.map D.str).length):itD (ws.map D.str) k=.str (pw ws k):=kC (by rw [getElem?_map,ie (by rwa [length_map] at h)];rfl)
theorem uD{ns:List Int}{k:Nat}(h:k<(ns.map D.int).length):itD (ns.map D.int) k=.int (ns.getD k 0):=kC (by
 have h:k<ns.length:=by rwa [length_map] at h
 rw [getElem?_map,getD_eq_getElem?_getD,getElem?_eq_getElem h];rfl)
theorem cJ{ws:List (List Nat)}{i:Int}{k:Nat}(h:k<ws.length)(e:i=(k:Int)):atI (ws.map D.str) i=some (.str (pw ws k)):=l6 (j:=k) (by rw [getElem?_map,ie h];rfl) e
theorem y4{ws:List (List Nat)}{k:Nat}(h:k<ws.length):ws.take (k+1)=ws.take k++[pw ws k]:=by
 rw [take_succ,ie h];rfl
def Pc(m:Nat)(w:List Nat):Prop:=0<w.length/\w.length<=m/\Lts w
def Pcs(m:Nat)(ws:List (List Nat)):Prop:=∀w∈ws,Pc m w
def ltB(c:Nat):Bool:=decide (97<=c) && decide (c<=122)
def p9:D->Int->Int->Bool
 | .str l,a,b=>(decide (a<=(l.length:Int)) && decide ((l.length:Int)<=b)) && l.all ltB
 | _,_,_=>false
theorem m8(l:List Nat)(a b:Int):p9 (.str l) a b=((decide (a<=(l.length:Int)) && decide ((l.length:Int)<=b)) && l.all ltB):=rfl
def wF:D->Nat
 | .str l=>l.length
 | _=>0
theorem m9{l:List Nat}:l.all ltB=true ↔ Lts l:=by
 rw [all_eq_true];unfold Lts ltB
 constructor
 .intro h c hc;have:=h c hc;rw [and_eq_true,decide_eq_true_eq,decide_eq_true_eq] at this;exact this
 .intro h c hc;rw [and_eq_true,decide_eq_true_eq,decide_eq_true_eq];exact h c hc
theorem uE{w:List Nat}:p9 (.str w) 1 60=true ↔ Pc 60 w:=by
 unfold p9 Pc;rw [and_eq_true,and_eq_true,decide_eq_true_eq,decide_eq_true_eq,m9]
 constructor
 .rintro⟨⟨h1,h2⟩,h3⟩;exact⟨by omega,by omega,h3⟩
 .rintro⟨h1,h2,h3⟩;exact⟨⟨by omega,by omega⟩,h3⟩
theorem jN(ls:List Nat):(ls.map fun c=>[c]).flatten=ls:=by
 induction ls with
 | nil=>rfl
 | cons c r ih=>rw [map_cons,flatten_cons,ih];rfl
theorem wG(ls:List Nat):ls.map (fun c=>D.str [c])=(ls.map fun c=>[c]).map D.str:=by rw [map_map];rfl
theorem qa(i j:Nat):(!decide (([j]:List Nat)<[i]))=decide (i<=j):=by
 by_cases h:i<=j
 .rw [decide_eq_true h]
  have:¬ ([j]:List Nat)<[i]:=by
   rw [cons_lt_cons_iff]
   rintro (z|⟨_,z⟩)
   .omega
   .exact absurd z (List.lt_irrefl _)
  rw [decide_eq_false this];rfl
 .rw [decide_eq_false h]
  have:([j]:List Nat)<[i]:=by
   rw [cons_lt_cons_iff];exact .inl (by omega)
  rw [decide_eq_true this];rfl
theorem ng:∀ws:List (List Nat),D.pys (ws.map .str)=ws.map fun w=>PyData.str (S w)
 | []=>rfl
 | w::r=>by rw [map_cons,map_cons,<- ng r];rfl
theorem jp:∀ws:List (List Nat),D.plains (ws.map .str)=true
 | []=>rfl
 | w::r=>by rw [map_cons];show (true && D.plains (r.map .str))=true;rw [jp r];rfl
theorem uF:∀ns:List Int,D.pys (ns.map .int)=ns.map PyData.int
 | []=>rfl
 | n::r=>by rw [map_cons,map_cons,<- uF r];rfl
theorem mf:∀ns:List Int,D.plains (ns.map .int)=true
 | []=>rfl
 | n::r=>by rw [map_cons];show (true && D.plains (r.map .int))=true;rw [mf r];rfl
def Sh(d:D):Prop:=d.plain=true/\SeqAt.shaped d.py=true
theorem vF.of{a b:D}(h:Sh a)(h':Sh b):vF a b:=⟨h.1,h'.1,h.2,h'.2⟩
theorem Sh.lstS{ws:List (List Nat)}(h:∀w∈ws,Lts w):Sh (.lst (ws.map .str)):=⟨jp ws,by show SeqAt.shaped (.list (D.pys _))=true;rw [ng];exact oG h⟩
theorem Sh.tupS{ws:List (List Nat)}(h:∀w∈ws,Lts w):Sh (.tup (ws.map .str)):=⟨jp ws,by show SeqAt.shaped (.tuple (D.pys _))=true;rw [ng];exact (l7.tuple (l8 h)).shaped (by decide)⟩
theorem Sh.lstI(ns:List Int):Sh (.lst (ns.map .int)):=⟨mf ns,by show SeqAt.shaped (.list (D.pys _))=true;rw [uF];exact (l7.list (uc ns)).shaped (by decide)⟩
theorem nh{d:D}(h:Sh d):deq d d=true:=wl h.2
theorem Pcs.lts{m:Nat}{ws:List (List Nat)}(h:Pcs m ws):∀w∈ws,Lts w:=fun w hw=>(h w hw).2.2
theorem wH{α:Type}(c:α)(n:Nat):lD [c] (n:Int)=List.replicate n c:=by
 unfold lD;rw [toNat_natCast]
 induction n with
 | zero=>rfl
 | succ n ih=>rw [replicate_succ,flatten_cons,ih];rfl
def lF(sep:List Nat):List (List Nat)->List Nat
 | []=>[]
 | [w]=>w
 | w::v::r=>w++sep++lF sep (v::r)
theorem uG(sep:List Nat):∀ws:List (List Nat),PySem.Str.join (S sep) (ws.map S)=S (lF sep ws)
 | []=>rfl
 | [w]=>rfl
 | w::v::r=>by
  show S w++S sep++PySem.Str.join (S sep) ((v::r).map S)=S (w++sep++lF sep (v::r));rw [uG sep (v::r),yo,yo]
theorem oN(sep:List Nat):∀ws:List (List Nat),(lF sep ws).length<=ws.flatten.length+ws.length*sep.length
 | []=>zero_le _
 | [w]=>by show w.length<=_;rw [flatten_cons,flatten_nil,append_nil];omega
 | w::v::r=>by
  have ih:=oN sep (v::r);show (w++sep++lF sep (v::r)).length<=_;rw [flatten_cons,length_append,length_append,length_append];rw [length_cons (as:=v::r),succ_mul];omega
section
variable {K:PySem.W.Frag}{X:Cx}
def xG(K:PySem.W.Frag):V->List V->Hp->VK->Prop:=fun x xs H Q=>∃(p:Addr) (sep:List Nat) (ws:List (List Nat)),x=.str (S sep)/\xs=[.ref p]/\SqL K H p (ws.map tx)/\ws.flatten.length+ws.length*sep.length<=1000000/\Q (.str (S (lF sep ws))) H
theorem wI(K:PySem.W.Frag)(e:X.K=K):MtR X "str.join" (xG K):=by
 subst e;intro pins s σ H x xs v us Q I rx rs h;obtain⟨p,sep,ws,rfl,rfl,hS,hz,q⟩:=h;obtain⟨t,rfl⟩:=rx;obtain⟨u,rfl,ru⟩:=gJ rs;cases (show u=Value.ref p from ru);obtain⟨its,rv,pl,_⟩:=I.list hS
 refine join_list pl.isList (by simpa using uk rv) ?_ fun t' k=>?_
 .rw [map_map,fk]
  have e1:(ws.map ((fun y:Str=>y.length) ∘ S)).sum=ws.flatten.length:=by
   rw [length_flatten];exact congrArg List.sum (map_congr_left fun w _=>fk w)
  rw [e1];simp only [length_map];omega
 .refine⟨.str (S (lF sep ws)),H,I.tok _,⟨t',?_⟩,q⟩;rw [<- uG];exact congrArg (fun z=>Value.str z t') (StrLaws.glued_eq_join _ _)
def uH:FM
 | [],[.lst ds],Q=>∃ws:List (List Nat),ds=ws.map .str/\ws.flatten.length<=1000000/\Q (.dat (.str ws.flatten))
 | c::sep,[.lst ds],Q=>∃ws:List (List Nat),ds=ws.map .str/\ws.flatten.length+ws.length*(c::sep).length<=1000000/\Q (.dat (.str (lF (c::sep) ws)))
 | _,_,_=>False
theorem oO:∀ws:List (List Nat),lF [] ws=ws.flatten
 | []=>rfl
 | [w]=>by show w=w++[];rw [append_nil]
 | w::v::r=>by show w++[]++lF [] (v::r)=_;rw [oO (v::r),append_nil];rfl
theorem wJ:LM K (xG K) uH:=by
 intro O H l xs as Q Q' dom hl fs q k;unfold uH at q
 split at q
 .obtain⟨ws,rfl,hw,q⟩:=q
  cases fs with
  | cons a b =>
   cases b;obtain⟨p,ys,rfl,e1,f1⟩:=a.lst;rw [f1.strs] at e1;refine⟨p,[],ws,rfl,rfl,SqL.of e1,by rw [length_nil,mul_zero];exact hw,?_⟩;rw [oO];exact k _ H _ q (Gr.refl _) (.str _ hw)
 .obtain⟨ws,rfl,hw,q⟩:=q
  cases fs with
  | cons a b =>
   cases b;obtain⟨p,ys,rfl,e1,f1⟩:=a.lst;rw [f1.strs] at e1;exact⟨p,_,ws,rfl,rfl,SqL.of e1,hw,k _ H _ q (Gr.refl _) (.str _ (le_trans (oN _ _) hw))⟩
 .exact q.elim
end
section
variable {X:Cx}{K:PySem.W.Frag}
def uI(neg:Bool):R2:=fun x y H Q=>∃a b,x=.ref a/\y=.ref b/\H a=some (.dK [])/\H b=some (.dK [])/\Q (.bl (!neg)) H
theorem wK(hu:X.A.units+64<cLine):OpR X (compareOp .Eq) (uI false):=by
 intro pins s σ H x y v u Q I rx ry ⟨a,b,e1,e2,h1,h2,q⟩;subst e1 e2;cases rx;cases ry;obtain⟨_,y1,vs,r1,p1⟩:=(show bK X.prog X.w H s.heap a (.dK []) from I.hok a _ h1)
 obtain⟨_,y2,ws,r2,p2⟩:=(show bK X.prog X.w H s.heap b (.dK []) from I.hok b _ h2)
 cases r1;cases r2;exact PySem.W.keq_eq (r:=true) y1 y2 p1 p2 (by omega) (fun _=>.nil) ⟨.bl true,H,I,rfl,q⟩
theorem wL(hu:X.A.units+64<cLine):OpR X (compareOp .NotEq) (uI true):=by
 intro pins s σ H x y v u Q I rx ry ⟨a,b,e1,e2,h1,h2,q⟩;subst e1 e2;cases rx;cases ry;obtain⟨_,y1,vs,r1,p1⟩:=(show bK X.prog X.w H s.heap a (.dK []) from I.hok a _ h1)
 obtain⟨_,y2,ws,r2,p2⟩:=(show bK X.prog X.w H s.heap b (.dK []) from I.hok b _ h2)
 cases r1;cases r2;exact PySem.W.keq_ne (r:=true) y1 y2 p1 p2 (by omega) (fun _=>.nil) ⟨.bl false,H,I,rfl,q⟩
def wM(K:PySem.W.Frag)(neg:Bool):R2:=fun x y H Q=>Be K neg x y H Q\/uI neg x y H Q
theorem kG(K:PySem.W.Frag)(e:X.K=K)(hu:X.A.units+64<cLine):OpR X (compareOp .Eq) (wM K false):=OpR.or (Ez K e hu) (wK hu)
theorem lG(K:PySem.W.Frag)(e:X.K=K)(hu:X.A.units+64<cLine):OpR X (compareOp .NotEq) (wM K true):=OpR.or (EA K e hu) (wL hu)
def si:F2
 | .dic [] [],.dic [] [],Q=>Q (.dat (.bl true))
 | a,b,Q=>fEq a b Q
def sK:F2
 | .dic [] [],.dic [] [],Q=>Q (.dat (.bl false))
 | a,b,Q=>fNe a b Q
theorem FVc.dic0{O:Addr->Prop}{H:Hp}{v:V}(h:FVc K O H v (.dic [] [])):∃a,v=.ref a/\H a=some (.dK []):=by
 cases h.fv nofun nofun with
 | dic n e m f =>
  rename_i a kvs
  cases kvs with
  | nil=>exact⟨a,rfl,e⟩
  | cons x r=>cases m
theorem gM:LO K (wM K false) si:=by
 intro O H x y a b Q Q' dom fx fy q k;unfold si at q
 split at q
 .obtain⟨a,rfl,e1⟩:=fx.dic0;obtain⟨b,rfl,e2⟩:=fy.dic0;exact .inr ⟨a,b,rfl,rfl,e1,e2,k _ H _ q (Gr.refl _) (.bl _)⟩
 .exact .inl (Df O H x y _ _ Q Q' dom fx fy q k)
theorem ig:LO K (wM K true) sK:=by
 intro O H x y a b Q Q' dom fx fy q k;unfold sK at q
 split at q
 .obtain⟨a,rfl,e1⟩:=fx.dic0;obtain⟨b,rfl,e2⟩:=fy.dic0;exact .inr ⟨a,b,rfl,rfl,e1,e2,k _ H _ q (Gr.refl _) (.bl _)⟩
 .exact .inl (Dg O H x y _ _ Q Q' dom fx fy q k)
end
theorem uJ{ds:List D}{k:Nat}(h:k<ds.length):itD ds k∈ds:=mem_of_getElem? (yN h)
abbrev SIt(h:Heap)(a:Addr)(x:Str)(t:Tok)(i:Nat):Prop:=h.IsStrIter a (strIterType x) x t i
theorem SIt.mv{h h':Heap}{a:Addr}{x:Str}{t:Tok}{i:Nat}(W:SIt h a x t i)(k:∀o,h.get? a=some o->h'.get? a=some o):SIt h' a x t i:=let ⟨o,ho,r⟩:=W;⟨o,k o ho,r⟩
section
variable {P:Program}{w:World}{A:Around}{E:Value->Shared->Prop}{s:Shared}{z U V i j:Addr}{n:Nat}{x y:Str}{t t':Tok}{cx cy:Nat}{u v:Value}
theorem gN{Q:Value->Shared->Prop}(W:SIt s.heap i x t n)(hx:x.cps[n]?=some cx)(hQ:∀h',SIt h' i x t (n+1)->Heap.SameBut i s.heap h'->Q (.str ⟨#[cx]⟩ s.toks) { s with heap:=h',toks:=s.toks+1 }) :
  wpAny (model P w) A (Builtin.SmallTypes.nextOf (.ref i)) Q E s:=by
 unfold SIt strIterType at W hQ
 cases ha:x.cps.all (·<128)
 .simp only [ha,false_eq_true,if_false] at W hQ;exact wpAny_nextOf_wide_item W hx hQ
 .simp only [ha,if_true] at W hQ;exact wpAny_nextOf_ascii_item W hx hQ
theorem kH{Q:Value->Shared->Prop}(hh:A.handled=none)(W:SIt s.heap i x t n)(hx:x.cps[n]?=none)
  (hE:∀h' e,Heap.ExtBut i s.heap h'->(∃o,h'.get? e=some o/\o.cls=.type "StopIteration")->E (.ref e) { s with heap:=h' }) :
  wpAny (model P w) A (Builtin.SmallTypes.nextOf (.ref i)) Q E s:=by
 unfold SIt strIterType at W
 cases ha:x.cps.all (·<128)
 .simp only [ha,false_eq_true,if_false] at W;exact wpAny_nextOf_wide_end hh W hx hE
 .simp only [ha,if_true] at W;exact wpAny_nextOf_ascii_end hh W hx hE
theorem y6{Q:Value->Shared->Prop}(D:ZA z U V i j)(hz:IsZip s.heap z U V .none)(hU:IsPair s.heap U (.ref i) (.ref j))(hV:IsPair s.heap V u v)
  (W1:SIt s.heap i x t n) (W2:SIt s.heap j y t' n) (hx:x.cps[n]?=some cx) (hy:y.cps[n]?=some cy)
  (hQ:∀h',IsZip h' z U V (rawInt s.heap.objs.size)->IsPair h' V (.str ⟨#[cx]⟩ s.toks) (.str ⟨#[cy]⟩ (s.toks+1))->SIt h' i x t (n+1)->SIt h' j y t' (n+1)->IsPair h' s.heap.objs.size (.str ⟨#[cx]⟩ s.toks) (.str ⟨#[cy]⟩ (s.toks+1))->h'.objs.size=s.heap.objs.size+1 ->
   (∀b o,b≠z->b≠V->b≠i->b≠j->s.heap.get? b=some o->h'.get? b=some o)->Q (.ref s.heap.objs.size) { s with heap:=h',toks:=s.toks+1+1 }) :
  wpAny (model P w) A (Builtin.«zip.__next__» ⟨[.ref z],[]⟩) (fun f s'=>∃r,f=.done (.ret r)/\Q r s') E s:=by
 refine wpAny_bind (m:=field (.ref z) 2) (wpAny_field hz rfl (x:=.bool false) rfl (wpAny_bind (m:=field (.ref z) 3) (wpAny_field hz rfl (x:=.ref U) rfl (wpAny_bind (wpAny_seqItems hU rfl ?_)))));refine wpAny_bind (m:=Builtin.SmallTypes.ownedTupleIsFree (.ref z)) ?_;unfold Builtin.SmallTypes.ownedTupleIsFree;refine wpAny_bind (wpAny_field hz rfl (x:=.none) rfl (wpAny_pure ?_));simp only [if_true];refine wpAny_bind (wpAny_rule (wpAny_bind (wpAny_field hz rfl (x:=.ref V) rfl (wpAny_bind (wpAny_setField_rec hz (by simp) fun g1 z1 b1=>wpAny_bind ?_)))))
 replace z1:IsZip g1 z U V .ellipsis:=z1
 simp only [zipIdx_cons,zipIdx_nil,forIn_cons,forIn_nil];have e1:=b1.extBut;refine wpAny_bind (wpAny_bind (wpAny_onRaise (wpAny_bind (m:=Builtin.SmallTypes.nextOf (.ref i)) (gN (W1.mv fun o e=>e1 _ o D.iz e) hx fun g2 w1 b2=>wpAny_pure ?_))));have e2:=b2.extBut;have v2:IsPair g2 V u v:=e2 _ _ D.Vi (e1 _ _ D.Vz hV);refine wpAny_bind (wpAny_seqItems v2 rfl (wpAny_bind (wpAny_updateSeq_pair v2 fun g3 v3 b3=>wpAny_bind (wpAny_letGo (wpAny_pure ?_)))))
 replace v3:IsPair g3 V (.str ⟨#[cx]⟩ s.toks) v:=v3
 have e3:=b3.extBut;refine wpAny_bind (wpAny_bind (wpAny_onRaise (wpAny_bind (m:=Builtin.SmallTypes.nextOf (.ref j)) (gN (W2.mv fun o e=>e3 _ o D.Vj.symm (e2 _ o D.ij.symm (e1 _ o D.jz e))) hy fun g4 w2 b4=>wpAny_pure ?_))));have e4:=b4.extBut;have v4:IsPair g4 V (.str ⟨#[cx]⟩ s.toks) v:=e4 _ _ D.Vj v3;refine wpAny_bind (wpAny_seqItems v4 rfl (wpAny_bind (wpAny_updateSeq_pair v4 fun g5 v5 b5=>wpAny_bind (wpAny_letGo (wpAny_pure (wpAny_pure ?_))))))
 replace v5:IsPair g5 V (.str ⟨#[cx]⟩ s.toks) (.str ⟨#[cy]⟩ (s.toks+1)):=v5
 have e5:=b5.extBut;refine wpAny_bind (wpAny_seqItems v5 rfl (wpAny_bind (wpAny_newTuple ?_)));have sz:g5.objs.size=s.heap.objs.size:=by rw [b5.1,b4.1,b3.1,b2.1,b1.1]
 have z5:IsZip g5 z U V .ellipsis:=e5 _ _ D.Vz.symm (e4 _ _ D.jz.symm (e3 _ _ D.Vz.symm (e2 _ _ D.iz.symm z1)));have k5:∀b o,b≠z->b≠V->b≠i->b≠j->s.heap.get? b=some o->g5.get? b=some o:=fun b o q1 q2 q3 q4 e=>e5 _ _ q2 (e4 _ _ q4 (e3 _ _ q2 (e2 _ _ q3 (e1 _ _ q1 e))));have w15:SIt g5 i x t (n+1):=w1.mv fun o e=>e5 _ o D.Vi.symm (e4 _ o D.ij (e3 _ o D.Vi.symm e));have w25:SIt g5 j y t' (n+1):=w2.mv fun o e=>e5 _ o D.Vj.symm e
 have zlt:z<g5.objs.size:=Heap.lt_size z5;refine wpAny_bind (m:=Builtin.SmallTypes.ownedTupleHandOut (.ref z) (.ref g5.objs.size)) ?_;unfold Builtin.SmallTypes.ownedTupleHandOut;have z6:IsZip (g5.push { cls:=.type "tuple",data:=.seq #[(.str ⟨#[cx]⟩ s.toks),(.str ⟨#[cy]⟩ (s.toks+1))] }) z U V .ellipsis:=Heap.get?_push_of_some _ z5;refine wpAny_bind (wpAny_setField_rec z6 (by simp) fun g7 z7 b7=>?_)
 replace z7:IsZip g7 z U V (rawInt g5.objs.size):=z7
 refine wpAny_setField_rec z7 (by simp) fun g8 z8 b8=>?_
 replace z8:IsZip g8 z U V (rawInt g5.objs.size):=z8
 have up:∀b o,b≠z->g5.get? b=some o->g8.get? b=some o:=fun b o q e=>b8.extBut _ _ q (b7.extBut _ _ q (Heap.get?_push_of_some _ e));have t8:IsPair g8 g5.objs.size (.str ⟨#[cx]⟩ s.toks) (.str ⟨#[cy]⟩ (s.toks+1)):=b8.extBut _ _ (ne_of_gt zlt) (b7.extBut _ _ (ne_of_gt zlt) (Heap.get?_push_size _ rfl));have s8:g8.objs.size=g5.objs.size+1:=by rw [b8.1,b7.1,Heap.size_push]
 rw [sz] at z8 t8 s8;refine wpAny_pure ⟨_,rfl,?_⟩;show Q (.ref g5.objs.size) _;rw [sz];exact hQ g8 z8 (up _ _ D.Vz v5) (w15.mv fun o e=>up _ o D.iz e) (w25.mv fun o e=>up _ o D.jz e) t8 s8 fun b o q1 q2 q3 q4 e=>up b o q1 (k5 b o q1 q2 q3 q4 e)
theorem BB{Q:Fin->Shared->Prop}(hh:A.handled=none)(D:ZA z U V i j)(hz:IsZip s.heap z U V .none)(hU:IsPair s.heap U (.ref i) (.ref j))(hV:IsPair s.heap V u v)
  (W1:SIt s.heap i x t n) (W2:SIt s.heap j y t' n) (hend:x.cps[n]?=none\/y.cps[n]?=none)
  (hE:∀h' tk e,(∀b o,b≠z->b≠V->b≠i->b≠j->s.heap.get? b=some o->h'.get? b=some o)->(∃o,h'.get? e=some o/\o.cls=.type "StopIteration")->E (.ref e) { s with heap:=h',toks:=tk }) :
  wpAny (model P w) A (Builtin.«zip.__next__» ⟨[.ref z],[]⟩) Q E s:=by
 refine wpAny_bind (m:=field (.ref z) 2) (wpAny_field hz rfl (x:=.bool false) rfl (wpAny_bind (m:=field (.ref z) 3) (wpAny_field hz rfl (x:=.ref U) rfl (wpAny_bind (wpAny_seqItems hU rfl ?_)))));refine wpAny_bind (m:=Builtin.SmallTypes.ownedTupleIsFree (.ref z)) ?_;unfold Builtin.SmallTypes.ownedTupleIsFree;refine wpAny_bind (wpAny_field hz rfl (x:=.none) rfl (wpAny_pure ?_));simp only [if_true];refine wpAny_bind (wpAny_rule (wpAny_bind (wpAny_field hz rfl (x:=.ref V) rfl (wpAny_bind (wpAny_setField_rec hz (by simp) fun g1 z1 b1=>wpAny_bind ?_)))))
 replace z1:IsZip g1 z U V .ellipsis:=z1
 simp only [zipIdx_cons,zipIdx_nil,forIn_cons,forIn_nil];have e1:=b1.extBut
 cases hx:x.cps[n]? with
 | none =>
  refine wpAny_bind (wpAny_bind (wpAny_onRaise (wpAny_bind (m:=Builtin.SmallTypes.nextOf (.ref i)) (kH hh (W1.mv fun o e=>e1 _ o D.iz e) hx fun g2 e b2 he=>?_))));obtain⟨oe,ge,ce⟩:=he;have z2:IsZip g2 z U V .ellipsis:=b2 _ _ D.iz.symm z1;have ez:e≠z:=fun q=>by subst q;rw [z2] at ge;cases ge;simp at ce
  exact wpAny_setField_rec z2 (by simp) fun g3 _ b3=>hE g3 _ e (fun b o q1 _ q3 _ q=>b3.extBut _ _ q1 (b2 _ _ q3 (e1 _ _ q1 q))) ⟨oe,b3.extBut _ _ ez ge,ce⟩
 | some cx =>
  have hy:y.cps[n]?=none:=by
   rcases hend with q|q
   .rw [hx] at q;cases q
   .exact q
  refine wpAny_bind (wpAny_bind (wpAny_onRaise (wpAny_bind (m:=Builtin.SmallTypes.nextOf (.ref i)) (gN (W1.mv fun o e=>e1 _ o D.iz e) hx fun g2 w1 b2=>wpAny_pure ?_))));have e2:=b2.extBut;have v2:IsPair g2 V u v:=e2 _ _ D.Vi (e1 _ _ D.Vz hV);refine wpAny_bind (wpAny_seqItems v2 rfl (wpAny_bind (wpAny_updateSeq_pair v2 fun g3 v3 b3=>wpAny_bind (wpAny_letGo (wpAny_pure ?_)))));have e3:=b3.extBut;refine wpAny_bind (wpAny_bind (wpAny_onRaise (wpAny_bind (m:=Builtin.SmallTypes.nextOf (.ref j)) (kH hh (W2.mv fun o e=>e3 _ o D.Vj.symm (e2 _ o D.ij.symm (e1 _ o D.jz e))) hy fun g4 e b4 he=>?_))))
  obtain⟨oe,ge,ce⟩:=he;have z4:IsZip g4 z U V .ellipsis:=b4 _ _ D.jz.symm (e3 _ _ D.Vz.symm (e2 _ _ D.iz.symm z1));have ez:e≠z:=fun q=>by subst q;rw [z4] at ge;cases ge;simp at ce
  exact wpAny_setField_rec z4 (by simp) fun g5 _ b5=>hE g5 _ e (fun b o q1 q2 q3 q4 q=>b5.extBut _ _ q1 (b4 _ _ q4 (e3 _ _ q2 (e2 _ _ q3 (e1 _ _ q1 q))))) ⟨oe,b5.extBut _ _ ez ge,ce⟩
end
def DB(xs ys:List V):It :=
  ⟨fun i H=>∃x y,xs[i]?=some x/\ys[i]?=some y,
   fun i H p H'=>∃T x y,H T=none/\p=.ref T/\xs[i]?=some x/\ys[i]?=some y/\H'=upd H T (.tup [x,y]),
   fun i H=>xs.length<=i\/ys.length<=i⟩
theorem uK{P:Program}{w:World}{K:PySem.W.Frag}{es:List Expr}{ct:Nat}{tp:Pos}{z U V i j:Addr}{la lb:List Nat}{t t':Tok}(D:ZA z U V i j) :
  xp P w K (.Tuple es ct tp) (DB (cD la) (cD lb)) [z,U,V,i,j] z (fun n h=>IsZip h z U V .none/\IsPair h U (.ref i) (.ref j)/\(∃u v,IsPair h V u v)/\SIt h i (S la) t n/\SIt h j (S lb) t' n) where
 mem:=by simp
 obj:=fun n h st b hb=>by
  obtain⟨hz,hU,⟨u,v,hV⟩,⟨o1,g1,c1,d1⟩,⟨o2,g2,c2,d2⟩⟩:=st;simp only [mem_cons,not_mem_nil,or_false] at hb
  rcases hb with rfl|rfl|rfl|rfl|rfl
  .exact⟨_,hz,fun v q=>by cases q⟩
  .exact⟨_,hU,fun v q=>by cases q⟩
  .exact⟨_,hV,fun v q=>by cases q⟩
  .exact⟨_,g1,fun v q=>by rw [d1] at q;cases q⟩
  .exact⟨_,g2,fun v q=>by rw [d2] at q;cases q⟩
 keep:=fun n h h' st kk=>by
  obtain⟨hz,hU,⟨u,v,hV⟩,w1,w2⟩:=st;exact⟨kk z (by simp) _ hz,kk U (by simp) _ hU,⟨u,v,kk V (by simp) _ hV⟩,w1.mv fun o e=>kk i (by simp) o e,w2.mv fun o e=>kk j (by simp) o e⟩
 item:=by
  intro X hP hw hK hc n pins s σ H E I hf st hg;subst hP hw hK;obtain⟨x,y,hx,hy⟩:=hg;obtain⟨hz,hU,⟨u,v,hV⟩,w1,w2⟩:=st;obtain⟨cx,hcx,rfl⟩:=fm hx;obtain⟨cy,hcy,rfl⟩:=fm hy;have hT:s.TypeIs (.ref z) "zip":=⟨_,hz,rfl⟩
  unfold pyNext
  refine wpAny_bind (wpAny_attempt (wpAny_callSpecial?_slot (name:=Str.ofString "__next__") hT F.slot_zip_next (wpAny_call_entry F.slot_zip_next hT F.entry_zip_next
   (y6 (cx:=cx) (cy:=cy) D hz hU hV w1 w2 (by simpa [S] using hcx) (by simpa [S] using hcy) fun h' a1 a2 a3 a4 a5 a6 a7=>wpAny_pure ?_) (F.args_zip_next_1 _))))
  refine⟨_,rfl,wpAny_letOwnedTupleGo_zip a1 fun g gz gs=>?_⟩;have lt:∀{b o},s.heap.get? b=some o->s.heap.objs.size≠b:=fun e=>ne_of_gt (Heap.lt_size e)
  have kp:∀b o,b∉[z,V,i,j]->s.heap.get? b=some o->g.get? b=some o:=fun b o hb e=>by
   simp only [mem_cons,not_mem_nil,or_false,not_or] at hb;exact gs.extBut _ _ hb.1 (a7 b o hb.1 hb.2.1 hb.2.2.1 hb.2.2.2 e)
  have I2:Inv X pins σ (upd H s.heap.objs.size (.tup [.str (S [cx]),.str (S [cy])])) { s with heap:=g,toks:=s.toks+1+1 }:=I.yielded (ch:=[z,V,i,j]) (fun b hb=>hf b (by
   simp only [mem_cons,not_mem_nil,or_false] at hb ⊢;rcases hb with q|q|q|q <;> simp [q])) (le_refl _) kp ⟨by show 2<=sizeLine;decide,[.str ⟨#[cx]⟩ s.toks,.str ⟨#[cy]⟩ (s.toks+1)],.cons ⟨_,rfl⟩ (.cons ⟨_,rfl⟩ .nil),_,gs.extBut _ _ (lt hz) a5,rfl,_,rfl⟩
  refine⟨.ref s.heap.objs.size,_,I2,rfl,⟨_,_,_,I.hok.fresh (le_refl _),rfl,hx,hy,rfl⟩,
   ⟨gz,gs.extBut _ _ D.Uz (a7 _ _ D.Uz D.UV D.Ui D.Uj hU),⟨_,_,gs.extBut _ _ D.Vz a2⟩,a3.mv fun o e=>gs.extBut _ o D.iz e,a4.mv fun o e=>gs.extBut _ o D.jz e⟩,fun b hb=>?_⟩
  rw [ap ?_]
  .exact (hf b hb).1
  .intro q;subst q;simp only [mem_cons,not_mem_nil,or_false] at hb;obtain⟨o1,g1,_⟩:=w1;obtain⟨o2,g2,_⟩:=w2
   rcases hb with q|q|q|q|q
   .exact lt hz q
   .exact lt hU q
   .exact lt hV q
   .exact lt g1 q
   .exact lt g2 q
 done:=by
  intro X hP hw hK hc n pins s σ H E I hf st hg;subst hP hw hK;have hend:(cD la).length<=n\/(cD lb).length<=n:=hg;obtain⟨hz,hU,⟨u,v,hV⟩,w1,w2⟩:=st;rw [cH,cH] at hend;have hT:s.TypeIs (.ref z) "zip":=⟨_,hz,rfl⟩
  unfold pyNext
  refine wpAny_bind (wpAny_attempt (wpAny_callSpecial?_slot (name:=Str.ofString "__next__") hT F.slot_zip_next (wpAny_call_entry F.slot_zip_next hT F.entry_zip_next
   (BB (I.ok.hd hc) D hz hU hV w1 w2 ?_ fun h' tk e hk he=>?_) (F.args_zip_next_1 _))))
  .rcases hend with q|q
   .exact .inl (by simp [S];omega)
   .exact .inr (by simp [S];omega)
  .obtain⟨o,ho,hcl⟩:=he;refine wpAny_bind (wpAny_isInstance (T:="StopIteration") (b:=true) ⟨o,ho,hcl⟩ isSubtype_stop (wpAny_pure ⟨rfl,?_⟩))
   exact I.step (g':=s.gens) (d':=s.drawn) (t':=tk) (ch:=[z,V,i,j]) (fun b hb=>by
     have q:=hf b (by
      simp only [mem_cons,not_mem_nil,or_false] at hb ⊢;rcases hb with q|q|q|q <;> simp [q])
     exact⟨q.2.2.2.1,q.2.1,q.2.2.2.2.1,q.2.2.2.2.2⟩) (fun b o _ _ hc e _=>by
     simp only [mem_cons,not_mem_nil,or_false,not_or] at hc;exact hk b o hc.1 hc.2.1 hc.2.2.1 hc.2.2.2 e) (fun b o _ _ hc e _=>⟨o.slots,by
     simp only [mem_cons,not_mem_nil,or_false,not_or] at hc;exact hk b o hc.1 hc.2.1 hc.2.2.1 hc.2.2.2 e⟩) (fun _ _ _ _ q=>q) (fun b o hc e=>⟨o,by
     simp only [mem_cons,not_mem_nil,or_false,not_or] at hc;exact hk b o hc.1 hc.2.1 hc.2.2.1 hc.2.2.2 e⟩) (fun _ _ e=>e) (fun _ _ _ e=>e) (fun b ps e=>⟨#[],by rw [e];simp⟩) (fun m hm=>by
     obtain⟨o,es,ep,ho,r⟩:=hm;exact⟨o,es,ep,hk _ o (hf z (by simp)).2.1.symm (hf V (by simp)).2.1.symm (hf i (by simp)).2.1.symm (hf j (by simp)).2.1.symm ho,r⟩) (fun b u e=>by
     have nn:∀b u,H b=some u->b≠z/\b≠V/\b≠i/\b≠j:=fun b u e=>⟨fun q=>(by rw [q,(hf z (by simp)).1] at e;cases e),fun q=>(by rw [q,(hf V (by simp)).1] at e;cases e),fun q=>(by rw [q,(hf i (by simp)).1] at e;cases e),fun q=>(by rw [q,(hf j (by simp)).1] at e;cases e)⟩
     refine (I.hok b u e).stay (fun c v hc q=>?_) (fun _ q=>q) fun _ _ q=>q
     have n4:c≠z/\c≠V/\c≠i/\c≠j:=by
      rcases hc with q|q
      .rw [q];exact nn b u e
      .exact nn c _ q
     exact hk c v n4.1 n4.2.1 n4.2.2.1 n4.2.2.2 q) I.bare
 self:=fun _ _ _ _ _ st h=>wpAny_pyIter_zip st.1 h
section
variable {P:Program}{w:World}{A:Around}{E:Value->Shared->Prop}{s:Shared}
abbrev sj(x:Str)(t:Tok):Obj:={ cls:=.type (strIterType x),data:=.fields #[.str x t,.int 0 0] }
theorem mh{x:Str}{t:Tok}{Q:Value->Shared->Prop}(hQ:Q (.ref s.heap.objs.size) { s with heap:=s.heap.push (sj x t) }):wpAny (model P w) A (pyIter (.str x t)) Q E s:=by
 unfold sj strIterType at hQ
 cases ha:x.cps.all (·<128)
 .simp only [ha,false_eq_true,if_false] at hQ;exact wpAny_pyIter_wide ha hQ
 .simp only [ha,if_true] at hQ;exact wpAny_pyIter_ascii ha hQ
abbrev yg1(h:Heap)(x:Str)(t:Tok):Heap:=h.push (sj x t)
abbrev yg2(h:Heap)(x y:Str)(t u:Tok):Heap:=(yg1 h x t).push (sj y u)
abbrev yg3(h:Heap)(x y:Str)(t u:Tok):Heap:=(yg2 h x y t u).push { cls:=.type "tuple",data:=.seq #[.ref h.objs.size,.ref (yg1 h x t).objs.size] }
abbrev yg4(h:Heap)(x y:Str)(t u:Tok):Heap:=(yg3 h x y t u).push { cls:=.type "tuple",data:=.seq #[.none,.none] }
abbrev yg5(h:Heap)(x y:Str)(t u:Tok):Heap:=(yg4 h x y t u).push { cls:=.type "zip",data:=.fields #[.none,.bool false,.bool false,.ref (yg2 h x y t u).objs.size,.ref (yg3 h x y t u).objs.size] }
theorem wN(x y:Str)(t u:Tok):Meets (Builtin.«zip.__new__» ⟨[.type "zip",.str x t,.str y u],[]⟩) (fun _ R s =>
   R (.ok (.ret (.ref (yg4 s.heap x y t u).objs.size))) { s with heap:=yg5 s.heap x y t u }) :=
 .of_wp fun prog w A R s h=>by
  obtain⟨hp,g,d,tk,os⟩:=s;have hsub:=sub_zip
  wp_walk using mh (x:=x) (t:=t),mh (x:=y) (t:=u)
  exact⟨_,rfl,h⟩
theorem wO{x y:Str}{t u:Tok}{Q:Value->Shared->Prop}
  (h:∀h',IsZip h' (s.heap.objs.size+4) (s.heap.objs.size+2) (s.heap.objs.size+3) .none->IsPair h' (s.heap.objs.size+2) (.ref s.heap.objs.size) (.ref (s.heap.objs.size+1)) ->
   IsPair h' (s.heap.objs.size+3) .none .none->SIt h' s.heap.objs.size x t 0->SIt h' (s.heap.objs.size+1) y u 0->(∀b o,s.heap.get? b=some o->h'.get? b=some o)->Q (.ref (s.heap.objs.size+4)) { s with heap:=h' }) :
  wpAny (model P w) A (call (.type "zip") [.str x t,.str y u]) Q E s:=by
 refine callType_new F.called_zip (by decide) (F.typeCall_zip_2 _ _) (F.newCall_zip_2 _ _) (fun obj=>F.args_object_init_3 obj _ _) F.entry_zip_new (wN x y t u) ?_;have z1:(yg1 s.heap x t).objs.size=s.heap.objs.size+1:=Heap.size_push ..;have z2:(yg2 s.heap x y t u).objs.size=s.heap.objs.size+2:=by rw [Heap.size_push,z1]
 have z3:(yg3 s.heap x y t u).objs.size=s.heap.objs.size+3:=by rw [Heap.size_push,z2]
 have z4:(yg4 s.heap x y t u).objs.size=s.heap.objs.size+4:=by rw [Heap.size_push,z3]
 have m4:∀b o,(yg4 s.heap x y t u).get? b=some o->(yg5 s.heap x y t u).get? b=some o:=fun b o e=>Heap.get?_push_of_some _ e;have m3:∀b o,(yg3 s.heap x y t u).get? b=some o->(yg5 s.heap x y t u).get? b=some o:=fun b o e=>m4 b o (Heap.get?_push_of_some _ e);have m2:∀b o,(yg2 s.heap x y t u).get? b=some o->(yg5 s.heap x y t u).get? b=some o:=fun b o e=>m3 b o (Heap.get?_push_of_some _ e);have m1:∀b o,(yg1 s.heap x t).get? b=some o->(yg5 s.heap x y t u).get? b=some o:=fun b o e=>m2 b o (Heap.get?_push_of_some _ e)
 have g5:(yg5 s.heap x y t u).get? (yg4 s.heap x y t u).objs.size=some _:=Heap.get?_push_size _ rfl;have g4:=m4 _ _ (Heap.get?_push_size (yg3 s.heap x y t u) (o:={ cls:=.type "tuple",data:=.seq #[.none,.none] }) rfl);have g3:=m3 _ _ (Heap.get?_push_size (yg2 s.heap x y t u) (o:={ cls:=.type "tuple",data:=.seq #[.ref s.heap.objs.size,.ref (yg1 s.heap x t).objs.size] }) rfl);have g2:=m2 _ _ (Heap.get?_push_size (yg1 s.heap x t) (o:=sj y u) rfl)
 have g1:=m1 _ _ (Heap.get?_push_size s.heap (o:=sj x t) rfl);show _/\_;rw [z2,z3,z4] at g5;rw [z1,z2] at g3;rw [z3] at g4;rw [z1] at g2;rw [z4];exact⟨⟨_,g5,rfl⟩,h _ g5 g3 g4 ⟨_,g1,rfl,rfl⟩ ⟨_,g2,rfl,rfl⟩ fun b o e=>m1 b o (Heap.get?_push_of_some _ e)⟩
end
section
variable {X:Cx}{es:List Expr}{ct:Nat}{tp:Pos}
def BC(K:PySem.W.Frag)(ta:TA):TI:=fun σ H R=>ta σ H fun vs H1=>(∃k l a c,vs=[.ref a,.ref c]/\(∃xs ys,Sq k K H1 a xs/\Sq l K H1 c ys)/\R (Itz k l K a c) H1)\/∃la lb,vs=[.str (S la),.str (S lb)]/\R (DB (cD la) (cD lb)) H1
theorem uL(K:PySem.W.Frag)(e:X.K=K){a b:Expr}{ta:TA}{p pos:Pos}(hg:Gl X "zip")(hm:X.mg "zip"=none)(ha:PA X [a,b] ta)
  (hs:starEach [a,b] X.env=[(false,eval a X.env),(false,eval b X.env)]:=by rfl) (hs2:starEach [b] X.env=[(false,eval b X.env)]:=by rfl) :
  PI X (.Tuple es ct tp) (.Call (.Name "zip" p) [a,b] [] pos) (BC K ta):=by
 subst e;intro pins s σ H R I h;refine Call_ (jH I hg hm boot_zip (PyProof.Rows.callWith_type1 (thn (ha pos pins s σ H _ I h) fun us s1 ⟨vs,H1,I1,r1,q1⟩=>?_) (by rw [hs,hs2]) (by rw [hs2];rfl)))
 have fin:∀b∈[s1.heap.objs.size+4,s1.heap.objs.size+2,s1.heap.objs.size+3,s1.heap.objs.size,s1.heap.objs.size+1],pO X pins H1 b:=fun b hb=>by
  have hle:s1.heap.objs.size<=b:=by
   simp only [mem_cons,not_mem_nil,or_false] at hb
   rcases hb with e|e|e|e|e
   .rw [e];exact le_add_right _ _
   .rw [e];exact le_add_right _ _
   .rw [e];exact le_add_right _ _
   .rw [e];exact le_refl _
   .rw [e];exact le_add_right _ _
  exact I1.fpOk hle (I1.hok.fresh hle)
 rcases q1 with ⟨k,l,a,c,e,⟨xs,ys,q1,q2⟩,q⟩|⟨la,lb,e,q⟩
 .subst e
  cases r1 with
  | cons r rr =>
   cases rr with
   | cons r' rr =>
    cases rr;cases r;cases r';obtain⟨its,rv,p,_⟩:=I1.row q1;obtain⟨jts,rv',p',_⟩:=I1.row q2;refine yw p p' fun h' g1 g2 g3 g4 g5 kk=>wpAny_pyIter_zip g1 ?_;have I2:Inv X pins σ H1 { s1 with heap:=h',toks:=s1.toks }:=I1.kept kk
    exact⟨s1.heap.objs.size+4,[s1.heap.objs.size+4,s1.heap.objs.size+2,s1.heap.objs.size+3,s1.heap.objs.size,s1.heap.objs.size+1],_,_,H1,rfl,I2,wg (i:=s1.heap.objs.size) (j:=s1.heap.objs.size+1)
     (A1 _),⟨g1,g2,⟨_,_,g3⟩,g4,g5⟩,fin,q⟩
 .subst e
  cases r1 with
  | cons r rr =>
   cases rr with
   | cons r' rr =>
    cases rr;obtain⟨t,rfl⟩:=r;obtain⟨u,rfl⟩:=r';refine wO fun h' g1 g2 g3 g4 g5 kk=>wpAny_pyIter_zip g1 ?_;have I2:Inv X pins σ H1 { s1 with heap:=h',toks:=s1.toks }:=I1.kept kk
    exact⟨s1.heap.objs.size+4,[s1.heap.objs.size+4,s1.heap.objs.size+2,s1.heap.objs.size+3,s1.heap.objs.size,s1.heap.objs.size+1],_,_,H1,rfl,I2,uK (i:=s1.heap.objs.size) (j:=s1.heap.objs.size+1)
     (A1 _),⟨g1,g2,⟨_,_,g3⟩,g4,g5⟩,fin,q⟩
def uM(pa:PTA):PTI:=fun ρ Q=>pa ρ fun as ρ1=>match as with
 | [.v (.str x),.v (.str y)]=>Q (min x.length y.length) (fun k=>.tup [.str [x.getD k 0],.str [y.getD k 0]]) ρ1
 | [.v a,.v b]=>(match rowD a,rowD b with
  | some xs,some ys=>Q (min xs.length ys.length) (fun k=>.tup [itD xs k,itD ys k]) ρ1
  | _,_=>False)
 | _=>False
end
section
variable {K:PySem.W.Frag}{ta:TA}{pa:PTA}
theorem BD{O:Addr->Prop}{H:Hp}{x y:List Nat}:Wlk K O H (DB (cD x) (cD y)) (min x.length y.length) (fun k=>.tup [.str [x.getD k 0],.str [y.getD k 0]]):=fun O' H' kk dom=>by
 refine⟨fun j hj=>?_,?_⟩
 .have h1:j<(cD x).length:=by rw [cH];omega
  have h2:j<(cD y).length:=by rw [cH];omega
  refine⟨⟨_,_,getElem?_eq_getElem h1,getElem?_eq_getElem h2⟩,fun v H'' ⟨T,u,w,hT,e,y1,y2,e2⟩=>?_⟩;subst e e2;obtain⟨c,hc,rfl⟩:=fm y1;obtain⟨d,hd,rfl⟩:=fm y2;show Gr H' _/\FV K O' _ _ (.tup [.str [x.getD j 0],.str [y.getD j 0]]);rw [getD_eq_getElem?_getD,getD_eq_getElem?_getD,hc,hd];exact⟨Gr.new hT,.tup (fun z=>dom T z hT) ay (.cons (.str _ (by show 1<=1000000;decide)) (.cons (.str _ (by show 1<=1000000;decide)) .nil))⟩
 .show (cD x).length<=_\/(cD y).length<=_;rw [cH,cH];omega
theorem uN(h:LAs K ta pa):LI K (BC K ta) (uM pa):=fun A ρ σ H Q Q' R q k=>h A ρ σ H _ _ R q fun vs H1 as ρ1 q1 f1 R1 o1=>by
 split at q1
 .rename_i x y
  cases o1 with
  | cons o1 o2 =>
   cases o2 with
   | cons o2 o3 =>
    cases o3;have f1':FV K _ H1 _ (.str x):=o1;have f2':FV K _ H1 _ (.str y):=o2;cases f1';cases f2';exact .inr ⟨x,y,rfl,k _ H1 _ _ ρ1 q1 f1 R1 BD⟩
 .rename_i da db hno;have:=Bj (K:=K) (ta:=ta) (pa:=pa) h
  cases o1 with
  | cons o1 o2 =>
   cases o2 with
   | cons o2 o3 =>
    cases o3
    split at q1
    .rename_i xs ys ex ey;obtain⟨b1,a1,us,rfl,l1,w1⟩:=FV.rowD (show FV K _ H1 _ da from o1) ex;obtain⟨b2,a2,ws,rfl,l2,w2⟩:=FV.rowD (show FV K _ H1 _ db from o2) ey;have t1:=w1 _ H1 (fun b o n h=>⟨n,h⟩);have t2:=w2 _ H1 (fun b o n h=>⟨n,h⟩);refine .inl ⟨b1,b2,a1,a2,rfl,⟨us,ws,t1.1,t2.1⟩,k _ H1 _ _ ρ1 q1 f1 R1 fun O' H' kk dom=>?_⟩;obtain⟨s1,g1⟩:=w1 O' H' kk;obtain⟨s2,g2⟩:=w2 O' H' kk;refine⟨fun j hj=>?_,⟨us,ws,s1,s2,by omega⟩⟩
     have h1:j<us.length:=by omega
     have h2:j<ws.length:=by omega
     refine⟨⟨us,ws,_,_,s1,s2,getElem?_eq_getElem h1,getElem?_eq_getElem h2⟩,fun x H'' ⟨T,u,w,hT,e,y1,y2,e2⟩=>?_⟩;subst e e2;obtain⟨d1,hd1,fd1⟩:=g1.get (y1 us s1);obtain⟨d2,hd2,fd2⟩:=g2.get (y2 ws s2);have e1:itD xs j=d1:=by unfold itD;rw [getD_eq_getElem?_getD,hd1];rfl
     have e2:itD ys j=d2:=by unfold itD;rw [getD_eq_getElem?_getD,hd2];rfl
     rw [e1,e2];have kk2:aO O' H' O' (upd H' T (.tup [u,w])):=fun b o n e=>⟨n,by rw [ap (aH e hT)];exact e⟩
     exact⟨Gr.new hT,.tup (fun z=>dom T z hT) ay (.cons (fd1.keeps kk2) (.cons (fd2.keeps kk2) .nil))⟩
    .exact q1.elim
 .exact q1.elim
end
section
variable {X:Cx}{K:PySem.W.Frag}{te:TE}{pe:PTE}
def BE:List V->Hp->VK->Prop:=fun xs H Q=>(∃b,xs=[.bl b]/\Q (.int (if b then 1 else 0)) H)\/∃i,xs=[.int i]/\Q (.int i) H
theorem DC:bJ X (.type "int") BE:=by
 intro pins s σ H xs us Q I r h
 rcases h with ⟨b,rfl,q⟩|⟨i,rfl,q⟩
 .obtain⟨u,rfl,ru⟩:=gJ r;cases (show u=Value.bool b from ru);exact call_int_bool ⟨.int _,H,I.tok _,⟨_,rfl⟩,q⟩
 .obtain⟨u,rfl,t,rfl⟩:=gJ r;exact call_int_int ⟨.int _,H,I,⟨_,rfl⟩,q⟩
def y8:FN
 | [.bl b],Q=>Q (.dat (.int (if b then 1 else 0)))
 | [.int i],Q=>Q (.dat (.int i))
 | _,_=>False
theorem BF:LC K BE y8:=by
 intro O H xs as Q Q' dom fs q k;unfold y8 at q
 split at q
 .cases fs with|cons a b=>cases b;rw [a.bl];exact .inl ⟨_,rfl,k _ H _ q (Gr.refl _) (.int _)⟩
 .cases fs with|cons a b=>cases b;rw [a.int];exact .inr ⟨_,rfl,k _ H _ q (Gr.refl _) (.int _)⟩
 .exact q.elim
def y9(K:PySem.W.Frag):List V->Hp->VK->Prop:=fun xs H Q=>∃(p:Addr) (ns:List Int),xs=[.ref p]/\SqL K H p (ns.map V.int)/\0<ns.length/\∀m:Int,m∈ns->(∀a∈ns,a<=m)->Q (.int m) H
theorem BG(K:PySem.W.Frag)(e:X.K=K)(hc:X.calm=true):bJ X (.builtin "max") (y9 K):=by
 subst e;intro pins s σ H xs us Q I r h;obtain⟨p,ns,rfl,hS,hne,q⟩:=h;obtain⟨u,rfl,ru⟩:=gJ r;cases (show u=Value.ref p from ru);obtain⟨its,rv,pl,hz⟩:=I.list hS;have hi:=jh rv;have hl:=pl.isList;obtain⟨ys,e⟩:=hi.allInts.items;have hns:ns=ys.toList.map (·.1):=by rw [<- hi.numsOf,<- nums_intItems,<- e]
 have hsz:0<ys.size:=by
  have h3:=hne;rw [hns,length_map,Array.length_toList] at h3;exact h3
 rw [e] at hl;refine max_intList (by exact I.ok.hd hc) hl hsz fun v h' tk hv hk=>?_;obtain⟨t,rfl⟩:=intItems_at hv;obtain⟨h1,h2⟩:=argBest_gt (numAt ys) (ys.size - 1)
 refine⟨.int _,H,I.kept (t':=tk) hk,⟨t,rfl⟩,q _ ?_ fun a ha=>?_⟩
 .rw [hns,numAt_eq];exact getD_mem (by rw [length_map,Array.length_toList];omega)
 .rw [hns] at ha;obtain⟨j,hj,rfl⟩:=mem_getD ha;rw [length_map,Array.length_toList] at hj;rw [<- numAt_eq];exact h2 j (by omega)
def za:FN
 | [.lst ds],Q=>∃ns:List Int,ds=ns.map .int/\0<ns.length/\∀m:Int,m∈ns->(∀a∈ns,a<=m)->Q (.dat (.int m))
 | _,_=>False
theorem zb:LC K (y9 K) za:=by
 intro O H xs as Q Q' dom fs q k;unfold za at q
 split at q
 .obtain⟨ns,rfl,h0,q⟩:=q
  cases fs with
  | cons a b =>
   cases b;obtain⟨p,ys,rfl,e1,f1⟩:=a.lst;rw [f1.ints] at e1;exact⟨p,ns,rfl,SqL.of e1,h0,fun m h1 h2=>k _ H _ (q m h1 h2) (Gr.refl _) (.int _)⟩
 .exact q.elim
end
abbrev lc2(elt t1 i1:Expr)(f1:List Expr)(t2 i2:Expr)(f2:List Expr)(scope:Scope)(pos:Pos):Expr:=.ListComp elt [⟨t1,i1,f1,0⟩,⟨t2,i2,f2,0⟩] scope pos
def sk(e i2:Expr)(acc:Value)(env:Env):Sem Unit:=do
 let x <- eval i2 env
 standAt i2.pos
 let x <- foldedSetIterable i2 env x
 let _ <- runOwn (.compStart e 1 (<- holding [x] (pyIter x)) acc env) env
def uO(elt:Expr)(acc:Value)(env:Env):Sem Unit:=do let _ <- call (.builtin "list.append") [acc,<- eval elt env]
theorem sm(elt t1 i1:Expr)(f1:List Expr)(t2 i2:Expr)(f2:List Expr)(scope:Scope)(pos:Pos)(it acc:Value)(env:Env) :
  compTurn (lc2 elt t1 i1 f1 t2 i2 f2 scope pos) 0 it acc env=(do
   standAt i1.pos
   match <- pyNext it with
   | none=>pure (.done .next)
   | some v =>
    letOwnedTupleGo t1 it v
    assign t1 env v
    let mut ok:=true
    for c in f1 do
     if ok then ok <- isTrue c env (eval c env)
    if ok then
     let x <- eval i2 env
     standAt i2.pos
     let x <- foldedSetIterable i2 env x
     let _ <- runOwn (.compStart (lc2 elt t1 i1 f1 t2 i2 f2 scope pos) 1 (<- holding [x] (pyIter x)) acc env) env
    again (.compLoop (lc2 elt t1 i1 f1 t2 i2 f2 scope pos) 0 it acc env)):=by rfl
theorem sr{α:Type}(e i2:Expr)(acc:Value)(env:Env)(k:Sem α):(eval i2 env >>= fun x=>standAt i2.pos >>= fun _=>foldedSetIterable i2 env x >>= fun x=>holding [x] (pyIter x) >>= fun it=>runOwn (.compStart e 1 it acc env) env >>= fun _=>k)=(sk e i2 acc env >>= fun _=>k):=by
 unfold sk;simp only [bind_assoc,pure_bind]
theorem ss(elt t1 i1:Expr)(f1:List Expr)(t2 i2:Expr)(f2:List Expr)(scope:Scope)(pos:Pos)(it acc:Value)(env:Env) :
  compTurn (lc2 elt t1 i1 f1 t2 i2 f2 scope pos) 1 it acc env=(do
   standAt i2.pos
   match <- pyNext it with
   | none=>pure (.done .next)
   | some v =>
    letOwnedTupleGo t2 it v
    assign t2 env v
    let mut ok:=true
    for c in f2 do
     if ok then ok <- isTrue c env (eval c env)
    if ok then
     (uO elt acc env)
    again (.compLoop (lc2 elt t1 i1 f1 t2 i2 f2 scope pos) 1 it acc env)):=by rfl
section
variable {prog:Program}{w:World}{A:Around}{R:Result->Shared->Prop}{s:Shared}
theorem lH{elt t1 i1 t2 i2:Expr}{f1 f2:List Expr}{scope:Scope}{pos:Pos}{it acc:Value}{env:Env}(I:Nat->Shared->Prop)
  (turn:∀n s,I n s->wpAny (model prog w) A (pyNext it) (fun r s₁=>match r with
   | none=>R (.ok .next) s₁
   | some v=>wpAny (model prog w) A (letOwnedTupleGo t1 it v) (fun _ s₂=>wpAny (model prog w) A (assign t1 env v) (fun _ s₃ =>
     wpAny (model prog w) A (forIn f1 true fun c r=>if r=true then do let ok <- isTrue c env (eval c env);pure (ForInStep.yield ok) else pure (ForInStep.yield r)) (fun ok s₄ =>
      if ok=true then wpAny (model prog w) A (sk (lc2 elt t1 i1 f1 t2 i2 f2 scope pos) i2 acc env) (fun _ s₆=>∃m,m<n/\I m s₆) (fun _ _=>False) s₄
      else ∃m,m<n/\I m s₄) (fun _ _=>False) s₃) (fun _ _=>False) s₂) (fun _ _=>False) s₁) (fun _ _=>False) s)
  (n:Nat) (h:I n s) :
  codeAny (model prog w) A (.compLoop (lc2 elt t1 i1 f1 t2 i2 f2 scope pos) 0 it acc env) R s:=by
 refine codeAny_loop rfl I (fun n s hI=>?_) n h;show wpAny _ A ((compTurn (lc2 elt t1 i1 f1 t2 i2 f2 scope pos) 0 it acc env).onRaise (fun x=>do noteFrame x env;theTreesLotGoes x)) _ _ s;refine wpAny_noted ?_;rw [sm];refine wpAny_bind (wpAny_standAt (wpAny_bind (wpAny_mono (turn n s hI) (fun r s₁ h₁=>?_) fun _ _ h'=>h'.elim)))
 cases r with
 | none=>exact wpAny_pure h₁
 | some v =>
  refine wpAny_bind (wpAny_mono h₁ (fun _ s₂ h₂=>?_) fun _ _ h'=>h'.elim);refine wpAny_bind (wpAny_mono h₂ (fun _ s₃ h₃=>wpAny_bind (wpAny_mono h₃ (fun ok s₄ h₄=>?_) fun _ _ h'=>h'.elim)) fun _ _ h'=>h'.elim)
  cases ok with
  | false=>exact wpAny_pure ⟨rfl,h₄⟩
  | true =>
   have e:=sr (lc2 elt t1 i1 f1 t2 i2 f2 scope pos) i2 acc env (again (.compLoop (lc2 elt t1 i1 f1 t2 i2 f2 scope pos) 0 it acc env));show wpAny _ _ (eval i2 env >>= fun x=>standAt i2.pos >>= fun _=>foldedSetIterable i2 env x >>= fun x=>holding [x] (pyIter x) >>= fun it'=>runOwn (.compStart (lc2 elt t1 i1 f1 t2 i2 f2 scope pos) 1 it' acc env) env >>= fun _=>again (.compLoop (lc2 elt t1 i1 f1 t2 i2 f2 scope pos) 0 it acc env)) _ _ _
   rw [e];exact wpAny_bind (wpAny_mono h₄ (fun _ s₆ h₆=>wpAny_pure ⟨rfl,h₆⟩) fun _ _ h'=>h'.elim)
theorem lI{elt t1 i1 t2 i2:Expr}{f1 f2:List Expr}{scope:Scope}{pos:Pos}{it acc:Value}{env:Env}(I:Nat->Shared->Prop)
  (turn:∀n s,I n s->wpAny (model prog w) A (pyNext it) (fun r s₁=>match r with
   | none=>R (.ok .next) s₁
   | some v=>wpAny (model prog w) A (letOwnedTupleGo t2 it v) (fun _ s₂=>wpAny (model prog w) A (assign t2 env v) (fun _ s₃ =>
     wpAny (model prog w) A (forIn f2 true fun c r=>if r=true then do let ok <- isTrue c env (eval c env);pure (ForInStep.yield ok) else pure (ForInStep.yield r)) (fun ok s₄ =>
      if ok=true then wpAny (model prog w) A (uO elt acc env) (fun _ s₆=>∃m,m<n/\I m s₆) (fun _ _=>False) s₄
      else ∃m,m<n/\I m s₄) (fun _ _=>False) s₃) (fun _ _=>False) s₂) (fun _ _=>False) s₁) (fun _ _=>False) s)
  (n:Nat) (h:I n s) :
  codeAny (model prog w) A (.compLoop (lc2 elt t1 i1 f1 t2 i2 f2 scope pos) 1 it acc env) R s:=by
 refine codeAny_loop rfl I (fun n s hI=>?_) n h;show wpAny _ A ((compTurn (lc2 elt t1 i1 f1 t2 i2 f2 scope pos) 1 it acc env).onRaise (fun x=>do noteFrame x env;theTreesLotGoes x)) _ _ s;refine wpAny_noted ?_;rw [ss];refine wpAny_bind (wpAny_standAt (wpAny_bind (wpAny_mono (turn n s hI) (fun r s₁ h₁=>?_) fun _ _ h'=>h'.elim)))
 cases r with
 | none=>exact wpAny_pure h₁
 | some v =>
  refine wpAny_bind (wpAny_mono h₁ (fun _ s₂ h₂=>?_) fun _ _ h'=>h'.elim);refine wpAny_bind (wpAny_mono h₂ (fun _ s₃ h₃=>wpAny_bind (wpAny_mono h₃ (fun ok s₄ h₄=>?_) fun _ _ h'=>h'.elim)) fun _ _ h'=>h'.elim)
  cases ok with
  | false=>exact wpAny_pure ⟨rfl,h₄⟩
  | true=>exact wpAny_bind (wpAny_mono h₄ (fun _ s₆ h₆=>wpAny_pure ⟨rfl,h₆⟩) fun _ _ h'=>h'.elim)
theorem iS{elt t1 i1 t2 i2:Expr}{f1 f2:List Expr}{scope:Scope}{pos:Pos}{it acc:Value}{env:Env}
  (h0:codeAny (model prog w) A (.compLoop (lc2 elt t1 i1 f1 t2 i2 f2 scope pos) 1 it acc env) R s)
  (h:wpAny (model prog w) A (pyIter it) (fun it' s'=>codeAny (model prog w) A (.compLoop (lc2 elt t1 i1 f1 t2 i2 f2 scope pos) 1 it' acc env) R s')
   (notedBy (model prog w) A env fun x s'=>R (.error x) s') s) :
  codeAny (model prog w) A (.compStart (lc2 elt t1 i1 f1 t2 i2 f2 scope pos) 1 it acc env) R s:=by
 refine codeAny_of_tree ?_;show wpAny _ _ ((compStart (lc2 elt t1 i1 f1 t2 i2 f2 scope pos) 1 it acc env).onRaise (fun x=>do noteFrame x env;standAt theWindowsPlace)) _ _ s;refine wpAny_notedAt ?_;unfold compStart;show wpAny _ _ (ask >>= _) _ _ s;refine wpAny_bind (wpAny_askSetting (wpAny_ite ?_))
 split
 .first
   | exact wpAny_bind (wpAny_pure (wpAny_pure (And.intro rfl h0)))
   | exact wpAny_pure (And.intro rfl h0)
 .first
   | exact wpAny_bind (wpAny_rule (wpAny_bind (wpAny_standAt (wpAny_bind (wpAny_mono h (fun it' s' h'=>wpAny_pure (And.intro rfl h')) fun _ _ x=>x)))))
end
abbrev TB:=St->Hp->(St->Hp->Prop)->Prop
def PB(Y:Cx)(emit:Sem Unit)(tb:TB):Prop:=∀(pins:List (Addr×Obj)) (s:Shared) (τ:St) (H:Hp) (N:St->Hp->Prop),Inv Y pins τ H s->tb τ H N ->
 wpAny (model Y.prog Y.w) Y.A emit (fun _ s'=>∃τ' H',Inv Y pins τ' H' s'/\N τ' H') (fun _ _=>False) s
def zc(te:TE)(D:Addr):TB:=fun τ H N=>te τ H fun v H6=>∃ys,H6 D=some (.lst ys)/\ys.length<sizeLine/\N τ (upd H6 D (.lst (ys++[v])))
def zd(wi:TI)(g:TG)(tts:TT)(tb:TB):TB:=fun τ H N=>wi τ H fun J H6=>∃W:Nat->Nat->St->Hp->Prop,(∃n,W 0 n τ H6)/\∀j n τ3 H7,W j n τ3 H7 ->
 (J.stop j H7/\N τ3 H7)\/(J.go j H7/\∀y H8,J.yld j H7 y H8->g y τ3 H8 fun τ4 H9=>tts τ4 H9 fun ok H10=>if ok=true then tb τ4 H10 (fun τ5 H11=>∃n',n'<n/\W (j+1) n' τ5 H11) else ∃n',n'<n/\W (j+1) n' τ4 H10)
def uP(ix:List (Option Nat))(wi:TI)(g:TG)(tts:TT)(tb:Addr->TB):TE:=fun σ H Q=>wi σ H fun J H1=>∀D,H1 D=none->∃W:Nat->Nat->St->Hp->Prop,(∃m,W 0 m (oA ix σ) (upd H1 D (.lst [])))/\∀i m τ H2,W i m τ H2 ->
 (J.stop i H2/\Q (.ref D) H2)\/(J.go i H2/\∀x H3,J.yld i H2 x H3->g x τ H3 fun τ2 H4=>tts τ2 H4 fun ok H5=>if ok=true then tb D τ2 H5 (fun τ6 H6=>∃m',m'<m/\W (i+1) m' τ6 H6)
  else ∃m',m'<m/\W (i+1) m' τ2 H5)
section
variable {Y:Cx}{elt t1 i1 t2 i2:Expr}{f1 f2:List Expr}{scope:Scope}{pos:Pos}{te:TE}{D:Addr}{wi:TI}{g:TG}{tts:TT}{tb:TB}
theorem ze(hx:Y.xe=fun _ _=>False)(he:PE Y elt te):PB Y (uO elt (.ref D) Y.env) (zc te D):=by
 intro pins s τ H N I h;have h1:=he pins s τ H _ I h;rw [hx] at h1;unfold uO;refine wpAny_bind (thn h1 fun v s1 ⟨x,H1,I1,r1,ys,hD,hz,q⟩=>?_);have h2:=fj (X:=Y) pins s1 τ H1 (.ref D) [x] (.ref D) [v] (fun _ H'=>N τ H') I1 rfl (.cons r1 .nil) ⟨D,ys,x,rfl,rfl,hD,hz,q⟩;rw [hx] at h2;exact wpAny_bind (thn h2 fun _ s2 ⟨_,H2,I2,_,q2⟩=>wpAny_pure ⟨τ,H2,I2,q2⟩)
theorem zf(hx:Y.xe=fun _ _=>False)(hc:Y.calm=true)(hi:PI Y t2 i2 wi)(hg:PG Y t2 g)(ht:PIf Y f2 tts)(hb:PB Y (uO elt (.ref D) Y.env) tb)(hs:∀x,foldedSetIterable i2 Y.env x=pure x:=by intro _;rfl) :
  PB Y (sk (lc2 elt t1 i1 f1 t2 i2 f2 scope pos) i2 (.ref D) Y.env) (zd wi g tts tb):=by
 intro pins s τ H N I h;have h1:=hi pins s τ H _ I h;rw [hx] at h1;unfold sk;refine wpAny_bind (thn h1 fun v s1 h1=>wpAny_bind (wpAny_standAt (wpAny_bind (wpAny_of_eq (hs v) (wpAny_bind (wpAny_holding (thn h1 fun itv s2 h2=>wpAny_bind (wpAny_runOwn ?_))))))));obtain⟨it,fp,tn,J,H2,e,I2,T,st2,f2',W,⟨m0,w0⟩,turn⟩:=h2;subst e;have stat:∀{H':Hp},(∀b∈fp,H' b=none)->∀b∈fp,pO Y pins H' b:=fun hn b hb=>⟨hn b hb,(f2' b hb).2⟩
 have loop:∀s3:Shared,Inv Y pins τ H2 s3->tn 0 s3.heap->codeAny (model Y.prog Y.w) Y.A (.compLoop (lc2 elt t1 i1 f1 t2 i2 f2 scope pos) 1 (.ref it) (.ref D) Y.env)
   (fun r s'=>match r with|.ok f=>wpAny (model Y.prog Y.w) Y.A (pure ()) (fun _ s'=>∃τ' H',Inv Y pins τ' H' s'/\N τ' H') (fun _ _=>False) s'|.error e=>cameBackBy (model Y.prog Y.w) Y.A Y.env (fun _ _=>False) e s') s3:=by
  intro s3 I3 st3;refine lI (fun n s'=>∃i τ' H',Inv Y pins τ' H' s'/\tn i s'.heap/\(∀b∈fp,H' b=none)/\W i n τ' H') ?_ m0 ⟨0,τ,H2,I3,st3,fun b hb=>(f2' b hb).1,w0⟩;rintro n s5 ⟨i,τ5,H5,I5,st5,fr5,w5⟩
  rcases turn i n τ5 H5 w5 with ⟨stop,qn⟩|⟨go,step⟩
  .refine thn (T.done Y rfl rfl rfl hc i pins s5 τ5 H5 (fun _ _=>False) I5 (stat fr5) st5 stop) fun r s6 ⟨hr,I6⟩=>?_;subst hr;exact wpAny_pure ⟨τ5,H5,I6,qn⟩
  .refine thn (T.item Y rfl rfl rfl hc i pins s5 τ5 H5 (fun _ _=>False) I5 (stat fr5) st5 go) fun r s6 ⟨u,hr,h6⟩=>?_;subst hr;refine thn h6 fun _ s7 ⟨x,H7,I7,r7,y7,st7,fr7⟩=>?_;have I7':=I7.pinned (stat fr7) (T.obj _ _ st7)
   have again:∀{s8:Shared}{τ8:St}{H8:Hp},Inv Y (pins++ke fp s7.heap) τ8 H8 s8->(∃m',m'<n/\W (i+1) m' τ8 H8) ->
     ∃m,m<n/\∃i τ' H',Inv Y pins τ' H' s8/\tn i s8.heap/\(∀b∈fp,H' b=none)/\W i m τ' H':=fun {s8 τ8 H8} I8 ⟨m',hm,w8⟩=>by
    refine⟨m',hm,i+1,τ8,H8,I8.unpinned,T.keep _ _ _ st7 fun b hb o e=>(I8.pin (b,o) (mem_append_right _ (mem_append_right _ (dh hb e)))).1,fun b hb=>?_,w8⟩;obtain⟨o,e,d⟩:=T.obj _ _ st7 b hb;exact (I8.pin (b,o) (mem_append_right _ (mem_append_right _ (dh hb e)))).2.1
   have h8:=hg _ s7 τ5 H7 x u _ I7' r7 (step x H7 y7);rw [hx] at h8;refine thn h8 fun _ s8 ⟨τ8,H8,I8,q8⟩=>?_;have h9:=ht _ s8 τ8 H8 _ I8 q8;rw [hx] at h9;refine thn h9 fun okb s9 ⟨H9,I9,q9⟩=>?_
   cases okb with
   | false =>
    rw [if_neg Bool.false_ne_true] at q9;rw [if_neg Bool.false_ne_true];exact again I9 q9
   | true =>
    rw [if_pos rfl] at q9;rw [if_pos rfl];exact thn (hb _ s9 τ8 H9 _ I9 q9) fun _ s10 ⟨τ10,H10,I10,q10⟩=>again I10 q10
 exact iS (loop _ I2 st2) (T.self Y.A 0 _ _ _ st2 (loop _ I2 st2))
end
section
variable {X:Cx}{elt t1 i1 t2 i2:Expr}{f1 f2:List Expr}{scope:Scope}{N':List Str}{ix:List (Option Nat)}{wi:TI}{g:TG}{tts:TT}{tb:Addr->TB}
theorem su{use:Option (Value->Sem Unit)}{Qf:Value->Shared->Prop}{pos p':Pos}{pins:List (Addr×Obj)}{σ:St}{H:Hp}{s:Shared}{Q:VK}(hc:X.calm=true)(ok:qT X.env X.N scope N' ix)(hi:PI X t1 i1 wi)
  (blk:∀s H fp pn D,PG (bt X N' scope s H fp pn) t1 g/\PIf (bt X N' scope s H fp pn) f1 tts/\PB (bt X N' scope s H fp pn) (sk (lc2 elt t1 i1 f1 t2 i2 f2 scope pos) i2 (.ref D) (mP scope s.heap.objs.size X.env)) (tb D))
  (hs:∀x,foldedSetIterable i1 X.env x=pure x) (I:Inv X pins σ H s) (hw:uP ix wi g tts tb σ H Q)
  (fin:∀D C H' s',Inv X pins σ H' s'->Q (.ref D) H'->(∃m,s'.heap.Ns C m)->H' C=none->X.s₀.heap.objs.size<=C->C≠X.env.locals->(∀x c,X.env.cells.lookup x=some c->c≠C)->C∉X.fs->(∀p∈X.pn++pins,p.1≠C) ->
   compPost (model X.prog X.w) X.A X.xe use Qf (.ref D) C (.ok .next) s') :
  wpAny (model X.prog X.w) X.A (comprehension (lc2 elt t1 i1 f1 t2 i2 f2 scope pos) scope X.env p' (newList []) false (eval i1 X.env) use) Qf X.xe s:=by
 have hclos:closureFor scope X.env=pure (iy X.env scope.names []):=gg fun y hy e=>I.ok.has y.1 (ok.free y hy e).1;refine wpAny_comprehension_free (use:=use) rfl hs hclos ok.kind ok.loc (thn (hi pins s σ H _ I hw) fun v s1 h1=>thn h1 fun itv s2 h2=>?_);obtain⟨it,fp,tn,J,H2,e,I2,T,st2,fq2,hW⟩:=h2;subst e;obtain⟨W,⟨m0,w0⟩,turn⟩:=hW s2.heap.objs.size (I2.hok.fresh (le_refl _))
 have hfl:∀b∈fp,b<s2.heap.objs.size:=fun b hb=>by
  obtain⟨o,e,_⟩:=T.obj 0 _ st2 b hb;exact Heap.lt_size e
 refine wpAny_newObj_type ?_
 have I3:Inv X pins σ (upd H2 s2.heap.objs.size (.lst [])) { s2 with heap:=s2.heap.push { cls:=.type "list",dict:=none,data:=.seq ([]:List Value).toArray } } :=
  I2.laid (t':=s2.toks) (fun b o e=>Heap.get?_push_of_some _ e) (le_refl _) (show bK X.prog X.w _ _ _ (.lst []) from ⟨zero_le _,[],0,.nil,Heap.get?_push_size _ rfl⟩)
 have st3:tn 0 (s2.heap.push { cls:=.type "list",dict:=none,data:=.seq ([]:List Value).toArray }):=T.keep 0 _ _ st2 fun b _ o e=>Heap.get?_push_of_some _ e;have f3:∀b∈fp,pO X pins (upd H2 s2.heap.objs.size (.lst [])) b:=fun b hb=>⟨by rw [ap (ne_of_lt (hfl b hb))];exact (fq2 b hb).1,(fq2 b hb).2⟩
 have hfl3:∀b∈fp,b<(s2.heap.push { cls:=.type "list",dict:=none,data:=.seq ([]:List Value).toArray }).objs.size:=fun b hb=>by rw [Heap.size_push];exact lt_succ_of_lt (hfl b hb)
 generalize hs3:({ s2 with heap:=s2.heap.push { cls:=.type "list",dict:=none,data:=.seq ([]:List Value).toArray } }:Shared)=s3 at I3 ⊢;have eh3:s3.heap=s2.heap.push { cls:=.type "list",dict:=none,data:=.seq ([]:List Value).toArray }:=by rw [<- hs3]
 rw [<- eh3] at st3 hfl3;generalize hH3:upd H2 s2.heap.objs.size (.lst [])=H3 at I3 f3 w0;generalize hD:s2.heap.objs.size=D at *;refine eE ?_;have I4:=qV ok I3 f3 hfl3;obtain⟨hg,ht,he⟩:=blk s3 H3 fp pins D;have st4:tn 0 (pushCells (s3.heap.push { cls:=.type "dict",data:=.dict #[] }) scope.names):=T.keep 0 _ _ st3 fun b _ o e=>pushCells_keeps _ _ b o (Heap.get?_push_of_some _ e)
 have stat:∀{H':Hp},(∀b∈fp,H' b=none)->∀b∈fp,pO (bt X N' scope s3 H3 fp pins) [] H' b:=fun hn b hb=>by
  refine⟨hn b hb,ne_of_lt (hfl3 b hb),I4.ok.exfs b hb,.inl hb,(I4.ok.exf b hb).2,fun p hp=>?_⟩;have hp':p∈X.pn++pins:=by simpa [bt] using hp
  exact (fq2 b hb).2.2.2.2.2 p hp'
 have loop:∀(s4:Shared),Inv (bt X N' scope s3 H3 fp pins) [] (oA ix σ) H3 s4->tn 0 s4.heap ->
   codeAny (model X.prog X.w) X.A (.compLoop (lc2 elt t1 i1 f1 t2 i2 f2 scope pos) 0 (.ref it) (.ref D) (mP scope s3.heap.objs.size X.env)) (compPost (model X.prog X.w) X.A X.xe use Qf (.ref D) s3.heap.objs.size) s4:=by
  intro s4 I4 st4;refine lH (fun n s'=>∃i τ H',Inv (bt X N' scope s3 H3 fp pins) [] τ H' s'/\tn i s'.heap/\(∀b∈fp,H' b=none)/\W i n τ H') ?_ m0 ⟨0,_,H3,I4,st4,fun b hb=>(f3 b hb).1,w0⟩;rintro n s5 ⟨i,τ,H5,I5,st5,fr5,w5⟩
  rcases turn i n τ H5 w5 with ⟨stop,qn⟩|⟨go,step⟩
  .refine thn (T.done (bt X N' scope s3 H3 fp pins) rfl rfl rfl hc i [] s5 τ H5 (fun _ _=>False) I5 (stat fr5) st5 stop) fun r s6 ⟨hr,I6⟩=>?_;subst hr;have I7:Inv X pins σ H5 s6:=I3.call' (ch:=fp) I6.os I6.base I6.hok I6.bare fun b hb=>⟨(fq2 b hb).2.2.2.1,(fq2 b hb).2.1,(fq2 b hb).2.2.2.2.1,(fq2 b hb).2.2.2.2.2⟩
   obtain⟨m6,hn6,_⟩:=I6.loc
   refine fin D s3.heap.objs.size H5 s6 I7 qn ⟨m6,hn6⟩ I6.free ?_ ?_ ?_ ?_ ?_
   .exact I3.sz
   .exact ne_of_gt I3.lt
   .intro x c e z;obtain⟨v,q⟩:=I3.cell x c e;have:=q.lt;rw [z] at this;exact Nat.lt_irrefl _ this
   .exact I3.nofs (le_refl _)
   .intro p hp z;have:=Heap.lt_size (I3.pin p hp).1;rw [z] at this;exact Nat.lt_irrefl _ this
  .refine thn (T.item (bt X N' scope s3 H3 fp pins) rfl rfl rfl hc i [] s5 τ H5 (fun _ _=>False) I5 (stat fr5) st5 go) fun r s6 ⟨u,hr,h6⟩=>?_;subst hr;refine thn h6 fun _ s7 ⟨x,H7,I7,r7,y7,st7,fr7⟩=>?_;have I7':=I7.pinned (stat fr7) (T.obj _ _ st7)
   have again:∀{s8:Shared}{τ8:St}{H8:Hp},Inv (bt X N' scope s3 H3 fp pins) ([]++ke fp s7.heap) τ8 H8 s8->(∃m',m'<n/\W (i+1) m' τ8 H8) ->
     ∃m,m<n/\∃i τ H',Inv (bt X N' scope s3 H3 fp pins) [] τ H' s8/\tn i s8.heap/\(∀b∈fp,H' b=none)/\W i m τ H':=fun {s8 τ8 H8} I8 ⟨m',hm,w8⟩=>by
    refine⟨m',hm,i+1,τ8,H8,I8.unpinned,T.keep _ _ _ st7 fun b hb o e=>(I8.pin (b,o) (mem_append_right _ (mem_append_right _ (dh hb e)))).1,fun b hb=>?_,w8⟩;obtain⟨o,e,d⟩:=T.obj _ _ st7 b hb;exact (I8.pin (b,o) (mem_append_right _ (mem_append_right _ (dh hb e)))).2.1
   refine thn (hg _ s7 τ H7 x u _ I7' r7 (step x H7 y7)) fun _ s8 ⟨τ8,H8,I8,q8⟩=>?_;refine thn (ht _ s8 τ8 H8 _ I8 q8) fun okb s9 ⟨H9,I9,q9⟩=>?_
   cases okb with
   | false =>
    rw [if_neg Bool.false_ne_true] at q9;rw [if_neg Bool.false_ne_true];exact again I9 q9
   | true =>
    rw [if_pos rfl] at q9;rw [if_pos rfl];refine thn (he _ s9 τ8 H9 _ I9 q9) fun _ s10 ⟨τ10,H10,I10,q10⟩=>?_;exact again I10 q10
 exact codeAny_compStart_list (loop _ I4 st4) (T.self X.A 0 _ _ _ st4 (loop _ I4 st4))
theorem wP{pos:Pos}{wi2:TI}{g2:TG}{tts2:TT}{te:TE}(N':List Str)(ix:List (Option Nat))(hc:X.calm=true)(hi:PI X t1 i1 wi)
  (blk:∀s H fp pn,PG (bt X N' scope s H fp pn) t1 g/\PIf (bt X N' scope s H fp pn) f1 tts/\PI (bt X N' scope s H fp pn) t2 i2 wi2/\PG (bt X N' scope s H fp pn) t2 g2/\PIf (bt X N' scope s H fp pn) f2 tts2/\PE (bt X N' scope s H fp pn) elt te)
  (chk:mQ X.env.scope X.N scope N' ix=true) (hs:∀x,foldedSetIterable i1 X.env x=pure x:=by intro _;rfl) (hs2:∀(env:Env) x,foldedSetIterable i2 env x=pure x:=by intro _ _;rfl) :
  PE X (.ListComp elt [⟨t1,i1,f1,0⟩,⟨t2,i2,f2,0⟩] scope pos) (uP ix wi g tts fun D=>zd wi2 g2 tts2 (zc te D)):=by
 intro pins s σ H Q I hw;rw [eval_ListComp]
 refine su (use:=none) hc (oy chk) hi (fun s H fp pn D=>?_) hs I hw fun D C H' s' I' q hm hn h1 h2 h3 h4 h5=>?_
 .obtain⟨b1,b2,b3,b4,b5,b6⟩:=blk s H fp pn;exact⟨b1,b2,zf (Y:=bt X N' scope s H fp pn) rfl hc b3 b4 b5 (ze rfl b6) (hs2 _)⟩
 .obtain⟨m,hm⟩:=hm;refine⟨m,hm,fun h' sb=>⟨.ref D,H',?_,rfl,q⟩⟩;exact I'.turned (t':=s'.toks) (fun b o hb e=>(sb.2 b hb).trans e) hn h2 (.inr h1) h3 h5
end
theorem kpt{O O1 O2:Addr->Prop}{H H1 H2:Hp}(a:aO O H O1 H1)(b:aO O1 H1 O2 H2):aO O H O2 H2:=fun c o n e=>b c o (a c o n e).1 (a c o n e).2
structure BH (ix:List (Option Nat)) (ρ1:PSt) (n:Nat) (it:Nat->D) (g:PTG) (pt:PTT) (pi2:PTI) (g2:PTG) (pt2:PTT) (pe:PTE) (Q:PKt):Prop where
 ex:∃I:Nat->List D->PSt->Prop,I 0 [] (cm ix ρ1) /\
  (∀k ys τ d,k<n->d=it k->I k ys τ->g (.dat d) τ fun τ2=>pt τ2 fun ok τ3=>ic ok (pi2 τ3 fun n2 it2 τ4=>∃I2:Nat->List D->PSt->Prop,I2 0 ys τ4 /\
   (∀j zs τ d,j<n2->d=it2 j->I2 j zs τ->g2 (.dat d) τ fun τ5=>pt2 τ5 fun ok τ6=>ic ok (pe τ6 fun p τ7=>zs.length<1000000/\I2 (j+1) (zs++[p.d]) τ7) (I2 (j+1) zs τ6))/\∀zs τ,I2 n2 zs τ->I (k+1) zs τ) (I (k+1) ys τ3)) /\
  ∀ys τ,I n ys τ->Q (.own ys) (eU ix ρ1 τ)
def xH(ix:List (Option Nat))(pi:PTI)(g:PTG)(pt:PTT)(pi2:PTI)(g2:PTG)(pt2:PTT)(pe:PTE):PTE:=fun ρ Q=>pi ρ fun n it ρ1=>Bk ix ρ1=true/\BH ix ρ1 n it g pt pi2 g2 pt2 pe Q
theorem wQ{K:PySem.W.Frag}{ix:List (Option Nat)}{wi wi2:TI}{pi pi2:PTI}{g g2:TG}{pg pg2:PTG}{tts tts2:TT}{pt pt2:PTT}{te:TE}{pe:PTE}(hix:xD ix=true)(hi:LI K wi pi)(hg:∀fs:List Nat,(∀k∈fs,k∈uu ix)->LGd K fs g pg)(ht:LT K tts pt)
  (hi2:LI K wi2 pi2) (hg2:∀fs:List Nat,(∀k∈fs,k∈uu ix)->LGd K fs g2 pg2) (ht2:LT K tts2 pt2) (he:LE K te pe) :
  LE K (uP ix wi g tts fun D=>zd wi2 g2 tts2 (zc te D)) (xH ix pi pg pt pi2 pg2 pt2 pe):=fun A ρ σ H Q Q' R q k=>hi A ρ σ H _ _ R q fun J H1 n it ρ1 q1 f1 R1 W D hD=>by
 obtain⟨hcap,⟨I,i0,turn,after⟩⟩:=q1
 let τρ0:=cm ix ρ1
 let τσ0:=oA ix σ
 let Ai:Addr->Prop:=fun b=>A b\/b=D\/(Wr ρ1 σ b/\¬ Wr τρ0 τσ0 b)
 let H0':=upd H1 D (.lst [])
 have wsub:∀b,Wr τρ0 τσ0 b->Wr ρ1 σ b:=fun b ⟨m,p,e,o,s⟩=>by
  obtain⟨j,h1,h2⟩:=cT e;obtain⟨v,hv,_⟩:=R1.get j p h2;have:=cY h1 hv;rw [s] at this;cases this;exact⟨j,p,h2,o,hv⟩
 have nD:¬ Wr ρ1 σ D:=fun z=>R1.wr z hD
 have oosub:∀b,OO Ai τρ0 τσ0 b->OO A ρ1 σ b\/b=D:=fun b z=>by
  rcases z with (z|z|z)|z
  .exact .inl (.inl z)
  .exact .inr z
  .exact .inl (.inr z.1)
  .exact .inl (.inr (wsub b z))
 have kD:aO (OO A ρ1 σ) H1 (OO Ai τρ0 τσ0) H0':=fun b o nn e=>by
  refine⟨fun z=>?_,?_⟩
  .rcases oosub b z with z|z
   .exact nn z
   .rw [z,hD] at e;cases e
  .rw [show H0' b=H1 b from ap (aH e hD)];exact e
 have Ri:Rel K Ai τρ0 τσ0 H0':=by
  refine⟨by show (cm ix ρ1).length=(oA ix σ).length;unfold cm oA;rw [length_map,length_map],fun m p e=>?_,fun m l p q v e1 e2 o1 o2 s1 s2=>?_,fun b z=>?_,fun b z w=>?_⟩
  .obtain⟨j,h1,h2⟩:=cT e;obtain⟨v,hv,r⟩:=R1.get j p h2;refine⟨v,cY h1 hv,r.keeps kD fun ow a ea=>?_⟩;subst ea;exact ap (fun z=>nD (by rw [<- z];exact⟨j,p,h2,ow,hv⟩))
  .obtain⟨j,h1,h2⟩:=cT e1;obtain⟨j',h3,h4⟩:=cT e2;obtain⟨v1,hv1,_⟩:=R1.get j p h2;obtain⟨v2,hv2,_⟩:=R1.get j' q h4;have t1:=cY h1 hv1;have t2:=cY h3 hv2;rw [s1] at t1;rw [s2] at t2;cases t1;cases t2;have:=R1.dj j j' p q _ h2 h4 o1 o2 hv1 hv2;subst this;exact j8 hix h1 h3
  .rcases z with z|z|z
   .intro e
    by_cases zz:b=D
    .exact R1.dom b z (by rw [zz];exact hD)
    .rw [show H0' b=H1 b from ap zz] at e;exact R1.dom b z e
   .rw [z];show upd H1 D _ D≠none;rw [ay];exact nofun
   .intro e;rw [show H0' b=H1 b from ap (fun zz=>nD (by rw [<- zz];exact z.1))] at e;exact R1.wr z.1 e
  .rcases z with z|z|z
   .exact R1.sep b z (wsub b w)
   .rw [z] at w;exact nD (wsub D w)
   .exact z.2 w
 let fxi:List (Nat×V):=(uu ix).filterMap fun m=>match (τσ0[m]?) with|some (some v)=>some (m,v)|_=>none
 have hfx:∀p∈fxi,τσ0[p.1]?=some (some p.2):=fun p hp=>by
  obtain⟨m,hm,e⟩:=mem_filterMap.mp hp
  split at e
  .rename_i v ev;cases e;exact ev
  .cases e
 have hfs:∀m∈fxi.map Prod.fst,m∈uu ix:=fun m hm=>by
  obtain⟨p,hp,rfl⟩:=mem_map.mp hm;obtain⟨m',hm',e⟩:=mem_filterMap.mp hp
  split at e
  .cases e;exact hm'
  .cases e
 have hgi:=hg (fxi.map Prod.fst) hfs;have hgi2:=hg2 (fxi.map Prod.fst) hfs
 have fxget:∀(m j:Nat) (v:V),ix[m]?=some (some j)->σ[j]?=some (some v)->(m,v)∈fxi:=fun m j v h1 h2=>by
  refine mem_filterMap.mpr ⟨m,?_,?_⟩
  .unfold uu;refine mem_filter.mpr ⟨mem_range.mpr (List.getElem?_eq_some_iff.mp h1).1,?_⟩;rw [getD_eq_getElem?_getD,h1];rfl
  .show (match (oA ix σ)[m]? with|some (some v)=>some (m,v)|_=>none)=_;rw [cY h1 h2]
 let Rr:Addr->Prop:=fun b=>Wr τρ0 τσ0 b\/b=D
 have hRr:∀b,Rr b->OO Ai τρ0 τσ0 b:=fun b z=>z.elim (fun z=>.inr z) (fun z=>.inl (.inr (.inl z)));have F0:dA fxi Rr H0' τρ0 τσ0 H0':=⟨fun _ _ _ h=>h,fun _ h=>h,fun b w=>.inl (.inl w),hfx⟩
 refine⟨fun i m τ H2=>i+m=n/\∃ys τρ xs,I i ys τρ/\Rel K Ai τρ τ H2/\dA fxi Rr H0' τρ τ H2/\H2 D=some (.lst xs)/\FVs K (OO Ai τρ τ) H2 xs ys/\∀b,Wr τρ τ b->Wr τρ0 τσ0 b,
  ⟨n,Nat.zero_add n,[],τρ0,[],i0,Ri,F0,ay,.nil,fun _ h=>h⟩,fun i m τ H2 ⟨him,ys,τρ,xs,iv,r2,F2,eD,fD,hw⟩=>?_⟩
 have kk:aO (OO A ρ1 σ) H1 (OO Ai τρ τ) H2:=fun b o nn e=>(F2.keepsR hRr) b o (kD b o nn e).1 (kD b o nn e).2;obtain⟨go,stop⟩:=W _ H2 kk r2.dom2
 by_cases hk:i<n
 .obtain⟨g1,g2⟩:=go i hk;refine .inr ⟨g1,fun x H3 y=>?_⟩;obtain⟨gr,fv⟩:=g2 x H3 y;have AiD:Ai D:=.inr (.inl rfl);refine hgi fxi Ai Rr H0' τρ τ H3 _ x _ _ rfl (F2.fr gr.fr) (r2.gr gr) fv (turn i ys τρ _ hk rfl iv) fun τρ2 τ2 q2 r3 F3 w3=>?_;refine ht Ai τρ2 τ2 H3 _ _ r3 q2 fun ok H5 τρ3 q3 f5 r5=>?_;have F5:=F3.fr f5;have fD5:FVs K (OO Ai τρ3 τ2) H5 xs ys:=((fD.keeps (gr.fr (ρ:=τρ) (σ:=τ)).keeps).keeps (aO.less fun b z=>z.imp id (w3 b))).keeps f5.keeps
  have eD5:H5 D=some (.lst xs):=f5.kp D _ (r3.sep D AiD) (gr D _ eD)
  cases ok with
  | true =>
   refine hi2 Ai τρ3 τ2 H5 _ _ r5 q3 fun J2 H6 n2 it2 τρ4 q4 f6 r6 W2=>?_;obtain⟨I2,j0,turn2,after2⟩:=q4;have F6:=F5.fr f6;have eD6:H6 D=some (.lst xs):=f6.kp D _ (r5.sep D AiD) eD5;have fD6:=fD5.keeps (f6.keeps (A:=Ai));have hw6:∀b,Wr τρ4 τ2 b->Wr τρ0 τσ0 b:=fun b z=>hw b (w3 b (f5.ow b (f6.ow b z)))
   refine⟨fun j l τ' H'=>j+l=n2/\∃zs τρ' xs',I2 j zs τρ'/\Rel K Ai τρ' τ' H'/\dA fxi Rr H0' τρ' τ' H'/\H' D=some (.lst xs')/\FVs K (OO Ai τρ' τ') H' xs' zs/\(∀b,Wr τρ' τ' b->Wr τρ0 τσ0 b)/\aO (OO Ai τρ4 τ2) H6 (OO Ai τρ' τ') H',
    ⟨n2,Nat.zero_add n2,ys,τρ4,xs,j0,r6,F6,eD6,fD6,hw6,fun b o n e=>⟨n,e⟩⟩,fun j l τ' H7 ⟨hjl,zs,τρ',xs',jv,r7,F7,eD7,fD7,hw7,kk7⟩=>?_⟩
   obtain⟨go2,stop2⟩:=W2 _ H7 kk7 r7.dom2
   by_cases hj:j<n2
   .obtain⟨g1',g2'⟩:=go2 j hj;refine .inr ⟨g1',fun y H8 yy=>?_⟩;obtain⟨gr8,fv8⟩:=g2' y H8 yy;refine hgi2 fxi Ai Rr H0' τρ' τ' H8 _ y _ _ rfl (F7.fr gr8.fr) (r7.gr gr8) fv8 (turn2 j zs τρ' _ hj rfl jv) fun τρ9 τ9 q9 r9 F9 w9=>?_;refine ht2 Ai τρ9 τ9 H8 _ _ r9 q9 fun ok2 H10 τρ10 q10 f10 r10=>?_;have F10:=F9.fr f10;have k1:=(gr8.fr (ρ:=τρ') (σ:=τ')).keeps (A:=Ai);have k2:aO (OO Ai τρ' τ') H8 (OO Ai τρ9 τ9) H8:=aO.less fun b z=>z.imp id (w9 b)
    have k3:=f10.keeps (A:=Ai);have fD10:FVs K (OO Ai τρ10 τ9) H10 xs' zs:=fD7.keeps (kpt k1 (kpt k2 k3));have eD10:H10 D=some (.lst xs'):=f10.kp D _ (r9.sep D AiD) (gr8 D _ eD7)
    cases ok2 with
    | true =>
     refine he Ai τρ10 τ9 H10 _ _ r10 q10 fun v H11 p τρ11 q11 f11 o11=>?_;obtain⟨r11,fv11⟩:=o11.frz;have F11:=F10.fr f11;have eD11:H11 D=some (.lst xs'):=f11.kp D _ (r10.sep D AiD) eD10;have kw:aO (OO Ai τρ11 τ9) H11 (OO Ai τρ11 τ9) (upd H11 D (.lst (xs'++[v]))):=fun b o nn e=>⟨nn,by rw [ap (fun z=>nn (by rw [z];exact .inl AiD))];exact e⟩
     refine⟨xs',eD11,?_,l - 1,by omega,by omega,zs++[p.d],τρ11,xs'++[v],q11.2,r11.amb AiD,⟨fun b o nn e=>?_,fun b z=>?_,F11.ow,F11.fx⟩,ay,((fD10.keeps f11.keeps).append (.cons fv11 .nil)).keeps kw,fun b z=>hw7 b (w9 b (f10.ow b (f11.ow b z))),kpt kk7 (kpt k1 (kpt k2 (kpt k3 (kpt f11.keeps kw))))⟩
     .have:xs'.length=zs.length:=fD10.length;have:=q11.1;exact lt_of_lt_of_le (by omega:xs'.length<1000000) (sz _ (le_refl _))
     .rw [ap (fun z=>nn (.inr z))];exact F11.kp b o nn e
     .by_cases zz:b=D
      .rw [zz,ay];exact nofun
      .rw [ap zz];exact F11.dm b z
    | false=>exact⟨l - 1,by omega,by omega,zs,τρ10,xs',q10,r10,F10,eD10,fD10,fun b z=>hw7 b (w9 b (f10.ow b z)),kpt kk7 (kpt k1 (kpt k2 k3))⟩
   .have e:j=n2:=by omega
    subst e;exact .inl ⟨stop2,m - 1,by omega,by omega,zs,τρ',xs',after2 zs τρ' jv,r7,F7,eD7,fD7,hw7⟩
  | false=>exact⟨m - 1,by omega,by omega,ys,τρ3,xs,q3,r5,F5,eD5,fD5,fun b z=>hw b (w3 b (f5.ow b z))⟩
 .have e:i=n:=by omega
  subst e;refine .inl ⟨stop,?_⟩;have q':=after ys τρ iv
  have cap:∀(m j:Nat),ix[m]?=some (some j)->∃p v,ρ1[j]?=some (some p)/\σ[j]?=some (some v)/\τ[m]?=some (some v):=fun m j e=>by
   have h1:=all_eq_true.mp hcap _ (mem_of_getElem? e);have h1:(match ρ1[j]? with|some (some _)=>true|_=>false)=true:=h1
   split at h1
   .rename_i p ep;obtain⟨v,hv,_⟩:=R1.get j p ep;exact⟨p,v,ep,hv,F2.fx _ (fxget m j v e hv)⟩
   .cases h1
  have get':∀(j:Nat) (p:PV),(eU ix ρ1 τρ)[j]?=some (some p)->(∃m v,ix[m]?=some (some j)/\σ[j]?=some (some v)/\τ[m]?=some (some v)/\τρ[m]?=some (some p))\/(some j∉ix/\ρ1[j]?=some (some p)):=fun j p e=>by
   by_cases hj:some j∈ix
   .obtain⟨m,hm,em⟩:=getElem_of_mem hj;have em':ix[m]?=some (some j):=by rw [getElem?_eq_getElem hm,em]
    obtain⟨p0,v,h1,h2,h3⟩:=cap m j em';rw [mX ix ρ1 τρ j m hix em' (by rw [r2.len];exact (List.getElem?_eq_some_iff.mp h3).1) (List.getElem?_eq_some_iff.mp h1).1] at e;exact .inl ⟨m,v,em',h2,h3,e⟩
   .rw [iQ ix ρ1 τρ j hj] at e;exact .inr ⟨hj,e⟩
  have nocap:∀(j:Nat) (p:PV) (b:Addr),some j∉ix->ρ1[j]?=some (some p)->p.isOwn=true->σ[j]?=some (some (.ref b))->¬ Wr τρ0 τσ0 b:=fun j p b hj e o s ⟨m,q,e1,o1,s1⟩=>by
   obtain⟨j',h1,h2⟩:=cT e1;obtain⟨v,hv,_⟩:=R1.get j' q h2;have:=cY h1 hv;rw [s1] at this;cases this;have:=R1.dj j j' p q _ e h2 o o1 s hv;subst this;exact hj (mem_of_getElem? h1)
  have w':∀b,Wr (eU ix ρ1 τρ) σ b->Wr τρ τ b\/(Wr ρ1 σ b/\¬ Wr τρ0 τσ0 b):=fun b ⟨j,p,e,o,s⟩=>by
   rcases get' j p e with ⟨m,v,h1,h2,h3,h4⟩|⟨hj,h1⟩
   .rw [s] at h2;cases h2;exact .inl ⟨m,p,h4,o,h3⟩
   .exact .inr ⟨⟨j,p,h1,o,s⟩,nocap j p b hj h1 o s⟩
  have oo':∀b,OO (et A D) (eU ix ρ1 τρ) σ b->OO Ai τρ τ b:=fun b z=>by
   rcases z with (z|z)|z
   .exact .inl (.inl z)
   .exact .inl (.inr (.inl z))
   .rcases w' b z with z|z
    .exact .inr z
    .exact .inl (.inr (.inr z))
  have kp1:∀b o,¬ Wr τρ0 τσ0 b->b≠D->H1 b=some o->H2 b=some o:=fun b o n1 n2 e=>F2.kp b o (fun z=>z.elim n1 n2) (by rw [show H0' b=H1 b from ap n2];exact e);have k1:aO (OO A ρ1 σ) H1 (OO (et A D) (eU ix ρ1 τρ) σ) H2:=fun b o nn e=>⟨fun z=>(kk b o nn e).1 (oo' b z),(kk b o nn e).2⟩
  have AiD:Ai D:=.inr (.inl rfl)
  have R':Rel K (et A D) (eU ix ρ1 τρ) σ H2:=by
   refine⟨by rw [j7];exact R1.len,fun j p e=>?_,fun j l p q v e1 e2 o1 o2 s1 s2=>?_,fun b z=>?_,fun b z w=>?_⟩
   .rcases get' j p e with ⟨m,v,h1,h2,h3,h4⟩|⟨hj,h1⟩
    .obtain⟨v',hv',r⟩:=r2.get m p h4;rw [h3] at hv';cases hv';exact⟨v,h2,r.keeps (aO.less oo') fun _ _ _=>rfl⟩
    .obtain⟨v,hv,r⟩:=R1.get j p h1;refine⟨v,hv,r.keeps k1 fun ow a ea=>?_⟩;subst ea;obtain⟨a',u,e1,e2⟩:=r.ref ow;cases e1;rw [e2];exact kp1 a u (nocap j p a hj h1 ow hv) (fun z=>by rw [z,hD] at e2;cases e2) e2
   .rcases get' j p e1 with ⟨m,v1,h1,h2,h3,h4⟩|⟨hj,h1⟩
    .rw [s1] at h2;cases h2
     rcases get' l q e2 with ⟨m',v2,g1,g2,g3,g4⟩|⟨hl,g1⟩
     .rw [s2] at g2;cases g2;have:=r2.dj m m' p q _ h4 g4 o1 o2 h3 g3;subst this;rw [h1] at g1;cases g1;rfl
     .exfalso;obtain⟨v',hv',r⟩:=r2.get m p h4;rw [h3] at hv';cases hv';obtain⟨a,u,ea,_⟩:=r.ref o1;subst ea;exact nocap l q a hl g1 o2 s2 (hw a ⟨m,p,h4,o1,h3⟩)
    .rcases get' l q e2 with ⟨m',v2,g1,g2,g3,g4⟩|⟨hl,g1⟩
     .rw [s2] at g2;cases g2;exfalso;obtain⟨v',hv',r⟩:=r2.get m' q g4;rw [g3] at hv';cases hv';obtain⟨a,u,ea,_⟩:=r.ref o2;subst ea;exact nocap j p a hj h1 o1 s1 (hw a ⟨m',q,g4,o2,g3⟩)
     .exact R1.dj j l p q v h1 g1 o1 o2 s1 s2
   .rcases z with z|z
    .exact r2.dom b (.inl z)
    .rw [z,eD];exact nofun
   .rcases w' b w with w|w
    .rcases z with z|z
     .exact r2.sep b (.inl z) w
     .rw [z] at w;exact r2.sep D AiD w
    .rcases z with z|z
     .exact R1.sep b z w.1
     .rw [z] at w;exact nD w.1
  have f2:Fr ρ1 σ H1 (eU ix ρ1 τρ) H2:=by
   refine⟨fun b o nn e=>kp1 b o (fun z=>nn (wsub b z)) (fun z=>by rw [z,hD] at e;cases e) e,fun b z=>F2.dm b ?_,fun b z=>?_⟩
   .intro e
    by_cases zz:b=D
    .exact z (by rw [zz];exact hD)
    .rw [show H0' b=H1 b from ap zz] at e;exact z e
   .rcases w' b z with z|z
    .exact wsub b (hw b z)
    .exact z.1
  have hD0:H D=none:=by
   cases e:H D with
   | none=>rfl
   | some o=>exact absurd hD (f1.dm D (by rw [e];exact nofun))
  exact k _ H2 (.own ys) _ q' (f1.trans f2) ⟨D,xs,rfl,fun z=>R1.dom D z hD,hD0,eD,R',fD.keeps (aO.less oo')⟩
section
variable {prog:Program}{w:World}{A:Around}{E:Value->Shared->Prop}{s:Shared}
theorem oP{it t:Addr}{items:Array Value}(hne:t≠it):∀(n i:Nat) (s:Shared) (Q:List Value->Shared->Prop),s.heap.IsListIter it t i->s.heap.IsList t items->i+n<=items.size ->
  (∀h',h'.IsListIter it t (i+n)->Heap.SameBut it s.heap h'->Q ((items.toList.drop i).take n) { s with heap:=h' })->wpAny (model prog w) A (draw (.ref it) n) Q E s
 | 0,i,s,Q,hit,_,_,hQ=>by
  show wpAny _ _ (pure []) Q E s;exact wpAny_pure (by simpa using hQ s.heap hit (Heap.SameBut.refl ..))
 | n+1,i,s,Q,hit,ht,hle,hQ=>by
  have hlt:i<items.size:=by omega
  show wpAny _ _ (pyNext (.ref it) >>= _) Q E s;refine wpAny_bind (wpAny_pyNext_list_item hit ht (x:=items[i]) (by simp [hlt]) fun h₁ hit₁ hs₁=>?_);refine wpAny_bind (wpAny_holding (oP hne n (i+1) _ _ hit₁ (ht.extBut hs₁.extBut hne) (by omega) fun h₂ hit₂ hs₂=>wpAny_pure ?_));have hd:items.toList.drop i=items[i]::items.toList.drop (i+1):=by simp [drop_eq_getElem_cons,hlt]
  have:=hQ h₂ (by rw [show i+(n+1)=i+1+n by omega];exact hit₂) (hs₁.trans hs₂);rw [hd,take_succ_cons] at this;exact this
theorem jS{t:Addr}{items:Array Value}{Q:List Value->Shared->Prop}(hh:A.handled=none)(ht:s.heap.IsList t items)
  (hQ:∀h',Heap.ExtBut s.heap.objs.size s.heap h'->Q items.toList { s with heap:=h' }):wpAny (model prog w) A (unpackItems (.ref t) items.size none) Q E s:=by
 have hlt:t≠s.heap.objs.size:=by obtain⟨o,ho,_⟩:=ht;exact ne_of_lt (Heap.lt_size ho)
 unfold unpackItems
 refine wpAny_bind ?_
 .unfold notIterableAtAll;refine wpAny_bind (wpAny_specialOf ht.typeIs PySem.F.slot_list_iter.lookup ?_);refine wpAny_pure ?_;simp only [false_eq_true,if_false];refine wpAny_bind (wpAny_holding (wpAny_pyIter_list ht ?_));refine wpAny_bind (wpAny_holding (oP hlt items.size 0 _ _ ⟨_,Heap.get?_push_size _ rfl,rfl,rfl⟩ (ht.push _) (by omega) fun h₁ hit₁ hs₁=>?_))
  have hall:List.take items.size (List.drop 0 items.toList)=items.toList:=by
   rw [drop_zero];exact take_of_length_le (by simp)
  rw [hall];rw [if_neg (by simp)];have ht₁:h₁.IsList t items:=(ht.push _).extBut hs₁.extBut hlt;refine wpAny_bind (wpAny_holding (wpAny_pyNext_list_end hh hit₁ ht₁ (by simp) fun h₂ he₂=>?_));simp only [Option.isSome_none,false_eq_true,if_false];refine wpAny_pure (hQ h₂ fun b o hb e=>he₂ b o hb (hs₁.extBut b o hb (Heap.get?_push_of_some _ e)))
theorem jq{env:Env}{elts:List Expr}{x1}{pos:Pos}{t:Addr}{items:Array Value}{Q:Unit->Shared->Prop}(hh:A.handled=none)(ht:s.heap.IsList t items)
  (hn:(assignEach elts env).length=items.size) (hstar:(assignEach elts env).findIdx? (·.1)=none)
  (h:∀h',Heap.ExtBut s.heap.objs.size s.heap h'->wpAny (model prog w) A (assignInOrder ((assignEach elts env).map (·.2)) items.toList) Q E { s with heap:=h' }) :
  wpAny (model prog w) A (assign (.Tuple elts x1 pos) env (.ref t)) Q E s:=by
 rw [assign_Tuple];refine wpAny_bind (wpAny_standAt ?_);unfold unpack;rw [hn,hstar];exact wpAny_bind (wpAny_holding (jS hh ht h))
end
def DD(K:PySem.W.Frag)(n:Nat)(t:TGs):TG:=fun v σ H Q=>∃b a xs,v=.ref a/\Sq b K H a xs/\xs.length=n/\t xs σ H Q
section
variable {X:Cx}
theorem oQ(K:PySem.W.Frag)(eK:X.K=K){es:List Expr}{k:Nat}{t:TGs}{n:Nat}{pos:Pos}(hc:X.calm=true)(h:PGs X es t)
  (hn:(assignEach es X.env).length=n:=by rfl) (hst:(assignEach es X.env).findIdx? (·.1)=none:=by rfl):PG X (.Tuple es k pos) (DD K n t):=by
 subst eK;intro pins s σ H v u Q I r hw;obtain⟨b,a,xs,e1,hq,hl,hw⟩:=hw
 cases b with
 | true=>exact Aq hc h hn hst pins s σ H v u Q I r ⟨a,xs,e1,hq,hl,hw⟩
 | false =>
  subst e1;cases r;obtain⟨its,rv,ht,hz⟩:=I.list hq;refine jq (I.ok.hd hc) ht.isList (by simp [hn,<- hl,rv.length]) hst fun h' hx=>?_;have I1:Inv X pins σ H { s with heap:=h' }:=I.kept (t':=s.toks) fun b o e=>hx b o (ne_of_lt (Heap.lt_size e)) e;exact h pins _ σ H xs _ Q I1 (by simpa using rv) hw
def nj(n:Nat)(gs:xB):PTG:=fun p ρ Q=>match p with|.dat (.tup ds)=>ds.length=n/\gs ds ρ Q|.dat (.lst ds)=>ds.length=n/\gs ds ρ Q|.own ds=>ds.length=n/\gs ds ρ Q|_=>False
end
section
variable {K:PySem.W.Frag}{fs:List Nat}
theorem nk{n:Nat}{gs:TGs}{pgs:xB}(h:LGs K fs gs pgs):LGd K fs (DD K n gs) (nj n pgs):=fun fx A R H0 ρ σ H d v Q Q' hf F r fv q k=>by
 unfold nj at q
 split at q
 .rename_i e;cases e
  cases fv with
  | tup nn e f=>exact⟨true,_,_,rfl,SqT.of e,by rw [f.length];exact q.1,h fx A R H0 ρ σ H _ _ Q Q' hf F r f q.2 k⟩
 .rename_i e;cases e
  cases fv with
  | lst nn e f=>exact⟨false,_,_,rfl,SqL.of e,by rw [f.length];exact q.1,h fx A R H0 ρ σ H _ _ Q Q' hf F r f q.2 k⟩
 .rename_i e;cases e
 .exact q.elim
theorem BI{n:Nat}{gs:TGs}{pgs:xB}(h:LGs K fs gs pgs):LG K fs (DD K n gs) (nj n pgs):=fun fx A R H0 ρ σ H p v Q Q' hf F o q k=>by
 unfold nj at q
 split at q
 .obtain⟨r,fv⟩:=o
  cases fv with
  | tup nn e f=>exact⟨true,_,_,rfl,SqT.of e,by rw [f.length];exact q.1,h fx A R H0 ρ σ H _ _ Q Q' hf F r f q.2 fun ρ' σ' q' r' F' _=>k ρ' σ' H q' r' F'⟩
 .obtain⟨r,fv⟩:=o
  cases fv with
  | lst nn e f=>exact⟨false,_,_,rfl,SqL.of e,by rw [f.length];exact q.1,h fx A R H0 ρ σ H _ _ Q Q' hf F r f q.2 fun ρ' σ' q' r' F' _=>k ρ' σ' H q' r' F'⟩
 .obtain⟨r,fv⟩:=o.frz
  cases fv with
  | lst nn e f=>exact⟨false,_,_,rfl,SqL.of e,by rw [f.length];exact q.1,h fx A R H0 ρ σ H _ _ Q Q' hf F r f q.2 fun ρ' σ' q' r' F' _=>k ρ' σ' H q' r' F'⟩
 .exact q.elim
end
def rn(d:D)(xs:List D):Prop:=d=.lst xs\/d=.tup xs
theorem wR{d:D}{xs:List D}{Q:PV->Prop}(h:rn d xs)(q:Q (.dat (.tup xs))):eV [d] Q:=by
 rcases h with rfl|rfl <;> exact q
theorem BJ{d:D}{xs:List D}{F:Nat->(Nat->D)->Prop}(h:rn d xs)(q:F xs.length (itD xs)):(match Di d with|some (n,it)=>F n it|none=>False):=by
 rcases h with rfl|rfl <;> exact q
theorem rn.lst(xs:List D):rn (.lst xs) xs:=.inl rfl
theorem rn.tup(xs:List D):rn (.tup xs) xs:=.inr rfl
def nSt:Expr->Bool
 | .Starred _ _=>false
 | _=>true
theorem fb{e:Expr}{es:List Expr}{env:Env}(h:nSt e=true):starEach (e::es) env=(false,eval e env)::starEach es env:=by
 cases e <;> first|rfl|cases h
theorem dZ{env:Env}{pos:Pos}:∀{es:List Expr},es.all nSt=true->(backTo pos (starEach es env)).any (·.1)=false
 | [],_=>rfl
 | e::es,h=>by
  rw [all_cons,and_eq_true] at h;rw [fb h.1];show (false || (backTo pos (starEach es env)).any (·.1))=false;rw [dZ h.2];rfl
section
variable {X:Cx}{k:Nat}{x:Str}{ps:List Str}{sp:Sp}{e:Expr}{es:List Expr}{te:TE}{t:TA}{p pos:Pos}{dvs:List V}{C:Addr}{id T:String}{r:List V->Hp->VK->Prop}
theorem paC(ha:PE X e te)(hr:PA X es t)(hn:nSt e=true:=by rfl):PA X (e::es) (bp te t):=yb ha hr (fb hn)
theorem aq(C:Cal X.prog X.w X.K X.mg X.base k x ps sp)(hr:fh k X.A)(ha:PA X (e::es) t)(hg:Gl X x:=by rfl)(hdb:(x == ("__debug__":Str))=false:=by decide)(hn:nSt e=true:=by rfl)(hp:es.all nSt=true:=by rfl) :
  PE X (.Call (.Name x p) (e::es) [] pos) (fi sp [] E0 t):=AW C hr ha hg hdb (fb hn) (dZ hp)
theorem wS(j:Nat)(C:A6 X.prog X.w X.K X.mg X.base k x ps dvs sp)(hr:fh k X.A)(hj:j<=dvs.length)(ha:PA X (e::es) t)(hg:Gl X x:=by rfl)(hdb:(x == ("__debug__":Str))=false:=by decide)(hn:nSt e=true:=by rfl)(hp:es.all nSt=true:=by rfl) :
  PE X (.Call (.Name x p) (e::es) [] pos) (fi sp (dvs.drop j) E0 t):=yD j C hr hj ha hg hdb (fb hn) (dZ hp)
theorem nq(M:A7 X.prog X.w X.K X.mg X.base k C x ps sp)(hr:fh (k+1) X.A)(ha:PA X (e::es) t)(hg:Gl X x:=by rfl)(hdb:(x == ("__debug__":Str))=false:=by decide)(hn:nSt e=true:=by rfl)(hp:es.all nSt=true:=by rfl) :
  PE X (.Call (.Name x p) (e::es) [] pos) (tG C sp [] E0 t):=yE M hr ha hg hdb (fb hn) (dZ hp)
theorem al(hc:bJ X (.builtin id) r)(hg:Gl X x)(hm:X.mg x=none)(hv:bootBuiltins x=some (.builtin id))(ha:PA X (e::es) t)(hnn:x≠"__name__":=by decide)(hdb:(x == ("__debug__":Str))=false:=by decide)(hn:nSt e=true:=by rfl)(hp:es.all nSt=true:=by rfl) :
  PE X (.Call (.Name x p) (e::es) [] pos) (tCB r t):=vW hc hg hm hv ha hnn hdb (fb hn) (dZ hp)
theorem bB(hc:bJ X (.type T) r)(hg:Gl X x)(hm:X.mg x=none)(hv:bootBuiltins x=some (.type T))(ha:PA X (e::es) t)(hnn:x≠"__name__":=by decide)(hdb:(x == ("__debug__":Str))=false:=by decide)(hn:nSt e=true:=by rfl)(hp:es.all nSt=true:=by rfl) :
  PE X (.Call (.Name x p) (e::es) [] pos) (tCB r t):=tJ hc hg hm hv ha hnn hdb (fb hn) (dZ hp)
end
def plT:Expr->Bool
 | .Call _ _ _ _=>true
 | .Name _ _=>true
 | .Subscript _ _ _=>true
 | .Attribute _ _ _=>true
 | _=>false
theorem zg{e:Expr}{env:Env}(h:plT e=true):∀whole,isTrue e env whole=(do let v <- whole;standAt e.pos;holding [v] (truthy v)):=by
 cases e <;> first|(intro _;rfl)|cases h
theorem bz{X:Cx}{e:Expr}{t:TE}(h:PE X e t)(hp:plT e=true:=by rfl):PT X e (tB t):=Ak h (zg hp)
def mj(a b:List Nat):Bool:=decide (0<=fnd b a 0)
theorem zh{a b:List Nat}:mj a b=true ↔ ∃k,stA b a k=true:=by
 unfold mj
 constructor
 .intro h;have h0:fnd b a 0≠-1:=fun z=>by rw [z] at h;exact absurd (of_decide_eq_true h) (by decide)
  obtain⟨k,_,_,h1,_⟩:=qW h0;exact⟨k,h1⟩
 .rintro⟨k,hk⟩
  by_cases h0:fnd b a 0=-1
  .rw [wk h0 k (zero_le _)] at hk;cases hk
  .obtain⟨j,e,_⟩:=qW h0;rw [e];exact decide_eq_true (by omega)
def qb(a b:List Nat)(k:Nat):Prop:=k<min a.length b.length/\b.take k <:+ a/\∀j,j<min a.length b.length->b.take j <:+ a->j<=k
theorem qb.uniq{a b:List Nat}{j k:Nat}(x:qb a b j)(y:qb a b k):j=k:=le_antisymm (y.2.2 j x.1 x.2.1) (x.2.2 k y.1 y.2.1)
def nr(a b:List Nat):Nat:=open Classical in if h:∃k,qb a b k then Classical.choose h else 0
theorem zi{a b:List Nat}(ha:0<a.length)(hb:0<b.length):qb a b (nr a b):=by
 obtain⟨k,h1,h2,h3⟩:=kr (fun k=>b.take k <:+ a) (by rw [take_zero];exact nil_suffix) (min a.length b.length) (by omega);have h:∃k,qb a b k:=⟨k,h1,h2,h3⟩
 unfold nr;rw [dif_pos h];exact Classical.choose_spec h
theorem nu{a b:List Nat}{k:Nat}(h:qb a b k):nr a b=k:=(zi (by have:=h.1;omega) (by have:=h.1;omega)).uniq h
theorem wT{l:List Nat}(h:l.Pairwise (·<·)){m:Nat}(hm:m∈l)(hle:∀a∈l,m<=a):l.headD 0=m:=by
 cases l with
 | nil=>cases hm
 | cons x r =>
  show x=m;have h1:=hle x (mem_cons_self ..)
  rcases mem_cons.mp hm with e|e
  .exact e.symm
  .have:=(pairwise_cons.mp h).1 m e;omega
def BK(ws:List (List Nat)):D:=.tup (ws.map fun w=>.tup (ws.map fun v=>.int (nr w v:Int)))
def nD(k:Nat):D:=.int (k:Int)
theorem nv(w:List Nat):∀ws:List (List Nat),inD (.str w) (ws.map .str)=decide (w∈ws)
 | []=>by simp [inD]
 | v::r=>by
  have ih:=nv w r;unfold inD at ih ⊢;rw [map_cons,any_cons,ih];show ((v == w) || decide (w∈r))=_
  by_cases h:v=w
  .subst h;simp
  .rw [beq_eq_false_iff_ne.mpr h,Bool.false_or]
   by_cases h2:w∈r
   .rw [decide_eq_true h2,decide_eq_true (mem_cons_of_mem _ h2)]
   .rw [decide_eq_false h2,decide_eq_false (fun z=>(mem_cons.mp z).elim (fun e=>h e.symm) h2)]
theorem uQ(k:Nat):∀ks:List Nat,inD (.int (k:Int)) (ks.map nD)=decide (k∈ks)
 | []=>by simp [inD]
 | v::r=>by
  have ih:=uQ k r;unfold inD at ih ⊢;rw [map_cons,any_cons,ih];show (((v:Int) == (k:Int)) || decide (k∈r))=_
  by_cases h:v=k
  .subst h;simp
  .rw [show ((v:Int) == (k:Int))=false from beq_eq_false_iff_ne.mpr (by omega),Bool.false_or]
   by_cases h2:k∈r
   .rw [decide_eq_true h2,decide_eq_true (mem_cons_of_mem _ h2)]
   .rw [decide_eq_false h2,decide_eq_false (fun z=>(mem_cons.mp z).elim (fun e=>h e.symm) h2)]
theorem uR(ws:List (List Nat)):(ws.map D.str).all D.fl=true:=by rw [all_map];exact all_eq_true.mpr fun _ _=>rfl
theorem BL(ks:List Nat):(ks.map nD).all D.fl=true:=by rw [all_map];exact all_eq_true.mpr fun _ _=>rfl
theorem zj(n:Nat):Bv 0 n=(List.range n).map nD:=by
 unfold Bv nD;exact map_congr_left fun k _=>by rw [Int.zero_add]
theorem iT{α β:Type}(p:α->Bool)(g:α->β):∀l:List α,l.filterMap (fun a=>if p a=true then some (g a) else none)=(l.filter p).map g
 | []=>rfl
 | a::r=>by
  rw [filterMap_cons,filter_cons]
  cases h:p a with
  | true=>simp [iT p g r]
  | false=>simp [iT p g r]
abbrev vmB:List Value:=[.type "ValueError",.type "Exception",.type "BaseException",.type "object"]
section
variable {prog:Program}{w:World}{A:Around}{E:Value->Shared->Prop}{K:PySem.W.Frag}{h:Heap}{g:Array GenState}{d:Drawn}{t:Nat}{os:OsState}
variable {nm q:Str}{C N:Addr}{bs bm:List Value}{sn:List Str}{sub:List Value}{ab:Bool}{col:Option Bool}{k0 k1 k2 k3 k5:Option Value}
theorem qc{rest:List Value}{fI:Addr}{Q:Fin->Shared->Prop}(X:K.In h)(hC:h.get? C=some (excClassObj nm q C N bs bm true sn sub ab col none k0 k1 k2 k3 k5 "ValueError.__new__"))(T:OwnTail h vmB bm)
  (hi:PySem.W.findIn K (.ref C) "__init__"=some (some (.ref fI))) (hf:PySem.W.typeIn K (.ref fI)=some (.type "function")) (hrest:rest.length<=sizeLine)
  (hq:∀h',Heap.MadeExcOf h h' (h.objs.size+1) (.ref C) rest->wpAny (model prog w) A (call (.ref fI) (.ref (h.objs.size+1)::rest)) (fun r s'=>r=.none/\Q (.done (.ret (.ref (h.objs.size+1)))) s') E ⟨h',g,d,t,os⟩) :
  wpAny (model prog w) A (Builtin.«type.__call__» ⟨.ref C::rest,[]⟩) Q E ⟨h,g,d,t,os⟩:=by
 have FV:=PySem.F.excBase_ValueError
 repeat (first
  | with_reducible refine wpAny_loadPart_at hC ?_
  | with_reducible refine wpAny_madeBy_exc hC ?_
  | wp_step)
 refine codeAny_call_builtin_code (Code.quiet_builtin _ FV.quiet) (wpAny_check_new_subT FV T hC ?_);refine codeAny_exc_new_subT FV T hC ?_ hrest;show wpAny _ _ _ _ _ _;generalize hh1:(h.push { cls:=.type "tuple",data:=.seq rest.toArray })=h1;generalize hh2:(h1.push { cls:=.ref C,data:=.fields #[.ref h.objs.size,.none,.none,.none,.bool false,.none] })=h2
 have kp:∀b o,h.get? b=some o->h2.get? b=some o:=fun b o e=>by
  rw [<- hh2,<- hh1];exact Heap.get?_push_of_some _ (Heap.get?_push_of_some _ e)
 have hC2:=kp _ _ hC;have X2:K.In h2:=X.keeps kp;have sz:h1.objs.size=h.objs.size+1:=by rw [<- hh1];exact Heap.size_push ..
 have ge:h2.get? (h.objs.size+1)=some { cls:=.ref C,data:=.fields #[.ref h.objs.size,.none,.none,.none,.bool false,.none] }:=by
  rw [<- hh2,<- sz];exact Heap.get?_push_size _ rfl
 have gt:h2.get? h.objs.size=some { cls:=.type "tuple",data:=.seq rest.toArray }:=by
  rw [<- hh2,<- hh1];exact Heap.get?_push_of_some _ (Heap.get?_push_size _ rfl)
 have cc:(Value.ref C::bm).contains (.ref C)=true:=by simp
 unfold isInstance
 repeat (first
  | with_reducible refine wpAny_loadPart_at ge ?_
  | (with_reducible refine wpAny_isSubtype_exc hC2 ?_;rw [cc])
  | wp_step)
 show wpAny _ _ (typeLookup (.ref C) _) _ _ _;refine (PySem.W.looks_findIn X2 hi).at ?_;refine wpAny_holding (wpAny_bind ((PySem.W.bind_fn X2 _ hf).at ?_));refine wpAny_bind (wpAny_mono (hq h2 ⟨kp,Heap.get?_none_of_le (le_succ _),h.objs.size,ge,Heap.get?_none_of_le (le_refl _),gt⟩) (fun r s' hr=>?_) fun _ _ x=>x);obtain⟨rfl,hQ⟩:=hr
 wp_walk
 exact hQ
theorem zk{rest:List Value}{fI:Addr}{Q:Value->Shared->Prop}(X:K.In h)(hC:h.get? C=some (excClassObj nm q C N bs bm true sn sub ab col none k0 k1 k2 k3 k5 "ValueError.__new__"))(T:OwnTail h vmB bm)
  (hi:PySem.W.findIn K (.ref C) "__init__"=some (some (.ref fI))) (hf:PySem.W.typeIn K (.ref fI)=some (.type "function")) (hrest:rest.length<=sizeLine)
  (hq:∀h',Heap.MadeExcOf h h' (h.objs.size+1) (.ref C) rest->wpAny (model prog w) (A.under (.builtin "type.__call__" ⟨.ref C::rest,[]⟩)) (call (.ref fI) (.ref (h.objs.size+1)::rest)) (fun r s'=>r=.none/\Q (.ref (h.objs.size+1)) s') E ⟨h',g,d,t,os⟩) :
  wpAny (model prog w) A (call (.ref C) rest) Q E ⟨h,g,d,t,os⟩:=by
 have u1:=tc_lookup;have u2:=tc_bind (.ref C);have hT:(⟨h,g,d,t,os⟩:Shared).TypeIs (.ref C) "type":=⟨_,hC,rfl⟩
 refine wpAny_call (codeAny_of_tree ?_);show wpAny _ _ (callAny (.ref C) _) _ _ _
 repeat (any_goals (first
  | assumption
  | with_reducible refine wpAny_loadPart_at hC ?_
  | wp_step))
 refine⟨rfl,?_⟩;refine codeAny_call_builtin_at (Code.quiet_builtin _ (by decide +kernel)) entry_typeCall ?_;refine wpAny_check_type_call_sub hC (qc X hC T hi hf hrest fun h' hm=>?_);exact hq h' hm
end
open PySem.Builtin PySem.Builtin.ObjectAttr
section
variable {prog:Program}{w:World}{A:Around}{E:Value->Shared->Prop}{K:PySem.W.Frag}{h:Heap}{g:Array GenState}{d:Drawn}{t:Nat}{os:OsState}
variable {nm q:Str}{C G N x:Addr}{bs:List Value}{sn:List Str}{sub:List Value}{ab:Bool}{col:Option Bool}{k0 k1 k2 k3 k5:Option Value}{name:Str}{v:Value}{o:Obj}{vs:Array Value}
def Ef(h h':Heap)(x:Addr)(o:Obj)(name:Str)(v:Value)(dx:Addr):Prop :=
 h'.get? x=some { o with dict:=some dx }/\h.objs.size<=dx/\dx≠x/\h'.Ns1 dx (fun y=>if y=name then some v else none)/\∀b ob,b≠x->h.get? b=some ob->h'.get? b=some ob
theorem ny{tk:Tok}{Q:Fin->Shared->Prop}(X:K.In h)(hC:h.get? C=some (excClassObj nm q C N bs (.ref G::vmB) true sn sub ab col none k0 k1 k2 k3 k5 "ValueError.__new__"))
  (hna:PySem.W.findIn K (.ref C) name=some none) (hx:h.get? x=some o) (hc:o.cls=.ref C) (hd:o.data=.fields vs) (hdn:o.dict=none)
  (hq:∀h' tk' dx,Ef h h' x o name v dx->Q (.done (.ret .none)) ⟨h',g,d,tk',os⟩) :
  wpAny (model prog w) A (Builtin.«object.__setattr__» ⟨[.ref x,.str name tk,v],[]⟩) Q E ⟨h,g,d,t,os⟩:=by
 have hpass:=PySem.F.store_ValueError.passes (.ref x);unfold Builtin.«object.__setattr__»
 repeat (first
  | rw [refuse_eq]
  | (rw [refuseLoop_ref,refuseLoop_ref,hpass])
  | (with_reducible refine wpAny_loadPart_at hx ?_;rw [hc])
  | with_reducible refine wpAny_mroOf_exc hC ?_
  | (with_reducible refine (PySem.W.looks_findIn X hna).at ?_)
  | wp_step)
 rw [hdn,if_neg (by simp [typeHasDict])]
 split
 .rename_i hcd;cases hcd
 split
 .rename_i c hcd;rw [hd] at hcd;cases hcd
 .have hx1:(h.push { cls:=.type "dict",data:=.dict #[] }).get? x=some o:=Heap.get?_push_of_some _ hx;have hxs:x≠h.objs.size:=ne_of_lt (Heap.lt_size hx);refine wpAny_bind (wpAny_alloc' ?_);refine wpAny_bind (wpAny_update' hx1 ?_);refine wpAny_pure ?_;generalize hg2:((h.push { cls:=.type "dict",data:=.dict #[] }).update x fun o=>{ cls:=o.cls,dict:=some h.objs.size,data:=o.data,slots:=o.slots })=h2
  have gd:h2.get? h.objs.size=some { cls:=.type "dict",data:=.dict #[] }:=by
   rw [<- hg2];exact (Heap.get?_update_ne _ _ _ _ hxs.symm).trans (Heap.get?_push_at rfl rfl)
  have gx:h2.get? x=some { o with dict:=some h.objs.size }:=by
   rw [<- hg2];refine Heap.get?_update_self _ hx1 ?_;have hfr:=(Heap.get?_some_iff.mp hx).2;obtain⟨oc,od,odt,osl⟩:=o;cases odt <;> first|rfl|exact hfr
  have kp:∀b ob,b≠x->h.get? b=some ob->h2.get? b=some ob:=fun b ob hb e=>by
   rw [<- hg2];exact (Heap.get?_update_ne _ _ _ _ hb).trans (Heap.get?_push_of_some _ e)
  have hnd:h2.Ns h.objs.size (fun _=>none):=⟨_,#[],_,gd,rfl,fun e he=>absurd he (by simp),fun _=>rfl⟩
  show wpAny _ _ (storeInDict h.objs.size (.str name tk) name v) _ _ _;unfold storeInDict newKeyGuard;refine wpAny_bind (wpAny_pure (wpAny_bind (wpAny_nsSet1 (Heap.Ns1.of_empty hnd) fun h' hn' hs=>?_)));obtain⟨oD,esD,epD,hoD,hdD,hcD⟩:=hn'.count (Within.cons name v Within.nil)
  refine wpAny_bind (wpAny_lookBehind hoD (by
   rw [hdD];exact pastItsLine_dict (le_trans hcD (by rw [length_cons,length_nil,sizeLine_eq];omega))) ?_)
  wp_walk
  exact hq h' _ h.objs.size ⟨(hs.2 x hxs).trans gx,le_refl _,hxs.symm,hn',fun b ob hb e=>(hs.2 b (ne_of_lt (Heap.lt_size e))).trans (kp b ob hb e)⟩
theorem zl{Q:Unit->Shared->Prop}(X:K.In h)(hC:h.get? C=some (excClassObj nm q C N bs (.ref G::vmB) true sn sub ab col none k0 k1 k2 k3 k5 "ValueError.__new__"))
  (hsa:PySem.W.findIn K (.ref C) "__setattr__"=some (some (.builtin "object.__setattr__"))) (hna:PySem.W.findIn K (.ref C) name=some none)
  (hx:h.get? x=some o) (hc:o.cls=.ref C) (hd:o.data=.fields vs) (hdn:o.dict=none)
  (hq:∀h' tk' dx,Ef h h' x o name v dx->Q () ⟨h',g,d,tk',os⟩) :
  wpAny (model prog w) A (setAttr (.ref x) name v) Q E ⟨h,g,d,t,os⟩:=by
 have SF:=PySem.F.store_ValueError;have u3:=SF.slot.bind (.ref x);unfold setAttr callSpecial? specialOf;refine wpAny_bind (wpAny_mkText (wpAny_bind (wpAny_bind (wpAny_bind (wpAny_typeOf_ref hx ?_)))));rw [hc];refine (PySem.W.looks_findIn X hsa).at ?_;refine wpAny_holding (wpAny_bind (wpAny_of_eq u3 (wpAny_bind (wpAny_call ?_))))
 have own:(Value.ref C::.ref G::vmB).contains (.type "object")=true:=by
  rw [contains_cons,contains_cons,SF.hasOwner,Bool.or_true,Bool.or_true]
 refine codeAny_call_builtin SF.slot.plain SF.entry ?_;simp only [checkBuiltinCall,SF.kind,SF.split];have ha:=SF.args (.ref x) (.str name t) v;show wpAny _ _ (isInstance (.ref x) (.type "object") >>= _) _ _ _;refine wpAny_bind ?_;unfold isInstance;refine wpAny_bind (wpAny_typeOf_ref hx ?_);rw [hc];refine wpAny_isSubtype_exc hC ?_;rw [own]
 have step:∀{Q':Fin->Shared->Prop},(∀s',Q () s'->Q' (.done (.ret .none)) s')->wpAny (model prog w) A.in1 (Builtin.«object.__setattr__» ⟨[.ref x,.str name t,v],[]⟩) Q' E ⟨h,g,d,t+1,os⟩:=fun k =>
  ny X hC hna hx hc hd hdn fun h' tk' dx z=>k _ (hq h' tk' dx z)
 show wpAny _ _ (match Manifest.signature? "object.__setattr__" with|some sig=>Bind.checkArgs "object.__setattr__" sig { pos:=[Value.ref x]++[Value.str name t,v] }|x=>pure ()) _ _ _
 cases hsig:Manifest.signature? "object.__setattr__" with
 | none=>exact wpAny_pure (step fun s' z=>wpAny_pure (wpAny_pure z))
 | some sig =>
  simp only [argsOk,hsig] at ha;have h2:Bind.checkArgs "object.__setattr__" sig ⟨[.ref x,.str name t,v],[]⟩=pure ():=ha;show wpAny _ _ (Bind.checkArgs "object.__setattr__" sig ⟨[.ref x,.str name t,v],[]⟩) _ _ _;rw [h2];exact wpAny_pure (step fun s' z=>wpAny_pure (wpAny_pure z))
end
open PySem.Builtin PySem.Builtin.ObjectAttr
section
variable {prog:Program}{w:World}{A:Around}{E:Value->Shared->Prop}{K:PySem.W.Frag}{h:Heap}{g:Array GenState}{d:Drawn}{t:Nat}{os:OsState}
variable {nm q:Str}{C G N x dx:Addr}{bs:List Value}{sn:List Str}{sub:List Value}{ab:Bool}{col:Option Bool}{k0 k1 k2 k3 k5:Option Value}{name:Str}{v:Value}{o:Obj}{vs:Array Value}{mA:Str->Option Value}
theorem oR{tk:Tok}{Q:Fin->Shared->Prop}(X:K.In h)(hC:h.get? C=some (excClassObj nm q C N bs (.ref G::vmB) true sn sub ab col none k0 k1 k2 k3 k5 "ValueError.__new__"))
  (hna:PySem.W.findIn K (.ref C) name=some none) (hx:h.get? x=some o) (hc:o.cls=.ref C) (hd:o.data=.fields vs) (hdx:o.dict=some dx) (hns:h.Ns dx mA) (hv:mA name=some v)
  (hq:Q (.done (.ret v)) ⟨h,g,d,t,os⟩):wpAny (model prog w) A (Builtin.«object.__getattribute__» ⟨[.ref x,.str name tk],[]⟩) Q E ⟨h,g,d,t,os⟩:=by
 unfold Builtin.«object.__getattribute__»
 repeat (first
  | (with_reducible refine wpAny_loadPart_at hx ?_;rw [hc])
  | (with_reducible refine (PySem.W.looks_findIn X hna).at ?_)
  | wp_step)
 rw [hd];show wpAny _ _ (instanceDict x false) _ _ _;unfold instanceDict
 repeat (first
  | (with_reducible refine wpAny_loadPart_at hx ?_;rw [hc])
  | with_reducible refine wpAny_loadPart_at hC ?_
  | wp_step)
 rw [hdx]
 repeat (first
  | (with_reducible refine wpAny_nsGet hns ?_;rw [hv])
  | wp_step)
 exact hq
end
open PySem.Builtin PySem.Builtin.ObjectAttr
section
variable {prog:Program}{w:World}{A:Around}{E:Value->Shared->Prop}{K:PySem.W.Frag}{h:Heap}{g:Array GenState}{d:Drawn}{t:Nat}{os:OsState}
variable {nm q:Str}{C G N x dx:Addr}{bs:List Value}{sn:List Str}{sub:List Value}{ab:Bool}{col:Option Bool}{k0 k1 k2 k3 k5:Option Value}{name:Str}{v:Value}{o:Obj}{vs:Array Value}{mA:Str->Option Value}
theorem uS{R:Result->Shared->Prop}(hC:h.get? C=some (excClassObj nm q C N bs (.ref G::vmB) true sn sub ab col none k0 k1 k2 k3 k5 "ValueError.__new__"))(hx:h.get? x=some o)(hc:o.cls=.ref C)
  (hq:R (.ok (.ret (.ref C))) ⟨h,g,d,t,os⟩):codeAny (model prog w) A (.call (.builtin "getset_descriptor.__get__") ⟨[.builtin "object.__class__",.ref x,.ref C],[]⟩) R ⟨h,g,d,t,os⟩:=by
 have hT5:(⟨h,g,d,t,os⟩:Shared).TypeIs (.builtin "object.__class__") "getset_descriptor":=PySem.F.typeOf_object_class
 have own:(Value.ref C::.ref G::vmB).contains (.type (".".intercalate ("object.__class__".cutAt '.').dropLast))=true:=by
  rw [PySem.F.owner_object_class];rfl
 refine codeAny_call_builtin PySem.F.slot_gs_get.plain PySem.F.entry_gs_get ?_;refine PySem.F.slot_gs_get.check _ _ _ _ _ _ _ _ hT5 (PySem.F.args_gs_get _ _ _) ?_
 repeat (any_goals (first
  | assumption
  | (with_reducible refine wpAny_loadPart_at hx ?_;rw [hc])
  | (with_reducible refine wpAny_isSubtype_exc hC ?_;rw [own])
  | wp_step))
 refine⟨Code.quiet_builtin _ (by decide +kernel),codeAny_builtin PySem.F.entry_object_class ?_⟩
 repeat (any_goals (first
  | assumption
  | (with_reducible refine wpAny_loadPart_at hx ?_;rw [hc])
  | wp_step))
theorem qe{tk:Tok}{Q:Fin->Shared->Prop}(X:K.In h)(hC:h.get? C=some (excClassObj nm q C N bs (.ref G::vmB) true sn sub ab col none k0 k1 k2 k3 k5 "ValueError.__new__"))(hx:h.get? x=some o)(hc:o.cls=.ref C)
  (hcl:PySem.W.findIn K (.ref C) "__class__"=some (some (.builtin "object.__class__"))) (hq:Q (.done (.ret (.ref C))) ⟨h,g,d,t,os⟩) :
  wpAny (model prog w) A (Builtin.«object.__getattribute__» ⟨[.ref x,.str "__class__" tk],[]⟩) Q E ⟨h,g,d,t,os⟩:=by
 have u5:=PySem.F.typeOf_object_class;have u6:=PySem.F.slot_gs_get.lookup;have u7:=PySem.F.slot_gs_set.lookup;unfold Builtin.«object.__getattribute__»
 repeat (any_goals (first
  | assumption
  | (with_reducible refine wpAny_loadPart_at hx ?_;rw [hc])
  | (with_reducible refine (PySem.W.looks_findIn X hcl).at ?_)
  | wp_step))
 refine uS hC hx hc ?_
 repeat (any_goals (first
  | assumption
  | wp_step))
end
open PySem.Builtin PySem.Builtin.ObjectAttr
section
variable {prog:Program}{w:World}{A:Around}{E:Value->Shared->Prop}{K:PySem.W.Frag}{h:Heap}{g:Array GenState}{d:Drawn}{t:Nat}{os:OsState}
variable {nm q:Str}{C G N x dx:Addr}{bs:List Value}{sn:List Str}{sub:List Value}{ab:Bool}{col:Option Bool}{k0 k1 k2 k3 k5:Option Value}{name:Str}{v:Value}{o:Obj}{vs:Array Value}{mA:Str->Option Value}
theorem Eg{fill expr:Bool}{tk:Tok}{Q:Value->Shared->Prop}(X:K.In h)(hC:h.get? C=some (excClassObj nm q C N bs (.ref G::vmB) true sn sub ab col none k0 k1 k2 k3 k5 "ValueError.__new__"))
  (hga:PySem.W.findIn K (.ref C) "__getattribute__"=some (some (.builtin "BaseException.__getattribute__"))) (hgh:PySem.W.findIn K (.ref C) "__getattr__"=some none)
  (hx:h.get? x=some o) (hc:o.cls=.ref C) (hh:handedOut v=pure v)
  (step:∀{Q':Fin->Shared->Prop}{E':Value->Shared->Prop},Q' (.done (.ret v)) ⟨h,g,d,t,os⟩->wpAny (model prog w) A.in1 (Builtin.«object.__getattribute__» ⟨[.ref x,.str name tk],[]⟩) Q' E' ⟨h,g,d,t,os⟩)
  (hq:Q v ⟨h,g,d,t,os⟩):wpAny (model prog w) A (getAttrBy (.ref x) (.str name tk) fill expr) Q E ⟨h,g,d,t,os⟩:=by
 unfold getAttrBy;refine wpAny_holding (wpAny_bind (wpAny_typeOf_ref hx ?_));rw [hc];refine wpAny_bind ((PySem.W.looks_findIn X hga).at ?_);have hx2:(Value.builtin "BaseException.__getattribute__" == Value.builtin "object.__getattribute__")=false:=by decide +kernel
 show wpAny _ _ (if (onTheHeap (.ref C) && (Value.builtin "BaseException.__getattribute__" == Value.builtin "object.__getattribute__"))=true then _ else _) _ _ _;rw [hx2,Bool.and_false,if_neg (by decide)];unfold getAttrByItsOwn;refine wpAny_bind ((PySem.W.looks_hook X (r:=none) (by rw [if_pos (by rfl)];exact hgh)).at ?_);refine wpAny_bind (wpAny_attempt ?_);unfold callGetattribute;refine wpAny_holding ?_
 rw [if_neg (by cases expr <;> decide)];unfold boundAndCalled;have FB:=PySem.F.attrBase_ValueError
 have own:(Value.ref C::.ref G::vmB).contains (.type "BaseException")=true:=by
  rw [contains_cons,contains_cons,FB.hasBase,Bool.or_true,Bool.or_true]
 have ha:=PySem.F.args_bexc_ga (.ref x) (.str name tk);have hk:builtinKind "BaseException.__getattribute__"=some .slot:=by decide +kernel
 have hsp:splitId "BaseException.__getattribute__"=some ("BaseException","__getattribute__"):=by decide +kernel
 refine wpAny_bind (wpAny_of_eq (FB.ga.bind (.ref x)) ?_);refine wpAny_call (codeAny_call_builtin FB.ga.plain PySem.F.entry_bexc_ga ?_);simp only [checkBuiltinCall,hk,hsp];show wpAny _ _ (isInstance (.ref x) (.type "BaseException") >>= _) _ _ _;refine wpAny_bind ?_;unfold isInstance;refine wpAny_bind (wpAny_typeOf_ref hx ?_);rw [hc];refine wpAny_isSubtype_exc hC ?_;rw [own];have done:wpAny (model prog w) A (handedOut v) Q E ⟨h,g,d,t,os⟩:=by rw [hh];exact wpAny_pure hq
 show wpAny _ _ (match Manifest.signature? "BaseException.__getattribute__" with|some sig=>Bind.checkArgs "BaseException.__getattribute__" sig { pos:=[Value.ref x]++[Value.str name tk] }|x=>pure ()) _ _ _
 cases hsig:Manifest.signature? "BaseException.__getattribute__" with
 | none=>exact wpAny_pure (step done)
 | some sig =>
  simp only [argsOk,hsig] at ha;have h2:Bind.checkArgs "BaseException.__getattribute__" sig ⟨[.ref x,.str name tk],[]⟩=pure ():=ha;show wpAny _ _ (Bind.checkArgs "BaseException.__getattribute__" sig ⟨[.ref x,.str name tk],[]⟩) _ _ _;rw [h2];exact wpAny_pure (step done)
theorem zm{Q:Option Value->Shared->Prop}(X:K.In h)(hC:h.get? C=some (excClassObj nm q C N bs (.ref G::vmB) true sn sub ab col none k0 k1 k2 k3 k5 "ValueError.__new__"))
  (hga:PySem.W.findIn K (.ref C) "__getattribute__"=some (some (.builtin "BaseException.__getattribute__"))) (hgh:PySem.W.findIn K (.ref C) "__getattr__"=some none)
  (hcl:PySem.W.findIn K (.ref C) "__class__"=some (some (.builtin "object.__class__"))) (hx:h.get? x=some o) (hc:o.cls=.ref C) (hq:Q (some (.ref C)) ⟨h,g,d,t+1,os⟩) :
  wpAny (model prog w) A (getAttr? (.ref x) "__class__") Q E ⟨h,g,d,t,os⟩:=by
 unfold getAttr? getAttrBy?;refine wpAny_bind (wpAny_mkText (wpAny_bind (wpAny_attempt ?_)));exact Eg X hC hga hgh hx hc rfl (fun k=>qe X hC hx hc hcl k) (wpAny_pure hq)
structure XC (K:PySem.W.Frag) (C G:Addr):Prop where
 obj:∃nm q N bs sn sub ab col k0 k1 k2 k3 k5,K.lookup C=some (excClassObj nm q C N bs (.ref G::vmB) true sn sub ab col none k0 k1 k2 k3 k5 "ValueError.__new__")
 ga:PySem.W.findIn K (.ref C) "__getattribute__"=some (some (.builtin "BaseException.__getattribute__"))
 gh:PySem.W.findIn K (.ref C) "__getattr__"=some none
 sa:PySem.W.findIn K (.ref C) "__setattr__"=some (some (.builtin "object.__setattr__"))
 cl:PySem.W.findIn K (.ref C) "__class__"=some (some (.builtin "object.__class__"))
theorem nA{dd:Option Addr}{new:Bool}(c:XC K C G):PySem.W.KitX K (.ref x) (.ref C) (XAt x C dd new) where
 ty:=fun M h X p=>by
  obtain⟨o,vs,h1,h2,_⟩:=p;exact h2 ▸ (PySem.W.Looks.ld h1).andThen .now
 it:=fun M h X p=>by
  obtain⟨nm,q,N,bs,sn,sub,ab,col,k0,k1,k2,k3,k5,e⟩:=c.obj;intro A' Q' E' s' k q;unfold isType loadHead;exact wpAny_bind (wpAny_loadPart (k _ _ (X _ _ e)) (wpAny_pure q))
 ne:=fun h tp dd its n sl X htp=>by
  obtain⟨nm,q,N,bs,sn,sub,ab,col,k0,k1,k2,k3,k5,e⟩:=c.obj;refine eq_false_iff.mpr fun z=>?_;have e2:C=tp:=Value.ref.inj (beq_iff_eq.mp z);subst e2;have e3:=congrArg Obj.data (Option.some.inj ((X _ _ e).symm.trans htp));cases e3
 ca:=fun {prog w A E Q s} X p k=>by
  obtain⟨h,g,d,t,os⟩:=s;obtain⟨o,vs,h1,h2,_⟩:=p;obtain⟨nm,q,N,bs,sn,sub,ab,col,k0,k1,k2,k3,k5,e⟩:=c.obj;exact zm X (X _ _ e) c.ga c.gh c.cl h1 h2 k
end
theorem uT{v:V}{u:Value}(r:dn v u):handedOut u=pure u:=by
 cases v with
 | non=>cases (show u=Value.none from r);rfl
 | bl b=>cases (show u=Value.bool b from r);rfl
 | int i=>obtain⟨t,e⟩:=(show ∃t,u=Value.int i t from r);subst e;rfl
 | str x=>obtain⟨t,e⟩:=(show ∃t,u=Value.str x t from r);subst e;rfl
 | flt x=>obtain⟨t,e⟩:=(show ∃t,u=Value.float x t from r);subst e;rfl
 | ty n=>cases (show u=Value.type n from r);rfl
 | byt b=>obtain⟨t,e⟩:=(show ∃t,u=Value.bytes b t from r);subst e;rfl
 | ref a=>cases (show u=Value.ref a from r);rfl
theorem XAt.ok{P:Program}{w:World}{H:Hp}{h:Heap}{x C:Addr}{dd:Option Addr}{new:Bool}(p:XAt x C dd new h):bK P w H h x (.ext (XAt x C dd new)):=by
 obtain⟨o,vs,h1,h2,h3,h4⟩:=id p;exact⟨p,⟨o,h1⟩,fun g1 g2 ⟨o',vs',a1,a2⟩ k=>⟨o',vs',k _ a1,a2⟩⟩
section
variable {X:Cx}{pins:List (Addr×Obj)}{σ:St}{H:Hp}{s:Shared}{a dx C G:Addr}{f:Str}{v:V}{fs:List (Str×V)}{A:Around}{E:Value->Shared->Prop}
theorem ED{b new:Bool}{Q:Value->Shared->Prop}(I:Inv X pins σ H s)(ea:H a=some (.ext (XAt a C (some dx) new)))(ed:H dx=some (.xd fs))(c:XC X.K C G)(n:PySem.W.findIn X.K (.ref C) f=some none)(l:fs.lookup f=some v)
  (h:∀u s',Inv X pins σ H s'->dn v u->Q u s'):wpAny (model X.prog X.w) A (getAttr (.ref a) f b) Q E s:=by
 obtain⟨⟨o,vs,h1,h2,h3,h4,h5⟩,_,_⟩:=(show bK X.prog X.w H s.heap a (.ext (XAt a C (some dx) new)) from I.hok a _ ea)
 obtain⟨mA,hns,r⟩:=(show bK X.prog X.w H s.heap dx (.xd fs) from I.hok dx _ ed)
 obtain⟨u,hu,ru⟩:=rH.some_of (v:=v) (o:=mA f) (by rw [<- l];exact r f);obtain⟨nm,q,N,bs,sn,sub,ab,col,k0,k1,k2,k3,k5,e⟩:=c.obj;have I2:=I.tok (s.toks+1);have X2:=I.kIn;obtain⟨hh,g,d,t,os⟩:=s;unfold getAttr;refine wpAny_bind (wpAny_mkText ?_);exact Eg X2 (X2 _ _ e) c.ga c.gh h1 h2 (uT ru) (fun k=>oR X2 (X2 _ _ e) n h1 h2 h4 h3 hns.ns hu k) (h u _ I2 ru)
theorem Un.setX{h h':Heap}{fs ex:List Addr}{o:HO}{o2:HO}(mu:Mut (H a))(hx:H dx=none)(hd:h.get? dx=none)(k:∀b ob,b≠a->h.get? b=some ob->h'.get? b=some ob)(ha:∃o,h'.get? a=some o):Un fs ex H (upd (upd H dx o) a o2) h h':=by
 have na:∀b,H b=none->b≠a:=fun b n z=>by subst z;rw [n] at mu;exact mu
 have nd:∀b ob,h.get? b=some ob->b≠dx:=fun b ob e z=>by rw [z,hd] at e;cases e
 have hm:∀b u,H b=some u->¬ Mut (some u)->b≠a/\b≠dx:=fun b u q nm=>⟨fun z=>by subst z;rw [q] at mu;exact nm mu,fun z=>by subst z;rw [hx] at q;cases q⟩
 refine⟨fun b u q n _ _=>k b u (na b n) q,fun b u q n _ _=>⟨u.slots,k b u (na b n) q⟩,fun b u q n _=>by rw [ap (na b n),ap (nd b u q)];exact n,fun b u q _=>?_,
  fun b xs q=>by rw [ap (hm b _ q fun z=>z).1,ap (hm b _ q fun z=>z).2];exact q,fun b u xs q=>by rw [ap (hm b _ q fun z=>z).1,ap (hm b _ q fun z=>z).2];exact q,
  fun b ps q=>⟨#[],by rw [ap (hm b _ q fun z=>z).1,ap (hm b _ q fun z=>z).2,q];simp⟩⟩
 by_cases hb:b=a
 .subst hb;exact ha
 .exact⟨u,k b u hb q⟩
theorem setX{new:Bool}{y:V}{u:Value}{Q:Unit->Shared->Prop}(I:Inv X pins σ H s)(ea:H a=some (.ext (XAt a C none new)))(c:XC X.K C G)(n:PySem.W.findIn X.K (.ref C) f=some none)(ry:dn y u)
  (h:∀dx s',H dx=none->Inv X pins σ (upd (upd H dx (.xd [(f,y)])) a (.ext (XAt a C (some dx) new))) s'->Q () s'):wpAny (model X.prog X.w) A (setAttr (.ref a) f u) Q E s:=by
 obtain⟨⟨o,vs,h1,h2,h3,h4,h5⟩,_,_⟩:=(show bK X.prog X.w H s.heap a (.ext (XAt a C none new)) from I.hok a _ ea)
 obtain⟨nm,q,N,bs,sn,sub,ab,col,k0,k1,k2,k3,k5,e⟩:=c.obj;have X2:=I.kIn;obtain⟨hh,g,d,t,os⟩:=s;refine zl X2 (X2 _ _ e) c.sa n h1 h2 h4 h3 fun h' tk' dx z=>?_;obtain⟨z1,z2,z3,z4,z5⟩:=z;have hdx:H dx=none:=I.hok.fresh z2;have hg0:hh.get? dx=none:=Heap.get?_none_of_le z2;have hne:dx≠a:=z3;have mu:Mut (H a):=by rw [ea];exact True.intro
 refine h dx _ hdx (I.un (t':=tk') (Un.setX mu hdx hg0 z5 ⟨_,z1⟩) fun b ob eb=>?_)
 by_cases hb:b=a
 .subst hb;rw [ay] at eb;cases eb;exact XAt.ok ⟨_,vs,z1,h2,rfl,h4,h5⟩
 .rw [ap hb] at eb
  by_cases hb2:b=dx
  .subst hb2;rw [ay] at eb;cases eb;refine⟨_,z4,fun y'=>?_⟩;show rH (List.lookup y' [(f,y)]) _
   by_cases q:y'=f
   .subst q;rw [if_pos rfl];have e1:List.lookup y' [(y',y)]=some y:=by simp [List.lookup]
    rw [e1];exact ry
   .rw [if_neg q];have:(y' == f)=false:=beq_eq_false_iff_ne.mpr q;simp [List.lookup,this,rH]
  .rw [ap hb2] at eb
   refine (I.hok b ob eb).stay (fun c w hc e=>?_) (fun c e=>?_) fun c xs e=>?_
   .refine z5 c w ?_ e;rintro rfl
    rcases hc with hc|hc
    .exact hb hc.symm
    .rw [ea] at hc;cases hc
   .rw [ap,ap]
    .exact e
    .rintro rfl;rw [hdx] at e;cases e
    .rintro rfl;rw [ea] at e;cases e
   .rw [ap,ap]
    .exact e
    .rintro rfl;rw [hdx] at e;cases e
    .rintro rfl;rw [ea] at e;cases e
end
section
variable {X:Cx}{o e value:Expr}{f:Str}{pos pos':Pos}{ta tv:TE}
def zn(K:PySem.W.Frag)(ta:TE)(f:Str):TE:=fun σ H Q=>ta σ H fun x H1=>∃a C G dx new fs v,x=.ref a/\H1 a=some (.ext (XAt a C (some dx) new))/\H1 dx=some (.xd fs)/\XC K C G/\PySem.W.findIn K (.ref C) f=some none/\fs.lookup f=some v/\Q v H1
theorem zo(he:PE X e ta)(hb:attributeBase e f X.env (eval e X.env)=eval e X.env):PE X (.Attribute e f pos) (zn X.K ta f):=by
 intro pins s σ H Q I h;refine tD hb (thn (he pins s σ H _ I h) fun u s1 ⟨x,H1,I1,rx,a,C,G,dx,new,fs,v,ex,ea,ed,c,n,l,q⟩=>?_);subst ex;obtain rfl:u=Value.ref a:=rx;exact ED I1 ea ed c n l fun u' s2 I2 ru=>⟨v,H1,I2,ru,q⟩
def zp(K:PySem.W.Frag)(ta tv:TE)(f:Str):TS:=fun D σ H=>tv σ H fun y H1=>ta σ H1 fun x H2=>∃a C G new,x=.ref a/\H2 a=some (.ext (XAt a C none new))/\XC K C G/\PySem.W.findIn K (.ref C) f=some none /\
 ∀dx,H2 dx=none->D.nx σ (upd (upd H2 dx (.xd [(f,y)])) a (.ext (XAt a C (some dx) new)))
theorem zq(ha:PE X o ta)(hv:PE X value tv)(hs:swapsWith value (some (.Attribute o f pos')) pos.line X.env=pure false):PS X (.Assign [.Attribute o f pos'] value pos) (zp X.K ta tv f):=by
 intro pins s σ H D I h;refine plainObj_wpAny_Assign_Attribute (thn (hv pins s σ H _ I h) fun u s1 ⟨y,H1,I1,ry,q⟩=>thn (ha pins s1 σ H1 _ I1 q) fun ov s2 ⟨x,H2,I2,rx,a,C,G,new,ex,ea,c,n,q2⟩=>?_) hs;subst ex;obtain rfl:ov=Value.ref a:=rx;exact setX I2 ea c n ry fun dx s3 hdx I3=>⟨σ,_,I3,q2 dx hdx⟩
end
theorem bK.there{P:Program}{w:World}{H:Hp}{h:Heap}{a:Addr}{o:HO}(x:bK P w H h a o):∃ob,h.get? a=some ob:=by
 cases o with
 | lst xs=>obtain⟨_,_,_,_,e⟩:=x;exact⟨_,e⟩
 | tup xs=>obtain⟨_,_,_,ob,e,_⟩:=x;exact⟨ob,e⟩
 | dK kvs=>obtain⟨_,_,_,_,o,_,_,e,_⟩:=x;exact⟨o,e⟩
 | dT kvs=>obtain⟨_,_,_,_,o,_,_,e,_⟩:=x;exact⟨o,e⟩
 | set S n=>obtain⟨o,_,_,_,e,_⟩:=x;exact⟨o,e⟩
 | ins C dx fs=>obtain⟨_,_,_,e,_⟩:=x;exact⟨_,e⟩
 | own y=>exact x
 | xd fs=>obtain⟨_,⟨o,_,_,e,_⟩,_⟩:=x;exact⟨o,e⟩
 | rng lo hi=>obtain⟨_,_,_,e⟩:=x;exact⟨_,e⟩
 | frz ob u=>obtain⟨e,_⟩:=x;exact⟨ob,e⟩
 | tbl ps=>exact⟨_,(show h.get? a=some _ from x)⟩
 | met f y=>exact⟨_,(show h.get? a=some _ from x)⟩
 | ext φ=>exact x.2.1
theorem HOk.not{P:Program}{w:World}{H:Hp}{h:Heap}{a:Addr}(x:HOk P w H h)(e:h.get? a=none):H a=none:=by
 cases q:H a with
 | none=>rfl
 | some u=>obtain⟨ob,e2⟩:=(x a u q).there;rw [e] at e2;cases e2
section
variable {X:Cx}{pins:List (Addr×Obj)}{σ:St}{H:Hp}{s:Shared}{h':Heap}{a:Addr}{o:HO}
theorem Inv.news{t':Nat}(I:Inv X pins σ H s)(k:∀b u,s.heap.get? b=some u->h'.get? b=some u)(hn:s.heap.get? a=none)(new:bK X.prog X.w (upd H a o) h' a o):Inv X pins σ (upd H a o) { s with heap:=h',toks:=t' }:=by
 have ha:=I.hok.not hn
 refine I.un ⟨fun b u q _ _ _=>k b u q,fun b u q _ _ _=>⟨u.slots,k b u q⟩,fun b u q n _=>?_,fun b u q _=>⟨u,k b u q⟩,fun b xs q=>?_,fun b u xs q=>?_,fun b ps q=>⟨#[],?_⟩⟩ fun b u q=>?_
 .rw [ap (fun z=>by rw [z,hn] at q;cases q)];exact n
 .rw [ap (aH q ha)];exact q
 .rw [ap (aH q ha)];exact q
 .rw [ap (aH q ha),q];simp
 .by_cases hb:b=a
  .subst hb;rw [ay] at q;cases q;exact new
  .rw [ap hb] at q;exact (I.hok b u q).stay (fun c v _ e=>k c v e) (fun c e=>by rw [ap (aH e ha)];exact e) fun c xs e=>by rw [ap (aH e ha)];exact e
end
structure XM (K:PySem.W.Frag) (C G fI:Addr):Prop where
 c:XC K C G
 tail:∀h:Heap,K.In h->OwnTail h vmB (.ref G::vmB)
 init:PySem.W.findIn K (.ref C) "__init__"=some (some (.ref fI))
 fn:PySem.W.typeIn K (.ref fI)=some (.type "function")
 kp:PySem.W.keepIn K (.ref C)=true
def xI(K:PySem.W.Frag)(f:Str):Sp:=fun vs H Q _=>∃a C G new v,vs=[.ref a,v]/\H a=some (.ext (XAt a C none new))/\XC K C G/\PySem.W.findIn K (.ref C) f=some none/\∀dx,H dx=none->Q .non (upd (upd H dx (.xd [(f,v)])) a (.ext (XAt a C (some dx) new)))
structure wU (P:Program) (w:World) (K:PySem.W.Frag) (mg:Str->Option Value) (base:Heap) (k:Nat) (C:Addr) (x f:Str):Prop where
 ex:∃(G fI:Addr) (fd:FuncData) (ps:List Str),lA P w K mg base CX0 k fI fd ps (xI K f)/\iu K fd ps []/\XM K C G fI/\PySem.W.findIn K (.ref C) f=some none/\mg x=some (.ref C)
def BM(C:Addr)(f:Str)(t:TA):TE:=fun σ H Q=>t σ H fun vs H1=>∃v,vs=[v]/\∀e dx,H1 e=none->H1 dx=none->dx≠e->Q (.ref e) (upd (upd H1 dx (.xd [(f,v)])) e (.ext (XAt e C (some dx) true)))
section
variable {X:Cx}{k:Nat}{C:Addr}{x f:Str}{p pos:Pos}{e:Expr}{es:List Expr}{t:TA}
theorem wV{pins:List (Addr×Obj)}{σ:St}{H:Hp}{s:Shared}{Q:VK}{u:Value}{v:V}(M:wU X.prog X.w X.K X.mg X.base k C x f)(hr:fh (k+1) X.A)(I:Inv X pins σ H s)(r:dn v u)
  (h:∀e dx,H e=none->H dx=none->dx≠e->Q (.ref e) (upd (upd H dx (.xd [(f,v)])) e (.ext (XAt e C (some dx) true)))):wpAny (model X.prog X.w) X.A (call (.ref C) [u]) (EP X pins σ Q) X.xe s:=by
 obtain⟨G,fI,fd,ps,F,hb,m,na,hm⟩:=M.ex;obtain⟨nm,q,N,bs,sn,sub,ab,col,k0,k1,k2,k3,k5,ob⟩:=m.c.obj;have X2:=I.kIn;have I0:=I;have hz:s.heap.get? (s.heap.objs.size+1)=none:=Heap.get?_none_of_le (le_succ _);have he0:=I.hok.not hz;obtain⟨hh,g,d,tk,os⟩:=s;refine zk X2 (X2 _ _ ob) (m.tail hh X2) m.init m.fn (by show 1<=sizeLine;decide) fun h' made=>?_;obtain⟨tt,m1,m2,m3⟩:=made.there;have new:XAt (hh.objs.size+1) C none true h':=⟨_,_,m1,rfl,rfl,rfl,(by show 1<6;decide),fun _=>rfl⟩
 have I2:Inv X pins σ (upd H (hh.objs.size+1) (.ext (XAt (hh.objs.size+1) C none true))) { heap:=h',gens:=g,drawn:=d,toks:=tk,os:=os }:=I0.news (t':=tk) made.keeps hz new.ok
 have hsp:xI X.K f [V.ref (hh.objs.size+1),v] (upd H (hh.objs.size+1) (.ext (XAt (hh.objs.size+1) C none true))) (fun y H2=>y=.non/\Q (.ref (hh.objs.size+1)) H2) E0:=by
  refine⟨_,C,G,true,v,rfl,ay,m.c,na,fun dx hdx=>⟨rfl,?_⟩⟩;have hne:dx≠hh.objs.size+1:=fun z=>by rw [z,ay] at hdx;cases hdx
  rw [ap hne] at hdx
  have e1:upd (upd (upd H (hh.objs.size+1) (.ext (XAt (hh.objs.size+1) C none true))) dx (.xd [(f,v)])) (hh.objs.size+1) (.ext (XAt (hh.objs.size+1) C (some dx) true))=upd (upd H dx (.xd [(f,v)])) (hh.objs.size+1) (.ext (XAt (hh.objs.size+1) C (some dx) true)):=by
   funext b;unfold upd
   by_cases z:b=hh.objs.size+1
   .rw [if_pos z,if_pos z]
   .rw [if_neg z,if_neg z,if_neg z]
  rw [e1];exact h _ dx he0 hdx hne
 have hl:[Value.ref (hh.objs.size+1),u].length=ps.length:=(F.len _ _ _ E0 hsp).symm ▸ rfl;refine wpAny_call (codeAny_mono (F.run _ X.stack _ _ ⟨[Value.ref (hh.objs.size+1),u],[]⟩ [Value.ref (hh.objs.size+1),u] [V.ref (hh.objs.size+1),v] _ E0 (hr.make C [u] []) (I2.env0.make C [u] []) (hb _ [Value.ref (hh.objs.size+1),u] I2.kIn (by rw [append_nil];exact hl)) (.cons rfl (.cons r .nil)) hsp) fun r s' hq=>?_)
 cases r with
 | error e=>exact hq.elim
 | ok fl =>
  cases fl with
  | ret w =>
   obtain⟨y,H',I3,rv,ev,q3⟩:=I2.after hq;subst ev;exact⟨rv,V.ref (hh.objs.size+1),H',I3,rfl,q3⟩
  | next=>exact False.elim hq
  | brk=>exact False.elim hq
  | cont=>exact False.elim hq
theorem uU(M:wU X.prog X.w X.K X.mg X.base k C x f)(hr:fh (k+1) X.A)(ha:PA X (e::es) t)(hg:Gl X x:=by rfl)(hdb:(x == ("__debug__":Str))=false:=by decide)(hn:nSt e=true:=by rfl)(hp:es.all nSt=true:=by rfl) :
  PE X (.Call (.Name x p) (e::es) [] pos) (BM C f t):=by
 intro pins s σ H Q I h;obtain⟨G,fI,fd,ps,F,hb,m,na,hm⟩:=id M.ex;refine wpAny_Call_Name_kw (gF I hg hm ?_ hdb);refine PySem.W.callWith_K (h₀:=X.base) I.ok.mod.kin m.kp (thn (ha pos pins s σ H _ I h) fun us s1 ⟨vs,H1,I1,r,q⟩=>⟨I1.kIn,?_⟩) (fb hn) (dZ hp);obtain⟨v,rfl,q⟩:=q
 cases r with
 | cons r rr =>
  cases rr;exact wV M hr I1 r q
end
def X0(K:PySem.W.Frag)(C:Addr):Prop:=∀h:Heap,K.In h->∃bm N nm q bs hd sn sub ab col dd k0 k1 k2 k3 k5 mN,
 h.get? C=some (excClassObj nm q C N bs bm hd sn sub ab col dd k0 k1 k2 k3 k5 "ValueError.__new__")/\h.Ns N mN/\mN "__init__"=none/\OwnTail h vmB bm
theorem BN{K:PySem.W.Frag}{C:Addr}(q:PySem.W.excIn K C vmB "ValueError.__new__"=true):X0 K C:=fun h X=>by
 unfold PySem.W.excIn at q;split at q
 case h_2=>cases q
 case h_1 dd cd sl ho =>
  split at q
  case h_2=>cases q
  case h_1 C' bm k0 k1 k2 k3 n k5 hm hs =>
   simp only [and_eq_true,beq_iff_eq,Bool.not_eq_true'] at q;obtain⟨⟨⟨⟨⟨e1,e2⟩,hdel⟩,ht⟩,hok⟩,hni⟩:=q;subst e1 e2
   cases cd with
   | mk nm bs mro ns qn hd sn sub ab col del =>
    cases sl with
    | mk l =>
     have hs:l=[k0,k1,k2,k3,some (.builtin "ValueError.__new__"),k5]:=hs;have hm:mro=.ref C'::bm:=hm;have hdel:del=false:=hdel;subst hs hm hdel;refine⟨bm,ns,nm,qn,bs,hd,sn,sub,ab,col,dd,k0,k1,k2,k3,k5,_,X _ _ ho,.of_isNs (PySem.W.isNs_of_in X hok),PySem.W.nsMap_none_of_in X hok hni,PySem.W.tail_of_in X ht⟩
theorem zr{K:PySem.W.Frag}{G:Addr}(q:PySem.W.excIn K G vmB "ValueError.__new__"=true)(hg:∃nm q N bs sn sub ab col k0 k1 k2 k3 k5,K.lookup G=some (excClassObj nm q G N bs vmB true sn sub ab col none k0 k1 k2 k3 k5 "ValueError.__new__")) :
  ∀h:Heap,K.In h->OwnTail h vmB (.ref G::vmB):=fun h X=>by
 obtain⟨bm,N,nm,qn,bs,hd,sn,sub,ab,col,dd,k0,k1,k2,k3,k5,mN,h1,h2,h3,_⟩:=BN q h X;exact .own h1 h2 h3 .base
section
variable {X:Cx}{C:Addr}{x:Str}{p pos:Pos}
def DE(K:PySem.W.Frag)(D:Addr):List V->Hp->VK->Prop:=fun xs H Q=>∃a C G dd new b,xs=[.ref a,.ref D]/\H a=some (.ext (XAt a C dd new))/\XC K C G/\PySem.W.kitOne K (.ref C) (.ref D)=some b/\Q (.bl b) H
theorem wW{D:Addr}:bJ X (.builtin "isinstance") (DE X.K D):=by
 intro pins s σ H xs us Q I r h;obtain⟨a,C,G,dd,new,b,rfl,ea,c,e,q⟩:=h;obtain⟨u,w',rfl,rx,ry⟩:=rN r;cases (show u=Value.ref a from rx);cases (show w'=Value.ref D from ry);have ok:=(show bK X.prog X.w H s.heap a (.ext (XAt a C dd new)) from I.hok a _ ea)
 exact PySem.W.kia_one (nA c) I.kIn ok.1 e (fun z=>nomatch z) fun tk=>⟨.bl b,H,I.tok _,rfl,q⟩
def zt(K:PySem.W.Frag):List V->Hp->VK->Prop:=fun xs H Q=>∃a C G dd new n b,xs=[.ref a,.ty n]/\H a=some (.ext (XAt a C dd new))/\XC K C G/\PySem.W.kitOne K (.ref C) (.type n)=some b/\Q (.bl b) H
theorem uV:bJ X (.builtin "isinstance") (zt X.K):=by
 intro pins s σ H xs us Q I r h;obtain⟨a,C,G,dd,new,n,b,rfl,ea,c,e,q⟩:=h;obtain⟨u,w',rfl,rx,ry⟩:=rN r;cases (show u=Value.ref a from rx);cases (show w'=Value.type n from ry);have ok:=(show bK X.prog X.w H s.heap a (.ext (XAt a C dd new)) from I.hok a _ ea)
 exact PySem.W.kia_one (nA c) I.kIn ok.1 e (fun z=>nomatch z) fun tk=>⟨.bl b,H,I.tok _,rfl,q⟩
end
def XCl(K:PySem.W.Frag)(c:Str):Prop:=∃dd cd sl,K.lookup (aD K c)=some ⟨.type "type",dd,.cls cd,sl⟩/\cd.name=c
structure vG (K:PySem.W.Frag) (cs:List Str):Prop where
 g:XCl K "GlueError"
 n:∀c∈cs,XCl K c
 c:∀c∈cs,XC K (aD K c) (aD K "GlueError")
section
variable {K:PySem.W.Frag}{C G D:Addr}{c d:Str}
theorem XCl.ne(h1:XCl K c)(h2:XCl K d)(n:c≠d):aD K c≠aD K d:=fun e=>by
 obtain⟨_,cd,_,l1,n1⟩:=h1;obtain⟨_,cd2,_,l2,n2⟩:=h2;rw [e,l2] at l1;cases l1;exact n (n1.symm.trans n2)
theorem uW(x:XC K C G)(base:Value):PySem.W.subIn K (.ref C) base=some ((Value.ref C::.ref G::vmB).contains base):=by
 obtain⟨nm,q,N,bs,sn,sub,ab,col,k0,k1,k2,k3,k5,e⟩:=x.obj;show PySem.W.mroIn K C base=_;unfold PySem.W.mroIn PySem.W.clsIn;rw [e];rfl
theorem zu(x:XC K C G)(y:∃dd cd sl,K.lookup D=some ⟨.type "type",dd,.cls cd,sl⟩):PySem.W.kitOne K (.ref C) (.ref D)=some (decide (C=D) || decide (D=G)):=by
 obtain⟨dd,cd,sl,e⟩:=y;unfold PySem.W.kitOne
 by_cases h:C=D
 .subst h;simp
 .rw [if_neg (fun z=>h (Value.ref.inj (beq_iff_eq.mp z)))];unfold PySem.W.kitCls
  have e1:((PySem.W.clsIn K D).isSome && PySem.W.typeIn K (.ref D) == some (.type "type"))=true:=by
   have e2:PySem.W.clsIn K D=some cd:=by unfold PySem.W.clsIn;rw [e]
   have e3:PySem.W.typeIn K (.ref D)=some (.type "type"):=by show (K.lookup D).map (·.cls)=_;rw [e];rfl
   rw [e2,e3];rfl
  show (if ((PySem.W.clsIn K D).isSome && PySem.W.typeIn K (.ref D) == some (.type "type"))=true then PySem.W.subIn K (.ref C) (.ref D) else none)=_;rw [if_pos e1,uW x,decide_eq_false h,Bool.false_or];congr 1;rw [contains_cons,contains_cons];have t1:(Value.ref D == Value.ref C)=false:=beq_eq_false_iff_ne.mpr fun z=>h (Value.ref.inj z).symm;have t2:vmB.contains (Value.ref D)=false:=rfl;rw [t1,t2,Bool.false_or,Bool.or_false]
  by_cases g:D=G
  .subst g;simp
  .rw [decide_eq_false g];exact beq_eq_false_iff_ne.mpr fun z=>g (Value.ref.inj z)
theorem zv(x:XC K C G):PySem.W.kitOne K (.ref C) (.type "ValueError")=some true:=by
 unfold PySem.W.kitOne;rw [if_neg (by intro z;cases beq_iff_eq.mp z)];unfold PySem.W.kitCls;show (if PySem.W.kitMeta "ValueError"=true then PySem.W.subIn K (.ref C) (.type "ValueError") else none)=_;rw [if_pos (by decide +kernel),uW x];rfl
end
def nW(c d:Str):Bool:=decide (c=d) || decide (d="GlueError")
theorem uX{K:PySem.W.Frag}{cs:List Str}(X:vG K cs){c d:Str}(hc:c∈cs)(hd:d∈cs\/d="GlueError"):PySem.W.kitOne K (.ref (aD K c)) (.ref (aD K d))=some (nW c d):=by
 have yd:XCl K d:=hd.elim (X.n d) fun e=>by rw [e];exact X.g
 obtain⟨dd,cd,sl,e1,e2⟩:=id yd;rw [zu (X.c c hc) ⟨dd,cd,sl,e1⟩];unfold nW
 congr 2
 .by_cases h:c=d
  .subst h;rw [decide_eq_true rfl,decide_eq_true rfl]
  .rw [decide_eq_false h,decide_eq_false ((X.n c hc).ne yd h)]
 .by_cases h:d="GlueError"
  .subst h;rw [decide_eq_true rfl,decide_eq_true rfl]
  .rw [decide_eq_false h,decide_eq_false (yd.ne X.g h)]
section
variable {K:PySem.W.Frag}{ta:TA}{te:TE}{pa:PTA}{pe:PA1}{cs:List Str}
theorem FVc.exc{O:Addr->Prop}{H:Hp}{v:V}{c:Str}{ns:List Str}{ds:List D}(h:FVc K O H v (.exc c ns ds)):FV K O H v (.exc c ns ds):=h.fv nofun nofun
def zw(c f:Str)(pa:PTA):PTE:=fun ρ Q=>pa ρ fun as ρ1=>match avD as with
 | some [d]=>Q (.dat (.exc c [f] [d])) ρ1
 | _=>False
def uY(cs:List Str)(ats:List (Str×Str))(f:Str)(pa:PA1):PTE:=fun ρ Q=>pa ρ fun x ρ1=>match cont ρ1 x with
 | some (.exc c ns ds)=>(cs.contains c=true/\ats.contains (c,f)=true)/\∃i,eG f ns=some i/\∃d,ds[i]?=some d/\Q (.dat d) ρ1
 | _=>False
theorem nB{ats:List (Str×Str)}{f:Str}(X:vG K cs)(hat:∀c g,(c,g)∈ats->PySem.W.findIn K (.ref (aD K c)) g=some none)(h:LA1 K te pe):LE K (zn K te f) (uY cs ats f pe):=fun A ρ σ H Q Q' R q k=>h A ρ σ H _ _ R q fun v H1 a ρ1 q1 f1 R1 o1=>by
 split at q1
 .rename_i c ns ds e;obtain⟨⟨hc,ha⟩,i,hi,d,hd,q1⟩:=q1;have hc:c∈cs:=contains_iff_mem.mp hc
  cases (R1.cont o1 e).exc with
  | exc0 n1 e1=>cases hd
  | exc1 n1 n2 e1 e2 m f =>
   obtain⟨v,hv,fv⟩:=f.getD hd;exact⟨_,_,_,_,_,_,v,rfl,e1,e2,X.c c hc,hat c _ (contains_iff_mem.mp ha),by rw [kE (k:=i) (by rw [m];exact hi)];exact hv,k v H1 _ ρ1 q1 f1 ⟨R1,fv⟩⟩
 .exact q1.elim
def BO(cs:List Str)(d:Str)(pa:PA1):PTE:=fun ρ Q=>pa ρ fun x ρ1=>match cont ρ1 x with
 | some (.exc c ns ds)=>cs.contains c=true/\Q (.dat (.bl (nW c d))) ρ1
 | _=>False
theorem rp{d:Str}(X:vG K cs)(hd:d∈cs\/d="GlueError")(h:LA1 K te pe):LE K (tCB (DE K (aD K d)) (bp te (bp (tC (.ref (aD K d))) fE))) (BO cs d pe):=fun A ρ σ H Q Q' R q k=>h A ρ σ H _ _ R q fun v H1 a ρ1 q1 f1 R1 o1=>by
 split at q1
 .rename_i c ns ds e;obtain⟨hc,q1⟩:=q1;have hc:c∈cs:=contains_iff_mem.mp hc;have ek:=uX X hc hd
  cases (R1.cont o1 e).exc with
  | exc0 n1 e1=>exact⟨_,_,_,_,_,_,rfl,e1,X.c c hc,ek,k _ H1 _ ρ1 q1 f1 ⟨R1,.bl _⟩⟩
  | exc1 n1 n2 e1 e2 m f=>exact⟨_,_,_,_,_,_,rfl,e1,X.c c hc,ek,k _ H1 _ ρ1 q1 f1 ⟨R1,.bl _⟩⟩
 .exact q1.elim
def Eh(cs:List Str)(pa:PA1):PTE:=fun ρ Q=>pa ρ fun x ρ1=>match cont ρ1 x with
 | some (.exc c ns ds)=>cs.contains c=true/\Q (.dat (.bl true)) ρ1
 | _=>False
theorem BP(X:vG K cs)(h:LA1 K te pe):LE K (tCB (zt K) (bp te (bp (tC (.ty "ValueError")) fE))) (Eh cs pe):=fun A ρ σ H Q Q' R q k=>h A ρ σ H _ _ R q fun v H1 a ρ1 q1 f1 R1 o1=>by
 split at q1
 .rename_i c ns ds e;obtain⟨hc,q1⟩:=q1;have hc:c∈cs:=contains_iff_mem.mp hc;have ek:=zv (X.c c hc)
  cases (R1.cont o1 e).exc with
  | exc0 n1 e1=>exact⟨_,_,_,_,_,_,_,rfl,e1,X.c c hc,ek,k _ H1 _ ρ1 q1 f1 ⟨R1,.bl _⟩⟩
  | exc1 n1 n2 e1 e2 m f=>exact⟨_,_,_,_,_,_,_,rfl,e1,X.c c hc,ek,k _ H1 _ ρ1 q1 f1 ⟨R1,.bl _⟩⟩
 .exact q1.elim
end
section
variable {X:Cx}
theorem wX(K:PySem.W.Frag)(e:X.K=K){D:Addr}:bJ X (.builtin "isinstance") (DE K D):=by subst e;exact wW
theorem DF(K:PySem.W.Frag)(e:X.K=K):bJ X (.builtin "isinstance") (zt K):=by subst e;exact uV
theorem iC{x:Str}{C:Addr}{p:Pos}(hm:X.mg x=some (.ref C))(hg:Gl X x:=by rfl)(hdb:(x == ("__debug__":Str))=false:=by decide):PE X (.Name x p) (tC (.ref C)):=by
 intro pins s σ H Q I h;exact gF I hg hm ⟨.ref C,H,I,rfl,h⟩ hdb
end
section
variable {P:Program}{w:World}{K:PySem.W.Frag}{mg:Str->Option Value}{base:Heap}{x qual nm:Str}{C G fI:Addr}{st:Stmt}{fd:FuncData}{N ps:List Str}
theorem nC(F:Fun K "__init__" qual st fI fd)(S:aM N ps (ai st))(hl:ps.length=2)
  (hb:∀(kV doc pm:Value) (an:Option Addr) (cdv ct:Value) (us:List Value),us.length=ps.length->bindArgs (PySem.W.fnOf "__init__" qual (bM st) (bh st) (ai st) .none kV doc pm an cdv ct) ⟨us,[]⟩=pure (ps.zip us))
  (hp:∀(cdv:Value) (A:Around) (outer:List Env) (s:Shared) (H:Hp) (E:XK),PSs (mJ CX0 P w K mg base N qual (ai st) fI cdv A outer s H E).nox (bh st) (zp K (ck 0) (ck 1) nm))
  (m:XM K C G fI) (na:PySem.W.findIn K (.ref C) nm=some none) (hm:mg x=some (.ref C)):wU P w K mg base 1 C x nm:=by
 refine⟨G,fI,fd,ps,F.ok (k:=0) S (fun vs H Q E h=>?_) (fun cdv A outer s H vs Q E hr h=>⟨_,hp cdv A outer s H E,?_⟩),F.binds hb,m,na,hm⟩
 .obtain⟨a,C,G,new,v,rfl,_⟩:=h;exact hl.symm
 .obtain⟨a,C,G,new,v,rfl,ea,c,n,q⟩:=h;exact⟨v,rfl,.ref a,rfl,a,C,G,new,rfl,ea,c,n,fun dx hdx=>q dx hdx⟩
end
section
variable {X:Cx}{e:Expr}{f:Str}{pos:Pos}{ta:TE}
theorem ka(K:PySem.W.Frag)(ek:X.K=K)(he:PE X e ta)(hb:attributeBase e f X.env (eval e X.env)=eval e X.env):PE X (.Attribute e f pos) (zn K ta f):=by subst ek;exact zo he hb
theorem kc(K:PySem.W.Frag)(ek:X.K=K){o value:Expr}{pos':Pos}{tv:TE}(ha:PE X o ta)(hv:PE X value tv)(hs:swapsWith value (some (.Attribute o f pos')) pos.line X.env=pure false):PS X (.Assign [.Attribute o f pos'] value pos) (zp K ta tv f):=by subst ek;exact zq ha hv hs
end
def vH(h:Heap)(e T:Addr)(fl:Value):Prop:=∃oe vs oT ts,h.get? e=some oe/\oe.data=.fields vs/\vs[1]?=some (.ref T)/\T≠e/\h.get? T=some oT/\oT.data=.fields ts/\ts[3]?=some fl
structure uZ (fs:List Addr) (e:Addr) (T0:Option Addr) (h h':Heap):Prop where
 kp:∀b o,b∉fs->b≠e->T0≠some b->h.get? b=some o->h'.get? b=some o
 sl:∀b o,b∈fs->h.get? b=some o->∃sl,h'.get? b=some { o with slots:=sl }
 ex:∀oe vs,h.get? e=some oe->oe.data=.fields vs->∃oe' vs',h'.get? e=some oe'/\oe'.cls=oe.cls/\oe'.dict=oe.dict/\oe'.data=.fields vs'/\vs'.size=vs.size
section
variable {M:Model}{A:Around}{E:Value->Shared->Prop}{s:Shared}{base:Heap}{env:Env}{outer:List Env}{L e T0:Addr}{oe:Obj}{vs:Array Value}
theorem u0{head:Value}{hadNext:Bool}{Q:Unit->Shared->Prop}(hfr:A.frames=some (env::outer))(hl:s.heap.FunFrames base (env::outer))(hf:env.frame=some L)
  (he:s.heap.get? e=some oe) (hd:oe.data=.fields vs) (hsz:1<vs.size)
  (h:∀h' T,s.heap.objs.size<=T->uZ (frs (env::outer)) e none s.heap h'->vH h' e T (rawInt L)->Q () { s with heap:=h' }) :
  wpAny M A (do let a <- frameOf env;let pl <- entryPlaceOf L hadNext;let b <- EntryCells.newEntry head a .none (rawInt L) .none pl;setField (.ref e) 1 b) Q E s:=by
 have nf:e∉frs (env::outer):=fun hm=>by
  obtain⟨_,o,ho,hn⟩:=hl.mem hm;rw [he] at ho;cases ho;exact hn vs hd
 refine wpAny_bind (wpAny_frameOf_fun hfr hl hf fun g1 hs1=>?_);refine wpAny_bind (wpAny_entryPlaceOf fun pl hpl=>?_);have e1:g1.get? e=some oe:=(hs1.2.1 e nf).trans he;unfold EntryCells.newEntry newFields;refine wpAny_bind (wpAny_newObj_type ?_ (hpl.sizeOk5 _ _ _ _ _))
 have hts:∃ts:Array Value,([head,.ref L,.none,rawInt L,.none]++(if pl.isEmpty then List.replicate 6 Value.none else pl)).toArray=ts/\ts[3]?=some (rawInt L):=⟨_,rfl,by
  rcases hpl with rfl|⟨_,_,_,_,_,_,_,rfl⟩ <;> simp⟩
 obtain⟨ts,ets,t3⟩:=hts;rw [ets];generalize hg2:g1.push { cls:=.type "traceback",dict:=none,data:=.fields ts }=g2;have sz1:g1.objs.size=s.heap.objs.size:=hs1.1;have k2:∀b o,g1.get? b=some o->g2.get? b=some o:=fun b o q=>by rw [<- hg2];exact Heap.get?_push_of_some _ q
 have gT:g2.get? g1.objs.size=some { cls:=.type "traceback",dict:=none,data:=.fields ts }:=by rw [<- hg2];exact Heap.get?_push_size _ rfl
 refine wpAny_setField (k2 _ _ e1) hd hsz ?_;have ne:g1.objs.size≠e:=ne_of_gt (Heap.lt_size e1);generalize hg3:g2.update e (Obj.mapFields (·.setIfInBounds 1 (Value.ref g1.objs.size)))=g3;have d3:=Obj.data_mapFields hd (·.setIfInBounds 1 (Value.ref g1.objs.size));have e3:g3.get? e=some (oe.mapFields (·.setIfInBounds 1 (Value.ref g1.objs.size))):=by rw [<- hg3];exact Heap.get?_update_self _ (k2 _ _ e1) (Obj.isFreed_of_fields d3)
 have k3:∀b o,b≠e->g2.get? b=some o->g3.get? b=some o:=fun b o hb q=>by rw [<- hg3];exact (Heap.get?_update_ne _ _ _ _ hb).trans q
 refine h g3 g1.objs.size (by rw [sz1];exact le_refl _) ⟨fun b o hb hbe _ q=>k3 b o hbe (k2 b o ((hs1.2.1 b hb).trans q)),fun b o hb q=>?_,fun oe' vs' q1 q2=>?_⟩ ⟨_,_,_,ts,e3,d3,by simp [hsz],ne,k3 _ _ ne gT,rfl,t3⟩
 .obtain⟨sl,q'⟩:=hs1.2.2 b o q;exact⟨sl,k3 b _ (fun z=>nf (by rw [<- z];exact hb)) (k2 b _ q')⟩
 .rw [he] at q1;cases q1;rw [hd] at q2;cases q2;obtain⟨c,dc,dt,sl⟩:=oe;cases hd;exact⟨_,_,e3,rfl,rfl,d3,by simp⟩
theorem zx{Q:Unit->Shared->Prop}(hfr:A.frames=some (env::outer))(hl:s.heap.FunFrames base (env::outer))(hf:env.frame=some L)
  (he:s.heap.get? e=some oe) (hd:oe.data=.fields vs) (h1:vs[1]?=some .none)
  (h:∀h' T,s.heap.objs.size<=T->uZ (frs (env::outer)) e none s.heap h'->vH h' e T (rawInt L)->Q () { s with heap:=h' }):wpAny M A (noteFrame (.ref e) env) Q E s:=by
 unfold noteFrame;simp only [hf];refine wpAny_bind (wpAny_field he hd h1 ?_);rw [if_neg (by decide)];exact u0 hfr hl hf he hd (Array.getElem?_eq_some_iff.mp h1).1 h
theorem u4{Q:Unit->Shared->Prop}(hfr:A.frames=some (env::outer))(hl:s.heap.FunFrames base (env::outer))(hf:env.frame=some L)(fly:vH s.heap e T0 .none)(nT:T0∉frs (env::outer))
  (h:∀h' T,s.heap.objs.size<=T->uZ (frs (env::outer)) e (some T0) s.heap h'->vH h' e T (rawInt L)->Q () { s with heap:=h' }):wpAny M A (noteFrame (.ref e) env) Q E s:=by
 obtain⟨oe,vs,oT,ts,he,hd,h1,ne,hT,hdT,h3⟩:=fly;have hsz:1<vs.size:=(Array.getElem?_eq_some_iff.mp h1).1;unfold noteFrame;simp only [hf];refine wpAny_bind (wpAny_field he hd h1 ?_);rw [if_pos (show (Value.ref T0 != Value.none)=true by simp)];refine wpAny_bind (wpAny_field hT hdT h3 ?_);rw [if_neg (show ¬ ((Value.none == rawInt L)=true) by simp [rawInt])];refine wpAny_bind (wpAny_setField hT hdT (Array.getElem?_eq_some_iff.mp h3).1 ?_)
 have ot:∀b,b≠T0->(s.heap.update T0 (Obj.mapFields (·.setIfInBounds 3 Value.none))).get? b=s.heap.get? b:=fun b hb=>Heap.get?_update_ne _ _ _ _ hb;have sz:(s.heap.update T0 (Obj.mapFields (·.setIfInBounds 3 Value.none))).objs.size=s.heap.objs.size:=by simp [Heap.update]
 have hl2:(s.heap.update T0 (Obj.mapFields (·.setIfInBounds 3 Value.none))).FunFrames base (env::outer):=hl.of_keeps fun b o q nf=>⟨o,(ot b (fun z=>by rw [z,hT] at q;cases q;exact nf ts hdT)).trans q,rfl⟩
 refine u0 hfr hl2 hf ((ot e (Ne.symm ne)).trans he) hd hsz fun h' T hT' mv fly=>h h' T (by rw [<- sz];exact hT') ⟨fun b o h1 h2 h3 q=>mv.kp b o h1 h2 (by simp) ((ot b (fun z=>h3 (by rw [z]))).trans q),fun b o h1 q=>mv.sl b o h1 ((ot b (fun z=>nT (by rw [<- z];exact h1))).trans q),fun oe' vs' q1 q2=>mv.ex oe' vs' ((ot e (Ne.symm ne)).trans q1) q2⟩ fly
theorem nE{fl:Value}{T:Addr}{Q:Unit->Shared->Prop}(fly:vH s.heap e T fl)(h:∀h',(∀b o,b≠T->s.heap.get? b=some o->h'.get? b=some o)->vH h' e T .none->Q () { s with heap:=h' }):wpAny M A (setFlight (.ref e) none) Q E s:=by
 obtain⟨oe,vs,oT,ts,he,hd,h1,ne,hT,hdT,h3⟩:=fly;unfold setFlight;refine wpAny_bind (wpAny_field he hd h1 ?_);rw [if_pos (show (Value.ref T != Value.none)=true by simp)];have hs3:3<ts.size:=(Array.getElem?_eq_some_iff.mp h3).1;refine wpAny_setField hT hdT hs3 (h _ (fun b o hb q=>(Heap.get?_update_ne _ _ _ _ hb).trans q) ?_);have dT:=Obj.data_mapFields hdT (·.setIfInBounds 3 ((none:Option Addr).elim Value.none fun f=>rawInt f))
 exact⟨oe,vs,_,_,(Heap.get?_update_ne _ _ _ _ (Ne.symm ne)).trans he,hd,h1,ne,Heap.get?_update_self _ hT (Obj.isFreed_of_fields dT),dT,by simp [hs3]⟩
end
def CXe(P:Program)(w:World):CXT:=fun outer H s E e s'=>∃(ea C:Addr) (dd:Option Addr) (H':Hp) (T:Addr),e=.ref ea/\s'.os=s.os/\AllBare s'.gens/\Un (frs outer) [] H H' s.heap s'.heap/\HOk P w H' s'.heap /\
 H' ea=some (.ext (XAt ea C dd false))/\vH s'.heap ea T .none/\s.heap.get? T=none/\H' T=none/\E (.ref ea) dd H'
theorem nF{l:List Env}{h base:Heap}(hl:h.FunFrames base l){b:Addr}(hb:b∈frs l):∃o,h.get? b=some o:=by
 obtain⟨_,o,ho,_⟩:=hl.mem hb;exact⟨o,ho⟩
theorem XAt.moved{fs:List Addr}{ea C:Addr}{dd:Option Addr}{new:Bool}{T0:Option Addr}{h h':Heap}(x:XAt ea C dd new h)(mv:uZ fs ea T0 h h'):XAt ea C dd false h':=by
 obtain⟨o,vs,h1,h2,h3,h4,h5,_⟩:=x;obtain⟨o',vs',q1,q2,q3,q4,q5⟩:=mv.ex o vs h1 h4;exact⟨o',vs',q1,q2.trans h2,q3.trans h3,q4,by rw [q5];exact h5,nofun⟩
theorem HOk.moved{P:Program}{w:World}{H H':Hp}{h h1 h2:Heap}{fs:List Addr}{ea C T:Addr}{dd:Option Addr}{new:Bool}{T0:Option Addr}(ok:HOk P w H h)(hea:H ea=some (.ext (XAt ea C dd new)))(mv:uZ fs ea T0 h h1)(hT:h.objs.size<=T)(un:∀b o,b≠T->h1.get? b=some o->h2.get? b=some o)
  (hfs:∀b∈fs,H b=none) (hT0:∀b,T0=some b->H b=none) (fly:vH h2 ea T .none) (hH:H'=upd H ea (.ext (XAt ea C dd false))):HOk P w H' h2:=fun b o eb=>by
 subst hH;have ne:∀c u,H c=some u->c≠T:=fun c u q=>ne_of_lt (lt_of_lt_of_le (ok.lt q) hT);have kp:∀c u,c≠ea->H c=some u->∀v,h.get? c=some v->h2.get? c=some v:=fun c u hc q v z=>un c v (ne c u q) (mv.kp c v (fun m=>by rw [hfs c m] at q;cases q) hc (fun e=>by rw [hT0 c e] at q;cases q) z)
 by_cases hb:b=ea
 .subst hb;rw [ay] at eb;cases eb;have x:XAt b C dd new h:=(ok b _ hea).1;obtain⟨o',vs',q1,q2,q3,q4,q5,q6⟩:=x.moved mv;exact XAt.ok ⟨o',vs',un b o' (ne b _ hea) q1,q2,q3,q4,q5,q6⟩
 .rw [ap hb] at eb
  refine (ok b o eb).stay (fun c v hc q=>?_) (fun c q=>?_) fun c xs q=>?_
  .rcases hc with rfl|hc
   .exact kp c o hb eb v q
   .exact kp c _ (fun z=>by rw [z,hea] at hc;cases hc) hc v q
  .rw [ap (fun z=>by rw [z,hea] at q;cases q)];exact q
  .rw [ap (fun z=>by rw [z,hea] at q;cases q)];exact q
section
variable {P:Program}{w:World}{K:PySem.W.Frag}{mg:Str->Option Value}{base:Heap}{N:List Str}{qual:Str}{scope:Scope}{f:Addr}{cd:Value}{A:Around}{outer:List Env}{s0:Shared}{H0:Hp}{E:XK}{pins:List (Addr×Obj)}{σ:St}{H:Hp}{s:Shared}
theorem u8{ea C:Addr}{dd:Option Addr}(I:Inv (mJ (CXe P w) P w K mg base N qual scope f cd A outer s0 H0 E) pins σ H s)(hea:H ea=some (.ext (XAt ea C dd true)))(hE:E (.ref ea) dd (upd H ea (.ext (XAt ea C dd false)))) :
  (mJ (CXe P w) P w K mg base N qual scope f cd A outer s0 H0 E).xe (.ref ea) s:=by
 obtain⟨⟨o,vs,h1,h2,h3,h4,h5,h6⟩,_,_⟩:=(show bK P w H s.heap ea (.ext (XAt ea C dd true)) from I.hok ea _ hea)
 show wpAny (model P w) _ (leaving _ (.ref ea)) _ _ s;unfold leaving;refine wpAny_bind (zx I.ok.frames I.stack rfl h1 h4 (h6 rfl) fun g1 T hT mv fly=>?_);refine nE fly fun g2 un fly2=>?_;have hf2:∀b∈frs (envOfC qual scope s0.heap.objs.size f cd::outer),H b=none:=I.stkFree;have hok:=I.hok.moved hea mv hT un hf2 (fun b e=>nomatch e) fly2 rfl;have old:∀b o,s0.heap.get? b=some o->b≠s0.heap.objs.size:=fun b o q=>ne_of_lt (Heap.lt_size q)
 have bT:∀b o,s.heap.get? b=some o->b≠T:=fun b o q=>ne_of_lt (lt_of_lt_of_le (Heap.lt_size q) hT);have nea:∀b,H b=none->b≠ea:=fun b n z=>by rw [z,hea] at n;cases n
 have sub:∀b,b∈frs outer->b∈frs (envOfC qual scope s0.heap.objs.size f cd::outer):=fun b hb=>mem_cons_of_mem _ hb
 have nsub:∀b o,s0.heap.get? b=some o->b∉frs outer->b∉frs (envOfC qual scope s0.heap.objs.size f cd::outer):=fun b o q hb z=>by
  rcases mem_cons.mp (show b∈s0.heap.objs.size::frs outer from z) with z|z
  .exact old b o q z
  .exact hb z
 have un0:Un (frs outer) [] H0 (upd H ea (.ext (XAt ea C dd false))) s0.heap g2:=by
  refine⟨fun b ob q n hb hx=>?_,fun b ob q n hb hx=>?_,fun b ob q n hx=>?_,fun b ob q hx=>?_,fun b xs q=>?_,fun b ob u q=>?_,fun b ps q=>?_⟩
  .have q1:=I.base.keep b ob q n hb hx;have n1:=I.base.free b ob q n hx;exact un b ob (bT b ob q1) (mv.kp b ob (nsub b ob q hb) (nea b n1) (by simp) q1)
  .obtain⟨sl,q1⟩:=I.base.slot b ob q n hb hx;obtain⟨sl2,q2⟩:=mv.sl b _ (sub b hb) q1;exact⟨sl2,un b _ (bT b _ q1) q2⟩
  .have n1:=I.base.free b ob q n hx;rw [ap (nea b n1)];exact n1
  .obtain⟨o1,q1⟩:=I.base.there b ob q hx
   by_cases hbe:b=ea
   .subst hbe;obtain⟨o2,vs2,q2,_⟩:=mv.ex o vs h1 h4;exact⟨o2,un b o2 (bT b _ q1) q2⟩
   .by_cases hb:b∈frs (envOfC qual scope s0.heap.objs.size f cd::outer)
    .obtain⟨sl2,q2⟩:=mv.sl b _ hb q1;exact⟨_,un b _ (bT b _ q1) q2⟩
    .exact⟨o1,un b o1 (bT b _ q1) (mv.kp b o1 hb hbe (by simp) q1)⟩
  .have q1:=I.base.tups b xs q;rw [ap (fun z=>by rw [z,hea] at q1;cases q1)];exact q1
  .have q1:=I.base.frzs b ob u q;rw [ap (fun z=>by rw [z,hea] at q1;cases q1)];exact q1
  .obtain⟨m,q1⟩:=I.base.tbls b ps q;exact⟨m,by rw [ap (fun z=>by rw [z,hea] at q1;cases q1)];exact q1⟩
 refine⟨ea,C,dd,_,T,rfl,I.os,I.bare,un0,hok,ay,fly2,?_,?_,hE⟩
 .cases q:s0.heap.get? T with
  | none=>rfl
  | some ob =>
   obtain⟨o1,q1⟩:=I.base.there T ob q (show T∉([]:List Addr) by simp);exact absurd rfl (bT T o1 q1)
 .rw [ap (fun z=>by
   have:=I.hok.lt hea;rw [<- z] at this;exact absurd (lt_of_lt_of_le this hT) (Nat.lt_irrefl _))]
  exact I.hok.fresh hT
theorem zy{E1:XK}{e:Value}{s':Shared}(I:Inv (mJ (CXe P w) P w K mg base N qual scope f cd A outer s0 H0 E) pins σ H s)
  (h:CXe P w (envOfC qual scope s0.heap.objs.size f cd::outer) H s E1 e s') (hE:∀c dd H',E1 c dd H'->E c dd H'):(mJ (CXe P w) P w K mg base N qual scope f cd A outer s0 H0 E).xe e s':=by
 obtain⟨ea,C,dd,H',T0,rfl,os,bare,un1,hok1,hea,fly0,hT0,hT0',hE1⟩:=h;have hf1:∀b∈frs (envOfC qual scope s0.heap.objs.size f cd::outer),H b=none:=I.stkFree;have hst:=I.stack
 have hl:s'.heap.FunFrames base (envOfC qual scope s0.heap.objs.size f cd::outer):=by
  have all:∀l:List Env,(∀b∈frs l,b∈frs (envOfC qual scope s0.heap.objs.size f cd::outer))->s.heap.FunFrames base l->s'.heap.FunFrames base l:=by
   intro l
   induction l with
   | nil=>intro _ _;trivial
   | cons en r ih =>
    intro hs hl;obtain⟨hk,⟨L,o,hf,hn,ho,hd⟩,hr⟩:=hl;have hL:L∈frs (en::r):=by unfold frs;rw [filterMap_cons,hf];exact mem_cons_self
    obtain⟨sl,q⟩:=un1.slot L o ho (hf1 L (hs L hL)) (hs L hL) (by simp);exact⟨hk,⟨L,_,hf,hn,q,hd⟩,ih (fun b hb=>hs b (by unfold frs;rw [filterMap_cons,hf];exact mem_cons_of_mem _ hb)) hr⟩
  exact all _ (fun _ hb=>hb) hst
 have nT0:T0∉frs (envOfC qual scope s0.heap.objs.size f cd::outer):=fun z=>by
  obtain⟨o,q⟩:=nF hst z;rw [hT0] at q;cases q
 have hf2:∀b∈frs (envOfC qual scope s0.heap.objs.size f cd::outer),H' b=none:=fun b hb=>by
  obtain⟨o,q⟩:=nF hst hb;exact un1.free b o q (hf1 b hb) (by simp)
 show wpAny (model P w) _ (leaving _ (.ref ea)) _ _ s';unfold leaving;refine wpAny_bind (u4 I.ok.frames hl rfl fly0 nT0 fun g1 T hT mv fly=>?_);refine nE fly fun g2 un fly2=>?_;have hok:=hok1.moved hea mv hT un hf2 (fun b e=>by cases e;exact hT0') fly2 rfl
 have upe:upd H' ea (.ext (XAt ea C dd false))=H':=by
  funext b
  by_cases z:b=ea
  .subst z;rw [ay,hea]
  .rw [ap z]
 rw [upe] at hok;have old:∀b o,s0.heap.get? b=some o->b≠s0.heap.objs.size:=fun b o q=>ne_of_lt (Heap.lt_size q);have bT:∀b o,s'.heap.get? b=some o->b≠T:=fun b o q=>ne_of_lt (lt_of_lt_of_le (Heap.lt_size q) hT);have bT0:∀b o,s.heap.get? b=some o->some T0≠some b:=fun b o q z=>by cases z;rw [hT0] at q;cases q
 have nea:∀b,H' b=none->b≠ea:=fun b n z=>by rw [z,hea] at n;cases n
 have sub:∀b,b∈frs outer->b∈frs (envOfC qual scope s0.heap.objs.size f cd::outer):=fun b hb=>mem_cons_of_mem _ hb
 have nsub:∀b o,s0.heap.get? b=some o->b∉frs outer->b∉frs (envOfC qual scope s0.heap.objs.size f cd::outer):=fun b o q hb z=>by
  rcases mem_cons.mp (show b∈s0.heap.objs.size::frs outer from z) with z|z
  .exact old b o q z
  .exact hb z
 obtain⟨oe,vs,oT,ts,he1,he2,_⟩:=id fly0
 have un0:Un (frs outer) [] H0 H' s0.heap g2:=by
  refine⟨fun b ob q n hb hx=>?_,fun b ob q n hb hx=>?_,fun b ob q n hx=>?_,fun b ob q hx=>?_,fun b xs q=>un1.tups b xs (I.base.tups b xs q),fun b ob u q=>un1.frzs b ob u (I.base.frzs b ob u q),fun b ps q=>?_⟩
  .have q1:=I.base.keep b ob q n hb hx;have n1:=I.base.free b ob q n hx;have q2:=un1.keep b ob q1 n1 (nsub b ob q hb) hx;exact un b ob (bT b ob q2) (mv.kp b ob (nsub b ob q hb) (nea b (un1.free b ob q1 n1 hx)) (bT0 b ob q1) q2)
  .obtain⟨sl,q1⟩:=I.base.slot b ob q n hb hx;obtain⟨sl1,q2⟩:=un1.slot b _ q1 (I.base.free b ob q n hx) (sub b hb) hx;obtain⟨sl2,q3⟩:=mv.sl b _ (sub b hb) q2;exact⟨sl2,un b _ (bT b _ q2) q3⟩
  .obtain⟨o1,q1⟩:=I.base.there b ob q hx;exact un1.free b o1 q1 (I.base.free b ob q n hx) hx
  .obtain⟨o1,q1⟩:=I.base.there b ob q hx;obtain⟨o2,q2⟩:=un1.there b o1 q1 hx
   by_cases hbe:b=ea
   .subst hbe;obtain⟨o3,vs3,q3,_⟩:=mv.ex oe vs he1 he2;exact⟨o3,un b o3 (bT b _ q2) q3⟩
   .by_cases hb:b∈frs (envOfC qual scope s0.heap.objs.size f cd::outer)
    .obtain⟨sl2,q3⟩:=mv.sl b _ hb q2;exact⟨_,un b _ (bT b _ q2) q3⟩
    .exact⟨o2,un b o2 (bT b _ q2) (mv.kp b o2 hb hbe (bT0 b o1 q1) q2)⟩
  .obtain⟨m,q1⟩:=I.base.tbls b ps q;obtain⟨m2,q2⟩:=un1.tbls b _ q1;exact⟨m++m2,by rw [q2,Array.append_assoc]⟩
 refine⟨ea,C,dd,H',T,rfl,os.trans I.os,bare,un0,hok,hea,fly2,?_,hok1.fresh hT,hE _ _ _ hE1⟩
 cases q:s0.heap.get? T with
 | none=>rfl
 | some ob =>
  obtain⟨o1,q1⟩:=I.base.there T ob q (show T∉([]:List Addr) by simp);obtain⟨o2,q2⟩:=un1.there T o1 q1 (by simp);exact absurd rfl (bT T o2 q2)
end
section
variable {prog:Program}{w:World}{A:Around}{E:Value->Shared->Prop}{K:PySem.W.Frag}{env:Env}
theorem zA{Q:Flow->Shared->Prop}{x:Sem Value}{s:Shared}(hh:A.handled=none)
  (hx:wpAny (model prog w) A x (fun v s₁=>∃ea C G dd,v=.ref ea/\K.In s₁.heap/\XC K C G/\XAt ea C dd true s₁.heap/\E (.ref ea) s₁) E s):wpAny (model prog w) A (raiseStmt env (some x) none) Q E s:=by
 unfold raiseStmt;refine wpAny_bind (wpAny_mono hx (fun v s1 h1=>?_) fun _ _ z=>z);obtain⟨ea,C,G,dd,rfl,X,c,⟨o,vs,q1,q2,q3,q4,q5,q6⟩,hE⟩:=h1;obtain⟨nm,q,N,bs,sn,sub,ab,col,k0,k1,k2,k3,k5,e⟩:=c.obj;have hC:=X _ _ e;obtain⟨hp,g,d,tk,os⟩:=s1;have own:(Value.ref C::.ref G::vmB).contains (.type "BaseException")=true:=rfl;have qn:=q6 rfl
 repeat (first
  | (with_reducible refine wpAny_loadPart_at q1 ?_;first | rw [q2] | rw [q4] | skip)
  | with_reducible refine wpAny_loadPart_at hC ?_
  | (with_reducible refine wpAny_isSubtype_exc hC ?_;rw [own])
  | with_reducible refine wpAny_field q1 q4 qn ?_
  | wp_step)
 exact wpAny_raiseNew_none hh hE
end
def RX(X:Cx)(J:St->XK):Prop:=∀(pins:List (Addr×Obj)) (σ:St) (H:Hp) (s:Shared) (ea C:Addr) (dd:Option Addr),Inv X pins σ H s->H ea=some (.ext (XAt ea C dd true))->J σ (.ref ea) dd (upd H ea (.ext (XAt ea C dd false)))->X.xe (.ref ea) s
def xJ(K:PySem.W.Frag)(te:TE)(J:St->XK):TS:=fun D σ H=>te σ H fun v H1=>∃ea C G dd,v=.ref ea/\H1 ea=some (.ext (XAt ea C dd true))/\XC K C G/\J σ (.ref ea) dd (upd H1 ea (.ext (XAt ea C dd false)))
section
variable {X:Cx}{J:St->XK}{x:Expr}{pos:Pos}{te:TE}
theorem rq(K:PySem.W.Frag)(ek:X.K=K)(hc:X.calm=true)(hx:RX X J)(he:PE X x te):PS X (.Raise (some x) none pos) (xJ K te J):=by
 subst ek;intro pins s σ H D I h
 have key:wpAny (model X.prog X.w) X.A (raiseStmt X.env (some (do let v <- eval x X.env;standAt pos;pure v)) none) (SP X pins D) X.xe s:=by
  refine zA (K:=X.K) (I.ok.hd hc) (wpAny_bind (wpAny_mono (he pins s σ H _ I h) (fun u s1 ⟨v,H1,I1,rv,ea,C,G,dd,ev,hea,c,hj⟩=>wpAny_bind (wpAny_standAt (wpAny_pure ?_))) fun _ _ z=>z));subst ev;obtain rfl:u=Value.ref ea:=rv;have ok:=(show bK X.prog X.w H1 s1.heap ea (.ext (XAt ea C dd true)) from I1.hok ea _ hea)
  exact⟨ea,C,G,dd,rfl,I1.kIn,c,ok.1,hx pins σ H1 s1 ea C dd I1 hea hj⟩
 rw [arm_exec_Raise]
 first
  | exact wpAny_bind (wpAny_standAt key)
  | (simp only [evalOpt,Option.map];exact wpAny_bind (wpAny_standAt key))
  | (show wpAny _ _ (do standAt pos;raiseStmt X.env (some (do let v <- eval x X.env;standAt pos;pure v)) none) _ _ s;exact wpAny_bind (wpAny_standAt key))
theorem xK{P:Program}{w:World}{K:PySem.W.Frag}{mg:Str->Option Value}{base:Heap}{N:List Str}{qual:Str}{scope:Scope}{f:Addr}{cd:Value}{A:Around}{outer:List Env}{s0:Shared}{H0:Hp}{E:XK} :
  RX (mJ (CXe P w) P w K mg base N qual scope f cd A outer s0 H0 E) (fun _=>E):=fun pins σ H s ea C dd I hea hj=>u8 I hea hj
end
def PX(CX:CXT)(X:Cx)(J:St->XK):Prop:=∀(pins:List (Addr×Obj)) (σ:St) (H:Hp) (s:Shared) (e:Value) (s':Shared),Inv X pins σ H s->CX X.stack H s (J σ) e s'->X.xe e s'
theorem BQ{P:Program}{w:World}{K:PySem.W.Frag}{mg:Str->Option Value}{base:Heap}{N:List Str}{qual:Str}{scope:Scope}{f:Addr}{cd:Value}{A:Around}{outer:List Env}{s0:Shared}{H0:Hp}{E:XK} :
  PX (CXe P w) (mJ (CXe P w) P w K mg base N qual scope f cd A outer s0 H0 E) (fun _=>E):=fun pins σ H s e s' I h=>zy I h fun _ _ _ z=>z
def u9(sp:Sp)(J:St->XK)(t:TA):TE:=fun σ H Q=>t σ H fun vs H1=>sp vs H1 Q (J σ)
structure BR (P:Program) (w:World) (K:PySem.W.Frag) (mg:Str->Option Value) (base:Heap) (k:Nat) (x:Str) (ps:List Str) (sp:Sp):Prop where
 ex:∃(f:Addr) (fd:FuncData),lA P w K mg base (CXe P w) k f fd ps sp/\iu K fd ps []/\PySem.W.keepIn K (.ref f)=true/\mg x=some (.ref f)
section
variable {X:Cx}{k:Nat}{x:Str}{ps:List Str}{sp:Sp}{p pos:Pos}{e:Expr}{es:List Expr}{t:TA}{J:St->XK}
theorem va(C:BR X.prog X.w X.K X.mg X.base k x ps sp)(hr:fh k X.A)(hx:PX (CXe X.prog X.w) X J)(ha:PA X (e::es) t)(hg:Gl X x:=by rfl)(hdb:(x == ("__debug__":Str))=false:=by decide)(hn:nSt e=true:=by rfl)(hp:es.all nSt=true:=by rfl) :
  PE X (.Call (.Name x p) (e::es) [] pos) (u9 sp J t):=by
 obtain⟨f,fd,F,hb,hk,hm⟩:=C.ex;intro pins s σ H Q I h;refine wpAny_Call_Name_kw (gF I hg hm ?_ hdb);refine PySem.W.callWith_K (h₀:=X.base) I.ok.mod.kin hk (thn (ha pos pins s σ H _ I h) fun us s1 ⟨vs,H1,I1,r,q⟩=>⟨I1.kIn,?_⟩) (fb hn) (dZ hp);have hl:us.length=ps.length:=by rw [<- r.length];exact F.len _ _ _ _ q
 refine wpAny_call (codeAny_mono (F.run X.A X.stack s1 H1 ⟨us,[]⟩ us vs Q (J σ) hr I1.env0 ?_ r q) fun r s' hq=>?_)
 .have:=hb s1 us I1.kIn (by rw [append_nil];exact hl);rw [append_nil] at this;exact this
 .cases r with
  | error e=>exact hx pins σ H1 s1 e s' I1 hq
  | ok fl =>
   cases fl with
   | ret u=>exact I1.after hq
   | next=>exact False.elim hq
   | brk=>exact False.elim hq
   | cont=>exact False.elim hq
end
section
variable {X:Cx}{pins:List (Addr×Obj)}{σ:St}{H:Hp}{s:Shared}
abbrev Cx.mk'(X:Cx)(e:Value):Cx:={ X with A:=X.A.mark (some e),calm:=false }
theorem Inv.mark(I:Inv X pins σ H s)(e:Value):Inv (X.mk' e) pins σ H s :=
 ⟨⟨I.ok.mod,I.ok.kind,I.ok.glob,I.ok.blt,I.ok.above,I.ok.inj,I.ok.has,I.ok.cab,nofun,I.ok.frames,I.ok.stk,I.ok.exf,I.ok.bs,I.ok.bsz,I.ok.noex,I.ok.exfs,I.ok.funs,I.ok.frf⟩,I.os,I.bare,I.base,I.loc,I.cell,I.free,I.freeC,I.pin,I.hok,I.len⟩
theorem Inv.unmark{e:Value}(I:Inv (X.mk' e) pins σ H s)(hd:X.calm=true->X.A.handled=none):Inv X pins σ H s :=
 ⟨⟨I.ok.mod,I.ok.kind,I.ok.glob,I.ok.blt,I.ok.above,I.ok.inj,I.ok.has,I.ok.cab,hd,I.ok.frames,I.ok.stk,I.ok.exf,I.ok.bs,I.ok.bsz,I.ok.noex,I.ok.exfs,I.ok.funs,I.ok.frf⟩,I.os,I.bare,I.base,I.loc,I.cell,I.free,I.freeC,I.pin,I.hok,I.len⟩
theorem iU{M:Model}{A:Around}{E:Value->Shared->Prop}{i:Nat}{x:Str}{pos:Pos}{Q:Unit->Shared->Prop}(I:Inv X pins σ H s)(hN:X.N.Nodup)(hi:X.N[i]?=some x)(hk:X.env.scope.names.lookup x=some .local)
  (h:∀s',Inv X pins (σ.set i none) H s'->Q () s'):wpAny M A (do bindName X.env x .none;unbindBehindTheSuite X.env x pos) Q E s:=by
 refine wpAny_bind (wpAny_bindName (j6 I hN hi (.inl hk) (v:=.non) rfl (fun s1 I1=>?_) (.inr hk)));have hiσ:i<σ.length:=by rw [I.len];exact (List.getElem?_eq_some_iff.mp hi).1
 obtain⟨m,hn,hl⟩:=id I1.loc;obtain⟨u,ru,lk⟩:=hl i x .non hi (getElem?_set_self hiσ) (.inl hk)
 have hm:m x=some u:=by
  rcases lk with ⟨_,z⟩|⟨z,_⟩
  .exact z
  .have z':X.env.scope.names.lookup x=some .cell\/X.env.scope.names.lookup x=some .free:=z;rw [hk] at z';rcases z' with z'|z' <;> cases z'
 unfold unbindBehindTheSuite;refine wpAny_onRaise (wpAny_unbindName_local hk hn hm (by rw [I.ok.kind];rfl) fun h' u' hn' hs=>?_);have cne:=I1.cne;obtain⟨oL,_,_,hoL,_⟩:=id hn;have big:∀b o,X.s₀.heap.get? b=some o->b≠X.env.locals:=fun b o q=>ne_of_lt (lt_of_lt_of_le (Heap.lt_size q) I.ok.above)
 refine h _ ⟨I1.ok,I1.os,I1.bare,⟨fun b o q n hb hx=>(hs.2 b (big b o q)).trans (I1.base.keep b o q n hb hx),fun b o q n hb hx=>?_,I1.base.free,fun b o q hx=>?_,I1.base.tups,I1.base.frzs,I1.base.tbls⟩,⟨_,hn',fun j y v' e1 e2 e3=>?_⟩,fun y c q=>?_,I1.free,I1.freeC,fun p hp=>?_,fun b ob q=>?_,by simpa using I.len⟩
 .obtain⟨sl,q1⟩:=I1.base.slot b o q n hb hx;exact⟨sl,(hs.2 b (big b o q)).trans q1⟩
 .obtain⟨o',q1⟩:=I1.base.there b o q hx;exact⟨o',(hs.2 b (big b o q)).trans q1⟩
 .by_cases hj:j=i
  .subst hj;rw [getElem?_set_self hiσ] at e2;cases e2
  .rw [getElem?_set_ne (Ne.symm hj)] at e2;obtain⟨u2,r2,q⟩:=hl j y v' e1 (by rw [getElem?_set_ne (Ne.symm hj)];exact e2) e3;refine⟨u2,r2,?_⟩
   rcases q with ⟨k,z⟩|⟨k,c,z1,z2⟩
   .have:y≠x:=fun z=>hj (mH hN e1 (z ▸ hi));exact .inl ⟨k,by simp [this,z]⟩
   .exact .inr ⟨k,c,z1,z2.sameBut hs (cne y c z1)⟩
 .obtain⟨w',z⟩:=I1.cell y c q;exact⟨w',z.sameBut hs (cne y c q)⟩
 .obtain⟨q,n,ne,nf,dd⟩:=I1.pin p hp;exact⟨(hs.2 p.1 ne).trans q,n,ne,nf,dd⟩
 .refine (I1.hok b ob q).stay (fun c w' hc z=>(hs.2 c ?_).trans z) (fun _ z=>z) fun _ _ z=>z;rintro rfl
  rcases hc with hc|hc
  .rw [<- hc,I1.free] at q;cases q
  .rw [I1.free] at hc;cases hc
end
section
variable {M:Model}{A:Around}{E:Value->Shared->Prop}{K:PySem.W.Frag}{C G D:Addr}
theorem vb{h:Heap}{g:Array GenState}{d:Drawn}{t:Nat}{os:OsState}{ea:Addr}{dd:Option Addr}{new:Bool}{Q:Bool->Shared->Prop}(X:K.In h)(c:XC K C G)(x:XAt ea C dd new h)
  (hD:∃nm q N bs bm hd sn sub ab col d0 k0 k1 k2 k3 k5 nw,K.lookup D=some (excClassObj nm q D N bs bm hd sn sub ab col d0 k0 k1 k2 k3 k5 nw)/\(Value.ref D::bm).contains (.type "BaseException")=true)
  (hq:Q ((Value.ref C::.ref G::vmB).contains (.ref D)) ⟨h,g,d,t,os⟩):wpAny M A (excMatches (.ref ea) (.ref D)) Q E ⟨h,g,d,t,os⟩:=by
 obtain⟨nm,q,N,bs,sn,sub,ab,col,k0,k1,k2,k3,k5,e⟩:=c.obj;obtain⟨nm',q',N',bs',bm',hd',sn',sub',ab',col',d0',k0',k1',k2',k3',k5',nw',e2,hb⟩:=hD;obtain⟨o,vs,q1,q2,_⟩:=x;have hC:=X _ _ e;have hDo:=X _ _ e2;have f:=tc_notTuple;generalize hbb:(Value.ref C::.ref G::vmB).contains (.ref D)=b at hq;unfold excMatches
 repeat (first
  | (with_reducible refine wpAny_loadPart_at q1 ?_;rw [q2])
  | with_reducible refine wpAny_loadPart_at hDo ?_
  | with_reducible refine wpAny_loadPart_at hC ?_
  | (with_reducible refine wpAny_isSubtype_exc hDo ?_;rw [hb])
  | (with_reducible refine wpAny_isSubtype_exc hC ?_;rw [hbb])
  | wp_step)
 cases b <;> (wp_walk;exact hq)
end
structure FTk (X:Cx) (pins:List (Addr×Obj)) (H:Hp) (T:Addr):Prop where
 nt:H T=none
 sz:X.s₀.heap.objs.size<=T
 nl:T≠X.env.locals
 nc:∀x c,X.env.cells.lookup x=some c->c≠T
 np:∀p∈X.pn++pins,p.1≠T
section
variable {X:Cx}{pins:List (Addr×Obj)}{σ:St}{H:Hp}{s:Shared}
theorem EE{M:Model}{Er:Value->Shared->Prop}{E1:XK}{e:Value}{s':Shared}{Q:Unit->Shared->Prop}(hst:X.stack=X.env::X.outer)(hfm:X.env.frame=some X.env.locals)(I:Inv X pins σ H s)(h:CXe X.prog X.w X.stack H s E1 e s')
  (k:∀ea C dd H' T s2,e=.ref ea->Inv X pins σ H' s2->H' ea=some (.ext (XAt ea C dd false))->vH s2.heap ea T .none->FTk X pins H' T->E1 (.ref ea) dd H'->Q () s2) :
  wpAny M X.A (noteFrame e X.env) (fun _ s1=>wpAny M X.A (setFlight e none) Q Er s1) Er s':=by
 obtain⟨ea,C,dd,H',T0,rfl,os,bare,un1,hok1,hea,fly0,hT0,hT0',hE1⟩:=h;have hf1:∀b∈frs X.stack,H b=none:=I.stkFree;have hss:=I.stack
 have hl:s'.heap.FunFrames X.base X.stack:=by
  have all:∀l:List Env,(∀b∈frs l,b∈frs X.stack)->s.heap.FunFrames X.base l->s'.heap.FunFrames X.base l:=by
   intro l
   induction l with
   | nil=>intro _ _;trivial
   | cons en r ih =>
    intro hs hl;obtain⟨hk,⟨L,o,hf,hn,ho,hd⟩,hr⟩:=hl;have hL:L∈frs (en::r):=by unfold frs;rw [filterMap_cons,hf];exact mem_cons_self
    obtain⟨sl,q⟩:=un1.slot L o ho (hf1 L (hs L hL)) (hs L hL) (by simp);exact⟨hk,⟨L,_,hf,hn,q,hd⟩,ih (fun b hb=>hs b (by unfold frs;rw [filterMap_cons,hf];exact mem_cons_of_mem _ hb)) hr⟩
  exact all _ (fun _ hb=>hb) hss
 have nT0:T0∉frs X.stack:=fun z=>by
  obtain⟨o,q⟩:=nF hss z;rw [hT0] at q;cases q
 have hf2:∀b∈frs X.stack,H' b=none:=fun b hb=>by
  obtain⟨o,q⟩:=nF hss hb;exact un1.free b o q (hf1 b hb) (by simp)
 have fr:=I.ok.frames;rw [hst] at fr hl nT0 hf2;refine u4 fr hl hfm fly0 nT0 fun g1 T hT mv fly=>?_;refine nE fly fun g2 un fly2=>?_;have hok:=hok1.moved hea mv hT un hf2 (fun b e=>by cases e;exact hT0') fly2 rfl
 have upe:upd H' ea (.ext (XAt ea C dd false))=H':=by
  funext b
  by_cases z:b=ea
  .subst z;rw [ay,hea]
  .rw [ap z]
 rw [upe] at hok;have bT:∀b o,s'.heap.get? b=some o->b≠T:=fun b o q=>ne_of_lt (lt_of_lt_of_le (Heap.lt_size q) hT);have bT0:∀b o,s.heap.get? b=some o->some T0≠some b:=fun b o q z=>by cases z;rw [hT0] at q;cases q
 have nea:∀b,H' b=none->b≠ea:=fun b n z=>by rw [z,hea] at n;cases n
 obtain⟨oe,vs,oT,ts,he1,he2,_⟩:=id fly0
 have u:Un (frs X.stack) [] H H' s.heap g2:=by
  rw [hst] at un1 ⊢
  refine⟨fun b ob q n hb hx=>?_,fun b ob q n hb hx=>?_,un1.free,fun b ob q hx=>?_,un1.tups,un1.frzs,un1.tbls⟩
  .have q2:=un1.keep b ob q n hb hx;exact un b ob (bT b ob q2) (mv.kp b ob hb (nea b (un1.free b ob q n hx)) (bT0 b ob q) q2)
  .obtain⟨sl1,q2⟩:=un1.slot b ob q n hb hx;obtain⟨sl2,q3⟩:=mv.sl b _ hb q2;exact⟨sl2,un b _ (bT b _ q2) q3⟩
  .obtain⟨o2,q2⟩:=un1.there b ob q hx
   by_cases hbe:b=ea
   .subst hbe;obtain⟨o3,vs3,q3,_⟩:=mv.ex oe vs he1 he2;exact⟨o3,un b o3 (bT b _ q2) q3⟩
   .by_cases hb:b∈frs (X.env::X.outer)
    .obtain⟨sl2,q3⟩:=mv.sl b _ hb q2;exact⟨_,un b _ (bT b _ q2) q3⟩
    .exact⟨o2,un b o2 (bT b _ q2) (mv.kp b o2 hb hbe (bT0 b ob q) q2)⟩
 have far:∀b o,s.heap.get? b=some o->b<T:=fun b o q=>by
  obtain⟨o2,q2⟩:=un1.there b o q (by simp);exact lt_of_lt_of_le (Heap.lt_size q2) hT
 have hL:X.env.locals<T:=by
  obtain⟨m,⟨o,_,_,ho,_⟩,_⟩:=I.loc;exact far _ o ho
 refine k ea C dd H' T { s' with heap:=g2 } rfl (I.call' (s':={ s' with heap:=g2 }) os u hok bare (fun b z=>nomatch z)) hea fly2 ⟨hok1.fresh hT,le_of_lt (lt_of_le_of_lt I.ok.above hL),Ne.symm (ne_of_lt hL),fun x c q=>?_,fun p hp=>?_⟩ hE1
 .obtain⟨v,o,ho,_⟩:=I.cell x c q;exact ne_of_lt (far c o ho)
 .exact ne_of_lt (far _ _ (I.pin p hp).1)
end
abbrev THd:=Addr->Addr->Option Addr->sP->St->Hp->Prop
def PH(X:Cx)(hs:List ExceptHandler)(th:THd):Prop:=∀(pins:List (Addr×Obj)) (s:Shared) (σ:St) (H:Hp) (ea C:Addr) (dd:Option Addr) (T:Addr) (D:sP),Inv X pins σ H s->H ea=some (.ext (XAt ea C dd false))->vH s.heap ea T .none->FTk X pins H T->th ea C dd D σ H ->
 wpAny (model X.prog X.w) X.A (handleBy (.ref ea) X.env hs) (SP X pins D) X.xe s
def hAs(K:PySem.W.Frag)(C0:Addr)(i:Nat)(ts:TS)(tr:THd):THd:=fun ea C dd D σ H=>∃G,XC K C G /\
 ((Value.ref C::.ref G::vmB).contains (.ref C0)=true->ts { nx:=fun σ' H'=>D.nx (σ'.set i none) H',bk:=fun σ' H'=>D.bk (σ'.set i none) H',ct:=fun σ' H'=>D.ct (σ'.set i none) H',rt:=D.rt } (σ.set i (some (.ref ea))) H) /\
 ((Value.ref C::.ref G::vmB).contains (.ref C0)=false->tr ea C dd D σ H)
def XD(K:PySem.W.Frag)(D:Addr):Prop:=∃nm q N bs bm hd sn sub ab col d0 k0 k1 k2 k3 k5 nw,K.lookup D=some (excClassObj nm q D N bs bm hd sn sub ab col d0 k0 k1 k2 k3 k5 nw)/\(Value.ref D::bm).contains (.type "BaseException")=true
section
variable {X:Cx}{C0:Addr}{cn n:Str}{np pos:Pos}{b0:Stmt}{suite:List Stmt}{rest:List ExceptHandler}{i:Nat}{ts:TS}{tr:THd}
theorem DG(K:PySem.W.Frag)(ek:X.K=K)(hx:XD K C0)(hm:X.mg cn=some (.ref C0))(hN:X.N.Nodup)(hi:X.N[i]?=some n)(hk:X.env.scope.names.lookup n=some .local)(hs:∀e,PSs (X.mk' e).nox (b0::suite) ts)(hr:PH X rest tr)
  (hg:Gl X cn:=by rfl) (hdb:(cn == ("__debug__":Str))=false:=by decide):PH X (.ExceptHandler (some (.Name cn np)) (some n) (b0::suite) pos::rest) (hAs K C0 i ts tr):=by
 subst ek;intro pins s σ H ea C dd T D I hea fly ft h;obtain⟨G,c,h1,h2⟩:=h;have xa:XAt ea C dd false s.heap:=(show bK X.prog X.w H s.heap ea (.ext (XAt ea C dd false)) from I.hok ea _ hea).1;refine wpAny_handleBy_cons (codeAny_handlers_test ?_) (by intro z;cases z);refine gF (X:=X.mk' (.ref ea)) (I.mark (.ref ea)) hg hm ?_ hdb;have X2:=I.kIn;have I0:=I;obtain⟨hh,g,d,tk,os⟩:=s;refine vb X2 c xa hx ?_
 cases hb:(Value.ref C::.ref G::vmB).contains (.ref C0) with
 | false=>exact hr pins _ σ H ea C dd T D I0 hea fly ft (h2 hb)
 | true =>
  refine codeAny_handlers_suite_as ?_;refine nE fly fun g2 un fly2=>?_;have I1:Inv X pins σ H { heap:=g2,gens:=g,drawn:=d,toks:=tk,os:=os }:=I0.turned (it:=T) (t':=tk) un ft.nt ft.nl (.inr ft.sz) ft.nc ft.np;refine j6 (X:=X) (v:=.ref ea) I1 hN hi (.inl hk) rfl (fun s2 I2=>?_) (.inr hk);refine wpAny_mono (hs (.ref ea) pins s2 _ H _ ((I2.mark (.ref ea)).wish _) (h1 hb)) (fun f s3 hf=>?_) fun _ _ z=>False.elim z
  have un1:∀{σ' H'},Inv (X.mk' (.ref ea)).nox pins σ' H' s3->Inv X pins σ' H' s3:=fun J=>(Inv.unwish J).unmark I0.ok.hd;show wpAny _ X.A (do bindName X.env n .none;unbindBehindTheSuite X.env n pos) (fun _ s4=>SP X pins D f s4) X.xe s3
  cases f with
  | next =>
   obtain⟨σ',H',J,q⟩:=hf;exact iU (un1 J) hN hi hk fun s4 I4=>⟨_,H',I4,q⟩
  | brk =>
   obtain⟨σ',H',J,q⟩:=hf;exact iU (un1 J) hN hi hk fun s4 I4=>⟨_,H',I4,q⟩
  | cont =>
   obtain⟨σ',H',J,q⟩:=hf;exact iU (un1 J) hN hi hk fun s4 I4=>⟨_,H',I4,q⟩
  | ret u =>
   obtain⟨v,σ',H',J,r,q⟩:=hf;exact iU (un1 J) hN hi hk fun s4 I4=>⟨v,_,H',I4,r,q⟩
theorem BS:PH X [] (fun _ _ _ _ _ _=>False):=fun _ _ _ _ _ _ _ _ _ _ _ _ _ h=>h.elim
end
abbrev Cx.tryb(X:Cx)(pn:List (Addr×Obj))(E:Value->Shared->Prop):Cx:={ X with pn:=pn,xe:=E }
def Ei(tb:(St->XK)->TS)(th:THd):TS:=fun D σ H=>∃J:St->XK,tb J D σ H/\∀(σ':St) (ea:Addr) (dd:Option Addr) (H':Hp),J σ' (.ref ea) dd H'->∃C,H' ea=some (.ext (XAt ea C dd false))/\th ea C dd D σ' H'
section
variable {X:Cx}{C0:Addr}{cn n:Str}{np pos:Pos}{b0:Stmt}{suite body:List Stmt}{rest:List ExceptHandler}{h0:ExceptHandler}{hs:List ExceptHandler}{i:Nat}{ts:TS}{tr th:THd}{tb:(St->XK)->TS}
theorem BU(hst:X.stack=X.env::X.outer)(hfm:X.env.frame=some X.env.locals)
  (hb:∀J pn E,PX (CXe X.prog X.w) (X.tryb pn E) J->PSs (X.tryb pn E) body (tb J)) (hh:PH X (h0::hs) th):PS X (.Try body (h0::hs) [] [] pos) (Ei tb th):=by
 intro pins s σ H D I h;obtain⟨J,h1,h2⟩:=h
 have mk:∀{E σ H s},Inv X pins σ H s->Inv (X.tryb (X.pn++pins) E) [] σ H s:=fun I =>
  ⟨⟨I.ok.mod,I.ok.kind,I.ok.glob,I.ok.blt,I.ok.above,I.ok.inj,I.ok.has,I.ok.cab,I.ok.hd,I.ok.frames,I.ok.stk,I.ok.exf,I.ok.bs,I.ok.bsz,I.ok.noex,I.ok.exfs,I.ok.funs,I.ok.frf⟩,I.os,I.bare,I.base,I.loc,I.cell,I.free,I.freeC,fun p hp=>I.pin p (by simpa using hp),I.hok,I.len⟩
 have un:∀{E pins' σ H s},Inv (X.tryb (X.pn++pins) E) pins' σ H s->Inv X pins σ H s:=fun {E pins' σ H s} I =>
  ⟨⟨I.ok.mod,I.ok.kind,I.ok.glob,I.ok.blt,I.ok.above,I.ok.inj,I.ok.has,I.ok.cab,I.ok.hd,I.ok.frames,I.ok.stk,I.ok.exf,I.ok.bs,I.ok.bsz,I.ok.noex,I.ok.exfs,I.ok.funs,I.ok.frf⟩,I.os,I.bare,I.base,I.loc,I.cell,I.free,I.freeC,fun p hp=>I.pin p (mem_append_left pins' hp),I.hok,I.len⟩
 let XE:Value->Shared->Prop:=fun e s1=>∃σ H s,Inv X pins σ H s/\CXe X.prog X.w X.stack H s (J σ) e s1
 have px:PX (CXe X.prog X.w) (X.tryb (X.pn++pins) XE) J:=fun pins' σ' H' s' e s1 I' h=>⟨σ',H',s',un I',h⟩
 refine wpAny_Try_except (wpAny_mono (hb J _ _ px [] s σ H D (mk I) h1) (fun f s1 hf=>?_) fun e s1 he=>?_)
 .cases f with
  | next =>
   obtain⟨σ',H',I',q⟩:=hf;rw [arm_execs_nil];exact wpAny_pure ⟨σ',H',un I',q⟩
  | brk =>
   obtain⟨σ',H',I',q⟩:=hf;exact⟨σ',H',un I',q⟩
  | cont =>
   obtain⟨σ',H',I',q⟩:=hf;exact⟨σ',H',un I',q⟩
  | ret u =>
   obtain⟨v,σ',H',I',r,q⟩:=hf;exact⟨v,σ',H',un I',r,q⟩
 .obtain⟨σ',H',s',I',cx⟩:=he;refine EE hst hfm I' cx fun ea C dd H2 T s2 ee I2 hea fly ft hJ=>?_;subst ee;obtain⟨C2,hea2,ht⟩:=h2 σ' ea dd H2 hJ;exact hh pins s2 σ' H2 ea C2 dd T D I2 hea2 fly ft ht
end
def XR(K:PySem.W.Frag)(O:Addr->Prop)(H:Hp)(ea:Addr)(dd:Option Addr)(d:D):Prop:=∃c ns ds,d=.exc c ns ds/\H ea=some (.ext (XAt ea (aD K c) dd false))/\FV K O H (.ref ea) d
theorem XR.keeps{K:PySem.W.Frag}{O O':Addr->Prop}{H H':Hp}{ea:Addr}{dd:Option Addr}{d:D}(k:aO O H O' H')(h:XR K O H ea dd d):XR K O' H' ea dd d:=by
 obtain⟨c,ns,ds,rfl,e,f⟩:=h
 have n:¬ O ea:=by cases f with
  | exc0 n _=>exact n
  | exc1 n _ _ _ _ _=>exact n
 exact⟨c,ns,ds,rfl,(k _ _ n e).2,f.keeps k⟩
def LSX(K:PySem.W.Frag)(E:D->Prop)(Eo:XK)(fs:List Nat)(ts:TS)(ps:PTS):Prop:=∀(fx:List (Nat×V)) (A R:Addr->Prop) (H0:Hp) (ρ:PSt) (σ:St) (H:Hp) (D:wz) (D':sP),fx.map Prod.fst=fs->Rel K A ρ σ H->dA fx R H0 ρ σ H->ps D ρ ->
 (∀ρ' σ' H',D.nx ρ'->Rel K A ρ' σ' H'->dA fx R H0 ρ' σ' H'->D'.nx σ' H') ->
 (∀v p ρ' σ' H',D.rt p ρ'->Out K A ρ' σ' H0 H' p v->dA fx R H0 ρ' σ' H'->D'.rt v H') ->
 (∀ρ' σ' H',D.bk ρ'->Rel K A ρ' σ' H'->dA fx R H0 ρ' σ' H'->D'.bk σ' H') ->
 (∀ρ' σ' H',D.ct ρ'->Rel K A ρ' σ' H'->dA fx R H0 ρ' σ' H'->D'.ct σ' H') ->
 (∀ρ' σ' H' ea dd d,E d->Rel K A ρ' σ' H'->dA fx R H0 ρ' σ' H'->H0 ea=none->XR K (OO A ρ' σ') H' ea dd d->Eo (.ref ea) dd H')->ts D' σ H
theorem dA.nn{fx:List (Nat×V)}{R:Addr->Prop}{H0 H:Hp}{ρ:PSt}{σ:St}(F:dA fx R H0 ρ σ H){b:Addr}(h:H b=none):H0 b=none:=by
 cases e:H0 b with
 | none=>rfl
 | some o=>exact absurd h (F.dm b (by rw [e];exact nofun))
section
variable {K:PySem.W.Frag}{E:D->Prop}{Eo:XK}{fs:List Nat}{ta tb ts:TS}{pa pb ps:PTS}{te:TE}{pe:PTE}{tt:TT}{pt:PTT}{wi:TI}{pi:PTI}{g:TG}{pg:PTG}
theorem LS.x(h:LS K fs ts ps):LSX K E Eo fs ts ps:=fun fx A R H0 ρ σ H D D' hf r F q k1 k2 k3 k4 _=>h fx A R H0 ρ σ H D D' hf r F q k1 k2 k3 k4
theorem BV(ha:LSX K E Eo fs ta pa)(hb:LSX K E Eo fs tb pb):LSX K E Eo fs (Ao ta tb) (aN pa pb):=fun fx A R H0 ρ σ H D D' hf r F q k1 k2 k3 k4 k5 =>
 ha fx A R H0 ρ σ H _ _ hf r F q (fun ρ1 σ1 H1 q1 r1 F1=>hb fx A R H0 ρ1 σ1 H1 _ _ hf r1 F1 q1 k1 k2 k3 k4 k5) k2 k3 k4 k5
theorem BW(ht:LT K tt pt)(ha:LSX K E Eo fs ta pa)(hb:LSX K E Eo fs tb pb):LSX K E Eo fs (Cy tt ta tb) (gX pt pa pb):=fun fx A R H0 ρ σ H D D' hf r F q k1 k2 k3 k4 k5=>ht A ρ σ H _ _ r q fun c H1 ρ1 q1 f1 r1=>by
 cases c with
 | true=>exact ha fx A R H0 ρ1 σ H1 D D' hf r1 (F.fr f1) q1 k1 k2 k3 k4 k5
 | false=>exact hb fx A R H0 ρ1 σ H1 D D' hf r1 (F.fr f1) q1 k1 k2 k3 k4 k5
theorem BX(hi:LI K wi pi)(hg:LGd K fs g pg)(hb:LSX K E Eo fs tb pb):LSX K E Eo fs (CA wi g tb) (iP pi pg pb):=fun fx A R H0 ρ σ H D D' hf r F q k1 k2 k3 k4 k5=>hi A ρ σ H _ _ r q fun J H1 n it ρ1 q1 f1 r1 W=>by
 obtain⟨I,i0,turn,after⟩:=q1;have F1:=F.fr f1;refine⟨fun i m σ' H'=>i+m=n/\∃ρ',I i ρ'/\Rel K A ρ' σ' H'/\dA fx (Wr ρ1 σ) H1 ρ' σ' H',⟨n,Nat.zero_add n,ρ1,i0,r1,dA.start F1.fx⟩,fun i m σ' H' ⟨him,ρ',iv,r',F'⟩=>?_⟩;obtain⟨go,stop⟩:=W _ H' F'.keeps r'.dom2
 by_cases hk:i<n
 .obtain⟨g1,g2⟩:=go i hk;refine .inr ⟨g1,fun σ'' H''=>∃ρ'',I (i+1) ρ''/\Rel K A ρ'' σ'' H''/\dA fx (Wr ρ1 σ) H1 ρ'' σ'' H'',fun σ'' H'' z=>⟨m - 1,by omega,by omega,z⟩,fun x H'' y=>?_⟩;obtain⟨gr,fv⟩:=g2 x H'' y;refine hg fx A (Wr ρ1 σ) H1 ρ' σ' H'' _ x _ _ hf (F'.fr gr.fr) (r'.gr gr) fv (turn i ρ' _ hk rfl iv) fun ρ2 σ2 q2 r2 F2 _=>?_
  refine hb fx A (Wr ρ1 σ) H1 ρ2 σ2 H'' _ _ hf r2 F2 q2 (fun ρ3 σ3 H3 q3 r3 F3=>⟨ρ3,q3,r3,F3⟩) (fun v p ρ3 σ3 H3 q3 o3 F3=>k2 v p ρ3 σ3 H3 q3 (o3.h0 F1.dm) (F1.trans F3 F3.fx)) (fun ρ3 σ3 H3 q3 r3 F3=>k1 ρ3 σ3 H3 q3 r3 (F1.trans F3 F3.fx)) (fun ρ3 σ3 H3 q3 r3 F3=>⟨ρ3,q3,r3,F3⟩)
   (fun ρ3 σ3 H3 ea dd d q3 r3 F3 n3 x3=>k5 ρ3 σ3 H3 ea dd d q3 r3 (F1.trans F3 F3.fx) (F1.nn n3) x3)
 .have e:i=n:=by omega
  subst e;exact .inl ⟨stop,k1 ρ' σ' H' (after ρ' iv) r' (F1.trans F' F'.fx)⟩
end
def qf(E:D->Prop)(pe:PTE):PTS:=fun _ ρ=>pe ρ fun p _=>match p with
 | .dat d=>E d
 | _=>False
section
variable {K:PySem.W.Frag}{E:D->Prop}{Eo:XK}{fs:List Nat}{ta:TA}{pa:PTA}{cs:List Str}{c f:Str}
theorem DH{H:Hp}{a:Addr}{o o':HO}:upd (upd H a o) a o'=upd H a o':=by
 funext b
 by_cases z:b=a
 .subst z;rw [ay,ay]
 .rw [ap z,ap z,ap z]
theorem oS(X:vG K cs)(hc:c∈cs)(h:LAs K ta pa):LSX K E Eo fs (xJ K (BM (aD K c) f ta) (fun _=>Eo)) (qf E (zw c f pa)):=fun fx A R H0 ρ σ H D D' hf r F q k1 k2 k3 k4 k5 =>
 h A ρ σ H _ _ r q fun vs H1 as ρ1 q1 f1 R1 o1=>by
  split at q1
  .rename_i d e1;have fs:=o1.avD e1
   cases fs with
   | @cons v _ _ _ fv fr =>
    cases fr;refine⟨_,rfl,fun e dx he hdx hne=>⟨e,aD K c,aD K "GlueError",some dx,rfl,ay,X.c c hc,?_⟩⟩;rw [DH];have he2:upd H1 dx (.xd [(f,v)]) e=none:=by rw [ap (fun z=>hne z.symm)];exact he
    have g1:Gr H1 (upd H1 dx (.xd [(f,v)])):=Gr.new hdx;have g2:=Gr.new (o:=.ext (XAt e (aD K c) (some dx) false)) he2;have g:Gr H1 (upd (upd H1 dx (.xd [(f,v)])) e (.ext (XAt e (aD K c) (some dx) false))):=fun b o z=>g2 b o (g1 b o z);have F1:=F.fr f1;exact k5 ρ1 σ _ e _ _ q1 (R1.gr g) (F1.fr g.fr) (F1.nn he) ⟨_,_,_,rfl,ay,.exc1 (fs:=[(f,v)]) (fun z=>R1.dom2 e z he) (fun z=>R1.dom2 dx z hdx) ay (by rw [ap hne];exact ay) rfl (.cons (fv.keeps fun b o n z=>⟨n,g b o z⟩) .nil)⟩
  .exact q1.elim
end
abbrev FX:=List D->(PV->Prop)->(D->Prop)->Prop
def spX(K:PySem.W.Frag)(c:FX):Sp:=fun vs H Q E=>∃(O:Addr->Prop) (ds:List D) (Qc:PV->Prop) (Ec:D->Prop),(∀b,O b->H b≠none)/\FVs K O H vs ds/\c ds Qc Ec/\(∀r,Qc r->∀v H',Gr H H'->pP K O H H' r v->Q v H') /\
 ∀d,Ec d->∀ea dd H',Gr H H'->H ea=none->XR K O H' ea dd d->E (.ref ea) dd H'
section
variable {K:PySem.W.Frag}{tr:TA}{pr:PTA}{ts:XK->TS}{ps:(D->Prop)->PTS}
def xL(c:FX)(pr:PTA):PTE:=fun ρ Q=>pr ρ fun as ρ1=>match avD as with
 | some ds=>c ds (fun r=>Q r ρ1) (fun _=>False)
 | none=>False
theorem wY{c:FX}(h:LAs K tr pr):LE K (u9 (spX K c) (fun _=>E0) tr) (xL c pr):=fun A ρ σ H Q Q' R q k=>h A ρ σ H _ _ R q fun vs H1 as ρ1 q1 f1 R1 o1=>by
 split at q1
 .rename_i ds e;exact⟨OO A ρ1 σ,ds,_,_,R1.dom2,o1.avD e,q1,fun r qr v H' g ov=>k v H' r ρ1 qr (f1.trans g.fr) ((ov.out R1 g).h0 f1.dm),fun d z=>z.elim⟩
 .exact q1.elim
end
section
variable {K:PySem.W.Frag}{cs:List Str}
theorem oU(X:vG K cs){c d:Str}(hc:c∈cs)(hd:d∈cs\/d="GlueError"):(Value.ref (aD K c)::.ref (aD K "GlueError")::vmB).contains (.ref (aD K d))=nW c d:=by
 have yd:XCl K d:=hd.elim (X.n d) fun e=>by rw [e];exact X.g
 have rr:∀a b:Addr,(Value.ref a == Value.ref b)=decide (a=b):=fun a b=>by
  by_cases h:a=b
  .subst h;simp
  .rw [decide_eq_false h];exact beq_eq_false_iff_ne.mpr fun z=>h (Value.ref.inj z)
 rw [contains_cons,contains_cons,rr,rr];have t2:vmB.contains (Value.ref (aD K d))=false:=rfl;rw [t2,Bool.or_false];unfold nW
 congr 1
 .by_cases h:c=d
  .subst h;rw [decide_eq_true rfl,decide_eq_true rfl]
  .rw [decide_eq_false h,decide_eq_false fun z=>(X.n c hc).ne yd h z.symm]
 .by_cases h:d="GlueError"
  .subst h;rw [decide_eq_true rfl,decide_eq_true rfl]
  .rw [decide_eq_false h,decide_eq_false (yd.ne X.g h)]
end
section
variable {K:PySem.W.Frag}{A R:Addr->Prop}{fx:List (Nat×V)}{fs:List Nat}{H0 H:Hp}{ρ:PSt}{σ:St}{i:Nat}
theorem iV{j:Nat}{q:PV}(e:(ρ.set i none)[j]?=some (some q)):j≠i/\ρ[j]?=some (some q):=by
 by_cases z:i=j
 .subst z
  by_cases hi:i<ρ.length
  .rw [getElem?_set_self hi] at e;cases e
  .rw [getElem?_eq_none (by rw [length_set];omega)] at e;cases e
 .rw [getElem?_set_ne z] at e;exact⟨fun q=>z q.symm,e⟩
theorem nG{b:Addr}(h:Wr (ρ.set i none) (σ.set i none) b):Wr ρ σ b:=by
 obtain⟨j,r,e1,o1,s1⟩:=h;obtain⟨n,e⟩:=iV e1;rw [getElem?_set_ne (fun z=>n z.symm)] at s1;exact⟨j,r,e,o1,s1⟩
theorem Rel.unset(R1:Rel K A ρ σ H):Rel K A (ρ.set i none) (σ.set i none) H:=by
 have k:aO (OO A ρ σ) H (OO A (ρ.set i none) (σ.set i none)) H:=aO.less fun b z=>z.imp id nG
 refine⟨by rw [length_set,length_set];exact R1.len,fun j r e1=>?_,fun j l p1 q1 v' e1 e2 o1 o2 s1 s2=>?_,R1.dom,fun b z w=>R1.sep b z (nG w)⟩
 .obtain⟨n,e⟩:=iV e1;obtain⟨u,s,r'⟩:=R1.get j r e;exact⟨u,by rw [getElem?_set_ne (fun z=>n z.symm)];exact s,r'.keeps k fun _ _ _=>rfl⟩
 .obtain⟨n1,e1⟩:=iV e1;obtain⟨n2,e2⟩:=iV e2;rw [getElem?_set_ne (fun z=>n1 z.symm)] at s1;rw [getElem?_set_ne (fun z=>n2 z.symm)] at s2;exact R1.dj j l p1 q1 v' e1 e2 o1 o2 s1 s2
theorem dA.unset(hf:fx.map Prod.fst=fs)(hi:fs.contains i=false)(F:dA fx R H0 ρ σ H):dA fx R H0 (ρ.set i none) (σ.set i none) H :=
 ⟨F.kp,F.dm,fun b w=>F.ow b (nG w),fun q hq=>by
  have:q.1≠i:=fun z=>by
   have h1:i∈fs:=by rw [<- hf,<- z];exact mem_map_of_mem hq
   rw [contains_iff_mem.mpr h1] at hi;cases hi
  rw [getElem?_set_ne (fun z=>this z.symm)];exact F.fx q hq⟩
end
abbrev PTH:=D->PTS
def LH(K:PySem.W.Frag)(fs:List Nat)(th:THd)(ph:PTH):Prop:=∀(fx:List (Nat×V)) (A R:Addr->Prop) (H0:Hp) (ρ:PSt) (σ:St) (H:Hp) (D:wz) (D':sP) (ea:Addr) (dd:Option Addr) (c:Str) (ns:List Str) (ds:List L2.D),fx.map Prod.fst=fs->Rel K A ρ σ H->dA fx R H0 ρ σ H ->
 H ea=some (.ext (XAt ea (aD K c) dd false))->FV K (OO A ρ σ) H (.ref ea) (.exc c ns ds)->ph (.exc c ns ds) D ρ ->
 (∀ρ' σ' H',D.nx ρ'->Rel K A ρ' σ' H'->dA fx R H0 ρ' σ' H'->D'.nx σ' H') ->
 (∀v p ρ' σ' H',D.rt p ρ'->Out K A ρ' σ' H0 H' p v->dA fx R H0 ρ' σ' H'->D'.rt v H') ->
 (∀ρ' σ' H',D.bk ρ'->Rel K A ρ' σ' H'->dA fx R H0 ρ' σ' H'->D'.bk σ' H') ->
 (∀ρ' σ' H',D.ct ρ'->Rel K A ρ' σ' H'->dA fx R H0 ρ' σ' H'->D'.ct σ' H')->th ea (aD K c) dd D' σ H
def BY:PTH:=fun _ _ _=>False
def Ej(cs:List Str)(c0:Str)(i:Nat)(pb:PTS)(rest:PTH):PTH:=fun d D ρ=>match d with
 | .exc c _ _=>cs.contains c=true/\ic (nW c c0) (pb { nx:=fun ρ'=>D.nx (ρ'.set i none),bk:=fun ρ'=>D.bk (ρ'.set i none),ct:=fun ρ'=>D.ct (ρ'.set i none),rt:=D.rt } (ρ.set i (some (.dat d)))) (rest d D ρ)
 | _=>False
section
variable {K:PySem.W.Frag}{cs:List Str}{fs:List Nat}{ts:TS}{ps:PTS}{tr:THd}{pr:PTH}{c0:Str}{i:Nat}
theorem BZ:LH K fs (fun _ _ _ _ _ _=>False) BY:=fun _ _ _ _ _ _ _ _ _ _ _ _ _ _ _ _ _ _ _ h _ _ _ _=>h
theorem DI(X:vG K cs)(h0:c0∈cs\/c0="GlueError")(hi:fs.contains i=false)(hs:LS K fs ts ps)(hr:LH K fs tr pr):LH K fs (hAs K (aD K c0) i ts tr) (Ej cs c0 i ps pr):=fun fx A R H0 ρ σ H D D' ea dd c ns ds hf r F hea fv q k1 k2 k3 k4=>by
 obtain⟨hc,q⟩:=(show cs.contains c=true/\_ from q)
 have hc:c∈cs:=contains_iff_mem.mp hc;have ek:=oU X hc h0
 refine⟨aD K "GlueError",X.c c hc,fun e=>?_,fun e=>?_⟩
 .rw [ek] at e;rw [e] at q;have o:Out K A ρ σ H0 H (.dat (.exc c ns ds)) (.ref ea):=⟨r,fv⟩
  exact hs fx A R H0 _ _ H _ _ hf (o.put (i:=i)).1 (F.put hf hi o.put.2) q (fun ρ' σ' H' q' r' F'=>k1 _ _ _ q' r'.unset (F'.unset hf hi)) k2 (fun ρ' σ' H' q' r' F'=>k3 _ _ _ q' r'.unset (F'.unset hf hi)) (fun ρ' σ' H' q' r' F'=>k4 _ _ _ q' r'.unset (F'.unset hf hi))
 .rw [ek] at e;rw [e] at q;exact hr fx A R H0 ρ σ H D D' ea dd c ns ds hf r F hea fv q k1 k2 k3 k4
end
def B0(c:FX)(pa:PTA)(ph:PTH):PTS:=fun D ρ=>pa ρ fun as ρ1=>match avD as with
 | some ds=>c ds (fun _=>D.nx ρ1) (fun d=>ph d D ρ1)
 | none=>False
section
variable {P:Program}{w:World}{K:PySem.W.Frag}{mg:Str->Option Value}{base:Heap}{x:Str}{st:Stmt}{N ps:List Str}{k:Nat}{sp:Sp}
theorem cw.okE(D:cw K mg x st)(S:aM N ps (ai st))
  (hb:∀(kV doc pm:Value) (an:Option Addr) (cdv ct:Value) (us:List Value),us.length=ps.length->bindArgs (PySem.W.fnOf x x (bM st) (bh st) (ai st) .none kV doc pm an cdv ct) ⟨us,[]⟩=pure (ps.zip us))
  (len:∀vs H Q E,sp vs H Q E->vs.length=ps.length)
  (hbody:∀(f:Addr) (cdv:Value) (A:Around) (outer:List Env) (s:Shared) (H:Hp) (vs:List V) (Q:VK) (E:XK),fh k (A.deeper (envOfC x (ai st) s.heap.objs.size f cdv))->sp vs H Q E ->
   ∃t,PSs (mJ (CXe P w) P w K mg base N x (ai st) f cdv A outer s H E) (bh st) t/\t { nx:=fun _ H'=>Q .non H',rt:=Q } (start N vs) H):BR P w K mg base (k+1) x ps sp:=by
 obtain⟨f,fd,F,hm⟩:=D.ex;refine⟨f,fd,?_,F.binds hb,F.kp,hm⟩;obtain⟨oc,od,kV,doc,pm,an,cdv,ct,osl,rfl,lk,hcd⟩:=F.ex;exact vV lk hcd S len fun A outer s H vs Q E hr hsp=>hbody f cdv A outer s H vs Q E hr hsp
end
theorem px0{P:Program}{w:World}{X:Cx}:PX (CXe P w) X (fun _=>E0):=fun pins σ H s e s' I h=>by
 obtain⟨_,_,_,_,_,_,_,_,_,_,_,_,_,_,z⟩:=h;exact z.elim
abbrev DJ(pp:(D->Prop)->PTS)(n:Nat)(ds:List D)(Q:PV->Prop)(E:D->Prop):Prop:=pp E { nx:=fun _=>Q (.dat .non),rt:=fun p _=>Q p } (di n (ds.map .dat))
section
variable {K:PySem.W.Frag}{ts:TS}{ps:(D->Prop)->PTS}
theorem EF{c:FX}{n:Nat}(hn:∀ds Q E,c ds Q E->ds.length=n){vs:List V}{H:Hp}{Q:VK}{E:XK}(h:spX K c vs H Q E):vs.length=n:=by
 obtain⟨O,ds,Qc,Ec,_,fv,hq,_⟩:=h;rw [fv.length];exact hn ds Qc Ec hq
theorem EG{c:FX}{N:List Str}{vs:List V}{H:Hp}{Q:VK}{E:XK}(hl:∀Ec,LSX K Ec E [] ts (ps Ec))(hn:∀ds Q E,c ds Q E->ds.length<=N.length)(hc:∀ds Q E,c ds Q E->DJ ps N.length ds Q E)
  (h:spX K c vs H Q E):ts { nx:=fun _ H'=>Q .non H',rt:=Q } (start N vs) H:=by
 obtain⟨O,ds,Qc,Ec,dom,fv,hq,k,kx⟩:=h
 have nw:∀(ρ:PSt) (b:Addr),ρ=di N.length (ds.map .dat)->¬ Wr ρ (start N vs) b:=fun ρ b e ⟨i,p,e1,o1,s1⟩=>by
  rw [e] at e1;have:=dr e1;rw [getElem?_map] at this
  cases e2:ds[i]? with
  | none=>rw [e2] at this;cases this
  | some d=>rw [e2] at this;cases this;cases o1
 have lenv:=fv.length;have hle:=hn ds Qc Ec hq
 have R0:Rel K O (di N.length (ds.map .dat)) (start N vs) H:=by
  refine⟨?_,fun i p e=>?_,fun i j p q v e1 e2 o1 o2 s1 s2=>?_,dom,fun b _ w=>nw _ b rfl w⟩
  .unfold di start;rw [length_append,length_append,length_map,length_map,length_map,length_replicate,length_replicate,lenv]
  .have:=dr e;rw [getElem?_map] at this
   cases e2:ds[i]? with
   | none=>rw [e2] at this;cases this
   | some d =>
    rw [e2] at this;cases this;obtain⟨v,hv,f⟩:=fv.getD e2;exact⟨v,iR hv,f.keeps (aO.less fun b z=>z.elim id fun w=>absurd w (nw _ b rfl))⟩
  .have:=dr e1;rw [getElem?_map] at this
   cases e3:ds[i]? with
   | none=>rw [e3] at this;cases this
   | some d=>rw [e3] at this;cases this;cases o1
 refine hl Ec [] O (fun _=>False) H _ _ H _ _ rfl R0 ⟨fun _ _ _ h=>h,fun _ h=>h,fun b w=>absurd w (nw _ b rfl),fun p hp=>nomatch hp⟩ (hc ds Qc Ec hq) (fun ρ' σ' H' q r F=>?_) (fun v p ρ' σ' H' q o F=>?_) (fun _ _ _ z=>z.elim) (fun _ _ _ z=>z.elim) (fun ρ' σ' H' ea dd d q r F n x=>?_)
 .exact k _ q .non H' (fun b o e=>F.kp b o id e) .non
 .exact k _ q v H' (fun b o e=>F.kp b o id e) o.outV
 .exact kx d q ea dd H' (fun b o e=>F.kp b o id e) n (x.keeps (aO.less fun b z=>.inl z))
end
theorem B1{X:Cx}{c0 cn n:Str}{np pos:Pos}{b0:Stmt}{suite:List Stmt}{rest:List ExceptHandler}{ts:TS}{tr:THd}(i:Nat)(K:PySem.W.Frag)(ek:X.K=K)(hx:XD K (aD K c0))(hm:X.mg cn=some (.ref (aD K c0)))(hN:X.N.Nodup)(hi:X.N[i]?=some n)(hk:X.env.scope.names.lookup n=some .local)(hs:∀e,PSs (X.mk' e).nox (b0::suite) ts)(hr:PH X rest tr)
  (hg:Gl X cn:=by rfl) (hdb:(cn == ("__debug__":Str))=false:=by decide):PH X (.ExceptHandler (some (.Name cn np)) (some n) (b0::suite) pos::rest) (hAs K (aD K c0) i ts tr):=DG K ek hx hm hN hi hk hs hr hg hdb
theorem oV:∀{ds:List Addr}{us:List Value},bZ (ds.map V.ref) us->us=ds.map Value.ref
 | [],_,.nil=>rfl
 | d::ds,_,.cons (l₂:=us) r rs=>by
  rw [oV rs];cases (show _=Value.ref d from r);rfl
def zB(K:PySem.W.Frag):List V->Hp->VK->Prop:=fun xs H Q=>∃a C G dd new p ds b,xs=[.ref a,.ref p]/\H a=some (.ext (XAt a C dd new))/\XC K C G/\H p=some (.tup (List.map V.ref ds))/\PySem.W.kitAny K (.ref C) (List.map Value.ref ds)=some b/\Q (.bl b) H
section
variable {X:Cx}
theorem vc:bJ X (.builtin "isinstance") (zB X.K):=by
 intro pins s σ H xs us Q I r h;obtain⟨a,C,G,dd,new,p,ds,b,rfl,ea,c,hp,e,q⟩:=h;obtain⟨u,w',rfl,rx,ry⟩:=rN r;cases (show u=Value.ref a from rx);cases (show w'=Value.ref p from ry);have ok:=(show bK X.prog X.w H s.heap a (.ext (XAt a C dd new)) from I.hok a _ ea)
 obtain⟨its,rv,⟨⟨cls,d1,data,sl⟩,ho,hc,n,hd⟩,_⟩:=I.tuple (SqT.of hp);simp only at hc hd;subst hc hd;exact PySem.W.kia_tup (nA c) I.kIn ok.1 ho (by rw [oV rv];exact e) (fun z=>nomatch z) fun tk=>⟨.bl b,H,I.tok _,rfl,q⟩
theorem B2(K:PySem.W.Frag)(e:X.K=K):bJ X (.builtin "isinstance") (zB K):=by subst e;exact vc
end
def wZ:List Addr->TA
 | []=>fE
 | a::r=>bp (tC (.ref a)) (wZ r)
theorem oW{σ:St}{H:Hp}:∀{ds:List Addr}{Q:List V->Hp->Prop},Q (ds.map V.ref) H->wZ ds σ H Q
 | [],Q,h=>h
 | d::ds,Q,h=>by
  show wZ ds σ H fun vs H2=>Q (V.ref d::vs) H2;exact oW h
theorem vd{K:PySem.W.Frag}{cs:List Str}(X:vG K cs){c:Str}(hc:c∈cs):∀{ds:List Str},(∀d∈ds,d∈cs\/d="GlueError")->PySem.W.kitAny K (.ref (aD K c)) (List.map Value.ref (ds.map (aD K)))=some (ds.any (nW c))
 | [],_=>rfl
 | d::ds,h=>by
  have ih:=vd X hc (ds:=ds) fun x hx=>h x (mem_cons_of_mem _ hx);show (match PySem.W.kitOne K (.ref (aD K c)) (.ref (aD K d)) with|some true=>some true|some false=>PySem.W.kitAny K (.ref (aD K c)) (List.map Value.ref (ds.map (aD K)))|none=>none)=_;rw [uX X hc (h d (mem_cons_self ..)),any_cons]
  cases nW c d with
  | true=>rfl
  | false=>rw [Bool.false_or];exact ih
def B3(cs ds:List Str)(pa:PA1):PTE:=fun ρ Q=>pa ρ fun x ρ1=>match cont ρ1 x with
 | some (.exc c _ _)=>cs.contains c=true/\Q (.dat (.bl (ds.any (nW c)))) ρ1
 | _=>False
section
variable {K:PySem.W.Frag}{te:TE}{pe:PA1}{cs:List Str}
theorem zC(ds:List Str)(X:vG K cs)(hd:ds.all (fun d=>cs.contains d || decide (d="GlueError"))=true)(hz:ds.length<=1000)(h:LA1 K te pe):LE K (tCB (zB K) (bp te (bp (Cn (wZ (ds.map (aD K)))) fE))) (B3 cs ds pe):=fun A ρ σ H Q Q' R q k=>h A ρ σ H _ _ R q fun v H1 a ρ1 q1 f1 R1 o1=>by
 split at q1
 .rename_i c ns es e;obtain⟨hc,q1⟩:=q1;have hc:c∈cs:=contains_iff_mem.mp hc
  have ek:=vd X hc (ds:=ds) fun d hd'=>by
   have:=all_eq_true.mp hd d hd'
   rcases or_eq_true_iff.mp this with z|z
   .exact .inl (contains_iff_mem.mp z)
   .exact .inr (of_decide_eq_true z)
  refine oW ⟨by rw [length_map,length_map];exact le_trans hz (by decide),fun p hp=>?_⟩;have g:Gr H1 (upd H1 p (.tup ((ds.map (aD K)).map V.ref))):=Gr.new hp;have fin:Q' (.bl (ds.any (nW c))) (upd H1 p (.tup ((ds.map (aD K)).map V.ref))):=k _ _ _ ρ1 q1 (f1.trans g.fr) ⟨R1.gr g,.bl _⟩
  cases (R1.cont o1 e).exc with
  | exc0 n1 e1=>exact⟨_,_,_,_,_,p,_,_,rfl,g _ _ e1,X.c c hc,ay,ek,fin⟩
  | exc1 n1 n2 e1 e2 m f=>exact⟨_,_,_,_,_,p,_,_,rfl,g _ _ e1,X.c c hc,ay,ek,fin⟩
 .exact q1.elim
end
theorem ve(d:D):(PV.dat d).d=d:=rfl
theorem vf(ds:List D):(PV.own ds).d=.lst ds:=rfl
theorem vg(c:Str)(ns:List Str)(ds:List D):(PV.ins c ns ds).d=.obj c ns ds:=rfl
theorem B4(ds:List D):mkL false ds=.own ds:=rfl
theorem B5(ds:List D):mkL true ds=.dat (.tup ds):=rfl
def pkm(ρ:PSt)(j:Nat):Option PV:=match ρ[j]? with
 | some v=>v
 | none=>none
theorem rz(v:Option PV)(r:PSt):pkm (v::r) 0=v:=rfl
theorem rA(v:Option PV)(r:PSt)(n:Nat):pkm (v::r) (n+1)=pkm r n:=rfl
theorem oX(ρ:PSt):cm [] ρ=[]:=rfl
theorem ml(ix:List (Option Nat))(ρ:PSt):cm (none::ix) ρ=none::cm ix ρ:=rfl
theorem mn(j:Nat)(ix:List (Option Nat))(ρ:PSt):cm (some j::ix) ρ=pkm ρ j::cm ix ρ:=rfl
theorem oY(j:Nat)(ix:List (Option Nat))(ρ:PSt)(t:Option PV)(τ:PSt):eU (some j::ix) ρ (t::τ)=eU ix (ρ.set j t) τ:=rfl
theorem oZ(ix:List (Option Nat))(ρ:PSt)(t:Option PV)(τ:PSt):eU (none::ix) ρ (t::τ)=eU ix ρ τ:=rfl
theorem rB(ρ τ:PSt):eU [] ρ τ=ρ:=rfl
theorem nH{α:Type}{e:α->D}{xs:List α}{k:Nat}(h:k<xs.length):itD (xs.map e) k=e xs[k]:=kC (by rw [getElem?_map,getElem?_eq_getElem h];rfl)
theorem vh{α β:Type}(f:α->β)(xs:List α)(g:Nat->β)(h:∀k (hk:k<xs.length),g k=f xs[k]):(List.range xs.length).map g=xs.map f:=by
 apply ext_getElem?;intro i;rw [getElem?_map,getElem?_map]
 by_cases hi:i<xs.length
 .rw [getElem?_range hi,getElem?_eq_getElem hi];exact congrArg some (h i hi)
 .rw [getElem?_eq_none (by rw [length_range];omega),getElem?_eq_none (by omega)];rfl
section
variable {α:Type}{e:α->D}{xs:List α}{ix:List (Option Nat)}{ρ1:PSt}{g:PTG}{pt:PTT}{pe:PTE}{Q:PKt}
theorem Ek(T:PSt->Prop)(f:α->Option D)(h0:T (cm ix ρ1))
  (hs:∀x∈xs,∀τ,T τ->∀(K1:D->PSt->Prop) (K2:PSt->Prop),(∀d τ',f x=some d->T τ'->K1 d τ')->(∀τ',f x=none->T τ'->K2 τ')->g (.dat (e x)) τ fun τ2=>pt τ2 fun ok τ3=>ic ok (pe τ3 fun p τ4=>K1 p.d τ4) (K2 τ3))
  (hq:∀τ,T τ->Q (.own (xs.filterMap f)) (eU ix ρ1 τ)):mY ix ρ1 (xs.map e).length (itD (xs.map e)) g pt pe Q:=by
 refine cfm T (fun k=>(xs[k]?).bind f) h0 (fun k τ d hk ed t K1 K2 k1 k2=>?_) fun τ t=>?_
 .rw [length_map] at hk;rw [nH hk] at ed;subst ed;have eg:(xs[k]?).bind f=f xs[k]:=by rw [getElem?_eq_getElem hk];rfl
  rw [eg] at k1 k2;exact hs _ (getElem_mem hk) τ t K1 K2 k1 k2
 .have e1:(List.range (xs.map e).length).filterMap (fun k=>(xs[k]?).bind f)=xs.filterMap f:=by
   rw [length_map];have h1:(List.range xs.length).map (fun k=>(xs[k]?).bind f)=xs.map f:=vh f xs _ fun k hk=>by rw [getElem?_eq_getElem hk];rfl
   have h2:∀l:List Nat,l.filterMap (fun k=>(xs[k]?).bind f)=(l.map fun k=>(xs[k]?).bind f).filterMap id:=fun l=>by rw [filterMap_map];rfl
   rw [h2,h1,filterMap_map];rfl
  rw [e1];exact hq τ t
theorem DK(T:PSt->Prop)(f:α->D)(h0:T (cm ix ρ1))
  (hs:∀x∈xs,∀τ,T τ->∀K1:D->PSt->Prop,(∀τ',T τ'->K1 (f x) τ')->g (.dat (e x)) τ fun τ2=>pe τ2 fun p τ4=>K1 p.d τ4)
  (hq:∀τ,T τ->Q (.own (xs.map f)) (eU ix ρ1 τ)):mY ix ρ1 (xs.map e).length (itD (xs.map e)) g oK pe Q:=by
 refine Ek T (fun x=>some (f x)) h0 (fun x hx τ t K1 K2 k1 k2=>?_) fun τ t=>?_
 .exact hs x hx τ t K1 fun τ' t'=>k1 _ τ' rfl t'
 .rw [show xs.filterMap (fun x=>some (f x))=xs.map f by rw [<- filterMap_eq_map];rfl];exact hq τ t
theorem DL{β:Type}(p:α->Bool)(f:α->β):∀xs:List α,xs.filterMap (fun x=>if p x=true then some (f x) else none)=(xs.filter p).map f:=iT p f
theorem cfX(T:PSt->Prop)(p:α->Bool)(f:α->D)(h0:T (cm ix ρ1))
  (hs:∀x∈xs,∀τ,T τ->∀(K1:D->PSt->Prop) (K2:PSt->Prop),(∀τ',p x=true->T τ'->K1 (f x) τ')->(∀τ',p x=false->T τ'->K2 τ')->g (.dat (e x)) τ fun τ2=>pt τ2 fun ok τ3=>ic ok (pe τ3 fun p τ4=>K1 p.d τ4) (K2 τ3))
  (hq:∀τ,T τ->Q (.own ((xs.filter p).map f)) (eU ix ρ1 τ)):mY ix ρ1 (xs.map e).length (itD (xs.map e)) g pt pe Q:=by
 refine Ek T (fun x=>if p x=true then some (f x) else none) h0 (fun x hx τ t K1 K2 k1 k2=>hs x hx τ t K1 K2 (fun τ' h t'=>k1 _ τ' (by rw [if_pos h]) t') fun τ' h t'=>k2 τ' (by rw [if_neg (by rw [h];decide)]) t') fun τ t=>?_;rw [DL];exact hq τ t
theorem cm1(f:α->D)
  (hs:∀x∈xs,∀(v:Option PV) (K1:D->PSt->Prop),(∀v',K1 (f x) (v'::(cm ix ρ1).tail))->g (.dat (e x)) (v::(cm ix ρ1).tail) fun τ2=>pe τ2 fun p τ4=>K1 p.d τ4)
  (hq:∀v:Option PV,Q (.own (xs.map f)) (eU ix ρ1 (v::(cm ix ρ1).tail))) (hx:cm ix ρ1=none::(cm ix ρ1).tail:=by rfl):mY ix ρ1 (xs.map e).length (itD (xs.map e)) g oK pe Q:=by
 refine DK (fun τ=>∃v,τ=v::(cm ix ρ1).tail) f ⟨none,hx⟩ ?_ ?_
 .rintro x hx τ ⟨v,rfl⟩ K1 k1;exact hs x hx v K1 fun v'=>k1 _ ⟨v',rfl⟩
 .rintro τ ⟨v,rfl⟩;exact hq v
theorem cf1(p:α->Bool)(f:α->D)
  (hs:∀x∈xs,∀(v:Option PV) (K1:D->PSt->Prop) (K2:PSt->Prop),(∀v',p x=true->K1 (f x) (v'::(cm ix ρ1).tail))->(∀v',p x=false->K2 (v'::(cm ix ρ1).tail))->g (.dat (e x)) (v::(cm ix ρ1).tail) fun τ2=>pt τ2 fun ok τ3=>ic ok (pe τ3 fun p τ4=>K1 p.d τ4) (K2 τ3))
  (hq:∀v:Option PV,Q (.own ((xs.filter p).map f)) (eU ix ρ1 (v::(cm ix ρ1).tail))) (hx:cm ix ρ1=none::(cm ix ρ1).tail:=by rfl):mY ix ρ1 (xs.map e).length (itD (xs.map e)) g pt pe Q:=by
 refine cfX (fun τ=>∃v,τ=v::(cm ix ρ1).tail) p f ⟨none,hx⟩ ?_ ?_
 .rintro x hx τ ⟨v,rfl⟩ K1 K2 k1 k2;exact hs x hx v K1 K2 (fun v' h=>k1 _ h ⟨v',rfl⟩) fun v' h=>k2 _ h ⟨v',rfl⟩
 .rintro τ ⟨v,rfl⟩;exact hq v
end
theorem cfR{ix:List (Option Nat)}{ρ1:PSt}{g:PTG}{pt:PTT}{pe:PTE}{Q:PKt}{n:Nat}{it:Nat->D}(p:Nat->Bool)(f:Nat->D)
  (hs:∀k,k<n->∀(v:Option PV) (K1:D->PSt->Prop) (K2:PSt->Prop),(∀v',p k=true->K1 (f k) (v'::(cm ix ρ1).tail))->(∀v',p k=false->K2 (v'::(cm ix ρ1).tail))->g (.dat (it k)) (v::(cm ix ρ1).tail) fun τ2=>pt τ2 fun ok τ3=>ic ok (pe τ3 fun p τ4=>K1 p.d τ4) (K2 τ3))
  (hq:∀v:Option PV,Q (.own (((List.range n).filter p).map f)) (eU ix ρ1 (v::(cm ix ρ1).tail))) (hx:cm ix ρ1=none::(cm ix ρ1).tail:=by rfl):mY ix ρ1 n it g pt pe Q:=by
 refine cfm (fun τ=>∃v,τ=v::(cm ix ρ1).tail) (fun k=>if p k=true then some (f k) else none) ⟨none,hx⟩ ?_ ?_
 .rintro k τ d hk rfl ⟨v,rfl⟩ K1 K2 k1 k2;exact hs k hk v K1 K2 (fun v' h=>k1 _ _ (by rw [if_pos h]) ⟨v',rfl⟩) fun v' h=>k2 _ (by rw [if_neg (by rw [h];decide)]) ⟨v',rfl⟩
 .rintro τ ⟨v,rfl⟩;rw [iT];exact hq v
section
variable {α:Type}{e:α->D}{xs:List α}{ρ1:PSt}{g:PTG}{pb:PTS}{nx bk:PSt->Prop}{rt:PV->PSt->Prop}
theorem DM(J:List α->PSt->Prop)(h0:J [] ρ1)
  (hs:∀pre x suf ρ,xs=pre++x::suf->J pre ρ->g (.dat (e x)) ρ fun ρ2=>pb { nx:=J (pre++[x]),rt:=rt,bk:=bk,ct:=J (pre++[x]) } ρ2) (hq:∀ρ,J xs ρ->nx ρ) :
  ∃I:Nat->PSt->Prop,I 0 ρ1/\(∀k ρ d,k<(xs.map e).length->d=itD (xs.map e) k->I k ρ->g (.dat d) ρ fun ρ2=>pb { nx:=I (k+1),rt:=rt,bk:=bk,ct:=I (k+1) } ρ2)/\∀ρ,I (xs.map e).length ρ->nx ρ:=by
 refine⟨fun k ρ=>J (xs.take k) ρ,by show J (xs.take 0) ρ1;rw [take_zero];exact h0,fun k ρ d hk ed hJ=>?_,fun ρ h=>hq ρ (by have h:J (xs.take (xs.map e).length) ρ:=h;rw [length_map,take_length] at h;exact h)⟩;rw [length_map] at hk;rw [nH hk] at ed;subst ed;have ht:xs.take (k+1)=xs.take k++[xs[k]]:=by rw [take_succ,getElem?_eq_getElem hk];rfl
 show g _ ρ fun ρ2=>pb { nx:=J (xs.take (k+1)),rt:=rt,bk:=bk,ct:=J (xs.take (k+1)) } ρ2;rw [ht];exact hs _ _ (xs.drop (k+1)) ρ (by rw [getElem_cons_drop,take_append_drop]) hJ
end
theorem zD{α:Type}(f:α->Bool)(xs:List α):(xs.map f).any id=xs.any f:=by rw [any_map];rfl
theorem sv{α:Type}(f:α->Bool)(xs:List α):xs.map (fun x=>D.bl (f x))=(xs.map f).map D.bl:=by rw [map_map];rfl
theorem kI{α:Type}(f:α->Int)(xs:List α):xs.map (fun x=>D.int (f x))=(xs.map f).map D.int:=by rw [map_map];rfl
theorem vi{t w:List Nat}{k:Nat}:stA t w k=true ↔ ∃a b,t=a++w++b/\a.length=k:=by
 unfold stA;rw [decide_eq_true_eq]
 constructor
 .rintro⟨h1,h2⟩;refine⟨t.take k,t.drop (k+w.length),?_,by rw [length_take];omega⟩
  have h3:t.drop k=w++t.drop (k+w.length):=by
   conv=>lhs;rw [<- take_append_drop w.length (t.drop k),h2,drop_drop]
  rw [append_assoc,<- h3,take_append_drop]
 .rintro⟨a,b,rfl,rfl⟩;refine⟨by rw [length_append,length_append];omega,?_⟩;rw [append_assoc,drop_left,take_left]
theorem o0{a b:List Nat}:mj a b=true ↔ a <:+: b:=by
 rw [zh]
 constructor
 .rintro⟨k,hk⟩;obtain⟨u,v,e,_⟩:=vi.mp hk;exact⟨u,v,e.symm⟩
 .rintro⟨u,v,e⟩;exact⟨u.length,vi.mpr ⟨u,v,e.symm,rfl⟩⟩
theorem kJ{a b:List Nat}:mj a b=true ↔ 0<=fnd b a 0:=by unfold mj;exact decide_eq_true_iff
theorem iW{a b:List Nat}:mj a b=false ↔ fnd b a 0<0:=by
 unfold mj;rw [decide_eq_false_iff_not];omega
theorem vj(a b:List Nat):(!(Builtin.Str.occurrences (S b) (S a) 0 (S b).length 1).isEmpty)=mj a b:=by
 have e:=ub b a 0;unfold mj;rw [<- e]
 cases Builtin.Str.occurrences (S b) (S a) 0 (S b).length 1 with
 | nil=>rfl
 | cons k r=>exact (decide_eq_true (by omega:(0:Int)<=(k:Int))).symm
section
variable {X:Cx}{K:PySem.W.Frag}
def DN(neg:Bool):R2:=fun x y H Q=>∃a b,x=.str (S a)/\y=.str (S b)/\Q (.bl (if neg then !mj a b else mj a b)) H
theorem B6:OpR X (compareOp .In) (DN false):=by
 intro pins s σ H x y v u Q I rx ry h;obtain⟨a,b,rfl,rfl,q⟩:=h;obtain⟨t,rfl⟩:=rx;obtain⟨t',rfl⟩:=ry;exact P.in_str ⟨.bl _,H,I,rfl,by rw [vj];exact q⟩
theorem vk:OpR X (compareOp .NotIn) (DN true):=by
 intro pins s σ H x y v u Q I rx ry h;obtain⟨a,b,rfl,rfl,q⟩:=h;obtain⟨t,rfl⟩:=rx;obtain⟨t',rfl⟩:=ry;exact P.notIn_str ⟨.bl _,H,I,rfl,by rw [vj];exact q⟩
def Cu(K:PySem.W.Frag)(neg:Bool):R2:=fun x y H Q=>rIn K neg x y H Q\/DN neg x y H Q
theorem w4(K:PySem.W.Frag)(e:X.K=K):OpR X (compareOp .In) (Cu K false):=OpR.or (EB K e) B6
theorem rC(K:PySem.W.Frag)(e:X.K=K):OpR X (compareOp .NotIn) (Cu K true):=OpR.or (yJ K e) vk
def xM(neg:Bool):F2
 | .str a,.str b,Q=>Q (.dat (.bl (if neg then !mj a b else mj a b)))
 | a,.lst ds,Q=>(a.fl=true/\ds.all D.fl=true)/\Q (.dat (.bl (if neg then !inD a ds else inD a ds)))
 | a,.tup ds,Q=>(a.fl=true/\ds.all D.fl=true)/\Q (.dat (.bl (if neg then !inD a ds else inD a ds)))
 | _,_,_=>False
theorem mo{neg:Bool}:LO K (Cu K neg) (xM neg):=by
 intro O H x y a b Q Q' dom fx fy q k;unfold xM at q
 split at q
 .obtain⟨rfl,_⟩:=fx.str;obtain⟨rfl,_⟩:=fy.str;exact .inr ⟨_,_,rfl,rfl,k _ H _ q (Gr.refl _) (.bl _)⟩
 .exact .inl (Bg O H x y _ _ Q Q' dom fx fy q k)
 .exact .inl (Bg O H x y _ _ Q Q' dom fx fy q k)
 .exact q.elim
end
section
variable {X:Cx}{K:PySem.W.Frag}{ta te:TE}{pa:PA1}{pe:PTE}
def LPs(K:PySem.W.Frag)(trs:List (TE×TE))(ks:List Key)(pr:PTA):Prop:=∀(A:Addr->Prop) (ρ:PSt) (σ:St) (H:Hp) (Q:List AV->PSt->Prop) (Q':List (V×V)->Hp->Prop),Rel K A ρ σ H->pr ρ Q ->
 (∀vs H' as ρ',Q as ρ'->Fr ρ σ H ρ' H'->Rel K A ρ' σ H'->xx K (OO A ρ' σ) σ H' as vs->vs.length=ks.length->Q' ((ks.zip vs).map fun kv=>(kV kv.1,kv.2)) H')->qX trs σ H Q'
theorem zE:LPs K [] [] ak:=fun A ρ σ H Q Q' R q k=>k [] H [] ρ q (Fr.refl _ _ _) R .nil rfl
theorem w6{tv:TE}{pv:PA1}{trs:List (TE×TE)}{ks:List Key}{pr:PTA}(kk:Key)(hv:LA1 K tv pv)(hr:LPs K trs ks pr):LPs K ((tC (kV kk),tv)::trs) (kk::ks) (ac pv pr):=fun A ρ σ H Q Q' R q k =>
 hv A ρ σ H _ _ R q fun v H1 a ρ1 q1 f1 R1 o1=>hr A ρ1 σ H1 _ _ R1 q1 fun vs H2 as ρ2 q2 f2 R2 o2 l2=>k (v::vs) H2 _ ρ2 q2 (f1.trans f2) R2 (.cons (o1.keeps f2.keeps) o2) (by rw [length_cons,l2];rfl)
theorem zF{kvs:List (Key×V)}{k:Key}{v:V}(h:k∉kvs.map Prod.fst):ud kvs k v=kvs++[(k,v)]:=by
 unfold ud;rw [if_neg];intro z;obtain⟨a,m,e⟩:=any_eq_true.mp z;exact h (mem_map.mpr ⟨a,m,of_decide_eq_true e⟩)
theorem o5:∀(kvs acc:List (Key×V)),((acc++kvs).map Prod.fst).Nodup->jJ acc kvs=acc++kvs
 | [],acc,_=>by show acc=_;rw [append_nil]
 | kv::r,acc,h=>by
  show jJ (ud acc kv.1 kv.2) r=_
  have hn:kv.1∉acc.map Prod.fst:=fun m=>by
   rw [map_append,map_cons] at h;exact (nodup_append.mp h).2.2 _ m _ (mem_cons_self ..) rfl
  rw [zF hn,o5 r _ (by rw [append_assoc];exact h),append_assoc];rfl
def B7(ks:List Key)(pr:PTA):PTE:=fun ρ Q=>pr ρ fun as ρ1=>match avD as with
 | some ds=>Q (.dat (.dic ks ds)) ρ1
 | none=>False
theorem zG{trs:List (TE×TE)}{ks:List Key}{pr:PTA}(hn:ks.Nodup)(h15:ks.length<=15)(h:LPs K trs ks pr):LE K (A5 trs) (B7 ks pr):=fun A ρ σ H Q Q' R q k=>fun p hp=>by
 have R1:Rel K (et A p) ρ σ (upd H p (.dK [])):=R.grA (Gr.new hp) hp (by rw [ay];exact nofun);refine h (et A p) ρ σ _ _ _ R1 q fun vs H2 as ρ2 q2 f2 R2 o2 l2=>?_
 split at q2
 .rename_i ds ed;have e2:H2 p=some (.dK []):=f2.kp p _ (R1.sep p (.inr rfl)) ay;have fv:=o2.avD ed;have m1:(ks.zip vs).map Prod.fst=ks:=map_fst_zip (by omega);have m2:(ks.zip vs).map Prod.snd=vs:=map_snd_zip (by omega)
  have em:jJ [] (ks.zip vs)=ks.zip vs:=by
   rw [o5 _ _ (by rw [nil_append,m1];exact hn),nil_append]
  refine⟨e2,ks.zip vs,rfl,by rw [length_zip];omega,?_⟩;rw [em]
  have fr:Fr ρ σ H ρ2 (upd H2 p (.dK (ks.zip vs))):=⟨fun b o n e=>by
   have nb:b≠p:=aH e hp;rw [ap nb];exact f2.kp b o n (by rw [ap nb];exact e),fun b e=>by
   by_cases z:b=p
   .rw [z,ay];exact nofun
   .rw [ap z];exact f2.dm b (by rw [ap z];exact e),f2.ow⟩
  have np:¬ OO A ρ2 σ p:=fun z=>z.elim (fun z=>R.dom p z hp) fun z=>R2.sep p (.inr rfl) z;refine k _ _ (.dat (.dic ks ds)) ρ2 q2 fr ⟨(R2.amb (o:=.dK (ks.zip vs)) (.inr rfl)).less fun b z=>.inl z,.dic np ay m1 ?_⟩;rw [m2];refine fv.keeps fun b o n e=>⟨fun z=>n (z.imp .inl id),?_⟩
  rw [ap fun z=>n (.inl (.inr z))];exact e
 .exact q2.elim
end
section
variable {X:Cx}{K:PySem.W.Frag}
def xN(K:PySem.W.Frag):R2:=fun x y H Q=>∃a b ys,x=.ref a/\y=.ref b/\SqT K H a []/\SqT K H b ys/\Q (.ref b) H
theorem xb:OpR X (binaryOp .Add) (xN X.K):=by
 intro pins s σ H x y v u Q I rx ry h;obtain⟨a,b,ys,rfl,rfl,ha,hb,q⟩:=h;cases rx;cases ry;obtain⟨its,r1,p1,_⟩:=I.tuple ha;obtain⟨its2,r2,p2,_⟩:=I.tuple hb;have e0:its=[]:=r1.nil_iff.mpr rfl;subst e0;obtain⟨⟨cls,dd,data,sl⟩,ho,hc,n,hd⟩:=id p1;obtain⟨⟨cls2,dd2,data2,sl2⟩,ho2,hc2,n2,hd2⟩:=id p2;simp only at hc hd hc2 hd2;subst hc hd hc2 hd2;exact concat_meets ⟨_,ho,rfl⟩ ⟨_,ho2,rfl⟩ noFill_tuple_add seq_tuple_add PySem.F.slot_tuple_add PySem.F.entry_tuple_add (PySem.F.args_tuple_add_2 _ _) (tuple_addW0 a b _ _ n n2 dd dd2 sl sl2 rfl) ⟨ho,ho2,.ref b,H,I,rfl,q⟩
def zH(K:PySem.W.Frag):R2:=fun x y H Q=>yI K x y H Q\/xN K x y H Q
theorem dY(K:PySem.W.Frag)(e:X.K=K):OpR X (binaryOp .Add) (zH K):=OpR.or (Db K e) (by subst e;exact xb)
def gE:F2
 | .tup a,.tup b,Q=>a.length+b.length<=1000000/\Q (.dat (.tup (a++b)))
 | a,b,Q=>Dc a b Q
theorem cK:LO K (zH K) gE:=by
 intro O H x y a b Q Q' dom fx fy q k;unfold gE at q
 split at q
 .rename_i Q ds es
  cases ds with
  | cons d ds=>exact .inl (xz O H x y _ _ _ Q' dom fx fy ⟨nofun,q⟩ k)
  | nil =>
   obtain⟨p1,xs1,rfl,n1,e1,f1⟩:=fx.tup;obtain⟨p2,xs2,rfl,n2,e2,f2⟩:=fy.tup;cases f1;exact .inr ⟨p1,p2,xs2,rfl,rfl,SqT.of e1,SqT.of e2,k _ H _ q.2 (Gr.refl _) (.tup n2 e2 f2)⟩
 .exact .inl (xz O H x y _ _ _ Q' dom fx fy q k)
end
section
variable {X:Cx}
def El:Expr->Bool
 | .ListComp ..|.SetComp ..|.DictComp ..=>false
 | _=>true
theorem vm{o i e:Expr}{p:Pos}{l:Nat}{env:Env}(h:El e=true):swapsWithSole [.Subscript o i p] e l env=pure false:=by
 show swapsWith e (some (.Subscript o i p)) l env=pure false;cases e <;> first|rfl|cases h
theorem qg{o i e:Expr}{p:Pos}{env:Env}:swappedStores [.Subscript o i p] e env=pure none:=rfl
theorem qh{o i e:Expr}{p:Pos}{te:TE}{g:TG}{pos:Pos}(he:PE X e te)(hg:PG X (.Subscript o i p) g)(hn:El e=true:=by rfl):PS X (.Assign [.Subscript o i p] e pos) (Ar te g) :=
 xo he hg (vm hn) qg rfl
end
def iD(K:PySem.W.Frag)(x:Str)(st:Stmt):Prop:=∃(f:Addr) (oc kV dc pm cd ct:Value) (od an:Option Addr) (sl:Array (Option Value)),PySem.W.nsIn K mainGlobals x=some (some (.ref f)) /\
 K.lookup f=some ⟨oc,od,.func (PySem.W.fnOf x x (bM st) (bh st) (ai st) .none kV dc pm an cd ct),sl⟩/\PySem.W.codeIn K cd x=true/\PySem.W.keepIn K (.ref f)=true
theorem B8{K:PySem.W.Frag}{x:Str}{st:Stmt}{f:Addr}{oc kV dc pm cd ct:Value}{od an:Option Addr}{sl:Array (Option Value)}(a:PySem.W.nsIn K mainGlobals x=some (some (.ref f)))(l:K.lookup f=some ⟨oc,od,.func (PySem.W.fnOf x x (bM st) (bh st) (ai st) .none kV dc pm an cd ct),sl⟩)
  (c:PySem.W.codeIn K cd x=true) (k:PySem.W.keepIn K (.ref f)=true):iD K x st:=⟨f,oc,kV,dc,pm,cd,ct,od,an,sl,a,l,c,k⟩
theorem bU{K:PySem.W.Frag}{h:Heap}{mg:Str->Option Value}{x:Str}{st:Stmt}(q:iD K x st)(X:K.In h)(G:h.Ns mainGlobals mg):cw K mg x st:=by
 obtain⟨f,oc,kV,dc,pm,cd,ct,od,an,sl,a,l,c,k⟩:=q;exact .mk' X G a l c k
section
variable {X:Cx}{K:PySem.W.Frag}
def B9(K:PySem.W.Frag)(te ts:TE):TE:=fun σ H Q=>te σ H fun x H1=>ts σ H1 fun y H2=>y=.int (-1)/\((∃l,x=.str (S l)/\l.length<=sizeLine/\Q (.str (S l.reverse)) H2)\/∃a xs,x=.ref a/\SqL K H2 a xs/\∀p,H2 p=none->Q (.ref p) (upd H2 p (.lst xs.reverse)))
theorem zI(K:PySem.W.Frag)(e0:X.K=K){e st:Expr}{te:TE}{ts:TE}{p2 pos:Pos}(he:PE X e te)(hst:PE X st ts) :
  PE X (.Subscript e (.Slice none none (some st) p2) pos) (B9 K te ts):=by
 subst e0;intro pins s σ H Q I h;refine Subscript_ (thn (he pins s σ H _ I h) fun v s1 ⟨x,H1,I1,r1,q1⟩=>?_);refine wpAny_Slice ?_;rw [evalPart_none];refine wpAny_pure (wpAny_pure ?_);rw [evalPart_some];refine thn (hst pins s1 σ H1 _ I1 q1) fun vs s2 ⟨y,H2,I2,r2,q2⟩=>?_;obtain⟨rfl,q2⟩:=q2;obtain⟨t',rfl⟩:=r2;have I3:Inv X pins σ H2 { s2 with heap:=s2.heap.push { cls:=.type "slice",data:=.fields #[.none,.none,.int (-1) t'] } }:=I2.kept (t':=s2.toks) fun b ob q=>Heap.get?_push_of_some _ q
 rcases q2 with ⟨l,rfl,hz,q⟩|⟨a,xs,rfl,hx,q⟩
 .obtain⟨t,rfl⟩:=r1;have hm:∀t2 k,EP X pins σ Q (.str (Txt.sliceBy (S l) none none (-1,t')) t2) { { s2 with heap:=s2.heap.push { cls:=.type "slice",data:=.fields #[.none,.none,.int (-1) t'] } } with toks:=k }:=fun t2 k=>⟨.str (S l.reverse),H2,I3.tok _,⟨t2,by rw [CQ]⟩,q⟩
  refine tail_any (ops:=[.ref s2.heap.objs.size,.str (S l) t]) (typeIs_str _ _ t) slot_str_getitem.lookup (wpAny_getItem_str_slice (l:=none) (u:=none) (st:=some (-1,t')) ⟨_,Heap.get?_push_size _ rfl,rfl,rfl⟩ rfl ?_) (by with_unfolding_all rfl);exact post_val_or_str ⟨le_trans (Txt.sliceBy_le _ _ _ (-1,t') (by show (-1:Int)≠0;decide)) (by rw [fk];exact hz),hm⟩
 .cases r1;obtain⟨its,r,ht,hz⟩:=I3.list hx;have hlen:=r.length;refine tail_any (ops:=[.ref a,.ref s2.heap.objs.size]) ht.isList.typeIs slot_list_getitem.lookup (wpAny_getItem_list_slice ht.isList ⟨_,Heap.get?_push_size _ rfl,rfl,rfl⟩ .none .none (st:=some (-1)) (.int _ _) (by simp) ?_ (by rw [size_toArray] <;> omega)) (by first|with_unfolding_all rfl|rfl);rw [PySem.W.krv_pick];refine⟨.ref _,_,I3.laid (t':=s2.toks) (o:=.lst xs.reverse) (fun b ob q=>Heap.get?_push_of_some _ q) (le_refl _) ?_,rfl,q _ (I3.hok.fresh (le_refl _))⟩
  exact⟨by rw [length_reverse];exact hz,_,0,r.reverse,Heap.get?_push_size _ rfl⟩
end
section
variable {K:PySem.W.Frag}{ta tb:TE}{pa:PA1}{pe:PTE}
def Ca(pa:PA1)(pe:PTE):PTE:=fun ρ Q=>pa ρ fun x ρ1=>pe ρ1 fun p ρ2=>match cont ρ2 x,p with
 | some (.str l),.dat (.int (-1))=>Q (.dat (.str l.reverse)) ρ2
 | some (.lst ds),.dat (.int (-1))=>Q (.own ds.reverse) ρ2
 | _,_=>False
theorem zJ(ha:LA1 K ta pa)(hb:LE K tb pe):LE K (B9 K ta tb) (Ca pa pe):=fun A ρ σ H Q Q' R q k =>
 ha A ρ σ H _ _ R q fun v H1 a ρ1 q1 f1 R1 o1=>hb A ρ1 σ H1 _ _ R1 q1 fun w H2 p ρ2 q2 f2 o2=>by
  split at q2
  .rename_i l e1;obtain⟨R2,fw⟩:=o2;cases fw;have fx:=R2.cont (o1.keeps f2.keeps) e1;exact⟨rfl,.inl ⟨l,fx.str.1,sz _ fx.str.2,k _ H2 _ ρ2 q2 (f1.trans f2) ⟨R2,.str _ (by rw [length_reverse];exact fx.str.2)⟩⟩⟩
  .rename_i ds e1;obtain⟨R2,fw⟩:=o2;cases fw;obtain⟨a,xs,rfl,e2,f3⟩:=(R2.cont (o1.keeps f2.keeps) e1).lst;exact⟨rfl,.inr ⟨a,xs,rfl,SqL.of e2,fun p hp=>k _ _ _ ρ2 q2 ((f1.trans f2).trans (Gr.new hp).fr) (((e9 hp f3.reverse).out R2 (Gr.new hp)).h0 fun b z=>f2.dm b (f1.dm b z))⟩⟩
  .exact q2.elim
end
def xO(C:Addr)(sp:Sp)(J:St->XK)(t:TA):TE:=fun σ H Q=>t σ H fun vs H1=>∀x dx,H1 x=none->H1 dx=none->dx≠x ->
 sp (.ref x::vs) (upd (upd H1 dx (.own x)) x (.ins C dx [])) (fun v H2=>v=.non/\Q (.ref x) H2) (J σ)
structure xc (P:Program) (w:World) (K:PySem.W.Frag) (mg:Str->Option Value) (base:Heap) (k:Nat) (C:Addr) (x:Str) (ps:List Str) (sp:Sp):Prop where
 ex:∃(f:Addr) (fd:FuncData),lA P w K mg base (CXe P w) k f fd ps sp/\iu K fd ps []/\Mk K C f/\mg x=some (.ref C)
section
variable {X:Cx}{k:Nat}{C:Addr}{x:Str}{ps:List Str}{sp:Sp}{p pos:Pos}{e:Expr}{es:List Expr}{t:TA}{J:St->XK}
theorem zK(M:xc X.prog X.w X.K X.mg X.base k C x ps sp)(hr:fh (k+1) X.A)(hx:PX (CXe X.prog X.w) X J)(ha:PA X (e::es) t)(hg:Gl X x:=by rfl)(hdb:(x == ("__debug__":Str))=false:=by decide)(hn:nSt e=true:=by rfl)(hp:es.all nSt=true:=by rfl) :
  PE X (.Call (.Name x p) (e::es) [] pos) (xO C sp J t):=by
 obtain⟨f,fd,F,hb,M,hm⟩:=M.ex;intro pins s σ H Q I h;refine wpAny_Call_Name_kw (gF I hg hm ?_ hdb);refine PySem.W.callWith_K (h₀:=X.base) I.ok.mod.kin M.kp (thn (ha pos pins s σ H _ I h) fun us s1 ⟨vs,H1,I1,r,q⟩=>⟨I1.kIn,?_⟩) (fb hn) (dZ hp);have hq:=q (s1.heap.objs.size+1) s1.heap.objs.size (I1.hok.fresh (le_succ _)) (I1.hok.fresh (le_refl _)) (ne_of_lt (lt_succ_self _));have I2:=Inv.made (C:=C) I1
 have r2:bZ (V.ref (s1.heap.objs.size+1)::vs) (Value.ref (s1.heap.objs.size+1)::us):=.cons rfl r
 have hl:(Value.ref (s1.heap.objs.size+1)::us).length=ps.length:=by
  have e:=r2.length;rw [F.len _ _ _ _ hq] at e;exact e.symm
 have hb2:=hb _ (Value.ref (s1.heap.objs.size+1)::us) I2.kIn (by rw [append_nil];exact hl);rw [append_nil] at hb2
 refine wpAny_call (qQ (f:=f) I1.kIn M.makes M.init (beq_iff_eq.mp M.fn) (codeAny_mono (F.run _ X.stack _ _ ⟨Value.ref (s1.heap.objs.size+1)::us,[]⟩ (Value.ref (s1.heap.objs.size+1)::us) _ _ (J σ) (hr.make C us [])
  (I2.env0.make C us []) hb2 r2 hq) fun r s' hq'=>?_))
 cases r with
 | error e=>exact hx pins σ _ _ e s' I2 hq'
 | ok fl =>
  cases fl with
  | ret u =>
   obtain⟨v,H',I3,rv,ev,q3⟩:=I2.after hq';subst ev;exact⟨rv,⟨V.ref (s1.heap.objs.size+1),H',I3,rfl,q3⟩⟩
  | next=>exact False.elim hq'
  | brk=>exact False.elim hq'
  | cont=>exact False.elim hq'
end
def zL(c:FX):FX:=fun ds _ E=>c ds (fun _=>False) E
def spI(K:PySem.W.Frag)(c:FX):Sp:=fun vs H _ E=>∃x ws,vs=V.ref x::ws/\spX K c ws H (fun _ _=>False) E
section
variable {K:PySem.W.Frag}{c:FX}{C x dx:Addr}{H:Hp}{E:XK}{vs:List V}
theorem xf(hx:H x=none)(hd:H dx=none)(hn:dx≠x)(h:spX K (zL c) vs H (fun _ _=>False) E):spX K c vs (upd (upd H dx (.own x)) x (.ins C dx [])) (fun _ _=>False) E:=by
 obtain⟨O,ds,Qc,Ec,dom,fv,hq,k,kx⟩:=h;have g1:Gr H (upd H dx (.own x)):=Gr.new hd;have hx1:upd H dx (.own x) x=none:=by rw [ap (Ne.symm hn)];exact hx
 have g:Gr H (upd (upd H dx (.own x)) x (.ins C dx [])):=fun b o e=>Gr.new hx1 b o (g1 b o e)
 refine⟨O,ds,fun _=>False,Ec,fun b ob=>?_,fv.keeps fun b o no e=>⟨no,g b o e⟩,hq,fun _ z=>z.elim,fun d z ea dd H' g' n xr=>kx d z ea dd H' (fun b o e=>g' b o (g b o e)) ?_ xr⟩
 .cases e:H b with
  | none=>exact absurd e (dom b ob)
  | some o=>rw [g b o e];exact nofun
 .cases e:H ea with
  | none=>rfl
  | some o=>rw [g ea o e] at n;cases n
theorem zM{fs:List Nat}{ta:TA}{pa:PTA}{th:THd}{ph:PTH}(ha:LAs K ta pa)(hh:LH K fs th ph):LS K fs (Ei (fun J=>Ao (vL (xO C (spI K c) J ta)) x4) th) (B0 (zL c) pa ph):=fun fx A R H0 ρ σ H D D' hf r F q k1 k2 k3 k4=>by
 refine⟨fun σ' v dd H'=>∃ρ1 ea d,v=.ref ea/\σ'=σ/\Rel K A ρ1 σ H'/\dA fx R H0 ρ1 σ H'/\XR K (OO A ρ1 σ) H' ea dd d/\ph d D ρ1,?_,fun σ' ea dd H' ⟨ρ1,ea',d,ev,es,r1,F1,x1,q1⟩=>?_⟩
 .refine ha A ρ σ H _ _ r q fun vs H1 as ρ1 q1 f1 R1 o1=>?_
  split at q1
  .rename_i ds e;intro x dx hx hd hn;exact⟨x,vs,rfl,xf hx hd hn ⟨OO A ρ1 σ,ds,fun _=>False,_,R1.dom2,o1.avD e,q1,fun _ z=>z.elim,fun d qd ea dd H' g n x=>⟨ρ1,ea,d,rfl,rfl,R1.gr g,(F.fr f1).fr g.fr,x,qd⟩⟩⟩
  .exact q1.elim
 .cases ev;subst es;obtain⟨c,ns,ds,rfl,hea,fv⟩:=x1;exact⟨_,hea,hh fx A R H0 ρ1 σ' H' D D' ea dd c ns ds hf r1 F1 hea fv q1 k1 k2 k3 k4⟩
theorem zN{X:Cx}{st:List Stmt}:PSs X st xn:=fun _ _ _ _ _ _ h=>h.elim
theorem Em{Q:VK}(ln:∀ds Q E,c ds Q E->ds.length=1)(h:spI K c vs H Q E):vs.length=2:=by
 obtain⟨x,ws,rfl,O,ds,Qc,Ec,_,fv,hq,_⟩:=h;rw [length_cons,fv.length,ln _ _ _ hq]
theorem EH{Q:VK}{N:List Str}{D:sP}(ln:∀ds Q E,c ds Q E->ds.length=1)(h:spI K c vs H Q E):Ao (vL (u9 (spX K c) (fun _=>E) (bp (ck 1) fE))) xn D (start N vs) H:=by
 have hl:=Em ln h;obtain⟨x,ws,rfl,h⟩:=h;obtain⟨a,rfl⟩:∃a,ws=[a]:=match ws,hl with|[a],_=>⟨a,rfl⟩
 obtain⟨O,ds,Qc,Ec,dom,fv,hq,k,kx⟩:=h;exact⟨a,rfl,O,ds,Qc,Ec,dom,fv,hq,fun r z v H' g o=>(k r z v H' g o).elim,kx⟩
end
section
variable {P:Program}{w:World}{K:PySem.W.Frag}{mg:Str->Option Value}{base:Heap}{x qual:Str}{C:Addr}{st:Stmt}{N ps:List Str}{k:Nat}{sp:Sp}
theorem kt.okI(D:kt K mg C x qual st)(S:aM N ps (ai st))
  (hb:∀(kV doc pm:Value) (an:Option Addr) (cdv ct:Value) (us:List Value),us.length=ps.length->bindArgs (PySem.W.fnOf "__init__" qual (bM st) (bh st) (ai st) .none kV doc pm an cdv ct) ⟨us,[]⟩=pure (ps.zip us))
  (len:∀vs H Q E,sp vs H Q E->vs.length=ps.length)
  (hbody:∀(f:Addr) (cdv:Value) (A:Around) (outer:List Env) (s:Shared) (H:Hp) (vs:List V) (Q:VK) (E:XK),fh k (A.deeper (envOfC qual (ai st) s.heap.objs.size f cdv))->sp vs H Q E ->
   ∃t,PSs (mJ (CXe P w) P w K mg base N qual (ai st) f cdv A outer s H E) (bh st) t/\t { nx:=fun _ H'=>Q .non H',rt:=Q } (start N vs) H):xc P w K mg base (k+1) C x ps sp:=by
 obtain⟨f,fd,F,M,hm⟩:=D.ex;refine⟨f,fd,?_,F.binds hb,M,hm⟩;obtain⟨oc,od,kV,doc,pm,an,cdv,ct,osl,rfl,lk,hcd⟩:=F.ex;exact vV lk hcd S len fun A outer s H vs Q E hr hsp=>hbody f cdv A outer s H vs Q E hr hsp
end
section
open PySem.AutoSeq1 (wpAny_loadPart')
open PySem.MeetsSeq PySem.MeetsSeq2 PySem.MeetsSeq3
variable {P:Program}{w:World}{A:Around}
end
def D.noL1:D->Bool
 | .tup ds=>ds.all D.flat
 | d=>d.flat
def D.noL:D->Bool
 | .tup ds=>ds.all D.noL1
 | .dic _ ds=>ds.all D.flat
 | d=>d.flat
section
variable {K:PySem.W.Frag}{O O':Addr->Prop}{H H':Hp}{A:Addr->Prop}{ρ:PSt}{σ:St}
theorem FVs.flats:∀{vs:List V}{ds:List D},FVs K O H vs ds->ds.all D.flat=true->FVs K O' H' vs ds
 | _,_,.nil,_=>.nil
 | _,_,.cons a b,h=>by
  rw [all_cons,and_eq_true] at h;exact .cons (a.of_flat h.1) (b.flats h.2)
theorem FV.noL1{a:Addr}{xs:List V}{v:V}{d:D}(h:FV K O H v d)(n:d.noL1=true)(e:H a=some (.lst xs)):FV K (et O a) H v d:=by
 have ne:∀{t:Addr}{o:HO},H t=some o->(∀ys,o≠.lst ys)->t≠a:=fun {t o} h1 h2 z=>by rw [z,e] at h1;cases h1;exact h2 _ rfl
 cases h with
 | non=>exact .non
 | bl b=>exact .bl b
 | int i=>exact .int i
 | str l h=>exact .str l h
 | ty m=>exact .ty m
 | tup no e1 f=>exact .tup (fun z=>z.elim no (ne e1 nofun)) e1 (f.flats n)
 | dic _ _ _ _=>cases n
 | scr _=>cases n
 | lst _ _ _=>cases n
 | obj _ _ _ _=>cases n
 | exc0 _ _=>cases n
 | exc1 _ _ _ _ _ _=>cases n
theorem FVs.noL1{a:Addr}{xs:List V}:∀{vs:List V}{ds:List D},FVs K O H vs ds->ds.all D.noL1=true->H a=some (.lst xs)->FVs K (et O a) H vs ds
 | _,_,.nil,_,_=>.nil
 | _,_,.cons x y,h,e=>by
  rw [all_cons,and_eq_true] at h;exact .cons (x.noL1 h.1 e) (y.noL1 h.2 e)
theorem FV.noL{a:Addr}{xs:List V}{v:V}{d:D}(h:FV K O H v d)(n:d.noL=true)(e:H a=some (.lst xs)):FV K (et O a) H v d:=by
 have ne:∀{t:Addr}{o:HO},H t=some o->(∀ys,o≠.lst ys)->t≠a:=fun {t o} h1 h2 z=>by rw [z,e] at h1;cases h1;exact h2 _ rfl
 cases h with
 | non=>exact .non
 | bl b=>exact .bl b
 | int i=>exact .int i
 | str l h=>exact .str l h
 | ty m=>exact .ty m
 | tup no e1 f=>exact .tup (fun z=>z.elim no (ne e1 nofun)) e1 (f.noL1 n e)
 | dic no e1 m f=>exact .dic (fun z=>z.elim no (ne e1 nofun)) e1 m (f.flats n)
 | scr _=>cases n
 | lst _ _ _=>cases n
 | obj _ _ _ _=>cases n
 | exc0 _ _=>cases n
 | exc1 _ _ _ _ _ _=>cases n
theorem FVs.noL{a:Addr}{xs:List V}:∀{vs:List V}{ds:List D},FVs K O H vs ds->ds.all D.noL=true->H a=some (.lst xs)->FVs K (et O a) H vs ds
 | _,_,.nil,_,_=>.nil
 | _,_,.cons x y,h,e=>by
  rw [all_cons,and_eq_true] at h;exact .cons (x.noL h.1 e) (y.noL h.2 e)
end
section
variable {K:PySem.W.Frag}
def vn(c0:Str)(c:FR)(i:Nat):PTE:=fun ρ Q=>match ρ[i]? with
 | some (some (.own ds))=>c (.ins c0 [] []) [.lst ds] fun r p'=>(match r,p' with
  | .dat .non,.ins c1 ns es=>(c1=c0/\es.all D.noL=true)/\Q (.ins c1 ns es) ρ
  | _,_=>False)
 | _=>False
theorem xg{c0:Str}{c:FR}{i:Nat}:LE K (tG (aD K c0) (spR K c) [] E0 (bp (ck i) fE)) (vn c0 c i):=fun A ρ σ H Q Q' R q k=>by
 unfold vn at q
 split at q
 .rename_i ds e;have hi:i<ρ.length:=(List.getElem?_eq_some_iff.mp e).1;obtain⟨v,s,a,xs,rfl,ea,fx⟩:=R.get i _ e;obtain⟨R1,F1⟩:=R.frz e;obtain⟨v',s',fa⟩:=R1.get i _ (getElem?_set_self hi);rw [s] at s';cases s'
  have wr:∀b,Wr ρ σ b->Wr (ρ.set i (some (.dat (PV.own ds).d))) σ b\/b=a:=fun b ⟨j,p,h1,h2,h3⟩=>by
   by_cases z:j=i
   .subst z;rw [s] at h3;cases h3;exact .inr rfl
   .exact .inl ⟨j,p,by rw [getElem?_set_ne (fun y=>z y.symm)];exact h1,h2,h3⟩
  refine⟨.ref a,s,?_⟩;intro x dx hx hdx hne;rw [append_nil]
  let H2:=upd (upd H dx (.own x)) x (.ins (aD K c0) dx [])
  have g2:Gr H H2:=fun b o z=>by
   show upd (upd H dx (.own x)) x _ b=_;rw [ap (aH z hx),ap (aH z hdx)];exact z
  generalize hρ:ρ.set i (some (.dat (PV.own ds).d))=ρ1 at R1 F1 fa wr;have nx:¬ OO A ρ1 σ x:=R1.oo hx
  have keep2:aO (OO A ρ1 σ) H (et (OO A ρ1 σ) x) H2:=fun b o n z=>by
   refine⟨fun y=>?_,g2 b o z⟩
   rcases y with y|y
   .exact n y
   .rw [y,hx] at z;cases z
  refine⟨OO A ρ1 σ,x,.ins c0 [] [],[.ref a],[.lst ds],_,rfl,rfl,fun b z=>(g2.fr (ρ:=ρ1) (σ:=σ)).dm b (R1.dom2 b z),nx,⟨x,dx,[],rfl,ay,rfl,.nil⟩,(FVs.cons (show FV K (OO A ρ1 σ) H (.ref a) (.lst ds) from fa) .nil).keeps keep2,q,fun r p' qr ow' v H' kp ha rs ov _=>?_⟩
  split at qr
  .obtain⟨⟨rfl,nl⟩,qr⟩:=qr;cases ov;refine⟨rfl,?_⟩;obtain⟨a',dx',fs,ea',e2,m,f⟩:=rs;cases ea';have g:Gr H H':=fun b o z=>kp b o (aH z hx) (g2 b o z);refine k _ H' _ ρ qr g.fr ⟨x,dx',fs,rfl,fun z=>R.oo hx (.inl z),hx,e2,m,R.grA g hx (by rw [e2];exact nofun),(f.noL nl (g _ _ ea)).keeps (aO.less fun b z=>?_)⟩
   rcases z with (z|z)|z
   .exact .inl (.inl (.inl z))
   .exact .inl (.inr z)
   .exact (wr b z).elim (fun y=>.inl (.inl (.inr y))) .inr
  .exact qr.elim
 .exact q.elim
end
def DO(i:Nat)(pe:PTE):PTE:=fun ρ Q=>match ρ[i]? with
 | some (some (.own _))=>pe ρ fun p ρ1=>(match ρ1[i]?,p.d with
  | some (some (.own ds)),.lst es=>ds.length+es.length<=1000000/\Q (.dat .non) (ρ1.set i (some (.own (ds++es))))
  | _,_=>False)
 | _=>False
section
variable {K:PySem.W.Frag}{te:TE}{pe:PTE}
theorem Cb{i:Nat}(h:LE K te pe):LE K (tBM K "list" tO (ck i) (bp te fE)) (DO i pe):=fun A ρ σ H Q Q' R q k=>by
 unfold DO at q
 split at q
 .rename_i ds0 e0;obtain⟨a0,xs0,s0,g0,f0⟩:=R.ownAt e0;refine⟨_,s0,.inl ⟨rfl,xs0,SqL.of g0⟩,h A ρ σ H _ _ R q fun v H1 p ρ1 q1 f1 o1=>?_⟩;obtain⟨R1,fv⟩:=o1.frz
  split at q1
  .rename_i ds es e1 e2;rw [e2] at fv;obtain⟨a,xs,s,g,f⟩:=R1.ownAt e1;rw [s0] at s;cases s
   cases fv with
   | lst no ez fz =>
    obtain⟨R2,f2⟩:=R1.lstw e1 s0 (f.append fz);exact⟨a0,_,xs,_,rfl,rfl,g,ez,le_trans (by rw [f.length,fz.length];exact q1.1) (sz _ (le_refl _)),k _ _ _ _ q1.2 (f1.trans f2) ⟨R2,.non⟩⟩
  .exact q1.elim
 .exact q.elim
end
section
variable {K:PySem.W.Frag}{A O O':Addr->Prop}{fx:List (Nat×V)}{R:Addr->Prop}{H0 H0' H H':Hp}{ρ ρ':PSt}{σ:St}{x:Nat}{Da:Addr}{as:List Addr}{rows:List (List D)}
def cl(x:Nat)(ρ:PSt):Option (List (List D))->PSt
 | none=>ρ
 | some rows=>ρ.set x (some (.own (rows.map D.lst)))
theorem vo(x:Nat)(ρ:PSt):cl x ρ none=ρ:=rfl
theorem vp(x:Nat)(ρ:PSt)(rows:List (List D)):cl x ρ (some rows)=ρ.set x (some (.own (rows.map D.lst))):=rfl
end
section
variable {K:PySem.W.Frag}{A:Addr->Prop}{fx:List (Nat×V)}{R:Addr->Prop}{H0 H:Hp}{ρ:PSt}{σ:St}
def mvd(ρ:PSt)(g r:Nat)(ds:List D):PSt:=(ρ.set r (some (.own ds))).set g none
theorem xP(ρ:PSt)(g r:Nat)(ds:List D):mvd ρ g r ds=(ρ.set r (some (.own ds))).set g none:=rfl
end
def iJ(a b:List Nat):Bool:=mj a b || mj a.reverse b
theorem nI{a b:List Nat}:iJ a b=true ↔ a <:+: b\/a.reverse <:+: b:=by
 unfold iJ;rw [or_eq_true,o0,o0]
theorem vq(a:List Nat):iJ a a=true:=nI.mpr (.inl (infix_refl _))
theorem mq{a b c:List Nat}(h1:iJ a b=true)(h2:iJ b c=true):iJ a c=true:=by
 rw [nI] at h1 h2 ⊢
 rcases h1 with h1|h1 <;> rcases h2 with h2|h2
 .exact .inl (h1.trans h2)
 .exact .inr ((reverse_infix.mpr h1).trans h2)
 .exact .inr (h1.trans h2)
 .refine .inl (List.IsInfix.trans ?_ h2);have:=reverse_infix.mpr h1
  rwa [reverse_reverse] at this
def o7(ps:List (List Nat))(i:Nat):Bool:=decide (pw ps i∈ps.take i) || decide ((pw ps i).reverse∈ps.take i)
def gO(ps:List (List Nat))(i:Nat):Bool:=!o7 ps i && !(ps.filter fun o=>decide ((pw ps i).length<o.length)).any fun o=>iJ (pw ps i) o
theorem iX{ps:List (List Nat)}{i:Nat}:gO ps i=true ↔ o7 ps i=false/\∀o∈ps,(pw ps i).length<o.length->iJ (pw ps i) o=false:=by
 unfold gO;rw [and_eq_true,Bool.not_eq_true',Bool.not_eq_true',any_eq_false]
 constructor
 .rintro⟨h1,h2⟩;refine⟨h1,fun o ho hl=>?_⟩;have:=h2 o (mem_filter.mpr ⟨ho,decide_eq_true hl⟩);simpa using this
 .rintro⟨h1,h2⟩;refine⟨h1,fun o ho=>?_⟩;obtain⟨m1,m2⟩:=mem_filter.mp ho;rw [h2 o m1 (of_decide_eq_true m2)];decide
theorem vt{ps:List (List Nat)}{i:Nat}{w:List Nat}(hi:i<ps.length)(h:w∈ps.take i):∃i',i'<i/\pw ps i'=w:=by
 obtain⟨i',hi'⟩:=mem_iff_getElem?.mp h
 have hlt:i'<i:=by
  have:=(List.getElem?_eq_some_iff.mp hi').1;rw [length_take] at this;omega
 refine⟨i',hlt,?_⟩;rw [getElem?_take,if_pos hlt] at hi';have:=ie (ws:=ps) (k:=i') (by omega);rw [hi'] at this;exact (Option.some.inj this).symm
theorem sw{ps:List (List Nat)}(hw:∀w∈ps,w.length<=60):∀(m i:Nat),i<ps.length->(61 - (pw ps i).length)*(ps.length+1)+i<=m->∃j,j<ps.length/\gO ps j=true/\iJ (pw ps i) (pw ps j)=true:=by
 intro m
 induction m with
 | zero =>
  intro i hi h;have hl:=hw _ (mem_of_getElem? (ie hi));have:0<(61 - (pw ps i).length)*(ps.length+1):=mul_pos (by omega) (by omega);omega
 | succ m ih =>
  intro i hi h;have hl:=hw _ (mem_of_getElem? (ie hi))
  by_cases hk:gO ps i=true
  .exact⟨i,hi,hk,vq _⟩
  .cases h1:o7 ps i with
   | true =>
    unfold o7 at h1;rw [or_eq_true,decide_eq_true_eq,decide_eq_true_eq] at h1
    rcases h1 with h1|h1
    .obtain⟨i',hlt,he⟩:=vt hi h1;obtain⟨j,a1,a2,a3⟩:=ih i' (by omega) (by rw [he];omega);exact⟨j,a1,a2,by rw [<- he];exact a3⟩
    .obtain⟨i',hlt,he⟩:=vt hi h1;obtain⟨j,a1,a2,a3⟩:=ih i' (by omega) (by rw [he,length_reverse];omega);rw [he] at a3;exact⟨j,a1,a2,mq (nI.mpr (.inr (infix_refl _))) a3⟩
   | false =>
    have h2:∃o∈ps,(pw ps i).length<o.length/\iJ (pw ps i) o=true:=by
     apply Classical.byContradiction;intro z;refine hk (iX.mpr ⟨h1,fun o ho hlo=>?_⟩)
     cases hs:iJ (pw ps i) o with
     | false=>rfl
     | true=>exact absurd ⟨o,ho,hlo,hs⟩ z
    obtain⟨o,ho,hlo,hs⟩:=h2;obtain⟨i',hi'⟩:=mem_iff_getElem?.mp ho;have hlt:i'<ps.length:=(List.getElem?_eq_some_iff.mp hi').1
    have he:pw ps i'=o:=by
     have:=ie hlt;rw [hi'] at this;exact (Option.some.inj this).symm
    have hm:(61 - o.length+1)*(ps.length+1)<=(61 - (pw ps i).length)*(ps.length+1):=mul_le_mul_right _ (by have:=hw o ho;omega);rw [add_mul,one_mul] at hm;obtain⟨j,a1,a2,a3⟩:=ih i' hlt (by rw [he];omega);rw [he] at a3;exact⟨j,a1,a2,mq hs a3⟩
def bi(ps:List (List Nat)):List Nat:=(List.range ps.length).filter (gO ps)
def kK(ps:List (List Nat)):List Nat:=(List.range ps.length).filter fun i=>!decide (i∈bi ps)
def cL(ps:List (List Nat)):List (List Nat):=(bi ps).map (pw ps)
theorem dD{ps:List (List Nat)}{i:Nat}(h:i∈bi ps):i<ps.length:=mem_range.mp (mem_filter.mp h).1
theorem eH(ps:List (List Nat)):(bi ps).length<=ps.length:=le_trans (length_filter_le ..) (by rw [length_range];omega)
theorem o8{m:Nat}{ps:List (List Nat)}(h:Pcs m ps):Pcs m (cL ps):=fun w hw=>by
 obtain⟨i,hi,rfl⟩:=mem_map.mp hw;exact h _ (gk (dD hi))
theorem o9(ps:List (List Nat)):(cL ps).length<=ps.length:=by unfold cL;rw [length_map];exact eH ps
def dJ(ps:List (List Nat))(i:Nat):List Nat:=(bi ps).filter fun j=>iJ (pw ps i) (pw ps j)
def dE(ps:List (List Nat))(i:Nat):Nat:=(dJ ps i).headD 0
theorem sx{ps:List (List Nat)}{i m:Nat}(hm:m∈dJ ps i)(hle:∀a∈dJ ps i,m<=a):dE ps i=m:=wT (((pairwise_lt_range).filter _).filter _) hm hle
theorem kL{ps:List (List Nat)}(hw:∀w∈ps,w.length<=60){i:Nat}(hi:i<ps.length):∃j,j∈dJ ps i:=by
 obtain⟨j,h1,h2,h3⟩:=sw hw _ i hi (le_refl _);exact⟨j,mem_filter.mpr ⟨mem_filter.mpr ⟨mem_range.mpr h1,h2⟩,h3⟩⟩
def xh(ps:List (List Nat))(i:Nat):Nat:=if mj (pw ps i) (pw ps (dE ps i))=true then 0 else 1
def trn(w:List Nat)(k:Nat):List Nat:=if k=1 then w.reverse else w
def cA(ps:List (List Nat))(i:Nat):D:=.tup [.int (i:Int),.int (dE ps i:Int),.int (fnd (pw ps (dE ps i)) (trn (pw ps i) (xh ps i)) 0),.int (xh ps i:Int)]
def cj(ws:List (List Nat)):List (List Nat):=ws.flatMap fun w=>[w,w.reverse]
def xQ(ps:List (List Nat)):Int:=((cL ps).map fun w=>(w.length:Int)).sum
def vw:List Str:=["pieces","kept","words","left","states","laps","total"]
def qi(ps:List (List Nat)):List D:=[.tup (ps.map .str),.tup ((bi ps).map nD),.tup ((cL ps).map .str),.tup ((kK ps).map (cA ps)),.tup ((cj (cL ps)).map .str),BK (cj (cL ps)),.int (xQ ps)]
def Cv(ps:List (List Nat)):D:=.obj "Turnable" vw (qi ps)
theorem eI:∀ws:List (List Nat),(cj ws).length=2*ws.length
 | []=>rfl
 | w::r=>by
  have:=eI r;unfold cj at this ⊢;rw [flatMap_cons,length_append,this,length_cons];show 2+_=2*(r.length+1);omega
theorem kM(u v:List (List Nat)):cj (u++v)=cj u++cj v:=by unfold cj;rw [flatMap_append]
theorem qj{ws:List (List Nat)}{s:List Nat}(h:s∈cj ws):∃w∈ws,s=w\/s=w.reverse:=by
 obtain⟨w,hw,h⟩:=mem_flatMap.mp h;refine⟨w,hw,?_⟩;simpa using h
theorem kN{m:Nat}{ws:List (List Nat)}(h:Pcs m ws):Pcs m (cj ws):=fun s hs=>by
 obtain⟨w,hw,e⟩:=qj hs;have g:=h w hw
 rcases e with rfl|rfl
 .exact g
 .exact⟨by rw [length_reverse];exact g.1,by rw [length_reverse];exact g.2.1,fun c hc=>g.2.2 c (mem_reverse.mp hc)⟩
theorem jr{α:Type}(f:α->D)(h:∀x,D.noL1 (f x)=true)(xs:List α):D.noL (.tup (xs.map f))=true:=by
 show (xs.map f).all D.noL1=true;rw [all_map];exact all_eq_true.mpr fun x _=>h x
theorem xi{α:Type}(f:α->D)(h:∀x,D.flat (f x)=true)(xs:List α):D.noL1 (.tup (xs.map f))=true:=by
 show (xs.map f).all D.flat=true;rw [all_map];exact all_eq_true.mpr fun x _=>h x
theorem vx(ws:List (List Nat)):(qi ws).all D.noL=true:=by
 unfold qi;simp only [all_cons,all_nil,Bool.and_true,and_eq_true];refine⟨jr _ (fun _=>rfl) _,jr _ (fun _=>rfl) _,jr _ (fun _=>rfl) _,jr _ (fun _=>rfl) _,jr _ (fun _=>rfl) _,jr _ (fun _=>xi _ (fun _=>rfl) _) _,rfl⟩
end L2
namespace K48
open PySem PySem.Spec PyProof.Rows L2
def top(i:Nat):Stmt:=PySem.Challenge.pw_shortglue_k48_turnable.main.body.getD i (.Pass ⟨0,0,0,0⟩)
abbrev fA:Stmt:=top 14
abbrev fN:Stmt:=top 15
abbrev zO:Stmt:=top 8
abbrev js:Stmt:=top 9
abbrev fc:Stmt:=top 17
abbrev eJ:Stmt:=top 18
abbrev nJ:Stmt:=top 20
abbrev kO:Stmt:=top 21
abbrev dF:Stmt:=top 22
abbrev dw:Stmt:=top 23
abbrev eL:Stmt:=top 24
abbrev bA:Stmt:=ji (top 25) 0
abbrev bO:Stmt:=ji (top 25) 1
abbrev gP:Stmt:=top 27
abbrev jt:Stmt:=top 28
abbrev ju:Stmt:=top 29
abbrev jw:Stmt:=top 30
abbrev kP:Stmt:=top 31
abbrev jx:Stmt:=top 32
abbrev gQ:Stmt:=top 33
abbrev kQ:Stmt:=top 34
abbrev fO:Stmt:=top 35
abbrev jy:Stmt:=top 36
abbrev iE:Stmt:=top 37
abbrev gR:Stmt:=top 38
abbrev jA:Stmt:=top 39
abbrev fP:Stmt:=top 40
abbrev jB:Stmt:=top 41
abbrev jC:Stmt:=top 42
abbrev gS:Stmt:=top 43
abbrev fQ:Stmt:=top 44
abbrev xj:Stmt:=top 45
theorem sy:aM ["thing","least","most"] ["thing","least","most"] (ai fA):=⟨rfl,rfl,rfl,by decide +kernel,rfl,by decide +kernel,by decide +kernel⟩
theorem lJ:aM ["text","piece"] ["text","piece"] (ai fN):=⟨rfl,rfl,rfl,by decide +kernel,rfl,by decide +kernel,by decide +kernel⟩
theorem xR:aM ["one","other","k"] ["one","other"] (ai zO):=⟨rfl,rfl,rfl,by decide +kernel,rfl,by decide +kernel,by decide +kernel⟩
theorem qk:aM ["words"] ["words"] (ai js):=⟨rfl,rfl,rfl,by decide +kernel,rfl,by decide +kernel,by decide +kernel⟩
theorem eM:aM ["things","at","thing"] ["things"] (ai fc):=⟨rfl,rfl,rfl,by decide +kernel,rfl,by decide +kernel,by decide +kernel⟩
theorem jT:aM ["piece","other"] ["piece","other"] (ai eJ):=⟨rfl,rfl,rfl,by decide +kernel,rfl,by decide +kernel,by decide +kernel⟩
theorem vy:aM ["text"] ["text"] (ai nJ):=⟨rfl,rfl,rfl,by decide +kernel,rfl,by decide +kernel,by decide +kernel⟩
theorem sA:aM ["text","way"] ["text","way"] (ai kO):=⟨rfl,rfl,rfl,by decide +kernel,rfl,by decide +kernel,by decide +kernel⟩
theorem iY:aM ["piece","other"] ["piece","other"] (ai dF):=⟨rfl,rfl,rfl,by decide +kernel,rfl,by decide +kernel,by decide +kernel⟩
theorem eN:aM ["pieces","at","piece"] ["pieces","at"] (ai dw):=⟨rfl,rfl,rfl,by decide +kernel,rfl,by decide +kernel,by decide +kernel⟩
theorem cZ:aM ["pieces","kept","at","piece","holder","way"] ["pieces","kept","at"] (ai eL):=⟨rfl,rfl,rfl,by decide +kernel,rfl,by decide +kernel,by decide +kernel⟩
theorem dW:aM ["self","pieces","indexes"] ["self","pieces"] (ai bA):=⟨rfl,rfl,rfl,by decide +kernel,rfl,by decide +kernel,by decide +kernel⟩
theorem jU:aM ["self"] ["self"] (ai bO):=⟨rfl,rfl,rfl,by decide +kernel,rfl,by decide +kernel,by decide +kernel⟩
theorem fR:aM ["_law_script","_law_k","_law_cell"] ["_law_script","_law_k"] (ai gP):=⟨rfl,rfl,rfl,by decide +kernel,rfl,by decide +kernel,by decide +kernel⟩
theorem kR:aM ["_law_stream_here","_law_many","_law_digit"] ["_law_stream_here","_law_many"] (ai jt):=⟨rfl,rfl,rfl,by decide +kernel,rfl,by decide +kernel,by decide +kernel⟩
theorem ql:aM ["_law_stream_here","_law_letters","_law_most"] ["_law_stream_here","_law_letters","_law_most"] (ai ju):=⟨rfl,rfl,rfl,by decide +kernel,rfl,by decide +kernel,by decide +kernel⟩
theorem fS:aM ["_law_text","_law_found","_law_sign"] ["_law_text"] (ai jw):=⟨rfl,rfl,rfl,by decide +kernel,rfl,by decide +kernel,by decide +kernel⟩
theorem mr:aM ["_law_stream_here","_law_text","_law_most","_law_at"] ["_law_stream_here","_law_text","_law_most"] (ai kP):=⟨rfl,rfl,rfl,by decide +kernel,rfl,by decide +kernel,by decide +kernel⟩
theorem fT:aM ["_law_stream_here","_law_most","_law_letters","_law_base_here"] ["_law_stream_here","_law_most"] (ai jx):=⟨rfl,rfl,rfl,by decide +kernel,rfl,by decide +kernel,by decide +kernel⟩
theorem a8:aM ["_law_stream_here","_law_many","_law_most","_law_letters","_law_base_here","_law_found","_law_k","_law_way","_law_piece"] ["_law_stream_here","_law_many","_law_most"] (ai gQ):=⟨rfl,rfl,rfl,by decide +kernel,rfl,by decide +kernel,by decide +kernel⟩
theorem ms:aM ["_law_one","_law_other","_law_k"] ["_law_one","_law_other"] (ai kQ):=⟨rfl,rfl,rfl,by decide +kernel,rfl,by decide +kernel,by decide +kernel⟩
theorem dL:aM ["_law_pieces_here","_law_k","_law_piece","_law_back_here","_law_other"] ["_law_pieces_here","_law_k"] (ai fO):=⟨rfl,rfl,rfl,by decide +kernel,rfl,by decide +kernel,by decide +kernel⟩
theorem qm:aM ["_law_pieces_here"] ["_law_pieces_here"] (ai jy):=⟨rfl,rfl,rfl,by decide +kernel,rfl,by decide +kernel,by decide +kernel⟩
theorem pd:aM ["_law_found"] ["_law_found"] (ai iE):=⟨rfl,rfl,rfl,by decide +kernel,rfl,by decide +kernel,by decide +kernel⟩
theorem fU:aM ["_law_words","_law_found","_law_word_here"] ["_law_words"] (ai gR):=⟨rfl,rfl,rfl,by decide +kernel,rfl,by decide +kernel,by decide +kernel⟩
theorem dG:aM ["_law_pieces_here","_law_kept_here","_law_rows_here","_law_k","_law_ways","_law_holder","_law_way"] ["_law_pieces_here","_law_kept_here"] (ai jA):=⟨rfl,rfl,rfl,by decide +kernel,rfl,by decide +kernel,by decide +kernel⟩
theorem fe:aM ["_law_found","_law_due","_law_number","_law_other"] ["_law_found","_law_due"] (ai fP):=⟨rfl,rfl,rfl,by decide +kernel,rfl,by decide +kernel,by decide +kernel⟩
theorem iF:aM ["_law_found","_law_due","_law_row","_law_other"] ["_law_found","_law_due"] (ai jB):=⟨rfl,rfl,rfl,by decide +kernel,rfl,by decide +kernel,by decide +kernel⟩
theorem eO:aM ["_law_turnable","_law_pieces_here","_law_kept_here","_law_words","_law_states_here","_law_total"] ["_law_turnable","_law_pieces_here"] (ai jC):=⟨rfl,rfl,rfl,by decide +kernel,rfl,by decide +kernel,by decide +kernel⟩
theorem d5:aM ["_law_pieces_here","_law_caught_here","error"] ["_law_pieces_here"] (ai gS):=⟨rfl,rfl,rfl,by decide +kernel,rfl,by decide +kernel,by decide +kernel⟩
theorem bI:aM ["_law_stream_here","_law_pieces_here","_law_things","_law_at","_law_bent","_law_found"] ["_law_stream_here","_law_pieces_here"] (ai fQ):=⟨rfl,rfl,rfl,by decide +kernel,rfl,by decide +kernel,by decide +kernel⟩
theorem gn:aM ["_law_script","_law_held","_law_k","_law_stream_here","_law_sizes","_law_pieces_here","_law_handed","_law_turnable","_law_text"] ["_law_script"] (ai xj):=⟨rfl,rfl,rfl,by decide +kernel,rfl,by decide +kernel,by decide +kernel⟩
structure Txt (mg:Str->Option Value):Prop where
 b_ValueError:mg "ValueError"=none
 b_abs:mg "abs"=none
 b_all:mg "all"=none
 b_any:mg "any"=none
 b_bool:mg "bool"=none
 b_enumerate:mg "enumerate"=none
 b_int:mg "int"=none
 b_isinstance:mg "isinstance"=none
 b_len:mg "len"=none
 b_list:mg "list"=none
 b_max:mg "max"=none
 b_min:mg "min"=none
 b_range:mg "range"=none
 b_str:mg "str"=none
 b_sum:mg "sum"=none
 b_tuple:mg "tuple"=none
 b_zip:mg "zip"=none
 g_MOST_PIECES:∃t,mg "MOST_PIECES"=some (.int 40 t)
 g_MOST_SIGNS:∃t,mg "MOST_SIGNS"=some (.int 60 t)
abbrev cU:Stmt:=ji (top 2) 0
theorem kS:aM ["self","most"] ["self","most"] (ai cU):=⟨rfl,rfl,rfl,by decide +kernel,rfl,by decide +kernel,by decide +kernel⟩
abbrev cW:Stmt:=ji (top 3) 0
theorem kT:aM ["self","at"] ["self","at"] (ai cW):=⟨rfl,rfl,rfl,by decide +kernel,rfl,by decide +kernel,by decide +kernel⟩
abbrev cX:Stmt:=ji (top 5) 0
theorem kU:aM ["self","at"] ["self","at"] (ai cX):=⟨rfl,rfl,rfl,by decide +kernel,rfl,by decide +kernel,by decide +kernel⟩
abbrev cG:Stmt:=ji (top 6) 0
theorem jV:aM ["self","at"] ["self","at"] (ai cG):=⟨rfl,rfl,rfl,by decide +kernel,rfl,by decide +kernel,by decide +kernel⟩
abbrev xcs:List Str:=["TooMany","NoPiece","NoOrder","NotHeld","NotApart"]
abbrev Ab:List (Str×Str):=[("TooMany","most"),("NoPiece","at"),("NotHeld","at"),("NotApart","at")]
structure TxX (K:PySem.W.Frag) (mg:Str->Option Value):Prop where
 all:vG K xcs
 at_:∀c g,(c,g)∈Ab->PySem.W.findIn K (.ref (aD K c)) g=some none
 m_TooMany:mg "TooMany"=some (.ref (aD K "TooMany"))
 m_NoPiece:mg "NoPiece"=some (.ref (aD K "NoPiece"))
 m_NoOrder:mg "NoOrder"=some (.ref (aD K "NoOrder"))
 m_NotHeld:mg "NotHeld"=some (.ref (aD K "NotHeld"))
 m_NotApart:mg "NotApart"=some (.ref (aD K "NotApart"))
 m_GlueError:mg "GlueError"=some (.ref (aD K "GlueError"))
 d_TooMany:XD K (aD K "TooMany")
 d_NoPiece:XD K (aD K "NoPiece")
 d_NoOrder:XD K (aD K "NoOrder")
 d_NotHeld:XD K (aD K "NotHeld")
 d_NotApart:XD K (aD K "NotApart")
 d_GlueError:XD K (aD K "GlueError")
 z_NoOrder:X0 K (aD K "NoOrder")
 kp_NoOrder:PySem.W.keepIn K (.ref (aD K "NoOrder"))=true
structure TxC (K:PySem.W.Frag):Prop where
 cl_Turnable:Cls K (aD K "Turnable")
 n_Turnable_pieces:eB K (aD K "Turnable") "pieces"
 n_Turnable_kept:eB K (aD K "Turnable") "kept"
 n_Turnable_words:eB K (aD K "Turnable") "words"
 n_Turnable_left:eB K (aD K "Turnable") "left"
 n_Turnable_states:eB K (aD K "Turnable") "states"
 n_Turnable_laps:eB K (aD K "Turnable") "laps"
 n_Turnable_total:eB K (aD K "Turnable") "total"
local macro_rules | `(tactic| walk_at "s")=>`(tactic| first | (with_reducible omega) | (with_reducible assumption) | (with_reducible rfl) | exact le_of_ble_eq_true rfl | (simp only [length_cons,length_nil,length_append,length_map];(with_reducible omega)) | assumption | rfl | (refine ⟨?_,?_⟩ <;> first | (with_reducible omega) | (with_reducible assumption) | (with_reducible rfl) | exact le_of_ble_eq_true rfl | assumption | rfl | (refine ⟨?_,?_⟩ <;> first | (with_reducible omega) | (with_reducible assumption) | (with_reducible rfl) | exact le_of_ble_eq_true rfl | assumption | rfl | (refine ⟨?_,?_⟩ <;> first | (with_reducible omega) | (with_reducible assumption) | (with_reducible rfl) | exact le_of_ble_eq_true rfl | assumption | rfl | fail) | fail) | fail) | omega | fail)
local macro_rules | `(tactic| walk_at "r")=>`(tactic| ((try dsimp only [set_cons_zero,set_cons_succ,ve,vf,vg,B4,B5,oX,ml,mn,rz,rA,tail_cons,oY,oZ,rB,vo,vp,xP]);(conv=>whnf);(repeat (first | ((with_reducible refine And.intro ?_ ?_);(next=>walk_at "s");(conv=>whnf)) | ((with_reducible refine (show Exists _ from ?_));(first | (refine ⟨_,rfl,?_⟩) | (refine ⟨_,rn.lst _,?_⟩) | (refine ⟨_,rn.tup _,?_⟩));(conv=>whnf)) | ((refine (show ic _ _ _ from ?_));(first | (with_reducible refine Ew (by assumption) ?_) | (with_reducible refine Ex (by assumption) ?_) | (with_reducible refine C4 (by assumption) ?_) | (with_reducible refine C5 (by assumption) ?_) | ((with_reducible refine C1 ?_ ?_);(next=>(first | (with_reducible rfl) | (with_reducible assumption) | (with_reducible omega)))) | ((with_reducible refine C3 ?_ ?_);(next=>(first | (with_reducible rfl) | (with_reducible assumption) | (with_reducible omega)))) | ((with_reducible refine A8 ?_ ?_);(next=>(first | (with_reducible rfl) | (with_reducible assumption) | (with_reducible omega)))) | ((with_reducible refine A9 ?_ ?_);(next=>(first | (with_reducible rfl) | (with_reducible assumption) | (with_reducible omega)))));(conv=>whnf))));(try refine (show ic _ _ _ from ?_));(try dsimp only [set_cons_zero,set_cons_succ,ve,vf,vg,B4,B5,oX,ml,mn,rz,rA,tail_cons,oY,oZ,rB,vo,vp,xP])))
def stv(s:Int×Int):PV:=.own [.int s.1,.int s.2]
def SOk:Int×Int->Prop
 | (a,b)=>0<=a/\0<=b/\b < 2 ^ 60
def mw:Nat:=3
def cI:FN
 | [d,.int a,.int b],Q=>d.sort=true/\wF d<=1000000/\Q (.dat (.bl (p9 d a b)))
 | _,_=>False
def ii:Nat:=2
def aU:FN
 | [.str a,.str b],Q=>Q (.dat (.int (fnd a b 0)))
 | _,_=>False
def xS:Nat:=3
def gp:FN
 | [.str a,.str b],Q=>(0<a.length/\a.length<=10000)/\(0<b.length/\b.length<=10000)/\Q (.dat (.int (nr a b:Int)))
 | _,_=>False
def kW:Nat:=1
def bV:FN
 | [.tup ds],Q=>∃ws:List (List Nat),ds=ws.map .str/\(ws.length<=1000/\∀w∈ws,0<w.length/\w.length<=10000)/\Q (.dat (BK ws))
 | _,_=>False
def gU:Nat:=3
def vz(ds:List D)(k:Nat):Prop:=k<ds.length/\(∀j,j<k->p9 (itD ds j) 1 60=true)/\p9 (itD ds k) 1 60=false
def Cc(ds:List D):Prop:=ds.length<=1000/\∀x∈ds,x.sort=true/\wF x<=1000000
def aI:FX
 | [d],Q,E=>∃ds:List D,rn d ds/\Cc ds/\(40<ds.length->E (.exc "TooMany" ["most"] [.int 40]))/\(ds.length<=40->(∀k:Nat,vz ds k->E (.exc "NoPiece" ["at"] [.int k]))/\((∀k,k<ds.length->p9 (itD ds k) 1 60=true)->Q (.dat .non)))
 | _,_,_=>False
def gq:Nat:=2
def aF:FN
 | [.str a,.str b],Q=>Q (.dat (.bl (mj a b)))
 | _,_=>False
def pq:Nat:=1
def bb:FN
 | [.str l],Q=>l.length<=10000/\Q (.dat (.str l.reverse))
 | _,_=>False
def mx:Nat:=2
def bC:FN
 | [.str l,.int w],Q=>l.length<=10000/\Q (.dat (.str (if w=1 then l.reverse else l)))
 | _,_=>False
def eW:Nat:=2
def aA:FN
 | [.str a,.str b],Q=>a.length<=10000/\Q (.dat (.bl (iJ a b)))
 | _,_=>False
def eP:Nat:=3
def aJ:FN
 | [.tup ds,.int i],Q=>∃ws:List (List Nat),ds=ws.map .str/\(ws.length<=1000/\∀w∈ws,w.length<=10000)/\(0<=i/\i<(ws.length:Int))/\Q (.dat (.bl (gO ws i.toNat)))
 | _,_=>False
def gu:Nat:=6
def aS:FN
 | [.tup ds,.tup ks,.int i],Q=>∃ws:List (List Nat),ds=ws.map .str/\ks=(bi ws).map nD/\(ws.length<=1000/\∀w∈ws,w.length<=60)/\(0<=i/\i<(ws.length:Int))/\Q (.dat (cA ws i.toNat))
 | _,_=>False
def gv:Nat:=3
def aT:FR
 | .ins "Turnable" [] [],[d],Q=>∃ws:List (List Nat),rn d (ws.map .str)/\(ws.length<=40/\Pcs 60 ws)/\Q (.dat .non) (.ins "Turnable" vw (qi ws))
 | _,_,_=>False
def gw:Nat:=1
def aP:FN
 | [.obj c ns fs],Q=>c="Turnable"/\ns=vw/\∃ws:List (List Nat),fs=qi ws/\Q (.dat (.int ((cL ws).length:Int)))
 | _,_=>False
def iZ:Nat:=3
def bu:FN
 | [.scr ns,.int k],Q=>(0<=k/\k<=1000/\ns.length<=1000)/\∀s:Int×Int,SOk s->Q (stv s)
 | _,_=>False
def kX:Nat:=3
def au:FR
 | .own [.int c0,.int c1],[.int m],Q=>SOk (c0,c1)/\0<m/\m<=1000000/\∀(x:Int) (s:Int×Int),SOk s->0<=x->x<m->Q (.dat (.int x)) (stv s)
 | _,_,_=>False
def kY:Nat:=3
def bn:FR
 | .own [.int c0,.int c1],[.str ls,.int m],Q=>SOk (c0,c1)/\(0<ls.length/\ls.length<=26/\Lts ls)/\(0<m/\m<=10000)/\∀(w:List Nat) (s:Int×Int),SOk s->0<w.length->w.length<=m.toNat->Lts w->Q (.dat (.str w)) (stv s)
 | _,_,_=>False
def kZ:Nat:=3
def aG:FN
 | [.str l],Q=>l.length<=10000/\Q (.dat (.str l.reverse))
 | _,_=>False
def my:Nat:=4
def cv:FR
 | .own [.int c0,.int c1],[.str t,.int m],Q=>SOk (c0,c1)/\(0<t.length/\t.length<=100000/\Lts t)/\(0<m/\m<=10000)/\∀(w:List Nat) (s:Int×Int),SOk s->0<w.length->w.length<=m.toNat->Lts w->Q (.dat (.str w)) (stv s)
 | _,_,_=>False
def k6:Nat:=4
def cr:FR
 | .own [.int c0,.int c1],[.int m],Q=>SOk (c0,c1)/\(0<m/\m<=100)/\∀(ls b:List Nat) (s:Int×Int),SOk s->(0<ls.length/\ls.length<=26/\Lts ls)->(0<b.length/\b.length<=100000/\Lts b)->Q (.dat (.tup [.str ls,.str b])) (stv s)
 | _,_,_=>False
def i6:Nat:=9
theorem qo{ws:List (List Nat)}(h:∀w∈ws,Lts w):vF (.lst (ws.map .str)) (.lst []):=vF.of (Sh.lstS h) (Sh.lstI [])
theorem pz(ws:List (List Nat)):deq (.lst (ws.map .str)) (.lst [])=decide (ws=[]):=by
 show PyData.eqv (.list (D.pys (ws.map .str))) (.list [])=_;rw [ng];cases ws <;> simp [PyData.eqv,PyData.eqvAll]
theorem vA{l:List Nat}(h:Lts l):Lts l.reverse:=fun c hc=>h c (mem_reverse.mp hc)
def bF:FR
 | .own [.int c0,.int c1],[.int n,.int m],Q=>SOk (c0,c1)/\(0<=n/\n<=100/\0<m/\m<=60)/\∀(ps:List (List Nat)) (s:Int×Int),SOk s->ps.length=n.toNat->Pcs m.toNat ps->Q (.dat (.lst (ps.map .str))) (stv s)
 | _,_,_=>False
def mB:Nat:=3
def bQ:FN
 | [.str a,.str b],Q=>a.length<=10000/\(0<b.length/\b.length<=10000)/\Q (.dat (.int (nr a b:Int)))
 | _,_=>False
def ik:Nat:=5
def bc:FN
 | [.lst ds,.int i],Q=>∃ws:List (List Nat),ds=ws.map .str/\(ws.length<=1000/\∀w∈ws,w.length<=10000)/\(0<=i/\i<(ws.length:Int))/\Q (.dat (.bl (!gO ws i.toNat)))
 | _,_=>False
def k7:Nat:=1
def bW:FN
 | [.lst ds],Q=>∃ws:List (List Nat),ds=ws.map .str/\(ws.length<=1000/\∀w∈ws,w.length<=10000)/\Q (.own ((bi ws).map nD))
 | _,_=>False
def jO:Nat:=1
def aL:FN
 | [.int z],Q=>Q (.dat (.bl true))
 | _,_=>False
def i7:Nat:=3
def bv:FN
 | [d],Q=>∃ws:List (List Nat),rn d (ws.map .str)/\(ws.length<=1000/\∀w∈ws,w.length<=10000)/\Q (.dat (.lst ((cj ws).map .str)))
 | _,_=>False
def k8:Nat:=7
def bX:FN
 | [.lst ds,.lst ks],Q=>∃ws:List (List Nat),ds=ws.map .str/\ks=(bi ws).map nD/\(ws.length<=1000/\∀w∈ws,w.length<=60)/\Q (.dat (.lst ((kK ws).map (cA ws))))
 | _,_=>False
def il:Nat:=4
def aV:FN
 | [.tup ds,e],Q=>∃zs:List Int,ds=zs.map .int/\rn e (zs.map .int)/\zs.length<=1000/\Q (.dat (.bl true))
 | _,_=>False
def k9:Nat:=4
def mkR(b:Bool)(r:List Int):D:=if b then .tup (r.map .int) else .lst (r.map .int)
theorem Cd(b:Bool)(r:List Int):rn (mkR b r) (r.map .int):=by cases b;exact .inl rfl;exact .inr rfl
def bE:FN
 | [.tup ds,.lst es],Q=>∃(rs:List (List Int)) (b:Bool),ds=rs.map (mkR true)/\es=rs.map (mkR b)/\(rs.length<=1000/\∀r∈rs,r.length<=1000)/\Q (.dat (.bl true))
 | _,_=>False
def lc:Nat:=6
def bo:FN
 | [.obj c ns fs,.lst ds],Q=>c="Turnable"/\ns=vw/\∃ws:List (List Nat),fs=qi ws/\ds=ws.map .str/\(ws.length<=40/\Pcs 60 ws)/\Q (.dat (.bl true))
 | _,_=>False
def i8:Nat:=3
def bf:FN
 | [d],Q=>∃ds:List D,rn d ds/\Cc ds/\(40<ds.length->Q (.dat (.exc "TooMany" ["most"] [.int 40])))/\(ds.length<=40->∃k:Nat,vz ds k/\Q (.dat (.exc "NoPiece" ["at"] [.int k])))
 | _,_=>False
def im:Nat:=6
abbrev xT:List D:=[.str [],.str (lD [97] 61),.str [97,66],.str [97,32,98],.int 7,.int (-1),.non,.bl true,.tup [.str [97]],.lst [.str [97,98]],.dic [.inr (S [97])] [.int 1],.int (10^Int.toNat 30),.str [97,98,99,49]]
theorem vB:∀d∈xT,p9 d 1 60=false/\d.sort=true/\wF d<=1000:=by
 intro d hd;simp only [mem_cons,not_mem_nil,or_false] at hd;rcases hd with rfl|rfl|rfl|rfl|rfl|rfl|rfl|rfl|rfl|rfl|rfl|rfl|rfl
 all_goals exact⟨by rfl,rfl,by decide⟩
theorem Ce{ws:List (List Nat)}{T:List D}{x:Nat}{d:D}(hp:Pcs 60 ws)(hx:x<=ws.length)(ho:p9 d 1 60=false):vz ((ws.take x).map D.str++[d]++T) x:=by
 have hl:((ws.take x).map D.str).length=x:=by rw [length_map,length_take];omega
 refine⟨by rw [length_append,length_append,hl];show _<_+1+_;omega,fun j hj=>?_,?_⟩
 .have e:itD ((ws.take x).map D.str++[d]++T) j=.str (pw ws j):=kC (by
   rw [append_assoc,getElem?_append_left (by omega),getElem?_map,getElem?_take,if_pos hj,ie (by omega)];rfl)
  rw [e];exact uE.mpr (hp _ (gk (by omega)))
 .have e:itD ((ws.take x).map D.str++[d]++T) x=d:=kC (by
   rw [append_assoc,getElem?_append_right (by omega),hl,sub_self];rfl)
  rw [e];exact ho
theorem xk{T:List D}{x:Nat}(h:vz T x)(hx:x<40):vz (T.take 40) x:=by
 obtain⟨h1,h2,h3⟩:=h
 have e:∀j,j<40->itD (T.take 40) j=itD T j:=fun j hj=>by
  unfold itD;rw [getD_eq_getElem?_getD,getD_eq_getElem?_getD,getElem?_take,if_pos hj]
 exact⟨by rw [length_take];omega,fun j hj=>by rw [e j (by omega)];exact h2 j hj,by rw [e x hx];exact h3⟩
def thD(d:D):Prop:=d.sort=true/\wF d<=1000
theorem thD.ok{T:List D}(h:∀d∈T,thD d)(hl:T.length<=1000):Cc T:=⟨hl,fun x hx=>⟨(h x hx).1,le_trans (h x hx).2 (by decide)⟩⟩
theorem thD.strs{ws:List (List Nat)}(h:Pcs 60 ws):∀d∈ws.map D.str,thD d:=fun d hd=>by
 obtain⟨w,hw,rfl⟩:=mem_map.mp hd;exact⟨rfl,by show w.length<=_;have:=(h w hw).2.1;omega⟩
theorem zP{n i:Nat}(h:i<n):ixN n (i:Int)=some i:=by
 unfold ixN;rw [if_pos (by omega)];simp;omega
def bw:FR
 | .own [.int c0,.int c1],[.lst ds],Q=>SOk (c0,c1)/\∃ws:List (List Nat),ds=ws.map .str/\(ws.length<=39/\Pcs 60 ws)/\∀s:Int×Int,SOk s->Q (.dat (.bl true)) (stv s)
 | _,_,_=>False
def xU:Nat:=9
abbrev rD:FN:=D8
def g6:PTS:=(aN (gX (pOr (lB (pB (wy .str (pSl 0)))) (lB (pB (ur fLe fLe (pSl 1) (pFz (pCB gW (ac (pSl 0) ak))) (pSl 2))))) (bD (pC (.bl false))) bS) (bD (pCB Dr (ac (pFz (gD [none] (eS (bg 0)) (aw 0) oK (ur fLe fLe (pFz (pC (.str [97]))) (pSl 0) (pFz (pC (.str [122])))))) ak))))
theorem qp(d:D)(a b:Int)(Q:PV->Prop)(h:cI ([d,.int a,.int b]) Q):eA g6 mw ([d,.int a,.int b]) Q:=by
 show g6 _ [some (.dat (d)),some (.dat (.int a)),some (.dat (.int b))];obtain⟨hd,hl,q⟩:=h
 cases d with
 | str l =>
  have hl:l.length<=1000000:=hl;walk_at "r"
  refine eR (fun c1=>?_) (fun c1=>?_)
  .walk_at "r"
   refine um (fun c2=>?_) (fun c2=>?_)
   .walk_at "r";rw [show p9 (.str l) a b=false by rw [m8,decide_eq_false c2,Bool.and_false];rfl] at q;exact q
   .walk_at "r"
    refine DA (fun τ=>∃v,τ=[v]) (fun k=>.bl (ltB (l.getD k 0))) ?_ ?_ ?_
    .exact⟨_,rfl⟩
    .rintro k τ _ hk rfl ⟨v,rfl⟩ K1 k1;walk_at "r"
     refine um (fun c=>?_) (fun c=>?_)
     .have hc:97<=l.getD k 0:=of_decide_eq_true (by rw [<- qa];rw [decide_eq_false c];rfl);walk_at "r";show K1 (.bl (!decide (([122]:List Nat)<[l.getD k 0]))) _;rw [qa];rw [show ltB (l.getD k 0)=decide (l.getD k 0<=122) by unfold ltB;rw [decide_eq_true hc];rfl] at k1;exact k1 _ ⟨_,rfl⟩
     .have hc:¬ 97<=l.getD k 0:=of_decide_eq_false (by rw [<- qa,decide_eq_true c];rfl);walk_at "r";rw [show ltB (l.getD k 0)=false by unfold ltB;rw [decide_eq_false hc];rfl] at k1;exact k1 _ ⟨_,rfl⟩
    .rintro τ ⟨v,rfl⟩;walk_at "r";refine⟨(List.range l.length).map fun k=>ltB (l.getD k 0),by rw [map_map];rfl,?_⟩
     have e:p9 (.str l) a b=(((List.range l.length).map fun k=>ltB (l.getD k 0)).all id):=by
      rw [m8,decide_eq_true c1,decide_eq_true c2,Bool.and_self,Bool.true_and,p8];rw [all_map];rfl
     rw [e] at q;exact q
  .walk_at "r";rw [show p9 (.str l) a b=false by rw [m8,decide_eq_false c1,Bool.false_and];rfl] at q;exact q
 | non=>walk_at "r";exact q
 | bl b=>walk_at "r";exact q
 | int i=>walk_at "r";exact q
 | ty n=>cases hd
 | lst ds=>walk_at "r";exact q
 | tup ds=>walk_at "r";exact q
 | scr ns=>cases hd
 | dic ks ds=>walk_at "r";exact q
 | obj c ns ds=>cases hd
 | exc c ns ds=>cases hd
theorem sB:∀ds Q,cI ds Q->eA g6 mw ds Q:=fun ds Q h=>by
 unfold cI at h
 split at h
 .exact qp _ _ _ _ h
 .exact h.elim
def dM:PTS:=(bD (pSM jL (bg 0) (ac (pSl 1) ak)))
theorem lf(a b:List Nat)(Q:PV->Prop)(h:aU ([.str a,.str b]) Q):eA dM ii ([.str a,.str b]) Q:=by
 show dM _ [some (.dat (.str a)),some (.dat (.str b))];walk_at "r";exact h
theorem lK:∀ds Q,aU ds Q->eA dM ii ds Q:=fun ds Q h=>by
 unfold aU at h
 split at h
 .exact lf _ _ _ h
 .exact h.elim
def rE:PTS:=(aN (iP (Dj (ac (pFz (pOp Cs (pFz (pCB uw (ac (pFz (pCB gW (ac (pSl 0) ak))) (ac (pFz (pCB gW (ac (pSl 1) ak))) ak)))) (pFz (pC (.int 1))))) (ac (pFz (pC (.int 0))) (ac (pFz (pUn z0 (pFz (pC (.int 1))))) ak)))) (aw 2) (gX (pB (pSM yY (bg 0) (ac (pFz (dU (pSl 1) dX (dB (bg 2)))) ak))) (bD (bg 2)) bS)) (bD (pC (.int 0))))
theorem zQ(a b:List Nat)(Q:PV->Prop)(h:gp ([.str a,.str b]) Q):eA rE xS ([.str a,.str b]) Q:=by
 show rE _ [some (.dat (.str a)),some (.dat (.str b)),none];obtain⟨⟨a0,a1⟩,⟨b0,b1⟩,q⟩:=h;have hm:(if (b.length:Int)<(a.length:Int) then (b.length:Int) else (a.length:Int))=((min a.length b.length:Nat):Int):=by split <;> omega
 walk_at "r"
 refine⟨fun i ρ=>(∃v2:Option PV,ρ=[some (.dat (.str a)),some (.dat (.str b)),v2])/\∀j,min a.length b.length - i<=j->j<min a.length b.length->¬ b.take j <:+ a,⟨⟨_,rfl⟩,fun j h1 h2=>by omega⟩,?_,?_⟩
 .rintro i ρ d hi ed ⟨⟨v2,rfl⟩,ih⟩;have hi:i<(((if (b.length:Int)<(a.length:Int) then (b.length:Int) else (a.length:Int)) - 1) - 0).toNat:=hi;have ed:d=.int (((if (b.length:Int)<(a.length:Int) then (b.length:Int) else (a.length:Int)) - 1) - (i:Int)):=ed;rw [hm] at hi ed;obtain⟨k,hk,hk2⟩:∃k:Nat,(((min a.length b.length:Nat):Int) - 1) - (i:Int)=(k:Int)/\k=min a.length b.length - 1 - i:=⟨min a.length b.length - 1 - i,by omega,rfl⟩
  rw [hk] at ed;subst ed;walk_at "r";rw [fF]
  refine eR (fun c=>?_) (fun c=>?_)
  .walk_at "r"
   rw [show nr a b=k from nu ⟨by omega,c,fun j h1 h2=>by
    rcases lt_or_ge k j with h|h
    .exact absurd h2 (ih j (by omega) h1)
    .exact h⟩] at q
   exact q
  .refine⟨⟨_,rfl⟩,fun j h1 h2=>?_⟩
   by_cases hj:j=k
   .rw [hj];exact c
   .exact ih j (by omega) h2
 .rintro ρ ⟨⟨v2,rfl⟩,ih⟩;rw [hm] at ih;walk_at "r"
  rw [show nr a b=0 from nu ⟨by omega,by rw [take_zero];exact nil_suffix,fun j h1 h2=>by
   rcases eq_zero_or_pos j with h|h
   .omega
   .exact absurd h2 (ih j (by omega) h1)⟩] at q
  exact q
theorem Cf:∀ds Q,gp ds Q->eA rE xS ds Q:=fun ds Q h=>by
 unfold gp at h
 split at h
 .exact zQ _ _ _ h
 .exact h.elim
def fV:PTS:=(bD (pCB eV (ac (pFz (gD [none,some 0] (eS (bg 0)) (aw 0) oK (pCB eV (ac (pFz (gD [none,some 0] (eS (bg 1)) (aw 0) oK (a9 gp (ac (pFz (bg 1)) (ac (pFz (bg 0)) ak))))) ak)))) ak)))
theorem pA(ds:List D)(Q:PV->Prop)(h:bV ([.tup ds]) Q):eA fV kW ([.tup ds]) Q:=by
 show fV _ [some (.dat (.tup ds))];obtain⟨ws,rfl,⟨hn,hw⟩,q⟩:=h;have hlm:(ws.map D.str).length=ws.length:=length_map _
 have rr:∀f:List Nat->D,(List.range (ws.map D.str).length).map (fun k=>f (pw ws k))=ws.map f:=fun f=>by
  rw [hlm];apply ext_getElem?;intro k;rw [getElem?_map,getElem?_map]
  by_cases hk:k<ws.length
  .rw [getElem?_range hk,ie hk];rfl
  .rw [getElem?_eq_none (by rw [length_range];omega),getElem?_eq_none (by omega)];rfl
 walk_at "r"
 refine DA (fun τ=>∃v,τ=[v,some (.dat (.tup (ws.map .str)))]) (fun k=>.tup (ws.map fun v=>.int (nr (pw ws k) v:Int))) ?_ ?_ ?_
 .exact⟨_,rfl⟩
 .rintro k τ d hk ed ⟨v,rfl⟩ K1 k1;rw [m7 hk] at ed;subst ed;have w1:=hw _ (gk (show k<ws.length by omega));walk_at "r"
  refine DA (fun τ=>∃v,τ=[v,some (.dat (.str (pw ws k)))]) (fun j=>.int (nr (pw ws k) (pw ws j):Int)) ?_ ?_ ?_
  .exact⟨_,rfl⟩
  .rintro j τ d hj ed ⟨v,rfl⟩ K2 k2;rw [m7 hj] at ed;subst ed;have w2:=hw _ (gk (show j<ws.length by omega));walk_at "r";exact k2 _ ⟨_,rfl⟩
  .rintro τ ⟨v,rfl⟩;rw [rr (fun w=>D.int (nr (pw ws k) w:Int))];walk_at "r";exact k1 _ ⟨_,rfl⟩
 .rintro τ ⟨v,rfl⟩;rw [rr (fun w=>D.tup (ws.map fun v=>.int (nr w v:Int)))];walk_at "r";exact q
theorem qq:∀ds Q,bV ds Q->eA fV kW ds Q:=fun ds Q h=>by
 unfold bV at h
 split at h
 .exact pA _ _ h
 .exact h.elim
def dy(E:D->Prop):PTS:=(aN (gX (pB (pOp fGt (pFz (pCB gW (ac (pSl 0) ak))) (pFz (pC (.int 40))))) (qf E (zw "TooMany" "most" (ac (pFz (pC (.int 40))) ak))) bS) (iP (xC (ac (pFz (bg 0)) ak)) (nj 2 (gj (aw 1) (gj (aw 2) p5))) (gX (lB (pB (xF cI [] (ac (pFz (bg 2)) (ac (pFz (pC (.int 1))) (ac (pFz (pC (.int 60))) ak)))))) (qf E (zw "NoPiece" "at" (ac (pFz (bg 1)) ak))) bS)))
theorem jW(d:D)(Q:PV->Prop)(E:D->Prop)(h:aI ([d]) Q E):DJ dy gU ([d]) Q E:=by
 show dy E _ [some (.dat (d)),none,none];obtain⟨ds,hd,⟨hn,hs⟩,he1,he2⟩:=h
 rcases hd with rfl|rfl
 .walk_at "r"
  refine eR (fun c=>?_) (fun c=>?_)
  .walk_at "r";exact he1 (by omega)
  .obtain⟨he2,q⟩:=he2 (by omega);walk_at "r"
   refine⟨fun k ρ=>(∃v1 v2:Option PV,ρ=[some (.dat (.lst ds)),v1,v2])/\∀j,j<k->p9 (itD ds j) 1 60=true,⟨⟨_,_,rfl⟩,fun j hj=>absurd hj (not_lt_zero _)⟩,?_,?_⟩
   .rintro k ρ d hk ed ⟨⟨v1,v2,rfl⟩,ih⟩;have ed:d=.tup [.int k,itD ds k]:=ed;subst ed;obtain⟨gx,gl⟩:=hs _ (uJ hk);walk_at "r"
    refine mW (zT (fun c=>?_) (fun c=>?_))
    .refine⟨⟨_,_,rfl⟩,fun j hj=>?_⟩
     by_cases e:j=k
     .rw [e];exact c
     .exact ih j (by omega)
    .walk_at "r";exact he2 k ⟨hk,ih,c⟩
   .rintro ρ ⟨⟨v1,v2,rfl⟩,ih⟩;exact q ih
 .walk_at "r"
  refine eR (fun c=>?_) (fun c=>?_)
  .walk_at "r";exact he1 (by omega)
  .obtain⟨he2,q⟩:=he2 (by omega);walk_at "r"
   refine⟨fun k ρ=>(∃v1 v2:Option PV,ρ=[some (.dat (.tup ds)),v1,v2])/\∀j,j<k->p9 (itD ds j) 1 60=true,⟨⟨_,_,rfl⟩,fun j hj=>absurd hj (not_lt_zero _)⟩,?_,?_⟩
   .rintro k ρ d hk ed ⟨⟨v1,v2,rfl⟩,ih⟩;have ed:d=.tup [.int k,itD ds k]:=ed;subst ed;obtain⟨gx,gl⟩:=hs _ (uJ hk);walk_at "r"
    refine mW (zT (fun c=>?_) (fun c=>?_))
    .refine⟨⟨_,_,rfl⟩,fun j hj=>?_⟩
     by_cases e:j=k
     .rw [e];exact c
     .exact ih j (by omega)
    .walk_at "r";exact he2 k ⟨hk,ih,c⟩
   .rintro ρ ⟨⟨v1,v2,rfl⟩,ih⟩;exact q ih
theorem lg:∀ds Q E,aI ds Q E->DJ dy gU ds Q E:=fun ds Q E h=>by
 unfold aI at h
 split at h
 .exact jW _ _ _ h
 .exact h.elim
def c6:PTS:=(bD (pOp fGe (pFz (a9 aU (ac (pFz (bg 1)) (ac (pFz (bg 0)) ak)))) (pFz (pC (.int 0)))))
theorem jD(a b:List Nat)(Q:PV->Prop)(h:aF ([.str a,.str b]) Q):eA c6 gq ([.str a,.str b]) Q:=by
 show c6 _ [some (.dat (.str a)),some (.dat (.str b))];walk_at "r";exact h
theorem jX:∀ds Q,aF ds Q->eA c6 gq ds Q:=fun ds Q h=>by
 unfold aF at h
 split at h
 .exact jD _ _ _ h
 .exact h.elim
def i9:PTS:=(bD (Ca (pSl 0) (pUn z0 (pFz (pC (.int 1))))))
theorem sC(l:List Nat)(Q:PV->Prop)(h:bb ([.str l]) Q):eA i9 pq ([.str l]) Q:=by
 show i9 _ [some (.dat (.str l))];obtain⟨hl,q⟩:=h;walk_at "r";exact q
theorem vC:∀ds Q,bb ds Q->eA i9 pq ds Q:=fun ds Q h=>by
 unfold bb at h
 split at h
 .exact sC _ _ h
 .exact h.elim
def g9:PTS:=(bD (pIf (pB (pOp si (pSl 1) (pFz (pC (.int 1))))) (a9 bb (ac (pFz (bg 0)) ak)) (bg 0)))
theorem qt(l:List Nat)(w:Int)(Q:PV->Prop)(h:bC ([.str l,.int w]) Q):eA g9 mx ([.str l,.int w]) Q:=by
 show g9 _ [some (.dat (.str l)),some (.dat (.int w))];obtain⟨hl,q⟩:=h;walk_at "r"
 refine eR (fun c=>?_) (fun c=>?_)
 .rw [if_pos c] at q;walk_at "r";exact q
 .rw [if_neg c] at q;walk_at "r";exact q
theorem sD:∀ds Q,bC ds Q->eA g9 mx ds Q:=fun ds Q h=>by
 unfold bC at h
 split at h
 .exact qt _ _ _ h
 .exact h.elim
def cB:PTS:=(bD (C7 (a9 aF (ac (pFz (bg 0)) (ac (pFz (bg 1)) ak))) (a9 aF (ac (pFz (a9 bb (ac (pFz (bg 0)) ak))) (ac (pFz (bg 1)) ak)))))
theorem iG(a b:List Nat)(Q:PV->Prop)(h:aA ([.str a,.str b]) Q):eA cB eW ([.str a,.str b]) Q:=by
 show cB _ [some (.dat (.str a)),some (.dat (.str b))];obtain⟨hl,q⟩:=h;unfold iJ at q;walk_at "r"
 cases hc:mj a b with
 | true=>rw [hc] at q;walk_at "r";exact q
 | false=>rw [hc,Bool.false_or] at q;walk_at "r";exact q
theorem ja:∀ds Q,aA ds Q->eA cB eW ds Q:=fun ds Q h=>by
 unfold aA at h
 split at h
 .exact iG _ _ _ h
 .exact h.elim
def cu:PTS:=(aN (bx (pOp fIx (pSl 0) (pSl 1)) (aw 2)) (aN (gX (pOr (pB (pOp (xM false) (pSl 2) (pFz (dU (pSl 0) dX (dB (bg 1)))))) (pB (pOp (xM false) (pFz (a9 bb (ac (pFz (bg 2)) ak))) (pFz (dU (pSl 0) dX (dB (bg 1))))))) (bD (pC (.bl false))) bS) (bD (wv (pCB Ds (ac (pFz (gD [none,some 2] (eS (bg 0)) (aw 0) (pB (pOp fGt (pFz (pCB gW (ac (pSl 0) ak))) (pFz (pCB gW (ac (pSl 1) ak))))) (a9 aA (ac (pFz (bg 1)) (ac (pFz (bg 0)) ak))))) ak))))))
theorem h7(ds:List D)(i:Int)(Q:PV->Prop)(h:aJ ([.tup ds,.int i]) Q):eA cu eP ([.tup ds,.int i]) Q:=by
 show cu _ [some (.dat (.tup ds)),some (.dat (.int i)),none];obtain⟨ws,rfl,⟨hn,hw⟩,hi,q⟩:=h;obtain⟨k,rfl⟩:∃k:Nat,i=(k:Int):=⟨i.toNat,by omega⟩
 have hk:k<ws.length:=by omega
 rw [toNat_natCast] at q;have w1:=hw _ (gk hk);have c1:e6 (ws.map D.str) none (some (k:Int))=(ws.take k).map D.str:=by rw [fF,map_take]
 have hfl:(e6 (ws.map D.str) none (some (k:Int))).all D.fl=true:=by rw [c1];exact uR _
 have hin:∀u,inD (.str u) (e6 (ws.map D.str) none (some (k:Int)))=decide (u∈ws.take k):=fun u=>by rw [c1];exact nv _ _
 unfold gO o7 at q;walk_at "r";refine⟨_,cJ hk rfl,?_⟩;walk_at "r";rw [hin]
 cases e1:decide (pw ws k∈ws.take k) with
 | true =>
  rw [e1] at q;walk_at "r";exact q
 | false =>
  rw [e1,Bool.false_or] at q;walk_at "r";rw [hin]
  cases e2:decide ((pw ws k).reverse∈ws.take k) with
  | true =>
   rw [e2] at q;walk_at "r";exact q
  | false =>
   rw [e2,Bool.not_false,Bool.true_and] at q;walk_at "r"
   refine cf1 (fun o:List Nat=>decide ((pw ws k).length<o.length)) (fun o=>.bl (iJ (pw ws k) o)) ?_ ?_
   .intro o ho v K1 K2 k1 k2;have w2:=hw o ho;walk_at "r"
    refine eR (fun c=>?_) (fun c=>?_)
    .walk_at "r";exact k1 _ (decide_eq_true (by omega))
    .exact k2 _ (decide_eq_false (by omega))
   .intro v;walk_at "r";rw [sv];refine⟨_,rfl,?_⟩;rw [zD];walk_at "r";exact q
theorem iH:∀ds Q,aJ ds Q->eA cu eP ds Q:=fun ds Q h=>by
 unfold aJ at h
 split at h
 .exact h7 _ _ _ h
 .exact h.elim
def c7:PTS:=(aN (bx (pOp fIx (pSl 0) (pSl 2)) (aw 3)) (aN (bx (pCB yS (ac (pFz (gD [none,some 3,some 0] (eS (bg 1)) (aw 0) (pB (a9 aA (ac (pFz (bg 1)) (ac (pFz (pOp fIx (pSl 2) (pSl 0))) ak)))) (bg 0))) ak)) (aw 4)) (aN (bx (pIf (pB (a9 aF (ac (pFz (bg 3)) (ac (pFz (pOp fIx (pSl 0) (pSl 4))) ak)))) (pC (.int 0)) (pC (.int 1))) (aw 5)) (bD (vE (ac (pFz (bg 2)) (ac (pFz (bg 4)) (ac (pFz (a9 aU (ac (pFz (pOp fIx (pSl 0) (pSl 4))) (ac (pFz (a9 bC (ac (pFz (bg 3)) (ac (pFz (bg 5)) ak)))) ak)))) (ac (pFz (bg 5)) ak)))))))))
theorem jE(ds ks:List D)(i:Int)(Q:PV->Prop)(h:aS ([.tup ds,.tup ks,.int i]) Q):eA c7 gu ([.tup ds,.tup ks,.int i]) Q:=by
 show c7 _ [some (.dat (.tup ds)),some (.dat (.tup ks)),some (.dat (.int i)),none,none,none];obtain⟨ws,rfl,rfl,⟨hn,hw⟩,hi,q⟩:=h;obtain⟨k,rfl⟩:∃k:Nat,i=(k:Int):=⟨i.toNat,by omega⟩
 have hk:k<ws.length:=by omega
 rw [toNat_natCast] at q;have hkl:=eH ws;have w1:(pw ws k).length<=10000:=le_trans (hw _ (gk hk)) (by decide);walk_at "r";refine⟨_,cJ hk rfl,?_⟩;walk_at "r"
 refine cf1 (fun j:Nat=>iJ (pw ws k) (pw ws j)) nD ?_ ?_
 .intro j hj v K1 K2 k1 k2;have hj2:=dD hj;walk_at "r";refine⟨_,cJ hj2 rfl,?_⟩;walk_at "r"
  cases hc:iJ (pw ws k) (pw ws j) with
  | true=>walk_at "r";exact k1 _ hc
  | false=>walk_at "r";exact k2 _ hc
 .intro v;have e1:((bi ws).filter fun j=>iJ (pw ws k) (pw ws j)).map nD=((dJ ws k).map fun j=>((j:Nat):Int)).map D.int:=by rw [map_map];rfl
  rw [e1];obtain⟨h0,hh0⟩:=kL hw hk;walk_at "r";refine⟨by rw [length_map];exact length_pos_of_mem hh0,fun m hm hle=>?_⟩;obtain⟨z,hz,rfl⟩:=mem_map.mp hm;have hz2:z<ws.length:=dD (mem_filter.mp hz).1;have hho:dE ws k=z:=sx hz fun a ha=>by have:=hle _ (mem_map_of_mem ha);omega
  unfold cA xh trn at q;rw [hho] at q;have w2:(pw ws z).length<=10000:=le_trans (hw _ (gk hz2)) (by decide);walk_at "r";refine⟨_,cJ hz2 rfl,?_⟩;walk_at "r"
  cases hc:mj (pw ws k) (pw ws z) with
  | true =>
   rw [if_pos hc,if_neg (by decide)] at q;walk_at "r";refine⟨_,cJ hz2 rfl,?_⟩;walk_at "r";exact q
  | false =>
   have hw1:(if mj (pw ws k) (pw ws z)=true then (0:Nat) else 1)=1:=by rw [hc];rfl
   rw [hw1,if_pos rfl] at q;walk_at "r";refine⟨_,cJ hz2 rfl,?_⟩;walk_at "r";exact q
theorem jY:∀ds Q,aS ds Q->eA c7 gu ds Q:=fun ds Q h=>by
 unfold aS at h
 split at h
 .exact jE _ _ _ _ h
 .exact h.elim
def c8:PTS:=(aN (kz (xL aI (ac (pFz (bg 1)) ak))) (aN (jM "Turnable" [] "pieces" 0 (pCB eV (ac (pSl 1) ak))) (aN (bx (Bw false (ac (pFz (pCB gW (ac (pFz (lE "Turnable" ["pieces"] 0 (pSl 0))) ak))) ak)) (aw 2)) (aN (jM "Turnable" ["pieces"] "kept" 0 (pCB eV (ac (pFz (gD [none,some 0] (eS (bg 2)) (aw 0) (pB (a9 aJ (ac (pFz (lE "Turnable" ["pieces"] 0 (pSl 1))) (ac (pFz (bg 0)) ak)))) (bg 0))) ak))) (aN (jM "Turnable" ["pieces","kept"] "words" 0 (pCB eV (ac (pFz (gD [none,some 0] (eS (lE "Turnable" ["pieces","kept"] 1 (pSl 0))) (aw 0) oK (pOp fIx (pFz (lE "Turnable" ["pieces","kept"] 0 (pSl 1))) (pSl 0)))) ak))) (aN (jM "Turnable" ["pieces","kept","words"] "left" 0 (pCB eV (ac (pFz (gD [none,some 0] (eS (bg 2)) (aw 0) (pB (pOp (xM true) (pSl 0) (pFz (lE "Turnable" ["pieces","kept","words"] 1 (pSl 1))))) (a9 aS (ac (pFz (lE "Turnable" ["pieces","kept","words"] 0 (pSl 1))) (ac (pFz (lE "Turnable" ["pieces","kept","words"] 1 (pSl 1))) (ac (pFz (bg 0)) ak)))))) ak))) (aN (jM "Turnable" ["pieces","kept","words","left"] "states" 0 (pCB eV (ac (pFz (xH [none,none] (eS (lE "Turnable" ["pieces","kept","words","left"] 2 (pSl 0))) (aw 0) oK (eS (vE (ac (pFz (pC (.int 0))) (ac (pFz (pC (.int 1))) ak)))) (aw 1) oK (a9 bC (ac (pFz (bg 0)) (ac (pFz (bg 1)) ak))))) ak))) (aN (jM "Turnable" ["pieces","kept","words","left","states"] "laps" 0 (a9 bV (ac (pFz (lE "Turnable" ["pieces","kept","words","left","states"] 4 (pSl 0))) ak))) (jM "Turnable" ["pieces","kept","words","left","states","laps"] "total" 0 (pCB wA (ac (pFz (gD [none] (eS (lE "Turnable" ["pieces","kept","words","left","states","laps"] 2 (pSl 0))) (aw 0) oK (pCB gW (ac (pSl 0) ak)))) ak)))))))))))
theorem jF(d:D)(Q:PV->PV->Prop)(h:aT (.ins "Turnable" [] []) ([d]) Q):rm c8 gv (.ins "Turnable" [] []) ([d]) Q:=by
 show c8 _ [some (.ins "Turnable" [] []),some (.dat (d)),none];obtain⟨ws,hd,⟨hn,hp⟩,q⟩:=h;have hlm:(ws.map D.str).length=ws.length:=length_map _;have hkl:=eH ws;have hk1:ws.length<=1000/\∀w∈ws,w.length<=10000:=⟨by omega,fun w hw=>by have:=(hp w hw).2.1;omega⟩
 have hk2:ws.length<=1000/\∀w∈ws,w.length<=60:=⟨by omega,fun w hw=>(hp w hw).2.1⟩
 have hr:Bv 0 (((ws.map D.str).length:Nat):Int).toNat=(List.range ws.length).map nD:=by rw [hlm,toNat_natCast,zj]
 have hgd:∀k,k<(ws.map D.str).length->p9 (itD (ws.map D.str) k) 1 60=true:=fun k hk=>by rw [m7 hk];exact uE.mpr (hp _ (gk (by rw [hlm] at hk;exact hk)))
 walk_at "r"
 refine⟨ws.map D.str,hd,⟨by omega,fun x hx=>?_⟩,fun z=>by omega,fun _=>⟨fun k hb=>?_,fun _=>?_⟩⟩
 .obtain⟨w,hw,rfl⟩:=mem_map.mp hx;exact⟨rfl,by have:=(hp w hw).2.1;show w.length<=_;omega⟩
 .have:=hgd k hb.1;rw [hb.2.2] at this;cases this
 walk_at "r";refine wR hd ?_;walk_at "r";rw [hr];have hrl:((List.range ws.length).map nD).length<=1000000:=by rw [length_map,length_range];omega
 walk_at "r"
 refine cf1 (gO ws) nD ?_ ?_
 .intro j hj v K1 K2 k1 k2;have hj2:j<ws.length:=mem_range.mp hj;walk_at "r";rw [toNat_natCast]
  cases hc:gO ws j with
  | true=>walk_at "r";exact k1 _ hc
  | false=>walk_at "r";exact k2 _ hc
 intro v;have e1:((List.range ws.length).filter (gO ws)).map nD=(bi ws).map nD:=rfl;rw [e1];walk_at "r"
 refine cm1 (fun j=>.str (pw ws j)) ?_ ?_
 .intro j hj v K1 k1;walk_at "r";refine⟨_,cJ (dD hj) rfl,?_⟩;walk_at "r";exact k1 _
 intro v;have e2:(bi ws).map (fun j=>D.str (pw ws j))=(cL ws).map D.str:=by unfold cL;rw [map_map];rfl
 rw [e2];have hwl:=o9 ws;have hwp:=o8 hp;have hsp:=kN hwp;have hsl:=eI (cL ws);have hwq:(cj (cL ws)).length<=1000/\∀w∈cj (cL ws),0<w.length/\w.length<=10000:=⟨by omega,fun w hw=>⟨(hsp w hw).1,by have:=(hsp w hw).2.1;omega⟩⟩
 have hfl:((bi ws).map nD).all D.fl=true:=BL _;walk_at "r"
 refine cf1 (fun j=>!decide (j∈bi ws)) (cA ws) ?_ ?_
 .intro j hj v K1 K2 k1 k2;have hj2:j<ws.length:=mem_range.mp hj;have hin:=uQ j (bi ws);walk_at "r"
  refine mW (zT (fun c=>?_) (fun c=>?_))
  .have c:inD (.int (j:Int)) ((bi ws).map nD)=true:=c;rw [hin] at c;exact k2 _ (by rw [c];rfl)
  .have c:inD (.int (j:Int)) ((bi ws).map nD)=false:=c;rw [hin] at c;walk_at "r";rw [toNat_natCast];exact k1 _ (by rw [c];rfl)
 intro v;have e3:((List.range ws.length).filter (fun j=>!decide (j∈bi ws))).map (cA ws)=(kK ws).map (cA ws):=rfl;rw [e3];walk_at "r";have hwm:((cL ws).map D.str).length=(cL ws).length:=length_map _
 refine⟨⟨fun k ys τ=>ys=(cj ((cL ws).take k)).map D.str/\∃v w,τ=[v,w],⟨rfl,_,_,rfl⟩,?_,?_⟩⟩
 .rintro k ys τ _ hk rfl ⟨rfl,v,w,rfl⟩;rw [hwm] at hk;rw [m7 (by rw [hwm];exact hk)];have w1:=(hwp _ (gk hk)).2.1;have hsk:=eI ((cL ws).take k);rw [length_take] at hsk;walk_at "r"
  refine⟨fun j zs τ=>zs=(cj ((cL ws).take k)).map D.str++([pw (cL ws) k,(pw (cL ws) k).reverse].take j).map D.str/\∃w,τ=[some (.dat (.str (pw (cL ws) k))),w],⟨(append_nil _).symm,w,rfl⟩,?_,?_⟩
  .rintro j zs τ _ hj rfl ⟨rfl,w,rfl⟩;have hj:j<2:=hj
   have hll:((cj ((cL ws).take k)).map D.str++([pw (cL ws) k,(pw (cL ws) k).reverse].take j).map D.str).length<1000000:=by
    rw [length_append,length_map,length_map,length_take];omega
   rcases (show j=0\/j=1 by omega) with rfl|rfl
   .walk_at "r";exact⟨by rw [if_neg (by decide),take_zero];simp,_,rfl⟩
   .walk_at "r";exact⟨by rw [if_pos rfl];simp,_,rfl⟩
  .rintro zs τ ⟨rfl,w,rfl⟩;refine⟨?_,_,_,rfl⟩;rw [y4 hk,kM,map_append];rfl
 rintro ys τ ⟨rfl,v,w,rfl⟩;rw [hwm,take_length];walk_at "r"
 refine cm1 (fun w:List Nat=>.int (w.length:Int)) ?_ ?_
 .intro w hw v K1 k1;have:=(hwp w hw).2.1;walk_at "r";exact k1 _
 intro v;rw [kI];walk_at "r";exact q
theorem jZ:∀p ds Q,p.isOwn=true->aT p ds Q->rm c8 gv p ds Q:=fun p ds Q _ h=>by
 unfold aT at h
 split at h
 .exact jF _ _ h
 .exact h.elim
def c9:PTS:=(bD (pCB gW (ac (pFz (lE "Turnable" ["pieces","kept","words","left","states","laps","total"] 2 (pSl 0))) ak)))
theorem jG(c:Str)(ns:List Str)(fs:List D)(Q:PV->Prop)(h:aP ([.obj c ns fs]) Q):eA c9 gw ([.obj c ns fs]) Q:=by
 show c9 _ [some (.dat (.obj c ns fs))];obtain⟨rfl,rfl,ws,rfl,q⟩:=h;walk_at "r";rw [length_map];exact q
theorem j1:∀ds Q,aP ds Q->eA c9 gw ds Q:=fun ds Q h=>by
 unfold aP at h
 split at h
 .exact jG _ _ _ _ h
 .exact h.elim
def ef:PTS:=(aN (bx (pOp gE (pFz (pOp rd (pFz (pC (.int 5))) (pSl 1))) (pFz (pC (.int 3)))) (aw 2)) (aN (kA (gX (pB (pOp fGt (pFz (pCB gW (ac (pSl 0) ak))) (pFz (pC (.int 0))))) (bx (pCB Do (ac (pFz (pOp fIx (pSl 0) (pFz (pOp zZ (pSl 1) (pFz (pCB gW (ac (pSl 0) ak))))))) ak)) (aw 2)) bS)) (bD (nV (ac (pFz (bg 2)) (ac (pFz (pOp gE (pFz (pOp gE (pFz (pOp zZ (pSl 2) (pFz (pC (.int 2147483629))))) (pFz (pOp rd (pFz (pC (.int 7919))) (pSl 1))))) (pFz (pC (.int 11))))) ak))))))
theorem lL(ns:List Int)(k:Int)(Q:PV->Prop)(h:bu ([.scr ns,.int k]) Q):eA ef iZ ([.scr ns,.int k]) Q:=by
 show ef _ [some (.dat (.scr ns)),some (.dat (.int k)),none];obtain⟨⟨hk0,hk1,hn⟩,q⟩:=h;walk_at "r"
 refine⟨fun ρ=>∃c:Int,ρ=[some (.dat (.scr ns)),some (.dat (.int k)),some (.dat (.int c))]/\0<=c,?_,?_⟩
 .walk_at "r";refine eR (fun c=>?_) (fun c=>⟨_,rfl,by omega⟩);obtain⟨n,hn1,hn2⟩:∃n:Nat,k % (ns.length:Int)=(n:Int)/\n<ns.length:=⟨(k % (ns.length:Int)).toNat,by have:=emod_nonneg k (show (ns.length:Int)≠0 by omega);omega,by have:=emod_lt_of_pos k (show 0<(ns.length:Int) by omega);have:=emod_nonneg k (show (ns.length:Int)≠0 by omega);omega⟩
  walk_at "r";rw [hn1];refine⟨ns[n],l6 (getElem?_eq_getElem hn2) rfl,?_⟩;exact⟨_,rfl,by split <;> omega⟩
 .rintro ρ ⟨c,rfl,hc⟩;walk_at "r";exact q (c,c % 2147483629+7919*k+11) ⟨hc,by omega,by omega⟩
theorem nK:∀ds Q,bu ds Q->eA ef iZ ds Q:=fun ds Q h=>by
 unfold bu at h
 split at h
 .exact lL _ _ _ h
 .exact h.elim
def fW:PTS:=(aN (gX (pB (pOp fGt (pFz (pOp fIx (pSl 0) (pFz (pC (.int 0))))) (pFz (pC (.int 0))))) (aN (bx (pOp zZ (pFz (pOp fIx (pSl 0) (pFz (pC (.int 0))))) (pSl 1)) (aw 2)) (aN (rf 0 (pOp Dy (pFz (pOp fIx (pSl 0) (pFz (pC (.int 0))))) (pSl 1)) (pC (.int 0))) (bD (bg 2)))) bS) (aN (rf 0 (pOp zZ (pFz (pOp gE (pFz (pOp rd (pFz (pOp fIx (pSl 0) (pFz (pC (.int 1))))) (pFz (pC (.int 48271))))) (pFz (pC (.int 12345))))) (pFz (pC (.int 2147483647)))) (pC (.int 1))) (bD (pOp zZ (pFz (pOp Dy (pFz (pOp zZ (pFz (pOp rd (pFz (pOp fIx (pSl 0) (pFz (pC (.int 1))))) (pFz (pOp fIx (pSl 0) (pFz (pC (.int 1))))))) (pFz (pC (.int 2147483629))))) (pFz (pC (.int 7))))) (pSl 1)))))
theorem pD(c0 c1 m:Int)(Q:PV->PV->Prop)(h:au (.own [.int c0,.int c1]) ([.int m]) Q):rm fW kX (.own [.int c0,.int c1]) ([.int m]) Q:=by
 show fW _ [some (.own [.int c0,.int c1]),some (.dat (.int m)),none];obtain⟨⟨g0,g1,g2⟩,hm,hm2,q⟩:=h;have mod:∀z:Int,0<=z % m/\z % m<m:=fun z=>⟨emod_nonneg z (by omega),emod_lt_of_pos z hm⟩
 walk_at "r"
 refine eR (fun c=>?_) (fun c=>?_)
 .walk_at "r";exact q _ (_,_) ⟨ediv_nonneg g0 (by omega),g1,g2⟩ (mod c0).1 (mod c0).2
 .have n0:0<=(c1*48271+12345) % 2147483647:=emod_nonneg _ (by decide);have n1:(c1*48271+12345) % 2147483647<2147483647:=emod_lt_of_pos _ (by decide);walk_at "r";exact q _ (_,_) ⟨g0,n0,by omega⟩ (mod _).1 (mod _).2
theorem qu:∀p ds Q,p.isOwn=true->au p ds Q->rm fW kX p ds Q:=fun p ds Q _ h=>by
 unfold au at h
 split at h
 .exact pD _ _ _ _ h
 .exact h.elim
def fX:PTS:=(bD (pSM uH (pC (.str [])) (ac (pFz (gD [none,some 1,some 0] (zW (ac (pFz (pOp gE (pFz (pC (.int 1))) (pFz (bP au 0 (ac (pFz (bg 2)) ak))))) ak)) (aw 0) oK (pOp fIx (pSl 1) (pFz (bP au 2 (ac (pFz (pCB gW (ac (pSl 1) ak))) ak)))))) ak)))
theorem pE(c0 c1 m:Int)(ls:List Nat)(Q:PV->PV->Prop)(h:bn (.own [.int c0,.int c1]) ([.str ls,.int m]) Q):rm fX kY (.own [.int c0,.int c1]) ([.str ls,.int m]) Q:=by
 show fX _ [some (.own [.int c0,.int c1]),some (.dat (.str ls)),some (.dat (.int m))];obtain⟨g,⟨h0,h26,hls⟩,⟨hm,hm2⟩,q⟩:=h;walk_at "r";intro x s hs hx0 hx1;walk_at "r"
 refine⟨fun k ys τ=>∃(v:Option PV) (s:Int×Int) (ws:List Nat),τ=[v,some (.dat (.str ls)),some (stv s)]/\SOk s/\ys=ws.map (fun c=>.str [c])/\ws.length=k/\Lts ws,⟨none,s,[],rfl,hs,rfl,rfl,Lts.nil⟩,?_,?_⟩
 .rintro k ys τ _ hk rfl ⟨v,⟨a,b⟩,ws,rfl,hs,rfl,hl,hL⟩;walk_at "r";intro z s2 hs2 hz0 hz1;obtain⟨j,rfl⟩:∃j:Nat,z=(j:Int):=⟨z.toNat,by omega⟩
  have hj:j<ls.length:=by omega
  walk_at "r";refine⟨_,l6 (getElem?_eq_getElem hj) rfl,?_⟩;exact⟨_,s2,ws++[ls[j]],rfl,hs2,by rw [map_append];rfl,by rw [length_append,hl];rfl,hL.app (Lts.one (hls _ (getElem_mem hj)))⟩
 .rintro ys τ ⟨v,s2,ws,rfl,hs2,rfl,hl,hL⟩;walk_at "r"
  refine⟨ws.map fun c=>[c],wG ws,?_,?_⟩
  .rw [jN];omega
  .rw [jN];walk_at "r";exact q ws s2 hs2 (by omega) (by omega) hL
theorem qv:∀p ds Q,p.isOwn=true->bn p ds Q->rm fX kY p ds Q:=fun p ds Q _ h=>by
 unfold bn at h
 split at h
 .exact pE _ _ _ _ _ h
 .exact h.elim
def fY:PTS:=(aN (bx (pC (.str [])) (aw 1)) (aN (iP (eS (bg 0)) (aw 2) (bx (pOp gE (pSl 2) (pSl 1)) (aw 1))) (bD (bg 1))))
theorem pF(l:List Nat)(Q:PV->Prop)(h:aG ([.str l]) Q):eA fY kZ ([.str l]) Q:=by
 show fY _ [some (.dat (.str l)),none,none];obtain⟨hl,q⟩:=h;walk_at "r"
 refine⟨fun k ρ=>∃v2:Option PV,ρ=[some (.dat (.str l)),some (.dat (.str (l.take k).reverse)),v2],⟨_,rfl⟩,?_,?_⟩
 .rintro k ρ d hk ed ⟨v2,rfl⟩;subst ed;have hk:k<l.length:=hk;have htl:(l.take k).reverse.length<=10000:=by rw [length_reverse,length_take];omega
  have e:[l.getD k 0]++(l.take k).reverse=(l.take (k+1)).reverse:=by
   rw [take_add_one,getElem?_eq_getElem hk,getD_eq_getElem?_getD,getElem?_eq_getElem hk,reverse_append];rfl
  walk_at "r";exact⟨_,by rw [e]⟩
 .rintro ρ ⟨v2,rfl⟩;walk_at "r";rw [take_length];exact q
theorem qw:∀ds Q,aG ds Q->eA fY kZ ds Q:=fun ds Q h=>by
 unfold aG at h
 split at h
 .exact pF _ _ h
 .exact h.elim
def hG:PTS:=(aN (bx (bP au 0 (ac (pFz (pCB gW (ac (pSl 1) ak))) ak)) (aw 3)) (bD (dU (pSl 1) (dB (bg 3)) (dB (pOp gE (pFz (pOp gE (pSl 3) (pFz (pC (.int 1))))) (pFz (bP au 0 (ac (pFz (bg 2)) ak))))))))
theorem qx(c0 c1 m:Int)(t:List Nat)(Q:PV->PV->Prop)(h:cv (.own [.int c0,.int c1]) ([.str t,.int m]) Q):rm hG my (.own [.int c0,.int c1]) ([.str t,.int m]) Q:=by
 show hG _ [some (.own [.int c0,.int c1]),some (.dat (.str t)),some (.dat (.int m)),none];obtain⟨g,⟨h0,h1,ht⟩,⟨hm,hm2⟩,q⟩:=h;walk_at "r";rintro x ⟨a,b⟩ hs hx0 hx1;walk_at "r";intro y s2 hs2 hy0 hy1;walk_at "r";obtain⟨i,rfl⟩:∃i:Nat,x=(i:Int):=⟨x.toNat,by omega⟩
 obtain⟨j,rfl⟩:∃j:Nat,y=(j:Int):=⟨y.toNat,by omega⟩
 show Q (.dat (.str (e6 t (some (i:Int)) (some ((i:Int)+1+(j:Int)))))) _;rw [show (i:Int)+1+(j:Int)=((i+1+j:Nat):Int) by omega,tU];exact q _ s2 hs2 (by rw [length_take,length_drop];omega) (by rw [length_take,length_drop];omega) ((ht.drop _).take _)
theorem sE:∀p ds Q,p.isOwn=true->cv p ds Q->rm hG my p ds Q:=fun p ds Q _ h=>by
 unfold cv at h
 split at h
 .exact qx _ _ _ _ _ h
 .exact h.elim
def fZ:PTS:=(aN (bx (pOp fIx (pFz (nV (ac (pFz (pC (.str [97,98]))) (ac (pFz (pC (.str [97,98,99]))) (ac (pFz (pC (.str [97,98,99,100,101,102,103,104,105,106,107,108,109,110,111,112,113,114,115,116,117,118,119,120,121,122]))) ak))))) (pFz (bP au 0 (ac (pFz (pC (.int 3))) ak)))) (aw 2)) (aN (bx (bP bn 0 (ac (pFz (bg 2)) (ac (pFz (pOp rd (pFz (pC (.int 3))) (pSl 1))) ak))) (aw 3)) (aN (kA (gX (pB (pOp si (pFz (bP au 0 (ac (pFz (pC (.int 3))) ak))) (pFz (pC (.int 0))))) (bx (pOp rd (pFz (dU (pSl 3) dX (dB (pOp gE (pFz (pC (.int 1))) (pFz (bP au 0 (ac (pFz (pC (.int 3))) ak))))))) (pSl 1)) (aw 3)) bS)) (bD (vE (ac (pFz (bg 2)) (ac (pFz (bg 3)) ak)))))))
theorem pG(c0 c1 m:Int)(Q:PV->PV->Prop)(h:cr (.own [.int c0,.int c1]) ([.int m]) Q):rm fZ k6 (.own [.int c0,.int c1]) ([.int m]) Q:=by
 show fZ _ [some (.own [.int c0,.int c1]),some (.dat (.int m)),none,none];obtain⟨g,⟨hm,hm2⟩,q⟩:=h;walk_at "r";rintro x ⟨a,b⟩ hs hx0 hx1
 obtain⟨ls,hls,hl1,hl2,hL⟩:∃ls:List Nat,atI [D.str [97,98],D.str [97,98,99],D.str [97,98,99,100,101,102,103,104,105,106,107,108,109,110,111,112,113,114,115,116,117,118,119,120,121,122]] x=some (.str ls)/\0<ls.length/\ls.length<=26/\Lts ls:=by
  have lt:∀l:List Nat,(l.all fun c=>decide (97<=c) && decide (c<=122))=true->Lts l:=fun l h c hc=>by
   have:=all_eq_true.mp h c hc;rw [and_eq_true,decide_eq_true_eq,decide_eq_true_eq] at this;exact this
  rcases (show x=0\/x=1\/x=2 by omega) with h|h|h <;> rw [h]
  all_goals exact⟨_,rfl,by decide,by decide,lt _ (by decide)⟩
 have gl:0<ls.length/\ls.length<=26/\Lts ls:=⟨hl1,hl2,hL⟩
 have g3:0<3*m/\3*m<=10000:=⟨by omega,by omega⟩
 walk_at "r";refine⟨_,hls,?_⟩;walk_at "r";rintro w ⟨a2,b2⟩ hs2 hw0 hw1 hwL;walk_at "r"
 refine⟨fun ρ=>∃(u:List Nat) (s:Int×Int),SOk s/\0<u.length/\u.length<=100000/\Lts u/\ρ=[some (stv s),some (.dat (.int m)),some (.dat (.str ls)),some (.dat (.str u))],?_,?_⟩
 .walk_at "r";rintro y ⟨a3,b3⟩ hs3 hy0 hy1;walk_at "r"
  refine eR (fun c=>?_) (fun c=>?_)
  .walk_at "r";rintro z ⟨a4,b4⟩ hs4 hz0 hz1
   have ct:e6 w none (some (1+z))=w.take (1+z).toNat:=by
    obtain⟨n,hn⟩:∃n:Nat,1+z=(n:Int):=⟨(1+z).toNat,by omega⟩
    rw [hn,fF,toNat_natCast]
   have cl1:(w.take (1+z).toNat).length<=3:=by rw [length_take];omega
   have cl0:0<(w.take (1+z).toNat).length:=by rw [length_take];omega
   have w2:(-1000000:Int)<=m/\m<=1000000/\m.toNat*(e6 w none (some (1+z))).length<=1000000:=by
    refine⟨by omega,by omega,?_⟩;rw [ct];exact le_trans (mul_le_mul (show m.toNat<=100 by omega) cl1) (by decide)
   walk_at "r";rw [ct]
   refine⟨_,(a4,b4),hs4,?_,?_,(hwL.take _).rep _,rfl⟩
   .rw [iw];exact mul_pos (by omega) cl0
   .rw [iw];exact le_trans (mul_le_mul (show m.toNat<=100 by omega) cl1) (by decide)
  .exact⟨w,(a3,b3),hs3,hw0,by omega,hwL,rfl⟩
 .rintro ρ ⟨u,s,hs5,hu0,hu1,huL,rfl⟩;walk_at "r";exact q ls u s hs5 gl ⟨hu0,hu1,huL⟩
theorem qy:∀p ds Q,p.isOwn=true->cr p ds Q->rm fZ k6 p ds Q:=fun p ds Q _ h=>by
 unfold cr at h
 split at h
 .exact pG _ _ _ _ h
 .exact h.elim
def ei:PTS:=(aN (bx (bP cr 0 (ac (pFz (bg 2)) ak)) (nj 2 (gj (aw 3) (gj (aw 4) p5)))) (aN (bx (nV ak) (aw 5)) (aN (iP (zW (ac (pFz (bg 1)) ak)) (aw 6) (aN (bx (bP au 0 (ac (pFz (pC (.int 7))) ak)) (aw 7)) (aN (kA (gX (C6 (pB (pOp fGt (pSl 7) (pFz (pC (.int 4))))) (pB (pOp sK (pSl 5) (pFz (nV ak))))) (aN (bx (pOp fIx (pSl 5) (pFz (bP au 0 (ac (pFz (pCB gW (ac (pSl 5) ak))) ak)))) (aw 8)) (gX (pB (pOp si (pSl 7) (pFz (pC (.int 6))))) (bx (bP cv 0 (ac (pFz (bg 8)) (ac (pFz (bg 2)) ak))) (aw 8)) bS)) (gX (pB (pOp si (pSl 7) (pFz (pC (.int 0))))) (bx (bP bn 0 (ac (pFz (bg 3)) (ac (pFz (bg 2)) ak))) (aw 8)) (gX (pB (pOp si (pSl 7) (pFz (pC (.int 1))))) (aN (bx (bP bn 0 (ac (pFz (bg 3)) (ac (pFz (pOp Dy (pFz (pOp gE (pSl 2) (pFz (pC (.int 1))))) (pFz (pC (.int 2))))) ak))) (aw 8)) (bx (pOp gE (pSl 8) (pFz (dU (pFz (a9 aG (ac (pFz (bg 8)) ak))) (dB (bP au 0 (ac (pFz (pC (.int 2))) ak))) dX))) (aw 8))) (bx (bP cv 0 (ac (pFz (bg 4)) (ac (pFz (bg 2)) ak))) (aw 8)))))) (aN (kA (gX (pB (pOp si (pFz (bP au 0 (ac (pFz (pC (.int 2))) ak))) (pFz (pC (.int 1))))) (bx (a9 aG (ac (pFz (bg 8)) ak)) (aw 8)) bS)) (kz (zX 5 (dU (pSl 8) dX (dB (bg 2))))))))) (bD (bg 5)))))
theorem lM(c0 c1 n m:Int)(Q:PV->PV->Prop)(h:bF (.own [.int c0,.int c1]) ([.int n,.int m]) Q):rm ei i6 (.own [.int c0,.int c1]) ([.int n,.int m]) Q:=by
 show ei _ [some (.own [.int c0,.int c1]),some (.dat (.int n)),some (.dat (.int m)),none,none,none,none,none,none];obtain⟨g,⟨hn0,hn1,hm0,hm1⟩,q⟩:=h;obtain⟨N,rfl⟩:∃N:Nat,n=(N:Int):=⟨n.toNat,by omega⟩
 have gm:0<m/\m<=100:=⟨hm0,by omega⟩
 have gm2:0<m/\m<=10000:=⟨hm0,by omega⟩
 walk_at "r";rintro ls b ⟨a1,b1⟩ hs1 hls hb;walk_at "r";rw [toNat_natCast]
 refine⟨fun k ρ=>∃(ps:List (List Nat)) (s:Int×Int) (v6 v7 v8:Option PV),SOk s/\ps.length=k/\Pcs m.toNat ps/\ρ=[some (stv s),some (.dat (.int (N:Int))),some (.dat (.int m)),some (.dat (.str ls)),some (.dat (.str b)),some (.own (ps.map .str)),v6,v7,v8],⟨[],(a1,b1),_,_,_,hs1,rfl,(fun w hw=>nomatch hw),rfl⟩,?_,?_⟩
 .rintro k ρ _ hk rfl ⟨ps,⟨a2,b2⟩,v6,v7,v8,hs2,hpl,hps,rfl⟩;have hpm:(ps.map D.str).length=ps.length:=length_map _;have e1:vF (.lst (ps.map .str)) (.lst []):=qo fun w hw=>(hps w hw).2.2;have e2:=pz ps;walk_at "r";rintro y ⟨a3,b3⟩ hs3 hy0 hy1;walk_at "r"
  refine⟨fun ρ=>∃(p:List Nat) (s:Int×Int),SOk s/\0<p.length/\p.length<=1000/\Lts p/\ρ=[some (stv s),some (.dat (.int (N:Int))),some (.dat (.int m)),some (.dat (.str ls)),some (.dat (.str b)),some (.own (ps.map .str)),some (.dat (.int (k:Int))),some (.dat (.int y)),some (.dat (.str p))],?_,?_⟩
  .have hbb:=hb.1;walk_at "r"
   refine eR (fun c=>?_) (fun c=>?_)
   .walk_at "r";rw [e2]
    refine um (fun c2=>?_) (fun c2=>?_)
    .have hp0:0<ps.length:=length_pos_iff.mpr c2;walk_at "r";rintro x ⟨a4,b4⟩ hs4 hx0 hx1;obtain⟨i,rfl⟩:∃i:Nat,x=(i:Int):=⟨x.toNat,by omega⟩
     have hi:i<ps.length:=by omega
     have hpi:=hps _ (gk hi);have hpl1:=hpi.2.1;walk_at "r";refine⟨_,cJ hi rfl,?_⟩;have gt:0<(pw ps i).length/\(pw ps i).length<=100000/\Lts (pw ps i):=⟨hpi.1,by omega,hpi.2.2⟩
     walk_at "r"
     refine eR (fun c3=>?_) (fun c3=>?_)
     .walk_at "r";rintro w s5 hs5 hw0 hw1 hwL;walk_at "r";exact⟨w,s5,hs5,hw0,by omega,hwL,rfl⟩
     .exact⟨_,(a4,b4),hs4,hpi.1,by omega,hpi.2.2,rfl⟩
    .walk_at "r";rintro w s5 hs5 hw0 hw1 hwL;walk_at "r";exact⟨w,s5,hs5,hw0,by omega,hwL,rfl⟩
   .walk_at "r"
    refine eR (fun c3=>?_) (fun c3=>?_)
    .walk_at "r";rintro w s5 hs5 hw0 hw1 hwL;walk_at "r";exact⟨w,s5,hs5,hw0,by omega,hwL,rfl⟩
    .walk_at "r"
     refine eR (fun c4=>?_) (fun c4=>?_)
     .have gh:0<(m+1) / 2/\(m+1) / 2<=10000:=⟨by omega,by omega⟩
      walk_at "r";rintro w ⟨a5,b5⟩ hs5 hw0 hw1 hwL;have hwl:w.length<=10000:=by omega
      walk_at "r";rintro z ⟨a6,b6⟩ hs6 hz0 hz1;have cz:=e7 w.reverse (some z) none;rw [length_reverse] at cz;walk_at "r";exact⟨_,(a6,b6),hs6,by rw [length_append];omega,by rw [length_append];omega,hwL.app ((vA hwL).cut _ _),rfl⟩
     .walk_at "r";rintro w s5 hs5 hw0 hw1 hwL;walk_at "r";exact⟨w,s5,hs5,hw0,by omega,hwL,rfl⟩
  rintro ρ ⟨p,⟨a5,b5⟩,hs5,hp0,hp1,hpL,rfl⟩;have hp2:p.length<=10000:=by omega
  walk_at "r"
  refine⟨fun ρ=>∃(p:List Nat) (s:Int×Int),SOk s/\0<p.length/\p.length<=1000/\Lts p/\ρ=[some (stv s),some (.dat (.int (N:Int))),some (.dat (.int m)),some (.dat (.str ls)),some (.dat (.str b)),some (.own (ps.map .str)),some (.dat (.int (k:Int))),some (.dat (.int y)),some (.dat (.str p))],?_,?_⟩
  .walk_at "r";rintro z ⟨a6,b6⟩ hs6 hz0 hz1;walk_at "r"
   refine eR (fun c=>?_) (fun c=>?_)
   .walk_at "r";exact⟨_,(a6,b6),hs6,by rw [length_reverse];exact hp0,by rw [length_reverse];exact hp1,vA hpL,rfl⟩
   .exact⟨p,(a6,b6),hs6,hp0,hp1,hpL,rfl⟩
  clear hp0 hp1 hpL hp2 p;rintro ρ ⟨p,⟨a6,b6⟩,hs6,hp0,hp1,hpL,rfl⟩;have ct:e6 p none (some m)=p.take m.toNat:=wd p (by omega);walk_at "r";rw [ct];refine⟨ps++[_],(a6,b6),_,_,_,hs6,by rw [length_append,hpl];rfl,fun w hw=>?_,by rw [map_append];rfl⟩
  rcases mem_append.mp hw with h|h
  .exact hps w h
  .rw [mem_singleton.mp h];exact⟨by rw [length_take];omega,by rw [length_take];omega,hpL.take _⟩
 .rintro ρ ⟨ps,s,v6,v7,v8,hs2,hpl,hps,rfl⟩;walk_at "r";exact q ps s hs2 (by omega) hps
theorem nL:∀p ds Q,p.isOwn=true->bF p ds Q->rm ei i6 p ds Q:=fun p ds Q _ h=>by
 unfold bF at h
 split at h
 .exact lM _ _ _ _ _ h
 .exact h.elim
def hX:PTS:=(aN (iP (Dj (ac (pFz (pOp Cs (pFz (pCB uw (ac (pFz (pCB gW (ac (pSl 0) ak))) (ac (pFz (pCB gW (ac (pSl 1) ak))) ak)))) (pFz (pC (.int 1))))) (ac (pFz (pC (.int 0))) (ac (pFz (pUn z0 (pFz (pC (.int 1))))) ak)))) (aw 2) (gX (pB (pOp si (pFz (dU (pSl 0) (dB (pOp Cs (pFz (pCB gW (ac (pSl 0) ak))) (pSl 2))) dX)) (pFz (dU (pSl 1) dX (dB (bg 2)))))) (bD (bg 2)) bS)) (bD (pC (.int 0))))
theorem qz(a b:List Nat)(Q:PV->Prop)(h:bQ ([.str a,.str b]) Q):eA hX mB ([.str a,.str b]) Q:=by
 show hX _ [some (.dat (.str a)),some (.dat (.str b)),none];obtain⟨a1,⟨b0,b1⟩,q⟩:=h;have hm:(if (b.length:Int)<(a.length:Int) then (b.length:Int) else (a.length:Int))=((min a.length b.length:Nat):Int):=by split <;> omega
 walk_at "r";rw [hm]
 refine⟨fun i ρ=>(∃v2:Option PV,ρ=[some (.dat (.str a)),some (.dat (.str b)),v2])/\∀j,min a.length b.length - i<=j->j<min a.length b.length->¬ b.take j <:+ a,⟨⟨_,rfl⟩,fun j h1 h2=>by omega⟩,?_,?_⟩
 .rintro i ρ d hi ed ⟨⟨v2,rfl⟩,ih⟩;obtain⟨k,hk,hk2⟩:∃k:Nat,(((min a.length b.length:Nat):Int) - 1) - (i:Int)=(k:Int)/\k=min a.length b.length - 1 - i:=⟨min a.length b.length - 1 - i,by omega,rfl⟩
  have hk0:0<k:=by omega
  rw [hk] at ed;subst ed;have cd:e6 a (some ((a.length:Int) - (k:Int))) none=a.drop (a.length - k):=by rw [show (a.length:Int) - (k:Int)=((a.length - k:Nat):Int) by omega,oq]
  have ct:=fF b k;walk_at "r";rw [cd,ct]
  refine eR (fun c=>?_) (fun c=>?_)
  .walk_at "r"
   rw [show nr a b=k from nu ⟨by omega,by rw [<- c];exact drop_suffix ..,fun j h1 h2=>by
    rcases lt_or_ge k j with h|h
    .exact absurd h2 (ih j (by omega) h1)
    .exact h⟩] at q
   exact q
  .refine⟨⟨_,rfl⟩,fun j h1 h2=>?_⟩
   by_cases hj:j=k
   .subst hj;intro z;refine c ?_;obtain⟨t,ht⟩:=z;have hl:=congrArg List.length ht;rw [length_append,length_take] at hl;rw [<- ht,show (t++b.take j).length - j=t.length by rw [length_append,length_take];omega,drop_left]
   .exact ih j (by omega) h2
 .rintro ρ ⟨⟨v2,rfl⟩,ih⟩;walk_at "r"
  by_cases a0:0<a.length
  .rw [show nr a b=0 from nu ⟨by omega,by rw [take_zero];exact nil_suffix,fun j h1 h2=>by
    rcases lt_or_ge 0 j with h|h
    .exact absurd h2 (ih j (by omega) h1)
    .exact h⟩] at q
   exact q
  .rw [show nr a b=0 by
    unfold nr;rw [dif_neg];rintro⟨k,hk⟩;have:=hk.1;omega] at q
   exact q
theorem sF:∀ds Q,bQ ds Q->eA hX mB ds Q:=fun ds Q h=>by
 unfold bQ at h
 split at h
 .exact qz _ _ _ h
 .exact h.elim
def dN:PTS:=(aN (bx (pOp fIx (pSl 0) (pSl 1)) (aw 2)) (aN (bx (a9 aG (ac (pFz (bg 2)) ak)) (aw 3)) (aN (iP (eS (bg 0)) (aw 4) (gX (C6 (pB (pOp fGt (pFz (pCB gW (ac (pSl 4) ak))) (pFz (pCB gW (ac (pSl 2) ak))))) (pOr (pB (pOp fGe (pFz (pSM jL (bg 4) (ac (pSl 2) ak))) (pFz (pC (.int 0))))) (pB (pOp fGe (pFz (pSM jL (bg 4) (ac (pSl 3) ak))) (pFz (pC (.int 0))))))) (bD (pC (.bl true))) bS)) (bD (C7 (pOp (xM false) (pSl 2) (pFz (dU (pSl 0) dX (dB (bg 1))))) (pOp (xM false) (pSl 3) (pFz (dU (pSl 0) dX (dB (bg 1))))))))))
theorem lh(ds:List D)(i:Int)(Q:PV->Prop)(h:bc ([.lst ds,.int i]) Q):eA dN ik ([.lst ds,.int i]) Q:=by
 show dN _ [some (.dat (.lst ds)),some (.dat (.int i)),none,none,none];obtain⟨ws,rfl,⟨hn,hw⟩,hi,q⟩:=h;obtain⟨k,rfl⟩:∃k:Nat,i=(k:Int):=⟨i.toNat,by omega⟩
 have hk:k<ws.length:=by omega
 rw [toNat_natCast] at q;have w1:=hw _ (gk hk);have c1:e6 (ws.map D.str) none (some (k:Int))=(ws.take k).map D.str:=by rw [fF,map_take]
 have hfl:(e6 (ws.map D.str) none (some (k:Int))).all D.fl=true:=by rw [c1];exact uR _
 have hin:∀u,inD (.str u) (e6 (ws.map D.str) none (some (k:Int)))=decide (u∈ws.take k):=fun u=>by rw [c1];exact nv _ _
 walk_at "r";refine⟨_,cJ hk rfl,?_⟩;walk_at "r"
 refine DM (fun pre ρ=>(∃v4:Option PV,ρ=[some (.dat (.lst (ws.map .str))),some (.dat (.int (k:Int))),some (.dat (.str (pw ws k))),some (.dat (.str (pw ws k).reverse)),v4])/\∀o∈pre,(pw ws k).length<o.length->iJ (pw ws k) o=false) ⟨⟨_,rfl⟩,fun o ho=>nomatch ho⟩ ?_ ?_
 .rintro pre o suf ρ ew ⟨⟨v4,rfl⟩,ih⟩;have ho:o∈ws:=by rw [ew];simp
  have w2:=hw o ho
  have keep:((pw ws k).length<o.length->iJ (pw ws k) o=false)->∀o'∈pre++[o],(pw ws k).length<o'.length->iJ (pw ws k) o'=false:=fun h o' ho'=>by
   rcases mem_append.mp ho' with z|z
   .exact ih o' z
   .rw [mem_singleton.mp z];exact h
  have found:(pw ws k).length<o.length->iJ (pw ws k) o=true->gO ws k=false:=fun h1 h2=>by
   cases e:gO ws k with
   | false=>rfl
   | true =>
    have:=(iX.mp e).2 o ho h1;rw [h2] at this;cases this
  walk_at "r"
  refine eR (fun c=>?_) (fun c=>?_)
  .walk_at "r"
   refine eR (fun c2=>?_) (fun c2=>?_)
   .walk_at "r";rw [found (by omega) (by unfold iJ;rw [kJ.mpr (by omega),Bool.true_or])] at q;exact q
   .walk_at "r"
    refine eR (fun c3=>?_) (fun c3=>?_)
    .walk_at "r";rw [found (by omega) (by unfold iJ;rw [(kJ (a:=(pw ws k).reverse)).mpr (by omega),Bool.or_true])] at q;exact q
    .exact⟨⟨_,rfl⟩,keep fun _=>by unfold iJ;rw [iW.mpr (by omega),(iW (a:=(pw ws k).reverse)).mpr (by omega)];rfl⟩
  .exact⟨⟨_,rfl⟩,keep fun z=>by omega⟩
 .rintro ρ ⟨⟨v4,rfl⟩,ih⟩
  have hq:gO ws k=!o7 ws k:=by
   cases e:o7 ws k with
   | true =>
    cases e2:gO ws k with
    | false=>rfl
    | true=>have:=(iX.mp e2).1;rw [e] at this;cases this
   | false=>exact iX.mpr ⟨e,ih⟩
  rw [hq,not_not] at q;unfold o7 at q;walk_at "r";rw [hin]
  cases e1:decide (pw ws k∈ws.take k) with
  | true =>
   rw [e1] at q;walk_at "r";exact q
  | false =>
   rw [e1,Bool.false_or] at q;walk_at "r";rw [hin];exact q
theorem lN:∀ds Q,bc ds Q->eA dN ik ds Q:=fun ds Q h=>by
 unfold bc at h
 split at h
 .exact lh _ _ _ h
 .exact h.elim
def f7:PTS:=(bD (gD [none,some 0] (zW (ac (pFz (pCB gW (ac (pSl 0) ak))) ak)) (aw 0) (lB (pB (a9 bc (ac (pFz (bg 1)) (ac (pFz (bg 0)) ak))))) (bg 0)))
theorem pH(ds:List D)(Q:PV->Prop)(h:bW ([.lst ds]) Q):eA f7 k7 ([.lst ds]) Q:=by
 show f7 _ [some (.dat (.lst ds))];obtain⟨ws,rfl,hw,q⟩:=h;have hlm:(ws.map D.str).length=ws.length:=length_map _;walk_at "r"
 refine cfR (gO ws) nD ?_ ?_
 .intro j hj v K1 K2 k1 k2;have hj2:j<ws.length:=by omega
  walk_at "r";rw [toNat_natCast]
  cases hc:gO ws j with
  | true=>walk_at "r";exact k1 _ hc
  | false=>walk_at "r";exact k2 _ hc
 .intro v;walk_at "r";rw [hlm,toNat_natCast];exact q
theorem qA:∀ds Q,bW ds Q->eA f7 k7 ds Q:=fun ds Q h=>by
 unfold bW at h
 split at h
 .exact pH _ _ h
 .exact h.elim
def eX:PTS:=(bD (se (wy .int (pSl 0)) (wv (wy .bool (pSl 0)))))
theorem nM(z:Int)(Q:PV->Prop)(h:aL ([.int z]) Q):eA eX jO ([.int z]) Q:=by
 show eX _ [some (.dat (.int z))];walk_at "r";exact h
theorem pI:∀ds Q,aL ds Q->eA eX jO ds Q:=fun ds Q h=>by
 unfold aL at h
 split at h
 .exact nM _ _ h
 .exact h.elim
def ej:PTS:=(aN (bx (nV ak) (aw 1)) (aN (iP (eS (bg 0)) (aw 2) (kz (DO 1 (nV (ac (pFz (bg 2)) (ac (pFz (a9 aG (ac (pFz (bg 2)) ak))) ak)))))) (bD (bg 1))))
theorem lO(d:D)(Q:PV->Prop)(h:bv ([d]) Q):eA ej i7 ([d]) Q:=by
 show ej _ [some (.dat (d)),none,none];obtain⟨ws,hd,⟨hn,hw⟩,q⟩:=h;walk_at "r";refine BJ hd ?_
 refine DM (fun pre ρ=>∃v2:Option PV,ρ=[some (.dat d),some (.own ((cj pre).map .str)),v2]) ⟨_,rfl⟩ ?_ ?_
 .rintro pre w suf ρ ew ⟨v2,rfl⟩;have w1:=hw w (by rw [ew];simp);have hl:=eI pre;have hl2:pre.length<=ws.length:=by rw [ew,length_append];omega
  walk_at "r";exact⟨_,by rw [kM,map_append];rfl⟩
 .rintro ρ ⟨v2,rfl⟩;walk_at "r";exact q
theorem nN:∀ds Q,bv ds Q->eA ej i7 ds Q:=fun ds Q h=>by
 unfold bv at h
 split at h
 .exact lO _ _ h
 .exact h.elim
def f8:PTS:=(aN (bx (nV ak) (aw 2)) (aN (iP (zW (ac (pFz (pCB gW (ac (pSl 0) ak))) ak)) (aw 3) (gX (pB (pOp (xM true) (pSl 3) (pSl 1))) (aN (bx (nV (ac (pFz (pOp fIx (pSl 0) (pSl 3))) (ac (pFz (a9 aG (ac (pFz (pOp fIx (pSl 0) (pSl 3))) ak))) ak))) (aw 4)) (aN (bx (pOp fIx (pFz (gD [none,some 4,some 0] (eS (bg 1)) (aw 0) (pB (pOp fGe (pFz (pCB za (ac (pFz (gD [none,some 2,some 0] (eS (bg 1)) (aw 0) oK (pSM jL (pOp fIx (pSl 1) (pSl 2)) (ac (pSl 0) ak)))) ak))) (pFz (pC (.int 0))))) (bg 0))) (pFz (pC (.int 0)))) (aw 5)) (aN (bx (pCB y8 (ac (pFz (pOp fLt (pFz (pSM jL (pOp fIx (pSl 0) (pSl 5)) (ac (pFz (pOp fIx (pSl 4) (pFz (pC (.int 0))))) ak))) (pFz (pC (.int 0))))) ak)) (aw 6)) (kz (zX 2 (vE (ac (pFz (bg 3)) (ac (pFz (bg 5)) (ac (pFz (pSM jL (pOp fIx (pSl 0) (pSl 5)) (ac (pFz (pOp fIx (pSl 4) (pSl 6))) ak))) (ac (pFz (bg 6)) ak)))))))))) bS)) (bD (bg 2))))
theorem pJ(ds ks:List D)(Q:PV->Prop)(h:bX ([.lst ds,.lst ks]) Q):eA f8 k8 ([.lst ds,.lst ks]) Q:=by
 show f8 _ [some (.dat (.lst ds)),some (.dat (.lst ks)),none,none,none,none,none];obtain⟨ws,rfl,rfl,⟨hn,hw⟩,q⟩:=h;have hlm:(ws.map D.str).length=ws.length:=length_map _;have hkl:=eH ws;have hfl:((bi ws).map nD).all D.fl=true:=BL _;walk_at "r";rw [hlm,toNat_natCast]
 refine⟨fun k ρ=>∃v3 v4 v5 v6:Option PV,ρ=[some (.dat (.lst (ws.map .str))),some (.dat (.lst ((bi ws).map nD))),some (.own (((List.range k).filter fun j=>!decide (j∈bi ws)).map (cA ws))),v3,v4,v5,v6],⟨_,_,_,_,rfl⟩,?_,?_⟩
 .rintro k ρ _ hk rfl ⟨v3,v4,v5,v6,rfl⟩;have hin:=uQ k (bi ws);have w1:(pw ws k).length<=10000:=le_trans (hw _ (gk hk)) (by decide);have hrl:(((List.range k).filter fun j=>!decide (j∈bi ws)).map (cA ws)).length<=k:=by rw [length_map];exact le_trans (length_filter_le ..) (by rw [length_range];exact le_refl _)
  walk_at "r"
  refine mW (zT (fun c=>?_) (fun c=>?_))
  .have c:inD (.int (k:Int)) ((bi ws).map nD)=true:=c;rw [hin] at c;exact⟨_,_,_,_,by rw [range_succ,filter_append,filter_cons,if_neg (by rw [c];decide),filter_nil,append_nil]⟩
  .have c:inD (.int (k:Int)) ((bi ws).map nD)=false:=c;rw [hin] at c;walk_at "r";refine⟨_,cJ hk rfl,?_⟩;walk_at "r";refine⟨_,cJ hk rfl,?_⟩;walk_at "r";obtain⟨h0,hh0⟩:=kL hw hk
   have hat:atI (((bi ws).filter fun j=>iJ (pw ws k) (pw ws j)).map nD) 0=some (nD (dE ws k)):=by
    unfold dE;have:0<(dJ ws k).length:=length_pos_of_mem hh0;show atI ((dJ ws k).map nD) 0=_
    cases e:dJ ws k with
    | nil=>rw [e] at this;cases this
    | cons a r=>exact l6 (j:=0) rfl rfl
   have hm:dE ws k∈dJ ws k:=by
    unfold dE
    cases e:dJ ws k with
    | nil=>rw [e] at hh0;cases hh0
    | cons a r=>exact mem_cons_self ..
   have hz2:dE ws k<ws.length:=dD (mem_filter.mp hm).1
   have fin:∀d:D,d=cA ws k->((List.range (k+1)).filter fun j=>!decide (j∈bi ws)).map (cA ws)=((List.range k).filter fun j=>!decide (j∈bi ws)).map (cA ws)++[d]:=fun d hd=>by
    rw [range_succ,filter_append,filter_cons,if_pos (by rw [c];rfl),filter_nil,map_append,hd];rfl
   refine cfX (fun τ=>∃(v:Option PV) (w:PV),(w=.own [.str (pw ws k),.str (pw ws k).reverse]\/w=.dat (.lst [.str (pw ws k),.str (pw ws k).reverse]))/\τ=[v,some w,some (.dat (.lst (ws.map .str)))]) (fun j:Nat=>iJ (pw ws k) (pw ws j)) nD ⟨_,_,.inl rfl,rfl⟩ ?_ ?_
   .rintro j hj τ ⟨v,w,hcw,rfl⟩ K1 K2 k1 k2;have hj2:=dD hj
    have two:∀m:Int,m∈[fnd (pw ws j) (pw ws k) 0,fnd (pw ws j) (pw ws k).reverse 0]->(∀a∈[fnd (pw ws j) (pw ws k) 0,fnd (pw ws j) (pw ws k).reverse 0],a<=m)->decide (0<=m)=iJ (pw ws k) (pw ws j):=fun m hm hge=>by
     have h1:=hge _ (mem_cons_self ..);have h2:=hge _ (mem_cons_of_mem _ (mem_cons_self ..));unfold iJ
     by_cases z:0<=m
     .rw [decide_eq_true z];simp only [mem_cons,not_mem_nil,or_false] at hm
      rcases hm with rfl|rfl
      .rw [kJ.mpr (by omega),Bool.true_or]
      .rw [(kJ (a:=(pw ws k).reverse)).mpr (by omega),Bool.or_true]
     .rw [decide_eq_false z,iW.mpr (by omega),(iW (a:=(pw ws k).reverse)).mpr (by omega)];rfl
    have ln2:0<[fnd (pw ws j) (pw ws k) 0,fnd (pw ws j) (pw ws k).reverse 0].length:=zero_lt_succ _;rcases hcw with rfl|rfl
    all_goals
     walk_at "r"
     refine cm1 (e:=D.str) (xs:=[pw ws k,(pw ws k).reverse]) (fun t=>.int (fnd (pw ws j) t 0)) ?_ ?_
     .intro t ht v K3 k3;walk_at "r";refine⟨_,cJ hj2 rfl,?_⟩;walk_at "r";exact k3 _
     intro v;walk_at "r";refine⟨[fnd (pw ws j) (pw ws k) 0,fnd (pw ws j) (pw ws k).reverse 0],rfl,ln2,fun m hm hge=>?_⟩;walk_at "r";rw [two m hm hge]
     cases hc:iJ (pw ws k) (pw ws j) with
     | true=>walk_at "r";exact k1 _ hc ⟨_,_,.inr rfl,rfl⟩
     | false=>exact k2 _ hc ⟨_,_,.inr rfl,rfl⟩
   rintro τ ⟨v,w,hcw,rfl⟩;rcases hcw with rfl|rfl
   all_goals
    walk_at "r";refine⟨_,hat,?_⟩;walk_at "r";refine⟨_,cJ hz2 rfl,?_⟩;walk_at "r"
    by_cases hb:fnd (pw ws (dE ws k)) (pw ws k) 0<0
    .have hw1:xh ws k=1:=by unfold xh;rw [if_neg (by rw [iW.mpr hb];decide)]
     rw [decide_eq_true hb];walk_at "r";refine⟨_,cJ hz2 rfl,?_⟩;walk_at "r";exact⟨_,_,_,_,by rw [fin _ (by unfold cA;rw [hw1])];rfl⟩
    .have hw1:xh ws k=0:=by unfold xh;rw [if_pos (kJ.mpr (by omega))]
     rw [decide_eq_false hb];walk_at "r";refine⟨_,cJ hz2 rfl,?_⟩;walk_at "r";exact⟨_,_,_,_,by rw [fin _ (by unfold cA;rw [hw1])];rfl⟩
 .rintro ρ ⟨v3,v4,v5,v6,rfl⟩;walk_at "r";exact q
theorem qB:∀ds Q,bX ds Q->eA f8 k8 ds Q:=fun ds Q h=>by
 unfold bX at h
 split at h
 .exact pJ _ _ _ h
 .exact h.elim
def dO:PTS:=(aN (gX (pOr (lB (pB (wy .tuple (pSl 0)))) (pB (pOp sK (pFz (pCB gW (ac (pSl 0) ak))) (pFz (pCB gW (ac (pSl 1) ak)))))) (bD (pC (.bl false))) bS) (aN (iP (uM (ac (pFz (bg 0)) (ac (pFz (bg 1)) ak))) (nj 2 (gj (aw 2) (gj (aw 3) p5))) (gX (pOr (lB (pB (a9 aL (ac (pFz (bg 2)) ak)))) (pB (pOp sK (pSl 2) (pSl 3)))) (bD (pC (.bl false))) bS)) (bD (pC (.bl true)))))
theorem li(ds:List D)(e:D)(Q:PV->Prop)(h:aV ([.tup ds,e]) Q):eA dO il ([.tup ds,e]) Q:=by
 show dO _ [some (.dat (.tup ds)),some (.dat (e)),none,none];obtain⟨zs,rfl,he,hl,q⟩:=h;have hlm:(zs.map D.int).length=zs.length:=length_map _
 rcases he with rfl|rfl
 .walk_at "r"
  refine⟨fun k ρ=>∃v2 v3:Option PV,ρ=[some (.dat (.tup (zs.map .int))),some (.dat (.lst (zs.map .int))),v2,v3],⟨_,_,rfl⟩,?_,?_⟩
  .rintro k ρ d hk ed ⟨v2,v3,rfl⟩;have hk:k<(zs.map D.int).length:=by omega
   have ed:d=.tup [itD (zs.map D.int) k,itD (zs.map D.int) k]:=ed;rw [uD hk] at ed;subst ed;walk_at "r";exact⟨_,_,rfl⟩
  .rintro ρ ⟨v2,v3,rfl⟩;walk_at "r";exact q
 .walk_at "r"
  refine⟨fun k ρ=>∃v2 v3:Option PV,ρ=[some (.dat (.tup (zs.map .int))),some (.dat (.tup (zs.map .int))),v2,v3],⟨_,_,rfl⟩,?_,?_⟩
  .rintro k ρ d hk ed ⟨v2,v3,rfl⟩;have hk:k<(zs.map D.int).length:=by omega
   have ed:d=.tup [itD (zs.map D.int) k,itD (zs.map D.int) k]:=ed;rw [uD hk] at ed;subst ed;walk_at "r";exact⟨_,_,rfl⟩
  .rintro ρ ⟨v2,v3,rfl⟩;walk_at "r";exact q
theorem lP:∀ds Q,aV ds Q->eA dO il ds Q:=fun ds Q h=>by
 unfold aV at h
 split at h
 .exact li _ _ _ h
 .exact h.elim
def f9:PTS:=(aN (gX (pOr (lB (pB (wy .tuple (pSl 0)))) (pB (pOp sK (pFz (pCB gW (ac (pSl 0) ak))) (pFz (pCB gW (ac (pSl 1) ak)))))) (bD (pC (.bl false))) bS) (aN (iP (uM (ac (pFz (bg 0)) (ac (pFz (bg 1)) ak))) (nj 2 (gj (aw 2) (gj (aw 3) p5))) (gX (lB (pB (a9 aV (ac (pFz (bg 2)) (ac (pFz (bg 3)) ak))))) (bD (pC (.bl false))) bS)) (bD (pC (.bl true)))))
theorem pK(ds es:List D)(Q:PV->Prop)(h:bE ([.tup ds,.lst es]) Q):eA f9 k9 ([.tup ds,.lst es]) Q:=by
 show f9 _ [some (.dat (.tup ds)),some (.dat (.lst es)),none,none];obtain⟨rs,b,rfl,rfl,⟨hl,hr⟩,q⟩:=h;have hlm:(rs.map (mkR true)).length=rs.length:=length_map _;have hlm2:(rs.map (mkR b)).length=rs.length:=length_map _;walk_at "r"
 refine⟨fun k ρ=>∃v2 v3:Option PV,ρ=[some (.dat (.tup (rs.map (mkR true)))),some (.dat (.lst (rs.map (mkR b)))),v2,v3],⟨_,_,rfl⟩,?_,?_⟩
 .rintro k ρ d hk ed ⟨v2,v3,rfl⟩;have hk:k<rs.length:=by omega
  have ed:d=.tup [itD (rs.map (mkR true)) k,itD (rs.map (mkR b)) k]:=ed;rw [nH hk,nH hk] at ed;subst ed;have h1:=hr _ (getElem_mem hk);generalize rs[k]=r at h1 ⊢;walk_at "r";refine⟨Cd b r,h1,?_⟩;walk_at "r";exact⟨_,_,rfl⟩
 .rintro ρ ⟨v2,v3,rfl⟩;walk_at "r";exact q
theorem qC:∀ds Q,bE ds Q->eA f9 k9 ds Q:=fun ds Q h=>by
 unfold bE at h
 split at h
 .exact pK _ _ _ h
 .exact h.elim
def gb:PTS:=(aN (bx (a9 bW (ac (pFz (bg 1)) ak)) (aw 2)) (aN (bx (pCB eV (ac (pFz (gD [none,some 1] (eS (bg 2)) (aw 0) oK (pOp fIx (pSl 1) (pSl 0)))) ak)) (aw 3)) (aN (bx (a9 bv (ac (pFz (bg 3)) ak)) (aw 4)) (aN (gX (pOr (lB (pB (wy .tuple (pFz (lE "Turnable" ["pieces","kept","words","left","states","laps","total"] 0 (pSl 0)))))) (pB (pOp sK (pFz (lE "Turnable" ["pieces","kept","words","left","states","laps","total"] 0 (pSl 0))) (pFz (pCB eV (ac (pSl 1) ak)))))) (bD (pC (.bl false))) bS) (aN (gX (pOr (lB (pB (wy .tuple (pFz (lE "Turnable" ["pieces","kept","words","left","states","laps","total"] 2 (pSl 0)))))) (pOr (pB (pOp sK (pFz (lE "Turnable" ["pieces","kept","words","left","states","laps","total"] 2 (pSl 0))) (pSl 3))) (lB (pB (a9 aV (ac (pFz (lE "Turnable" ["pieces","kept","words","left","states","laps","total"] 1 (pSl 0))) (ac (pFz (bg 2)) ak))))))) (bD (pC (.bl false))) bS) (aN (gX (lB (pB (a9 bE (ac (pFz (lE "Turnable" ["pieces","kept","words","left","states","laps","total"] 3 (pSl 0))) (ac (pFz (a9 bX (ac (pFz (bg 1)) (ac (pFz (bg 2)) ak)))) ak))))) (bD (pC (.bl false))) bS) (aN (gX (lB (pB (a9 bE (ac (pFz (lE "Turnable" ["pieces","kept","words","left","states","laps","total"] 5 (pSl 0))) (ac (pFz (gD [none,some 4] (eS (bg 4)) (aw 0) oK (gD [none,some 0] (eS (bg 1)) (aw 0) oK (a9 bQ (ac (pFz (bg 1)) (ac (pFz (bg 0)) ak)))))) ak))))) (bD (pC (.bl false))) bS) (aN (bx (pCB wA (ac (pFz (gD [none] (eS (bg 3)) (aw 0) oK (pCB gW (ac (pSl 0) ak)))) ak)) (aw 5)) (aN (gX (pOr (lB (pB (a9 aL (ac (pFz (lE "Turnable" ["pieces","kept","words","left","states","laps","total"] 6 (pSl 0))) ak)))) (pB (pOp sK (pFz (lE "Turnable" ["pieces","kept","words","left","states","laps","total"] 6 (pSl 0))) (pSl 5)))) (bD (pC (.bl false))) bS) (bD (se (a9 aL (ac (pFz (uB "Turnable" ["pieces","kept","words","left","states","laps","total"] aP (bg 0) ak)) ak)) (pOp si (pFz (uB "Turnable" ["pieces","kept","words","left","states","laps","total"] aP (bg 0) ak)) (pFz (pCB gW (ac (pSl 3) ak)))))))))))))))
theorem pL(c:Str)(ns:List Str)(fs ds:List D)(Q:PV->Prop)(h:bo ([.obj c ns fs,.lst ds]) Q):eA gb lc ([.obj c ns fs,.lst ds]) Q:=by
 show gb _ [some (.dat (.obj c ns fs)),some (.dat (.lst ds)),none,none,none,none];obtain⟨rfl,rfl,ws,rfl,rfl,⟨hn,hp⟩,q⟩:=h;have hlm:(ws.map D.str).length=ws.length:=length_map _;have hkl:=eH ws;have hwl:=o9 ws;have hwp:=o8 hp;have hsp:=kN hwp;have hsl:=eI (cL ws);have hk1:ws.length<=1000/\∀w∈ws,w.length<=10000:=⟨by omega,fun w hw=>by have:=(hp w hw).2.1;omega⟩
 have hk2:ws.length<=1000/\∀w∈ws,w.length<=60:=⟨by omega,fun w hw=>(hp w hw).2.1⟩
 have hk3:(cL ws).length<=1000/\∀w∈cL ws,w.length<=10000:=⟨by omega,fun w hw=>by have:=(hwp w hw).2.1;omega⟩
 have s1:=Sh.tupS hp.lts;have e1:=vF.of s1 s1;have q1:=nh s1;have s2:=Sh.tupS hwp.lts;have e2:=vF.of s2 s2;have q2:=nh s2;walk_at "r"
 refine cm1 (fun j=>.str (pw ws j)) ?_ ?_
 .intro j hj v K1 k1;walk_at "r";refine⟨_,cJ (dD hj) rfl,?_⟩;walk_at "r";exact k1 _
 intro v;have e3:(bi ws).map (fun j=>D.str (pw ws j))=(cL ws).map D.str:=by unfold cL;rw [map_map];rfl
 rw [e3];walk_at "r";rw [q1];walk_at "r";rw [q2];walk_at "r";refine⟨(bi ws).map fun j=>((j:Nat):Int),by rw [map_map];rfl,.inl (by rw [map_map];rfl),by rw [length_map];omega,?_⟩;walk_at "r";have hll:(kK ws).length<=ws.length:=le_trans (length_filter_le ..) (by rw [length_range];exact le_refl _)
 refine⟨(kK ws).map (fun i:Nat=>[(i:Int),(dE ws i:Int),fnd (pw ws (dE ws i)) (trn (pw ws i) (xh ws i)) 0,(xh ws i:Int)]),true,by rw [map_map];rfl,by rw [map_map];rfl,⟨by rw [length_map];omega,fun r hr=>?_⟩,?_⟩
 .obtain⟨i,_,rfl⟩:=mem_map.mp hr;show 4<=1000;omega
 walk_at "r"
 refine cm1 (fun w:List Nat=>.lst ((cj (cL ws)).map fun v=>.int (nr w v:Int))) ?_ ?_
 .intro w hw v K1 k1;have h1:=hsp w hw;have h1l:=h1.2.1;walk_at "r"
  refine cm1 (fun v:List Nat=>.int (nr w v:Int)) ?_ ?_
  .intro v hv vv K2 k2;have h2:=hsp v hv;have h2l:=h2.2.1;have h20:=h2.1;walk_at "r";exact k2 _
  intro v;exact k1 _
 intro v;walk_at "r"
 refine⟨(cj (cL ws)).map (fun w=>(cj (cL ws)).map fun v=>(nr w v:Int)),false,?_,?_,⟨by rw [length_map];omega,fun r hr=>?_⟩,?_⟩
 .rw [map_map];refine map_congr_left fun w _=>?_;show _=D.tup _;rw [map_map];rfl
 .rw [map_map];refine map_congr_left fun w _=>?_;show _=D.lst _;rw [map_map];rfl
 .obtain⟨i,_,rfl⟩:=mem_map.mp hr;rw [length_map];omega
 walk_at "r"
 refine cm1 (fun w:List Nat=>.int (w.length:Int)) ?_ ?_
 .intro w hw v K1 k1;have:=(hwp w hw).2.1;walk_at "r";exact k1 _
 intro v;rw [kI];have ht:xQ ws=((cL ws).map fun w=>(w.length:Int)).sum:=rfl;walk_at "r";rw [length_map,decide_eq_true rfl];exact q
theorem qD:∀ds Q,bo ds Q->eA gb lc ds Q:=fun ds Q h=>by
 unfold bo at h
 split at h
 .exact pL _ _ _ _ _ h
 .exact h.elim
def eo:PTS:=(aN (bx (pC .non) (aw 1)) (aN (B0 (zL aI) (ac (pFz (bg 0)) ak) (Ej xcs "GlueError" 2 (bx (bg 2) (aw 1)) BY)) (aN (gX (pOr (lB (pB (Eh xcs (pSl 1)))) (pB (B3 xcs ["NoOrder","NotApart","NotHeld"] (pSl 1)))) (bD (pC .non)) bS) (bD (bg 1)))))
theorem lQ(d:D)(Q:PV->Prop)(h:bf ([d]) Q):eA eo i8 ([d]) Q:=by
 show eo _ [some (.dat (d)),none,none];obtain⟨ds,hd,hs,h1,h2⟩:=h;have i1:nW "NoPiece" "GlueError"=true:=by decide +kernel
 have i2:nW "TooMany" "GlueError"=true:=by decide +kernel
 have i3:(["NoOrder","NotApart","NotHeld"]:List Str).any (nW "NoPiece")=false:=by decide +kernel
 have i4:(["NoOrder","NotApart","NotHeld"]:List Str).any (nW "TooMany")=false:=by decide +kernel
 walk_at "r"
 refine⟨ds,hd,hs,fun z=>?_,fun z=>?_⟩
 .walk_at "r";exact h1 z
 .obtain⟨k,hb,q⟩:=h2 z
  refine⟨fun j hj=>?_,fun hf=>?_⟩
  .have e:j=k:=by
    rcases lt_trichotomy j k with z|z|z
    .have:=hb.2.1 j z;rw [hj.2.2] at this;cases this
    .exact z
    .have:=hj.2.1 k z;rw [hb.2.2] at this;cases this
   subst e;walk_at "r";exact q
  .have:=hf k hb.1;rw [hb.2.2] at this;cases this
theorem nO:∀ds Q,bf ds Q->eA eo i8 ds Q:=fun ds Q h=>by
 unfold bf at h
 split at h
 .exact lQ _ _ h
 .exact h.elim
def dP:PTS:=(aN (bx (nV (ac (pFz (pC (.str []))) (ac (pFz (pOp rd (pFz (pC (.str [97]))) (pFz (pC (.int 61))))) (ac (pFz (pC (.str [97,66]))) (ac (pFz (pC (.str [97,32,98]))) (ac (pFz (pC (.int 7))) (ac (pFz (pUn z0 (pFz (pC (.int 1))))) (ac (pFz (pC .non)) (ac (pFz (pC (.bl true))) (ac (pFz (vE (ac (pFz (pC (.str [97]))) ak))) (ac (pFz (nV (ac (pFz (pC (.str [97,98]))) ak))) (ac (pFz (B7 [(Sum.inr (S [97]))] (ac (pFz (pC (.int 1))) ak))) (ac (pFz (pOp EC (pFz (pC (.int 10))) (pFz (pC (.int 30))))) (ac (pFz (pC (.str [97,98,99,49]))) ak)))))))))))))) (aw 2)) (aN (bx (bP au 0 (ac (pFz (pOp gE (pFz (pCB gW (ac (pSl 1) ak))) (pFz (pC (.int 1))))) ak)) (aw 3)) (aN (bx (pOp gE (pFz (pOp gE (pFz (dU (pSl 1) dX (dB (bg 3)))) (pFz (nV (ac (pFz (pOp fIx (pSl 2) (pFz (bP au 0 (ac (pFz (pCB gW (ac (pSl 2) ak))) ak))))) ak))))) (pFz (dU (pSl 1) (dB (bg 3)) dX))) (aw 4)) (aN (kA (gX (pB (pOp si (pFz (bP au 0 (ac (pFz (pC (.int 2))) ak))) (pFz (pC (.int 1))))) (bx (pOp gE (pSl 4) (pFz (nV (ac (pFz (pOp fIx (pSl 2) (pFz (bP au 0 (ac (pFz (pCB gW (ac (pSl 2) ak))) ak))))) ak)))) (aw 4)) bS)) (aN (bx (a9 bf (ac (pFz (pCB eV (ac (pFz (dU (pSl 4) dX (dB (pC (.int 40))))) ak))) ak)) (aw 5)) (aN (gX (pOr (lB (pB (BO xcs "NoPiece" (pSl 5)))) (pOr (pB (BO xcs "TooMany" (pSl 5))) (pOr (lB (pB (a9 aL (ac (pFz (uY xcs Ab "at" (pSl 5))) ak)))) (pB (pOp sK (pFz (uY xcs Ab "at" (pSl 5))) (pSl 3)))))) (bD (pC (.bl false))) bS) (aN (bx (pOp gE (pSl 4) (pFz (pOp rd (pFz (nV (ac (pFz (pC (.str [97]))) ak))) (pFz (pOp Cs (pFz (pC (.int 41))) (pFz (pCB gW (ac (pSl 4) ak)))))))) (aw 4)) (aN (bx (a9 bf (ac (pFz (bg 4)) ak)) (aw 5)) (bD (se (BO xcs "TooMany" (pSl 5)) (se (wv (BO xcs "NoPiece" (pSl 5))) (se (a9 aL (ac (pFz (uY xcs Ab "most" (pSl 5))) ak)) (pOp si (pFz (uY xcs Ab "most" (pSl 5))) (pFz (pC (.int 40))))))))))))))))
theorem lj(c0 c1:Int)(ds:List D)(Q:PV->PV->Prop)(h:bw (.own [.int c0,.int c1]) ([.lst ds]) Q):rm dP im (.own [.int c0,.int c1]) ([.lst ds]) Q:=by
 show dP _ [some (.own [.int c0,.int c1]),some (.dat (.lst ds)),none,none,none,none];obtain⟨g,ws,rfl,⟨hn,hp⟩,q⟩:=h;have hlm:(ws.map D.str).length=ws.length:=length_map _;walk_at "r";rintro x ⟨a,b⟩ hs hx0 hx1;obtain⟨x,rfl⟩:∃m:Nat,x=(m:Int):=⟨x.toNat,by omega⟩
 have hx:x<=ws.length:=by omega
 have ct:e6 (ws.map D.str) none (some (x:Int))=(ws.take x).map D.str:=by rw [fF,map_take]
 have cf:e6 (ws.map D.str) (some (x:Int)) none=(ws.drop x).map D.str:=by rw [oq,map_drop]
 have hlt2:(ws.take x).length=x:=by rw [length_take];omega
 have hld2:(ws.drop x).length=ws.length - x:=by rw [length_drop]
 have hlt:((ws.take x).map D.str).length=x:=by rw [length_map,length_take];omega
 have hld:((ws.drop x).map D.str).length=ws.length - x:=by rw [length_map,length_drop]
 walk_at "r";rintro y ⟨a,b⟩ hs hy0 hy1;have hy1:y<13:=hy1;obtain⟨y,rfl⟩:∃m:Nat,y=(m:Int):=⟨y.toNat,by omega⟩
 have hy:y<xT.length:=by show y<13;omega
 walk_at "r";refine⟨_,l6 (j:=y) (getElem?_eq_getElem (l:=xT) hy) rfl,?_⟩;have ho:=vB _ (getElem_mem hy);generalize xT[y]=d1 at ho ⊢;rw [ct];walk_at "r";rw [cf];walk_at "r"
 refine⟨fun ρ=>∃(T2:List D) (s:Int×Int),SOk s/\T2.length<=1/\(∀d∈T2,thD d)/\ρ=[some (stv s),some (.dat (.lst (ws.map .str))),some (.own xT),some (.dat (.int (x:Int))),some (.own ((ws.take x).map D.str++[d1]++((ws.drop x).map D.str++T2))),none],?_,?_⟩
 .walk_at "r";rintro z ⟨a,b⟩ hs hz0 hz1;walk_at "r"
  refine eR (fun c=>?_) (fun c=>?_)
  .walk_at "r";rintro y ⟨a,b⟩ hs hy0 hy1;have hy1:y<13:=hy1;obtain⟨y,rfl⟩:∃m:Nat,y=(m:Int):=⟨y.toNat,by omega⟩
   have hy:y<xT.length:=by show y<13;omega
   walk_at "r";refine⟨_,l6 (j:=y) (getElem?_eq_getElem (l:=xT) hy) rfl,?_⟩;have ho2:=vB _ (getElem_mem hy);generalize xT[y]=d2 at ho2 ⊢;walk_at "r";exact⟨[d2],(a,b),hs,le_refl _,fun d hd=>by rw [mem_singleton.mp hd];exact ho2.2,by simp only [append_assoc]⟩
  .exact⟨[],(a,b),hs,zero_le _,(fun d hd=>nomatch hd),by rw [append_nil]⟩
 rintro ρ ⟨T2,⟨a,b⟩,hs,hT,hT2,rfl⟩;have i1:nW "NoPiece" "NoPiece"=true:=by decide +kernel
 have i2:nW "NoPiece" "TooMany"=false:=by decide +kernel
 have i3:nW "TooMany" "TooMany"=true:=by decide +kernel
 have i4:nW "TooMany" "NoPiece"=false:=by decide +kernel
 have bd:=Ce (T:=(ws.drop x).map D.str++T2) hp hx ho.1
 have th:∀d∈(ws.take x).map D.str++[d1]++((ws.drop x).map D.str++T2),thD d:=fun d hd=>by
  rcases mem_append.mp hd with h|h
  .rcases mem_append.mp h with h|h
   .exact thD.strs (fun w hw=>hp w (mem_of_mem_take hw)) d h
   .rw [mem_singleton.mp h];exact ho.2
  .rcases mem_append.mp h with h|h
   .exact thD.strs (fun w hw=>hp w (mem_of_mem_drop hw)) d h
   .exact hT2 d h
 have tl:((ws.take x).map D.str++[d1]++((ws.drop x).map D.str++T2)).length=ws.length+1+T2.length:=by
  rw [length_append,length_append,length_append,hlt,hld];show x+1+_=_;omega
 generalize (ws.take x).map D.str++[d1]++((ws.drop x).map D.str++T2)=T at bd th tl ⊢;have c4:e6 T none (some 40)=T.take 40:=by rw [show (40:Int)=((40:Nat):Int) from rfl,fF]
 have l4:(T.take 40).length<=40:=by rw [length_take];omega
 have th4:Cc (T.take 40):=thD.ok (fun d hd=>th d (mem_of_mem_take hd)) (by omega);walk_at "r";rw [c4];refine⟨th4,fun z=>by omega,fun _=>⟨x,xk bd (by omega),?_⟩⟩;obtain⟨m,hm⟩:∃m:Nat,(41:Int) - (T.length:Int)=(m:Int):=⟨41 - T.length,by omega⟩
 have er:lD [D.str [97]] ((41:Int) - (T.length:Int))=(List.replicate m [97]).map D.str:=by
  rw [hm,wH,map_replicate]
 have lr:((List.replicate m [97]).map D.str).length=m:=by rw [length_map,length_replicate]
 have pr:Pcs 60 (List.replicate m [97]):=fun w hw=>by rw [eq_of_mem_replicate hw];exact⟨by decide,by decide,m9.mp (by decide)⟩
 walk_at "r";rw [er];have th5:Cc (T++(List.replicate m [97]).map D.str):=thD.ok (fun d hd=>(mem_append.mp hd).elim (th d) (thD.strs pr d)) (by rw [length_append,lr];omega);have l5:(T++(List.replicate m [97]).map D.str).length=41:=by rw [length_append,lr];omega
 walk_at "r";refine⟨fun _=>?_,fun z=>by omega⟩;walk_at "r";exact q (a,b) hs
theorem lR:∀p ds Q,p.isOwn=true->bw p ds Q->rm dP im p ds Q:=fun p ds Q _ h=>by
 unfold bw at h
 split at h
 .exact lj _ _ _ _ h
 .exact h.elim
def rF:PTS:=(aN (bx (nV ak) (aw 1)) (aN (iP (zW (ac (pFz (pCB yQ (ac (pFz (pC (.int 2))) (ac (pFz (pCB uw (ac (pFz (pC (.int 4))) (ac (pFz (pCB gW (ac (pSl 0) ak))) ak)))) ak)))) ak)) (aw 2) (aN (bx (a9 bu (ac (pFz (bg 0)) (ac (pFz (bg 2)) ak))) (aw 3)) (aN (bx (pOp fIx (pFz (nV (ac (pFz (vE (ac (pFz (pC (.int 13))) (ac (pFz (pC (.int 8))) ak)))) (ac (pFz (vE (ac (pFz (pC (.int 41))) (ac (pFz (pC (.int 4))) ak)))) (ac (pFz (vE (ac (pFz (pC (.int 6))) (ac (pFz (pC (.int 60))) ak)))) ak))))) (pFz (bP au 3 (ac (pFz (pC (.int 3))) ak)))) (aw 4)) (aN (bx (bP bF 3 (ac (pFz (bP au 3 (ac (pFz (pOp fIx (pSl 4) (pFz (pC (.int 0))))) ak))) (ac (pFz (pOp fIx (pSl 4) (pFz (pC (.int 1))))) ak))) (aw 5)) (aN (bx (pCB yV (ac (pSl 5) ak)) (aw 6)) (aN (kA (gX (pB (pOp si (pFz (bP au 3 (ac (pFz (pC (.int 2))) ak))) (pFz (pC (.int 1))))) (bx (y0 "Turnable" aT (ac (pFz (pCB eV (ac (pSl 5) ak))) ak)) (aw 7)) (bx (vn "Turnable" aT 6) (aw 7)))) (aN (gX (pOr (pB (pOp sK (pSl 6) (pSl 5))) (pOr (lB (pB (a9 bo (ac (pFz (bg 7)) (ac (pFz (bg 5)) ak))))) (lB (pB (bP bw 3 (ac (pFz (dU (pSl 5) dX (dB (pC (.int 39))))) ak)))))) (bD (pC (.bl false))) bS) (aN (kz (zX 6 (pC (.str [122,122])))) (aN (rf 6 (pC (.str [121,121,121])) (pC (.int 0))) (aN (kz (zX 1 (vE (ac (pFz (bg 7)) (ac (pFz (bg 5)) ak))))) (aN (bx (dU (pFz (bP bn 3 (ac (pFz (pC (.str [97,98,99]))) (ac (pFz (pC (.int 12))) ak)))) (dB (bP au 3 (ac (pFz (pC (.int 2))) ak))) dX) (aw 8)) (gX (pOr (lB (pB (wy .str (pFz (a9 bb (ac (pFz (bg 8)) ak)))))) (pB (pOp sK (pFz (a9 bb (ac (pFz (bg 8)) ak))) (pFz (a9 aG (ac (pFz (bg 8)) ak)))))) (bD (pC (.bl false))) bS)))))))))))) (aN (iP (eS (bg 1)) (nj 2 (gj (aw 7) (gj (aw 5) p5))) (gX (lB (pB (a9 bo (ac (pFz (bg 7)) (ac (pFz (bg 5)) ak))))) (bD (pC (.bl false))) bS)) (bD (a9 bo (ac (pFz (y0 "Turnable" aT (ac (pFz (nV (ac (pFz (pOp rd (pFz (pC (.str [97,98]))) (pFz (pC (.int 30))))) (ac (pFz (pOp rd (pFz (pC (.str [98,97]))) (pFz (pC (.int 30))))) ak)))) ak))) (ac (pFz (nV (ac (pFz (pOp rd (pFz (pC (.str [97,98]))) (pFz (pC (.int 30))))) (ac (pFz (pOp rd (pFz (pC (.str [98,97]))) (pFz (pC (.int 30))))) ak)))) ak)))))))
theorem zR(ns:List Int)(h63:ns.length<=63)(Q:PV->Prop)(q:Q (.dat (.bl true))):eA rF xU [.scr ns] Q:=by
 show rF _ [some (.dat (.scr ns)),none,none,none,none,none,none,none,none]
 have hmax:(if (if (ns.length:Int)<4 then (ns.length:Int) else 4) > 2 then if (ns.length:Int)<4 then (ns.length:Int) else 4 else 2).toNat<=4:=by
  split
  .split <;> omega
  .omega
 walk_at "r"
 refine⟨fun k ρ=>∃(hs:List (List (List Nat))) (v3 v4 v5 v6 v7 v8 v9:Option PV),(hs.length=k/\∀ps∈hs,ps.length<=40/\Pcs 60 ps)/\ρ=[some (.dat (.scr ns)),some (.own (hs.map fun ps=>.tup [Cv ps,.lst (ps.map .str)])),v3,v4,v5,v6,v7,v8,v9],⟨[],_,_,_,_,_,_,_,⟨rfl,(fun _ h=>nomatch h)⟩,rfl⟩,?_,?_⟩
 .rintro k ρ _ hk rfl ⟨hs,v3,v4,v5,v6,v7,v8,v9,⟨hsl,hsp⟩,rfl⟩;have hk4:k<4:=lt_of_lt_of_le hk hmax;clear hk hmax;have hsm:(hs.map fun ps=>D.tup [Cv ps,.lst (ps.map .str)]).length=hs.length:=length_map _;walk_at "r";rintro⟨a,b⟩ g;walk_at "r";rintro x ⟨a,b⟩ g hx0 hx1
  obtain⟨N,M,hat,hN,hM⟩:∃N M:Int,atI [D.tup [.int 13,.int 8],.tup [.int 41,.int 4],.tup [.int 6,.int 60]] x=some (.tup [.int N,.int M])/\(0<N/\N<=41)/\(0<M/\M<=60):=by
   rcases (show x=0\/x=1\/x=2 by omega) with rfl|rfl|rfl
   .exact⟨13,8,rfl,by decide,by decide⟩
   .exact⟨41,4,rfl,by decide,by decide⟩
   .exact⟨6,60,rfl,by decide,by decide⟩
  walk_at "r";refine⟨_,hat,?_⟩;walk_at "r";rintro y ⟨a,b⟩ g hy0 hy1;have hy2:0<=y/\y<=100/\0<M/\M<=60:=⟨hy0,by omega,hM.1,hM.2⟩
  walk_at "r";rintro ps ⟨a,b⟩ g hpl hpp;have hl:ps.length<=40:=by omega
  have hp:Pcs 60 ps:=fun w hw=>⟨(hpp w hw).1,by have:=(hpp w hw).2.1;omega,(hpp w hw).2.2⟩
  have hlp:ps.length<=40/\Pcs 60 ps:=⟨hl,hp⟩
  have hlm:(ps.map D.str).length=ps.length:=length_map _;clear hpl hpp hy2 hy0 hy1 hat hN hM hx0 hx1;have s1:=Sh.lstS hp.lts;have e1:=vF.of s1 s1;have q1:=nh s1;have ct:e6 (ps.map D.str) none (some 39)=(ps.take 39).map D.str:=by rw [show (39:Int)=((39:Nat):Int) from rfl,fF,map_take]
  have h39:(ps.take 39).length<=39/\Pcs 60 (ps.take 39):=⟨by rw [length_take];omega,fun w hw=>hp w (mem_of_mem_take hw)⟩
  have l3:0<([97,98,99]:List Nat).length/\([97,98,99]:List Nat).length<=26/\Lts [97,98,99]:=⟨by decide,by decide,m9.mp (by decide)⟩
  walk_at "r"
  refine⟨fun ρ=>∃(s:Int×Int) (v8:Option PV),SOk s/\ρ=[some (.dat (.scr ns)),some (.own (hs.map fun ps=>.tup [Cv ps,.lst (ps.map .str)])),some (.dat (.int (k:Int))),some (stv s),some (.dat (.tup [.int N,.int M])),some (.dat (.lst (ps.map .str))),some (.own (ps.map .str)),some (.ins "Turnable" vw (qi ps)),v8],?_,?_⟩
  .walk_at "r";rintro z ⟨a,b⟩ g hz0 hz1;walk_at "r"
   refine eR (fun c=>?_) (fun c=>?_)
   .walk_at "r";exact⟨(a,b),_,g,rfl⟩
   .walk_at "r";exact⟨⟨rfl,vx ps⟩,(a,b),_,g,rfl⟩
  rintro ρ ⟨⟨a,b⟩,v8,g,rfl⟩;walk_at "r";rw [q1];walk_at "r";refine⟨ps.take 39,ct,h39,?_⟩;rintro⟨a,b⟩ g;walk_at "r";refine⟨0,zP (i:=0) (by rw [length_append];show 0<_+1;omega),?_⟩;walk_at "r";rintro w ⟨a,b⟩ g w0 w1 w2;walk_at "r";rintro z ⟨a,b⟩ g hz0 hz1;have w1:w.length<=12:=w1;have cz:=e7 w (some z) none;walk_at "r";refine⟨hs++[ps],_,_,_,_,_,_,_,⟨by rw [length_append,hsl];rfl,fun p h=>?_⟩,by rw [map_append];rfl⟩
  rcases mem_append.mp h with h|h
  .exact hsp p h
  .rw [mem_singleton.mp h];exact hlp
 .rintro ρ ⟨hs,v3,v4,v5,v6,v7,v8,v9,⟨hsl,hsp⟩,rfl⟩;have hl4:hs.length<=4:=by omega
  clear hsl hmax;walk_at "r"
  refine DM (fun pre ρ=>∃(v3 v4 v5 v6 v7 v8 v9:Option PV),ρ=[some (.dat (.scr ns)),some (.dat (.lst (hs.map fun ps=>.tup [Cv ps,.lst (ps.map .str)]))),v3,v4,v5,v6,v7,v8,v9]) ⟨_,_,_,_,_,_,_,rfl⟩ ?_ ?_
  .rintro pre ps suf ρ eh ⟨v3,v4,v5,v6,v7,v8,v9,rfl⟩;have hp:=hsp ps (by rw [eh];simp);walk_at "r";exact⟨_,_,_,_,_,_,_,rfl⟩
  .rintro ρ ⟨v3,v4,v5,v6,v7,v8,v9,rfl⟩
   have hp:[lD [97,98] 30,lD [98,97] 30].length<=40/\Pcs 60 [lD [97,98] 30,lD [98,97] 30]:=⟨by decide,fun w hw=>by
    simp only [mem_cons,not_mem_nil,or_false] at hw;rcases hw with rfl|rfl <;> exact⟨by decide,by decide,m9.mp (by decide)⟩⟩
   walk_at "r";refine⟨[lD [97,98] 30,lD [98,97] 30],.inl rfl,hp,rfl,?_⟩;walk_at "r";exact q
theorem Cg:∀ds Q,rD ds Q->eA rF xU ds Q:=fun ds Q h=>by
 obtain⟨ns,rfl,h63,q⟩:=h;exact zR ns h63 Q q
section
variable {P:Program}{w:World}{K:PySem.W.Frag}{mg:Str->Option Value}{base:Heap}
theorem mC:∀ds Q,cI ds Q->ds.length=3:=fun ds Q h=>by unfold cI at h;split at h;(first|rfl|exact h.elim);(first|rfl|exact h.elim)
theorem sG(D:qY K mg "is_text" fA [.int 0,.int 4000])(T:Txt mg)(TC:TxC K)(TX:TxX K mg):A6 P w K mg base 1 "is_text" ["thing","least","most"] [.int 0,.int 4000] (spP K cI):=by
 refine D.ok sy (fun dT kV doc pm an cdv ct items us n hi hn hl=>?_) (fun vs H Q E h=>?_) (fun f cdv A outer s H vs Q E hr h=>?_)
 .obtain⟨i0,i1,rfl⟩:∃i0 i1,items=[i0,i1]:=match items,hi with|[i0,i1],_=>⟨i0,i1,rfl⟩
  have hn':n=0\/n=1\/n=2:=by (have:n<=2:=hn);omega
  rcases hn' with rfl|rfl|rfl
  .have hl2:us.length=1:=by (simp at hl;omega)
   match us,hl2 with
   | [_],_=>exact⟨_,rfl,rfl⟩
  .have hl2:us.length=2:=by (simp at hl;omega)
   match us,hl2 with
   | [_,_],_=>exact⟨_,rfl,rfl⟩
  .have hl2:us.length=3:=by (simp at hl;omega)
   match us,hl2 with
   | [_,_,_],_=>exact⟨_,rfl,rfl⟩
 .exact j9 mC h
 .have hu:=hr.units;exact⟨_,(ah (cN (PW.pt (gG (cM (bz (al (oJ K rfl) rfl T.b_isinstance boot_isinstance (paC (pv 0) (paC (fC (v:=.ty "str") rfl T.b_str boot_str rfl) ag))))) (fg (cM (vQ Cr Cr (pv 1) (al (cQ K rfl) rfl T.b_len PySem.boot_len (paC (pv 0) ag)) (pv 2)))))) (am (aW fB)) bj) (am (aW (al (Dp K rfl rfl) rfl T.b_all boot_all (paC (cE (wi:=(kB K (ck 0))) (g:=(dQ 0)) (tts:=nU) (te:=(qP Cq Cq (tC (V.str (S [97]))) (ck 0) (tC (V.str (S [122]))))) ["sign"] [none] rfl (cR K rfl (pv 0)) (fun _ _ _ _=>⟨(aY (i:=0) (by show List.Nodup (["sign"]:List Str);decide +kernel) rfl (by walk_at "o")),dC,(vP Cr Cr (bN (l:=[97]) (by decide +kernel)) (pv 0) (bN (l:=[122]) (by decide +kernel)))⟩) (by kernel_rfl)) ag))))),fnP (K:=K) (c:=cI) (ps:=g6) (N:=["thing","least","most"]) (ax (dq (gK (cP (jl (jK .str (ao (i:=0))))) (cP (hZ (re ww ww (ao (i:=1)) (ae (br bH (aa (ao (i:=0)) af))) (ao (i:=2)))))) (aX fM) bq) (aX (br Bs (aa (ae (cF (ix:=[none]) rfl (cS (aj (i:=0))) (fun fs hc=>(aK (i:=0) (m5 hc (by decide)))) fu (re ww ww (ae (le_str (l:=[97]))) (ao (i:=0)) (ae (le_str (l:=[122])))))) af)))) (fun ds Q h=>le_trans (le_of_eq (mC ds Q h)) (by decide)) sB h⟩
theorem io:∀ds Q,aU ds Q->ds.length=2:=fun ds Q h=>by unfold aU at h;split at h;(first|rfl|exact h.elim);(first|rfl|exact h.elim)
theorem lS(D:cw K mg "first_place" fN)(T:Txt mg)(TC:TxC K)(TX:TxX K mg):Cal P w K mg base 1 "first_place" ["text","piece"] (spP K aU):=by
 refine D.ok lJ (fun _ _ _ _ _ _ us hl=>match us,hl with|[_,_],_=>rfl) (fun vs H Q E h=>?_) (fun f cdv A outer s H vs Q E hr h=>?_)
 .exact j9 io h
 .have hu:=hr.units;exact⟨_,(am (aW (fq K rfl PySem.F.plainAttrs_str PySem.F.slot_str_find PySem.F.type_str_find gY (pv 0) (paC (pv 1) ag)))),fnP (K:=K) (c:=aU) (ps:=dM) (N:=["text","piece"]) (aX (oM gZ (aj (i:=0)) (aa (ao (i:=1)) af))) (fun ds Q h=>le_trans (le_of_eq (io ds Q h)) (by decide)) lK h⟩
theorem xV:∀ds Q,gp ds Q->ds.length=2:=fun ds Q h=>by unfold gp at h;split at h;(first|rfl|exact h.elim);(first|rfl|exact h.elim)
theorem Ch(D:cw K mg "lap" zO)(T:Txt mg)(TC:TxC K)(TX:TxX K mg):Cal P w K mg base 1 "lap" ["one","other"] (spP K gp):=by
 refine D.ok xR (fun _ _ _ _ _ _ us hl=>match us,hl with|[_,_],_=>rfl) (fun vs H Q E h=>?_) (fun f cdv A outer s H vs Q E hr h=>?_)
 .exact j9 xV h
 .have hu:=hr.units;exact⟨_,(ah (gc PassesOwn.never rfl (ou rfl T.b_range (paC (bY wC (al (uv rfl) rfl T.b_min boot_min (paC (al (cQ K rfl) rfl T.b_len PySem.boot_len (paC (pv 0) ag)) (paC (al (cQ K rfl) rfl T.b_len PySem.boot_len (paC (pv 1) ag)) ag))) ar) (paC ar (paC (vO qO ar) ag)))) (aY (i:=2) xR.nd rfl (by walk_at "o")) (am (cN (bz (fq K rfl PySem.F.plainAttrs_str PySem.F.slot_str_endswith PySem.F.type_str_endswith yX (pv 0) (paC (b9 (pQ K rfl) (pv 1) de (cC (pv 2))) ag))) (am (aW (pv 2))) bj))) (am (aW ar))),fnP (K:=K) (c:=gp) (ps:=rE) (N:=["one","other","k"]) (ax (gL (Bi (aa (ae (aC rc (ae (br p7 (aa (ae (br bH (aa (ao (i:=0)) af))) (aa (ae (br bH (aa (ao (i:=1)) af))) af)))) (ae le_int))) (aa (ae le_int) (aa (ae (wu rl (ae le_int))) af)))) (aK (i:=2) rfl) (dq (jl (oM yZ (aj (i:=0)) (aa (ae (cb (ao (i:=1)) cq (bR (aj (i:=2))))) af))) (aX (aj (i:=2))) bq)) (aX le_int)) (fun ds Q h=>le_trans (le_of_eq (xV ds Q h)) (by decide)) Cf h⟩
theorem ll:∀ds Q,bV ds Q->ds.length=1:=fun ds Q h=>by unfold bV at h;split at h;(first|rfl|exact h.elim);(first|rfl|exact h.elim)
theorem qE(D:cw K mg "all_laps" js)(T:Txt mg)(TC:TxC K)(TX:TxX K mg)(C_lap:Cal P w K mg base 1 "lap" ["one","other"] (spP K gp)):Cal P w K mg base 2 "all_laps" ["words"] (spP K bV):=by
 refine D.ok qk (fun _ _ _ _ _ _ us hl=>match us,hl with|[_],_=>rfl) (fun vs H Q E h=>?_) (fun f cdv A outer s H vs Q E hr h=>?_)
 .exact j9 ll h
 .have hu:=hr.units;exact⟨_,(am (aW (bB (eF K rfl) rfl T.b_tuple boot_tuple (paC (cE (wi:=(kB K (ck 0))) (g:=(dQ 0)) (tts:=nU) (te:=(tCB (yU K) (bp (rZ [none,some 0] (kB K (ck 1)) (dQ 0) nU (fi (spP K gp) [] E0 (bp (ck 1) (bp (ck 0) fE)))) fE))) ["one","words"] [none,some 0] rfl (cR K rfl (pv 0)) (fun _ _ _ _=>⟨(aY (i:=0) (by show List.Nodup (["one","words"]:List Str);decide +kernel) rfl (by walk_at "o")),dC,(bB (eF K rfl) rfl T.b_tuple boot_tuple (paC (cE (wi:=(kB K (ck 1))) (g:=(dQ 0)) (tts:=nU) (te:=(fi (spP K gp) [] E0 (bp (ck 1) (bp (ck 0) fE)))) ["other","one"] [none,some 0] rfl (cR K rfl (pv 1)) (fun _ _ _ _=>⟨(aY (i:=0) (by show List.Nodup (["other","one"]:List Str);decide +kernel) rfl (by walk_at "o")),dC,(aq C_lap (hr.mono (by decide)) (paC (pv 1) (paC (pv 0) ag)))⟩) (by kernel_rfl)) ag))⟩) (by kernel_rfl)) ag)))),fnP (K:=K) (c:=bV) (ps:=fV) (N:=["words"]) (aX (br du (aa (ae (cF (ix:=[none,some 0]) rfl (cS (aj (i:=0))) (fun fs hc=>(aK (i:=0) (m5 hc (by decide)))) fu (br du (aa (ae (cF (ix:=[none,some 0]) rfl (cS (aj (i:=1))) (fun fs hc=>(aK (i:=0) (m5 hc (by decide)))) fu (aB (c:=gp) (aa (ae (aj (i:=1))) (aa (ae (aj (i:=0))) af))))) af)))) af))) (fun ds Q h=>le_trans (le_of_eq (ll ds Q h)) (by decide)) qq h⟩
theorem dz:∀ds Q E,aI ds Q E->ds.length=1:=fun ds Q E h=>by unfold aI at h;split at h;(first|rfl|exact h.elim);(first|rfl|exact h.elim)
theorem lm(D:cw K mg "check_pieces" fc)(T:Txt mg)(TC:TxC K)(TX:TxX K mg)(C_NoPiece_init:wU P w K mg base 1 (aD K "NoPiece") "NoPiece" "at")(C_TooMany_init:wU P w K mg base 1 (aD K "TooMany") "TooMany" "most")(C_is_text:A6 P w K mg base 1 "is_text" ["thing","least","most"] [.int 0,.int 4000] (spP K cI)):BR P w K mg base 3 "check_pieces" ["things"] (spX K aI):=by
 refine D.okE eM (fun _ _ _ _ _ _ us hl=>match us,hl with|[_],_=>rfl) (fun vs H Q E h=>?_) (fun f cdv A outer s H vs Q E hr h=>?_)
 .exact EF dz h
 .have hu:=hr.units;exact⟨_,(ah (cN (PT.nox (ba Aa (al (cQ K rfl) rfl T.b_len PySem.boot_len (paC (pv 0) ag)) (mS rfl T.g_MOST_PIECES) (bG _))) (am (rq K rfl rfl xK (uU C_TooMany_init (hr.mono (by decide)) (paC (mS rfl T.g_MOST_PIECES) ag)))) bj) (am (gc PassesOwn.leaving rfl (wD K rfl rfl T.b_enumerate (paC (pv 0) ag)) (oQ K rfl (n:=2) rfl (dH (aY (i:=1) eM.nd rfl (by walk_at "o")) (dH (aY (i:=2) eM.nd rfl (by walk_at "o")) kd))) (am (cN (PT.nox (cM (bz (wS 2 C_is_text (hr.mono (by decide)) (by decide) (paC (pv 2) (paC ar (paC (mS rfl T.g_MOST_SIGNS) ag))))))) (am (rq K rfl rfl xK (uU C_NoPiece_init (hr.mono (by decide)) (paC (pv 1) ag)))) bj))))),EG (K:=K) (c:=aI) (ps:=dy) (N:=["things","at","thing"]) (fun _=>(BV (BW (hZ (aC sf (ae (br bH (aa (ao (i:=0)) af))) (ae (le_int (i:=40))))) (oS TX.all (contains_iff_mem.mp (by decide +kernel)) (aa (ae (le_int (i:=40))) af)) (LS.x bq)) (BX (yO (aa (ae (aj (i:=0))) af)) (nk (dI (aK (i:=1) rfl) (dI (aK (i:=2) rfl) ky))) (BW (cP (jl (wE (ds:=[]) (by repeat (first|exact .nil|exact .cons (.int _) .nil|refine .cons (.int _) ?_)) (aa (ae (aj (i:=2))) (aa (ae le_int) (aa (ae (le_int (i:=60))) af)))))) (oS TX.all (contains_iff_mem.mp (by decide +kernel)) (aa (ae (aj (i:=1))) af)) (LS.x bq))))) (fun ds Q E h=>le_trans (le_of_eq (dz ds Q E h)) (by decide)) lg h⟩
theorem gy:∀ds Q,aF ds Q->ds.length=2:=fun ds Q h=>by unfold aF at h;split at h;(first|rfl|exact h.elim);(first|rfl|exact h.elim)
theorem j2(D:cw K mg "stands_within" eJ)(T:Txt mg)(TC:TxC K)(TX:TxX K mg)(C_first_place:Cal P w K mg base 1 "first_place" ["text","piece"] (spP K aU)):Cal P w K mg base 2 "stands_within" ["piece","other"] (spP K aF):=by
 refine D.ok jT (fun _ _ _ _ _ _ us hl=>match us,hl with|[_,_],_=>rfl) (fun vs H Q E h=>?_) (fun f cdv A outer s H vs Q E hr h=>?_)
 .exact j9 gy h
 .have hu:=hr.units;exact⟨_,(am (aW (jg Ct (aq C_first_place (hr.mono (by decide)) (paC (pv 1) (paC (pv 0) ag))) ar (bG _)))),fnP (K:=K) (c:=aF) (ps:=c6) (N:=["piece","other"]) (aX (aC wx (ae (aB (c:=aU) (aa (ae (aj (i:=1))) (aa (ae (aj (i:=0))) af)))) (ae le_int))) (fun ds Q h=>le_trans (le_of_eq (gy ds Q h)) (by decide)) jX h⟩
theorem pM:∀ds Q,bb ds Q->ds.length=1:=fun ds Q h=>by unfold bb at h;split at h;(first|rfl|exact h.elim);(first|rfl|exact h.elim)
theorem vD(D:cw K mg "turned" nJ)(T:Txt mg)(TC:TxC K)(TX:TxX K mg):Cal P w K mg base 1 "turned" ["text"] (spP K bb):=by
 refine D.ok vy (fun _ _ _ _ _ _ us hl=>match us,hl with|[_],_=>rfl) (fun vs H Q E h=>?_) (fun f cdv A outer s H vs Q E hr h=>?_)
 .exact j9 pM h
 .have hu:=hr.units;exact⟨_,(am (aW (zI K rfl (pv 0) (vO qO ar)))),fnP (K:=K) (c:=bb) (ps:=i9) (N:=["text"]) (aX (zJ (ao (i:=0)) (wu rl (ae le_int)))) (fun ds Q h=>le_trans (le_of_eq (pM ds Q h)) (by decide)) vC h⟩
theorem mD:∀ds Q,bC ds Q->ds.length=2:=fun ds Q h=>by unfold bC at h;split at h;(first|rfl|exact h.elim);(first|rfl|exact h.elim)
theorem sH(D:cw K mg "one_way" kO)(T:Txt mg)(TC:TxC K)(TX:TxX K mg)(C_turned:Cal P w K mg base 1 "turned" ["text"] (spP K bb)):Cal P w K mg base 2 "one_way" ["text","way"] (spP K bC):=by
 refine D.ok sA (fun _ _ _ _ _ _ us hl=>match us,hl with|[_,_],_=>rfl) (fun vs H Q E h=>?_) (fun f cdv A outer s H vs Q E hr h=>?_)
 .exact j9 mD h
 .have hu:=hr.units;exact⟨_,(am (aW (qN (ba (kG K rfl hu) (pv 1) ar (bG _)) (aq C_turned (hr.mono (by decide)) (paC (pv 0) ag)) (pv 0)))),fnP (K:=K) (c:=bC) (ps:=g9) (N:=["text","way"]) (aX (Bb (hZ (aC gM (ao (i:=1)) (ae le_int))) (aB (c:=bb) (aa (ae (aj (i:=0))) af)) (aj (i:=0)))) (fun ds Q h=>le_trans (le_of_eq (mD ds Q h)) (by decide)) sD h⟩
theorem eY:∀ds Q,aA ds Q->ds.length=2:=fun ds Q h=>by unfold aA at h;split at h;(first|rfl|exact h.elim);(first|rfl|exact h.elim)
theorem jb(D:cw K mg "stands_some_way" dF)(T:Txt mg)(TC:TxC K)(TX:TxX K mg)(C_stands_within:Cal P w K mg base 2 "stands_within" ["piece","other"] (spP K aF))(C_turned:Cal P w K mg base 1 "turned" ["text"] (spP K bb)):Cal P w K mg base 3 "stands_some_way" ["piece","other"] (spP K aA):=by
 refine D.ok iY (fun _ _ _ _ _ _ us hl=>match us,hl with|[_,_],_=>rfl) (fun vs H Q E h=>?_) (fun f cdv A outer s H vs Q E hr h=>?_)
 .exact j9 eY h
 .have hu:=hr.units;exact⟨_,(am (aW (An (aq C_stands_within (hr.mono (by decide)) (paC (pv 0) (paC (pv 1) ag))) (nY (aq C_stands_within (hr.mono (by decide)) (paC (aq C_turned (hr.mono (by decide)) (paC (pv 0) ag)) (paC (pv 1) ag))))))),fnP (K:=K) (c:=aA) (ps:=cB) (N:=["piece","other"]) (aX (Ba (aB (c:=aF) (aa (ae (aj (i:=0))) (aa (ae (aj (i:=1))) af))) (aB (c:=aF) (aa (ae (aB (c:=bb) (aa (ae (aj (i:=0))) af))) (aa (ae (aj (i:=1))) af))))) (fun ds Q h=>le_trans (le_of_eq (eY ds Q h)) (by decide)) ja h⟩
theorem eQ:∀ds Q,aJ ds Q->ds.length=2:=fun ds Q h=>by unfold aJ at h;split at h;(first|rfl|exact h.elim);(first|rfl|exact h.elim)
theorem iI(D:cw K mg "is_kept_some_way" dw)(T:Txt mg)(TC:TxC K)(TX:TxX K mg)(C_stands_some_way:Cal P w K mg base 3 "stands_some_way" ["piece","other"] (spP K aA))(C_turned:Cal P w K mg base 1 "turned" ["text"] (spP K bb)):Cal P w K mg base 4 "is_kept_some_way" ["pieces","at"] (spP K aJ):=by
 refine D.ok eN (fun _ _ _ _ _ _ us hl=>match us,hl with|[_,_],_=>rfl) (fun vs H Q E h=>?_) (fun f cdv A outer s H vs Q E hr h=>?_)
 .exact j9 eQ h
 .have hu:=hr.units;exact⟨_,(ah (aR (i:=2) eN.nd rfl (by walk_at "o") (df (iA K rfl) (pv 0) (pv 1) (fun _ _=>rfl))) (ah (cN (PW.pt (gG (ba (w4 K rfl) (pv 2) (b9 (pQ K rfl) (pv 0) de (cC (pv 1))) (by with_unfolding_all rfl)) (fg (ba (w4 K rfl) (aq C_turned (hr.mono (by decide)) (paC (pv 2) ag)) (b9 (pQ K rfl) (pv 0) de (cC (pv 1))) (by with_unfolding_all rfl))))) (am (aW fB)) bj) (am (aW (sS (al (Dq K rfl rfl) rfl T.b_any boot_any (paC (cE (wi:=(kB K (ck 0))) (g:=(dQ 0)) (tts:=(rL (tOp Ed (tCB (oI K) (bp (ck 0) fE)) (tCB (oI K) (bp (ck 1) fE))))) (te:=(fi (spP K aA) [] E0 (bp (ck 1) (bp (ck 0) fE)))) ["other","piece"] [none,some 2] rfl (cR K rfl (pv 0)) (fun _ _ _ _=>⟨(aY (i:=0) (by show List.Nodup (["other","piece"]:List Str);decide +kernel) rfl (by walk_at "o")),(jk (ba Aa (al (cQ K rfl) rfl T.b_len PySem.boot_len (paC (pv 0) ag)) (al (cQ K rfl) rfl T.b_len PySem.boot_len (paC (pv 1) ag)) (bG _))),(aq C_stands_some_way (hr.mono (by decide)) (paC (pv 1) (paC (pv 0) ag)))⟩) (by kernel_rfl)) ag))))))),fnP (K:=K) (c:=aJ) (ps:=cu) (N:=["pieces","at","piece"]) (ax (aQ (aC dg (ao (i:=0)) (ao (i:=1))) (aE (i:=2) rfl)) (ax (dq (gK (hZ (aC mo (ao (i:=2)) (ae (cb (ao (i:=0)) cq (bR (aj (i:=1))))))) (hZ (aC mo (ae (aB (c:=bb) (aa (ae (aj (i:=2))) af))) (ae (cb (ao (i:=0)) cq (bR (aj (i:=1)))))))) (aX fM) bq) (aX (uq (br Bt (aa (ae (cF (ix:=[none,some 2]) rfl (cS (aj (i:=0))) (fun fs hc=>(aK (i:=0) (m5 hc (by decide)))) (hZ (aC sf (ae (br bH (aa (ao (i:=0)) af))) (ae (br bH (aa (ao (i:=1)) af))))) (aB (c:=aA) (aa (ae (aj (i:=1))) (aa (ae (aj (i:=0))) af))))) af)))))) (fun ds Q h=>le_trans (le_of_eq (eQ ds Q h)) (by decide)) iH h⟩
theorem gA:∀ds Q,aS ds Q->ds.length=3:=fun ds Q h=>by unfold aS at h;split at h;(first|rfl|exact h.elim);(first|rfl|exact h.elim)
theorem j3(D:cw K mg "left_some_way" eL)(T:Txt mg)(TC:TxC K)(TX:TxX K mg)(C_first_place:Cal P w K mg base 1 "first_place" ["text","piece"] (spP K aU))(C_one_way:Cal P w K mg base 2 "one_way" ["text","way"] (spP K bC))(C_stands_some_way:Cal P w K mg base 3 "stands_some_way" ["piece","other"] (spP K aA))(C_stands_within:Cal P w K mg base 2 "stands_within" ["piece","other"] (spP K aF)):Cal P w K mg base 4 "left_some_way" ["pieces","kept","at"] (spP K aS):=by
 refine D.ok cZ (fun _ _ _ _ _ _ us hl=>match us,hl with|[_,_,_],_=>rfl) (fun vs H Q E h=>?_) (fun f cdv A outer s H vs Q E hr h=>?_)
 .exact j9 gA h
 .have hu:=hr.units;exact⟨_,(ah (aR (i:=3) cZ.nd rfl (by walk_at "o") (df (iA K rfl) (pv 0) (pv 2) (fun _ _=>rfl))) (ah (aR (i:=4) cZ.nd rfl (by walk_at "o") (al (Br K rfl rfl) rfl T.b_min boot_min (paC (cE (wi:=(kB K (ck 1))) (g:=(dQ 0)) (tts:=(tB (fi (spP K aA) [] E0 (bp (ck 1) (bp (tOp (xA K) (ck 2) (ck 0)) fE))))) (te:=(ck 0)) ["one","piece","pieces"] [none,some 3,some 0] rfl (cR K rfl (pv 1)) (fun _ _ _ _=>⟨(aY (i:=0) (by show List.Nodup (["one","piece","pieces"]:List Str);decide +kernel) rfl (by walk_at "o")),(jk (bz (aq C_stands_some_way (hr.mono (by decide)) (paC (pv 1) (paC (df (iA K rfl) (pv 2) (pv 0) (fun _ _=>rfl)) ag))))),(pv 0)⟩) (by kernel_rfl)) ag))) (ah (aR (i:=5) cZ.nd rfl (by walk_at "o") (qN (bz (aq C_stands_within (hr.mono (by decide)) (paC (pv 3) (paC (df (iA K rfl) (pv 0) (pv 4) (fun _ _=>rfl)) ag)))) ar ar)) (am (aW (ia (paC (pv 2) (paC (pv 4) (paC (aq C_first_place (hr.mono (by decide)) (paC (df (iA K rfl) (pv 0) (pv 4) (fun _ _=>rfl)) (paC (aq C_one_way (hr.mono (by decide)) (paC (pv 3) (paC (pv 5) ag))) ag))) (paC (pv 5) ag)))))))))),fnP (K:=K) (c:=aS) (ps:=c7) (N:=["pieces","kept","at","piece","holder","way"]) (ax (aQ (aC dg (ao (i:=0)) (ao (i:=2))) (aE (i:=3) rfl)) (ax (aQ (br yT (aa (ae (cF (ix:=[none,some 3,some 0]) rfl (cS (aj (i:=1))) (fun fs hc=>(aK (i:=0) (m5 hc (by decide)))) (jl (aB (c:=aA) (aa (ae (aj (i:=1))) (aa (ae (aC dg (ao (i:=2)) (ao (i:=0)))) af)))) (aj (i:=0)))) af)) (aE (i:=4) rfl)) (ax (aQ (Bb (jl (aB (c:=aF) (aa (ae (aj (i:=3))) (aa (ae (aC dg (ao (i:=0)) (ao (i:=4)))) af)))) le_int le_int) (aE (i:=5) rfl)) (aX (iO (aa (ae (aj (i:=2))) (aa (ae (aj (i:=4))) (aa (ae (aB (c:=aU) (aa (ae (aC dg (ao (i:=0)) (ao (i:=4)))) (aa (ae (aB (c:=bC) (aa (ae (aj (i:=3))) (aa (ae (aj (i:=5))) af)))) af)))) (aa (ae (aj (i:=5))) af))))))))) (fun ds Q h=>le_trans (le_of_eq (gA ds Q h)) (by decide)) jY h⟩
theorem gB:∀p ds Q,aT p ds Q->ds.length+1=2:=fun p ds Q h=>by unfold aT at h;split at h;(first|rfl|exact h.elim);(first|rfl|exact h.elim)
theorem j4(D:kt K mg (aD K "Turnable") "Turnable" "Turnable.__init__" bA)(T:Txt mg)(TC:TxC K)(TX:TxX K mg)(C_all_laps:Cal P w K mg base 2 "all_laps" ["words"] (spP K bV))(C_check_pieces:BR P w K mg base 3 "check_pieces" ["things"] (spX K aI))(C_is_kept_some_way:Cal P w K mg base 4 "is_kept_some_way" ["pieces","at"] (spP K aJ))(C_left_some_way:Cal P w K mg base 4 "left_some_way" ["pieces","kept","at"] (spP K aS))(C_one_way:Cal P w K mg base 2 "one_way" ["text","way"] (spP K bC)):A7 P w K mg base 5 (aD K "Turnable") "Turnable" ["self","pieces"] (spR K aT):=by
 refine D.ok dW (fun _ _ _ _ _ _ us hl=>match us,hl with|[_,_],_=>rfl) (fun vs H Q E h=>?_) (fun f cdv A outer s H vs Q E hr h=>?_)
 .exact y3 gB h
 .have hu:=hr.units;exact⟨_,(ah (gH (va C_check_pieces (hr.mono (by decide)) px0 (paC (pv 1) ag))) (ah (ki (pv 0) (bB (eF K rfl) rfl T.b_tuple boot_tuple (paC (pv 1) ag)) rfl) (ah (aR (i:=2) dW.nd rfl (by walk_at "o") (bB (Bz K rfl rfl) rfl T.b_list boot_list (paC (t9 rfl T.b_range (paC (al (cQ K rfl) rfl T.b_len PySem.boot_len (paC (cg K rfl (pv 0) rfl) ag)) ag)) ag))) (ah (ki (pv 0) (bB (eF K rfl) rfl T.b_tuple boot_tuple (paC (cE (wi:=(kB K (ck 2))) (g:=(dQ 0)) (tts:=(tB (fi (spP K aJ) [] E0 (bp (tE K (ck 1) "pieces") (bp (ck 0) fE))))) (te:=(ck 0)) ["at","self"] [none,some 0] rfl (cR K rfl (pv 2)) (fun _ _ _ _=>⟨(aY (i:=0) (by show List.Nodup (["at","self"]:List Str);decide +kernel) rfl (by walk_at "o")),(jk (bz (aq C_is_kept_some_way (hr.mono (by decide)) (paC (cg K rfl (pv 1) rfl) (paC (pv 0) ag))))),(pv 0)⟩) (by kernel_rfl)) ag)) rfl) (ah (ki (pv 0) (bB (eF K rfl) rfl T.b_tuple boot_tuple (paC (cE (wi:=(kB K (tE K (ck 0) "kept"))) (g:=(dQ 0)) (tts:=nU) (te:=(tOp (xA K) (tE K (ck 1) "pieces") (ck 0))) ["at","self"] [none,some 0] rfl (cR K rfl (cg K rfl (pv 0) rfl)) (fun _ _ _ _=>⟨(aY (i:=0) (by show List.Nodup (["at","self"]:List Str);decide +kernel) rfl (by walk_at "o")),dC,(df (iA K rfl) (cg K rfl (pv 1) rfl) (pv 0) (fun _ _=>rfl))⟩) (by kernel_rfl)) ag)) rfl) (ah (ki (pv 0) (bB (eF K rfl) rfl T.b_tuple boot_tuple (paC (cE (wi:=(kB K (ck 2))) (g:=(dQ 0)) (tts:=(rL (tOp (Cu K true) (ck 0) (tE K (ck 1) "kept")))) (te:=(fi (spP K aS) [] E0 (bp (tE K (ck 1) "pieces") (bp (tE K (ck 1) "kept") (bp (ck 0) fE))))) ["at","self"] [none,some 0] rfl (cR K rfl (pv 2)) (fun _ _ _ _=>⟨(aY (i:=0) (by show List.Nodup (["at","self"]:List Str);decide +kernel) rfl (by walk_at "o")),(jk (ba (rC K rfl) (pv 0) (cg K rfl (pv 1) rfl) (by with_unfolding_all rfl))),(aq C_left_some_way (hr.mono (by decide)) (paC (cg K rfl (pv 1) rfl) (paC (cg K rfl (pv 1) rfl) (paC (pv 0) ag))))⟩) (by kernel_rfl)) ag)) rfl) (ah (ki (pv 0) (bB (eF K rfl) rfl T.b_tuple boot_tuple (paC (wP (wi:=(kB K (tE K (ck 0) "words"))) (g:=(dQ 0)) (tts:=nU) (wi2:=(kB K (Cn (bp (tC (V.int 0)) (bp (tC (V.int 1)) fE))))) (g2:=(dQ 1)) (tts2:=nU) (te:=(fi (spP K bC) [] E0 (bp (ck 0) (bp (ck 1) fE)))) ["word","way"] [none,none] rfl (cR K rfl (cg K rfl (pv 0) rfl)) (fun _ _ _ _=>⟨(aY (i:=0) (by show List.Nodup (["word","way"]:List Str);decide +kernel) rfl (by walk_at "o")),dC,(cR K rfl (ia (paC ar (paC ar ag)))),(aY (i:=1) (by show List.Nodup (["word","way"]:List Str);decide +kernel) rfl (by walk_at "o")),dC,(aq C_one_way (hr.mono (by decide)) (paC (pv 0) (paC (pv 1) ag)))⟩) (by kernel_rfl)) ag)) rfl) (ah (ki (pv 0) (aq C_all_laps (hr.mono (by decide)) (paC (cg K rfl (pv 0) rfl) ag)) rfl) (am (ki (pv 0) (al (xE K rfl rfl) rfl T.b_sum boot_sum (paC (cE (wi:=(kB K (tE K (ck 0) "words"))) (g:=(dQ 0)) (tts:=nU) (te:=(tCB (oI K) (bp (ck 0) fE))) ["word"] [none] rfl (cR K rfl (cg K rfl (pv 0) rfl)) (fun _ _ _ _=>⟨(aY (i:=0) (by show List.Nodup (["word"]:List Str);decide +kernel) rfl (by walk_at "o")),dC,(al (cQ K rfl) rfl T.b_len PySem.boot_len (paC (pv 0) ag))⟩) (by kernel_rfl)) ag)) rfl)))))))))),fnR (K:=K) (c:=aT) (ps:=c8) (N:=["self","pieces","indexes"]) (ax (jn (wY (c:=aI) (aa (ae (aj (i:=1))) af))) (ax (iB (c0:="Turnable") (ns0:=[]) (i:=0) TC.cl_Turnable TC.n_Turnable_pieces (by decide +kernel) (br du (aa (ao (i:=1)) af))) (ax (aQ (wB false (aa (ae (br bH (aa (ae (dk (ns0:=["pieces"]) TC.cl_Turnable TC.n_Turnable_pieces (i:=0) (by decide +kernel) (ao (i:=0)))) af))) af)) (aE (i:=2) rfl)) (ax (iB (c0:="Turnable") (ns0:=["pieces"]) (i:=0) TC.cl_Turnable TC.n_Turnable_kept (by decide +kernel) (br du (aa (ae (cF (ix:=[none,some 0]) rfl (cS (aj (i:=2))) (fun fs hc=>(aK (i:=0) (m5 hc (by decide)))) (jl (aB (c:=aJ) (aa (ae (dk (ns0:=["pieces"]) TC.cl_Turnable TC.n_Turnable_pieces (i:=0) (by decide +kernel) (ao (i:=1)))) (aa (ae (aj (i:=0))) af)))) (aj (i:=0)))) af))) (ax (iB (c0:="Turnable") (ns0:=["pieces","kept"]) (i:=0) TC.cl_Turnable TC.n_Turnable_words (by decide +kernel) (br du (aa (ae (cF (ix:=[none,some 0]) rfl (cS (dk (ns0:=["pieces","kept"]) TC.cl_Turnable TC.n_Turnable_kept (i:=1) (by decide +kernel) (ao (i:=0)))) (fun fs hc=>(aK (i:=0) (m5 hc (by decide)))) fu (aC dg (ae (dk (ns0:=["pieces","kept"]) TC.cl_Turnable TC.n_Turnable_pieces (i:=0) (by decide +kernel) (ao (i:=1)))) (ao (i:=0))))) af))) (ax (iB (c0:="Turnable") (ns0:=["pieces","kept","words"]) (i:=0) TC.cl_Turnable TC.n_Turnable_left (by decide +kernel) (br du (aa (ae (cF (ix:=[none,some 0]) rfl (cS (aj (i:=2))) (fun fs hc=>(aK (i:=0) (m5 hc (by decide)))) (hZ (aC mo (ao (i:=0)) (ae (dk (ns0:=["pieces","kept","words"]) TC.cl_Turnable TC.n_Turnable_kept (i:=1) (by decide +kernel) (ao (i:=1)))))) (aB (c:=aS) (aa (ae (dk (ns0:=["pieces","kept","words"]) TC.cl_Turnable TC.n_Turnable_pieces (i:=0) (by decide +kernel) (ao (i:=1)))) (aa (ae (dk (ns0:=["pieces","kept","words"]) TC.cl_Turnable TC.n_Turnable_kept (i:=1) (by decide +kernel) (ao (i:=1)))) (aa (ae (aj (i:=0))) af)))))) af))) (ax (iB (c0:="Turnable") (ns0:=["pieces","kept","words","left"]) (i:=0) TC.cl_Turnable TC.n_Turnable_states (by decide +kernel) (br du (aa (ae (wQ (ix:=[none,none]) rfl (cS (dk (ns0:=["pieces","kept","words","left"]) TC.cl_Turnable TC.n_Turnable_words (i:=2) (by decide +kernel) (ao (i:=0)))) (fun fs hc=>(aK (i:=0) (m5 hc (by decide)))) fu (cS (iO (aa (ae le_int) (aa (ae le_int) af)))) (fun fs hc=>(aK (i:=1) (m5 hc (by decide)))) fu (aB (c:=bC) (aa (ae (aj (i:=0))) (aa (ae (aj (i:=1))) af))))) af))) (ax (iB (c0:="Turnable") (ns0:=["pieces","kept","words","left","states"]) (i:=0) TC.cl_Turnable TC.n_Turnable_laps (by decide +kernel) (aB (c:=bV) (aa (ae (dk (ns0:=["pieces","kept","words","left","states"]) TC.cl_Turnable TC.n_Turnable_states (i:=4) (by decide +kernel) (ao (i:=0)))) af))) (iB (c0:="Turnable") (ns0:=["pieces","kept","words","left","states","laps"]) (i:=0) TC.cl_Turnable TC.n_Turnable_total (by decide +kernel) (br uz (aa (ae (cF (ix:=[none]) rfl (cS (dk (ns0:=["pieces","kept","words","left","states","laps"]) TC.cl_Turnable TC.n_Turnable_words (i:=2) (by decide +kernel) (ao (i:=0)))) (fun fs hc=>(aK (i:=0) (m5 hc (by decide)))) fu (br bH (aa (ao (i:=0)) af)))) af))))))))))) (fun p ds Q h=>le_trans (le_of_eq (gB p ds Q h)) (by decide)) jZ h⟩
theorem gC:∀ds Q,aP ds Q->ds.length=1:=fun ds Q h=>by unfold aP at h;split at h;(first|rfl|exact h.elim);(first|rfl|exact h.elim)
theorem j5(D:qZ K (aD K "Turnable") "many" "Turnable.many" bO)(T:Txt mg)(TC:TxC K)(TX:TxX K mg):Co P w K mg base 1 (aD K "Turnable") "many" ["self"] (spP K aP):=by
 refine D.ok jU (fun _ _ _ _ _ _ us hl=>match us,hl with|[_],_=>rfl) (fun vs H Q E h=>?_) (fun f cdv A outer s H vs Q E hr h=>?_)
 .exact j9 gC h
 .have hu:=hr.units;exact⟨_,(am (aW (al (cQ K rfl) rfl T.b_len PySem.boot_len (paC (cg K rfl (pv 0) rfl) ag)))),fnP (K:=K) (c:=aP) (ps:=c9) (N:=["self"]) (aX (br bH (aa (ae (dk (ns0:=["pieces","kept","words","left","states","laps","total"]) TC.cl_Turnable TC.n_Turnable_words (i:=2) (by decide +kernel) (ao (i:=0)))) af))) (fun ds Q h=>le_trans (le_of_eq (gC ds Q h)) (by decide)) j1 h⟩
theorem jc:∀ds Q,bu ds Q->ds.length=2:=fun ds Q h=>by unfold bu at h;split at h;(first|rfl|exact h.elim);(first|rfl|exact h.elim)
theorem nP(D:cw K mg "_law_stream" gP)(T:Txt mg)(TC:TxC K)(TX:TxX K mg):Cal P w K mg base 1 "_law_stream" ["_law_script","_law_k"] (spP K bu):=by
 refine D.ok fR (fun _ _ _ _ _ _ us hl=>match us,hl with|[_,_],_=>rfl) (fun vs H Q E h=>?_) (fun f cdv A outer s H vs Q E hr h=>?_)
 .exact j9 jc h
 .have hu:=hr.units;exact⟨_,(ah (aR (i:=2) fR.nd rfl (by walk_at "o") (bY (dY K rfl) (bY jR ar (pv 1)) ar)) (ah (jj (cN (ba Aa (al (cQ K rfl) rfl T.b_len PySem.boot_len (paC (pv 0) ag)) ar (bG _)) (am (aR (i:=2) fR.nd rfl (by walk_at "o") (al Dn rfl T.b_abs boot_abs (paC (df (iA K rfl) (pv 0) (bY sh (pv 1) (al (cQ K rfl) rfl T.b_len PySem.boot_len (paC (pv 0) ag))) (fun _ _=>rfl)) ag)))) bj)) (am (aW (dR (paC (pv 2) (paC (bY (dY K rfl) (bY (dY K rfl) (bY sh (pv 2) ar) (bY jR ar (pv 1))) ar) ag))))))),fnP (K:=K) (c:=bu) (ps:=ef) (N:=["_law_script","_law_k","_law_cell"]) (ax (aQ (aC cK (ae (aC gi (ae le_int) (ao (i:=1)))) (ae le_int)) (aE (i:=2) rfl)) (ax (jo (dq (hZ (aC sf (ae (br bH (aa (ao (i:=0)) af))) (ae le_int))) (aQ (br Bo (aa (ae (aC dg (ao (i:=0)) (ae (aC md (ao (i:=1)) (ae (br bH (aa (ao (i:=0)) af))))))) af)) (aE (i:=2) rfl)) bq)) (aX (dS (aa (ae (aj (i:=2))) (aa (ae (aC cK (ae (aC cK (ae (aC md (ao (i:=2)) (ae le_int))) (ae (aC gi (ae le_int) (ao (i:=1)))))) (ae le_int))) af)))))) (fun ds Q h=>le_trans (le_of_eq (jc ds Q h)) (by decide)) nK h⟩
theorem lp:∀p ds Q,au p ds Q->ds.length+1=2:=fun p ds Q h=>by unfold au at h;split at h;(first|rfl|exact h.elim);(first|rfl|exact h.elim)
theorem qF(D:cw K mg "_law_next" jt)(T:Txt mg)(TC:TxC K)(TX:TxX K mg):Cal P w K mg base 1 "_law_next" ["_law_stream_here","_law_many"] (spR K au):=by
 refine D.ok kR (fun _ _ _ _ _ _ us hl=>match us,hl with|[_,_],_=>rfl) (fun vs H Q E h=>?_) (fun f cdv A outer s H vs Q E hr h=>?_)
 .exact y3 lp h
 .have hu:=hr.units;exact⟨_,(ah (cN (ba Aa (df (iA K rfl) (pv 0) ar (fun _ _=>rfl)) ar (bG _)) (ah (aR (i:=2) kR.nd rfl (by walk_at "o") (bY sh (df (iA K rfl) (pv 0) ar (fun _ _=>rfl)) (pv 1))) (ah (qh (bY uC (df (iA K rfl) (pv 0) ar (fun _ _=>rfl)) (pv 1)) (sU (pv 0) ar mK)) (am (aW (pv 2))))) bj) (ah (qh (bY sh (bY (dY K rfl) (bY jR (df (iA K rfl) (pv 0) ar (fun _ _=>rfl)) ar) ar) ar) (sU (pv 0) ar mK)) (am (aW (bY sh (bY uC (bY sh (bY jR (df (iA K rfl) (pv 0) ar (fun _ _=>rfl)) (df (iA K rfl) (pv 0) ar (fun _ _=>rfl))) ar) ar) (pv 1)))))),fnR (K:=K) (c:=au) (ps:=fW) (N:=["_law_stream_here","_law_many","_law_digit"]) (ax (dq (hZ (aC sf (ae (aC dg (ao (i:=0)) (ae le_int))) (ae le_int))) (ax (aQ (aC md (ae (aC dg (ao (i:=0)) (ae le_int))) (ao (i:=1))) (aE (i:=2) rfl)) (ax (p6 (i:=0) (aC p4 (ae (aC dg (ao (i:=0)) (ae le_int))) (ao (i:=1))) le_int) (aX (aj (i:=2))))) bq) (ax (p6 (i:=0) (aC md (ae (aC cK (ae (aC gi (ae (aC dg (ao (i:=0)) (ae le_int))) (ae le_int))) (ae le_int))) (ae le_int)) le_int) (aX (aC md (ae (aC p4 (ae (aC md (ae (aC gi (ae (aC dg (ao (i:=0)) (ae le_int))) (ae (aC dg (ao (i:=0)) (ae le_int))))) (ae le_int))) (ae le_int))) (ao (i:=1)))))) (fun p ds Q h=>le_trans (le_of_eq (lp p ds Q h)) (by decide)) qu h⟩
theorem lq:∀p ds Q,bn p ds Q->ds.length+1=3:=fun p ds Q h=>by unfold bn at h;split at h;(first|rfl|exact h.elim);(first|rfl|exact h.elim)
theorem qG(D:cw K mg "_law_word" ju)(T:Txt mg)(TC:TxC K)(TX:TxX K mg)(C_law_next:Cal P w K mg base 1 "_law_next" ["_law_stream_here","_law_many"] (spR K au)):Cal P w K mg base 2 "_law_word" ["_law_stream_here","_law_letters","_law_most"] (spR K bn):=by
 refine D.ok ql (fun _ _ _ _ _ _ us hl=>match us,hl with|[_,_,_],_=>rfl) (fun vs H Q E h=>?_) (fun f cdv A outer s H vs Q E hr h=>?_)
 .exact y3 lq h
 .have hu:=hr.units;exact⟨_,(am (aW (fq K rfl PySem.F.plainAttrs_str PySem.F.slot_str_join PySem.F.type_str_join (wI K rfl) (bN (l:=[]) (by decide +kernel)) (paC (cE (wi:=(vN (bp (tOp (zH K) (tC (V.int 1)) (fi (spR K au) [] E0 (bp (ck 0) (bp (ck 2) fE)))) fE))) (g:=(dQ 0)) (tts:=nU) (te:=(tOp (xA K) (ck 1) (fi (spR K au) [] E0 (bp (ck 2) (bp (tCB (oI K) (bp (ck 1) fE)) fE))))) ["_law_k","_law_letters","_law_stream_here"] [none,some 1,some 0] rfl (gI rfl T.b_range (paC (bY (dY K rfl) ar (aq C_law_next (hr.mono (by decide)) (paC (pv 0) (paC (pv 2) ag)))) ag)) (fun _ _ _ _=>⟨(aY (i:=0) (by show List.Nodup (["_law_k","_law_letters","_law_stream_here"]:List Str);decide +kernel) rfl (by walk_at "o")),dC,(df (iA K rfl) (pv 1) (aq C_law_next (hr.mono (by decide)) (paC (pv 2) (paC (al (cQ K rfl) rfl T.b_len PySem.boot_len (paC (pv 1) ag)) ag))) (fun _ _=>rfl))⟩) (by kernel_rfl)) ag)))),fnR (K:=K) (c:=bn) (ps:=fX) (N:=["_law_stream_here","_law_letters","_law_most"]) (aX (oM wJ (le_str (l:=[])) (aa (ae (cF (ix:=[none,some 1,some 0]) rfl (ut (aa (ae (aC cK (ae le_int) (ae (aZ (i:=0) (aa (ae (aj (i:=2))) af))))) af)) (fun fs hc=>(aK (i:=0) (m5 hc (by decide)))) fu (aC dg (ao (i:=1)) (ae (aZ (i:=2) (aa (ae (br bH (aa (ao (i:=1)) af))) af)))))) af))) (fun p ds Q h=>le_trans (le_of_eq (lq p ds Q h)) (by decide)) qv h⟩
theorem lu:∀ds Q,aG ds Q->ds.length=1:=fun ds Q h=>by unfold aG at h;split at h;(first|rfl|exact h.elim);(first|rfl|exact h.elim)
theorem qH(D:cw K mg "_law_back" jw)(T:Txt mg)(TC:TxC K)(TX:TxX K mg):Cal P w K mg base 1 "_law_back" ["_law_text"] (spP K aG):=by
 refine D.ok fS (fun _ _ _ _ _ _ us hl=>match us,hl with|[_],_=>rfl) (fun vs H Q E h=>?_) (fun f cdv A outer s H vs Q E hr h=>?_)
 .exact j9 lu h
 .have hu:=hr.units;exact⟨_,(ah (aR (i:=1) fS.nd rfl (by walk_at "o") (bN (l:=[]) (by decide +kernel))) (ah (gc PassesOwn.never rfl (cR K rfl (pv 0)) (aY (i:=2) fS.nd rfl (by walk_at "o")) (am (aR (i:=1) fS.nd rfl (by walk_at "o") (bY (dY K rfl) (pv 2) (pv 1))))) (am (aW (pv 1))))),fnP (K:=K) (c:=aG) (ps:=fY) (N:=["_law_text","_law_found","_law_sign"]) (ax (aQ (le_str (l:=[])) (aE (i:=1) rfl)) (ax (gL (cS (aj (i:=0))) (aK (i:=2) rfl) (aQ (aC cK (ao (i:=2)) (ao (i:=1))) (aE (i:=1) rfl))) (aX (aj (i:=1))))) (fun ds Q h=>le_trans (le_of_eq (lu ds Q h)) (by decide)) qw h⟩
theorem mE:∀p ds Q,cv p ds Q->ds.length+1=3:=fun p ds Q h=>by unfold cv at h;split at h;(first|rfl|exact h.elim);(first|rfl|exact h.elim)
theorem sI(D:cw K mg "_law_cut" kP)(T:Txt mg)(TC:TxC K)(TX:TxX K mg)(C_law_next:Cal P w K mg base 1 "_law_next" ["_law_stream_here","_law_many"] (spR K au)):Cal P w K mg base 2 "_law_cut" ["_law_stream_here","_law_text","_law_most"] (spR K cv):=by
 refine D.ok mr (fun _ _ _ _ _ _ us hl=>match us,hl with|[_,_,_],_=>rfl) (fun vs H Q E h=>?_) (fun f cdv A outer s H vs Q E hr h=>?_)
 .exact y3 mE h
 .have hu:=hr.units;exact⟨_,(ah (aR (i:=3) mr.nd rfl (by walk_at "o") (aq C_law_next (hr.mono (by decide)) (paC (pv 0) (paC (al (cQ K rfl) rfl T.b_len PySem.boot_len (paC (pv 1) ag)) ag)))) (am (aW (b9 (pQ K rfl) (pv 1) (cC (pv 3)) (cC (bY (dY K rfl) (bY (dY K rfl) (pv 3) ar) (aq C_law_next (hr.mono (by decide)) (paC (pv 0) (paC (pv 2) ag))))))))),fnR (K:=K) (c:=cv) (ps:=hG) (N:=["_law_stream_here","_law_text","_law_most","_law_at"]) (ax (aQ (aZ (i:=0) (aa (ae (br bH (aa (ao (i:=1)) af))) af)) (aE (i:=3) rfl)) (aX (cb (ao (i:=1)) (bR (aj (i:=3))) (bR (aC cK (ae (aC cK (ao (i:=3)) (ae le_int))) (ae (aZ (i:=0) (aa (ae (aj (i:=2))) af)))))))) (fun p ds Q h=>le_trans (le_of_eq (mE p ds Q h)) (by decide)) sE h⟩
theorem lv:∀p ds Q,cr p ds Q->ds.length+1=2:=fun p ds Q h=>by unfold cr at h;split at h;(first|rfl|exact h.elim);(first|rfl|exact h.elim)
theorem qI(D:cw K mg "_law_base" jx)(T:Txt mg)(TC:TxC K)(TX:TxX K mg)(C_law_next:Cal P w K mg base 1 "_law_next" ["_law_stream_here","_law_many"] (spR K au))(C_law_word:Cal P w K mg base 2 "_law_word" ["_law_stream_here","_law_letters","_law_most"] (spR K bn)):Cal P w K mg base 3 "_law_base" ["_law_stream_here","_law_most"] (spR K cr):=by
 refine D.ok fT (fun _ _ _ _ _ _ us hl=>match us,hl with|[_,_],_=>rfl) (fun vs H Q E h=>?_) (fun f cdv A outer s H vs Q E hr h=>?_)
 .exact y3 lv h
 .have hu:=hr.units;exact⟨_,(ah (aR (i:=2) fT.nd rfl (by walk_at "o") (df (iA K rfl) (dR (paC (bN (l:=[97,98]) (by decide +kernel)) (paC (bN (l:=[97,98,99]) (by decide +kernel)) (paC (bN (l:=[97,98,99,100,101,102,103,104,105,106,107,108,109,110,111,112,113,114,115,116,117,118,119,120,121,122]) (by decide +kernel)) ag)))) (aq C_law_next (hr.mono (by decide)) (paC (pv 0) (paC ar ag))) (fun _ _=>rfl))) (ah (aR (i:=3) fT.nd rfl (by walk_at "o") (aq C_law_word (hr.mono (by decide)) (paC (pv 0) (paC (pv 2) (paC (bY jR ar (pv 1)) ag))))) (ah (jj (cN (ba (kG K rfl hu) (aq C_law_next (hr.mono (by decide)) (paC (pv 0) (paC ar ag))) ar (bG _)) (am (aR (i:=3) fT.nd rfl (by walk_at "o") (bY jR (b9 (pQ K rfl) (pv 3) de (cC (bY (dY K rfl) ar (aq C_law_next (hr.mono (by decide)) (paC (pv 0) (paC ar ag)))))) (pv 1)))) bj)) (am (aW (ia (paC (pv 2) (paC (pv 3) ag)))))))),fnR (K:=K) (c:=cr) (ps:=fZ) (N:=["_law_stream_here","_law_most","_law_letters","_law_base_here"]) (ax (aQ (aC dg (ae (dS (aa (ae (le_str (l:=[97,98]))) (aa (ae (le_str (l:=[97,98,99]))) (aa (ae (le_str (l:=[97,98,99,100,101,102,103,104,105,106,107,108,109,110,111,112,113,114,115,116,117,118,119,120,121,122]))) af))))) (ae (aZ (i:=0) (aa (ae le_int) af)))) (aE (i:=2) rfl)) (ax (aQ (aZ (i:=0) (aa (ae (aj (i:=2))) (aa (ae (aC gi (ae le_int) (ao (i:=1)))) af))) (aE (i:=3) rfl)) (ax (jo (dq (hZ (aC gM (ae (aZ (i:=0) (aa (ae le_int) af))) (ae le_int))) (aQ (aC gi (ae (cb (ao (i:=3)) cq (bR (aC cK (ae le_int) (ae (aZ (i:=0) (aa (ae le_int) af))))))) (ao (i:=1))) (aE (i:=3) rfl)) bq)) (aX (iO (aa (ae (aj (i:=2))) (aa (ae (aj (i:=3))) af))))))) (fun p ds Q h=>le_trans (le_of_eq (lv p ds Q h)) (by decide)) qy h⟩
theorem jd:∀p ds Q,bF p ds Q->ds.length+1=3:=fun p ds Q h=>by unfold bF at h;split at h;(first|rfl|exact h.elim);(first|rfl|exact h.elim)
theorem nQ(D:cw K mg "_law_pieces" gQ)(T:Txt mg)(TC:TxC K)(TX:TxX K mg)(C_law_back:Cal P w K mg base 1 "_law_back" ["_law_text"] (spP K aG))(C_law_base:Cal P w K mg base 3 "_law_base" ["_law_stream_here","_law_most"] (spR K cr))(C_law_cut:Cal P w K mg base 2 "_law_cut" ["_law_stream_here","_law_text","_law_most"] (spR K cv))(C_law_next:Cal P w K mg base 1 "_law_next" ["_law_stream_here","_law_many"] (spR K au))(C_law_word:Cal P w K mg base 2 "_law_word" ["_law_stream_here","_law_letters","_law_most"] (spR K bn)):Cal P w K mg base 4 "_law_pieces" ["_law_stream_here","_law_many","_law_most"] (spR K bF):=by
 refine D.ok a8 (fun _ _ _ _ _ _ us hl=>match us,hl with|[_,_,_],_=>rfl) (fun vs H Q E h=>?_) (fun f cdv A outer s H vs Q E hr h=>?_)
 .exact y3 jd h
 .have hu:=hr.units;exact⟨_,(ah (xo (aq C_law_base (hr.mono (by decide)) (paC (pv 0) (paC (pv 2) ag))) (oQ K rfl (n:=2) rfl (dH (aY (i:=3) a8.nd rfl (by walk_at "o")) (dH (aY (i:=4) a8.nd rfl (by walk_at "o")) kd)))) (ah (aR (i:=5) a8.nd rfl (by walk_at "o") (dR ag)) (ah (gc PassesOwn.never rfl (gI rfl T.b_range (paC (pv 1) ag)) (aY (i:=6) a8.nd rfl (by walk_at "o")) (ah (aR (i:=7) a8.nd rfl (by walk_at "o") (aq C_law_next (hr.mono (by decide)) (paC (pv 0) (paC ar ag)))) (ah (jj (cN (PW.pt (xm (ba Aa (pv 7) ar (bG _)) (sR (ba (lG K rfl hu) (pv 5) (dR ag) (bG _))))) (ah (aR (i:=8) a8.nd rfl (by walk_at "o") (df (iA K rfl) (pv 5) (aq C_law_next (hr.mono (by decide)) (paC (pv 0) (paC (al (cQ K rfl) rfl T.b_len PySem.boot_len (paC (pv 5) ag)) ag))) (fun _ _=>rfl))) (am (cN (ba (kG K rfl hu) (pv 7) ar (bG _)) (am (aR (i:=8) a8.nd rfl (by walk_at "o") (aq C_law_cut (hr.mono (by decide)) (paC (pv 0) (paC (pv 8) (paC (pv 2) ag)))))) bj))) (am (cN (ba (kG K rfl hu) (pv 7) ar (bG _)) (am (aR (i:=8) a8.nd rfl (by walk_at "o") (aq C_law_word (hr.mono (by decide)) (paC (pv 0) (paC (pv 3) (paC (pv 2) ag)))))) (am (cN (ba (kG K rfl hu) (pv 7) ar (bG _)) (ah (aR (i:=8) a8.nd rfl (by walk_at "o") (aq C_law_word (hr.mono (by decide)) (paC (pv 0) (paC (pv 3) (paC (bY uC (bY (dY K rfl) (pv 2) ar) ar) ag))))) (am (aR (i:=8) a8.nd rfl (by walk_at "o") (bY (dY K rfl) (pv 8) (b9 (pQ K rfl) (aq C_law_back (hr.mono (by decide)) (paC (pv 8) ag)) (cC (aq C_law_next (hr.mono (by decide)) (paC (pv 0) (paC ar ag)))) de))))) (am (aR (i:=8) a8.nd rfl (by walk_at "o") (aq C_law_cut (hr.mono (by decide)) (paC (pv 0) (paC (pv 4) (paC (pv 2) ag)))))))))))) (ah (jj (cN (ba (kG K rfl hu) (aq C_law_next (hr.mono (by decide)) (paC (pv 0) (paC ar ag))) ar (bG _)) (am (aR (i:=8) a8.nd rfl (by walk_at "o") (aq C_law_back (hr.mono (by decide)) (paC (pv 8) ag)))) bj)) (am (gH (fq K rfl PySem.F.plainAttrs_list PySem.F.slot_list_append PySem.F.type_list_append fj (pv 5) (paC (b9 (pQ K rfl) (pv 8) de (cC (pv 2))) ag)))))))) (am (aW (pv 5)))))),fnR (K:=K) (c:=bF) (ps:=ei) (N:=["_law_stream_here","_law_many","_law_most","_law_letters","_law_base_here","_law_found","_law_k","_law_way","_law_piece"]) (ax (aQ (aZ (i:=0) (aa (ae (aj (i:=2))) af)) (BI (dI (aK (i:=3) rfl) (dI (aK (i:=4) rfl) ky)))) (ax (aQ (dS af) (aE (i:=5) rfl)) (ax (gL (ut (aa (ae (aj (i:=1))) af)) (aK (i:=6) rfl) (ax (aQ (aZ (i:=0) (aa (ae le_int) af)) (aE (i:=7) rfl)) (ax (jo (dq (xy (hZ (aC sf (ao (i:=7)) (ae le_int))) (hZ (aC ig (ao (i:=5)) (ae (dS af))))) (ax (aQ (aC dg (ao (i:=5)) (ae (aZ (i:=0) (aa (ae (br bH (aa (ao (i:=5)) af))) af)))) (aE (i:=8) rfl)) (dq (hZ (aC gM (ao (i:=7)) (ae le_int))) (aQ (aZ (i:=0) (aa (ae (aj (i:=8))) (aa (ae (aj (i:=2))) af))) (aE (i:=8) rfl)) bq)) (dq (hZ (aC gM (ao (i:=7)) (ae le_int))) (aQ (aZ (i:=0) (aa (ae (aj (i:=3))) (aa (ae (aj (i:=2))) af))) (aE (i:=8) rfl)) (dq (hZ (aC gM (ao (i:=7)) (ae le_int))) (ax (aQ (aZ (i:=0) (aa (ae (aj (i:=3))) (aa (ae (aC p4 (ae (aC cK (ao (i:=2)) (ae le_int))) (ae le_int))) af))) (aE (i:=8) rfl)) (aQ (aC cK (ao (i:=8)) (ae (cb (ae (aB (c:=aG) (aa (ae (aj (i:=8))) af))) (bR (aZ (i:=0) (aa (ae le_int) af))) cq))) (aE (i:=8) rfl))) (aQ (aZ (i:=0) (aa (ae (aj (i:=4))) (aa (ae (aj (i:=2))) af))) (aE (i:=8) rfl)))))) (ax (jo (dq (hZ (aC gM (ae (aZ (i:=0) (aa (ae le_int) af))) (ae le_int))) (aQ (aB (c:=aG) (aa (ae (aj (i:=8))) af)) (aE (i:=8) rfl)) bq)) (jn (rg (i:=5) (cb (ao (i:=8)) cq (bR (aj (i:=2)))))))))) (aX (aj (i:=5)))))) (fun p ds Q h=>le_trans (le_of_eq (jd p ds Q h)) (by decide)) nL h⟩
theorem mF:∀ds Q,bQ ds Q->ds.length=2:=fun ds Q h=>by unfold bQ at h;split at h;(first|rfl|exact h.elim);(first|rfl|exact h.elim)
theorem sJ(D:cw K mg "_law_lap" kQ)(T:Txt mg)(TC:TxC K)(TX:TxX K mg):Cal P w K mg base 1 "_law_lap" ["_law_one","_law_other"] (spP K bQ):=by
 refine D.ok ms (fun _ _ _ _ _ _ us hl=>match us,hl with|[_,_],_=>rfl) (fun vs H Q E h=>?_) (fun f cdv A outer s H vs Q E hr h=>?_)
 .exact j9 mF h
 .have hu:=hr.units;exact⟨_,(ah (gc PassesOwn.never rfl (ou rfl T.b_range (paC (bY wC (al (uv rfl) rfl T.b_min boot_min (paC (al (cQ K rfl) rfl T.b_len PySem.boot_len (paC (pv 0) ag)) (paC (al (cQ K rfl) rfl T.b_len PySem.boot_len (paC (pv 1) ag)) ag))) ar) (paC ar (paC (vO qO ar) ag)))) (aY (i:=2) ms.nd rfl (by walk_at "o")) (am (cN (ba (kG K rfl hu) (b9 (pQ K rfl) (pv 0) (cC (bY wC (al (cQ K rfl) rfl T.b_len PySem.boot_len (paC (pv 0) ag)) (pv 2))) de) (b9 (pQ K rfl) (pv 1) de (cC (pv 2))) (bG _)) (am (aW (pv 2))) bj))) (am (aW ar))),fnP (K:=K) (c:=bQ) (ps:=hX) (N:=["_law_one","_law_other","_law_k"]) (ax (gL (Bi (aa (ae (aC rc (ae (br p7 (aa (ae (br bH (aa (ao (i:=0)) af))) (aa (ae (br bH (aa (ao (i:=1)) af))) af)))) (ae le_int))) (aa (ae le_int) (aa (ae (wu rl (ae le_int))) af)))) (aK (i:=2) rfl) (dq (hZ (aC gM (ae (cb (ao (i:=0)) (bR (aC rc (ae (br bH (aa (ao (i:=0)) af))) (ao (i:=2)))) cq)) (ae (cb (ao (i:=1)) cq (bR (aj (i:=2))))))) (aX (aj (i:=2))) bq)) (aX le_int)) (fun ds Q h=>le_trans (le_of_eq (mF ds Q h)) (by decide)) sF h⟩
theorem ip:∀ds Q,bc ds Q->ds.length=2:=fun ds Q h=>by unfold bc at h;split at h;(first|rfl|exact h.elim);(first|rfl|exact h.elim)
theorem lT(D:cw K mg "_law_is_left" fO)(T:Txt mg)(TC:TxC K)(TX:TxX K mg)(C_law_back:Cal P w K mg base 1 "_law_back" ["_law_text"] (spP K aG)):Cal P w K mg base 2 "_law_is_left" ["_law_pieces_here","_law_k"] (spP K bc):=by
 refine D.ok dL (fun _ _ _ _ _ _ us hl=>match us,hl with|[_,_],_=>rfl) (fun vs H Q E h=>?_) (fun f cdv A outer s H vs Q E hr h=>?_)
 .exact j9 ip h
 .have hu:=hr.units;exact⟨_,(ah (aR (i:=2) dL.nd rfl (by walk_at "o") (df (iA K rfl) (pv 0) (pv 1) (fun _ _=>rfl))) (ah (aR (i:=3) dL.nd rfl (by walk_at "o") (aq C_law_back (hr.mono (by decide)) (paC (pv 2) ag))) (ah (gc PassesOwn.never rfl (cR K rfl (pv 0)) (aY (i:=4) dL.nd rfl (by walk_at "o")) (am (cN (PW.pt (xm (ba Aa (al (cQ K rfl) rfl T.b_len PySem.boot_len (paC (pv 4) ag)) (al (cQ K rfl) rfl T.b_len PySem.boot_len (paC (pv 2) ag)) (bG _)) (sR (PW.pt (gG (ba Ct (fq K rfl PySem.F.plainAttrs_str PySem.F.slot_str_find PySem.F.type_str_find gY (pv 4) (paC (pv 2) ag)) ar (bG _)) (fg (ba Ct (fq K rfl PySem.F.plainAttrs_str PySem.F.slot_str_find PySem.F.type_str_find gY (pv 4) (paC (pv 3) ag)) ar (bG _)))))))) (am (aW fB)) bj))) (am (aW (An (jg (w4 K rfl) (pv 2) (b9 (pQ K rfl) (pv 0) de (cC (pv 1))) (by with_unfolding_all rfl)) (nY (jg (w4 K rfl) (pv 3) (b9 (pQ K rfl) (pv 0) de (cC (pv 1))) (by with_unfolding_all rfl))))))))),fnP (K:=K) (c:=bc) (ps:=dN) (N:=["_law_pieces_here","_law_k","_law_piece","_law_back_here","_law_other"]) (ax (aQ (aC dg (ao (i:=0)) (ao (i:=1))) (aE (i:=2) rfl)) (ax (aQ (aB (c:=aG) (aa (ae (aj (i:=2))) af)) (aE (i:=3) rfl)) (ax (gL (cS (aj (i:=0))) (aK (i:=4) rfl) (dq (xy (hZ (aC sf (ae (br bH (aa (ao (i:=4)) af))) (ae (br bH (aa (ao (i:=2)) af))))) (gK (hZ (aC wx (ae (oM gZ (aj (i:=4)) (aa (ao (i:=2)) af))) (ae le_int))) (hZ (aC wx (ae (oM gZ (aj (i:=4)) (aa (ao (i:=3)) af))) (ae le_int))))) (aX fM) bq)) (aX (Ba (aC mo (ao (i:=2)) (ae (cb (ao (i:=0)) cq (bR (aj (i:=1)))))) (aC mo (ao (i:=3)) (ae (cb (ao (i:=0)) cq (bR (aj (i:=1))))))))))) (fun ds Q h=>le_trans (le_of_eq (ip ds Q h)) (by decide)) lN h⟩
theorem lw:∀ds Q,bW ds Q->ds.length=1:=fun ds Q h=>by unfold bW at h;split at h;(first|rfl|exact h.elim);(first|rfl|exact h.elim)
theorem qJ(D:cw K mg "_law_kept" jy)(T:Txt mg)(TC:TxC K)(TX:TxX K mg)(C_law_is_left:Cal P w K mg base 2 "_law_is_left" ["_law_pieces_here","_law_k"] (spP K bc)):Cal P w K mg base 3 "_law_kept" ["_law_pieces_here"] (spP K bW):=by
 refine D.ok qm (fun _ _ _ _ _ _ us hl=>match us,hl with|[_],_=>rfl) (fun vs H Q E h=>?_) (fun f cdv A outer s H vs Q E hr h=>?_)
 .exact j9 lw h
 .have hu:=hr.units;exact⟨_,(am (aW (cE (wi:=(vN (bp (tCB (oI K) (bp (ck 0) fE)) fE))) (g:=(dQ 0)) (tts:=(Cw (tB (fi (spP K bc) [] E0 (bp (ck 1) (bp (ck 0) fE)))))) (te:=(ck 0)) ["_law_k","_law_pieces_here"] [none,some 0] rfl (gI rfl T.b_range (paC (al (cQ K rfl) rfl T.b_len PySem.boot_len (paC (pv 0) ag)) ag)) (fun _ _ _ _=>⟨(aY (i:=0) (by show List.Nodup (["_law_k","_law_pieces_here"]:List Str);decide +kernel) rfl (by walk_at "o")),(jk (cM (bz (aq C_law_is_left (hr.mono (by decide)) (paC (pv 1) (paC (pv 0) ag)))))),(pv 0)⟩) (by kernel_rfl)))),fnP (K:=K) (c:=bW) (ps:=f7) (N:=["_law_pieces_here"]) (aX (cF (ix:=[none,some 0]) rfl (ut (aa (ae (br bH (aa (ao (i:=0)) af))) af)) (fun fs hc=>(aK (i:=0) (m5 hc (by decide)))) (cP (jl (aB (c:=bc) (aa (ae (aj (i:=1))) (aa (ae (aj (i:=0))) af))))) (aj (i:=0)))) (fun ds Q h=>le_trans (le_of_eq (lw ds Q h)) (by decide)) qA h⟩
theorem jP:∀ds Q,aL ds Q->ds.length=1:=fun ds Q h=>by unfold aL at h;split at h;(first|rfl|exact h.elim);(first|rfl|exact h.elim)
theorem pN(D:cw K mg "_law_whole" iE)(T:Txt mg)(TC:TxC K)(TX:TxX K mg):Cal P w K mg base 1 "_law_whole" ["_law_found"] (spP K aL):=by
 refine D.ok pd (fun _ _ _ _ _ _ us hl=>match us,hl with|[_],_=>rfl) (fun vs H Q E h=>?_) (fun f cdv A outer s H vs Q E hr h=>?_)
 .exact j9 jP h
 .have hu:=hr.units;exact⟨_,(am (aW (nZ (al (oJ K rfl) rfl T.b_isinstance boot_isinstance (paC (pv 0) (paC (fC (v:=.ty "int") rfl T.b_int boot_int rfl) ag))) (nY (sS (al (oJ K rfl) rfl T.b_isinstance boot_isinstance (paC (pv 0) (paC (fC (v:=.ty "bool") rfl T.b_bool boot_bool rfl) ag)))))))),fnP (K:=K) (c:=aL) (ps:=eX) (N:=["_law_found"]) (aX (oH (jK .int (ao (i:=0))) (uq (jK .bool (ao (i:=0)))))) (fun ds Q h=>le_trans (le_of_eq (jP ds Q h)) (by decide)) pI h⟩
theorem je:∀ds Q,bv ds Q->ds.length=1:=fun ds Q h=>by unfold bv at h;split at h;(first|rfl|exact h.elim);(first|rfl|exact h.elim)
theorem nR(D:cw K mg "_law_states" gR)(T:Txt mg)(TC:TxC K)(TX:TxX K mg)(C_law_back:Cal P w K mg base 1 "_law_back" ["_law_text"] (spP K aG)):Cal P w K mg base 2 "_law_states" ["_law_words"] (spP K bv):=by
 refine D.ok fU (fun _ _ _ _ _ _ us hl=>match us,hl with|[_],_=>rfl) (fun vs H Q E h=>?_) (fun f cdv A outer s H vs Q E hr h=>?_)
 .exact j9 je h
 .have hu:=hr.units;exact⟨_,(ah (aR (i:=1) fU.nd rfl (by walk_at "o") (dR ag)) (ah (gc PassesOwn.never rfl (cR K rfl (pv 0)) (aY (i:=2) fU.nd rfl (by walk_at "o")) (am (gH (fq K rfl PySem.F.plainAttrs_list PySem.F.slot_list_extend PySem.F.type_list_extend tP (pv 1) (paC (dR (paC (pv 2) (paC (aq C_law_back (hr.mono (by decide)) (paC (pv 2) ag)) ag))) ag))))) (am (aW (pv 1))))),fnP (K:=K) (c:=bv) (ps:=ej) (N:=["_law_words","_law_found","_law_word_here"]) (ax (aQ (dS af) (aE (i:=1) rfl)) (ax (gL (cS (aj (i:=0))) (aK (i:=2) rfl) (jn (Cb (i:=1) (dS (aa (ae (aj (i:=2))) (aa (ae (aB (c:=aG) (aa (ae (aj (i:=2))) af))) af)))))) (aX (aj (i:=1))))) (fun ds Q h=>le_trans (le_of_eq (je ds Q h)) (by decide)) nN h⟩
theorem lx:∀ds Q,bX ds Q->ds.length=2:=fun ds Q h=>by unfold bX at h;split at h;(first|rfl|exact h.elim);(first|rfl|exact h.elim)
theorem qK(D:cw K mg "_law_left" jA)(T:Txt mg)(TC:TxC K)(TX:TxX K mg)(C_law_back:Cal P w K mg base 1 "_law_back" ["_law_text"] (spP K aG)):Cal P w K mg base 2 "_law_left" ["_law_pieces_here","_law_kept_here"] (spP K bX):=by
 refine D.ok dG (fun _ _ _ _ _ _ us hl=>match us,hl with|[_,_],_=>rfl) (fun vs H Q E h=>?_) (fun f cdv A outer s H vs Q E hr h=>?_)
 .exact j9 lx h
 .have hu:=hr.units;exact⟨_,(ah (aR (i:=2) dG.nd rfl (by walk_at "o") (dR ag)) (ah (gc PassesOwn.never rfl (gI rfl T.b_range (paC (al (cQ K rfl) rfl T.b_len PySem.boot_len (paC (pv 0) ag)) ag)) (aY (i:=3) dG.nd rfl (by walk_at "o")) (am (cN (ba (rC K rfl) (pv 3) (pv 1) (by with_unfolding_all rfl)) (ah (aR (i:=4) dG.nd rfl (by walk_at "o") (dR (paC (df (iA K rfl) (pv 0) (pv 3) (fun _ _=>rfl)) (paC (aq C_law_back (hr.mono (by decide)) (paC (df (iA K rfl) (pv 0) (pv 3) (fun _ _=>rfl)) ag)) ag)))) (ah (aR (i:=5) dG.nd rfl (by walk_at "o") (df (iA K rfl) (cE (wi:=(kB K (ck 1))) (g:=(dQ 0)) (tts:=(rL (tOp Ee (tCB (y9 K) (bp (rZ [none,some 2,some 0] (kB K (ck 1)) (dQ 0) nU (tBM K "str" rh (tOp (xA K) (ck 1) (ck 2)) (bp (ck 0) fE))) fE)) (tC (V.int 0))))) (te:=(ck 0)) ["_law_other","_law_ways","_law_pieces_here"] [none,some 4,some 0] rfl (cR K rfl (pv 1)) (fun _ _ _ _=>⟨(aY (i:=0) (by show List.Nodup (["_law_other","_law_ways","_law_pieces_here"]:List Str);decide +kernel) rfl (by walk_at "o")),(jk (ba Ct (al (BG K rfl rfl) rfl T.b_max boot_max (paC (cE (wi:=(kB K (ck 1))) (g:=(dQ 0)) (tts:=nU) (te:=(tBM K "str" rh (tOp (xA K) (ck 1) (ck 2)) (bp (ck 0) fE))) ["_law_text","_law_pieces_here","_law_other"] [none,some 2,some 0] rfl (cR K rfl (pv 1)) (fun _ _ _ _=>⟨(aY (i:=0) (by show List.Nodup (["_law_text","_law_pieces_here","_law_other"]:List Str);decide +kernel) rfl (by walk_at "o")),dC,(fq K rfl PySem.F.plainAttrs_str PySem.F.slot_str_find PySem.F.type_str_find gY (df (iA K rfl) (pv 1) (pv 2) (fun _ _=>rfl)) (paC (pv 0) ag))⟩) (by kernel_rfl)) ag)) ar (bG _))),(pv 0)⟩) (by kernel_rfl)) ar (fun _ _=>rfl))) (ah (aR (i:=6) dG.nd rfl (by walk_at "o") (bB DC rfl T.b_int boot_int (paC (jg Ey (fq K rfl PySem.F.plainAttrs_str PySem.F.slot_str_find PySem.F.type_str_find gY (df (iA K rfl) (pv 0) (pv 5) (fun _ _=>rfl)) (paC (df (iA K rfl) (pv 4) ar (fun _ _=>rfl)) ag)) ar (bG _)) ag))) (am (gH (fq K rfl PySem.F.plainAttrs_list PySem.F.slot_list_append PySem.F.type_list_append fj (pv 2) (paC (ia (paC (pv 3) (paC (pv 5) (paC (fq K rfl PySem.F.plainAttrs_str PySem.F.slot_str_find PySem.F.type_str_find gY (df (iA K rfl) (pv 0) (pv 5) (fun _ _=>rfl)) (paC (df (iA K rfl) (pv 4) (pv 6) (fun _ _=>rfl)) ag)) (paC (pv 6) ag))))) ag))))))) bj))) (am (aW (pv 2))))),fnP (K:=K) (c:=bX) (ps:=f8) (N:=["_law_pieces_here","_law_kept_here","_law_rows_here","_law_k","_law_ways","_law_holder","_law_way"]) (ax (aQ (dS af) (aE (i:=2) rfl)) (ax (gL (ut (aa (ae (br bH (aa (ao (i:=0)) af))) af)) (aK (i:=3) rfl) (dq (hZ (aC mo (ao (i:=3)) (ao (i:=1)))) (ax (aQ (dS (aa (ae (aC dg (ao (i:=0)) (ao (i:=3)))) (aa (ae (aB (c:=aG) (aa (ae (aC dg (ao (i:=0)) (ao (i:=3)))) af))) af))) (aE (i:=4) rfl)) (ax (aQ (aC dg (ae (cF (ix:=[none,some 4,some 0]) rfl (cS (aj (i:=1))) (fun fs hc=>(aK (i:=0) (m5 hc (by decide)))) (hZ (aC wx (ae (br zb (aa (ae (cF (ix:=[none,some 2,some 0]) rfl (cS (aj (i:=1))) (fun fs hc=>(aK (i:=0) (m5 hc (by decide)))) fu (oM gZ (aC dg (ao (i:=1)) (ao (i:=2))) (aa (ao (i:=0)) af)))) af))) (ae le_int))) (aj (i:=0)))) (ae le_int)) (aE (i:=5) rfl)) (ax (aQ (br BF (aa (ae (aC De (ae (oM gZ (aC dg (ao (i:=0)) (ao (i:=5))) (aa (ae (aC dg (ao (i:=4)) (ae le_int))) af))) (ae le_int))) af)) (aE (i:=6) rfl)) (jn (rg (i:=2) (iO (aa (ae (aj (i:=3))) (aa (ae (aj (i:=5))) (aa (ae (oM gZ (aC dg (ao (i:=0)) (ao (i:=5))) (aa (ae (aC dg (ao (i:=4)) (ao (i:=6)))) af))) (aa (ae (aj (i:=6))) af)))))))))) bq)) (aX (aj (i:=2))))) (fun ds Q h=>le_trans (le_of_eq (lx ds Q h)) (by decide)) qB h⟩
theorem iq:∀ds Q,aV ds Q->ds.length=2:=fun ds Q h=>by unfold aV at h;split at h;(first|rfl|exact h.elim);(first|rfl|exact h.elim)
theorem lU(D:cw K mg "_law_numbers" fP)(T:Txt mg)(TC:TxC K)(TX:TxX K mg)(C_law_whole:Cal P w K mg base 1 "_law_whole" ["_law_found"] (spP K aL)):Cal P w K mg base 2 "_law_numbers" ["_law_found","_law_due"] (spP K aV):=by
 refine D.ok fe (fun _ _ _ _ _ _ us hl=>match us,hl with|[_,_],_=>rfl) (fun vs H Q E h=>?_) (fun f cdv A outer s H vs Q E hr h=>?_)
 .exact j9 iq h
 .have hu:=hr.units;exact⟨_,(ah (cN (PW.pt (gG (cM (bz (al (oJ K rfl) rfl T.b_isinstance boot_isinstance (paC (pv 0) (paC (fC (v:=.ty "tuple") rfl T.b_tuple boot_tuple rfl) ag))))) (fg (ba (lG K rfl hu) (al (cQ K rfl) rfl T.b_len PySem.boot_len (paC (pv 0) ag)) (al (cQ K rfl) rfl T.b_len PySem.boot_len (paC (pv 1) ag)) (bG _))))) (am (aW fB)) bj) (ah (gc PassesOwn.never rfl (uL K rfl rfl T.b_zip (paC (pv 0) (paC (pv 1) ag))) (oQ K rfl (n:=2) rfl (dH (aY (i:=2) fe.nd rfl (by walk_at "o")) (dH (aY (i:=3) fe.nd rfl (by walk_at "o")) kd))) (am (cN (PW.pt (gG (cM (bz (aq C_law_whole (hr.mono (by decide)) (paC (pv 2) ag)))) (fg (ba (lG K rfl hu) (pv 2) (pv 3) (bG _))))) (am (aW fB)) bj))) (am (aW fB)))),fnP (K:=K) (c:=aV) (ps:=dO) (N:=["_law_found","_law_due","_law_number","_law_other"]) (ax (dq (gK (cP (jl (jK .tuple (ao (i:=0))))) (hZ (aC ig (ae (br bH (aa (ao (i:=0)) af))) (ae (br bH (aa (ao (i:=1)) af)))))) (aX fM) bq) (ax (gL (uN (aa (ae (aj (i:=0))) (aa (ae (aj (i:=1))) af))) (nk (dI (aK (i:=2) rfl) (dI (aK (i:=3) rfl) ky))) (dq (gK (cP (jl (aB (c:=aL) (aa (ae (aj (i:=2))) af)))) (hZ (aC ig (ao (i:=2)) (ao (i:=3))))) (aX fM) bq)) (aX fM))) (fun ds Q h=>le_trans (le_of_eq (iq ds Q h)) (by decide)) lP h⟩
theorem ly:∀ds Q,bE ds Q->ds.length=2:=fun ds Q h=>by unfold bE at h;split at h;(first|rfl|exact h.elim);(first|rfl|exact h.elim)
theorem qL(D:cw K mg "_law_rows" jB)(T:Txt mg)(TC:TxC K)(TX:TxX K mg)(C_law_numbers:Cal P w K mg base 2 "_law_numbers" ["_law_found","_law_due"] (spP K aV)):Cal P w K mg base 3 "_law_rows" ["_law_found","_law_due"] (spP K bE):=by
 refine D.ok iF (fun _ _ _ _ _ _ us hl=>match us,hl with|[_,_],_=>rfl) (fun vs H Q E h=>?_) (fun f cdv A outer s H vs Q E hr h=>?_)
 .exact j9 ly h
 .have hu:=hr.units;exact⟨_,(ah (cN (PW.pt (gG (cM (bz (al (oJ K rfl) rfl T.b_isinstance boot_isinstance (paC (pv 0) (paC (fC (v:=.ty "tuple") rfl T.b_tuple boot_tuple rfl) ag))))) (fg (ba (lG K rfl hu) (al (cQ K rfl) rfl T.b_len PySem.boot_len (paC (pv 0) ag)) (al (cQ K rfl) rfl T.b_len PySem.boot_len (paC (pv 1) ag)) (bG _))))) (am (aW fB)) bj) (ah (gc PassesOwn.never rfl (uL K rfl rfl T.b_zip (paC (pv 0) (paC (pv 1) ag))) (oQ K rfl (n:=2) rfl (dH (aY (i:=2) iF.nd rfl (by walk_at "o")) (dH (aY (i:=3) iF.nd rfl (by walk_at "o")) kd))) (am (cN (cM (bz (aq C_law_numbers (hr.mono (by decide)) (paC (pv 2) (paC (pv 3) ag))))) (am (aW fB)) bj))) (am (aW fB)))),fnP (K:=K) (c:=bE) (ps:=f9) (N:=["_law_found","_law_due","_law_row","_law_other"]) (ax (dq (gK (cP (jl (jK .tuple (ao (i:=0))))) (hZ (aC ig (ae (br bH (aa (ao (i:=0)) af))) (ae (br bH (aa (ao (i:=1)) af)))))) (aX fM) bq) (ax (gL (uN (aa (ae (aj (i:=0))) (aa (ae (aj (i:=1))) af))) (nk (dI (aK (i:=2) rfl) (dI (aK (i:=3) rfl) ky))) (dq (cP (jl (aB (c:=aV) (aa (ae (aj (i:=2))) (aa (ae (aj (i:=3))) af))))) (aX fM) bq)) (aX fM))) (fun ds Q h=>le_trans (le_of_eq (ly ds Q h)) (by decide)) qC h⟩
theorem lz:∀ds Q,bo ds Q->ds.length=2:=fun ds Q h=>by unfold bo at h;split at h;(first|rfl|exact h.elim);(first|rfl|exact h.elim)
theorem qM(D:cw K mg "_law_told" jC)(T:Txt mg)(TC:TxC K)(TX:TxX K mg)(C_Turnable_many:Co P w K mg base 1 (aD K "Turnable") "many" ["self"] (spP K aP))(C_law_kept:Cal P w K mg base 3 "_law_kept" ["_law_pieces_here"] (spP K bW))(C_law_lap:Cal P w K mg base 1 "_law_lap" ["_law_one","_law_other"] (spP K bQ))(C_law_left:Cal P w K mg base 2 "_law_left" ["_law_pieces_here","_law_kept_here"] (spP K bX))(C_law_numbers:Cal P w K mg base 2 "_law_numbers" ["_law_found","_law_due"] (spP K aV))(C_law_rows:Cal P w K mg base 3 "_law_rows" ["_law_found","_law_due"] (spP K bE))(C_law_states:Cal P w K mg base 2 "_law_states" ["_law_words"] (spP K bv))(C_law_whole:Cal P w K mg base 1 "_law_whole" ["_law_found"] (spP K aL)):Cal P w K mg base 4 "_law_told" ["_law_turnable","_law_pieces_here"] (spP K bo):=by
 refine D.ok eO (fun _ _ _ _ _ _ us hl=>match us,hl with|[_,_],_=>rfl) (fun vs H Q E h=>?_) (fun f cdv A outer s H vs Q E hr h=>?_)
 .exact j9 lz h
 .have hu:=hr.units;exact⟨_,(ah (aR (i:=2) eO.nd rfl (by walk_at "o") (aq C_law_kept (hr.mono (by decide)) (paC (pv 1) ag))) (ah (aR (i:=3) eO.nd rfl (by walk_at "o") (bB (eF K rfl) rfl T.b_tuple boot_tuple (paC (cE (wi:=(kB K (ck 2))) (g:=(dQ 0)) (tts:=nU) (te:=(tOp (xA K) (ck 1) (ck 0))) ["_law_k","_law_pieces_here"] [none,some 1] rfl (cR K rfl (pv 2)) (fun _ _ _ _=>⟨(aY (i:=0) (by show List.Nodup (["_law_k","_law_pieces_here"]:List Str);decide +kernel) rfl (by walk_at "o")),dC,(df (iA K rfl) (pv 1) (pv 0) (fun _ _=>rfl))⟩) (by kernel_rfl)) ag))) (ah (aR (i:=4) eO.nd rfl (by walk_at "o") (aq C_law_states (hr.mono (by decide)) (paC (pv 3) ag))) (ah (cN (PW.pt (gG (cM (bz (al (oJ K rfl) rfl T.b_isinstance boot_isinstance (paC (cg K rfl (pv 0) rfl) (paC (fC (v:=.ty "tuple") rfl T.b_tuple boot_tuple rfl) ag))))) (fg (ba (lG K rfl hu) (cg K rfl (pv 0) rfl) (bB (eF K rfl) rfl T.b_tuple boot_tuple (paC (pv 1) ag)) (bG _))))) (am (aW fB)) bj) (ah (cN (PW.pt (gG (cM (bz (al (oJ K rfl) rfl T.b_isinstance boot_isinstance (paC (cg K rfl (pv 0) rfl) (paC (fC (v:=.ty "tuple") rfl T.b_tuple boot_tuple rfl) ag))))) (gG (ba (lG K rfl hu) (cg K rfl (pv 0) rfl) (pv 3) (bG _)) (fg (cM (bz (aq C_law_numbers (hr.mono (by decide)) (paC (cg K rfl (pv 0) rfl) (paC (pv 2) ag))))))))) (am (aW fB)) bj) (ah (cN (cM (bz (aq C_law_rows (hr.mono (by decide)) (paC (cg K rfl (pv 0) rfl) (paC (aq C_law_left (hr.mono (by decide)) (paC (pv 1) (paC (pv 2) ag))) ag))))) (am (aW fB)) bj) (ah (cN (cM (bz (aq C_law_rows (hr.mono (by decide)) (paC (cg K rfl (pv 0) rfl) (paC (cE (wi:=(kB K (ck 4))) (g:=(dQ 0)) (tts:=nU) (te:=(rZ [none,some 0] (kB K (ck 1)) (dQ 0) nU (fi (spP K bQ) [] E0 (bp (ck 1) (bp (ck 0) fE))))) ["_law_one","_law_states_here"] [none,some 4] rfl (cR K rfl (pv 4)) (fun _ _ _ _=>⟨(aY (i:=0) (by show List.Nodup (["_law_one","_law_states_here"]:List Str);decide +kernel) rfl (by walk_at "o")),dC,(cE (wi:=(kB K (ck 1))) (g:=(dQ 0)) (tts:=nU) (te:=(fi (spP K bQ) [] E0 (bp (ck 1) (bp (ck 0) fE)))) ["_law_other","_law_one"] [none,some 0] rfl (cR K rfl (pv 1)) (fun _ _ _ _=>⟨(aY (i:=0) (by show List.Nodup (["_law_other","_law_one"]:List Str);decide +kernel) rfl (by walk_at "o")),dC,(aq C_law_lap (hr.mono (by decide)) (paC (pv 1) (paC (pv 0) ag)))⟩) (by kernel_rfl))⟩) (by kernel_rfl)) ag))))) (am (aW fB)) bj) (ah (aR (i:=5) eO.nd rfl (by walk_at "o") (al (xE K rfl rfl) rfl T.b_sum boot_sum (paC (cE (wi:=(kB K (ck 3))) (g:=(dQ 0)) (tts:=nU) (te:=(tCB (oI K) (bp (ck 0) fE))) ["_law_word_here"] [none] rfl (cR K rfl (pv 3)) (fun _ _ _ _=>⟨(aY (i:=0) (by show List.Nodup (["_law_word_here"]:List Str);decide +kernel) rfl (by walk_at "o")),dC,(al (cQ K rfl) rfl T.b_len PySem.boot_len (paC (pv 0) ag))⟩) (by kernel_rfl)) ag))) (ah (cN (PW.pt (gG (cM (bz (aq C_law_whole (hr.mono (by decide)) (paC (cg K rfl (pv 0) rfl) ag)))) (fg (ba (lG K rfl hu) (cg K rfl (pv 0) rfl) (pv 5) (bG _))))) (am (aW fB)) bj) (am (aW (nZ (aq C_law_whole (hr.mono (by decide)) (paC (q0 (pv 0) TC.cl_Turnable C_Turnable_many (hr.mono (by decide))) ag)) (nY (jg (kG K rfl hu) (q0 (pv 0) TC.cl_Turnable C_Turnable_many (hr.mono (by decide))) (al (cQ K rfl) rfl T.b_len PySem.boot_len (paC (pv 3) ag)) (bG _))))))))))))))),fnP (K:=K) (c:=bo) (ps:=gb) (N:=["_law_turnable","_law_pieces_here","_law_kept_here","_law_words","_law_states_here","_law_total"]) (ax (aQ (aB (c:=bW) (aa (ae (aj (i:=1))) af)) (aE (i:=2) rfl)) (ax (aQ (br du (aa (ae (cF (ix:=[none,some 1]) rfl (cS (aj (i:=2))) (fun fs hc=>(aK (i:=0) (m5 hc (by decide)))) fu (aC dg (ao (i:=1)) (ao (i:=0))))) af)) (aE (i:=3) rfl)) (ax (aQ (aB (c:=bv) (aa (ae (aj (i:=3))) af)) (aE (i:=4) rfl)) (ax (dq (gK (cP (jl (jK .tuple (ae (dk (ns0:=["pieces","kept","words","left","states","laps","total"]) TC.cl_Turnable TC.n_Turnable_pieces (i:=0) (by decide +kernel) (ao (i:=0))))))) (hZ (aC ig (ae (dk (ns0:=["pieces","kept","words","left","states","laps","total"]) TC.cl_Turnable TC.n_Turnable_pieces (i:=0) (by decide +kernel) (ao (i:=0)))) (ae (br du (aa (ao (i:=1)) af)))))) (aX fM) bq) (ax (dq (gK (cP (jl (jK .tuple (ae (dk (ns0:=["pieces","kept","words","left","states","laps","total"]) TC.cl_Turnable TC.n_Turnable_words (i:=2) (by decide +kernel) (ao (i:=0))))))) (gK (hZ (aC ig (ae (dk (ns0:=["pieces","kept","words","left","states","laps","total"]) TC.cl_Turnable TC.n_Turnable_words (i:=2) (by decide +kernel) (ao (i:=0)))) (ao (i:=3)))) (cP (jl (aB (c:=aV) (aa (ae (dk (ns0:=["pieces","kept","words","left","states","laps","total"]) TC.cl_Turnable TC.n_Turnable_kept (i:=1) (by decide +kernel) (ao (i:=0)))) (aa (ae (aj (i:=2))) af))))))) (aX fM) bq) (ax (dq (cP (jl (aB (c:=bE) (aa (ae (dk (ns0:=["pieces","kept","words","left","states","laps","total"]) TC.cl_Turnable TC.n_Turnable_left (i:=3) (by decide +kernel) (ao (i:=0)))) (aa (ae (aB (c:=bX) (aa (ae (aj (i:=1))) (aa (ae (aj (i:=2))) af)))) af))))) (aX fM) bq) (ax (dq (cP (jl (aB (c:=bE) (aa (ae (dk (ns0:=["pieces","kept","words","left","states","laps","total"]) TC.cl_Turnable TC.n_Turnable_laps (i:=5) (by decide +kernel) (ao (i:=0)))) (aa (ae (cF (ix:=[none,some 4]) rfl (cS (aj (i:=4))) (fun fs hc=>(aK (i:=0) (m5 hc (by decide)))) fu (cF (ix:=[none,some 0]) rfl (cS (aj (i:=1))) (fun fs hc=>(aK (i:=0) (m5 hc (by decide)))) fu (aB (c:=bQ) (aa (ae (aj (i:=1))) (aa (ae (aj (i:=0))) af)))))) af))))) (aX fM) bq) (ax (aQ (br uz (aa (ae (cF (ix:=[none]) rfl (cS (aj (i:=3))) (fun fs hc=>(aK (i:=0) (m5 hc (by decide)))) fu (br bH (aa (ao (i:=0)) af)))) af)) (aE (i:=5) rfl)) (ax (dq (gK (cP (jl (aB (c:=aL) (aa (ae (dk (ns0:=["pieces","kept","words","left","states","laps","total"]) TC.cl_Turnable TC.n_Turnable_total (i:=6) (by decide +kernel) (ao (i:=0)))) af)))) (hZ (aC ig (ae (dk (ns0:=["pieces","kept","words","left","states","laps","total"]) TC.cl_Turnable TC.n_Turnable_total (i:=6) (by decide +kernel) (ao (i:=0)))) (ao (i:=5))))) (aX fM) bq) (aX (oH (aB (c:=aL) (aa (ae (rj (c0:="Turnable") (m:="many") (ns0:=["pieces","kept","words","left","states","laps","total"]) (c:=aP) (by decide +kernel) (aj (i:=0)) af)) af)) (aC gM (ae (rj (c0:="Turnable") (m:="many") (ns0:=["pieces","kept","words","left","states","laps","total"]) (c:=aP) (by decide +kernel) (aj (i:=0)) af)) (ae (br bH (aa (ao (i:=3)) af))))))))))))))) (fun ds Q h=>le_trans (le_of_eq (lz ds Q h)) (by decide)) qD h⟩
theorem jf:∀ds Q,bf ds Q->ds.length=1:=fun ds Q h=>by unfold bf at h;split at h;(first|rfl|exact h.elim);(first|rfl|exact h.elim)
theorem nS(D:cw K mg "_law_caught" gS)(T:Txt mg)(TC:TxC K)(TX:TxX K mg)(C_Turnable_rz:xc P w K mg base 4 (aD K "Turnable") "Turnable" ["self","pieces"] (spI K aI)):Cal P w K mg base 6 "_law_caught" ["_law_pieces_here"] (spP K bf):=by
 refine D.ok d5 (fun _ _ _ _ _ _ us hl=>match us,hl with|[_],_=>rfl) (fun vs H Q E h=>?_) (fun f cdv A outer s H vs Q E hr h=>?_)
 .exact j9 jf h
 .have hu:=hr.units;exact⟨_,(ah (aR (i:=1) d5.nd rfl (by walk_at "o") sQ) (ah (BU rfl rfl (fun J pn E px=>ah (gH (zK C_Turnable_rz (hr.mono (by decide)) px (paC (pv 0) ag))) bj) (B1 2 K rfl TX.d_GlueError TX.m_GlueError d5.nd rfl rfl (fun _=>(am (aR (i:=1) d5.nd rfl (by walk_at "o") (pv 2)))) BS)) (ah (cN (PW.pt (gG (cM (bz (al (DF K rfl) rfl T.b_isinstance boot_isinstance (paC (pv 1) (paC (fC (v:=.ty "ValueError") rfl T.b_ValueError PyProof.Rows.Boot.«ValueError» rfl) ag))))) (fg (bz (al (B2 K rfl) rfl T.b_isinstance boot_isinstance (paC (pv 1) (paC (ia (paC (iC TX.m_NoOrder) (paC (iC TX.m_NotApart) (paC (iC TX.m_NotHeld) ag)))) ag))))))) (am (aW sQ)) bj) (am (aW (pv 1)))))),fnP (K:=K) (c:=bf) (ps:=eo) (N:=["_law_pieces_here","_law_caught_here","error"]) (ax (aQ uo (aE (i:=1) rfl)) (ax (zM (c:=aI) (C:=aD K "Turnable") (aa (ae (aj (i:=0))) af) (DI (c0:="GlueError") TX.all (by first|exact Or.inr rfl|exact Or.inl (contains_iff_mem.mp (by decide +kernel))) rfl (aQ (aj (i:=2)) (aE (i:=1) rfl)) BZ)) (ax (dq (gK (cP (jl (BP TX.all (ao (i:=1))))) (jl (zC ["NoOrder","NotApart","NotHeld"] TX.all (by decide +kernel) (by decide) (ao (i:=1))))) (aX uo) bq) (aX (aj (i:=1)))))) (fun ds Q h=>le_trans (le_of_eq (jf ds Q h)) (by decide)) nO h⟩
theorem ir:∀p ds Q,bw p ds Q->ds.length+1=2:=fun p ds Q h=>by unfold bw at h;split at h;(first|rfl|exact h.elim);(first|rfl|exact h.elim)
theorem lV(D:cw K mg "_law_refused" fQ)(T:Txt mg)(TC:TxC K)(TX:TxX K mg)(C_law_caught:Cal P w K mg base 6 "_law_caught" ["_law_pieces_here"] (spP K bf))(C_law_next:Cal P w K mg base 1 "_law_next" ["_law_stream_here","_law_many"] (spR K au))(C_law_whole:Cal P w K mg base 1 "_law_whole" ["_law_found"] (spP K aL)):Cal P w K mg base 7 "_law_refused" ["_law_stream_here","_law_pieces_here"] (spR K bw):=by
 refine D.ok bI (fun _ _ _ _ _ _ us hl=>match us,hl with|[_,_],_=>rfl) (fun vs H Q E h=>?_) (fun f cdv A outer s H vs Q E hr h=>?_)
 .exact y3 ir h
 .have hu:=hr.units;exact⟨_,(@ah _ _ _ _ _ (@aR _ _ 2 _ _ _ _ bI.nd rfl (by walk_at "o") (@dR _ _ _ _ (@paC _ _ _ _ _ (@bN _ _ _ [] _ (by decide +kernel)) (@paC _ _ _ _ _ (@bY _ _ _ _ _ _ _ _ jR (@bN _ _ _ [97] _ (by decide +kernel)) ar) (@paC _ _ _ _ _ (@bN _ _ _ ([97,66]) _ (by decide +kernel)) (@paC _ _ _ _ _ (@bN _ _ _ ([97,32,98]) _ (by decide +kernel)) (@paC _ _ _ _ _ ar (@paC _ _ _ _ _ (@vO _ _ _ _ _ _ qO ar) (@paC _ _ _ _ _ sQ (@paC _ _ _ _ _ fB (@paC _ _ _ _ _ (@ia _ _ _ _ _ (@paC _ _ _ _ _ (@bN _ _ _ [97] _ (by decide +kernel)) ag rfl)) (@paC _ _ _ _ _ (@dR _ _ _ _ (@paC _ _ _ _ _ (@bN _ _ _ ([97,98]) _ (by decide +kernel)) ag rfl)) (@paC _ _ _ _ _ (@yC _ _ _ _ _ (@wn _ _ _ _ _ _ (tC (kV (Sum.inr (S [97])))) _ _ (@bN _ _ _ [97] _ (by decide +kernel)) ar yB) rfl rfl (by intro z;cases z) (by decide)) (@paC _ _ _ _ _ (@bY _ _ _ _ _ _ _ _ Dz ar ar) (@paC _ _ _ _ _ (@bN _ _ _ ([97,98,99,49]) _ (by decide +kernel)) ag rfl) rfl) rfl) rfl) rfl) rfl) rfl) rfl) rfl) rfl) rfl) rfl) rfl)) rfl (by first|exact .inl rfl|exact .inr rfl|assumption)) (@ah _ _ _ _ _ (@aR _ _ 3 _ _ _ _ bI.nd rfl (by walk_at "o") (@aq _ _ _ _ _ _ _ _ _ _ C_law_next (hr.mono (by decide)) (@paC _ _ _ _ _ (@pv _ 0 _ _ rfl (by walk_at "o") (by decide) (by decide)) (@paC _ _ _ _ _ (@bY _ _ _ _ _ _ _ _ (dY K rfl) (@al _ _ _ _ _ _ _ _ _ (cQ K rfl) rfl T.b_len PySem.boot_len (@paC _ _ _ _ _ (@pv _ 1 _ _ rfl (by walk_at "o") (by decide) (by decide)) ag rfl) (by decide) (by decide) rfl rfl) ar) ag rfl) rfl) rfl (by decide) rfl rfl) rfl (by first|exact .inl rfl|exact .inr rfl|assumption)) (@ah _ _ _ _ _ (@aR _ _ 4 _ _ _ _ bI.nd rfl (by walk_at "o") (@bY _ _ _ _ _ _ _ _ (dY K rfl) (@bY _ _ _ _ _ _ _ _ (dY K rfl) (@b9 _ _ _ _ _ _ _ _ _ _ (pQ K rfl) (@pv _ 1 _ _ rfl (by walk_at "o") (by decide) (by decide)) de (@cC _ _ _ (@pv _ 3 _ _ rfl (by walk_at "o") (by decide) (by decide)))) (@dR _ _ _ _ (@paC _ _ _ _ _ (@df _ _ _ _ _ _ _ (iA K rfl) (@pv _ 2 _ _ rfl (by walk_at "o") (by decide) (by decide)) (@aq _ _ _ _ _ _ _ _ _ _ C_law_next (hr.mono (by decide)) (@paC _ _ _ _ _ (@pv _ 0 _ _ rfl (by walk_at "o") (by decide) (by decide)) (@paC _ _ _ _ _ (@al _ _ _ _ _ _ _ _ _ (cQ K rfl) rfl T.b_len PySem.boot_len (@paC _ _ _ _ _ (@pv _ 2 _ _ rfl (by walk_at "o") (by decide) (by decide)) ag rfl) (by decide) (by decide) rfl rfl) ag rfl) rfl) rfl (by decide) rfl rfl) (fun _ _=>rfl)) ag rfl))) (@b9 _ _ _ _ _ _ _ _ _ _ (pQ K rfl) (@pv _ 1 _ _ rfl (by walk_at "o") (by decide) (by decide)) (@cC _ _ _ (@pv _ 3 _ _ rfl (by walk_at "o") (by decide) (by decide))) de)) rfl (by first|exact .inl rfl|exact .inr rfl|assumption)) (@ah _ _ _ _ _ (@jj _ _ _ (@cN _ _ _ _ _ _ _ _ (@ba _ _ _ _ _ _ _ _ (kG K rfl hu) (@aq _ _ _ _ _ _ _ _ _ _ C_law_next (hr.mono (by decide)) (@paC _ _ _ _ _ (@pv _ 0 _ _ rfl (by walk_at "o") (by decide) (by decide)) (@paC _ _ _ _ _ ar ag rfl) rfl) rfl (by decide) rfl rfl) ar (bG _)) (@am _ _ _ (@aR _ _ 4 _ _ _ _ bI.nd rfl (by walk_at "o") (@bY _ _ _ _ _ _ _ _ (dY K rfl) (@pv _ 4 _ _ rfl (by walk_at "o") (by decide) (by decide)) (@dR _ _ _ _ (@paC _ _ _ _ _ (@df _ _ _ _ _ _ _ (iA K rfl) (@pv _ 2 _ _ rfl (by walk_at "o") (by decide) (by decide)) (@aq _ _ _ _ _ _ _ _ _ _ C_law_next (hr.mono (by decide)) (@paC _ _ _ _ _ (@pv _ 0 _ _ rfl (by walk_at "o") (by decide) (by decide)) (@paC _ _ _ _ _ (@al _ _ _ _ _ _ _ _ _ (cQ K rfl) rfl T.b_len PySem.boot_len (@paC _ _ _ _ _ (@pv _ 2 _ _ rfl (by walk_at "o") (by decide) (by decide)) ag rfl) (by decide) (by decide) rfl rfl) ag rfl) rfl) rfl (by decide) rfl rfl) (fun _ _=>rfl)) ag rfl))) rfl (by first|exact .inl rfl|exact .inr rfl|assumption))) bj)) (@ah _ _ _ _ _ (@aR _ _ 5 _ _ _ _ bI.nd rfl (by walk_at "o") (@aq _ _ _ _ _ _ _ _ _ _ C_law_caught (hr.mono (by decide)) (@paC _ _ _ _ _ (@bB _ _ _ _ _ _ _ _ _ (eF K rfl) rfl T.b_tuple boot_tuple (@paC _ _ _ _ _ (@b9 _ _ _ _ _ _ _ _ _ _ (pQ K rfl) (@pv _ 4 _ _ rfl (by walk_at "o") (by decide) (by decide)) de (@cC _ _ _ ar)) ag rfl) (by decide) (by decide) rfl rfl) ag rfl) rfl (by decide) rfl rfl) rfl (by first|exact .inl rfl|exact .inr rfl|assumption)) (@ah _ _ _ _ _ (@cN _ _ _ _ _ _ _ _ (PW.pt (@gG _ _ _ _ _ _ _ (@cM _ _ _ _ (@bz _ _ _ (@al _ _ _ _ _ _ _ _ _ (wX K rfl) rfl T.b_isinstance boot_isinstance (@paC _ _ _ _ _ (@pv _ 5 _ _ rfl (by walk_at "o") (by decide) (by decide)) (@paC _ _ _ _ _ (@iC _ _ _ _ TX.m_NoPiece rfl (by decide)) ag rfl) rfl) (by decide) (by decide) rfl rfl) rfl)) (@gG _ _ _ _ _ _ _ (@bz _ _ _ (@al _ _ _ _ _ _ _ _ _ (wX K rfl) rfl T.b_isinstance boot_isinstance (@paC _ _ _ _ _ (@pv _ 5 _ _ rfl (by walk_at "o") (by decide) (by decide)) (@paC _ _ _ _ _ (@iC _ _ _ _ TX.m_TooMany rfl (by decide)) ag rfl) rfl) (by decide) (by decide) rfl rfl) rfl) (@gG _ _ _ _ _ _ _ (@cM _ _ _ _ (@bz _ _ _ (@aq _ _ _ _ _ _ _ _ _ _ C_law_whole (hr.mono (by decide)) (@paC _ _ _ _ _ (@ka _ _ _ _ _ K rfl (@pv _ 5 _ _ rfl (by walk_at "o") (by decide) (by decide)) rfl) ag rfl) rfl (by decide) rfl rfl) rfl)) (@fg _ _ _ _ (@ba _ _ _ _ _ _ _ _ (lG K rfl hu) (@ka _ _ _ _ _ K rfl (@pv _ 5 _ _ rfl (by walk_at "o") (by decide) (by decide)) rfl) (@pv _ 3 _ _ rfl (by walk_at "o") (by decide) (by decide)) (bG _))))))) (@am _ _ _ (@aW _ _ _ _ fB)) bj) (@ah _ _ _ _ _ (@aR _ _ 4 _ _ _ _ bI.nd rfl (by walk_at "o") (@bY _ _ _ _ _ _ _ _ (dY K rfl) (@pv _ 4 _ _ rfl (by walk_at "o") (by decide) (by decide)) (@bY _ _ _ _ _ _ _ _ jR (@dR _ _ _ _ (@paC _ _ _ _ _ (@bN _ _ _ [97] _ (by decide +kernel)) ag rfl)) (@bY _ _ _ _ _ _ _ _ wC ar (@al _ _ _ _ _ _ _ _ _ (cQ K rfl) rfl T.b_len PySem.boot_len (@paC _ _ _ _ _ (@pv _ 4 _ _ rfl (by walk_at "o") (by decide) (by decide)) ag rfl) (by decide) (by decide) rfl rfl)))) rfl (by first|exact .inl rfl|exact .inr rfl|assumption)) (@ah _ _ _ _ _ (@aR _ _ 5 _ _ _ _ bI.nd rfl (by walk_at "o") (@aq _ _ _ _ _ _ _ _ _ _ C_law_caught (hr.mono (by decide)) (@paC _ _ _ _ _ (@pv _ 4 _ _ rfl (by walk_at "o") (by decide) (by decide)) ag rfl) rfl (by decide) rfl rfl) rfl (by first|exact .inl rfl|exact .inr rfl|assumption)) (@am _ _ _ (@aW _ _ _ _ (@nZ _ _ _ _ _ _ _ (@al _ _ _ _ _ _ _ _ _ (wX K rfl) rfl T.b_isinstance boot_isinstance (@paC _ _ _ _ _ (@pv _ 5 _ _ rfl (by walk_at "o") (by decide) (by decide)) (@paC _ _ _ _ _ (@iC _ _ _ _ TX.m_TooMany rfl (by decide)) ag rfl) rfl) (by decide) (by decide) rfl rfl) (@nZ _ _ _ _ _ _ _ (@sS _ _ _ _ (@al _ _ _ _ _ _ _ _ _ (wX K rfl) rfl T.b_isinstance boot_isinstance (@paC _ _ _ _ _ (@pv _ 5 _ _ rfl (by walk_at "o") (by decide) (by decide)) (@paC _ _ _ _ _ (@iC _ _ _ _ TX.m_NoPiece rfl (by decide)) ag rfl) rfl) (by decide) (by decide) rfl rfl)) (@nZ _ _ _ _ _ _ _ (@aq _ _ _ _ _ _ _ _ _ _ C_law_whole (hr.mono (by decide)) (@paC _ _ _ _ _ (@ka _ _ _ _ _ K rfl (@pv _ 5 _ _ rfl (by walk_at "o") (by decide) (by decide)) rfl) ag rfl) rfl (by decide) rfl rfl) (@nY _ _ _ _ _ (@jg _ _ _ _ _ _ _ _ (kG K rfl hu) (@ka _ _ _ _ _ K rfl (@pv _ 5 _ _ rfl (by walk_at "o") (by decide) (by decide)) rfl) ar (bG _)))))))))))))))),fnR (K:=K) (c:=bw) (ps:=dP) (N:=["_law_stream_here","_law_pieces_here","_law_things","_law_at","_law_bent","_law_found"]) (ax (aQ (dS (aa (ae (le_str (l:=[]))) (aa (ae (aC gi (ae (le_str (l:=[97]))) (ae le_int))) (aa (ae (le_str (l:=[97,66]))) (aa (ae (le_str (l:=[97,32,98]))) (aa (ae le_int) (aa (ae (wu rl (ae le_int))) (aa (ae uo) (aa (ae fM) (aa (ae (iO (aa (ae (le_str (l:=[97]))) af))) (aa (ae (dS (aa (ae (le_str (l:=[97,98]))) af))) (aa (ae (zG (by first|exact List.nodup_singleton _|decide) (by decide) (w6 (Sum.inr (S [97])) (ae le_int) zE))) (aa (ae (aC Bc (ae le_int) (ae le_int))) (aa (ae (le_str (l:=[97,98,99,49]))) af)))))))))))))) (aE (i:=2) rfl)) (ax (aQ (aZ (i:=0) (aa (ae (aC cK (ae (br bH (aa (ao (i:=1)) af))) (ae le_int))) af)) (aE (i:=3) rfl)) (ax (aQ (aC cK (ae (aC cK (ae (cb (ao (i:=1)) cq (bR (aj (i:=3))))) (ae (dS (aa (ae (aC dg (ao (i:=2)) (ae (aZ (i:=0) (aa (ae (br bH (aa (ao (i:=2)) af))) af))))) af))))) (ae (cb (ao (i:=1)) (bR (aj (i:=3))) cq))) (aE (i:=4) rfl)) (ax (jo (dq (hZ (aC gM (ae (aZ (i:=0) (aa (ae le_int) af))) (ae le_int))) (aQ (aC cK (ao (i:=4)) (ae (dS (aa (ae (aC dg (ao (i:=2)) (ae (aZ (i:=0) (aa (ae (br bH (aa (ao (i:=2)) af))) af))))) af)))) (aE (i:=4) rfl)) bq)) (ax (aQ (aB (c:=bf) (aa (ae (br du (aa (ae (cb (ao (i:=4)) cq (bR le_int))) af))) af)) (aE (i:=5) rfl)) (ax (dq (gK (cP (jl (rp (d:="NoPiece") TX.all (by first|exact Or.inr rfl|exact Or.inl (contains_iff_mem.mp (by decide +kernel))) (ao (i:=5))))) (gK (jl (rp (d:="TooMany") TX.all (by first|exact Or.inr rfl|exact Or.inl (contains_iff_mem.mp (by decide +kernel))) (ao (i:=5)))) (gK (cP (jl (aB (c:=aL) (aa (ae (nB TX.all TX.at_ (ao (i:=5)))) af)))) (hZ (aC ig (ae (nB TX.all TX.at_ (ao (i:=5)))) (ao (i:=3))))))) (aX fM) bq) (ax (aQ (aC cK (ao (i:=4)) (ae (aC gi (ae (dS (aa (ae (le_str (l:=[97]))) af))) (ae (aC rc (ae le_int) (ae (br bH (aa (ao (i:=4)) af)))))))) (aE (i:=4) rfl)) (ax (aQ (aB (c:=bf) (aa (ae (aj (i:=4))) af)) (aE (i:=5) rfl)) (aX (oH (rp (d:="TooMany") TX.all (by first|exact Or.inr rfl|exact Or.inl (contains_iff_mem.mp (by decide +kernel))) (ao (i:=5))) (oH (uq (rp (d:="NoPiece") TX.all (by first|exact Or.inr rfl|exact Or.inl (contains_iff_mem.mp (by decide +kernel))) (ao (i:=5)))) (oH (aB (c:=aL) (aa (ae (nB TX.all TX.at_ (ao (i:=5)))) af)) (aC gM (ae (nB TX.all TX.at_ (ao (i:=5)))) (ae le_int)))))))))))))) (fun p ds Q h=>le_trans (le_of_eq (ir p ds Q h)) (by decide)) lR h⟩
theorem xW:∀ds Q,rD ds Q->ds.length=1:=fun ds Q h=>by obtain⟨_,rfl,_⟩:=h;rfl
theorem Ci(D:cw K mg "law" xj)(T:Txt mg)(TC:TxC K)(TX:TxX K mg)(C_Turnable_init:A7 P w K mg base 5 (aD K "Turnable") "Turnable" ["self","pieces"] (spR K aT))(C_law_back:Cal P w K mg base 1 "_law_back" ["_law_text"] (spP K aG))(C_law_next:Cal P w K mg base 1 "_law_next" ["_law_stream_here","_law_many"] (spR K au))(C_law_pieces:Cal P w K mg base 4 "_law_pieces" ["_law_stream_here","_law_many","_law_most"] (spR K bF))(C_law_refused:Cal P w K mg base 7 "_law_refused" ["_law_stream_here","_law_pieces_here"] (spR K bw))(C_law_stream:Cal P w K mg base 1 "_law_stream" ["_law_script","_law_k"] (spP K bu))(C_law_told:Cal P w K mg base 4 "_law_told" ["_law_turnable","_law_pieces_here"] (spP K bo))(C_law_word:Cal P w K mg base 2 "_law_word" ["_law_stream_here","_law_letters","_law_most"] (spR K bn))(C_turned:Cal P w K mg base 1 "turned" ["text"] (spP K bb)):Cal P w K mg base 8 "law" ["_law_script"] (spP K rD):=by
 refine D.ok gn (fun _ _ _ _ _ _ us hl=>match us,hl with|[_],_=>rfl) (fun vs H Q E h=>?_) (fun f cdv A outer s H vs Q E hr h=>?_)
 .exact j9 xW h
 .have hu:=hr.units;exact⟨_,(@ah _ _ _ _ _ (@aR _ _ 1 _ _ _ _ gn.nd rfl (by walk_at "o") (@dR _ _ _ _ ag) rfl (by first|exact .inl rfl|exact .inr rfl|assumption)) (@ah _ _ _ _ _ (@gc _ _ _ _ _ _ _ _ PassesOwn.never rfl (@gI _ _ _ _ _ _ rfl T.b_range (@paC _ _ _ _ _ (@al _ _ _ _ _ _ _ _ _ (Bn rfl) rfl T.b_max boot_max (@paC _ _ _ _ _ ar (@paC _ _ _ _ _ (@al _ _ _ _ _ _ _ _ _ (uv rfl) rfl T.b_min boot_min (@paC _ _ _ _ _ ar (@paC _ _ _ _ _ (@al _ _ _ _ _ _ _ _ _ (cQ K rfl) rfl T.b_len PySem.boot_len (@paC _ _ _ _ _ (@pv _ 0 _ _ rfl (by walk_at "o") (by decide) (by decide)) ag rfl) (by decide) (by decide) rfl rfl) ag rfl) rfl) (by decide) (by decide) rfl rfl) ag rfl) rfl) (by decide) (by decide) rfl rfl) ag rfl) rfl) (@aY _ _ 2 _ gn.nd rfl (by walk_at "o") (by first|exact .inl rfl|exact .inr rfl|assumption)) (@ah _ _ _ _ _ (@aR _ _ 3 _ _ _ _ gn.nd rfl (by walk_at "o") (@aq _ _ _ _ _ _ _ _ _ _ C_law_stream (hr.mono (by decide)) (@paC _ _ _ _ _ (@pv _ 0 _ _ rfl (by walk_at "o") (by decide) (by decide)) (@paC _ _ _ _ _ (@pv _ 2 _ _ rfl (by walk_at "o") (by decide) (by decide)) ag rfl) rfl) rfl (by decide) rfl rfl) rfl (by first|exact .inl rfl|exact .inr rfl|assumption)) (@ah _ _ _ _ _ (@aR _ _ 4 _ _ _ _ gn.nd rfl (by walk_at "o") (@df _ _ _ _ _ _ _ (iA K rfl) (@dR _ _ _ _ (@paC _ _ _ _ _ (@ia _ _ _ _ _ (@paC _ _ _ _ _ ar (@paC _ _ _ _ _ ar ag rfl) rfl)) (@paC _ _ _ _ _ (@ia _ _ _ _ _ (@paC _ _ _ _ _ ar (@paC _ _ _ _ _ ar ag rfl) rfl)) (@paC _ _ _ _ _ (@ia _ _ _ _ _ (@paC _ _ _ _ _ ar (@paC _ _ _ _ _ ar ag rfl) rfl)) ag rfl) rfl) rfl)) (@aq _ _ _ _ _ _ _ _ _ _ C_law_next (hr.mono (by decide)) (@paC _ _ _ _ _ (@pv _ 3 _ _ rfl (by walk_at "o") (by decide) (by decide)) (@paC _ _ _ _ _ ar ag rfl) rfl) rfl (by decide) rfl rfl) (fun _ _=>rfl)) rfl (by first|exact .inl rfl|exact .inr rfl|assumption)) (@ah _ _ _ _ _ (@aR _ _ 5 _ _ _ _ gn.nd rfl (by walk_at "o") (@aq _ _ _ _ _ _ _ _ _ _ C_law_pieces (hr.mono (by decide)) (@paC _ _ _ _ _ (@pv _ 3 _ _ rfl (by walk_at "o") (by decide) (by decide)) (@paC _ _ _ _ _ (@aq _ _ _ _ _ _ _ _ _ _ C_law_next (hr.mono (by decide)) (@paC _ _ _ _ _ (@pv _ 3 _ _ rfl (by walk_at "o") (by decide) (by decide)) (@paC _ _ _ _ _ (@df _ _ _ _ _ _ _ (iA K rfl) (@pv _ 4 _ _ rfl (by walk_at "o") (by decide) (by decide)) ar (fun _ _=>rfl)) ag rfl) rfl) rfl (by decide) rfl rfl) (@paC _ _ _ _ _ (@df _ _ _ _ _ _ _ (iA K rfl) (@pv _ 4 _ _ rfl (by walk_at "o") (by decide) (by decide)) ar (fun _ _=>rfl)) ag rfl) rfl) rfl) rfl (by decide) rfl rfl) rfl (by first|exact .inl rfl|exact .inr rfl|assumption)) (@ah _ _ _ _ _ (@aR _ _ 6 _ _ _ _ gn.nd rfl (by walk_at "o") (@bB _ _ _ _ _ _ _ _ _ (Bu K rfl) rfl T.b_list boot_list (@paC _ _ _ _ _ (@pv _ 5 _ _ rfl (by walk_at "o") (by decide) (by decide)) ag rfl) (by decide) (by decide) rfl rfl) rfl (by first|exact .inl rfl|exact .inr rfl|assumption)) (@ah _ _ _ _ _ (@jj _ _ _ (@cN _ _ _ _ _ _ _ _ (@ba _ _ _ _ _ _ _ _ (kG K rfl hu) (@aq _ _ _ _ _ _ _ _ _ _ C_law_next (hr.mono (by decide)) (@paC _ _ _ _ _ (@pv _ 3 _ _ rfl (by walk_at "o") (by decide) (by decide)) (@paC _ _ _ _ _ ar ag rfl) rfl) rfl (by decide) rfl rfl) ar (bG _)) (@am _ _ _ (@aR _ _ 7 _ _ _ _ gn.nd rfl (by walk_at "o") (@nq _ _ _ _ _ _ _ _ _ _ _ C_Turnable_init (hr.mono (by decide)) (@paC _ _ _ _ _ (@bB _ _ _ _ _ _ _ _ _ (eF K rfl) rfl T.b_tuple boot_tuple (@paC _ _ _ _ _ (@pv _ 5 _ _ rfl (by walk_at "o") (by decide) (by decide)) ag rfl) (by decide) (by decide) rfl rfl) ag rfl) rfl (by decide) rfl rfl) rfl (by first|exact .inl rfl|exact .inr rfl|assumption))) (@am _ _ _ (@aR _ _ 7 _ _ _ _ gn.nd rfl (by walk_at "o") (@nq _ _ _ _ _ _ _ _ _ _ _ C_Turnable_init (hr.mono (by decide)) (@paC _ _ _ _ _ (@pv _ 6 _ _ rfl (by walk_at "o") (by decide) (by decide)) ag rfl) rfl (by decide) rfl rfl) rfl (by first|exact .inl rfl|exact .inr rfl|assumption))))) (@ah _ _ _ _ _ (@cN _ _ _ _ _ _ _ _ (PW.pt (@gG _ _ _ _ _ _ _ (@ba _ _ _ _ _ _ _ _ (lG K rfl hu) (@pv _ 6 _ _ rfl (by walk_at "o") (by decide) (by decide)) (@pv _ 5 _ _ rfl (by walk_at "o") (by decide) (by decide)) (bG _)) (@gG _ _ _ _ _ _ _ (@cM _ _ _ _ (@bz _ _ _ (@aq _ _ _ _ _ _ _ _ _ _ C_law_told (hr.mono (by decide)) (@paC _ _ _ _ _ (@pv _ 7 _ _ rfl (by walk_at "o") (by decide) (by decide)) (@paC _ _ _ _ _ (@pv _ 5 _ _ rfl (by walk_at "o") (by decide) (by decide)) ag rfl) rfl) rfl (by decide) rfl rfl) rfl)) (@fg _ _ _ _ (@cM _ _ _ _ (@bz _ _ _ (@aq _ _ _ _ _ _ _ _ _ _ C_law_refused (hr.mono (by decide)) (@paC _ _ _ _ _ (@pv _ 3 _ _ rfl (by walk_at "o") (by decide) (by decide)) (@paC _ _ _ _ _ (@b9 _ _ _ _ _ _ _ _ _ _ (pQ K rfl) (@pv _ 5 _ _ rfl (by walk_at "o") (by decide) (by decide)) de (@cC _ _ _ ar)) ag rfl) rfl) rfl (by decide) rfl rfl) rfl)))))) (@am _ _ _ (@aW _ _ _ _ fB)) bj) (@ah _ _ _ _ _ (@gH _ _ _ _ (@fq _ _ _ _ _ _ _ _ _ _ _ _ K rfl PySem.F.plainAttrs_list PySem.F.slot_list_append PySem.F.type_list_append fj (@pv _ 6 _ _ rfl (by walk_at "o") (by decide) (by decide)) (@paC _ _ _ _ _ (@bN _ _ _ ([122,122]) _ (by decide +kernel)) ag rfl) rfl rfl rfl rfl rfl) rfl) (@ah _ _ _ _ _ (@qh _ _ _ _ _ _ _ _ (@bN _ _ _ ([121,121,121]) _ (by decide +kernel)) (@sU _ _ _ _ _ _ _ (@pv _ 6 _ _ rfl (by walk_at "o") (by decide) (by decide)) ar mK (fun _=>rfl)) rfl) (@ah _ _ _ _ _ (@gH _ _ _ _ (@fq _ _ _ _ _ _ _ _ _ _ _ _ K rfl PySem.F.plainAttrs_list PySem.F.slot_list_append PySem.F.type_list_append fj (@pv _ 1 _ _ rfl (by walk_at "o") (by decide) (by decide)) (@paC _ _ _ _ _ (@ia _ _ _ _ _ (@paC _ _ _ _ _ (@pv _ 7 _ _ rfl (by walk_at "o") (by decide) (by decide)) (@paC _ _ _ _ _ (@pv _ 5 _ _ rfl (by walk_at "o") (by decide) (by decide)) ag rfl) rfl)) ag rfl) rfl rfl rfl rfl rfl) rfl) (@ah _ _ _ _ _ (@aR _ _ 8 _ _ _ _ gn.nd rfl (by walk_at "o") (@b9 _ _ _ _ _ _ _ _ _ _ (pQ K rfl) (@aq _ _ _ _ _ _ _ _ _ _ C_law_word (hr.mono (by decide)) (@paC _ _ _ _ _ (@pv _ 3 _ _ rfl (by walk_at "o") (by decide) (by decide)) (@paC _ _ _ _ _ (@bN _ _ _ ([97,98,99]) _ (by decide +kernel)) (@paC _ _ _ _ _ ar ag rfl) rfl) rfl) rfl (by decide) rfl rfl) (@cC _ _ _ (@aq _ _ _ _ _ _ _ _ _ _ C_law_next (hr.mono (by decide)) (@paC _ _ _ _ _ (@pv _ 3 _ _ rfl (by walk_at "o") (by decide) (by decide)) (@paC _ _ _ _ _ ar ag rfl) rfl) rfl (by decide) rfl rfl)) de) rfl (by first|exact .inl rfl|exact .inr rfl|assumption)) (@am _ _ _ (@cN _ _ _ _ _ _ _ _ (PW.pt (@gG _ _ _ _ _ _ _ (@cM _ _ _ _ (@bz _ _ _ (@al _ _ _ _ _ _ _ _ _ (oJ K rfl) rfl T.b_isinstance boot_isinstance (@paC _ _ _ _ _ (@aq _ _ _ _ _ _ _ _ _ _ C_turned (hr.mono (by decide)) (@paC _ _ _ _ _ (@pv _ 8 _ _ rfl (by walk_at "o") (by decide) (by decide)) ag rfl) rfl (by decide) rfl rfl) (@paC _ _ _ _ _ (@fC _ _ (.ty "str") _ _ rfl T.b_str boot_str rfl (by decide) (by decide)) ag rfl) rfl) (by decide) (by decide) rfl rfl) rfl)) (@fg _ _ _ _ (@ba _ _ _ _ _ _ _ _ (lG K rfl hu) (@aq _ _ _ _ _ _ _ _ _ _ C_turned (hr.mono (by decide)) (@paC _ _ _ _ _ (@pv _ 8 _ _ rfl (by walk_at "o") (by decide) (by decide)) ag rfl) rfl (by decide) rfl rfl) (@aq _ _ _ _ _ _ _ _ _ _ C_law_back (hr.mono (by decide)) (@paC _ _ _ _ _ (@pv _ 8 _ _ rfl (by walk_at "o") (by decide) (by decide)) ag rfl) rfl (by decide) rfl rfl) (bG _))))) (@am _ _ _ (@aW _ _ _ _ fB)) bj)))))))))))) (fun _=>rfl)) (@ah _ _ _ _ _ (@gc _ _ _ _ _ _ _ _ PassesOwn.never rfl (@cR _ _ K rfl _ _ (@pv _ 1 _ _ rfl (by walk_at "o") (by decide) (by decide))) (@oQ _ K rfl _ _ _ 2 _ rfl (@dH _ _ _ _ _ (@aY _ _ 7 _ gn.nd rfl (by walk_at "o") (by first|exact .inl rfl|exact .inr rfl|assumption)) (@dH _ _ _ _ _ (@aY _ _ 5 _ gn.nd rfl (by walk_at "o") (by first|exact .inl rfl|exact .inr rfl|assumption)) kd rfl) rfl) rfl rfl) (@am _ _ _ (@cN _ _ _ _ _ _ _ _ (@cM _ _ _ _ (@bz _ _ _ (@aq _ _ _ _ _ _ _ _ _ _ C_law_told (hr.mono (by decide)) (@paC _ _ _ _ _ (@pv _ 7 _ _ rfl (by walk_at "o") (by decide) (by decide)) (@paC _ _ _ _ _ (@pv _ 5 _ _ rfl (by walk_at "o") (by decide) (by decide)) ag rfl) rfl) rfl (by decide) rfl rfl) rfl)) (@am _ _ _ (@aW _ _ _ _ fB)) bj)) (fun _=>rfl)) (@am _ _ _ (@aW _ _ _ _ (@aq _ _ _ _ _ _ _ _ _ _ C_law_told (hr.mono (by decide)) (@paC _ _ _ _ _ (@nq _ _ _ _ _ _ _ _ _ _ _ C_Turnable_init (hr.mono (by decide)) (@paC _ _ _ _ _ (@dR _ _ _ _ (@paC _ _ _ _ _ (@bY _ _ _ _ _ _ _ _ jR (@bN _ _ _ ([97,98]) _ (by decide +kernel)) ar) (@paC _ _ _ _ _ (@bY _ _ _ _ _ _ _ _ jR (@bN _ _ _ ([98,97]) _ (by decide +kernel)) ar) ag rfl) rfl)) ag rfl) rfl (by decide) rfl rfl) (@paC _ _ _ _ _ (@dR _ _ _ _ (@paC _ _ _ _ _ (@bY _ _ _ _ _ _ _ _ jR (@bN _ _ _ ([97,98]) _ (by decide +kernel)) ar) (@paC _ _ _ _ _ (@bY _ _ _ _ _ _ _ _ jR (@bN _ _ _ ([98,97]) _ (by decide +kernel)) ar) ag rfl) rfl)) ag rfl) rfl) rfl (by decide) rfl rfl)))))),fnP (K:=K) (c:=rD) (ps:=rF) (N:=["_law_script","_law_held","_law_k","_law_stream_here","_law_sizes","_law_pieces_here","_law_handed","_law_turnable","_law_text"]) (ax (aQ (dS af) (aE (i:=1) rfl)) (ax (gL (ut (aa (ae (br yR (aa (ae le_int) (aa (ae (br p7 (aa (ae le_int) (aa (ae (br bH (aa (ao (i:=0)) af))) af)))) af)))) af)) (aK (i:=2) rfl) (ax (aQ (aB (c:=bu) (aa (ae (aj (i:=0))) (aa (ae (aj (i:=2))) af))) (aE (i:=3) rfl)) (ax (aQ (aC dg (ae (dS (aa (ae (iO (aa (ae le_int) (aa (ae le_int) af)))) (aa (ae (iO (aa (ae le_int) (aa (ae le_int) af)))) (aa (ae (iO (aa (ae le_int) (aa (ae le_int) af)))) af))))) (ae (aZ (i:=3) (aa (ae le_int) af)))) (aE (i:=4) rfl)) (ax (aQ (aZ (i:=3) (aa (ae (aZ (i:=3) (aa (ae (aC dg (ao (i:=4)) (ae le_int))) af))) (aa (ae (aC dg (ao (i:=4)) (ae le_int))) af))) (aE (i:=5) rfl)) (ax (aQ (br yW (aa (ao (i:=5)) af)) (aE (i:=6) rfl)) (ax (jo (dq (hZ (aC gM (ae (aZ (i:=3) (aa (ae le_int) af))) (ae le_int))) (aQ (uA (aa (ae (br du (aa (ao (i:=5)) af))) af)) (aE (i:=7) rfl)) (aQ (xg (i:=6)) (aE (i:=7) rfl)))) (ax (dq (gK (hZ (aC ig (ao (i:=6)) (ao (i:=5)))) (gK (cP (jl (aB (c:=bo) (aa (ae (aj (i:=7))) (aa (ae (aj (i:=5))) af))))) (cP (jl (aZ (i:=3) (aa (ae (cb (ao (i:=5)) cq (bR le_int))) af)))))) (aX fM) bq) (ax (jn (rg (i:=6) (le_str (l:=[122,122])))) (ax (p6 (i:=6) (le_str (l:=[121,121,121])) le_int) (ax (jn (rg (i:=1) (iO (aa (ae (aj (i:=7))) (aa (ae (aj (i:=5))) af))))) (ax (aQ (cb (ae (aZ (i:=3) (aa (ae (le_str (l:=[97,98,99]))) (aa (ae le_int) af)))) (bR (aZ (i:=3) (aa (ae le_int) af))) cq) (aE (i:=8) rfl)) (dq (gK (cP (jl (jK .str (ae (aB (c:=bb) (aa (ae (aj (i:=8))) af)))))) (hZ (aC ig (ae (aB (c:=bb) (aa (ae (aj (i:=8))) af))) (ae (aB (c:=aG) (aa (ae (aj (i:=8))) af)))))) (aX fM) bq)))))))))))) (ax (gL (cS (aj (i:=1))) (nk (dI (aK (i:=7) rfl) (dI (aK (i:=5) rfl) ky))) (dq (cP (jl (aB (c:=bo) (aa (ae (aj (i:=7))) (aa (ae (aj (i:=5))) af))))) (aX fM) bq)) (aX (aB (c:=bo) (aa (ae (uA (aa (ae (dS (aa (ae (aC gi (ae (le_str (l:=[97,98]))) (ae le_int))) (aa (ae (aC gi (ae (le_str (l:=[98,97]))) (ae le_int))) af)))) af))) (aa (ae (dS (aa (ae (aC gi (ae (le_str (l:=[97,98]))) (ae le_int))) (aa (ae (aC gi (ae (le_str (l:=[98,97]))) (ae le_int))) af)))) af))))))) (fun ds Q h=>le_trans (le_of_eq (xW ds Q h)) (by decide)) Cg h⟩
theorem lW(D:kt K mg (aD K "Turnable") "Turnable" "Turnable.__init__" bA)(C_check_pieces:BR P w K mg base 3 "check_pieces" ["things"] (spX K aI)):xc P w K mg base 4 (aD K "Turnable") "Turnable" ["self","pieces"] (spI K aI) :=
 D.okI dW (fun _ _ _ _ _ _ us hl=>match us,hl with|[_,_],_=>rfl) (fun vs H Q E h=>Em dz h) fun f cdv A outer s H vs Q E hr h =>
  ⟨_,ah (gH (va C_check_pieces (hr.mono (by decide)) BQ (paC (pv 1) ag))) zN,EH dz h⟩
end
theorem Cj{l:PySem.W.OpenLaw}{w:World}{K:PySem.W.Frag}{h:Heap}{mg:Str->Option Value}{fa:Addr}(X:K.In h)(G:h.Ns mainGlobals mg)(hfa:mg "law"=some (.ref fa))
  {C_Turnable:Addr} (aC_Turnable:PySem.W.nsIn K mainGlobals "Turnable"=some (some (.ref C_Turnable))) (pg_Turnable:PySem.W.plainGet K C_Turnable Str.empty=true) (hd_Turnable:PySem.W.hasDictIn K C_Turnable=true) (po_Turnable:PySem.W.plainOver K C_Turnable=true) (sa_Turnable:PySem.W.findIn K (.ref C_Turnable) "__setattr__"=some (some (.builtin "object.__setattr__"))) (mk_Turnable:PySem.W.makesIn K C_Turnable=true) (kc_Turnable:PySem.W.keepIn K (.ref C_Turnable)=true)
  (n_Turnable_pieces:PySem.W.findIn K (.ref C_Turnable) "pieces"=some none)
  (n_Turnable_kept:PySem.W.findIn K (.ref C_Turnable) "kept"=some none)
  (n_Turnable_words:PySem.W.findIn K (.ref C_Turnable) "words"=some none)
  (n_Turnable_left:PySem.W.findIn K (.ref C_Turnable) "left"=some none)
  (n_Turnable_states:PySem.W.findIn K (.ref C_Turnable) "states"=some none)
  (n_Turnable_laps:PySem.W.findIn K (.ref C_Turnable) "laps"=some none)
  (n_Turnable_total:PySem.W.findIn K (.ref C_Turnable) "total"=some none)
  {C_GlueError:Addr} (aC_GlueError:PySem.W.nsIn K mainGlobals "GlueError"=some (some (.ref C_GlueError))) {q_GlueError:Str}{N_GlueError:Addr}{bs_GlueError sub_GlueError:List Value}{sn_GlueError:List Str}{ab_GlueError:Bool}{col_GlueError:Option Bool}{k0_GlueError k1_GlueError k2_GlueError k3_GlueError k5_GlueError:Option Value} (lC_GlueError:K.lookup C_GlueError=some (excClassObj "GlueError" q_GlueError C_GlueError N_GlueError bs_GlueError [.type "ValueError",.type "Exception",.type "BaseException",.type "object"] true sn_GlueError sub_GlueError ab_GlueError col_GlueError none k0_GlueError k1_GlueError k2_GlueError k3_GlueError k5_GlueError "ValueError.__new__")) (xq_GlueError:PySem.W.excIn K C_GlueError [.type "ValueError",.type "Exception",.type "BaseException",.type "object"] "ValueError.__new__"=true)
  {C_TooMany:Addr} (aC_TooMany:PySem.W.nsIn K mainGlobals "TooMany"=some (some (.ref C_TooMany))) {q_TooMany:Str}{N_TooMany:Addr}{bs_TooMany sub_TooMany:List Value}{sn_TooMany:List Str}{ab_TooMany:Bool}{col_TooMany:Option Bool}{k0_TooMany k1_TooMany k2_TooMany k3_TooMany k5_TooMany:Option Value} (lC_TooMany:K.lookup C_TooMany=some (excClassObj "TooMany" q_TooMany C_TooMany N_TooMany bs_TooMany (.ref C_GlueError::[.type "ValueError",.type "Exception",.type "BaseException",.type "object"]) true sn_TooMany sub_TooMany ab_TooMany col_TooMany none k0_TooMany k1_TooMany k2_TooMany k3_TooMany k5_TooMany "ValueError.__new__")) (ga_TooMany:PySem.W.findIn K (.ref C_TooMany) "__getattribute__"=some (some (.builtin "BaseException.__getattribute__"))) (gh_TooMany:PySem.W.findIn K (.ref C_TooMany) "__getattr__"=some none) (sa_TooMany:PySem.W.findIn K (.ref C_TooMany) "__setattr__"=some (some (.builtin "object.__setattr__"))) (cl_TooMany:PySem.W.findIn K (.ref C_TooMany) "__class__"=some (some (.builtin "object.__class__"))) (kc_TooMany:PySem.W.keepIn K (.ref C_TooMany)=true)
  {fx_TooMany:Addr}{xoc_TooMany xkV_TooMany xdc_TooMany xpm_TooMany xcd_TooMany xct_TooMany:Value}{xod_TooMany xan_TooMany:Option Addr}{xsl_TooMany:Array (Option Value)} (xi_TooMany:PySem.W.findIn K (.ref C_TooMany) "__init__"=some (some (.ref fx_TooMany))) (xt_TooMany:PySem.W.typeIn K (.ref fx_TooMany)=some (.type "function")) (xl_TooMany:K.lookup fx_TooMany=some ⟨xoc_TooMany,xod_TooMany,.func (PySem.W.fnOf "__init__" "TooMany.__init__" (bM cU) (bh cU) (ai cU) .none xkV_TooMany xdc_TooMany xpm_TooMany xan_TooMany xcd_TooMany xct_TooMany),xsl_TooMany⟩) (xc0_TooMany:PySem.W.codeIn K xcd_TooMany "TooMany.__init__"=true) (xk_TooMany:PySem.W.keepIn K (.ref fx_TooMany)=true) (xn_TooMany:PySem.W.findIn K (.ref C_TooMany) "most"=some none)
  {C_NoPiece:Addr} (aC_NoPiece:PySem.W.nsIn K mainGlobals "NoPiece"=some (some (.ref C_NoPiece))) {q_NoPiece:Str}{N_NoPiece:Addr}{bs_NoPiece sub_NoPiece:List Value}{sn_NoPiece:List Str}{ab_NoPiece:Bool}{col_NoPiece:Option Bool}{k0_NoPiece k1_NoPiece k2_NoPiece k3_NoPiece k5_NoPiece:Option Value} (lC_NoPiece:K.lookup C_NoPiece=some (excClassObj "NoPiece" q_NoPiece C_NoPiece N_NoPiece bs_NoPiece (.ref C_GlueError::[.type "ValueError",.type "Exception",.type "BaseException",.type "object"]) true sn_NoPiece sub_NoPiece ab_NoPiece col_NoPiece none k0_NoPiece k1_NoPiece k2_NoPiece k3_NoPiece k5_NoPiece "ValueError.__new__")) (ga_NoPiece:PySem.W.findIn K (.ref C_NoPiece) "__getattribute__"=some (some (.builtin "BaseException.__getattribute__"))) (gh_NoPiece:PySem.W.findIn K (.ref C_NoPiece) "__getattr__"=some none) (sa_NoPiece:PySem.W.findIn K (.ref C_NoPiece) "__setattr__"=some (some (.builtin "object.__setattr__"))) (cl_NoPiece:PySem.W.findIn K (.ref C_NoPiece) "__class__"=some (some (.builtin "object.__class__"))) (kc_NoPiece:PySem.W.keepIn K (.ref C_NoPiece)=true)
  {fx_NoPiece:Addr}{xoc_NoPiece xkV_NoPiece xdc_NoPiece xpm_NoPiece xcd_NoPiece xct_NoPiece:Value}{xod_NoPiece xan_NoPiece:Option Addr}{xsl_NoPiece:Array (Option Value)} (xi_NoPiece:PySem.W.findIn K (.ref C_NoPiece) "__init__"=some (some (.ref fx_NoPiece))) (xt_NoPiece:PySem.W.typeIn K (.ref fx_NoPiece)=some (.type "function")) (xl_NoPiece:K.lookup fx_NoPiece=some ⟨xoc_NoPiece,xod_NoPiece,.func (PySem.W.fnOf "__init__" "NoPiece.__init__" (bM cW) (bh cW) (ai cW) .none xkV_NoPiece xdc_NoPiece xpm_NoPiece xan_NoPiece xcd_NoPiece xct_NoPiece),xsl_NoPiece⟩) (xc0_NoPiece:PySem.W.codeIn K xcd_NoPiece "NoPiece.__init__"=true) (xk_NoPiece:PySem.W.keepIn K (.ref fx_NoPiece)=true) (xn_NoPiece:PySem.W.findIn K (.ref C_NoPiece) "at"=some none)
  {C_NoOrder:Addr} (aC_NoOrder:PySem.W.nsIn K mainGlobals "NoOrder"=some (some (.ref C_NoOrder))) {q_NoOrder:Str}{N_NoOrder:Addr}{bs_NoOrder sub_NoOrder:List Value}{sn_NoOrder:List Str}{ab_NoOrder:Bool}{col_NoOrder:Option Bool}{k0_NoOrder k1_NoOrder k2_NoOrder k3_NoOrder k5_NoOrder:Option Value} (lC_NoOrder:K.lookup C_NoOrder=some (excClassObj "NoOrder" q_NoOrder C_NoOrder N_NoOrder bs_NoOrder (.ref C_GlueError::[.type "ValueError",.type "Exception",.type "BaseException",.type "object"]) true sn_NoOrder sub_NoOrder ab_NoOrder col_NoOrder none k0_NoOrder k1_NoOrder k2_NoOrder k3_NoOrder k5_NoOrder "ValueError.__new__")) (ga_NoOrder:PySem.W.findIn K (.ref C_NoOrder) "__getattribute__"=some (some (.builtin "BaseException.__getattribute__"))) (gh_NoOrder:PySem.W.findIn K (.ref C_NoOrder) "__getattr__"=some none) (sa_NoOrder:PySem.W.findIn K (.ref C_NoOrder) "__setattr__"=some (some (.builtin "object.__setattr__"))) (cl_NoOrder:PySem.W.findIn K (.ref C_NoOrder) "__class__"=some (some (.builtin "object.__class__"))) (kc_NoOrder:PySem.W.keepIn K (.ref C_NoOrder)=true)
  (xq_NoOrder:PySem.W.excIn K C_NoOrder [.type "ValueError",.type "Exception",.type "BaseException",.type "object"] "ValueError.__new__"=true)
  {C_NotHeld:Addr} (aC_NotHeld:PySem.W.nsIn K mainGlobals "NotHeld"=some (some (.ref C_NotHeld))) {q_NotHeld:Str}{N_NotHeld:Addr}{bs_NotHeld sub_NotHeld:List Value}{sn_NotHeld:List Str}{ab_NotHeld:Bool}{col_NotHeld:Option Bool}{k0_NotHeld k1_NotHeld k2_NotHeld k3_NotHeld k5_NotHeld:Option Value} (lC_NotHeld:K.lookup C_NotHeld=some (excClassObj "NotHeld" q_NotHeld C_NotHeld N_NotHeld bs_NotHeld (.ref C_GlueError::[.type "ValueError",.type "Exception",.type "BaseException",.type "object"]) true sn_NotHeld sub_NotHeld ab_NotHeld col_NotHeld none k0_NotHeld k1_NotHeld k2_NotHeld k3_NotHeld k5_NotHeld "ValueError.__new__")) (ga_NotHeld:PySem.W.findIn K (.ref C_NotHeld) "__getattribute__"=some (some (.builtin "BaseException.__getattribute__"))) (gh_NotHeld:PySem.W.findIn K (.ref C_NotHeld) "__getattr__"=some none) (sa_NotHeld:PySem.W.findIn K (.ref C_NotHeld) "__setattr__"=some (some (.builtin "object.__setattr__"))) (cl_NotHeld:PySem.W.findIn K (.ref C_NotHeld) "__class__"=some (some (.builtin "object.__class__"))) (kc_NotHeld:PySem.W.keepIn K (.ref C_NotHeld)=true)
  {fx_NotHeld:Addr}{xoc_NotHeld xkV_NotHeld xdc_NotHeld xpm_NotHeld xcd_NotHeld xct_NotHeld:Value}{xod_NotHeld xan_NotHeld:Option Addr}{xsl_NotHeld:Array (Option Value)} (xi_NotHeld:PySem.W.findIn K (.ref C_NotHeld) "__init__"=some (some (.ref fx_NotHeld))) (xt_NotHeld:PySem.W.typeIn K (.ref fx_NotHeld)=some (.type "function")) (xl_NotHeld:K.lookup fx_NotHeld=some ⟨xoc_NotHeld,xod_NotHeld,.func (PySem.W.fnOf "__init__" "NotHeld.__init__" (bM cX) (bh cX) (ai cX) .none xkV_NotHeld xdc_NotHeld xpm_NotHeld xan_NotHeld xcd_NotHeld xct_NotHeld),xsl_NotHeld⟩) (xc0_NotHeld:PySem.W.codeIn K xcd_NotHeld "NotHeld.__init__"=true) (xk_NotHeld:PySem.W.keepIn K (.ref fx_NotHeld)=true) (xn_NotHeld:PySem.W.findIn K (.ref C_NotHeld) "at"=some none)
  {C_NotApart:Addr} (aC_NotApart:PySem.W.nsIn K mainGlobals "NotApart"=some (some (.ref C_NotApart))) {q_NotApart:Str}{N_NotApart:Addr}{bs_NotApart sub_NotApart:List Value}{sn_NotApart:List Str}{ab_NotApart:Bool}{col_NotApart:Option Bool}{k0_NotApart k1_NotApart k2_NotApart k3_NotApart k5_NotApart:Option Value} (lC_NotApart:K.lookup C_NotApart=some (excClassObj "NotApart" q_NotApart C_NotApart N_NotApart bs_NotApart (.ref C_GlueError::[.type "ValueError",.type "Exception",.type "BaseException",.type "object"]) true sn_NotApart sub_NotApart ab_NotApart col_NotApart none k0_NotApart k1_NotApart k2_NotApart k3_NotApart k5_NotApart "ValueError.__new__")) (ga_NotApart:PySem.W.findIn K (.ref C_NotApart) "__getattribute__"=some (some (.builtin "BaseException.__getattribute__"))) (gh_NotApart:PySem.W.findIn K (.ref C_NotApart) "__getattr__"=some none) (sa_NotApart:PySem.W.findIn K (.ref C_NotApart) "__setattr__"=some (some (.builtin "object.__setattr__"))) (cl_NotApart:PySem.W.findIn K (.ref C_NotApart) "__class__"=some (some (.builtin "object.__class__"))) (kc_NotApart:PySem.W.keepIn K (.ref C_NotApart)=true)
  {fx_NotApart:Addr}{xoc_NotApart xkV_NotApart xdc_NotApart xpm_NotApart xcd_NotApart xct_NotApart:Value}{xod_NotApart xan_NotApart:Option Addr}{xsl_NotApart:Array (Option Value)} (xi_NotApart:PySem.W.findIn K (.ref C_NotApart) "__init__"=some (some (.ref fx_NotApart))) (xt_NotApart:PySem.W.typeIn K (.ref fx_NotApart)=some (.type "function")) (xl_NotApart:K.lookup fx_NotApart=some ⟨xoc_NotApart,xod_NotApart,.func (PySem.W.fnOf "__init__" "NotApart.__init__" (bM cG) (bh cG) (ai cG) .none xkV_NotApart xdc_NotApart xpm_NotApart xan_NotApart xcd_NotApart xct_NotApart),xsl_NotApart⟩) (xc0_NotApart:PySem.W.codeIn K xcd_NotApart "NotApart.__init__"=true) (xk_NotApart:PySem.W.keepIn K (.ref fx_NotApart)=true) (xn_NotApart:PySem.W.findIn K (.ref C_NotApart) "at"=some none)
  {f1:Addr}{oc1 kV1 dc1 pm1 cd1 ct1:Value}{od1 an1 dd1:Option Addr}{sl1 st1:Array (Option Value)}{dT1:Addr}{n1:Nat}{u1_0 u1_1:Tok} (a1:PySem.W.nsIn K mainGlobals "is_text"=some (some (.ref f1))) (l1:K.lookup f1=some ⟨oc1,od1,.func (PySem.W.fnOf "is_text" "is_text" (bM fA) (bh fA) (ai fA) (.ref dT1) kV1 dc1 pm1 an1 cd1 ct1),sl1⟩) (c1:PySem.W.codeIn K cd1 "is_text"=true) (k1:PySem.W.keepIn K (.ref f1)=true) (t1:K.lookup dT1=some ⟨.type "tuple",dd1,.seq [.int 0 u1_0,.int 4000 u1_1].toArray n1,st1⟩)
  (d2:iD K "first_place" fN)
  (d3:iD K "lap" zO)
  (d4:iD K "turned" nJ)
  {f5:Addr}{oc5 kV5 dc5 pm5 cd5 ct5:Value}{od5 an5:Option Addr}{sl5:Array (Option Value)} (a5:PySem.W.findIn K (.ref C_Turnable) "many"=some (some (.ref f5))) (i5:PySem.W.isFn K (.ref f5)=true) (l5:K.lookup f5=some ⟨oc5,od5,.func (PySem.W.fnOf "many" "Turnable.many" (bM bO) (bh bO) (ai bO) .none kV5 dc5 pm5 an5 cd5 ct5),sl5⟩) (c5:PySem.W.codeIn K cd5 "Turnable.many"=true) (k5:PySem.W.keepIn K (.ref f5)=true)
  (d6:iD K "_law_stream" gP)
  (d7:iD K "_law_next" jt)
  (d8:iD K "_law_back" jw)
  (d9:iD K "_law_lap" kQ)
  (d10:iD K "_law_whole" iE)
  (d11:iD K "all_laps" js)
  (d12:iD K "stands_within" eJ)
  (d13:iD K "one_way" kO)
  (d14:iD K "_law_word" ju)
  (d15:iD K "_law_cut" kP)
  (d16:iD K "_law_is_left" fO)
  (d17:iD K "_law_states" gR)
  (d18:iD K "_law_left" jA)
  (d19:iD K "_law_numbers" fP)
  (d20:iD K "check_pieces" fc)
  (d21:iD K "stands_some_way" dF)
  (d22:iD K "_law_base" jx)
  (d23:iD K "_law_kept" jy)
  (d24:iD K "_law_rows" jB)
  (d25:iD K "is_kept_some_way" dw)
  (d26:iD K "left_some_way" eL)
  (d27:iD K "_law_pieces" gQ)
  (d28:iD K "_law_told" jC)
  {f29:Addr}{oc29 kV29 dc29 pm29 cd29 ct29:Value}{od29 an29:Option Addr}{sl29:Array (Option Value)} (a29:PySem.W.findIn K (.ref C_Turnable) "__init__"=some (some (.ref f29))) (i29:PySem.W.isFn K (.ref f29)=true) (l29:K.lookup f29=some ⟨oc29,od29,.func (PySem.W.fnOf "__init__" "Turnable.__init__" (bM bA) (bh bA) (ai bA) .none kV29 dc29 pm29 an29 cd29 ct29),sl29⟩) (c29:PySem.W.codeIn K cd29 "Turnable.__init__"=true) (k29:PySem.W.keepIn K (.ref f29)=true)
  (d30:iD K "_law_caught" gS)
  (d31:iD K "_law_refused" fQ)
  (d32:iD K "law" xj)
  (z1:PySem.W.nsIn K mainGlobals "ValueError"=some none)
  (z2:PySem.W.nsIn K mainGlobals "abs"=some none)
  (z3:PySem.W.nsIn K mainGlobals "all"=some none)
  (z4:PySem.W.nsIn K mainGlobals "any"=some none)
  (z5:PySem.W.nsIn K mainGlobals "bool"=some none)
  (z6:PySem.W.nsIn K mainGlobals "enumerate"=some none)
  (z7:PySem.W.nsIn K mainGlobals "int"=some none)
  (z8:PySem.W.nsIn K mainGlobals "isinstance"=some none)
  (z9:PySem.W.nsIn K mainGlobals "len"=some none)
  (z10:PySem.W.nsIn K mainGlobals "list"=some none)
  (z11:PySem.W.nsIn K mainGlobals "max"=some none)
  (z12:PySem.W.nsIn K mainGlobals "min"=some none)
  (z13:PySem.W.nsIn K mainGlobals "range"=some none)
  (z14:PySem.W.nsIn K mainGlobals "str"=some none)
  (z15:PySem.W.nsIn K mainGlobals "sum"=some none)
  (z16:PySem.W.nsIn K mainGlobals "tuple"=some none)
  (z17:PySem.W.nsIn K mainGlobals "zip"=some none)
  {ty1:Tok} (y1:PySem.W.nsIn K mainGlobals "MOST_PIECES"=some (some (.int 40 ty1)))
  {ty2:Tok} (y2:PySem.W.nsIn K mainGlobals "MOST_SIGNS"=some (some (.int 60 ty2))) :
  ∃fd:FuncData,(∀(s:Shared) (v:Value),BindsTo s fd ⟨[v],[]⟩ [("_law_script",v)])/\∀base:Heap,K.In base->base.Ns mainGlobals mg->lA l.prog w K mg base CX0 8 fa fd ["_law_script"] (rY K):=by
 have eC_Turnable:=fL aC_Turnable;have TC:TxC K:=⟨by rw [eC_Turnable];exact⟨pg_Turnable,hd_Turnable,po_Turnable,sa_Turnable⟩,by show PySem.W.findIn K (.ref (aD K "Turnable")) "pieces"=some none;rw [eC_Turnable];exact n_Turnable_pieces,by show PySem.W.findIn K (.ref (aD K "Turnable")) "kept"=some none;rw [eC_Turnable];exact n_Turnable_kept,by show PySem.W.findIn K (.ref (aD K "Turnable")) "words"=some none;rw [eC_Turnable];exact n_Turnable_words,by show PySem.W.findIn K (.ref (aD K "Turnable")) "left"=some none;rw [eC_Turnable];exact n_Turnable_left,by show PySem.W.findIn K (.ref (aD K "Turnable")) "states"=some none;rw [eC_Turnable];exact n_Turnable_states,by show PySem.W.findIn K (.ref (aD K "Turnable")) "laps"=some none;rw [eC_Turnable];exact n_Turnable_laps,by show PySem.W.findIn K (.ref (aD K "Turnable")) "total"=some none;rw [eC_Turnable];exact n_Turnable_total⟩
 have eC_GlueError:=fL aC_GlueError;have tl_:=zr xq_GlueError ⟨_,_,_,_,_,_,_,_,_,_,_,_,_,lC_GlueError⟩;have eC_TooMany:=fL aC_TooMany;have xc_TooMany:XC K C_TooMany C_GlueError:=⟨⟨_,_,_,_,_,_,_,_,_,_,_,_,_,lC_TooMany⟩,ga_TooMany,gh_TooMany,sa_TooMany,cl_TooMany⟩
 have eC_NoPiece:=fL aC_NoPiece;have xc_NoPiece:XC K C_NoPiece C_GlueError:=⟨⟨_,_,_,_,_,_,_,_,_,_,_,_,_,lC_NoPiece⟩,ga_NoPiece,gh_NoPiece,sa_NoPiece,cl_NoPiece⟩
 have eC_NoOrder:=fL aC_NoOrder;have xc_NoOrder:XC K C_NoOrder C_GlueError:=⟨⟨_,_,_,_,_,_,_,_,_,_,_,_,_,lC_NoOrder⟩,ga_NoOrder,gh_NoOrder,sa_NoOrder,cl_NoOrder⟩
 have eC_NotHeld:=fL aC_NotHeld;have xc_NotHeld:XC K C_NotHeld C_GlueError:=⟨⟨_,_,_,_,_,_,_,_,_,_,_,_,_,lC_NotHeld⟩,ga_NotHeld,gh_NotHeld,sa_NotHeld,cl_NotHeld⟩
 have eC_NotApart:=fL aC_NotApart;have xc_NotApart:XC K C_NotApart C_GlueError:=⟨⟨_,_,_,_,_,_,_,_,_,_,_,_,_,lC_NotApart⟩,ga_NotApart,gh_NotApart,sa_NotApart,cl_NotApart⟩
 have TX:TxX K mg:=⟨⟨by rw [XCl,eC_GlueError];exact⟨_,_,_,lC_GlueError,rfl⟩,fun c hc=>by
  simp only [xcs,mem_cons,not_mem_nil,or_false] at hc
  rcases hc with rfl|rfl|rfl|rfl|rfl
  .rw [XCl,eC_TooMany];exact⟨_,_,_,lC_TooMany,rfl⟩
  .rw [XCl,eC_NoPiece];exact⟨_,_,_,lC_NoPiece,rfl⟩
  .rw [XCl,eC_NoOrder];exact⟨_,_,_,lC_NoOrder,rfl⟩
  .rw [XCl,eC_NotHeld];exact⟨_,_,_,lC_NotHeld,rfl⟩
  .rw [XCl,eC_NotApart];exact⟨_,_,_,lC_NotApart,rfl⟩,fun c hc=>by
  simp only [xcs,mem_cons,not_mem_nil,or_false] at hc
  rcases hc with rfl|rfl|rfl|rfl|rfl
  .rw [eC_TooMany,eC_GlueError];exact xc_TooMany
  .rw [eC_NoPiece,eC_GlueError];exact xc_NoPiece
  .rw [eC_NoOrder,eC_GlueError];exact xc_NoOrder
  .rw [eC_NotHeld,eC_GlueError];exact xc_NotHeld
  .rw [eC_NotApart,eC_GlueError];exact xc_NotApart⟩,fun c g hc=>by
  simp only [Ab,mem_cons,not_mem_nil,or_false,Prod.mk.injEq] at hc
  rcases hc with ⟨rfl,rfl⟩|⟨rfl,rfl⟩|⟨rfl,rfl⟩|⟨rfl,rfl⟩
  .rw [eC_TooMany];exact xn_TooMany
  .rw [eC_NoPiece];exact xn_NoPiece
  .rw [eC_NotHeld];exact xn_NotHeld
  .rw [eC_NotApart];exact xn_NotApart,by rw [eC_TooMany];exact PySem.W.mg_of X G aC_TooMany,by rw [eC_NoPiece];exact PySem.W.mg_of X G aC_NoPiece,by rw [eC_NoOrder];exact PySem.W.mg_of X G aC_NoOrder,by rw [eC_NotHeld];exact PySem.W.mg_of X G aC_NotHeld,by rw [eC_NotApart];exact PySem.W.mg_of X G aC_NotApart,by rw [eC_GlueError];exact PySem.W.mg_of X G aC_GlueError,by rw [eC_TooMany];exact⟨_,_,_,_,_,_,_,_,_,_,_,_,_,_,_,_,_,lC_TooMany,rfl⟩,by rw [eC_NoPiece];exact⟨_,_,_,_,_,_,_,_,_,_,_,_,_,_,_,_,_,lC_NoPiece,rfl⟩,by rw [eC_NoOrder];exact⟨_,_,_,_,_,_,_,_,_,_,_,_,_,_,_,_,_,lC_NoOrder,rfl⟩,by rw [eC_NotHeld];exact⟨_,_,_,_,_,_,_,_,_,_,_,_,_,_,_,_,_,lC_NotHeld,rfl⟩,by rw [eC_NotApart];exact⟨_,_,_,_,_,_,_,_,_,_,_,_,_,_,_,_,_,lC_NotApart,rfl⟩,by rw [eC_GlueError];exact⟨_,_,_,_,_,_,_,_,_,_,_,_,_,_,_,_,_,lC_GlueError,rfl⟩,by rw [eC_NoOrder];exact BN xq_NoOrder,by rw [eC_NoOrder];exact kc_NoOrder⟩
 have D_is_text:qY K mg "is_text" fA [.int 0,.int 4000]:=⟨⟨f1,dT1,oc1,od1,an1,dd1,kV1,dc1,pm1,cd1,ct1,sl1,st1,[.int 0 u1_0,.int 4000 u1_1],n1,l1,c1,k1,PySem.W.mg_of X G a1,t1,(.cons ⟨_,rfl⟩ (.cons ⟨_,rfl⟩ .nil))⟩⟩
 have D_first_place:=bU d2 X G;have D_lap:=bU d3 X G;have D_turned:=bU d4 X G;have D_Turnable_many:qZ K (aD K "Turnable") "many" "Turnable.many" bO:=by rw [eC_Turnable];exact⟨⟨f5,_,kn (st:=bO) l5 c5 k5,⟨a5,i5,k5⟩⟩⟩
 have D_law_stream:=bU d6 X G;have D_law_next:=bU d7 X G;have D_law_back:=bU d8 X G;have D_law_lap:=bU d9 X G;have D_law_whole:=bU d10 X G;have D_all_laps:=bU d11 X G;have D_stands_within:=bU d12 X G;have D_one_way:=bU d13 X G;have D_law_word:=bU d14 X G;have D_law_cut:=bU d15 X G;have D_law_is_left:=bU d16 X G;have D_law_states:=bU d17 X G;have D_law_left:=bU d18 X G;have D_law_numbers:=bU d19 X G
 have D_check_pieces:=bU d20 X G;have D_stands_some_way:=bU d21 X G;have D_law_base:=bU d22 X G;have D_law_kept:=bU d23 X G;have D_law_rows:=bU d24 X G;have D_is_kept_some_way:=bU d25 X G;have D_left_some_way:=bU d26 X G;have D_law_pieces:=bU d27 X G;have D_law_told:=bU d28 X G;have D_Turnable_init:kt K mg (aD K "Turnable") "Turnable" "Turnable.__init__" bA:=by rw [eC_Turnable];exact⟨⟨f29,_,kn (st:=bA) l29 c29 k29,⟨mk_Turnable,a29,i29,kc_Turnable⟩,PySem.W.mg_of X G aC_Turnable⟩⟩
 have D_law_caught:=bU d30 X G;have D_law_refused:=bU d31 X G;have D_law:=bU d32 X G;have T:Txt mg:=⟨PySem.W.mg_none_of X G z1,PySem.W.mg_none_of X G z2,PySem.W.mg_none_of X G z3,PySem.W.mg_none_of X G z4,PySem.W.mg_none_of X G z5,PySem.W.mg_none_of X G z6,PySem.W.mg_none_of X G z7,PySem.W.mg_none_of X G z8,PySem.W.mg_none_of X G z9,PySem.W.mg_none_of X G z10,PySem.W.mg_none_of X G z11,PySem.W.mg_none_of X G z12,PySem.W.mg_none_of X G z13,PySem.W.mg_none_of X G z14,PySem.W.mg_none_of X G z15,PySem.W.mg_none_of X G z16,PySem.W.mg_none_of X G z17,⟨_,PySem.W.mg_of X G y1⟩,⟨_,PySem.W.mg_of X G y2⟩⟩
 refine AX (st:=xj) hfa D_law (fun _ _ _ _ _ _ s v=>.of_eq rfl) fun base=>?_
 have C_TooMany_init:wU l.prog w K mg base 1 (aD K "TooMany") "TooMany" "most":=by
  rw [eC_TooMany];exact nC (kn (st:=cU) xl_TooMany xc0_TooMany xk_TooMany) kS rfl (fun _ _ _ _ _ _ us hl=>match us,hl with|[_,_],_=>rfl) (fun cdv A outer s H E=>am (kc K rfl (pv 0) (pv 1) rfl)) ⟨xc_TooMany,tl_,xi_TooMany,xt_TooMany,kc_TooMany⟩ xn_TooMany (PySem.W.mg_of X G aC_TooMany)
 have C_NoPiece_init:wU l.prog w K mg base 1 (aD K "NoPiece") "NoPiece" "at":=by
  rw [eC_NoPiece];exact nC (kn (st:=cW) xl_NoPiece xc0_NoPiece xk_NoPiece) kT rfl (fun _ _ _ _ _ _ us hl=>match us,hl with|[_,_],_=>rfl) (fun cdv A outer s H E=>am (kc K rfl (pv 0) (pv 1) rfl)) ⟨xc_NoPiece,tl_,xi_NoPiece,xt_NoPiece,kc_NoPiece⟩ xn_NoPiece (PySem.W.mg_of X G aC_NoPiece)
 have C_NotHeld_init:wU l.prog w K mg base 1 (aD K "NotHeld") "NotHeld" "at":=by
  rw [eC_NotHeld];exact nC (kn (st:=cX) xl_NotHeld xc0_NotHeld xk_NotHeld) kU rfl (fun _ _ _ _ _ _ us hl=>match us,hl with|[_,_],_=>rfl) (fun cdv A outer s H E=>am (kc K rfl (pv 0) (pv 1) rfl)) ⟨xc_NotHeld,tl_,xi_NotHeld,xt_NotHeld,kc_NotHeld⟩ xn_NotHeld (PySem.W.mg_of X G aC_NotHeld)
 have C_NotApart_init:wU l.prog w K mg base 1 (aD K "NotApart") "NotApart" "at":=by
  rw [eC_NotApart];exact nC (kn (st:=cG) xl_NotApart xc0_NotApart xk_NotApart) jV rfl (fun _ _ _ _ _ _ us hl=>match us,hl with|[_,_],_=>rfl) (fun cdv A outer s H E=>am (kc K rfl (pv 0) (pv 1) rfl)) ⟨xc_NotApart,tl_,xi_NotApart,xt_NotApart,kc_NotApart⟩ xn_NotApart (PySem.W.mg_of X G aC_NotApart)
 have C_is_text:=sG (P:=l.prog) (w:=w) (base:=base) D_is_text T TC TX;have C_first_place:=lS (P:=l.prog) (w:=w) (base:=base) D_first_place T TC TX;have C_lap:=Ch (P:=l.prog) (w:=w) (base:=base) D_lap T TC TX;have C_turned:=vD (P:=l.prog) (w:=w) (base:=base) D_turned T TC TX;have C_Turnable_many:=j5 (P:=l.prog) (w:=w) (base:=base) D_Turnable_many T TC TX;have C_law_stream:=nP (P:=l.prog) (w:=w) (base:=base) D_law_stream T TC TX
 have C_law_next:=qF (P:=l.prog) (w:=w) (base:=base) D_law_next T TC TX;have C_law_back:=qH (P:=l.prog) (w:=w) (base:=base) D_law_back T TC TX;have C_law_lap:=sJ (P:=l.prog) (w:=w) (base:=base) D_law_lap T TC TX;have C_law_whole:=pN (P:=l.prog) (w:=w) (base:=base) D_law_whole T TC TX;have C_all_laps:=qE (P:=l.prog) (w:=w) (base:=base) D_all_laps T TC TX C_lap;have C_stands_within:=j2 (P:=l.prog) (w:=w) (base:=base) D_stands_within T TC TX C_first_place
 have C_one_way:=sH (P:=l.prog) (w:=w) (base:=base) D_one_way T TC TX C_turned;have C_law_word:=qG (P:=l.prog) (w:=w) (base:=base) D_law_word T TC TX C_law_next;have C_law_cut:=sI (P:=l.prog) (w:=w) (base:=base) D_law_cut T TC TX C_law_next;have C_law_is_left:=lT (P:=l.prog) (w:=w) (base:=base) D_law_is_left T TC TX C_law_back;have C_law_states:=nR (P:=l.prog) (w:=w) (base:=base) D_law_states T TC TX C_law_back
 have C_law_left:=qK (P:=l.prog) (w:=w) (base:=base) D_law_left T TC TX C_law_back;have C_law_numbers:=lU (P:=l.prog) (w:=w) (base:=base) D_law_numbers T TC TX C_law_whole;have C_check_pieces:=lm (P:=l.prog) (w:=w) (base:=base) D_check_pieces T TC TX C_NoPiece_init C_TooMany_init C_is_text;have C_Turnable_rz:=lW (P:=l.prog) (w:=w) (base:=base) D_Turnable_init C_check_pieces;have C_stands_some_way:=jb (P:=l.prog) (w:=w) (base:=base) D_stands_some_way T TC TX C_stands_within C_turned
 have C_law_base:=qI (P:=l.prog) (w:=w) (base:=base) D_law_base T TC TX C_law_next C_law_word;have C_law_kept:=qJ (P:=l.prog) (w:=w) (base:=base) D_law_kept T TC TX C_law_is_left;have C_law_rows:=qL (P:=l.prog) (w:=w) (base:=base) D_law_rows T TC TX C_law_numbers;have C_is_kept_some_way:=iI (P:=l.prog) (w:=w) (base:=base) D_is_kept_some_way T TC TX C_stands_some_way C_turned;have C_left_some_way:=j3 (P:=l.prog) (w:=w) (base:=base) D_left_some_way T TC TX C_first_place C_one_way C_stands_some_way C_stands_within
 have C_law_pieces:=nQ (P:=l.prog) (w:=w) (base:=base) D_law_pieces T TC TX C_law_back C_law_base C_law_cut C_law_next C_law_word;have C_law_told:=qM (P:=l.prog) (w:=w) (base:=base) D_law_told T TC TX C_Turnable_many C_law_kept C_law_lap C_law_left C_law_numbers C_law_rows C_law_states C_law_whole;have C_Turnable_init:=j4 (P:=l.prog) (w:=w) (base:=base) D_Turnable_init T TC TX C_all_laps C_check_pieces C_is_kept_some_way C_left_some_way C_one_way
 have C_law_caught:=nS (P:=l.prog) (w:=w) (base:=base) D_law_caught T TC TX C_Turnable_rz;have C_law_refused:=lV (P:=l.prog) (w:=w) (base:=base) D_law_refused T TC TX C_law_caught C_law_next C_law_whole;exact (Ci (P:=l.prog) (w:=w) (base:=base) D_law T TC TX C_Turnable_init C_law_back C_law_next C_law_pieces C_law_refused C_law_stream C_law_told C_law_word C_turned).imp fun _ _ _ _ h=>yP h
end K48

open PySem PySem.W PyProof.Rows
local macro_rules | `(tactic| walk_at "fn") => `(tactic| (refine' L2.B8 ?a ?l ?c ?k; (case a => k_is); (case l => k_is); (case c => k_is); (case k => k_is)))
set_option maxRecDepth 100000 in
set_option maxHeartbeats 0 in
theorem PySem.Challenge.cw_shortglue_k48_turnable_holds : PySem.Challenge.rw_shortglue_k48_turnable.Holds := by
  refine topHd ?_
  k_fill
  refine L2.AY (l := PySem.Challenge.rw_shortglue_k48_turnable) (k := 8) (x := "_law_script") rfl rfl ⟨rfl, by decide, by decide⟩ (fun w h Y => PySem.W.kIn_of Y) ?F
  case F =>
    intro w mg fa h KX G hmg
    refine' K48.Cj KX G hmg ?aC_Turnable ?pg_Turnable ?hd_Turnable ?po_Turnable ?sa_Turnable ?mk_Turnable ?kc_Turnable ?n_Turnable_pieces ?n_Turnable_kept ?n_Turnable_words ?n_Turnable_left ?n_Turnable_states ?n_Turnable_laps ?n_Turnable_total ?aC_GlueError ?lC_GlueError ?xq_GlueError ?aC_TooMany ?lC_TooMany ?ga_TooMany ?gh_TooMany ?sa_TooMany ?cl_TooMany ?kc_TooMany ?xi_TooMany ?xt_TooMany ?xl_TooMany ?xc0_TooMany ?xk_TooMany ?xn_TooMany ?aC_NoPiece ?lC_NoPiece ?ga_NoPiece ?gh_NoPiece ?sa_NoPiece ?cl_NoPiece ?kc_NoPiece ?xi_NoPiece ?xt_NoPiece ?xl_NoPiece ?xc0_NoPiece ?xk_NoPiece ?xn_NoPiece ?aC_NoOrder ?lC_NoOrder ?ga_NoOrder ?gh_NoOrder ?sa_NoOrder ?cl_NoOrder ?kc_NoOrder ?xq_NoOrder ?aC_NotHeld ?lC_NotHeld ?ga_NotHeld ?gh_NotHeld ?sa_NotHeld ?cl_NotHeld ?kc_NotHeld ?xi_NotHeld ?xt_NotHeld ?xl_NotHeld ?xc0_NotHeld ?xk_NotHeld ?xn_NotHeld ?aC_NotApart ?lC_NotApart ?ga_NotApart ?gh_NotApart ?sa_NotApart ?cl_NotApart ?kc_NotApart ?xi_NotApart ?xt_NotApart ?xl_NotApart ?xc0_NotApart ?xk_NotApart ?xn_NotApart ?a1 ?l1 ?c1 ?k1 ?t1 ?d2 ?d3 ?d4 ?a5 ?i5 ?l5 ?c5 ?k5 ?d6 ?d7 ?d8 ?d9 ?d10 ?d11 ?d12 ?d13 ?d14 ?d15 ?d16 ?d17 ?d18 ?d19 ?d20 ?d21 ?d22 ?d23 ?d24 ?d25 ?d26 ?d27 ?d28 ?a29 ?i29 ?l29 ?c29 ?k29 ?d30 ?d31 ?d32 ?z1 ?z2 ?z3 ?z4 ?z5 ?z6 ?z7 ?z8 ?z9 ?z10 ?z11 ?z12 ?z13 ?z14 ?z15 ?z16 ?z17 ?y1 ?y2
    (case aC_Turnable => k_is)
    (case pg_Turnable => k_is)
    (case hd_Turnable => k_is)
    (case po_Turnable => k_is)
    (case sa_Turnable => k_is)
    (case mk_Turnable => k_is)
    (case kc_Turnable => k_is)
    (case n_Turnable_pieces => k_is)
    (case n_Turnable_kept => k_is)
    (case n_Turnable_words => k_is)
    (case n_Turnable_left => k_is)
    (case n_Turnable_states => k_is)
    (case n_Turnable_laps => k_is)
    (case n_Turnable_total => k_is)
    (case aC_GlueError => k_is)
    (case lC_GlueError => k_is)
    (case xq_GlueError => k_exc)
    (case aC_TooMany => k_is)
    (case lC_TooMany => k_is)
    (case ga_TooMany => k_is)
    (case gh_TooMany => k_is)
    (case sa_TooMany => k_is)
    (case cl_TooMany => k_is)
    (case kc_TooMany => k_is)
    (case xi_TooMany => k_is)
    (case xt_TooMany => k_is)
    (case xl_TooMany => k_is)
    (case xc0_TooMany => k_is)
    (case xk_TooMany => k_is)
    (case xn_TooMany => k_is)
    (case aC_NoPiece => k_is)
    (case lC_NoPiece => k_is)
    (case ga_NoPiece => k_is)
    (case gh_NoPiece => k_is)
    (case sa_NoPiece => k_is)
    (case cl_NoPiece => k_is)
    (case kc_NoPiece => k_is)
    (case xi_NoPiece => k_is)
    (case xt_NoPiece => k_is)
    (case xl_NoPiece => k_is)
    (case xc0_NoPiece => k_is)
    (case xk_NoPiece => k_is)
    (case xn_NoPiece => k_is)
    (case aC_NoOrder => k_is)
    (case lC_NoOrder => k_is)
    (case ga_NoOrder => k_is)
    (case gh_NoOrder => k_is)
    (case sa_NoOrder => k_is)
    (case cl_NoOrder => k_is)
    (case kc_NoOrder => k_is)
    (case xq_NoOrder => k_exc)
    (case aC_NotHeld => k_is)
    (case lC_NotHeld => k_is)
    (case ga_NotHeld => k_is)
    (case gh_NotHeld => k_is)
    (case sa_NotHeld => k_is)
    (case cl_NotHeld => k_is)
    (case kc_NotHeld => k_is)
    (case xi_NotHeld => k_is)
    (case xt_NotHeld => k_is)
    (case xl_NotHeld => k_is)
    (case xc0_NotHeld => k_is)
    (case xk_NotHeld => k_is)
    (case xn_NotHeld => k_is)
    (case aC_NotApart => k_is)
    (case lC_NotApart => k_is)
    (case ga_NotApart => k_is)
    (case gh_NotApart => k_is)
    (case sa_NotApart => k_is)
    (case cl_NotApart => k_is)
    (case kc_NotApart => k_is)
    (case xi_NotApart => k_is)
    (case xt_NotApart => k_is)
    (case xl_NotApart => k_is)
    (case xc0_NotApart => k_is)
    (case xk_NotApart => k_is)
    (case xn_NotApart => k_is)
    (case a1 => k_is)
    (case l1 => k_is)
    (case c1 => k_is)
    (case k1 => k_is)
    (case t1 => k_is)
    (case d2 => walk_at "fn")
    (case d3 => walk_at "fn")
    (case d4 => walk_at "fn")
    (case a5 => k_is)
    (case i5 => k_is)
    (case l5 => k_is)
    (case c5 => k_is)
    (case k5 => k_is)
    (case d6 => walk_at "fn")
    (case d7 => walk_at "fn")
    (case d8 => walk_at "fn")
    (case d9 => walk_at "fn")
    (case d10 => walk_at "fn")
    (case d11 => walk_at "fn")
    (case d12 => walk_at "fn")
    (case d13 => walk_at "fn")
    (case d14 => walk_at "fn")
    (case d15 => walk_at "fn")
    (case d16 => walk_at "fn")
    (case d17 => walk_at "fn")
    (case d18 => walk_at "fn")
    (case d19 => walk_at "fn")
    (case d20 => walk_at "fn")
    (case d21 => walk_at "fn")
    (case d22 => walk_at "fn")
    (case d23 => walk_at "fn")
    (case d24 => walk_at "fn")
    (case d25 => walk_at "fn")
    (case d26 => walk_at "fn")
    (case d27 => walk_at "fn")
    (case d28 => walk_at "fn")
    (case a29 => k_is)
    (case i29 => k_is)
    (case l29 => k_is)
    (case c29 => k_is)
    (case k29 => k_is)
    (case d30 => walk_at "fn")
    (case d31 => walk_at "fn")
    (case d32 => walk_at "fn")
    (case z1 => k_is)
    (case z2 => k_is)
    (case z3 => k_is)
    (case z4 => k_is)
    (case z5 => k_is)
    (case z6 => k_is)
    (case z7 => k_is)
    (case z8 => k_is)
    (case z9 => k_is)
    (case z10 => k_is)
    (case z11 => k_is)
    (case z12 => k_is)
    (case z13 => k_is)
    (case z14 => k_is)
    (case z15 => k_is)
    (case z16 => k_is)
    (case z17 => k_is)
    (case y1 => k_is)
    (case y2 => k_is)
