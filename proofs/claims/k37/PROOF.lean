import PyProof.Rows.All
import Wide.All
import OpenK.AllK
import Wide.FinOn
import Lean
import PyProof.EqAt
import PyProof.EqKinds
import PyProof.TupleCall
import KE.KSortTup
import PyProof.FString
import PyProof.StrBlock
import KE.KRevSl
import PyProof.StrLawsReplace
import PyProof.StrCalls6
import PyProof.MinMaxWalk
import PyProof.WalkInts
import PyProof.NeKinds
import KE.KEqDict
import PyProof.Rows.SumAny
import KE.KMinKey
import PyProof.Rows.CallKwBuiltin
import PySem.Challenge.RW_shortglue_k37_shortest_and_first
set_option Elab.async false
set_option linter.all false
set_option maxRecDepth 100000
open List (all_cons all_eq_true all_map any_cons any_eq_false any_eq_true any_map append_assoc append_eq_nil_iff append_nil append_of_mem append_toArray concat_eq_append cons_append cons_lt_cons_iff cons_ne_nil contains_iff_mem dropLast_concat dropLast_concat_getLast dropLast_eq_take drop_drop drop_eq_getElem_cons drop_eq_nil_of_le drop_left drop_one drop_suffix drop_take drop_zero eq_nil_iff_forall_not_mem eq_nil_or_concat eq_of_mem_replicate eraseIdxIfInBounds_toArray eraseIdx_cons_succ eraseIdx_eq_take_drop_succ exists_cons_of_ne_nil ext_getElem ext_getElem? extract_eq_take_drop extract_toArray filterMap_append filterMap_cons filterMap_eq_map filterMap_map filter_append filter_cons filter_eq_nil_iff find?_cons find?_eq_none find?_eq_some_iff_append flatten_append flatten_cons flatten_nil foldl_cons forIn_cons forIn_nil getD_eq_getElem?_getD getElem?_append_left getElem?_append_right getElem?_cons_succ getElem?_drop getElem?_eq_getElem getElem?_eq_none getElem?_inj getElem?_map getElem?_range getElem?_replicate getElem?_reverse getElem?_set_ne getElem?_set_self getElem?_take getElem?_take_of_lt getElem?_zip_eq_some getElem_cons_drop getElem_inj getElem_map getElem_mem getElem_of_mem getElem_range getElem_toArray isEmpty_iff length_append length_cons length_drop length_dropLast length_eq_zero_iff length_eraseIdx length_erase_of_mem length_filter_le length_flatten length_map length_nil length_pos_iff length_pos_of_mem length_range length_replicate length_reverse length_set length_singleton length_take lookup_append lookup_cons map_append map_congr_left map_cons map_drop map_eq_nil_iff map_id map_map map_nil map_replicate map_reverse map_set map_take mem_append mem_append_left mem_append_right mem_cons mem_cons_of_mem mem_cons_self mem_erase_of_ne mem_filter mem_filterMap mem_flatten mem_iff_getElem mem_iff_getElem? mem_map mem_map_of_mem mem_of_getElem? mem_of_mem_drop mem_of_mem_erase mem_of_mem_take mem_range mem_range'_1 mem_replicate mem_reverse mem_singleton mergeSort_perm ne_nil_of_length_pos nil_append nil_lt_cons nil_prefix nil_suffix nodup_append nodup_cons nodup_nil nodup_range not_lt_nil not_mem_nil of_mem_zip pairwise_append pairwise_cons pairwise_lt_range pairwise_map pairwise_mergeSort perm_append_comm perm_append_singleton perm_cons perm_cons_erase perm_ext_iff_of_nodup perm_middle prefix_append prefix_refl range_succ range_succ_eq_map replicate_succ reverse_cons reverse_perm reverse_reverse set_cons_succ set_cons_zero size_toArray sublist_append_left suffix_append suffix_iff_eq_drop sum_append sum_cons sum_replicate_nat tail_cons take_add take_add_one take_append_drop take_left take_length take_nil take_of_length_le take_prefix take_range take_sublist take_succ take_succ_cons take_take take_zero zipIdx_cons zipIdx_nil)
open Nat (add_assoc add_comm add_mul add_sub_cancel add_sub_cancel_left and_one_is_mod div_add_mod eq_zero_or_pos le_add_right le_antisymm le_of_ble_eq_true le_of_eq le_of_lt le_of_not_lt le_of_succ_le le_succ log2_lt lt_log2_self lt_of_le_of_lt lt_of_lt_of_le lt_or_ge lt_succ_of_lt lt_succ_self lt_trans lt_trichotomy max_le min_eq_left min_eq_right min_le_right min_self mod_lt mod_two_eq_zero_or_one mul_comm mul_le_mul mul_le_mul_right mul_pos mul_succ mul_zero ne_of_gt ne_of_lt not_lt not_lt_zero not_succ_le_self pow_le_pow_right pow_pos pow_succ sub_le sub_self succ_le_succ succ_mul testBit_eq_decide_div_mod_eq testBit_lt_two_pow testBit_two_pow_add_gt testBit_two_pow_mul_add testBit_two_pow_sub_one zero_le zero_lt_succ)
open Int (ediv_nonneg ediv_one emod_lt_of_pos emod_nonneg fdiv_eq_ediv_of_nonneg fmod_eq_emod_of_nonneg le_ediv_of_mul_le mul_le_mul_of_nonneg_left natAbs_natCast natCast_ediv natCast_nonneg natCast_pow natCast_sub natCast_zero neg_neg ofNat_le toNat_natCast zero_mul)
open Bool (and_eq_false_imp and_eq_true and_eq_true_iff beq_eq_decide_eq false_eq_true not_eq_true or_eq_true)
local macro_rules | `(tactic| walk_at "o")=>`(tactic| first | exact Or.inl rfl | exact Or.inr rfl | exact Or.inr (Or.inl rfl) | exact Or.inr (Or.inr rfl))
set_option maxHeartbeats 4000000
noncomputable section
namespace L2
open PySem PySem.W
def nP(tb:String->Option Builtin)(p:Program)(w:World)(n₀:Nat)(ann:Option Value):Nat->SharedT->Thread->Option SharedT
 | 0,_,_=>none
 | n+1,s,t=>match through t with
  | true=>some s
  | false=>match stepOk n₀ ann t with
   | false=>none
   | true=>match stepT (denote tb) p w s t with
    | some (s',t')=>nP tb p w n₀ ann n s' t'
    | none=>none
theorem pI{tb:String->Option Builtin}{p:Program}{w:World}{n₀:Nat}{ann:Option Value}:∀{n:Nat}{s s':SharedT}{t:Thread},nP tb p w n₀ ann n s t=some s'->topRun tb p w n₀ ann n s.abs t=some s'.abs
 | 0,_,_,_,h=>by cases h
 | n+1,s,s',t,h=>by
  unfold nP at h;unfold topRun
  cases he:through t with
  | true=>rw [he] at h;cases h;rfl
  | false =>
   rw [he] at h
   cases hk:stepOk n₀ ann t with
   | false=>rw [hk] at h;cases h
   | true =>
    rw [hk] at h
    cases hs:stepT (denote tb) p w s t with
    | none=>rw [hs] at h;cases h
    | some r=>obtain⟨s₂,t₂⟩:=r;rw [hs] at h;rw [stepT_spec hs];exact pI h
def zm:List Obj->Nat->BT->BT
 | [],_,t=>t
 | o::r,i,t=>zm r (i+1) (t.ins i o)
def Ak(P:Params):BT:=zm (boot_heap P).objs.toList 0 .nil
theorem xN:∀P,absHeap (Ak P) (boot_heap P).objs.size (boot_heap P).life=boot_heap P:=fun P=>by kernel_rfl
theorem Ci{p q:Program}{loose:List Str}{Xt:Shared->Bool}{α:Type}{Yf:Shared->α}{Ya:World->α}{N:Nat}{g0:Bool}{m₀:Nat}{ann:Option Value}
  (e:opening p=plainProg p.main.scope.names) (hN:Nat.ble 600 N=true) (f:∀s,fenceModules? p s=some s)
  (size:∀w:World,((boot_heap w.params).isNs mainGlobals && (Array.mk []:Array GenState).size == 0,(boot_heap w.params).objs.size,(boot_heap w.params).nsMap mainGlobals "__annotations__")=(true,m₀,ann))
  (run:∀(w:World) (os:OsState),(nP treeTable p w m₀ ann N ⟨Ak w.params,m₀,(boot_heap w.params).life,Array.mk [],boot_drawn,boot_toks,os⟩ (topStub p)).map (fun sT=>((staticsOk (importedModules p.main.body) (boot_heap w.params) sT.abs.heap && namesBound p sT.abs.heap && gensDone sT.abs && laidKept (boot_heap w.params) sT.abs.heap),openSeen q loose (importedModules p.main.body) Xt g0 sT.abs,Yf sT.abs))=some (true,openGood q loose,Ya w)):LeftO p q loose Xt Yf Ya N g0:=fun w=>by
 obtain⟨⟨h,gs,d,k,os⟩,e,e'⟩:=Option.map_eq_some_iff.mp (boot_open e hN f w);obtain⟨rfl,rfl,rfl,rfl⟩:h=boot_heap w.params/\gs=Array.mk []/\d=boot_drawn/\k=boot_toks:=by simpa using e'
 obtain⟨z1,z2,z3⟩:_/\_/\_:=by simpa only [Prod.mk.injEq] using size w
 obtain⟨sT,r,l⟩:=Option.map_eq_some_iff.mp (run w os);obtain⟨l1,l2,l3⟩:_/\_/\_:=by simpa only [Prod.mk.injEq] using l
 have r:=pI r
 rw [show SharedT.abs ⟨Ak w.params,m₀,(boot_heap w.params).life,Array.mk [],boot_drawn,boot_toks,os⟩=⟨boot_heap w.params,Array.mk [],boot_drawn,boot_toks,os⟩ by
  unfold SharedT.abs;dsimp only;rw [<- z2,xN]] at r
 have t:topFrom treeTable p w N ⟨boot_heap w.params,Array.mk [],boot_drawn,boot_toks,os⟩=some sT.abs:=by
  unfold topFrom;dsimp only;rw [z1,z2,z3,r];show (match staticsOk (importedModules p.main.body) (boot_heap w.params) sT.abs.heap && namesBound p sT.abs.heap && gensDone sT.abs && laidKept (boot_heap w.params) sT.abs.heap with|true=>_|false=>_)=_;rw [l1]
 unfold openEnds;rw [e];show (topFrom treeTable p w N _).map _=_;rw [t];exact congrArg some (Prod.ext l2 l3)
end L2
section
open PySem PySem.W PyProof.Rows
def Al:Program:=PySem.W.view PySem.Challenge.pw_shortglue_k37_shortest_and_first [1,2,3,4,6,8,9,10,11,12,13,14,15,16,18,19,21,22,23,25,27,28,29,30,31,33,34,35,36,37,38,39,40,41,42,43,44,45,46,47,48]
local macro_rules | `(tactic| o_head $H)=>`(tactic| (refine holds_open (q:=Al) (loose:=[PySem.Str.ofString "is_text"]) (Xt:=fun s=>xlAt Al [] s && recOk (RowW.records (OpenRow.toRowW (OpenLaw.row PySem.Challenge.rw_shortglue_k37_shortest_and_first))) s) (XP:=XL Al []) (Yf:=Hook.obs $H) (Ya:=Hook.val $H) (YP:=Hook.says $H) (N:=4596) ?hl (Hook.of $H) (Hook.keeps $H) (fun s e=>xl_of s (and_eq_true_iff.mp e).1) XL.keeps (by rfl) (by rfl) (by rfl) (fun s e=>recFacts_of (and_eq_true_iff.mp e).2) (by rfl) (by first | assumption | decide +kernel) (by decide +kernel) ⟨rfl,rfl,rfl,rfl,rfl,by decide +kernel⟩ ?hw ?hc;(case hl=>(refine L2.Ci (m₀:=11) (ann:=some (.ref 6)) (by kernel_rfl) (by rfl) (fun s=>by kernel_rfl) (fun w=>by kernel_rfl) ?_;intro w os;kernel_rfl))))
set_option maxRecDepth 100000 in
set_option maxHeartbeats 0 in
open_top topHd for PySem.Challenge.rw_shortglue_k37_shortest_and_first
end
-- CHANGE: your row's module here,as the last of these rows
namespace L2
open PySem PySem.Spec PyProof.Rows
abbrev Key:=Sum Int Str
def Cj:Key->Value->Bool
 | .inl k,v=>Value.isInt k v
 | .inr x,v=>Value.isStrOf x v
def Gm(w:World):Key->Int
 | .inl k=>hashInt k
 | .inr x=>hashStr w x
theorem cM:∀{k:Key}{v:Value},Cj k v=true->(∃i t,k=Sum.inl i/\v=Value.int i t)\/(∃x t,k=Sum.inr x/\v=Value.str x t)
 | .inl i,v,h=>by
  obtain⟨t,e⟩:=Value.isInt_shape (k:=i) (v:=v) h;exact .inl ⟨i,t,rfl,e⟩
 | .inr x,v,h=>by
  obtain⟨t,e⟩:=Value.isStrOf_shape (x:=x) (v:=v) h;exact .inr ⟨x,t,rfl,e⟩
theorem Ck(a b:Int):decide ((Sum.inl a:Key)=Sum.inl b)=(a == b):=by
 by_cases e:a=b
 .subst e;simp
 .have h:¬ (Sum.inl a:Key)=Sum.inl b:=fun q=>e (Sum.inl.inj q);rw [decide_eq_false h];exact (beq_eq_false_iff_ne.mpr e).symm
theorem Cm(a b:Str):decide ((Sum.inr a:Key)=Sum.inr b)=decide (a=b):=by
 by_cases e:a=b
 .subst e;simp
 .have h:¬ (Sum.inr a:Key)=Sum.inr b:=fun q=>e (Sum.inr.inj q);rw [decide_eq_false h,decide_eq_false e]
theorem Cn(a:Int)(b:Str):decide ((Sum.inl a:Key)=Sum.inr b)=false:=decide_eq_false (fun q=>nomatch q)
theorem Co(a:Str)(b:Int):decide ((Sum.inr a:Key)=Sum.inl b)=false:=decide_eq_false (fun q=>nomatch q)
def nQ(prog:Program)(w:World):PySem.KeyKind prog w Key where
 is:=Cj
 hash:=Gm w
 inj:=fun v a b ha hb=>by
  rcases cM ha with ⟨i,t,rfl,rfl⟩|⟨x,t,rfl,rfl⟩
  .rcases cM hb with ⟨j,u,rfl,e⟩|⟨y,u,rfl,e⟩
   .injection e with e1 _;rw [e1]
   .exact nomatch e
  .rcases cM hb with ⟨j,u,rfl,e⟩|⟨y,u,rfl,e⟩
   .exact nomatch e
   .injection e with e1 _;rw [e1]
 byValue:=fun k v h=>by
  rcases cM h with ⟨i,t,rfl,rfl⟩|⟨x,t,rfl,rfl⟩ <;> rfl
 pyHash:=fun hv h=>by
  rcases cM hv with ⟨i,t,rfl,rfl⟩|⟨x,t,rfl,rfl⟩
  .exact wpAny_pyHash_int h
  .exact wpAny_pyHash_str h
 eqBool:=fun hu hv h=>by
  rcases cM hu with ⟨i,t,rfl,rfl⟩|⟨x,t,rfl,rfl⟩
  .rcases cM hv with ⟨j,u,rfl,rfl⟩|⟨y,u,rfl,rfl⟩
   .rw [Ck] at h;exact wpAny_eqBool_int h
   .rw [Cn] at h;exact SeqAt.EqAt.int_str i t y u _ _ _ _ h
  .rcases cM hv with ⟨j,u,rfl,rfl⟩|⟨y,u,rfl,rfl⟩
   .rw [Co] at h;exact SeqAt.EqAt.str_int x t j u _ _ _ _ h
   .rw [Cm] at h;exact wpAny_eqBool_str h
 «strs»:=fun k x t v h=>by
  rcases cM h with ⟨i,u,rfl,e⟩|⟨y,u,rfl,e⟩
  .exact nomatch e
  .injection e with e1 _;subst e1;cases v <;> rfl
inductive V where
 | non|bl (b:Bool)|int (i:Int)|str (x:Str)|byt (b:Array UInt8)|flt (b:UInt64)|ref (a:Addr)|ty (n:String)
 deriving DecidableEq
def ee:V->Value->Prop
 | .non,u=>u=Value.none
 | .bl b,u=>u=Value.bool b
 | .int i,u=>∃t,u=Value.int i t
 | .str x,u=>∃t,u=Value.str x t
 | .byt b,u=>∃t,u=Value.bytes b t
 | .flt b,u=>∃t,u=Value.float b t
 | .ref a,u=>u=Value.ref a
 | .ty n,u=>u=Value.type n
abbrev bY:List V->List Value->Prop:=Paired ee
theorem bY.length{xs:List V}{us:List Value}(r:bY xs us):xs.length=us.length:=Paired.length r
theorem bY.get:∀{xs:List V}{us:List Value}{i:Nat}{x:V},bY xs us->xs[i]?=some x->∃u,us[i]?=some u/\ee x u
 | _,_,_,_,.nil,e=>by simp at e
 | _,_,0,_,.cons r _,e=>by simp at e;subst e;exact⟨_,rfl,r⟩
 | _,_,i+1,x,.cons _ t,e=>by
  obtain⟨u,h1,h2⟩:=bY.get (i:=i) (x:=x) t (by simpa using e);exact⟨u,by simpa using h1,h2⟩
theorem bY.set{x:V}{u:Value}(r:ee x u):∀{xs:List V}{us:List Value} (i:Nat),bY xs us->bY (xs.set i x) (us.set i u)
 | _,_,_,.nil=>.nil
 | _,_,0,.cons _ t=>.cons r t
 | _,_,i+1,.cons q t=>.cons q (bY.set r i t)
theorem bY.append:∀{xs ys:List V}{us ws:List Value},bY xs us->bY ys ws->bY (xs++ys) (us++ws)
 | _,_,_,_,.nil,s=>s
 | _,_,_,_,.cons r t,s=>.cons r (bY.append t s)
theorem bY.take:∀{xs:List V}{us:List Value} (n:Nat),bY xs us->bY (xs.take n) (us.take n)
 | _,_,0,_=>.nil
 | _,_,_+1,.nil=>.nil
 | _,_,n+1,.cons r t=>.cons r (bY.take n t)
theorem bY.drop:∀{xs:List V}{us:List Value} (n:Nat),bY xs us->bY (xs.drop n) (us.drop n)
 | _,_,0,r=>r
 | _,_,_+1,.nil=>.nil
 | _,_,n+1,.cons _ t=>bY.drop n t
def xF:Option V->Option Value->Prop
 | some v,some u=>ee v u
 | none,none=>True
 | _,_=>False
def KV{κ:Type}:List (κ×V)->List (κ×Value)->Prop:=Paired fun (p:κ×V) (q:κ×Value)=>p.1=q.1/\ee p.2 q.2
def kV:Key->V
 | .inl i=>.int i
 | .inr x=>.str x
inductive HO where
 | lst (xs:List V)
 | tup (xs:List V)
 | dK (kvs:List (Key×V))|dT (kvs:List (List Key×V))
 | set (S:Int->Bool) (n:Nat)
 | ins (C dx:Addr) (fs:List (Str×V))
 | own (x:Addr)
 | xd (fs:List (Str×V))
 | met (f x:Addr)
 | rng (lo hi:Int)
 | frz (o:Obj) (u:HO)
 | tbl (ps:Array Value)
 | ext (φ:Heap->Prop)
abbrev Hp:=Addr->Option HO
def upd(H:Hp)(a:Addr)(o:HO):Hp:=fun b=>if b=a then some o else H b
theorem bv{H:Hp}{a:Addr}{o:HO}:upd H a o a=some o:=by unfold upd;rw [if_pos rfl]
theorem aM{H:Hp}{a b:Addr}{o:HO}(h:b≠a):upd H a o b=H b:=by unfold upd;rw [if_neg h]
theorem br{H:Hp}{a b:Addr}{o:HO}(h:H a=some o)(h':H b=none):a≠b:=by
 intro e;subst e;rw [h] at h';cases h'
section
variable (P:Program) (w:World)
def dy(H:Hp)(h:Heap)(a:Addr):HO->Prop
 | .lst xs=>xs.length<=sizeLine/\∃(its:List Value) (n:Nat),bY xs its/\h.get? a=some { cls:=.type "list",data:=.seq its.toArray n }
 | .tup xs=>xs.length<=sizeLine/\∃its:List Value,bY xs its/\IsTup h a its.toArray
 | .dK kvs=>kvs.length<=sizeLine/\(a == sysModules)=false/\∃vs,KV kvs vs/\h.DictOf (nQ P w) a vs
 | .dT kvs=>kvs.length<=sizeLine/\(a == sysModules)=false/\∃xs:List (List Key×Addr×Value),
   Paired (fun (p:List Key×V) (q:List Key×Addr×Value)=>p.1=q.1/\H q.2.1=some (.tup (p.1.map kV))/\ee p.2 q.2.2) kvs xs /\
   ∃o es ep,h.get? a=some o/\o.ExactDict/\o.data=.dict es ep/\es.toList=xs.map (entryOfKey (tupleKind (nQ P w)))/\(xs.map (·.1)).Nodup
 | .set S n=>h.SetOf (intKind P w) a S n
 | .ins C dx fs=>H dx=some (.own a)/\fs.length<=1000/\dx≠a/\h.get? a=some (PySem.W.instObj C dx) /\
   ∃mA,h.Ns1 dx mA/\(∀f,xF (fs.lookup f) (mA f))/\PySem.Within mA (fs.map (·.1))
 | .own _=>∃o,h.get? a=some o
 | .xd fs=>∃mA,h.Ns1 a mA/\∀f,xF (fs.lookup f) (mA f)
 | .rng lo hi=>∃t u v,h.get? a=some { cls:=.type "range",data:=.fields #[.int lo t,.int hi u,.int 1 v] }
 | .frz o u=>h.get? a=some o/\dy H h a u
 | .tbl ps=>h.get? a=some { cls:=.none,data:=.fields ps }
 | .met f x=>h.get? a=some (PySem.W.methodObj (.ref f) (.ref x))
 | .ext φ=>φ h/\(∃o,h.get? a=some o)/\∀h1 h2:Heap,φ h1->(∀o,h1.get? a=some o->h2.get? a=some o)->φ h2
def HOk(H:Hp)(h:Heap):Prop:=∀a o,H a=some o->dy P w H h a o
end
section
variable {P:Program}{w:World}{H H':Hp}{h h':Heap}{a:Addr}{o:HO}
theorem dy.lt(x:dy P w H h a o):a<h.objs.size:=by
 cases o with
 | lst xs=>obtain⟨_,_,_,_,e⟩:=x;exact Heap.lt_size e
 | tup xs=>obtain⟨_,_,_,p⟩:=x;exact p.lt
 | dK kvs=>obtain⟨_,_,_,_,o,_,_,e,_⟩:=x;exact Heap.lt_size e
 | dT kvs=>obtain⟨_,_,_,_,o,_,_,e,_⟩:=x;exact Heap.lt_size e
 | set S n=>obtain⟨o,_,_,_,e,_⟩:=x;exact Heap.lt_size e
 | ins C dx fs=>obtain⟨_,_,_,e,_⟩:=x;exact Heap.lt_size e
 | own y=>obtain⟨_,e⟩:=x;exact Heap.lt_size e
 | xd fs=>obtain⟨_,⟨_,_,_,e,_⟩,_⟩:=x;exact Heap.lt_size e
 | rng lo hi=>obtain⟨_,_,_,e⟩:=x;exact Heap.lt_size e
 | frz ob u=>obtain⟨e,_⟩:=x;exact Heap.lt_size e
 | tbl ps=>exact Heap.lt_size (show h.get? a=some _ from x)
 | met f y=>exact Heap.lt_size (show h.get? a=some _ from x)
 | ext φ=>obtain⟨_,⟨_,e⟩,_⟩:=x;exact Heap.lt_size e
theorem Paired.mapP{α β:Type}{F G:α->β->Prop}:∀{l₁:List α}{l₂:List β},Paired F l₁ l₂->(∀a b,F a b->G a b)->Paired G l₁ l₂
 | _,_,.nil,_=>.nil
 | _,_,.cons r t,f=>.cons (f _ _ r) (Paired.mapP t f)
theorem dy.stay(x:dy P w H h a o)(k:∀b u,(b=a\/H b=some (.own a))->h.get? b=some u->h'.get? b=some u)
  (ho:∀b,H b=some (.own a)->H' b=some (.own a)) (ht:∀b xs,H b=some (.tup xs)->H' b=some (.tup xs)):dy P w H' h' a o:=by
 induction o with
 | lst xs=>obtain⟨z,its,n,r,e⟩:=x;exact⟨z,its,n,r,k _ _ (.inl rfl) e⟩
 | tup xs=>obtain⟨z,its,r,ob,e,c⟩:=x;exact⟨z,its,r,ob,k _ _ (.inl rfl) e,c⟩
 | dK kvs=>obtain⟨z,y,vs,r,ob,es,ep,e,c⟩:=x;exact⟨z,y,vs,r,ob,es,ep,k _ _ (.inl rfl) e,c⟩
 | dT kvs =>
  obtain⟨z,y,xs,r,ob,es,ep,e,c⟩:=x;exact⟨z,y,xs,Paired.mapP r fun p q z=>⟨z.1,ht _ _ z.2.1,z.2.2⟩,ob,es,ep,k _ _ (.inl rfl) e,c⟩
 | set S n=>obtain⟨ob,es,ep,t,e,c⟩:=x;exact⟨ob,es,ep,t,k _ _ (.inl rfl) e,c⟩
 | ins C dx fs =>
  obtain⟨d,z,ne,e,mA,⟨od,es,ep,e2,c⟩,r⟩:=x;exact⟨ho _ d,z,ne,k _ _ (.inl rfl) e,mA,⟨od,es,ep,k _ _ (.inr d) e2,c⟩,r⟩
 | own y=>obtain⟨ob,e⟩:=x;exact⟨ob,k _ _ (.inl rfl) e⟩
 | xd fs=>obtain⟨mA,⟨od,es,ep,e,c⟩,r⟩:=x;exact⟨mA,⟨od,es,ep,k _ _ (.inl rfl) e,c⟩,r⟩
 | rng lo hi=>obtain⟨t,u,v,e⟩:=x;exact⟨t,u,v,k _ _ (.inl rfl) e⟩
 | frz ob u ih=>obtain⟨e,q⟩:=x;exact⟨k _ _ (.inl rfl) e,ih q⟩
 | tbl ps =>
  have e:h.get? a=some { cls:=.none,data:=.fields ps }:=x;show h'.get? a=some { cls:=.none,data:=.fields ps };exact k a _ (.inl rfl) e
 | met f y =>
  have e:h.get? a=some (PySem.W.methodObj (.ref f) (.ref y)):=x;show h'.get? a=some (PySem.W.methodObj (.ref f) (.ref y));exact k a _ (.inl rfl) e
 | ext φ=>obtain⟨p,⟨o,e⟩,st⟩:=x;exact⟨st _ _ p fun o q=>k _ _ (.inl rfl) q,⟨o,k _ _ (.inl rfl) e⟩,st⟩
theorem HOk.lt(x:HOk P w H h)(e:H a=some o):a<h.objs.size:=(x a o e).lt
theorem HOk.fresh(x:HOk P w H h)(e:h.objs.size<=a):H a=none:=by
 cases q:H a with
 | none=>rfl
 | some u=>exact absurd (lt_of_lt_of_le (x.lt q) e) (Nat.lt_irrefl _)
theorem HOk.kept(x:HOk P w H h)(k:∀b u,h.get? b=some u->h'.get? b=some u):HOk P w H h':=fun a o e =>
 (x a o e).stay (fun b u _ q=>k b u q) (fun _ q=>q) fun _ _ q=>q
theorem HOk.laid(x:HOk P w H h)(k:∀b u,h.get? b=some u->h'.get? b=some u)(hp:h.objs.size<=a)(new:dy P w (upd H a o) h' a o):HOk P w (upd H a o) h':=fun b u e=>by
 have hn:=x.fresh hp
 by_cases hb:b=a
 .subst hb;rw [bv] at e;cases e;exact new
 .rw [aM hb] at e;exact (x b u e).stay (fun c v _ q=>k c v q) (fun c q=>by rw [aM (br q hn)];exact q) fun c xs q=>by rw [aM (br q hn)];exact q
end
def Rd(H:Hp)(a:Addr)(u:HO):Prop:=H a=some u\/∃o,H a=some (.frz o u)
theorem Rd.ok{P:Program}{w:World}{H:Hp}{h:Heap}{a:Addr}{u:HO}(r:Rd H a u)(x:HOk P w H h):dy P w H h a u:=by
 rcases r with r|⟨o,r⟩
 .exact x a u r
 .obtain⟨_,q⟩:=x a _ r;exact q
def Mut:Option HO->Prop
 | some (.lst _)=>True
 | some (.dK _)=>True
 | some (.dT _)=>True
 | some (.set _ _)=>True
 | some (.ins _ _ _)=>True
 | some (.ext _)=>True
 | _=>False
section
variable {P:Program}{w:World}{H:Hp}{h h':Heap}{x e:Addr}{o':HO}
theorem HOk.write(ok:HOk P w H h)(mu:Mut (H x))(he:e=x\/H e=some (.own x))(k:∀b u,b≠e->h.get? b=some u->h'.get? b=some u)(heo:∃u,h'.get? e=some u)
  (new:dy P w (upd H x o') h' x o'):HOk P w (upd H x o') h':=fun b u q=>by
 have nown:∀c y,H c=some (.own y)->c≠x:=fun c y r z=>by subst z;rw [r] at mu;exact mu
 have ntup:∀c xs,H c=some (.tup xs)->c≠x:=fun c xs r z=>by subst z;rw [r] at mu;exact mu
 by_cases hb:b=x
 .subst hb;rw [bv] at q;cases q;exact new
 .rw [aM hb] at q
  by_cases hbe:b=e
  .have q':H b=some (.own x):=by
    rcases he with z|z
    .exact absurd (hbe.trans z) hb
    .rw [hbe];exact z
   rw [q] at q';cases q';obtain⟨v,hv⟩:=heo;exact⟨v,by rw [hbe];exact hv⟩
  .refine (ok b u q).stay (fun c v hc r=>k c v ?_ r) (fun c r=>by rw [aM (nown c b r)];exact r) fun c xs r=>by rw [aM (ntup c xs r)];exact r
   rcases hc with rfl|hc
   .exact hbe
   .rintro rfl
    rcases he with z|z
    .exact nown c b hc z
    .rw [hc] at z;cases z;exact hb rfl
end
structure Un (fs ex:List Addr) (H H':Hp) (h h':Heap):Prop where
 keep:∀b o,h.get? b=some o->H b=none->b∉fs->b∉ex->h'.get? b=some o
 slot:∀b o,h.get? b=some o->H b=none->b∈fs->b∉ex->∃sl,h'.get? b=some { o with slots:=sl }
 free:∀b o,h.get? b=some o->H b=none->b∉ex->H' b=none
 there:∀b o,h.get? b=some o->b∉ex->∃o',h'.get? b=some o'
 tups:∀b xs,H b=some (.tup xs)->H' b=some (.tup xs)
 frzs:∀b o u,H b=some (.frz o u)->H' b=some (.frz o u)
 tbls:∀b ps,H b=some (.tbl ps)->∃more,H' b=some (.tbl (ps++more))
section
variable {fs fs' ex ex':List Addr}{H H1 H2:Hp}{h h1 h2 h':Heap}{a x e:Addr}{o:HO}
theorem Un.any(u:Un fs ex H H1 h h1){b:Addr}{ob:Obj}(q:h.get? b=some ob)(n:H b=none)(hx:b∉ex):∃sl,h1.get? b=some { ob with slots:=sl }:=by
 by_cases hb:b∈fs
 .exact u.slot b ob q n hb hx
 .exact⟨ob.slots,u.keep b ob q n hb hx⟩
theorem Un.kept(k:∀b u,h.get? b=some u->h'.get? b=some u):Un fs ex H H h h' :=
 ⟨fun b ob q _ _ _=>k b ob q,fun b ob q _ _ _=>⟨ob.slots,k b ob q⟩,fun _ _ _ n _=>n,fun b ob q _=>⟨ob,k b ob q⟩,fun _ _ q=>q,fun _ _ _ q=>q,fun _ ps q=>⟨#[],by rw [q];simp⟩⟩
theorem Un.refl:Un fs ex H H h h:=Un.kept fun _ _ q=>q
theorem Un.laid(k:∀b u,h.get? b=some u->h'.get? b=some u)(hp:h.objs.size<=a)(hn:H a=none):Un fs ex H (upd H a o) h h' where
 keep:=fun b u q _ _ _=>k b u q
 slot:=fun b u q _ _ _=>⟨u.slots,k b u q⟩
 free:=fun b u q n _=>by rw [aM (ne_of_lt (lt_of_lt_of_le (Heap.lt_size q) hp))];exact n
 there:=fun b u q _=>⟨u,k b u q⟩
 tups:=fun b xs q=>by rw [aM (br q hn)];exact q
 frzs:=fun b u xs q=>by rw [aM (br q hn)];exact q
 tbls:=fun b ps q=>⟨#[],by rw [aM (br q hn),q];simp⟩
theorem Un.write(mu:Mut (H x))(he:e=x\/H e=some (.own x))(k:∀b u,b≠e->h.get? b=some u->h'.get? b=some u)(heo:∃u,h'.get? e=some u):Un fs ex H (upd H x o) h h':=by
 have hx:∀b,H b=none->b≠x:=fun b n z=>by subst z;rw [n] at mu;exact mu
 have hb:∀b,H b=none->b≠e:=fun b n z=>by
  subst z
  rcases he with r|r
  .exact hx b n r
  .rw [n] at r;cases r
 have hm:∀b u,H b=some u->¬ Mut (some u)->b≠x:=fun b u q nm z=>by subst z;rw [q] at mu;exact nm mu
 refine⟨fun b u q n _ _=>k b u (hb b n) q,fun b u q n _ _=>⟨u.slots,k b u (hb b n) q⟩,fun b u q n _=>by rw [aM (hx b n)];exact n,fun b u q _=>?_,
  fun b xs q=>by rw [aM (hm b _ q fun z=>z)];exact q,fun b u xs q=>by rw [aM (hm b _ q fun z=>z)];exact q,fun b ps q=>⟨#[],by rw [aM (hm b _ q fun z=>z),q];simp⟩⟩
 by_cases hbe:b=e
 .subst hbe;exact heo
 .exact⟨u,k b u hbe q⟩
end
def trk(h:Heap)(H:Hp):List Addr:=(List.range h.objs.size).filter fun a=>(H a).isSome
def xO(h:Heap)(H:Hp):Heap:=PySem.W.hideAll h (trk h H)
theorem vf(h:Heap)(H:Hp):(xO h H).objs.size=h.objs.size:=PySem.W.hideAll_size _ _
theorem xP{h:Heap}{H:Hp}{b:Addr}{o:Obj}(e:h.get? b=some o)(n:H b=none):(xO h H).get? b=some o :=
 PySem.W.hideAll_get _ e fun hm=>by
  have q:(H b).isSome=true:=(mem_filter.mp hm).2;rw [n] at q;simp at q
theorem Am{h:Heap}{H:Hp}{b:Addr}{o:Obj}(e:(xO h H).get? b=some o):h.get? b=some o/\H b=none:=by
 have e':h.get? b=some o:=PySem.W.of_hideAll (trk h H) e;refine⟨e',?_⟩
 cases q:H b with
 | none=>rfl
 | some x =>
  have hm:b∈trk h H:=mem_filter.mpr ⟨mem_range.mpr (Heap.lt_size e'),by simp [q]⟩;have z:(xO h H).get? b=none:=PySem.W.hideAll_none (trk h H) hm;rw [z] at e;cases e
structure Mod (K:PySem.W.Frag) (mg:Str->Option Value) (base:Heap):Prop where
 kin:K.In base
 glob:base.Ns mainGlobals mg
 blt:∃mb,base.Ns builtinsNs mb/\∀x:Str,x≠"__name__"->mb x=bootBuiltins x
 nolimit:base.NoLimit
structure Cx where
 prog:Program
 w:World
 K:PySem.W.Frag
 mg:Str->Option Value
 base:Heap
 A:Around
 N:List Str
 s₀:Shared
 H₀:Hp
 env:Env
 outer:List Env
 stack:List Env
 ex:List Addr
 fn:Str->Bool
 calm:Bool
 pn:List (Addr×Obj)
 xe:Value->Shared->Prop
def frs(l:List Env):List Addr:=l.filterMap (·.frame)
abbrev Cx.fs(X:Cx):List Addr:=frs X.outer
def Vis(sc:Scope)(x:Str):Prop:=sc.names.lookup x=some .local\/sc.names.lookup x=some .cell\/sc.names.lookup x=some .free
def Loc(sc:Scope)(x:Str):Prop:=sc.names.lookup x=some .local\/sc.names.lookup x=some .cell
def Gn(env:Env)(h:Heap)(m:Str->Option Value)(x:Str)(u:Value):Prop :=
 (env.kindOf x=some .local/\m x=some u)\/((env.kindOf x=some .cell\/env.kindOf x=some .free)/\∃c,env.cells.lookup x=some c/\h.IsCell c (some u))
structure Cx.Ok (X:Cx):Prop where
 mod:Mod X.K X.mg X.base
 kind:X.env.scope.kind=.function
 glob:X.env.globals=mainGlobals
 blt:X.env.builtins=builtinsNs
 above:X.s₀.heap.objs.size<=X.env.locals
 inj:∀x y c,X.env.cells.lookup x=some c->X.env.cells.lookup y=some c->x=y
 has:∀x,(X.env.kindOf x=some .cell\/X.env.kindOf x=some .free)->∃c,X.env.cells.lookup x=some c
 cab:∀x c,X.fn x=true->X.env.cells.lookup x=some c->X.s₀.heap.objs.size<=c
 hd:X.calm=true->X.A.handled=none
 frames:X.A.frames=some X.stack
 stk:X.stack=X.outer\/(X.stack=X.env::X.outer/\X.env.frame=some X.env.locals)
 exf:∀b∈X.ex,b≠X.env.locals/\∀x c,X.env.cells.lookup x=some c->c≠b
 bs:∀b o,X.base.get? b=some o->X.s₀.heap.get? b=some o/\X.H₀ b=none
 bsz:X.base.objs.size<=X.s₀.heap.objs.size
 noex:∀b o,X.base.get? b=some o->b∉X.ex
 exfs:∀b∈X.ex,b∉X.fs
 funs:X.s₀.heap.FunFrames X.base X.outer
 frf:∀b∈X.fs,X.H₀ b=none
structure Inv (X:Cx) (pins:List (Addr×Obj)) (σ:List (Option V)) (H:Hp) (s:Shared):Prop where
 ok:X.Ok
 os:s.os=X.s₀.os
 bare:AllBare s.gens
 base:Un X.fs X.ex X.H₀ H X.s₀.heap s.heap
 loc:∃m,s.heap.Ns X.env.locals m/\∀(i:Nat) (x:Str) (v:V),X.N[i]?=some x->σ[i]?=some (some v)->Vis X.env.scope x->∃u,ee v u/\Gn X.env s.heap m x u
 cell:∀x c,X.env.cells.lookup x=some c->∃v,s.heap.IsCell c v
 free:H X.env.locals=none
 freeC:∀x c,X.env.cells.lookup x=some c->H c=none
 pin:∀p∈X.pn++pins,s.heap.get? p.1=some p.2/\H p.1=none/\p.1≠X.env.locals/\p.1∉X.fs/\∀v,p.2.data≠.cell v
 hok:HOk X.prog X.w H s.heap
 len:σ.length=X.N.length
section
variable {X:Cx}{pins:List (Addr×Obj)}{σ:List (Option V)}{H H':Hp}{s:Shared}{h':Heap}
theorem Cx.Ok.nofr(ok:X.Ok){b:Addr}{o:Obj}(e:X.base.get? b=some o):b∉X.fs:=fun hb=>by
 have:=(ok.funs.mem hb).1;rw [e] at this;cases this
theorem Inv.bs(I:Inv X pins σ H s):∀b o,X.base.get? b=some o->s.heap.get? b=some o/\H b=none:=fun b o e =>
 ⟨I.base.keep b o (I.ok.bs b o e).1 (I.ok.bs b o e).2 (I.ok.nofr e) (I.ok.noex b o e),I.base.free b o (I.ok.bs b o e).1 (I.ok.bs b o e).2 (I.ok.noex b o e)⟩
theorem Inv.bk(I:Inv X pins σ H s):∀b o,X.base.get? b=some o->s.heap.get? b=some o:=fun b o e=>(I.bs b o e).1
theorem Inv.mod(I:Inv X pins σ H s):Mod X.K X.mg X.base:=I.ok.mod
theorem Inv.kIn(I:Inv X pins σ H s):X.K.In s.heap:=I.ok.mod.kin.keeps I.bk
theorem Inv.lt(I:Inv X pins σ H s):X.env.locals<s.heap.objs.size:=let ⟨_,hn,_⟩:=I.loc;hn.lt
theorem Inv.sz(I:Inv X pins σ H s):X.s₀.heap.objs.size<=s.heap.objs.size:=Nat.le_trans I.ok.above (le_of_lt I.lt)
theorem Inv.nofs(I:Inv X pins σ H s){a:Addr}(h:s.heap.objs.size<=a):a∉X.fs:=fun hb=>by
 obtain⟨_,o,ho,_⟩:=I.ok.funs.mem hb;exact absurd (lt_of_lt_of_le (Heap.lt_size ho) (Nat.le_trans I.sz h)) (Nat.lt_irrefl _)
theorem Inv.cne(I:Inv X pins σ H s):∀x c,X.env.cells.lookup x=some c->c≠X.env.locals:=fun x c e z=>by
 obtain⟨v,o,ho,hd⟩:=I.cell x c e;obtain⟨m,⟨o',es,ep,ho',hd',_⟩,_⟩:=I.loc;rw [z,ho'] at ho;cases ho;rw [hd'] at hd;cases hd
theorem Inv.funs(I:Inv X pins σ H s):s.heap.FunFrames X.base X.outer:=by
 have all:∀(l:List Env),(∀b∈frs l,b∈X.fs)->X.s₀.heap.FunFrames X.base l->s.heap.FunFrames X.base l:=by
  intro l
  induction l with
  | nil=>intro _ _;trivial
  | cons env r ih =>
   intro hs hl;obtain⟨hk,⟨L,o,hf,hn,ho,hd⟩,hr⟩:=hl;have hL:L∈X.fs:=hs L (by unfold frs;rw [filterMap_cons,hf];exact mem_cons_self);obtain⟨sl,e⟩:=I.base.slot L o ho (I.ok.frf L hL) hL fun z=>I.ok.exfs L z hL;exact⟨hk,⟨L,_,hf,hn,e,hd⟩,ih (fun b hb=>hs b (by unfold frs;rw [filterMap_cons,hf];exact mem_cons_of_mem _ hb)) hr⟩
 exact all X.outer (fun _ hb=>hb) I.ok.funs
theorem Inv.stack(I:Inv X pins σ H s):s.heap.FunFrames X.base X.stack:=by
 rcases I.ok.stk with e|⟨e,hf⟩
 .rw [e];exact I.funs
 .rw [e];obtain⟨m,hn,_⟩:=I.loc;refine .cons (by rw [I.ok.kind];decide) hf hn ?_ I.funs;exact Heap.get?_none_of_le (Nat.le_trans I.ok.bsz I.ok.above)
theorem Inv.stkSub(I:Inv X pins σ H s):∀b∈frs X.stack,b∈X.env.locals::X.fs:=fun b hb=>by
 rcases I.ok.stk with e|⟨e,hf⟩
 .rw [e] at hb;exact mem_cons_of_mem _ hb
 .rw [e] at hb;unfold frs at hb;rw [filterMap_cons,hf] at hb;exact hb
theorem Inv.stkFree(I:Inv X pins σ H s):∀b∈frs X.stack,H b=none:=fun b hb=>by
 rcases mem_cons.mp (I.stkSub b hb) with e|hb
 .rw [e];exact I.free
 .obtain⟨_,o,ho,_⟩:=I.ok.funs.mem hb;exact I.base.free b o ho (I.ok.frf b hb) fun z=>I.ok.exfs b z hb
theorem Inv.step{g':Array GenState}{t':Nat}{d':Drawn}{ch:List Addr}(I:Inv X pins σ H s)
  (hch:∀b∈ch,(b∈X.ex\/X.s₀.heap.objs.size<=b)/\b≠X.env.locals/\(∀x c,X.env.cells.lookup x=some c->c≠b)/\∀p∈X.pn++pins,p.1≠b)
  (keep:∀b o,b≠X.env.locals->b∉X.fs->b∉ch->s.heap.get? b=some o->H b=none->h'.get? b=some o)
  (slot:∀b o,b≠X.env.locals->b∈X.fs->b∉ch->s.heap.get? b=some o->H b=none->∃sl,h'.get? b=some { o with slots:=sl }) (free:∀b o,b∉ch->s.heap.get? b=some o->H b=none->H' b=none)
  (there:∀b o,b∉ch->s.heap.get? b=some o->∃o',h'.get? b=some o')
  (tups:∀b xs,H b=some (.tup xs)->H' b=some (.tup xs)) (frzs:∀b o u,H b=some (.frz o u)->H' b=some (.frz o u)) (tbls:∀b ps,H b=some (.tbl ps)->∃more,H' b=some (.tbl (ps++more)))
  (ns:∀m,s.heap.Ns X.env.locals m->h'.Ns X.env.locals m) (hok:HOk X.prog X.w H' h') (hg:AllBare g') :
  Inv X pins σ H' { s with heap:=h',gens:=g',drawn:=d',toks:=t' }:=by
 have neL:∀b o,X.s₀.heap.get? b=some o->b≠X.env.locals:=fun b o e=>ne_of_lt (lt_of_lt_of_le (Heap.lt_size e) I.ok.above)
 have neC:∀b o,X.s₀.heap.get? b=some o->b∉X.ex->b∉ch:=fun b o e hx hb=>by
  rcases (hch b hb).1 with z|z
  .exact hx z
  .exact absurd (lt_of_lt_of_le (Heap.lt_size e) z) (Nat.lt_irrefl _)
 have cellK:∀x c,X.env.cells.lookup x=some c->∀v,s.heap.IsCell c v->h'.IsCell c v:=fun x c e v ⟨o,ho,hd⟩=>by
  have nch:c∉ch:=fun z=>(hch c z).2.2.1 x c e rfl
  by_cases hc:c∈X.fs
  .obtain⟨sl,q⟩:=slot c o (I.cne x c e) hc nch ho (I.freeC x c e);exact⟨_,q,hd⟩
  .exact⟨o,keep c o (I.cne x c e) hc nch ho (I.freeC x c e),hd⟩
 refine⟨I.ok,I.os,hg,⟨fun b o e n hb hx=>?_,fun b o e n hb hx=>?_,fun b o e n hx=>?_,fun b o e hx=>?_,fun b xs e=>tups b xs (I.base.tups b xs e),fun b o xs e=>frzs b o xs (I.base.frzs b o xs e),fun b ps e=>?_⟩,?_,fun x c e=>?_,?_,fun x c e=>?_,fun p hp=>?_,hok,I.len⟩
 .exact keep b o (neL b o e) hb (neC b o e hx) (I.base.keep b o e n hb hx) (I.base.free b o e n hx)
 .obtain⟨sl,e1⟩:=I.base.slot b o e n hb hx;obtain⟨sl',e2⟩:=slot b _ (neL b o e) hb (neC b o e hx) e1 (I.base.free b o e n hx);exact⟨sl',e2⟩
 .obtain⟨o',e1⟩:=I.base.there b o e hx;exact free b o' (neC b o e hx) e1 (I.base.free b o e n hx)
 .obtain⟨o',e1⟩:=I.base.there b o e hx;exact there b o' (neC b o e hx) e1
 .obtain⟨m1,e1⟩:=I.base.tbls b ps e;obtain⟨m2,e2⟩:=tbls b _ e1;exact⟨m1++m2,by rw [e2,Array.append_assoc]⟩
 .obtain⟨m,hn,hl⟩:=I.loc;refine⟨m,ns m hn,fun i x v e1 e2 e3=>?_⟩;obtain⟨u,r,l⟩:=hl i x v e1 e2 e3;refine⟨u,r,?_⟩
  rcases l with l|⟨k,c,e,z⟩
  .exact .inl l
  .exact .inr ⟨k,c,e,cellK x c e _ z⟩
 .obtain⟨v,z⟩:=I.cell x c e;exact⟨v,cellK x c e v z⟩
 .obtain⟨m,⟨o,_,_,ho,_⟩,_⟩:=I.loc;exact free _ o (fun z=>(hch _ z).2.1 rfl) ho I.free
 .obtain⟨v,o,ho,hd⟩:=I.cell x c e;exact free c o (fun z=>(hch c z).2.2.1 x c e rfl) ho (I.freeC x c e)
 .obtain⟨e,n,ne,nf,d⟩:=I.pin p hp;have nch:p.1∉ch:=fun z=>(hch p.1 z).2.2.2 p hp rfl;exact⟨keep p.1 p.2 ne nf nch e n,free p.1 p.2 nch e n,ne,nf,d⟩
theorem Inv.un{t':Nat}(I:Inv X pins σ H s)(u:Un X.fs [] H H' s.heap h')(hok:HOk X.prog X.w H' h'):Inv X pins σ H' { s with heap:=h',toks:=t' }:=by
 obtain⟨m,⟨o,es,ep,ho,r⟩,_⟩:=id I.loc;obtain⟨sl,hL⟩:=u.any ho I.free (by simp)
 exact I.step (g':=s.gens) (d':=s.drawn) (ch:=[]) (fun _ z=>nomatch z) (fun b o _ hb _ e n=>u.keep b o e n hb (by simp)) (fun b o _ hb _ e n=>u.slot b o e n hb (by simp)) (fun b o _ e n=>u.free b o e n (by simp)) (fun b o _ e=>u.there b o e (by simp)) u.tups u.frzs u.tbls (fun m' hm=>by
  obtain⟨o',es',ep',ho',r'⟩:=hm;rw [ho] at ho';cases ho';exact⟨_,es',ep',hL,r'⟩) hok I.bare
theorem Inv.call{g':Array GenState}{t':Nat}{d':Drawn}{ch:List Addr}(I:Inv X pins σ H s)(u:Un (frs X.stack) ch H H' s.heap h')(hok:HOk X.prog X.w H' h')(hg:AllBare g')
  (hch:∀b∈ch,(b∈X.ex\/X.s₀.heap.objs.size<=b)/\b≠X.env.locals/\(∀x c,X.env.cells.lookup x=some c->c≠b)/\∀p∈X.pn++pins,p.1≠b) :
  Inv X pins σ H' { s with heap:=h',gens:=g',drawn:=d',toks:=t' }:=by
 obtain⟨m,⟨o,es,ep,ho,r⟩,_⟩:=id I.loc;obtain⟨sl,hL⟩:=u.any ho I.free fun z=>(hch _ z).2.1 rfl
 exact I.step (ch:=ch) hch (fun b o hL hb hc e n=>u.keep b o e n (fun z=>(mem_cons.mp (I.stkSub b z)).elim hL hb) hc) (fun b o _ _ hc e n=>u.any e n hc) (fun b o hc e n=>u.free b o e n hc) (fun b o hc e=>u.there b o e hc) u.tups u.frzs u.tbls (fun m' hm=>by
  obtain⟨o',es',ep',ho',r'⟩:=hm;rw [ho] at ho';cases ho';exact⟨_,es',ep',hL,r'⟩) hok hg
theorem Inv.turned{t':Nat}{it:Addr}(I:Inv X pins σ H s)(k:∀b o,b≠it->s.heap.get? b=some o->h'.get? b=some o)(hn:H it=none)(hL:it≠X.env.locals)
  (h1:it∈X.ex\/X.s₀.heap.objs.size<=it) (h2:∀x c,X.env.cells.lookup x=some c->c≠it) (h3:∀p∈X.pn++pins,p.1≠it):Inv X pins σ H { s with heap:=h',toks:=t' }:=by
 have nit:∀b u,H b=some u->b≠it:=fun b u e z=>by rw [z,hn] at e;cases e
 refine I.step (g':=s.gens) (d':=s.drawn) (ch:=[it]) (fun b hb=>?_) (fun b o _ _ hc e _=>k b o (fun z=>hc (by simp [z])) e) (fun b o _ _ hc e _=>⟨o.slots,k b o (fun z=>hc (by simp [z])) e⟩) (fun _ _ _ _ n=>n)
  (fun b o hc e=>⟨o,k b o (fun z=>hc (by simp [z])) e⟩) (fun _ _ e=>e) (fun _ _ _ e=>e) (fun b ps e=>⟨#[],by rw [e];simp⟩) (fun m hm=>?_) (fun b u e=>?_) I.bare
 .have e:b=it:=by simpa using hb
  subst e;exact⟨h1,hL,h2,h3⟩
 .obtain⟨o,es,ep,ho,r⟩:=hm;exact⟨o,es,ep,k _ o (Ne.symm hL) ho,r⟩
 .refine (I.hok b u e).stay (fun c v hc q=>k c v ?_ q) (fun _ q=>q) fun _ _ q=>q
  rcases hc with z|z
  .rw [z];exact nit b u e
  .exact nit c _ z
theorem Inv.tok(I:Inv X pins σ H s)(t:Nat):Inv X pins σ H { s with toks:=t }:=I.un (h':=s.heap) (t':=t) Un.refl I.hok
theorem Inv.kept{t':Nat}(I:Inv X pins σ H s)(k:∀b u,s.heap.get? b=some u->h'.get? b=some u):Inv X pins σ H { s with heap:=h',toks:=t' }:=I.un (Un.kept k) (I.hok.kept k)
theorem Inv.laid{a:Addr}{o:HO}{t':Nat}(I:Inv X pins σ H s)(k:∀b u,s.heap.get? b=some u->h'.get? b=some u)(hp:s.heap.objs.size<=a)(new:dy X.prog X.w (upd H a o) h' a o) :
  Inv X pins σ (upd H a o) { s with heap:=h',toks:=t' }:=I.un (Un.laid k hp (I.hok.fresh hp)) (I.hok.laid k hp new)
theorem Inv.write{x e:Addr}{o:HO}{t':Nat}(I:Inv X pins σ H s)(mu:Mut (H x))(he:e=x\/H e=some (.own x))(k:∀b u,b≠e->s.heap.get? b=some u->h'.get? b=some u)(heo:∃u,h'.get? e=some u)
  (new:dy X.prog X.w (upd H x o) h' x o):Inv X pins σ (upd H x o) { s with heap:=h',toks:=t' }:=I.un (Un.write mu he k heo) (I.hok.write mu he k heo new)
theorem Inv.pins_of{pins':List (Addr×Obj)}(I:Inv X pins σ H s)(h:∀p∈pins',s.heap.get? p.1=some p.2/\H p.1=none/\p.1≠X.env.locals/\p.1∉X.fs/\∀v,p.2.data≠.cell v):Inv X pins' σ H s :=
 ⟨I.ok,I.os,I.bare,I.base,I.loc,I.cell,I.free,I.freeC,fun p hp=>(mem_append.mp hp).elim (fun z=>I.pin p (mem_append_left _ z)) (h p),I.hok,I.len⟩
theorem sQ{N:List Str}(hN:N.Nodup){i j:Nat}{x:Str}(a:N[i]?=some x)(b:N[j]?=some x):i=j:=by
 obtain⟨h1,e1⟩:=List.getElem?_eq_some_iff.mp a;obtain⟨h2,e2⟩:=List.getElem?_eq_some_iff.mp b;exact (getElem_inj hN).mp (e1.trans e2.symm)
theorem vg{M:Model}{A:Around}{E:Value->Shared->Prop}{i:Nat}{x:Str}{v:V}{u:Value}{Q:Unit->Shared->Prop}(I:Inv X pins σ H s)(hN:X.N.Nodup)(hi:X.N[i]?=some x)(hx:Loc X.env.scope x)(r:ee v u)
  (h:∀s',Inv X pins (σ.set i (some v)) H s'->(∃a,Heap.SameBut a s.heap s'.heap/\(a=X.env.locals\/X.env.cells.lookup x=some a))->Q () s') (hf:X.fn x=true\/X.env.scope.names.lookup x=some .local:=by first|exact .inl rfl|exact .inr rfl|assumption):wpAny M A (storeName X.env x u) Q E s:=by
 obtain⟨m,hn,hl⟩:=id I.loc;have hcls:(X.env.scope.kind == .class || (X.env.scope.kind == .module && X.env.locals != X.env.globals))=false:=by rw [I.ok.kind];rfl
 have hiσ:i<σ.length:=by rw [I.len];exact (List.getElem?_eq_some_iff.mp hi).1
 have cne:=I.cne
 have tracked:∀{a:Addr}{h':Heap},(∃o,s.heap.get? a=some o/\H a=none)->Heap.SameBut a s.heap h'->HOk X.prog X.w H h':=fun {a h'} ha hs b ob e=>by
  obtain⟨_,_,hfree⟩:=ha;refine (I.hok b ob e).stay (fun c w' hc q=>(hs.2 c ?_).trans q) (fun _ q=>q) fun _ _ q=>q;rintro rfl
  rcases hc with rfl|hc
  .rw [hfree] at e;cases e
  .rw [hfree] at hc;cases hc
 rcases hx with hk|hk
 .refine wpAny_storeName_local hk hn (fun h' hn' hs=>?_) hcls;obtain⟨oL,_,_,hoL,_⟩:=id hn
  refine h _ ⟨I.ok,I.os,I.bare,⟨fun b o e n hb hx=>?_,fun b o e n hb hx=>?_,I.base.free,fun b o e hx=>?_,I.base.tups,I.base.frzs,I.base.tbls⟩,⟨_,hn',fun j y v' e1 e2 e3=>?_⟩,fun y c e=>?_,I.free,I.freeC,fun p hp=>?_,tracked ⟨oL,hoL,I.free⟩ hs,by simpa using I.len⟩ ⟨_,hs,.inl rfl⟩
  .exact (hs.2 b (ne_of_lt (lt_of_lt_of_le (Heap.lt_size e) I.ok.above))).trans (I.base.keep b o e n hb hx)
  .obtain⟨sl,e1⟩:=I.base.slot b o e n hb hx;exact⟨sl,(hs.2 b (ne_of_lt (lt_of_lt_of_le (Heap.lt_size e) I.ok.above))).trans e1⟩
  .obtain⟨o',e1⟩:=I.base.there b o e hx;exact⟨o',(hs.2 b (ne_of_lt (lt_of_lt_of_le (Heap.lt_size e) I.ok.above))).trans e1⟩
  .by_cases hj:j=i
   .subst hj;rw [hi] at e1;cases e1;rw [getElem?_set_self hiσ] at e2;cases e2;exact⟨u,r,.inl ⟨hk,by simp⟩⟩
   .rw [getElem?_set_ne (Ne.symm hj)] at e2;obtain⟨u',r',q⟩:=hl j y v' e1 e2 e3;refine⟨u',r',?_⟩
    rcases q with ⟨k,e⟩|⟨k,c,e,z⟩
    .refine .inl ⟨k,?_⟩;have:y≠x:=fun e=>hj (sQ hN e1 (e ▸ hi));simp [this,e]
    .exact .inr ⟨k,c,e,z.sameBut hs (cne y c e)⟩
  .obtain⟨w',z⟩:=I.cell y c e;exact⟨w',z.sameBut hs (cne y c e)⟩
  .obtain⟨e,n,ne,nf,d⟩:=I.pin p hp;exact⟨(hs.2 p.1 ne).trans e,n,ne,nf,d⟩
 .have hfn:X.fn x=true:=by
   rcases hf with z|z
   .exact z
   .rw [z] at hk;cases hk
  obtain⟨c,hc⟩:=I.ok.has x (.inl hk);obtain⟨w',z⟩:=I.cell x c hc;refine wpAny_storeName_cell I.ok.kind hk hc z (fun h' hc' hs=>?_);obtain⟨oc,hoc,hocd⟩:=id z
  refine h { s with heap:=h' } ⟨I.ok,I.os,I.bare,⟨fun b o e n hb hx=>?_,fun b o e n hb hx=>?_,I.base.free,fun b o e hx=>?_,I.base.tups,I.base.frzs,I.base.tbls⟩,⟨m,hn.sameBut hs (Ne.symm (cne x c hc)),fun j y v' e1 e2 e3=>?_⟩,fun y c' e=>?_,I.free,I.freeC,fun p hp=>?_,tracked ⟨oc,hoc,I.freeC x c hc⟩ hs,by simpa using I.len⟩ ⟨c,hs,.inr hc⟩
  .exact (hs.2 b (ne_of_lt (lt_of_lt_of_le (Heap.lt_size e) (I.ok.cab x c hfn hc)))).trans (I.base.keep b o e n hb hx)
  .obtain⟨sl,e1⟩:=I.base.slot b o e n hb hx;exact⟨sl,(hs.2 b (ne_of_lt (lt_of_lt_of_le (Heap.lt_size e) (I.ok.cab x c hfn hc)))).trans e1⟩
  .obtain⟨o',e1⟩:=I.base.there b o e hx;exact⟨o',(hs.2 b (ne_of_lt (lt_of_lt_of_le (Heap.lt_size e) (I.ok.cab x c hfn hc)))).trans e1⟩
  .by_cases hj:j=i
   .subst hj;rw [hi] at e1;cases e1;rw [getElem?_set_self hiσ] at e2;cases e2;exact⟨u,r,.inr ⟨.inl hk,c,hc,hc'⟩⟩
   .rw [getElem?_set_ne (Ne.symm hj)] at e2;obtain⟨u',r',q⟩:=hl j y v' e1 e2 e3;refine⟨u',r',?_⟩
    rcases q with q|⟨k,c',e,z'⟩
    .exact .inl q
    .refine .inr ⟨k,c',e,z'.sameBut hs ?_⟩;rintro rfl;exact hj (sQ hN e1 (I.ok.inj _ _ _ e hc ▸ hi))
  .by_cases hcc:c'=c
   .subst hcc;exact⟨_,hc'⟩
   .obtain⟨w2,z2⟩:=I.cell y c' e;exact⟨w2,z2.sameBut hs hcc⟩
  .obtain⟨e,n,ne,nf,d⟩:=I.pin p hp;refine⟨(hs.2 p.1 ?_).trans e,n,ne,nf,d⟩;intro q;rw [q,hoc] at e;have q':oc=p.2:=Option.some.inj e;exact d w' (by rw [<- q'];exact hocd)
theorem nR{M:Model}{A:Around}{E:Value->Shared->Prop}{i:Nat}{x:Str}{v:V}{u:Value}{Q:Unit->Shared->Prop}(I:Inv X pins σ H s)(hN:X.N.Nodup)(hi:X.N[i]?=some x)(hx:Loc X.env.scope x)(r:ee v u)
  (h:∀s',Inv X pins (σ.set i (some v)) H s'->Q () s') (hf:X.fn x=true\/X.env.scope.names.lookup x=some .local:=by first|exact .inl rfl|exact .inr rfl|assumption):wpAny M A (storeName X.env x u) Q E s :=
 vg I hN hi hx r (fun s' I' _=>h s' I') hf
theorem Inv.call'{s':Shared}{ch:List Addr}(I:Inv X pins σ H s)(ho:s'.os=s.os)(u:Un (frs X.stack) ch H H' s.heap s'.heap)(hok:HOk X.prog X.w H' s'.heap)(hg:AllBare s'.gens)
  (hch:∀b∈ch,(b∈X.ex\/X.s₀.heap.objs.size<=b)/\b≠X.env.locals/\(∀x c,X.env.cells.lookup x=some c->c≠b)/\∀p∈X.pn++pins,p.1≠b):Inv X pins σ H' s':=by
 obtain⟨h',g',d',t',o'⟩:=s';have e:o'=s.os:=ho;subst e;exact I.call (g':=g') (t':=t') (d':=d') u hok hg hch
end
abbrev XK:=Value->Option Addr->Hp->Prop
abbrev St:=List (Option V)
abbrev VK:=V->Hp->Prop
abbrev TE:=St->Hp->VK->Prop
abbrev TT:=St->Hp->(Bool->Hp->Prop)->Prop
abbrev TA:=St->Hp->(List V->Hp->Prop)->Prop
structure B6 where
 nx:St->Hp->Prop
 rt:VK
 bk:St->Hp->Prop:=fun _ _=>False
 ct:St->Hp->Prop:=fun _ _=>False
abbrev TS:=B6->St->Hp->Prop
def EP(X:Cx)(pins:List (Addr×Obj))(σ:St)(Q:VK)(u:Value)(s':Shared):Prop:=∃v H',Inv X pins σ H' s'/\ee v u/\Q v H'
def TP(X:Cx)(pins:List (Addr×Obj))(σ:St)(Q:Bool->Hp->Prop)(b:Bool)(s':Shared):Prop:=∃H',Inv X pins σ H' s'/\Q b H'
def AP(X:Cx)(pins:List (Addr×Obj))(σ:St)(Q:List V->Hp->Prop)(us:List Value)(s':Shared):Prop:=∃vs H',Inv X pins σ H' s'/\bY vs us/\Q vs H'
def SP(X:Cx)(pins:List (Addr×Obj))(D:B6)(f:Flow)(s':Shared):Prop :=
 match f with
 | .next=>∃σ' H',Inv X pins σ' H' s'/\D.nx σ' H'
 | .brk=>∃σ' H',Inv X pins σ' H' s'/\D.bk σ' H'
 | .cont=>∃σ' H',Inv X pins σ' H' s'/\D.ct σ' H'
 | .ret u=>∃v σ' H',Inv X pins σ' H' s'/\ee v u/\D.rt v H'
def PE(X:Cx)(e:Expr)(t:TE):Prop :=
 ∀(pins:List (Addr×Obj)) (s:Shared) (σ:St) (H:Hp) (Q:VK),Inv X pins σ H s->t σ H Q->wpAny (model X.prog X.w) X.A (eval e X.env) (EP X pins σ Q) X.xe s
def PT(X:Cx)(e:Expr)(t:TT):Prop :=
 ∀(pins:List (Addr×Obj)) (s:Shared) (σ:St) (H:Hp) (Q:Bool->Hp->Prop),Inv X pins σ H s->t σ H Q->wpAny (model X.prog X.w) X.A (isTrue e X.env (eval e X.env)) (TP X pins σ Q) X.xe s
def PW(X:Cx)(e:Expr)(t:TT):Prop :=
 ∀(whole:Sem Value) (pins:List (Addr×Obj)) (s:Shared) (σ:St) (H:Hp) (Q:Bool->Hp->Prop),Inv X pins σ H s->t σ H Q->wpAny (model X.prog X.w) X.A (isTrue e X.env whole) (TP X pins σ Q) X.xe s
theorem PW.pt{X:Cx}{e:Expr}{t:TT}(h:PW X e t):PT X e t:=h _
def PA(X:Cx)(es:List Expr)(t:TA):Prop :=
 ∀(pos:Pos) (pins:List (Addr×Obj)) (s:Shared) (σ:St) (H:Hp) (Q:List V->Hp->Prop),Inv X pins σ H s->t σ H Q->wpAny (model X.prog X.w) X.A (spliced (backTo pos (starEach es X.env))) (AP X pins σ Q) X.xe s
def PS(X:Cx)(st:Stmt)(t:TS):Prop :=
 ∀(pins:List (Addr×Obj)) (s:Shared) (σ:St) (H:Hp) (D:B6),Inv X pins σ H s->t D σ H->wpAny (model X.prog X.w) X.A (exec st X.env) (SP X pins D) X.xe s
def PSs(X:Cx)(st:List Stmt)(t:TS):Prop :=
 ∀(pins:List (Addr×Obj)) (s:Shared) (σ:St) (H:Hp) (D:B6),Inv X pins σ H s->t D σ H->wpAny (model X.prog X.w) X.A (execs st X.env) (SP X pins D) X.xe s
theorem thn{α:Type}{t:Sem α}{Q Q':α->Shared->Prop}{M:Model}{A:Around}{E:Value->Shared->Prop}{s:Shared}(h:wpAny M A t Q E s)(hQ:∀a s,Q a s->Q' a s):wpAny M A t Q' E s:=wpAny_mono h hQ fun _ _ x=>x
section
variable {X:Cx}
def bg(i:Nat):TE:=fun σ H Q=>∃v,σ[i]?=some (some v)/\Q v H
def tC(v:V):TE:=fun _ H Q=>Q v H
theorem Cp{i:Nat}{x:Str}{pos:Pos}(hN:X.N[i]?=some x)(hv:Vis X.env.scope x)(hd:(x == ("__debug__":Str))=false:=by decide)(hcd:(x == ("__classdict__":Str))=false:=by decide):PE X (.Name x pos) (bg i):=by
 intro pins s σ H Q I h;obtain⟨v,e,h⟩:=h;obtain⟨m,hn,hl⟩:=I.loc;obtain⟨u,r,l⟩:=hl i x v hN e hv;have fin:EP X pins σ Q u s:=⟨v,H,I,r,h⟩
 rcases l with ⟨hk,hm⟩|⟨hk,c,hc,hcell⟩
 .exact wpAny_Name (wpAny_loadName_local I.ok.kind hk hn hm fin) hd
 .rcases hk with hk|hk
  .exact wpAny_Name (wpAny_loadName_cell I.ok.kind hk hc hcell fin) hd
  .exact wpAny_Name (wpAny_loadName_free I.ok.kind hk hc hcell fin hcd) hd
theorem aq{i j pos}:PE X (.Constant (.int i) j pos) (tC (.int i)):=fun _ _ _ H _ I h=>wpAny_Constant_int ⟨.int i,H,I.tok _,⟨_,rfl⟩,h⟩
theorem rp{b j pos}:PE X (.Constant (.bool b) j pos) (tC (.bl b)):=fun _ _ _ H _ I h=>Constant_bool ⟨.bl b,H,I,rfl,h⟩
theorem Cq{x j pos}:PE X (.Constant (.str x) j pos) (tC (.str x)):=fun _ _ _ H _ I h=>Calls.Constant_str ⟨.str x,H,I.tok _,⟨_,rfl⟩,h⟩
def Gl(X:Cx)(x:Str):Prop:=X.env.kindOf x=some .globalImplicit
theorem rq{E:Value->Shared->Prop}{pins:List (Addr×Obj)}{s:Shared}{σ:St}{H:Hp}{x:Str}{u:Value}{pos:Pos}{Q:Value->Shared->Prop}(I:Inv X pins σ H s)(hg:Gl X x)(hm:X.mg x=some u)(h:Q u s)
  (hd:(x == ("__debug__":Str))=false:=by decide):wpAny (model X.prog X.w) X.A (eval (.Name x pos) X.env) Q E s :=
 Calls.Name_function_global I.ok.kind hg (Calls.loadGlobal_global (by rw [I.ok.glob];exact I.mod.glob.keeps I.bk) hm h) hd
theorem iw{E:Value->Shared->Prop}{pins:List (Addr×Obj)}{s:Shared}{σ:St}{H:Hp}{x:Str}{u:Value}{pos:Pos}{Q:Value->Shared->Prop}(I:Inv X pins σ H s)(hg:Gl X x)(hm:X.mg x=none)(hv:bootBuiltins x=some u)(h:Q u s)
  (hn:x≠"__name__":=by decide) (hd:(x == ("__debug__":Str))=false:=by decide):wpAny (model X.prog X.w) X.A (eval (.Name x pos) X.env) Q E s:=by
 obtain⟨mb,h1,h2⟩:=I.mod.blt;exact Calls.Name_function_global I.ok.kind hg (Calls.loadGlobal_builtin (by rw [I.ok.glob];exact I.mod.glob.keeps I.bk) hm (by rw [I.ok.blt];exact h1.keeps I.bk) ((h2 x hn).trans hv) h) hd
theorem An{x:Str}{v:V}{u:Value}{pos:Pos}(hg:Gl X x)(hm:X.mg x=some u)(r:ee v u)(hd:(x == ("__debug__":Str))=false:=by decide):PE X (.Name x pos) (tC v) :=
 fun _ _ _ H _ I h=>rq I hg hm ⟨v,H,I,r,h⟩ hd
theorem rz{x:Str}{v:V}{u:Value}{pos:Pos}(hg:Gl X x)(hm:X.mg x=none)(hv:bootBuiltins x=some u)(r:ee v u)(hn:x≠"__name__":=by decide)(hd:(x == ("__debug__":Str))=false:=by decide):PE X (.Name x pos) (tC v) :=
 fun _ _ _ H _ I h=>iw I hg hm hv ⟨v,H,I,r,h⟩ hn hd
variable {a b:Expr}{ta tb:TE}{pos:Pos}
def tB(t:TE):TT:=fun σ H Q=>t σ H fun x H1=>∃c,x=.bl c/\Q c H1
theorem Cr{e:Expr}{t:TE}(h:PE X e t)(he:∀whole,isTrue e X.env whole=(do let v <- whole;standAt e.pos;holding [v] (truthy v)):=by intro _;rfl):PT X e (tB t):=by
 intro pins s σ H Q I hw;refine isTrue_plain (thn (h pins s σ H _ I hw) fun v s1 ⟨x,H1,I1,r1,q1⟩=>?_) (he _);obtain⟨d,rfl,q⟩:=q1;cases r1;exact wpAny_truthy_bool ⟨H1,I1,q⟩
variable {tA tB':TT}{rest:List Expr}
def EE(t u:TT):TT:=fun σ H Q=>t σ H fun c H1=>if c=true then u σ H1 Q else Q false H1
def tOr(t u:TT):TT:=fun σ H Q=>t σ H fun c H1=>if c=true then Q true H1 else u σ H1 Q
def FI(t:TT):TT:=fun σ H Q=>t σ H fun c H1=>Q (!c) H1
theorem kX(ha:PT X a tA):PW X (.BoolOp .And [a] pos) tA:=by
 intro wh pins s σ H Q I h;refine isTrue_and (thn (ha pins s σ H Q I h) fun c s1 e=>?_)
 cases c with
 | true=>exact isTrue_and_nil e
 | false=>exact e
theorem pJ(ha:PT X a tA):PW X (.BoolOp .Or [a] pos) tA:=by
 intro wh pins s σ H Q I h;refine isTrue_or (thn (ha pins s σ H Q I h) fun c s1 e=>?_)
 cases c with
 | false=>exact isTrue_or_nil e
 | true=>exact e
theorem pK(ha:PT X a tA)(hb:PW X (.BoolOp .And (b::rest) pos) tB'):PW X (.BoolOp .And (a::b::rest) pos) (EE tA tB'):=by
 intro wh pins s σ H Q I h;refine isTrue_and (thn (ha pins s σ H _ I h) fun c s1 ⟨H1,I1,q1⟩=>?_)
 cases c with
 | true=>exact hb wh pins s1 σ H1 Q I1 q1
 | false=>exact⟨H1,I1,q1⟩
theorem uh(ha:PT X a tA)(hb:PW X (.BoolOp .Or (b::rest) pos) tB'):PW X (.BoolOp .Or (a::b::rest) pos) (tOr tA tB'):=by
 intro wh pins s σ H Q I h;refine isTrue_or (thn (ha pins s σ H _ I h) fun c s1 ⟨H1,I1,q1⟩=>?_)
 cases c with
 | true=>exact⟨H1,I1,q1⟩
 | false=>exact hb wh pins s1 σ H1 Q I1 q1
theorem iy(ha:PT X a tA):PT X (.UnaryOp .Not a pos) (FI tA):=by
 intro pins s σ H Q I h;exact isTrue_not (ha pins s σ H (fun c H1=>Q (!c) H1) I h)
def Cs(ta tb:TE):TE:=fun σ H Q=>ta σ H fun x H1=>∃c,x=.bl c/\if c=true then tb σ H1 Q else Q (.bl false) H1
def Ct(ta:TE):TE:=fun σ H Q=>ta σ H fun x H1=>∃c,x=.bl c/\Q (.bl (!c)) H1
theorem zn{op}{t:TE}(h:PE X a t):PE X (.BoolOp op [a] pos) t:=fun pins s σ H Q I hw=>BoolOp_one (h pins s σ H Q I hw)
theorem Cu(ha:PE X a ta)(hb:PE X (.BoolOp .And (b::rest) pos) tb):PE X (.BoolOp .And (a::b::rest) pos) (Cs ta tb):=by
 intro pins s σ H Q I h;refine BoolOp_and (thn (ha pins s σ H _ I h) fun v s1 ⟨x,H1,I1,r1,q1⟩=>?_);obtain⟨c,rfl,q1⟩:=q1;cases r1;refine wpAny_truthy_bool ?_
 cases c with
 | true=>exact hb pins s1 σ H1 Q I1 q1
 | false=>exact⟨.bl false,H1,I1,rfl,q1⟩
theorem Cv(ha:PE X a ta):PE X (.UnaryOp .Not a pos) (Ct ta):=by
 intro pins s σ H Q I h;refine UnaryOp_ (thn (ha pins s σ H _ I h) fun v s1 ⟨x,H1,I1,r1,q1⟩=>?_);obtain⟨c,rfl,q1⟩:=q1;cases r1;exact not_of (wpAny_truthy_bool ⟨.bl (!c),H1,I1,rfl,q1⟩)
def tIf(t:TT)(ta tb:TE):TE:=fun σ H Q=>t σ H fun c H1=>if c=true then ta σ H1 Q else tb σ H1 Q
theorem xQ{c:Expr}(hc:PT X c tA)(ha:PE X a ta)(hb:PE X b tb):PE X (.IfExp c a b pos) (tIf tA ta tb):=by
 intro pins s σ H Q I h;refine wpAny_IfExp (thn (hc pins s σ H _ I h) fun d s1 ⟨H1,I1,q1⟩=>?_)
 cases d with
 | true=>exact ha pins s1 σ H1 Q I1 q1
 | false=>exact hb pins s1 σ H1 Q I1 q1
end
def SqL(K:PySem.W.Frag)(H:Hp)(a:Addr)(xs:List V):Prop :=
 Rd H a (.lst xs) \/
  ∃(o:Obj) (its:Array Value) (n:Nat),K.lookup a=some o/\o.cls=.type "list"/\o.dict=none/\o.data=.seq its n/\its.size<=sizeLine/\bY xs its.toList
def SqT(K:PySem.W.Frag)(H:Hp)(a:Addr)(xs:List V):Prop :=
 Rd H a (.tup xs) \/
  ∃(o:Obj) (its:Array Value) (n:Nat),K.lookup a=some o/\o.cls=.type "tuple"/\o.data=.seq its n/\its.size<=sizeLine/\bY xs its.toList
def Go:Value->Option V
 | .none=>some .non
 | .bool b=>some (.bl b)
 | .int i _=>some (.int i)
 | .str x _=>some (.str x)
 | .bytes b _=>some (.byt b)
 | .float b _=>some (.flt b)
 | .ref a=>some (.ref a)
 | .type n=>some (.ty n)
 | _=>none
theorem ee.abs{x:V}{u:Value}(r:ee x u):Go u=some x:=by
 cases x with
 | non=>cases r;rfl
 | bl _=>cases r;rfl
 | int _=>obtain⟨t,rfl⟩:=r;rfl
 | str _=>obtain⟨t,rfl⟩:=r;rfl
 | byt _=>obtain⟨t,rfl⟩:=r;rfl
 | flt _=>obtain⟨t,rfl⟩:=r;rfl
 | ref _=>cases r;rfl
 | ty _=>cases r;rfl
theorem ee.inj{x y:V}{u:Value}(r:ee x u)(q:ee y u):x=y:=Option.some.inj (r.abs.symm.trans q.abs)
theorem bY.inj:∀{xs ys:List V}{us:List Value},bY xs us->bY ys us->xs=ys
 | _,_,_,.nil,.nil=>rfl
 | _,_,_,.cons r t,.cons r' t'=>by rw [r.inj r',bY.inj t t']
section
variable {X:Cx}{pins:List (Addr×Obj)}{σ:St}{H:Hp}{s:Shared}{a:Addr}{xs ys:List V}
theorem SqL.of{K:PySem.W.Frag}(h:H a=some (.lst xs)):SqL K H a xs:=.inl (.inl h)
theorem SqT.of{K:PySem.W.Frag}(h:H a=some (.tup xs)):SqT K H a xs:=.inl (.inl h)
theorem Inv.list(I:Inv X pins σ H s)(h:SqL X.K H a xs):∃its:List Value,bY xs its/\PlainL s.heap a its.toArray/\xs.length<=sizeLine:=by
 rcases h with h|⟨o,its,n,hk,hc,hd,hs,hz,r⟩
 .obtain⟨z,its,n,r,e⟩:=h.ok I.hok;exact⟨its,r,⟨_,n,e,rfl,rfl,rfl⟩,z⟩
 .refine⟨its.toList,r,⟨o,n,I.kIn a o hk,hc,hd,by simpa using hs⟩,?_⟩;have e:=r.length;simp only [Array.length_toList] at e;omega
theorem Inv.tuple(I:Inv X pins σ H s)(h:SqT X.K H a xs):∃its:List Value,bY xs its/\IsTup s.heap a its.toArray/\xs.length<=sizeLine:=by
 rcases h with h|⟨o,its,n,hk,hc,hs,hz,r⟩
 .obtain⟨z,its,r,p⟩:=h.ok I.hok;exact⟨its,r,p,z⟩
 .refine⟨its.toList,r,⟨o,I.kIn a o hk,hc,n,by simpa using hs⟩,?_⟩;have e:=r.length;simp only [Array.length_toList] at e;omega
theorem Inv.list_inj(I:Inv X pins σ H s)(h:SqL X.K H a xs)(h':SqL X.K H a ys):xs=ys:=by
 obtain⟨its,r,⟨o,n,e,_,_,d⟩,_⟩:=I.list h;obtain⟨its',r',⟨o',n',e',_,_,d'⟩,_⟩:=I.list h';rw [e] at e';cases e';rw [d] at d';injection d' with d1 _;have:its=its':=by simpa using congrArg Array.toList d1
 subst this;exact r.inj r'
theorem Inv.tuple_inj(I:Inv X pins σ H s)(h:SqT X.K H a xs)(h':SqT X.K H a ys):xs=ys:=by
 obtain⟨its,r,⟨o,e,_,n,d⟩,_⟩:=I.tuple h;obtain⟨its',r',⟨o',e',_,n',d'⟩,_⟩:=I.tuple h';rw [e] at e';cases e';rw [d] at d';injection d' with d1 _;have:its=its':=by simpa using congrArg Array.toList d1
 subst this;exact r.inj r'
end
abbrev Cx.wish(X:Cx)(E:Value->Shared->Prop):Cx:={ X with xe:=E }
abbrev Cx.nox(X:Cx):Cx:=X.wish fun _ _=>False
theorem Cx.Ok.wish{X:Cx}(ok:X.Ok)(E:Value->Shared->Prop):(X.wish E).Ok :=
 ⟨ok.mod,ok.kind,ok.glob,ok.blt,ok.above,ok.inj,ok.has,ok.cab,ok.hd,ok.frames,ok.stk,ok.exf,ok.bs,ok.bsz,ok.noex,ok.exfs,ok.funs,ok.frf⟩
theorem Cx.Ok.unwish{X:Cx}{E:Value->Shared->Prop}(ok:(X.wish E).Ok):X.Ok :=
 ⟨ok.mod,ok.kind,ok.glob,ok.blt,ok.above,ok.inj,ok.has,ok.cab,ok.hd,ok.frames,ok.stk,ok.exf,ok.bs,ok.bsz,ok.noex,ok.exfs,ok.funs,ok.frf⟩
section
variable {X:Cx}{pins:List (Addr×Obj)}{σ:St}{H:Hp}{s:Shared}{E:Value->Shared->Prop}
theorem Inv.wish(I:Inv X pins σ H s)(E:Value->Shared->Prop):Inv (X.wish E) pins σ H s:=⟨I.ok.wish E,I.os,I.bare,I.base,I.loc,I.cell,I.free,I.freeC,I.pin,I.hok,I.len⟩
theorem Inv.unwish(I:Inv (X.wish E) pins σ H s):Inv X pins σ H s:=⟨I.ok.unwish,I.os,I.bare,I.base,I.loc,I.cell,I.free,I.freeC,I.pin,I.hok,I.len⟩
theorem SP.unwish{D:B6}{f:Flow}{s':Shared}(h:SP (X.wish E) pins D f s'):SP X pins D f s':=by
 cases f with
 | next=>obtain⟨σ',H',I,q⟩:=h;exact⟨σ',H',I.unwish,q⟩
 | brk=>obtain⟨σ',H',I,q⟩:=h;exact⟨σ',H',I.unwish,q⟩
 | cont=>obtain⟨σ',H',I,q⟩:=h;exact⟨σ',H',I.unwish,q⟩
 | ret u=>obtain⟨v,σ',H',I,r,q⟩:=h;exact⟨v,σ',H',I.unwish,r,q⟩
theorem PSs.nox{st:List Stmt}{t:TS}(h:PSs X.nox st t):PSs X st t:=fun pins s σ H D I hw =>
 wpAny_mono (h pins s σ H D (I.wish _) hw) (fun _ _ q=>q.unwish) fun _ _ z=>False.elim z
end
section
variable {X:Cx}{st:Stmt}{rest:List Stmt}{t u:TS}{e:Expr}{te:TE}{pos:Pos}
def Cw:TS:=fun D σ H=>D.nx σ H
def FJ(t u:TS):TS:=fun D σ H=>t { D with nx:=u D } σ H
theorem bZ:PSs X [] Cw:=fun _ _ σ H _ I h=>wpAny_execs_nil ⟨σ,H,I,h⟩
theorem ai(h1:PS X st t)(h2:PSs X rest u):PSs X (st::rest) (FJ t u):=by
 intro pins s σ H D I h;refine wpAny_execs_cons (thn (h1 pins s σ H { D with nx:=u D } I h) fun f s1 q=>?_)
 cases f with
 | next =>
  obtain⟨σ',H',I',q⟩:=q;exact h2 pins s1 σ' H' D I' q
 | ret v=>exact q
 | brk=>exact q
 | cont=>exact q
theorem ax(h1:PS X st t):PSs X [st] t:=by
 intro pins s σ H D I h;refine wpAny_execs_cons (thn (h1 pins s σ H D I h) fun f s1 q=>?_)
 cases f with
 | next=>exact wpAny_execs_nil q
 | ret v=>exact q
 | brk=>exact q
 | cont=>exact q
theorem Inv.quiet{pins:List (Addr×Obj)}{σ:St}{H:Hp}{s:Shared}(I:Inv X pins σ H s):interactive X.env=false:=by simp [interactive,I.ok.kind]
def Cy(te:TE):TS:=fun D σ H=>te σ H fun _ H1=>D.nx σ H1
theorem fk(he:PE X e te)(hs:swapsWith e none pos.line X.env=pure false:=by rfl):PS X (.Expr e pos) (Cy te):=by
 intro pins s σ H D I h;exact wpAny_Expr_any (thn (he pins s σ H _ I h) fun v s1 ⟨x,H1,I1,r1,q1⟩=>⟨σ,H1,I1,q1⟩) I.quiet hs
def FK(te:TE):TS:=fun D σ H=>te σ H D.rt
theorem bi(he:PE X e te):PS X (.Return (some e) pos) (FK te):=by
 intro pins s σ H D I h;exact wpAny_Return_some (thn (he pins s σ H _ I h) fun v s1 ⟨x,H1,I1,r1,q1⟩=>⟨x,σ,H1,I1,r1,q1⟩)
def FL(c:TT)(t u:TS):TS:=fun D σ H=>c σ H fun b H1=>if b=true then t D σ H1 else u D σ H1
theorem eE{c:Expr}{a b:List Stmt}{tc:TT}(hc:PT X c tc)(ha:PSs X a t)(hb:PSs X b u):PS X (.If c a b pos) (FL tc t u):=by
 intro pins s σ H D I h;refine wpAny_If (thn (hc pins s σ H _ I h) fun d s1 ⟨H1,I1,q1⟩=>?_)
 cases d with
 | true=>exact ha pins s1 σ H1 D I1 q1
 | false=>exact hb pins s1 σ H1 D I1 q1
def zo:TS:=fun _ _ _=>False
theorem nS:PS X st zo:=fun _ _ _ _ _ _ h=>h.elim
end
abbrev TG:=V->St->Hp->(St->Hp->Prop)->Prop
abbrev TGs:=List V->St->Hp->(St->Hp->Prop)->Prop
def PG(X:Cx)(target:Expr)(t:TG):Prop :=
 ∀(pins:List (Addr×Obj)) (s:Shared) (σ:St) (H:Hp) (v:V) (u:Value) (Q:St->Hp->Prop),Inv X pins σ H s->ee v u->t v σ H Q ->
  wpAny (model X.prog X.w) X.A (assign target X.env u) (fun _ s'=>∃σ' H',Inv X pins σ' H' s'/\Q σ' H') X.xe s
def PGs(X:Cx)(ts:List Expr)(t:TGs):Prop :=
 ∀(pins:List (Addr×Obj)) (s:Shared) (σ:St) (H:Hp) (vs:List V) (us:List Value) (Q:St->Hp->Prop),Inv X pins σ H s->bY vs us->t vs σ H Q ->
  wpAny (model X.prog X.w) X.A (assignInOrder ((assignEach ts X.env).map (·.2)) us) (fun _ s'=>∃σ' H',Inv X pins σ' H' s'/\Q σ' H') X.xe s
abbrev EF:=V->V->V->Hp->(Hp->Prop)->Prop
def FO(X:Cx)(t:EF):Prop :=
 ∀(pins:List (Addr×Obj)) (s:Shared) (σ:St) (H:Hp) (o i v:V) (ov iv u:Value) (Q:Hp->Prop),Inv X pins σ H s->ee o ov->ee i iv->ee v u->t o i v H Q ->
  wpAny (model X.prog X.w) X.A (setItem ov iv u) (fun _ s'=>∃H',Inv X pins σ H' s'/\Q H') X.xe s
section
variable {X:Cx}{pos:Pos}
def cm(i:Nat):TG:=fun v σ H Q=>Q (σ.set i (some v)) H
theorem aF{i:Nat}{x:Str}(hN:X.N.Nodup)(hi:X.N[i]?=some x)(hx:Loc X.env.scope x)(hf:X.fn x=true\/X.env.scope.names.lookup x=some .local:=by first|exact .inl rfl|exact .inr rfl|assumption):PG X (.Name x pos) (cm i):=by
 intro pins s σ H v u Q I r h;exact wpAny_assign_Name (nR I hN hi hx r (fun s' I'=>⟨_,H,I',h⟩) hf)
def Ao:TGs:=fun vs σ H Q=>vs=[]/\Q σ H
def kz(t:TG)(u:TGs):TGs:=fun vs σ H Q=>∃v r,vs=v::r/\t v σ H fun σ' H'=>u r σ' H' Q
theorem gI:PGs X [] Ao:=by
 intro pins s σ H vs us Q I r h;obtain⟨e,h⟩:=h;subst e;cases r;exact assignInOrder_nil ⟨σ,H,I,h⟩
theorem cj{e:Expr}{es:List Expr}{t:TG}{u:TGs}(h1:PG X e t)(h2:PGs X es u)
  (hs:(assignEach (e::es) X.env).map (·.2)=assign e X.env::(assignEach es X.env).map (·.2):=by rfl):PGs X (e::es) (kz t u):=by
 intro pins s σ H vs us Q I r h;obtain⟨v,vr,e1,h⟩:=h;subst e1
 cases r with
 | cons r rr =>
  rw [hs];refine assignInOrder_cons (thn (h1 pins s σ H _ _ _ I r h) fun _ s1 ⟨σ1,H1,I1,q1⟩=>?_);exact h2 pins s1 σ1 H1 _ _ Q I1 rr q1
def Gp(K:PySem.W.Frag)(n:Nat)(t:TGs):TG:=fun v σ H Q=>∃a xs,v=.ref a/\SqT K H a xs/\xs.length=n/\t xs σ H Q
theorem Cz{es:List Expr}{k:Nat}{t:TGs}{n:Nat}(hc:X.calm=true)(h:PGs X es t)
  (hn:(assignEach es X.env).length=n:=by rfl) (hst:(assignEach es X.env).findIdx? (·.1)=none:=by rfl):PG X (.Tuple es k pos) (Gp X.K n t):=by
 intro pins s σ H v u Q I r hw;obtain⟨a,xs,e1,hq,hl,hw⟩:=hw;subst e1;cases r;obtain⟨its,rv,ht,hz⟩:=I.tuple hq;refine assign_Tuple_tuple (I.ok.hd hc) ht (by simp [hn,<- hl,rv.length]) hst fun h' hx=>?_;have I1:Inv X pins σ H { s with heap:=h' }:=I.kept (t':=s.toks) fun b o e=>hx b o (ne_of_lt (Heap.lt_size e)) e;exact h pins _ σ H xs _ Q I1 (by simpa using rv) hw
def FP(to ti:TE)(t:EF):TG:=fun v σ H Q=>to σ H fun o H1=>ti σ H1 fun i H2=>t o i v H2 fun H3=>Q σ H3
theorem CA{o i:Expr}{to ti:TE}{t:EF}(ho:PE X o to)(hi:PE X i ti)(hs:FO X t)
  (ha:∀v,assign (.Subscript o i pos) X.env v=(do
   let ov <- holding [v] (eval o X.env)
   let iv <- holding [v,ov] (eval i X.env)
   standAt pos
   holding [v,ov,iv] (setItem ov iv v)
   release [v,ov,iv] []):=by intro _;rfl):PG X (.Subscript o i pos) (FP to ti t):=by
 intro pins s σ H v u Q I r h;rw [ha];refine wpAny_bind (wpAny_holding (thn (ho pins s σ H _ I h) fun ov s1 ⟨x,H1,I1,r1,q1⟩=>?_));refine wpAny_bind (wpAny_holding (thn (hi pins s1 σ H1 _ I1 q1) fun iv s2 ⟨y,H2,I2,r2,q2⟩=>?_));refine wpAny_bind (wpAny_standAt (wpAny_bind (wpAny_holding (thn (hs pins s2 σ H2 x y v ov iv u _ I2 r1 r2 r q2) fun _ s3 ⟨H3,I3,q3⟩=>?_))));exact wpAny_release ⟨σ,H3,I3,q3⟩
def B7(te:TE)(g:TG):TS:=fun D σ H=>te σ H fun x H1=>g x σ H1 D.nx
theorem zp{tg e:Expr}{te:TE}{g:TG}(he:PE X e te)(hg:PG X tg g)(hs:swapsWithSole [tg] e pos.line X.env=pure false:=by rfl)(hw:swappedStores [tg] e X.env=pure none:=by rfl)
  (h1:(assignEach [tg] X.env).map (·.2)=[assign tg X.env]:=by rfl):PS X (.Assign [tg] e pos) (B7 te g):=by
 intro pins s σ H D I h;refine wpAny_Assign_stores (thn (he pins s σ H _ I h) fun v s1 ⟨x,H1,I1,r1,q1⟩=>?_) hs hw;rw [h1];exact thn (hg pins s1 σ H1 x v _ I1 r1 q1) fun _ s2 q=>q
theorem aJ{i:Nat}{x:Str}{e:Expr}{te:TE}{pos':Pos}(hN:X.N.Nodup)(hi:X.N[i]?=some x)(hx:Loc X.env.scope x)(he:PE X e te)(hs:swapsWith e (some (.Name x pos')) pos.line X.env=pure false:=by rfl)(hf:X.fn x=true\/X.env.scope.names.lookup x=some .local:=by first|exact .inl rfl|exact .inr rfl|assumption) :
  PS X (.Assign [.Name x pos'] e pos) (B7 te (cm i)):=by
 intro pins s σ H D I h;refine wpAny_Assign_Name (thn (he pins s σ H _ I h) fun v s1 ⟨y,H1,I1,r1,q1⟩=>?_) hs;exact nR I1 hN hi hx r1 (fun s2 I2=>⟨_,H1,I2,q1⟩) hf
end
section
variable {X:Cx}{pos:Pos}
def zq(c:TT)(tb:TS):TS:=fun D σ H=>∃W:Nat->St->Hp->Prop,(∃m,W m σ H)/\∀m σ H,W m σ H ->
 c σ H fun b H1=>if b=true then ∃N:St->Hp->Prop,(∀σ' H',N σ' H'->∃m',m'<m/\W m' σ' H')/\tb { D with nx:=N,ct:=N,bk:=D.nx } σ H1 else D.nx σ H1
theorem nU{c:Expr}{body:List Stmt}{tc:TT}{tb:TS}(hp:PassesOwn (model X.prog X.w) X.A X.env X.xe)(hc:PT X c tc)(hb:PSs X body tb):PS X (.While c body [] pos) (zq tc tb):=by
 intro pins s σ H D I h;obtain⟨W,⟨m0,w0⟩,turn⟩:=h;refine wpAny_While (codeAny_whileLoop (fun n s'=>∃σ' H',Inv X pins σ' H' s'/\W n σ' H') ?_ m0 ⟨σ,H,I,w0⟩);rintro n s1 ⟨σ1,H1,I1,w1⟩;refine wpAny_passesOwn hp (thn (hc pins s1 σ1 H1 _ I1 (turn n σ1 H1 w1)) fun b s2 ⟨H2,I2,q2⟩=>?_)
 cases b with
 | true =>
  obtain⟨N,hN,q2⟩:=q2;rw [if_pos rfl];refine wpAny_passesOwn hp (thn (hb pins s2 σ1 H2 _ I2 q2) fun f s3 q3=>?_)
  cases f with
  | next =>
   obtain⟨σ3,H3,I3,n3⟩:=q3;obtain⟨m',hm,w3⟩:=hN σ3 H3 n3;exact⟨m',hm,σ3,H3,I3,w3⟩
  | cont =>
   obtain⟨σ3,H3,I3,n3⟩:=q3;obtain⟨m',hm,w3⟩:=hN σ3 H3 n3;exact⟨m',hm,σ3,H3,I3,w3⟩
  | brk=>exact q3
  | ret v=>exact q3
 | false =>
  rw [if_neg Bool.false_ne_true];exact wpAny_execs_nil ⟨σ1,H2,I2,q2⟩
end
structure It where
 go:Nat->Hp->Prop
 yld:Nat->Hp->V->Hp->Prop
 stop:Nat->Hp->Prop
def ui(X:Cx)(pins:List (Addr×Obj))(H:Hp)(b:Addr):Prop :=
 H b=none/\b≠X.env.locals/\b∉X.fs/\(b∈X.ex\/X.s₀.heap.objs.size<=b)/\(∀x c,X.env.cells.lookup x=some c->c≠b)/\∀p∈X.pn++pins,p.1≠b
theorem Inv.fpOk{X:Cx}{pins:List (Addr×Obj)}{σ:St}{H H':Hp}{s:Shared}{b:Addr}(I:Inv X pins σ H s)(hb:s.heap.objs.size<=b)(hn:H' b=none):ui X pins H' b:=by
 refine⟨hn,ne_of_gt (lt_of_lt_of_le I.lt hb),I.nofs hb,.inr (Nat.le_trans I.sz hb),fun x c e z=>?_,fun p hp z=>?_⟩
 .obtain⟨v,q⟩:=I.cell x c e;exact absurd (lt_of_lt_of_le q.lt (by rw [z];exact hb)) (Nat.lt_irrefl _)
 .exact absurd (lt_of_lt_of_le (Heap.lt_size (I.pin p hp).1) (by rw [z];exact hb)) (Nat.lt_irrefl _)
structure zr (P:Program) (w:World) (K:PySem.W.Frag) (tg:Expr) (J:It) (fp:List Addr) (it:Addr) (tn:Nat->Heap->Prop):Prop where
 mem:it∈fp
 obj:∀i h,tn i h->∀b∈fp,∃o,h.get? b=some o/\∀v,o.data≠.cell v
 keep:∀i h h',tn i h->(∀b∈fp,∀o,h.get? b=some o->h'.get? b=some o)->tn i h'
 item:∀(X:Cx),X.prog=P->X.w=w->X.K=K->X.calm=true->∀(i:Nat) (pins:List (Addr×Obj)) (s:Shared) (σ:St) (H:Hp) (E:Value->Shared->Prop),Inv X pins σ H s->(∀b∈fp,ui X pins H b)->tn i s.heap->J.go i H ->
  wpAny (model P w) X.A (pyNext (.ref it)) (fun r s1=>∃u,r=some u /\
   wpAny (model P w) X.A (letOwnedTupleGo tg (.ref it) u) (fun _ s2=>∃x H',Inv X pins σ H' s2/\ee x u/\J.yld i H x H'/\tn (i+1) s2.heap/\∀b∈fp,H' b=none) E s1) E s
 done:∀(X:Cx),X.prog=P->X.w=w->X.K=K->X.calm=true->∀(i:Nat) (pins:List (Addr×Obj)) (s:Shared) (σ:St) (H:Hp) (E:Value->Shared->Prop),Inv X pins σ H s->(∀b∈fp,ui X pins H b)->tn i s.heap->J.stop i H ->
  wpAny (model P w) X.A (pyNext (.ref it)) (fun r s1=>r=none/\Inv X pins σ H s1) E s
 self:∀(A:Around) (i:Nat) (s:Shared) (Q:Value->Shared->Prop) (E:Value->Shared->Prop),tn i s.heap->Q (.ref it) s->wpAny (model P w) A (pyIter (.ref it)) Q E s
abbrev TI:=St->Hp->(It->Hp->Prop)->Prop
def PIE(X:Cx)(pins:List (Addr×Obj))(σ:St)(tg:Expr)(R:It->Hp->Prop)(itv:Value)(s2:Shared):Prop :=
 ∃(it:Addr) (fp:List Addr) (tn:Nat->Heap->Prop) (J:It) (H':Hp),itv=.ref it/\Inv X pins σ H' s2/\zr X.prog X.w X.K tg J fp it tn/\tn 0 s2.heap/\(∀b∈fp,ui X pins H' b)/\R J H'
def PI(X:Cx)(tg iter:Expr)(wi:TI):Prop :=
 ∀(pins:List (Addr×Obj)) (s:Shared) (σ:St) (H:Hp) (R:It->Hp->Prop),Inv X pins σ H s->wi σ H R ->
  wpAny (model X.prog X.w) X.A (eval iter X.env) (fun v s1=>wpAny (model X.prog X.w) X.A (pyIter v) (PIE X pins σ tg R) X.xe s1) X.xe s
theorem Ap{M:Model}{A:Around}{E:Value->Shared->Prop}{s:Shared}{tg:Expr}{it:Addr}{u:Value}{o:Obj}{n:String}{vs:Array Value}{Q:Unit->Shared->Prop}(ho:s.heap.get? it=some o)(hc:o.cls=.type n)(hd:o.data=.fields vs)
    (hn:["enumerate","zip","dict_itemiterator","dict_reverseitemiterator","odict_iterator","itertools.zip_longest","itertools.pairwise"].contains n=false) (hQ:Q () s):wpAny M A (letOwnedTupleGo tg (.ref it) u) Q E s:=by
  unfold letOwnedTupleGo
  cases tg <;> first
    | exact wpAny_pure hQ
    | (cases u <;> first
        | exact wpAny_pure hQ
        | (refine wpAny_bind (wpAny_load ho ?_)
           rw [hc,hd];show wpAny M A (if (["enumerate","zip","dict_itemiterator","dict_reverseitemiterator","odict_iterator","itertools.zip_longest","itertools.pairwise"].contains n && vs[0]? == some (rawInt _))=true then _ else _) Q E s;rw [if_neg (by intro h;rw [hn,Bool.false_and] at h;cases h)];exact wpAny_pure hQ))
def Itl(K:PySem.W.Frag)(a:Addr):It :=
 ⟨fun i H=>∃xs x,SqL K H a xs/\xs[i]?=some x,fun i H x H'=>H'=H/\∀xs,SqL K H a xs->xs[i]?=some x,fun i H=>∃xs,SqL K H a xs/\xs.length<=i⟩
def Itt(K:PySem.W.Frag)(a:Addr):It :=
 ⟨fun i H=>∃xs x,SqT K H a xs/\xs[i]?=some x,fun i H x H'=>H'=H/\∀xs,SqT K H a xs->xs[i]?=some x,fun i H=>∃xs,SqT K H a xs/\xs.length<=i⟩
def Itr(lo:Int)(n:Nat):It:=⟨fun i _=>i<n,fun i H x H'=>H'=H/\x=.int (lo+i),fun i _=>n<=i⟩
theorem vh{P:Program}{w:World}{K:PySem.W.Frag}{tg:Expr}(a it:Addr):zr P w K tg (Itl K a) [it] it (fun i h=>h.IsListIter it a i) where
 mem:=by simp
 obj:=fun i h st b hb=>by
  have e:b=it:=by simpa using hb
  subst e;obtain⟨o,e,c,d⟩:=st;exact⟨o,e,fun v z=>by rw [d] at z;cases z⟩
 keep:=fun i h h' st k=>st.at fun o e=>k it (by simp) o e
 item:=by
  intro X hP hw hK hc i pins s σ H E I hf st hg;subst hP hw hK;obtain⟨xs,x,hq,hx⟩:=hg;obtain⟨its,rv,p,hz⟩:=I.list hq;obtain⟨u,hu,ru⟩:=rv.get hx;obtain⟨f0,f1,f2,f3,f4,f5⟩:=hf it (by simp);refine wpAny_pyNext_list_item st p.isList (x:=u) (by simpa using hu) fun h' st' sb=>?_;have I1:Inv X pins σ H { s with heap:=h' }:=I.turned (t':=s.toks) (fun b o hb e=>(sb.2 b hb).trans e) f0 f1 f3 f4 f5;obtain⟨o,e,c,d⟩:=id st'
  exact⟨u,rfl,Ap (s:={ s with heap:=h' }) e c d (by decide) ⟨x,H,I1,ru,⟨rfl,fun ys hy=>by rw [I.list_inj hy hq];exact hx⟩,st',fun b hb=>(hf b hb).1⟩⟩
 done:=by
  intro X hP hw hK hc i pins s σ H E I hf st hg;subst hP hw hK;obtain⟨xs,hq,hx⟩:=hg;obtain⟨its,rv,p,hz⟩:=I.list hq;obtain⟨f0,f1,f2,f3,f4,f5⟩:=hf it (by simp);have hl:=rv.length;exact wpAny_pyNext_list_end (I.ok.hd hc) st p.isList (by simp;omega) fun h' eb=>⟨rfl,I.turned (t':=s.toks) (fun b o hb e=>eb b o hb e) f0 f1 f3 f4 f5⟩
 self:=fun _ _ _ _ _ st h=>wpAny_pyIter_listiter st h
theorem uj{P:Program}{w:World}{K:PySem.W.Frag}{tg:Expr}(a it:Addr):zr P w K tg (Itt K a) [it] it (fun i h=>h.IsTupleIter it a i) where
 mem:=by simp
 obj:=fun i h st b hb=>by
  have e:b=it:=by simpa using hb
  subst e;obtain⟨o,e,c,d⟩:=st;exact⟨o,e,fun v z=>by rw [d] at z;cases z⟩
 keep:=fun i h h' st k=>st.at fun o e=>k it (by simp) o e
 item:=by
  intro X hP hw hK hc i pins s σ H E I hf st hg;subst hP hw hK;obtain⟨xs,x,hq,hx⟩:=hg;obtain⟨its,rv,p,hz⟩:=I.tuple hq;obtain⟨u,hu,ru⟩:=rv.get hx;obtain⟨f0,f1,f2,f3,f4,f5⟩:=hf it (by simp);refine wpAny_pyNext_tuple_item st (show s.heap.IsTuple a its.toArray from p) (x:=u) (by simpa using hu) fun h' st' sb=>?_;have I1:Inv X pins σ H { s with heap:=h' }:=I.turned (t':=s.toks) (fun b o hb e=>(sb.2 b hb).trans e) f0 f1 f3 f4 f5
  obtain⟨o,e,c,d⟩:=id st';exact⟨u,rfl,Ap (s:={ s with heap:=h' }) e c d (by decide) ⟨x,H,I1,ru,⟨rfl,fun ys hy=>by rw [I.tuple_inj hy hq];exact hx⟩,st',fun b hb=>(hf b hb).1⟩⟩
 done:=by
  intro X hP hw hK hc i pins s σ H E I hf st hg;subst hP hw hK;obtain⟨xs,hq,hx⟩:=hg;obtain⟨its,rv,p,hz⟩:=I.tuple hq;obtain⟨f0,f1,f2,f3,f4,f5⟩:=hf it (by simp);have hl:=rv.length;exact wpAny_pyNext_tuple_end (I.ok.hd hc) st (show s.heap.IsTuple a its.toArray from p) (by simp;omega) fun h' eb=>⟨rfl,I.turned (t':=s.toks) (fun b o hb e=>eb b o hb e) f0 f1 f3 f4 f5⟩
 self:=fun _ _ _ _ _ st h=>wpAny_pyIter_tupleiter st h
theorem uk{P:Program}{w:World}{K:PySem.W.Frag}{tg:Expr}(it:Addr)(lo:Int)(n:Nat):zr P w K tg (Itr lo n) [it] it (fun i h=>IsRangeIter h it (lo+(i:Nat)*1) ((n:Int) - (i:Nat)) 1) where
 mem:=by simp
 obj:=fun i h st b hb=>by
  have e:b=it:=by simpa using hb
  subst e
  exact⟨_,st,fun v z=>by
   have z':Data.fields _=Data.cell v:=z;cases z'⟩
 keep:=fun i h h' st k=>k it (by simp) _ st
 item:=by
  intro X hP hw hK hc i pins s σ H E I hf st hg;subst hP hw hK;obtain⟨f0,f1,f2,f3,f4,f5⟩:=hf it (by simp);have W:=Walks.range (prog:=X.prog) (w:=X.w) (I.ok.hd hc) it lo 1 n;refine W.item i s _ _ hg st fun v h' tk hv st' kk=>?_;obtain⟨t,rfl⟩:=hv;have I1:Inv X pins σ H { s with heap:=h',toks:=tk }:=I.turned (fun b o hb e=>kk b o (by simpa using hb) e) f0 f1 f3 f4 f5;refine⟨_,rfl,Ap (s:={ s with heap:=h',toks:=tk }) (n:="range_iterator") st' rfl rfl (by decide) ⟨.int (lo+i),H,I1,⟨t,?_⟩,⟨rfl,rfl⟩,st',fun b hb=>(hf b hb).1⟩⟩
  rw [Int.mul_one]
 done:=by
  intro X hP hw hK hc i pins s σ H E I hf st hg;subst hP hw hK;obtain⟨f0,f1,f2,f3,f4,f5⟩:=hf it (by simp);exact wpAny_pyNext_range_end (I.ok.hd hc) st (by have:n<=i:=hg;omega) fun h' eb=>⟨rfl,I.turned (t':=s.toks) (fun b o hb e=>eb b o hb e) f0 f1 f3 f4 f5⟩
 self:=fun _ _ _ _ _ st h=>wpAny_pyIter_rangeiter st h
section
variable {X:Cx}{tg:Expr}
theorem xR{pins:List (Addr×Obj)}{σ:St}{H:Hp}{s:Shared}{R:It->Hp->Prop}{E:Value->Shared->Prop}{lo hi:Int}{t u v:Tok}{tk:Nat}(I:Inv X pins σ H s)(h1:-(2^62)<=lo)(h2:lo<2^62)(h3:-(2^62)<=hi)(h4:hi<2^62)
  (q:R (Itr lo (hi - lo).toNat) H):wpAny (model X.prog X.w) X.A (pyIter (.ref s.heap.objs.size)) (PIE X pins σ tg R) E { s with heap:=s.heap.push { cls:=.type "range",data:=.fields #[.int lo t,.int hi u,.int 1 v] },toks:=tk }:=by
 refine wpAny_pyIter_range (IsRange.new ..) (small_one h1 h2 h3 h4) ?_;have I1:Inv X pins σ H { s with heap:=s.heap.push { cls:=.type "range",data:=.fields #[.int lo t,.int hi u,.int 1 v] },toks:=tk }:=I.kept fun b o e=>Heap.get?_push_of_some _ e
 refine⟨(s.heap.push { cls:=.type "range",data:=.fields #[.int lo t,.int hi u,.int 1 v] }).objs.size,[(s.heap.push { cls:=.type "range",data:=.fields #[.int lo t,.int hi u,.int 1 v] }).objs.size],_,_,H,rfl,
  I1.kept (t':=tk) fun b o e=>Heap.get?_push_of_some _ e,uk _ lo (hi - lo).toNat,?_,fun b hb=>?_,q⟩
 .have e1:lo+((0:Nat):Int)*1=lo:=by simp
  have e2:(((hi - lo).toNat:Nat):Int) - ((0:Nat):Int)=Builtin.Range.rangeSize lo hi 1:=by rw [rangeSize_one];split <;> omega
  show IsRangeIter _ _ (lo+((0:Nat):Int)*1) ((((hi - lo).toNat:Nat):Int) - ((0:Nat):Int)) 1;rw [e1,e2];exact Heap.get?_push_size _ rfl
 .have e:b=(s.heap.push { cls:=.type "range",data:=.fields #[.int lo t,.int hi u,.int 1 v] }).objs.size:=by simpa using hb
  subst e;exact I1.fpOk (Nat.le_refl _) (I1.hok.fresh (Nat.le_refl _))
def nV(ta:TA):TI:=fun σ H R=>ta σ H fun vs H1=>∃j:Int,vs=[.int j]/\-(2^62)<=j/\j<2^62/\R (Itr 0 j.toNat) H1
theorem cR{a:Expr}{ta:TA}{p pos:Pos}(hg:Gl X "range")(hm:X.mg "range"=none)(ha:PA X [a] ta)(hs:starEach [a] X.env=[(false,eval a X.env)]:=by rfl):PI X tg (.Call (.Name "range" p) [a] [] pos) (nV ta):=by
 intro pins s σ H R I h;refine Call_ (iw I hg hm boot_range (PyProof.Rows.callWith_type1 (thn (ha pos pins s σ H _ I h) fun us s1 ⟨vs,H1,I1,r1,q1⟩=>?_) hs rfl));obtain⟨j,e,q1,q2,q⟩:=q1;subst e
 cases r1 with
 | cons r rr =>
  cases rr;obtain⟨t,rfl⟩:=r;exact call_range_1 (xR I1 (by omega) (by omega) q1 q2 (by simpa using q))
def FQ(wi:TI)(g:TG)(tb:TS):TS:=fun D σ H=>wi σ H fun J H1=>∃W:Nat->Nat->St->Hp->Prop,(∃m,W 0 m σ H1)/\∀i m σ H,W i m σ H ->
 (J.stop i H/\D.nx σ H)\/(J.go i H/\∃N:St->Hp->Prop,(∀σ' H',N σ' H'->∃m',m'<m/\W (i+1) m' σ' H')/\∀x H',J.yld i H x H'->g x σ H' fun σ2 H2=>tb { D with nx:=N,ct:=N,bk:=D.nx } σ2 H2)
def pL(fp:List Addr)(h:Heap):List (Addr×Obj):=fp.filterMap fun b=>(h.get? b).map fun o=>(b,o)
theorem ie{fp:List Addr}{h:Heap}{b:Addr}{o:Obj}(hb:b∈fp)(e:h.get? b=some o):(b,o)∈pL fp h:=mem_filterMap.mpr ⟨b,hb,by rw [e];rfl⟩
theorem vi{fp:List Addr}{h:Heap}{p:Addr×Obj}(hp:p∈pL fp h):p.1∈fp/\h.get? p.1=some p.2:=by
 obtain⟨b,hb,e⟩:=mem_filterMap.mp hp
 cases q:h.get? b with
 | none=>rw [q] at e;cases e
 | some o =>
  rw [q] at e;have e':(b,o)=p:=Option.some.inj e;subst e';exact⟨hb,q⟩
theorem Inv.pinned{pins:List (Addr×Obj)}{σ:St}{H:Hp}{s:Shared}{fp:List Addr}(I:Inv X pins σ H s)(hf:∀b∈fp,ui X pins H b)(ho:∀b∈fp,∃o,s.heap.get? b=some o/\∀v,o.data≠.cell v):Inv X (pins++pL fp s.heap) σ H s :=
 I.pins_of fun p hp=>(mem_append.mp hp).elim (fun z=>I.pin p (mem_append_right _ z)) fun z=>by
  obtain⟨hb,e⟩:=vi z;obtain⟨f0,f1,f2,_⟩:=hf p.1 hb;obtain⟨o,e',d⟩:=ho p.1 hb;rw [e] at e';cases e';exact⟨e,f0,f1,f2,d⟩
theorem Inv.unpinned{pins pl:List (Addr×Obj)}{σ:St}{H:Hp}{s:Shared}(I:Inv X (pins++pl) σ H s):Inv X pins σ H s:=I.pins_of fun p hp=>I.pin p (mem_append_right _ (mem_append_left _ hp))
theorem eG{iter:Expr}{body:List Stmt}{wi:TI}{g:TG}{tb:TS}{pos:Pos}(hp:PassesOwn (model X.prog X.w) X.A X.env X.xe)(hc:X.calm=true)(hi:PI X tg iter wi)(hg:PG X tg g)(hb:PSs X body tb)
  (hs:∀x,foldedSetIterable iter X.env x=pure x:=by intro _;rfl):PS X (.For tg iter body [] pos) (FQ wi g tb):=by
 intro pins s σ H D I h;refine wpAny_For (thn (hi pins s σ H _ I h) fun v s1 h1=>thn h1 fun itv s2 h2=>?_) hs;obtain⟨it,fp,tn,J,H2,e,I2,T,st2,f2,W,⟨m0,w0⟩,turn⟩:=h2;subst e
 -- what stays true of the iterator's objects through the loop
 have stat:∀{H':Hp},(∀b∈fp,H' b=none)->∀b∈fp,ui X pins H' b:=fun hn b hb=>⟨hn b hb,(f2 b hb).2⟩
 refine codeAny_forLoop_any (fun n s'=>∃i σ' H',Inv X pins σ' H' s'/\tn i s'.heap/\(∀b∈fp,H' b=none)/\W i n σ' H') ?_ m0 ⟨0,σ,H2,I2,st2,fun b hb=>(f2 b hb).1,w0⟩;rintro n s3 ⟨i,σ3,H3,I3,st3,fr3,w3⟩
 rcases turn i n σ3 H3 w3 with ⟨stop,qn⟩|⟨go,N,hN,step⟩
 .refine wpAny_passesOwn hp (thn (T.done X rfl rfl rfl hc i pins s3 σ3 H3 X.xe I3 (stat fr3) st3 stop) fun r s4 ⟨hr,I4⟩=>?_);subst hr;exact wpAny_execs_nil ⟨σ3,H3,I4,qn⟩
 .refine wpAny_passesOwn hp (thn (T.item X rfl rfl rfl hc i pins s3 σ3 H3 X.xe I3 (stat fr3) st3 go) fun r s4 ⟨u,hr,h4⟩=>?_);subst hr;refine wpAny_passesOwn hp (thn h4 fun _ s5 ⟨x,H5,I5,r5,y5,st5,fr5⟩=>?_);have I5':=I5.pinned (stat fr5) (T.obj _ _ st5);refine wpAny_passesOwn hp (thn (hg _ s5 σ3 H5 x u _ I5' r5 (step x H5 y5)) fun _ s6 ⟨σ6,H6,I6,q6⟩=>?_);refine wpAny_passesOwn hp (thn (hb _ s6 σ6 H6 _ I6 q6) fun f s7 q7=>?_)
  have again:∀{σ7:St}{H7:Hp},Inv X (pins++pL fp s5.heap) σ7 H7 s7->N σ7 H7->∃m,m<n/\∃i σ' H',Inv X pins σ' H' s7/\tn i s7.heap/\(∀b∈fp,H' b=none)/\W i m σ' H':=fun {σ7 H7} I7 n7=>by
   obtain⟨m',hm,w7⟩:=hN σ7 H7 n7;refine⟨m',hm,i+1,σ7,H7,I7.unpinned,T.keep _ _ _ st5 fun b hb o e=>(I7.pin (b,o) (mem_append_right _ (mem_append_right _ (ie hb e)))).1,fun b hb=>?_,w7⟩;obtain⟨o,e,d⟩:=T.obj _ _ st5 b hb;exact (I7.pin (b,o) (mem_append_right _ (mem_append_right _ (ie hb e)))).2.1
  cases f with
  | next=>obtain⟨σ7,H7,I7,n7⟩:=q7;exact again I7 n7
  | cont=>obtain⟨σ7,H7,I7,n7⟩:=q7;exact again I7 n7
  | brk=>obtain⟨σ7,H7,I7,q7⟩:=q7;exact⟨σ7,H7,I7.unpinned,q7⟩
  | ret v=>obtain⟨x7,σ7,H7,I7,r7,q7⟩:=q7;exact⟨x7,σ7,H7,I7.unpinned,r7,q7⟩
end
abbrev R2:=V->V->Hp->VK->Prop
def OpR(X:Cx)(f:Value->Value->Sem Value)(r:R2):Prop :=
 ∀(pins:List (Addr×Obj)) (s:Shared) (σ:St) (H:Hp) (x y:V) (v u:Value) (Q:VK),Inv X pins σ H s->ee x v->ee y u->r x y H Q ->
  wpAny (model X.prog X.w) X.A (f v u) (EP X pins σ Q) X.xe s
def UnR(X:Cx)(f:Value->Sem Value)(r:V->Hp->VK->Prop):Prop :=
 ∀(pins:List (Addr×Obj)) (s:Shared) (σ:St) (H:Hp) (x:V) (v:Value) (Q:VK),Inv X pins σ H s->ee x v->r x H Q ->
  wpAny (model X.prog X.w) X.A (f v) (EP X pins σ Q) X.xe s
def cN(X:Cx)(f:Value)(r:List V->Hp->VK->Prop):Prop :=
 ∀(pins:List (Addr×Obj)) (s:Shared) (σ:St) (H:Hp) (xs:List V) (us:List Value) (Q:VK),Inv X pins σ H s->bY xs us->r xs H Q ->
  wpAny (model X.prog X.w) X.A (call f us) (EP X pins σ Q) X.xe s
def Gq(X:Cx)(r:V->Hp->(Bool->Hp->Prop)->Prop):Prop :=
 ∀(pins:List (Addr×Obj)) (s:Shared) (σ:St) (H:Hp) (x:V) (v:Value) (Q:Bool->Hp->Prop),Inv X pins σ H s->ee x v->r x H Q ->
  wpAny (model X.prog X.w) X.A (truthy v) (TP X pins σ Q) X.xe s
def tOp(r:R2)(ta tb:TE):TE:=fun σ H Q=>ta σ H fun x H1=>tb σ H1 fun y H2=>r x y H2 Q
def tUn(r:V->Hp->VK->Prop)(ta:TE):TE:=fun σ H Q=>ta σ H fun x H1=>r x H1 Q
def rI(C:Int->Int->Prop)(g:Int->Int->V):R2:=fun x y H Q=>∃i j,x=.int i/\y=.int j/\C i j/\Q (g i j) H
def rI0(g:Int->Int->V):R2:=fun x y H Q=>∃i j,x=.int i/\y=.int j/\Q (g i j) H
def rU(g:Int->V):V->Hp->VK->Prop:=fun x H Q=>∃i,x=.int i/\Q (g i) H
section
variable {X:Cx}{a b c:Expr}{ta tb tc:TE}{pos:Pos}
theorem EG(ha:PE X a ta)(hb:PE X b tb){pins:List (Addr×Obj)}{s:Shared}{σ:St}{H:Hp}{R:V->V->Hp->Prop}(I:Inv X pins σ H s)
  (h:ta σ H fun x H1=>tb σ H1 fun y H2=>R x y H2) {Q:Value->Shared->Prop}{f:Value->Value->Sem Value}
  (hf:∀v u s2 x y H2,Inv X pins σ H2 s2->ee x v->ee y u->R x y H2->wpAny (model X.prog X.w) X.A (f v u) Q X.xe s2) :
  wpAny (model X.prog X.w) X.A (eval a X.env) (fun v s₁=>wpAny (model X.prog X.w) X.A (eval b X.env) (fun u s₂=>wpAny (model X.prog X.w) X.A (f v u) Q X.xe s₂) X.xe s₁) X.xe s:=by
 refine thn (ha pins s σ H _ I h) fun v s1 ⟨x,H1,I1,r1,q1⟩=>?_;refine thn (hb pins s1 σ H1 _ I1 q1) fun u s2 ⟨y,H2,I2,r2,q2⟩=>?_;exact hf v u s2 x y H2 I2 r1 r2 q2
theorem aE{op:Operator}{r:R2}(ho:OpR X (binaryOp op) r)(ha:PE X a ta)(hb:PE X b tb):PE X (.BinOp a op b pos) (tOp r ta tb):=by
 intro pins s σ H Q I h;exact wpAny_BinOp (EG ha hb I h fun v u s2 x y H2 I2 rx ry q=>ho pins s2 σ H2 x y v u Q I2 rx ry q)
theorem pM{op:UnaryOp}{r:V->Hp->VK->Prop}(ho:UnR X (unaryOp op) r)(ha:PE X a ta):PE X (.UnaryOp op a pos) (tUn r ta):=by
 intro pins s σ H Q I h;exact UnaryOp_ (thn (ha pins s σ H _ I h) fun v s1 ⟨x,H1,I1,r1,q1⟩=>ho pins s1 σ H1 x v Q I1 r1 q1)
theorem opI{f:Value->Value->Sem Value}{C:Int->Int->Prop}{g:Int->Int->Int}
  (rule:∀(i j:Int) (t u:Tok) (s:Shared) (Q:Value->Shared->Prop) (E:Value->Shared->Prop),C i j->Q (.int (g i j) s.toks) { s with toks:=s.toks+1 }->wpAny (model X.prog X.w) X.A (f (.int i t) (.int j u)) Q E s) :
  OpR X f (rI C fun i j=>.int (g i j)):=by
 intro pins s σ H x y v u Q I rx ry h;obtain⟨i,j,rfl,rfl,hc,q⟩:=h;obtain⟨t,rfl⟩:=rx;obtain⟨t',rfl⟩:=ry;exact rule i j t t' s _ _ hc ⟨.int (g i j),H,I.tok _,⟨_,rfl⟩,q⟩
theorem EH{f:Value->Value->Sem Value}{g:Int->Int->Int}
  (rule:∀(i j:Int) (t u:Tok) (s:Shared) (Q:Value->Shared->Prop) (E:Value->Shared->Prop),Q (.int (g i j) s.toks) { s with toks:=s.toks+1 }->wpAny (model X.prog X.w) X.A (f (.int i t) (.int j u)) Q E s) :
  OpR X f (rI0 fun i j=>.int (g i j)):=by
 intro pins s σ H x y v u Q I rx ry h;obtain⟨i,j,rfl,rfl,q⟩:=h;obtain⟨t,rfl⟩:=rx;obtain⟨t',rfl⟩:=ry;exact rule i j t t' s _ _ ⟨.int (g i j),H,I.tok _,⟨_,rfl⟩,q⟩
theorem B8{f:Value->Value->Sem Value}{g:Int->Int->Bool}
  (rule:∀(i j:Int) (t u:Tok) (s:Shared) (Q:Value->Shared->Prop) (E:Value->Shared->Prop),Q (.bool (g i j)) s->wpAny (model X.prog X.w) X.A (f (.int i t) (.int j u)) Q E s) :
  OpR X f (rI0 fun i j=>.bl (g i j)):=by
 intro pins s σ H x y v u Q I rx ry h;obtain⟨i,j,rfl,rfl,q⟩:=h;obtain⟨t,rfl⟩:=rx;obtain⟨t',rfl⟩:=ry;exact rule i j t t' s _ _ ⟨.bl (g i j),H,I,rfl,q⟩
def EI(i j:Int):Prop:=0<j/\j<1073741824
def CB(i j:Int):Prop:=0<=j/\j<=1000000/\i.natAbs<2^64
def Eu(i j:Int):Prop:=(-(2^64)<i/\i<2^64)\/(-(2^64)<j/\j<2^64)
theorem Eu.ok{i j:Int}(h:Eu i j):IntMulOk i j:=by
 rcases h with ⟨h1,h2⟩|⟨h1,h2⟩
 .exact .of_left (intBits_le_64 h1 h2)
 .exact .of_right (intBits_le_64 h1 h2)
theorem ul(k:Nat):(0:Int)<=2^k:=by
 rw [two_pow_cast];exact natCast_nonneg _
theorem CC:OpR X (binaryOp .Add) (rI0 fun i j=>.int (i+j)):=EH fun _ _ _ _ _ _ _ q=>add_int q
theorem CD:OpR X (binaryOp .Sub) (rI0 fun i j=>.int (i - j)):=EH fun _ _ _ _ _ _ _ q=>sub_int q
theorem CF:OpR X (binaryOp .Mult) (rI Eu fun i j=>.int (i*j)):=opI fun _ _ _ _ _ _ _ hc q=>mul_int q hc.ok
theorem Aq:OpR X (binaryOp .FloorDiv) (rI EI fun i j=>.int (i / j)):=opI fun i j _ _ _ _ _ hc q=>by
 have h1:(0:Int)<j:=hc.1;have h2:j<1073741824:=hc.2;exact floordiv_int (by omega) (by rw [fdiv_eq_ediv_of_nonneg i (by omega)];exact q) (.inl (PyProof.noPylong_small (by omega)))
theorem CG:OpR X (binaryOp .Mod) (rI (fun _ j=>0<j) fun i j=>.int (i % j)):=opI fun i j _ _ _ _ _ hc q=>by
 have h1:(0:Int)<j:=hc;exact mod_int' (by omega) (by rw [fmod_eq_emod_of_nonneg i (by omega)];exact q)
theorem CH:OpR X (binaryOp .Pow) (rI CB fun i j=>.int (i^j.toNat)):=opI fun _ _ _ _ _ _ _ hc q=>pow_int_small hc.1 hc.2.1 hc.2.2 q
theorem CI:OpR X (binaryOp .LShift) (rI CB fun i j=>.int (i*2^j.toNat)):=opI fun _ _ _ _ _ _ _ hc q=>lshift_int_small hc.1 hc.2.1 hc.2.2 q
theorem CJ:OpR X (binaryOp .RShift) (rI (fun _ j=>0<=j) fun i j=>.int (i / 2^j.toNat)):=opI fun i j _ _ _ _ _ hc q =>
 rshift_int hc (by rw [fdiv_eq_ediv_of_nonneg i (ul _)];exact q)
theorem CK:OpR X (binaryOp .BitAnd) (rI0 fun i j=>.int (Builtin.bitAnd i j)):=EH fun _ _ _ _ _ _ _ q=>and_int q
theorem unI{f:Value->Sem Value}{g:Int->Int}
  (rule:∀(i:Int) (t:Tok) (s:Shared) (Q:Value->Shared->Prop) (E:Value->Shared->Prop),Q (.int (g i) s.toks) { s with toks:=s.toks+1 }->wpAny (model X.prog X.w) X.A (f (.int i t)) Q E s) :
  UnR X f (rU fun i=>.int (g i)):=by
 intro pins s σ H x v Q I rx h;obtain⟨i,rfl,q⟩:=h;obtain⟨t,rfl⟩:=rx;exact rule i t s _ _ ⟨.int (g i),H,I.tok _,⟨_,rfl⟩,q⟩
theorem j6:UnR X (unaryOp .USub) (rU fun i=>.int (-i)):=unI fun _ _ _ _ _ q=>neg_int q
end
def FS:V->V->Bool
 | .non,.non=>true|.non,.int _=>true|.int _,.non=>true|.non,.bl _=>true|.bl _,.non=>true|.non,.str _=>true|.str _,.non=>true
 | .int _,.int _=>true|.bl _,.bl _=>true|.str _,.str _=>true|.byt _,.byt _=>true
 | .int _,.str _=>true|.str _,.int _=>true|.bl _,.str _=>true|.str _,.bl _=>true
 | _,_=>false
def rEq:R2:=fun x y H Q=>FS x y=true/\Q (.bl (decide (x=y))) H
def rNe:R2:=fun x y H Q=>FS x y=true/\Q (.bl (!decide (x=y))) H
theorem vj{i j:Int}:decide (V.int i=V.int j)=(i == j):=by
 rw [Bool.eq_iff_iff];simp
theorem zt{i j:Bool}:decide (V.bl i=V.bl j)=(i == j):=by
 rw [Bool.eq_iff_iff];simp
theorem vk{i j:Str}:decide (V.str i=V.str j)=(i == j):=by
 rw [Bool.eq_iff_iff];simp
theorem vm{i j:Array UInt8}:decide (V.byt i=V.byt j)=(i.toList == j.toList):=by
 rw [Bool.eq_iff_iff];cases i;cases j;simp
section
variable {X:Cx}{a b c:Expr}{ta tb tc:TE}{pos:Pos}
theorem b6{pins:List (Addr×Obj)}{σ:St}{H:Hp}{s:Shared}{Q:VK}{k k':Bool}(I:Inv X pins σ H s)(q:Q (.bl k) H)(e:k=k'):EP X pins σ Q (.bool k') s:=by
 subst e;exact⟨.bl k,H,I,rfl,q⟩
theorem EJ:OpR X (compareOp .Eq) rEq:=by
 intro pins s σ H x y v u Q I rx ry h;obtain⟨hs,q⟩:=h
 cases x with
 | non =>
  cases rx
  cases y with
  | non=>cases ry;exact PySem.EqNone.eq_none_none (b6 I q (by simp))
  | bl j=>cases ry;exact PySem.EqNone.eq_none_bool (b6 I q (by simp))
  | int j=>obtain⟨t',rfl⟩:=ry;exact PySem.EqNone.eq_none_int (b6 I q (by simp))
  | str j=>obtain⟨t',rfl⟩:=ry;exact PySem.EqNone.eq_none_str (b6 I q (by simp))
  | _=>exact absurd (show false=true from hs) Bool.false_ne_true
 | bl i =>
  cases rx
  cases y with
  | non=>cases ry;exact PySem.EqNone.eq_bool_none (b6 I q (by simp))
  | bl j=>cases ry;exact eq_bool (b6 I q zt)
  | str j=>obtain⟨t',rfl⟩:=ry;exact PySem.EqMixed.eq_bool_str (b6 I q (by simp))
  | _=>exact absurd (show false=true from hs) Bool.false_ne_true
 | int i =>
  obtain⟨t,rfl⟩:=rx
  cases y with
  | non=>cases ry;exact PySem.EqNone.eq_int_none (b6 I q (by simp))
  | int j=>obtain⟨t',rfl⟩:=ry;exact eq_int (b6 I q vj)
  | str j=>obtain⟨t',rfl⟩:=ry;exact PySem.EqMixed.eq_int_str (b6 I q (by simp))
  | _=>exact absurd (show false=true from hs) Bool.false_ne_true
 | str i =>
  obtain⟨t,rfl⟩:=rx
  cases y with
  | non=>cases ry;exact PySem.EqNone.eq_str_none (b6 I q (by simp))
  | bl j=>cases ry;exact PySem.EqMixed.eq_str_bool (b6 I q (by simp))
  | int j=>obtain⟨t',rfl⟩:=ry;exact PySem.EqMixed.eq_str_int (b6 I q (by simp))
  | str j=>obtain⟨t',rfl⟩:=ry;exact eq_str (b6 I q vk)
  | _=>exact absurd (show false=true from hs) Bool.false_ne_true
 | byt i =>
  obtain⟨t,rfl⟩:=rx
  cases y with
  | byt j=>obtain⟨t',rfl⟩:=ry;exact PySem.W.eq_bytes (b6 I q vm)
  | _=>exact absurd (show false=true from hs) Bool.false_ne_true
 | _=>cases y <;> exact absurd (show false=true from hs) Bool.false_ne_true
theorem EK:OpR X (compareOp .NotEq) rNe:=by
 intro pins s σ H x y v u Q I rx ry h;obtain⟨hs,q⟩:=h
 cases x with
 | non =>
  cases rx
  cases y with
  | non=>cases ry;exact PySem.EqNone.ne_none_none (b6 I q (by simp))
  | bl j=>cases ry;exact PySem.EqNone.ne_none_bool (b6 I q (by simp))
  | int j=>obtain⟨t',rfl⟩:=ry;exact PySem.EqNone.ne_none_int (b6 I q (by simp))
  | str j=>obtain⟨t',rfl⟩:=ry;exact PySem.EqNone.ne_none_str (b6 I q (by simp))
  | _=>exact absurd (show false=true from hs) Bool.false_ne_true
 | bl i =>
  cases rx
  cases y with
  | non=>cases ry;exact PySem.EqNone.ne_bool_none (b6 I q (by simp))
  | bl j=>cases ry;exact ne_bool (b6 I q (congrArg not zt))
  | str j=>obtain⟨t',rfl⟩:=ry;exact PySem.EqMixed.ne_bool_str (b6 I q (by simp))
  | _=>exact absurd (show false=true from hs) Bool.false_ne_true
 | int i =>
  obtain⟨t,rfl⟩:=rx
  cases y with
  | non=>cases ry;exact PySem.EqNone.ne_int_none (b6 I q (by simp))
  | int j=>obtain⟨t',rfl⟩:=ry;exact ne_int (b6 I q (congrArg not vj))
  | str j=>obtain⟨t',rfl⟩:=ry;exact PySem.EqMixed.ne_int_str (b6 I q (by simp))
  | _=>exact absurd (show false=true from hs) Bool.false_ne_true
 | str i =>
  obtain⟨t,rfl⟩:=rx
  cases y with
  | non=>cases ry;exact PySem.EqNone.ne_str_none (b6 I q (by simp))
  | bl j=>cases ry;exact PySem.EqMixed.ne_str_bool (b6 I q (by simp))
  | int j=>obtain⟨t',rfl⟩:=ry;exact PySem.EqMixed.ne_str_int (b6 I q (by simp))
  | str j=>obtain⟨t',rfl⟩:=ry;exact ne_str (b6 I q (congrArg not vk))
  | _=>exact absurd (show false=true from hs) Bool.false_ne_true
 | byt i =>
  obtain⟨t,rfl⟩:=rx
  cases y with
  | byt j=>obtain⟨t',rfl⟩:=ry;exact PySem.W.ne_bytes (b6 I q (congrArg not vm))
  | _=>exact absurd (show false=true from hs) Bool.false_ne_true
 | _=>cases y <;> exact absurd (show false=true from hs) Bool.false_ne_true
theorem EL:OpR X (compareOp .Lt) (rI0 fun i j=>.bl (decide (i<j))):=B8 fun _ _ _ _ _ _ _ q=>lt_int q
theorem EM:OpR X (compareOp .LtE) (rI0 fun i j=>.bl (decide (i<=j))):=B8 fun _ _ _ _ _ _ _ q=>le_int q
theorem EN:OpR X (compareOp .Gt) (rI0 fun i j=>.bl (decide (j<i))):=B8 fun _ _ _ _ _ _ _ q=>gt_int q
theorem EO:OpR X (compareOp .GtE) (rI0 fun i j=>.bl (decide (j<=i))):=B8 fun _ _ _ _ _ _ _ q=>ge_int q
theorem vn:OpR X (compareOp .Lt) (fun x y H Q=>∃i j,x=.str i/\y=.str j/\Q (.bl (decide (i.cps.toList<j.cps.toList))) H):=by
 intro pins s σ H x y v u Q I rx ry h;obtain⟨i,j,rfl,rfl,q⟩:=h;obtain⟨t,rfl⟩:=rx;obtain⟨t',rfl⟩:=ry;exact lt_str (b6 I q rfl)
theorem OpR.or{f:Value->Value->Sem Value}{r r':R2}(h:OpR X f r)(h':OpR X f r'):OpR X f (fun x y H Q=>r x y H Q\/r' x y H Q):=by
 intro pins s σ H x y v u Q I rx ry q
 rcases q with q|q
 .exact h pins s σ H x y v u Q I rx ry q
 .exact h' pins s σ H x y v u Q I rx ry q
theorem bH(b:Expr){op:CmpOp}(h:op≠.In:=by decide)(h2:op≠.NotIn:=by decide):behindInMarks op b=false:=by
 have e1:(op == CmpOp.In)=false:=by cases op <;> first|rfl|exact absurd rfl h
 have e2:(op == CmpOp.NotIn)=false:=by cases op <;> first|rfl|exact absurd rfl h2
 cases b <;> simp [behindInMarks,e1,e2]
theorem eH{op:CmpOp}{r:R2}(ho:OpR X (compareOp op) r)(ha:PE X a ta)(hb:PE X b tb)(hm:behindInMarks op b=false):PE X (.Compare a [op] [b] pos) (tOp r ta tb):=by
 intro pins s σ H Q I h;exact wpAny_Compare1 (EG ha hb I h fun v u s2 x y H2 I2 rx ry q=>ho pins s2 σ H2 x y v u Q I2 rx ry q) hm
def nW(t:TE):TT:=fun σ H Q=>t σ H fun x H'=>∃k,x=.bl k/\Q k H'
theorem bw{op:CmpOp}{r:R2}(ho:OpR X (compareOp op) r)(ha:PE X a ta)(hb:PE X b tb)(hm:behindInMarks op b=false):PT X (.Compare a [op] [b] pos) (nW (tOp r ta tb)):=by
 intro pins s σ H Q I h
 refine wpAny_isTrue_Compare1 (thn (ha pins s σ H _ I h) fun v s1 ⟨x,H1,I1,r1,q1⟩=>thn (hb pins s1 σ H1 _ I1 q1) fun u s2 ⟨y,H2,I2,r2,q2⟩ =>
  thn (ho pins s2 σ H2 x y v u _ I2 r1 r2 q2) fun c s3 ⟨z,H3,I3,r3,k,e,q3⟩=>?_) hm
 subst e;cases r3;exact wpAny_truthy_bool ⟨H3,I3,q3⟩
def sR(r r':R2)(ta tb tc:TE):TE:=fun σ H Q=>ta σ H fun x H1=>tb σ H1 fun y H2=>r x y H2 fun z H3=>∃k,z=.bl k /\
 (if k=true then tc σ H3 fun w' H4=>r' y w' H4 Q else Q (.bl false) H3)
theorem xS{op op':CmpOp}{r r':R2}(ho:OpR X (compareOp op) r)(ho':OpR X (compareOp op') r')(ha:PE X a ta)(hb:PE X b tb)(hc:PE X c tc)
  (hm:lastMarks [op,op'] [b,c]=false:=by with_unfolding_all rfl):PE X (.Compare a [op,op'] [b,c] pos) (sR r r' ta tb tc):=by
 intro pins s σ H Q I h
 refine Compare_chain (thn (ha pins s σ H _ I h) fun v s1 ⟨x,H1,I1,r1,q1⟩=>chain_link (thn (hb pins s1 σ H1 _ I1 q1) fun u s2 ⟨y,H2,I2,r2,q2⟩ =>
  thn (ho pins s2 σ H2 x y v u _ I2 r1 r2 q2) fun d s3 ⟨z,H3,I3,r3,k,e,q3⟩=>?_)) hm
 subst e;cases r3;refine wpAny_truthy_bool ?_
 cases k with
 | false=>exact ite_ff ⟨.bl false,H3,I3,rfl,q3⟩
 | true=>exact ite_tt (chain_last (thn (hc pins s3 σ H3 _ I3 q3) fun w' s4 ⟨z',H4,I4,r4,q4⟩=>ho' pins s4 σ H4 y z' u w' Q I4 r2 r4 q4))
theorem xT{op op':CmpOp}{r r':R2}(ho:OpR X (compareOp op) r)(ho':OpR X (compareOp op') r')(ha:PE X a ta)(hb:PE X b tb)(hc:PE X c tc)
  (hm:lastMarks [op,op'] [b,c]=false:=by with_unfolding_all rfl):PT X (.Compare a [op,op'] [b,c] pos) (nW (sR r r' ta tb tc)):=by
 intro pins s σ H Q I h
 refine isTrue_chain (thn (ha pins s σ H _ I h) fun v s1 ⟨x,H1,I1,r1,q1⟩=>test_link (thn (hb pins s1 σ H1 _ I1 q1) fun u s2 ⟨y,H2,I2,r2,q2⟩ =>
  thn (ho pins s2 σ H2 x y v u _ I2 r1 r2 q2) fun d s3 ⟨z,H3,I3,r3,k,e,q3⟩=>?_)) hm
 subst e;cases r3;refine wpAny_truthy_bool ?_
 cases k with
 | false =>
  obtain⟨k',e',q'⟩:=q3;cases e';exact ite_ff ⟨H3,I3,q'⟩
 | true =>
  refine ite_tt (test_last (thn (hc pins s3 σ H3 _ I3 q3) fun w' s4 ⟨z',H4,I4,r4,q4⟩=>thn (ho' pins s4 σ H4 y z' u w' _ I4 r2 r4 q4) fun d' s5 ⟨z2,H5,I5,r5,k2,e2,q5⟩=>?_));subst e2;cases r5;exact wpAny_truthy_bool ⟨H5,I5,q5⟩
def Ev(K:PySem.W.Frag)(x:V)(H:Hp)(k:Bool):Prop :=
 match x with
 | .non=>k=false
 | .bl b=>k=b
 | .int i=>k=(i != 0)
 | .str y=>y.length<=sizeLine/\k=((y.length:Int) != 0)
 | .byt y=>y.size<=sizeLine/\k=((y.size:Int) != 0)
 | .ref p=>(∃xs,SqL K H p xs/\k=!xs.isEmpty)\/(∃xs,SqT K H p xs/\k=!xs.isEmpty)\/∃kvs,H p=some (.dK kvs)/\k=!kvs.isEmpty
 | _=>False
theorem um{κ:Type}{kvs:List (κ×V)}{vs:List (κ×Value)}(r:KV kvs vs):(!vs.isEmpty)=!kvs.isEmpty:=by
 cases r <;> rfl
theorem mT{xs:List V}{its:List Value}(r:bY xs its):(!its.toArray.isEmpty)=!xs.isEmpty:=by
 cases r <;> simp
theorem kY:(sizeLine:Nat)<2^63:=by rw [sizeLine_eq];decide
theorem zu:Gq X (fun x H Q=>∃k,Ev X.K x H k/\Q k H):=by
 intro pins s σ H x v Q I rx h;obtain⟨k,e,q⟩:=h;have hl:=kY;have hs:sizeLine=16777216:=sizeLine_eq
 cases x with
 | non =>
  cases rx;have e':k=false:=e;subst e';exact truthy_none ⟨H,I,q⟩
 | bl b =>
  cases rx;have e':k=b:=e;subst e';exact wpAny_truthy_bool ⟨H,I,q⟩
 | int i =>
  obtain⟨t,rfl⟩:=rx;have e':k=(i != 0):=e;subst e';exact PySem.P.truthy_int ⟨H,I,q⟩
 | str y =>
  obtain⟨t,rfl⟩:=rx;obtain⟨hy,e'⟩:y.length<=sizeLine/\k=((y.length:Int) != 0):=e;subst e';exact PySem.P.truthy_str (by omega) ⟨H,I.tok _,q⟩
 | byt y =>
  obtain⟨t,rfl⟩:=rx;obtain⟨hy,e'⟩:y.size<=sizeLine/\k=((y.size:Int) != 0):=e;subst e';exact PySem.W.truthy_bytes (by omega) ⟨H,I.tok _,q⟩
 | ref p =>
  cases rx;have e':(∃xs,SqL X.K H p xs/\k=!xs.isEmpty)\/(∃xs,SqT X.K H p xs/\k=!xs.isEmpty)\/∃kvs,H p=some (.dK kvs)/\k=!kvs.isEmpty:=e
  rcases e' with ⟨xs,hx,e'⟩|⟨xs,hx,e'⟩|⟨kvs,hx,e'⟩
  .subst e';obtain⟨its,r,pl,hz⟩:=I.list hx;have hlen:=r.length;exact wpAny_truthy_list pl.isList (by simp only [size_toArray];omega) ⟨H,I.tok _,by rw [mT r];exact q⟩
  .subst e';obtain⟨its,r,pl,hz⟩:=I.tuple hx;have hlen:=r.length;exact truthy_tuple pl (by simp only [size_toArray];omega) ⟨H,I.tok _,by rw [mT r];exact q⟩
  .subst e';obtain⟨hz,hS,vs,r,m⟩:kvs.length<=sizeLine/\(p == sysModules)=false/\∃vs,KV kvs vs/\s.heap.DictOf (nQ X.prog X.w) p vs:=I.hok p _ hx;have hlen:kvs.length=vs.length:=Paired.length r;exact wpAny_truthy_dict hS m (by omega) ⟨H,I.tok _,by rw [um r];exact q⟩
 | _=>exact (show False from e).elim
theorem xU(ha:PE X a ta)(he:∀whole,isTrue a X.env whole=(do let v <- whole;standAt a.pos;holding [v] (truthy v))) :
  PT X a (fun σ H Q=>ta σ H fun x H'=>∃k,Ev X.K x H' k/\Q k H'):=by
 intro pins s σ H Q I h;exact isTrue_plain (thn (ha pins s σ H _ I h) fun v s1 ⟨x,H1,I1,r1,q1⟩=>zu pins s1 σ H1 x v Q I1 r1 q1) (he _)
theorem uo:OpR X (binaryOp .Add) (fun x y H Q=>∃i j,x=.str i/\y=.str j/\i.length+j.length<=sizeLine/\Q (.str (i++j)) H):=by
 intro pins s σ H x y v u Q I rx ry h;obtain⟨i,j,rfl,rfl,hz,q⟩:=h;obtain⟨t,rfl⟩:=rx;obtain⟨t',rfl⟩:=ry;exact add_str (fun t' tk=>⟨.str (i++j),H,I.tok _,⟨_,rfl⟩,q⟩) hz
theorem iq{x:V}{us:List Value}(r:bY [x] us):∃u,us=[u]/\ee x u:=by
 cases r with
 | cons r1 r2=>cases r2;exact⟨_,rfl,r1⟩
theorem CL{x y:V}{us:List Value}(r:bY [x,y] us):∃u w',us=[u,w']/\ee x u/\ee y w':=by
 cases r with
 | cons r1 r2 =>
  cases r2 with
  | cons r3 r4=>cases r4;exact⟨_,_,rfl,r1,r3⟩
theorem vo(hc:X.calm=true):cN X (.builtin "min") (fun xs H Q=>∃i j,xs=[.int i,.int j]/\Q (.int (if j<i then j else i)) H):=by
 intro pins s σ H xs us Q I r h;obtain⟨i,j,rfl,q⟩:=h;obtain⟨u,w',rfl,⟨t,rfl⟩,⟨t',rfl⟩⟩:=CL r;refine min_two_ints (I.ok.hd hc) fun h' tk k=>⟨_,H,I.kept k,?_,q⟩
 by_cases hj:j<i
 .rw [if_pos hj,if_pos hj];exact⟨_,rfl⟩
 .rw [if_neg hj,if_neg hj];exact⟨_,rfl⟩
end
structure Ar (h:Heap) (x dx C:Addr) (mA:Str->Option Value):Prop where
 obj:h.get? x=some (PySem.W.instObj C dx)
 ns:h.Ns1 dx mA
 ne:dx≠x
theorem vp{h:Heap}{dx:Addr}{mA:Str->Option Value}(n:h.Ns1 dx mA):∃od,h.get? dx=some od/\∀name,PySem.W.lookIn name od=some (mA name):=by
 obtain⟨o,es,ep,ho,hd,hk,_,hm⟩:=n;refine⟨o,ho,fun name=>?_⟩;have e:=hm name;unfold nsFind findBy at e;rw [<- Array.find?_toList] at e;unfold PySem.W.lookIn;rw [hd];dsimp only
 split
 .rename_i y q;rw [q] at e;exact congrArg some e
 .rename_i q;rw [q] at e
  have a:es.toList.any (·.refKey)=false:=by
   rw [any_eq_false];intro y hy;obtain⟨z,t,hkey⟩:=hk y (Array.mem_toList_iff.mp hy);simp [DictEntry.refKey,hkey]
  have a':¬ es.toList.any (·.refKey)=true:=by rw [a];exact Bool.false_ne_true
  rw [if_neg a'];exact congrArg some e
theorem Ar.look{h:Heap}{x dx C:Addr}{mA:Str->Option Value}(I:Ar h x dx C mA):∃od,PySem.W.InstAt h x (PySem.W.instObj C dx) C (some od)/\∀name,PySem.W.lookIn name od=some (mA name) :=
 let ⟨od,ho,hl⟩:=vp I.ns
 ⟨od,⟨I.obj,rfl,rfl,ho⟩,hl⟩
section
variable {prog:Program}{w:World}{A:Around}{E:Value->Shared->Prop}{s:Shared}{K:PySem.W.Frag}{x dx C f:Addr}{mA:Str->Option Value}{name:Str}{v:Value}
theorem As{expr:Bool}{Q:Value->Shared->Prop}(X:K.In s.heap)(I:Ar s.heap x dx C mA)(hg:PySem.W.plainGet K C name=true)(hh:PySem.W.hasDictIn K C=true)
  (ha:PySem.W.findIn K (.ref C) name=some none) (hv:mA name=some v) (hv':PySem.W.handedIn v=true) (h:Q v { s with toks:=s.toks+1 }) :
  wpAny (model prog w) A (getAttr (.ref x) name expr) Q E s:=by
 obtain⟨od,J,hl⟩:=I.look;exact PySem.W.get_value X J (PySem.W.plainGet_of hg).1 (PySem.W.findObj_own hh ha rfl (by rw [hl,hv])) hv' h
theorem xV{pl:Sem Bool}{Q:Value×List Value->Shared->Prop}(X:K.In s.heap)(I:Ar s.heap x dx C mA)(hg:PySem.W.plainGet K C name=true)
  (hf:PySem.W.findIn K (.ref C) name=some (some (.ref f))) (ht:PySem.W.isFn K (.ref f)=true) (hv:mA name=none) (h:Q (.ref f,[.ref x]) s) :
  wpAny (model prog w) A (getMethod (.ref x) name pl) Q E s:=by
 obtain⟨od,J,hl⟩:=I.look;exact PySem.W.method_fn X J (PySem.W.plainGet_of hg).1 (PySem.W.plainGet_of hg).2 hf (beq_iff_eq.mp ht) (by show (PySem.W.lookIn name od).map (·.isSome)=some false;rw [hl,hv];rfl) h
theorem At{ns:List Str}{Q:Unit->Shared->Prop}(X:K.In s.heap)(I:Ar s.heap x dx C mA)
  (hs:PySem.W.findIn K (.ref C) "__setattr__"=some (some (.builtin "object.__setattr__"))) (hp:PySem.W.plainOver K C=true) (ht:PySem.W.takerIn K C name=some none) (hh:PySem.W.hasDictIn K C=true)
  (hw:PySem.Within mA ns) (hsz:ns.length<=sizeLine)
  (h:∀h',Ar h' x dx C (fun y=>if y=name then some v else mA y)->Heap.SameBut dx s.heap h'->Q () { s with heap:=h',toks:=s.toks+2 }) :
  wpAny (model prog w) A (setAttr (.ref x) name v) Q E s:=by
 obtain⟨od,J,hl⟩:=I.look;refine PySem.W.set_plain X J hs (PySem.W.osa_open (s:={ s with toks:=s.toks+1 }) (r:=none) X J hp ht fun b=>?_);obtain⟨cd,hc,hd'⟩:=PySem.W.any_some hh;have hx:s.heap.get? x=some ⟨.ref C,some dx,.plain,#[]⟩:=I.obj;refine wpAny_bind (wpAny_pure (wpAny_bind (wpAny_bind (wpAny_loadPart hx (wpAny_bind (PySem.W.Looks.here (s:={ s with toks:=s.toks+1 }) (PySem.W.looks_clsIn X hc) ?_))))))
 rw [hd'];refine wpAny_pure (a:=some dx) (wpAny_bind (wpAny_pure (wpAny_bind ?_)));refine wpAny_nsSet1 (s:={ s with toks:=s.toks+1 }) I.ns fun h' hn2 hs2=>?_;obtain⟨oD,esD,epD,hoD,hdD,hcD⟩:=hn2.count (PySem.Within.cons name v hw);refine wpAny_bind (wpAny_lookBehind hoD (by rw [hdD];exact pastItsLine_dict (Nat.le_trans hcD (by rw [length_cons];omega))) ?_);exact wpAny_pure (h _ ⟨(hs2.2 _ (Ne.symm I.ne)).trans I.obj,hn2,I.ne⟩ hs2)
theorem xW{R:Result->Shared->Prop}{vs:List Value}{kw:List (Str×Value)}(X:K.In s.heap)(hm:PySem.W.makesIn K C=true)
  (hi:PySem.W.findIn K (.ref C) "__init__"=some (some (.ref f))) (hf:PySem.W.typeIn K (.ref f)=some (.type "function"))
  (h:codeAny (model prog w) (A.under (.builtin "type.__call__" ⟨.ref C::vs,kw⟩)) (.call (.ref f) ⟨.ref (s.heap.objs.size+1)::vs,kw⟩) (PySem.W.InitBack (s.heap.objs.size+1) R)
   { s with heap:=(s.heap.push PySem.W.emptyDict).push (PySem.W.instObj C s.heap.objs.size) }) :
  codeAny (model prog w) A (.call (.ref C) ⟨vs,kw⟩) R s:=by
 obtain⟨hh,g,d,t,os⟩:=s;exact PySem.W.make_core (PySem.W.makes_of X hm) (PySem.W.looks_findIn X hi) (fun self=>PySem.W.bind_fn X self hf) (.inl rfl) h
end
def mU(f:Str)(v:V):List (Str×V)->List (Str×V)
 | []=>[(f,v)]
 | (g,x)::r=>if g=f then (g,v)::r else (g,x)::mU f v r
theorem kZ(f g:Str)(v:V):∀fs:List (Str×V),(mU f v fs).lookup g=if g=f then some v else fs.lookup g
 | []=>by
  show List.lookup g [(f,v)]=_
  by_cases h:g=f
  .have hb:(g == f)=true:=beq_iff_eq.mpr h;simp only [List.lookup,hb,if_pos h]
  .have hb:(g == f)=false:=beq_eq_false_iff_ne.mpr h;simp only [List.lookup,hb,if_neg h]
 | (k,x)::r=>by
  have ih:=kZ f g v r;rw [show mU f v ((k,x)::r)=(if k=f then (k,v)::r else (k,x)::mU f v r) from rfl]
  by_cases hk:k=f
  .rw [if_pos hk]
   by_cases h:g=k
   .have hb:(g == k)=true:=beq_iff_eq.mpr h;simp only [List.lookup,hb,if_pos (h.trans hk)]
   .have hb:(g == k)=false:=beq_eq_false_iff_ne.mpr h;simp only [List.lookup,hb,if_neg (fun e:g=f=>h (e.trans hk.symm))]
  .rw [if_neg hk]
   by_cases h:g=k
   .have hb:(g == k)=true:=beq_iff_eq.mpr h;simp only [List.lookup,hb,if_neg (fun e:g=f=>hk (h.symm.trans e))]
   .have hb:(g == k)=false:=beq_eq_false_iff_ne.mpr h;simp only [List.lookup,hb];exact ih
theorem k6(f:Str)(v:V):∀fs:List (Str×V),f∈(mU f v fs).map (·.1)/\∀g,g∈fs.map (·.1)->g∈(mU f v fs).map (·.1)
 | []=>⟨by simp [mU],fun g h=>by simp at h⟩
 | (k,x)::r=>by
  obtain⟨i1,i2⟩:=k6 f v r;rw [show mU f v ((k,x)::r)=(if k=f then (k,v)::r else (k,x)::mU f v r) from rfl]
  by_cases hk:k=f
  .rw [if_pos hk];subst hk;exact⟨by simp,fun g h=>by simpa using h⟩
  .rw [if_neg hk]
   refine⟨?_,fun g h=>?_⟩
   .rw [map_cons];exact mem_cons_of_mem _ i1
   .rw [map_cons] at h ⊢
    rcases mem_cons.mp h with e|e
    .exact mem_cons.mpr (.inl e)
    .exact mem_cons_of_mem _ (i2 g e)
theorem k8(f:Str)(v:V):∀fs:List (Str×V),(mU f v fs).length<=fs.length+1
 | []=>by simp [mU]
 | (k,x)::r=>by
  have ih:=k8 f v r;rw [show mU f v ((k,x)::r)=(if k=f then (k,v)::r else (k,x)::mU f v r) from rfl]
  by_cases hk:k=f
  .rw [if_pos hk,length_cons,length_cons];omega
  .rw [if_neg hk,length_cons,length_cons];omega
theorem xF.some_of{v:V}{o:Option Value}(r:xF (some v) o):∃u,o=some u/\ee v u:=by
 cases o with
 | none=>exact (show False from r).elim
 | some u=>exact⟨u,rfl,r⟩
theorem xF.none_of{o:Option Value}(r:xF none o):o=none:=by
 cases o with
 | none=>rfl
 | some u=>exact (show False from r).elim
theorem vq{v:V}{u:Value}(r:ee v u):PySem.W.handedIn u=true:=by
 cases v with
 | non=>cases (show u=Value.none from r);rfl
 | bl b=>cases (show u=Value.bool b from r);rfl
 | int i=>obtain⟨t,e⟩:=(show ∃t,u=Value.int i t from r);cases e;rfl
 | str x=>obtain⟨t,e⟩:=(show ∃t,u=Value.str x t from r);cases e;rfl
 | byt b=>obtain⟨t,e⟩:=(show ∃t,u=Value.bytes b t from r);cases e;rfl
 | flt b=>obtain⟨t,e⟩:=(show ∃t,u=Value.float b t from r);cases e;rfl
 | ref a=>cases (show u=Value.ref a from r);rfl
 | ty n=>cases (show u=Value.type n from r);rfl
section
variable {P:Program}{w:World}{H H':Hp}{h h':Heap}{a C dx:Addr}{fs fs':List (Str×V)}
theorem nX(hok:HOk P w H h)(e:H a=some (.ins C dx fs)):∃mA,Ar h a dx C mA/\(∀f,xF (fs.lookup f) (mA f))/\PySem.Within mA (fs.map (·.1))/\fs.length<=1000/\H dx=some (.own a):=by
 obtain⟨d,z,ne,ob,mA,n,r,q⟩:=(show dy P w H h a (.ins C dx fs) from hok a _ e)
 exact⟨mA,⟨ob,n,ne⟩,r,q,z,d⟩
end
structure Cls (K:PySem.W.Frag) (C:Addr):Prop where
 pg:PySem.W.plainGet K C Str.empty=true
 hd:PySem.W.hasDictIn K C=true
 po:PySem.W.plainOver K C=true
 sa:PySem.W.findIn K (.ref C) "__setattr__"=some (some (.builtin "object.__setattr__"))
theorem Cls.get{K:PySem.W.Frag}{C:Addr}(c:Cls K C)(f:Str):PySem.W.plainGet K C f=true:=c.pg
def eU(K:PySem.W.Frag)(C:Addr)(f:Str):Prop:=PySem.W.findIn K (.ref C) f=some none
theorem eU.taker{K:PySem.W.Frag}{C:Addr}{f:Str}(n:eU K C f):PySem.W.takerIn K C f=some none:=by
 unfold PySem.W.takerIn;rw [show PySem.W.findIn K (.ref C) f=some none from n];rfl
structure Ew (K:PySem.W.Frag) (C:Addr) (m:Str) (f:Addr):Prop where
 at_:PySem.W.findIn K (.ref C) m=some (some (.ref f))
 fn:PySem.W.isFn K (.ref f)=true
 kp:PySem.W.keepIn K (.ref f)=true
section
variable {X:Cx}{pins:List (Addr×Obj)}{σ:St}{H:Hp}{s:Shared}{a C dx:Addr}{fs:List (Str×V)}{f:Str}{v:V}{A:Around}{E:Value->Shared->Prop}
theorem uq{b:Bool}{Q:Value->Shared->Prop}(I:Inv X pins σ H s)(e:H a=some (.ins C dx fs))(c:Cls X.K C)(n:eU X.K C f)(l:fs.lookup f=some v)
  (h:∀u s',Inv X pins σ H s'->ee v u->Q u s'):wpAny (model X.prog X.w) A (getAttr (.ref a) f b) Q E s:=by
 obtain⟨mA,O,r,_,_,_⟩:=nX I.hok e;obtain⟨u,hu,ru⟩:=xF.some_of (v:=v) (o:=mA f) (by rw [<- l];exact r f);exact As I.kIn O (c.get f) c.hd n hu (vq ru) (h u _ (I.tok _) ru)
theorem ur{m:Str}{g:Addr}{pl:Sem Bool}{Q:Value×List Value->Shared->Prop}(I:Inv X pins σ H s)(e:H a=some (.ins C dx fs))(c:Cls X.K C)(k:Ew X.K C m g)(l:fs.lookup m=none)
  (h:Q (.ref g,[.ref a]) s):wpAny (model X.prog X.w) A (getMethod (.ref a) m pl) Q E s:=by
 obtain⟨mA,O,r,_,_,_⟩:=nX I.hok e;have hn:mA m=none:=xF.none_of (by rw [<- l];exact r m);exact xV I.kIn O (c.get m) k.at_ k.fn hn h
theorem ut{y:V}{u:Value}{Q:Unit->Shared->Prop}(I:Inv X pins σ H s)(e:H a=some (.ins C dx fs))(c:Cls X.K C)(n:eU X.K C f)(hl:fs.length<1000)(ry:ee y u)
  (h:∀s',Inv X pins σ (upd H a (.ins C dx (mU f y fs))) s'->Q () s'):wpAny (model X.prog X.w) A (setAttr (.ref a) f u) Q E s:=by
 obtain⟨mA,O,r,wi,_,ho⟩:=nX I.hok e;have hz:(fs.map (·.1)).length<=sizeLine:=by rw [length_map,sizeLine_eq];omega
 refine At I.kIn O c.sa c.po n.taker c.hd wi hz fun h' O' sb=>h _ ?_;have hd:∃o,h'.get? dx=some o:=let ⟨o,_,_,e',_⟩:=O'.ns;⟨o,e'⟩
 refine I.write (x:=a) (e:=dx) (by rw [e];exact True.intro) (.inr ho) (fun b q hb z=>(sb.2 b hb).trans z) hd ?_
 refine⟨by rw [aM O.ne];exact ho,?_,O.ne,O'.obj,_,O'.ns,fun g=>?_,fun g hg=>?_⟩
 .have:=k8 f y fs;omega
 .show xF ((mU f y fs).lookup g) (if g=f then some u else mA g);rw [kZ]
  by_cases q:g=f
  .rw [if_pos q,if_pos q];exact ry
  .rw [if_neg q,if_neg q];exact r g
 .by_cases q:g=f
  .rw [q];exact (k6 f y fs).1
  .refine (k6 f y fs).2 g (wi g fun z=>hg ?_);show (if g=f then some u else mA g)=none;rw [if_neg q];exact z
theorem Inv.made(I:Inv X pins σ H s):Inv X pins σ (upd (upd H s.heap.objs.size (.own (s.heap.objs.size+1))) (s.heap.objs.size+1) (.ins C s.heap.objs.size []))
  { s with heap:=(s.heap.push PySem.W.emptyDict).push (PySem.W.instObj C s.heap.objs.size) }:=by
 have e1:(s.heap.push PySem.W.emptyDict).get? s.heap.objs.size=some PySem.W.emptyDict:=Heap.get?_push_size s.heap rfl
 have e2:((s.heap.push PySem.W.emptyDict).push (PySem.W.instObj C s.heap.objs.size)).get? (s.heap.objs.size+1)=some (PySem.W.instObj C s.heap.objs.size):=by
  have:=Heap.get?_push_size (s.heap.push PySem.W.emptyDict) (o:=PySem.W.instObj C s.heap.objs.size) rfl
  rwa [Heap.size_push] at this
 have e3:(s.heap.push PySem.W.emptyDict).Ns s.heap.objs.size (fun _=>none):=⟨PySem.W.emptyDict,#[],_,e1,rfl,(fun e he=>absurd he (by simp)),fun _=>rfl⟩
 have I1:=I.laid (a:=s.heap.objs.size) (o:=.own (s.heap.objs.size+1)) (h':=s.heap.push PySem.W.emptyDict) (t':=s.toks) (fun b u q=>Heap.get?_push_of_some _ q) (Nat.le_refl _) ⟨_,e1⟩;refine I1.laid (a:=s.heap.objs.size+1) (o:=.ins C s.heap.objs.size []) (t':=s.toks) (fun b u q=>Heap.get?_push_of_some _ q) (le_of_eq (Heap.size_push _ _)) ?_;have ne:s.heap.objs.size≠s.heap.objs.size+1:=ne_of_lt (lt_succ_self _)
 refine⟨by rw [aM ne,bv],zero_le _,ne,e2,fun _=>none,(Heap.Ns1.of_empty e3).at fun o q=>Heap.get?_push_of_some _ q,fun _=>True.intro,fun y hy=>absurd rfl hy⟩
theorem Au{prog:Program}{w:World}{env:Env}{e:Expr}{f:Str}{pos:Pos}{s:Shared}{Q:Value->Shared->Prop}(hb:attributeBase e f env (eval e env)=eval e env)
  (h:wpAny (model prog w) A (eval e env) (fun o s₁=>wpAny (model prog w) A (getAttr o f true) Q E s₁) E s):wpAny (model prog w) A (eval (.Attribute e f pos) env) Q E s :=
 Attribute_any_ h (by rw [arm_eval_Attribute,hb])
end
def xG(K:PySem.W.Frag)(ta:TE)(f:Str):TE:=fun σ H Q=>ta σ H fun x H1=>∃a C dx fs v,x=.ref a/\H1 a=some (.ins C dx fs)/\Cls K C/\eU K C f/\fs.lookup f=some v/\Q v H1
def FT(K:PySem.W.Frag)(ta tv:TE)(f:Str):TS:=fun D σ H=>tv σ H fun y H1=>ta σ H1 fun x H2=>∃a C dx fs,x=.ref a/\H2 a=some (.ins C dx fs)/\Cls K C/\eU K C f/\fs.length<1000 /\
 D.nx σ (upd H2 a (.ins C dx (mU f y fs)))
section
variable {X:Cx}{o e value:Expr}{f:Str}{pos pos' tpos:Pos}{ta tv:TE}
theorem CM(he:PE X e ta)(hb:attributeBase e f X.env (eval e X.env)=eval e X.env):PE X (.Attribute e f pos) (xG X.K ta f):=by
 intro pins s σ H Q I h;refine Au hb (thn (he pins s σ H _ I h) fun u s1 ⟨x,H1,I1,rx,a,C,dx,fs,v,ex,ea,c,n,l,q⟩=>?_);subst ex;obtain rfl:u=Value.ref a:=rx;exact uq I1 ea c n l fun u' s2 I2 ru=>⟨v,H1,I2,ru,q⟩
theorem mW(ha:PE X o ta)(hv:PE X value tv)(hs:swapsWith value (some (.Attribute o f pos')) pos.line X.env=pure false):PS X (.Assign [.Attribute o f pos'] value pos) (FT X.K ta tv f):=by
 intro pins s σ H D I h;refine plainObj_wpAny_Assign_Attribute (thn (hv pins s σ H _ I h) fun u s1 ⟨y,H1,I1,ry,q⟩=>thn (ha pins s1 σ H1 _ I1 q) fun ov s2 ⟨x,H2,I2,rx,a,C,dx,fs,ex,ea,c,n,l,q2⟩=>?_) hs;subst ex;obtain rfl:ov=Value.ref a:=rx;exact ut I2 ea c n l ry fun s3 I3=>⟨σ,_,I3,q2⟩
end
section
variable {X:Cx}{pins:List (Addr×Obj)}{σ:St}{H:Hp}{s:Shared}{A:Around}{E:Value->Shared->Prop}{Q:Value->Shared->Prop}{c:Value}{b:Bool}
inductive rA (K:PySem.W.Frag) (H:Hp):V->Value->Prop where
 | non:rA K H .non (.type "NoneType")
 | bl (x:Bool):rA K H (.bl x) (.type "bool")
 | int (i:Int):rA K H (.int i) (.type "int")
 | str (x:Str):rA K H (.str x) (.type "str")
 | flt (x:UInt64):rA K H (.flt x) (.type "float")
 | lst {a:Addr}{xs:List V} (e:H a=some (.lst xs)):rA K H (.ref a) (.type "list")
 | frz {a:Addr}{o:Obj}{xs:List V} (e:H a=some (.frz o (.lst xs))):rA K H (.ref a) (.type "list")
 | tup {a:Addr}{xs:List V} (e:H a=some (.tup xs)):rA K H (.ref a) (.type "tuple")
 | dK {a:Addr}{kvs:List (Key×V)} (e:H a=some (.dK kvs)):rA K H (.ref a) (.type "dict")
 | dT {a:Addr}{kvs:List (List Key×V)} (e:H a=some (.dT kvs)):rA K H (.ref a) (.type "dict")
 | ins {a C dx:Addr}{fs:List (Str×V)} (e:H a=some (.ins C dx fs)) (cl:Cls K C) (ha:PySem.W.findIn K (.ref C) "__class__"=some (some (.builtin "object.__class__")))
   (hn:PySem.W.specialIn K (.builtin "object.__class__") "__get__"=some (some (.builtin "getset_descriptor.__get__"))) (htk:PySem.W.takesIn K (.builtin "object.__class__")=some true)
   (hm:PySem.W.mroIn K C (.type "object")=some true):rA K H (.ref a) (.ref C)
theorem vt{x:V}{u t:Value}(I:Inv X pins σ H s)(rx:ee x u)(ty:rA X.K H x t)(e:PySem.W.kitOne X.K t c=some b)(h:∀tk,Q (.bool b) { s with toks:=tk }) :
  wpAny (model X.prog X.w) A (call (.builtin "isinstance") [u,c]) Q E s:=by
 cases ty with
 | non=>cases (show u=Value.none from rx);exact PySem.W.kia_one PySem.W.kitx_none I.kIn True.intro e (fun z=>nomatch z) h
 | bl y=>cases (show u=Value.bool y from rx);exact PySem.W.kia_one PySem.W.kitx_bool I.kIn True.intro e (fun z=>nomatch z) h
 | int i=>obtain⟨t,q⟩:=(show ∃t,u=Value.int i t from rx);cases q;exact PySem.W.kia_one PySem.W.kitx_int I.kIn True.intro e (fun z=>nomatch z) h
 | str y=>obtain⟨t,q⟩:=(show ∃t,u=Value.str y t from rx);cases q;exact PySem.W.kia_one PySem.W.kitx_str I.kIn True.intro e (fun z=>nomatch z) h
 | flt y=>obtain⟨t,q⟩:=(show ∃t,u=Value.float y t from rx);cases q;exact PySem.W.kia_one PySem.W.kitx_float I.kIn True.intro e (fun z=>nomatch z) h
 | @lst a xs ea =>
  cases (show u=Value.ref a from rx);obtain⟨_,_,n,_,h1⟩:=(show dy X.prog X.w H s.heap a (.lst xs) from I.hok a _ ea)
  exact PySem.W.kia_one PySem.W.kitx_list I.kIn ⟨_,h1,rfl⟩ e (fun z=>nomatch z) h
 | @frz a ob xs ea =>
  cases (show u=Value.ref a from rx);obtain⟨_,_,_,n,_,h1⟩:=(show dy X.prog X.w H s.heap a (.frz ob (.lst xs)) from I.hok a _ ea)
  exact PySem.W.kia_one PySem.W.kitx_list I.kIn ⟨_,h1,rfl⟩ e (fun z=>nomatch z) h
 | @tup a xs ea =>
  cases (show u=Value.ref a from rx);obtain⟨_,_,_,p⟩:=(show dy X.prog X.w H s.heap a (.tup xs) from I.hok a _ ea)
  obtain⟨o,h1,h2,_⟩:=p;exact PySem.W.kia_one PySem.W.kitx_tuple I.kIn ⟨o,h1,h2⟩ e (fun z=>nomatch z) h
 | @dK a kvs ea =>
  cases (show u=Value.ref a from rx);obtain⟨_,_,vs,_,p⟩:=(show dy X.prog X.w H s.heap a (.dK kvs) from I.hok a _ ea)
  obtain⟨o,es,ep,h1,h2,_⟩:=p;exact PySem.W.kia_one PySem.W.kitx_dict I.kIn ⟨o,h1,h2.1⟩ e (fun z=>nomatch z) h
 | @dT a kvs ea =>
  cases (show u=Value.ref a from rx);obtain⟨_,_,xs,_,o,es,ep,h1,h2,_⟩:=(show dy X.prog X.w H s.heap a (.dT kvs) from I.hok a _ ea)
  exact PySem.W.kia_one PySem.W.kitx_dict I.kIn ⟨o,h1,h2.1⟩ e (fun z=>nomatch z) h
 | @ins a C dx fs ea cl ha hn htk hm =>
  cases (show u=Value.ref a from rx);obtain⟨mA,O,_⟩:=nX I.hok ea;obtain⟨od,J,_⟩:=O.look;exact PySem.W.kia_one (PySem.W.kitx_own (cl.get _) cl.hd ha hn htk hm) I.kIn J e (fun z=>nomatch z) h
end
structure gJ (k:Nat) (A:Around):Prop where
 hd:A.handled=none
 dp:A.depth+3*k+5<recursionLimit
 un:A.units+16*k+200<cLine
theorem gJ.mono{j k:Nat}{A:Around}(r:gJ k A)(h:j<=k):gJ j A:=⟨r.hd,by have:=r.dp;omega,by have:=r.un;omega⟩
theorem gJ.deeper{k:Nat}{A:Around}(r:gJ (k+1) A)(env:Env):gJ k (A.deeper env) :=
 ⟨r.hd,by have:=r.dp;show A.depth+1+3*k+5<_;omega,by have:=r.un;show A.units+3+16*k+200<_;omega⟩
theorem uu{A:Around}{C:Addr}{us:List Value}{kw:List (Str×Value)}:(A.under (.builtin "type.__call__" ⟨.ref C::us,kw⟩)).depth=A.depth+1:=by
 first|rfl|simp [Around.under,Code.weight,Code.isCreation,Code.isGuard,Code.isCaller,Code.frames,Code.isFrame,guardIds]
theorem uv{A:Around}{C:Addr}{us:List Value}{kw:List (Str×Value)}:(A.under (.builtin "type.__call__" ⟨.ref C::us,kw⟩)).units=A.units+1:=by
 first|rfl|simp [Around.under,Code.cUnits,Code.frames,Code.isFrame]
theorem gJ.make{k:Nat}{A:Around}(r:gJ (k+1) A)(C:Addr)(us:List Value)(kw:List (Str×Value)):gJ k (A.under (.builtin "type.__call__" ⟨.ref C::us,kw⟩)) :=
 ⟨r.hd,by have:=r.dp;rw [uu];omega,by have:=r.un;rw [uv];omega⟩
theorem gJ.depth{k:Nat}{A:Around}(r:gJ k A):A.depth<recursionLimit:=by have:=r.dp;omega
theorem gJ.units{k:Nat}{A:Around}(r:gJ k A):A.units+64<cLine:=by have:=r.un;omega
def fB:TA:=fun _ H Q=>Q [] H
def bB(ta:TE)(tr:TA):TA:=fun σ H Q=>ta σ H fun x H1=>tr σ H1 fun xs H2=>Q (x::xs) H2
section
variable {X:Cx}{e:Expr}{es:List Expr}{te:TE}{t:TA}{pos:Pos}
theorem ag:PA X [] fB:=fun _ _ _ _ H Q I h=>Calls.spliced_nil ⟨[],H,I,.nil,h⟩
theorem Av(ha:PE X e te)(hr:PA X es t)(hs:starEach (e::es) X.env=(false,eval e X.env)::starEach es X.env:=by rfl):PA X (e::es) (bB te t):=by
 intro pos pins s σ H Q I h;rw [hs];show wpAny _ _ (spliced ((false,eval e X.env)::backTo pos (starEach es X.env))) _ _ s;refine Calls.spliced_cons (thn (ha pins s σ H _ I h) fun u s1 ⟨x,H1,I1,r1,q1⟩=>?_);exact thn (hr pos pins s1 σ H1 _ I1 q1) fun us s2 ⟨xs,H2,I2,r2,q2⟩=>⟨x::xs,H2,I2,.cons r1 r2,q2⟩
def CN(t:TA):TE:=fun σ H Q=>t σ H fun xs H1=>xs.length<=sizeLine/\∀p,H1 p=none->Q (.ref p) (upd H1 p (.tup xs))
def FU(t:TA):TE:=fun σ H Q=>t σ H fun xs H1=>xs.length<=sizeLine/\∀p,H1 p=none->Q (.ref p) (upd H1 p (.lst xs))
theorem vv{x1}(h:PA X es t):PE X (.Tuple es x1 pos) (CN t):=by
 intro pins s σ H Q I hq;refine wpAny_Tuple_spliced (thn (h pos pins s σ H _ I hq) fun us s1 ⟨xs,H1,I1,r,z,q⟩=>⟨by rw [<- r.length];exact z,?_⟩);have hf:H1 s1.heap.objs.size=none:=I1.hok.fresh (Nat.le_refl _);refine⟨.ref s1.heap.objs.size,upd H1 s1.heap.objs.size (.tup xs),I1.laid (t':=s1.toks) (fun b u e=>Heap.get?_push_of_some _ e) (Nat.le_refl _) ?_,rfl,q _ hf⟩;exact⟨z,us,r,⟨_,Heap.get?_push_size _ rfl,rfl,_,rfl⟩⟩
theorem dA(h:PA X es t):PE X (.List es pos) (FU t):=by
 intro pins s σ H Q I hq;refine wpAny_List_spliced (thn (h pos pins s σ H _ I hq) fun us s1 ⟨xs,H1,I1,r,z,q⟩=>⟨by rw [<- r.length];exact z,?_⟩);have hf:H1 s1.heap.objs.size=none:=I1.hok.fresh (Nat.le_refl _);refine⟨.ref s1.heap.objs.size,upd H1 s1.heap.objs.size (.lst xs),I1.laid (t':=s1.toks) (fun b u e=>Heap.get?_push_of_some _ e) (Nat.le_refl _) ?_,rfl,q _ hf⟩;exact⟨z,us,0,r,Heap.get?_push_size _ rfl⟩
end
abbrev Sp:=List V->Hp->VK->XK->Prop
abbrev CXT:=List Env->Hp->Shared->XK->Value->Shared->Prop
structure Aw (P:Program) (w:World) (K:PySem.W.Frag) (mg:Str->Option Value) (base:Heap) (A:Around) (outer:List Env) (s:Shared) (H:Hp):Prop where
 frames:A.frames=some outer
 mod:Mod K mg base
 bs:∀b o,base.get? b=some o->s.heap.get? b=some o/\H b=none
 bsz:base.objs.size<=s.heap.objs.size
 funs:s.heap.FunFrames base outer
 frf:∀b∈frs outer,H b=none
 hok:HOk P w H s.heap
 bare:AllBare s.gens
def CE(outer:List Env)(P:Program)(w:World)(H:Hp)(s:Shared)(Q:VK)(u:Value)(s':Shared):Prop :=
 ∃v H',s'.os=s.os/\AllBare s'.gens/\Un (frs outer) [] H H' s.heap s'.heap/\HOk P w H' s'.heap/\ee v u/\Q v H'
def CR(CX:CXT)(outer:List Env)(P:Program)(w:World)(H:Hp)(s:Shared)(Q:VK)(E:XK)(r:Result)(s':Shared):Prop :=
 match r with
 | .ok (.ret u)=>CE outer P w H s Q u s'
 | .ok _=>False
 | .error e=>CX outer H s E e s'
structure nY (P:Program) (w:World) (K:PySem.W.Frag) (mg:Str->Option Value) (base:Heap) (CX:CXT) (k:Nat) (f:Addr) (fd:FuncData) (ps:List Str) (sp:Sp):Prop where
 len:∀vs H Q E,sp vs H Q E->vs.length=ps.length
 run:∀(A:Around) (outer:List Env) (s:Shared) (H:Hp) (args:Args) (us:List Value) (vs:List V) (Q:VK) (E:XK),gJ k A->Aw P w K mg base A outer s H->BindsTo s fd args (ps.zip us)->bY vs us->sp vs H Q E ->
  codeAny (model P w) A (.call (.ref f) args) (CR CX outer P w H s Q E) s
theorem nY.imp{P:Program}{w:World}{K:PySem.W.Frag}{mg:Str->Option Value}{base:Heap}{CX:CXT}{k:Nat}{f:Addr}{fd:FuncData}{ps:List Str}{sp sp':Sp}(F:nY P w K mg base CX k f fd ps sp)
  (h:∀vs H Q E,sp' vs H Q E->sp vs H Q E):nY P w K mg base CX k f fd ps sp' :=
 ⟨fun vs H Q E q=>F.len vs H Q E (h _ _ _ _ q),fun A outer s H args us vs Q E hr he hb hv hs=>F.run A outer s H args us vs Q E hr he hb hv (h _ _ _ _ hs)⟩
theorem Aw.make{P:Program}{w:World}{K:PySem.W.Frag}{mg:Str->Option Value}{base:Heap}{A:Around}{outer:List Env}{s:Shared}{H:Hp}(e:Aw P w K mg base A outer s H)(C:Addr)(us:List Value)(kw:List (Str×Value)) :
  Aw P w K mg base (A.under (.builtin "type.__call__" ⟨.ref C::us,kw⟩)) outer s H:=⟨by first|exact e.frames|(simpa [Around.under,Code.envs,Code.isFrame,pushEnvs] using e.frames),e.mod,e.bs,e.bsz,e.funs,e.frf,e.hok,e.bare⟩
section
variable {X:Cx}{pins:List (Addr×Obj)}{σ:St}{H:Hp}{s s':Shared}
theorem Inv.env0(I:Inv X pins σ H s):Aw X.prog X.w X.K X.mg X.base X.A X.stack s H :=
 ⟨I.ok.frames,I.ok.mod,I.bs,Nat.le_trans I.ok.bsz I.sz,I.stack,I.stkFree,I.hok,I.bare⟩
theorem Inv.after{Q:VK}{u:Value}(I:Inv X pins σ H s)(h:CE X.stack X.prog X.w H s Q u s'):EP X pins σ Q u s':=by
 obtain⟨v,H',os,bare,un,hok,r,q⟩:=h;obtain⟨hh,g,d,t,os'⟩:=s';obtain rfl:os'=s.os:=os;exact⟨v,H',I.call (h':=hh) (g':=g) (d':=d) (t':=t) (ch:=[]) un hok bare (fun b z=>absurd z (by simp)),r,q⟩
end
def fm(sp:Sp)(dvs:List V)(E:XK)(t:TA):TE:=fun σ H Q=>t σ H fun vs H1=>sp (vs++dvs) H1 Q E
def Ax(C:Addr)(m:Str)(sp:Sp)(dvs:List V)(E:XK)(ta:TE)(t:TA):TE:=fun σ H Q=>ta σ H fun x H1=>∃a dx fs,x=.ref a/\H1 a=some (.ins C dx fs)/\fs.lookup m=none /\
 t σ H1 fun vs H2=>sp (x::(vs++dvs)) H2 Q E
def xX(C:Addr)(sp:Sp)(dvs:List V)(E:XK)(t:TA):TE:=fun σ H Q=>t σ H fun vs H1=>∀x dx,H1 x=none->H1 dx=none->dx≠x ->
 sp (.ref x::(vs++dvs)) (upd (upd H1 dx (.own x)) x (.ins C dx [])) (fun v H2=>v=.non/\Q (.ref x) H2) E
def kA(K:PySem.W.Frag)(fd:FuncData)(ps:List Str)(ds:List Value):Prop :=
 ∀(s:Shared) (us:List Value),K.In s.heap->(us++ds).length=ps.length->BindsTo s fd ⟨us,[]⟩ (ps.zip (us++ds))
theorem kA.all{K:PySem.W.Frag}{fd:FuncData}{ps:List Str}(h:∀us:List Value,us.length=ps.length->bindArgs fd ⟨us,[]⟩=pure (ps.zip us)):kA K fd ps []:=fun s us _ hl=>by
 rw [append_nil] at hl ⊢;exact .of_eq (h us hl)
def mX(CX:CXT)(X:Cx)(E:XK):Prop:=∀(pins:List (Addr×Obj)) (σ:St) (H:Hp) (s:Shared) (e:Value) (s':Shared),Inv X pins σ H s->CX X.stack H s E e s'->X.xe e s'
section
variable {X:Cx}{CX:CXT}{k:Nat}{f C:Addr}{fd:FuncData}{ps:List Str}{sp:Sp}{dvs:List V}{ds:List Value}{E:XK}{x m:Str}{p pos apos:Pos}{e o:Expr}{es:List Expr}{ta:TE}{t:TA}
theorem zv{pins:List (Addr×Obj)}{σ:St}{H:Hp}{s:Shared}{Q:VK}{us:List Value}{vs:List V}(F:nY X.prog X.w X.K X.mg X.base CX k f fd ps sp)(hr:gJ k X.A)(hb:kA X.K fd ps ds)(hd:bY dvs ds)(hx:mX CX X E)
  (I:Inv X pins σ H s) (r:bY vs us) (h:sp (vs++dvs) H Q E):wpAny (model X.prog X.w) X.A (call (.ref f) us) (EP X pins σ Q) X.xe s:=by
 have r2:bY (vs++dvs) (us++ds):=r.append hd;have hl:(us++ds).length=ps.length:=by rw [<- r2.length];exact F.len _ _ _ _ h
 refine wpAny_call (codeAny_mono (F.run X.A X.stack s H ⟨us,[]⟩ (us++ds) (vs++dvs) Q E hr I.env0 (hb s us I.kIn hl) r2 h) fun r s' hq=>?_)
 cases r with
 | error e=>exact hx pins σ H s e s' I hq
 | ok fl =>
  cases fl with
  | ret u=>exact I.after hq
  | next=>exact False.elim hq
  | brk=>exact False.elim hq
  | cont=>exact False.elim hq
theorem vw(F:nY X.prog X.w X.K X.mg X.base CX k f fd ps sp)(hr:gJ k X.A)(hg:Gl X x)(hm:X.mg x=some (.ref f))(hk:PySem.W.keepIn X.K (.ref f)=true)(hb:kA X.K fd ps ds)(hd:bY dvs ds)(hx:mX CX X E)
  (ha:PA X (e::es) t) (hdb:(x == ("__debug__":Str))=false:=by decide) (he:starEach (e::es) X.env=(false,eval e X.env)::starEach es X.env:=by rfl) (hpl:(backTo pos (starEach es X.env)).any (·.1)=false:=by rfl) :
  PE X (.Call (.Name x p) (e::es) [] pos) (fm sp dvs E t):=by
 intro pins s σ H Q I h;refine wpAny_Call_Name_kw (rq I hg hm ?_ hdb);refine PySem.W.callWith_K (h₀:=X.base) I.ok.mod.kin hk (thn (ha pos pins s σ H _ I h) fun us s1 ⟨vs,H1,I1,r,q⟩=>⟨I1.kIn,?_⟩) he hpl;exact zv F hr hb hd hx I1 r q
theorem xY{pl:Sem Bool}(he:PE X o ta)(c:Cls X.K C)(hm:Ew X.K C m f)(F:nY X.prog X.w X.K X.mg X.base CX k f fd ps sp)(hr:gJ k X.A)(hb:kA X.K fd ps ds)(hd:bY dvs ds)(hx:mX CX X E)
  (ht:eval (.Call (.Attribute o m apos) [] [] pos) X.env=(do
   let ov <- eval o X.env
   standAt apos.atName
   let (f,first) <- holding [ov] (getMethod ov m pl)
   callWith pos f first (backTo pos (starEach [] X.env)) (backToKw pos (keywordEach [] X.env))):=by rfl) :
  PE X (.Call (.Attribute o m apos) [] [] pos) (Ax C m sp dvs E ta fB):=by
 intro pins s σ H Q I h;refine PySem.W.methodCall_KW (pl:=pl) (thn (he pins s σ H _ I h) fun u s1 ⟨x,H1,I1,rx,a,dx,fs,ex,ea,l,q⟩=>?_) ht;subst ex;obtain rfl:u=Value.ref a:=rx;refine ur I1 ea c hm l ?_;exact PySem.W.callWith_K0 (first:=[.ref a]) I1.kIn hm.kp (zv (us:=[.ref a]) (vs:=[.ref a]) F hr hb hd hx I1 (.cons rfl .nil) q)
structure Mk (K:PySem.W.Frag) (C f:Addr):Prop where
 makes:PySem.W.makesIn K C=true
 init:PySem.W.findIn K (.ref C) "__init__"=some (some (.ref f))
 fn:PySem.W.isFn K (.ref f)=true
 kp:PySem.W.keepIn K (.ref C)=true
theorem xZ{pins:List (Addr×Obj)}{σ:St}{H:Hp}{s:Shared}{Q:VK}{us:List Value}{vs:List V}(M:Mk X.K C f)(F:nY X.prog X.w X.K X.mg X.base CX k f fd ps sp)(hr:gJ (k+1) X.A)(hb:kA X.K fd ps ds)(hd:bY dvs ds)
  (hx:mX CX X E) (I:Inv X pins σ H s) (r:bY vs us)
  (h:∀x dx,H x=none->H dx=none->dx≠x->sp (.ref x::(vs++dvs)) (upd (upd H dx (.own x)) x (.ins C dx [])) (fun v H2=>v=.non/\Q (.ref x) H2) E) :
  wpAny (model X.prog X.w) X.A (call (.ref C) us) (EP X pins σ Q) X.xe s:=by
 have hq:=h (s.heap.objs.size+1) s.heap.objs.size (I.hok.fresh (le_succ _)) (I.hok.fresh (Nat.le_refl _)) (ne_of_lt (lt_succ_self _));have I2:=Inv.made (C:=C) I;have r2:bY (V.ref (s.heap.objs.size+1)::(vs++dvs)) (Value.ref (s.heap.objs.size+1)::(us++ds)):=.cons rfl (r.append hd)
 have hl:(Value.ref (s.heap.objs.size+1)::us++ds).length=ps.length:=by
  have e:=r2.length;rw [F.len _ _ _ _ hq] at e;exact e.symm
 refine wpAny_call (xW (f:=f) I.kIn M.makes M.init (beq_iff_eq.mp M.fn) (codeAny_mono (F.run _ X.stack _ _ ⟨Value.ref (s.heap.objs.size+1)::us,[]⟩ (Value.ref (s.heap.objs.size+1)::(us++ds)) _ _ E (hr.make C us [])
  (I2.env0.make C us []) (hb _ (Value.ref (s.heap.objs.size+1)::us) I2.kIn hl) r2 hq) fun r s' hq'=>?_))
 cases r with
 | error e=>exact hx pins σ _ _ e s' I2 hq'
 | ok fl =>
  cases fl with
  | ret u =>
   obtain⟨v,H',I3,rv,ev,q3⟩:=I2.after hq';subst ev;exact⟨rv,⟨V.ref (s.heap.objs.size+1),H',I3,rfl,q3⟩⟩
  | next=>exact False.elim hq'
  | brk=>exact False.elim hq'
  | cont=>exact False.elim hq'
theorem Ay(M:Mk X.K C f)(F:nY X.prog X.w X.K X.mg X.base CX k f fd ps sp)(hr:gJ (k+1) X.A)(hg:Gl X x)(hm:X.mg x=some (.ref C))(hb:kA X.K fd ps ds)(hd:bY dvs ds)(hx:mX CX X E)
  (ha:PA X (e::es) t) (hdb:(x == ("__debug__":Str))=false:=by decide) (he:starEach (e::es) X.env=(false,eval e X.env)::starEach es X.env:=by rfl) (hpl:(backTo pos (starEach es X.env)).any (·.1)=false:=by rfl) :
  PE X (.Call (.Name x p) (e::es) [] pos) (xX C sp dvs E t):=by
 intro pins s σ H Q I h;refine wpAny_Call_Name_kw (rq I hg hm ?_ hdb);refine PySem.W.callWith_K (h₀:=X.base) I.ok.mod.kin M.kp (thn (ha pos pins s σ H _ I h) fun us s1 ⟨vs,H1,I1,r,q⟩=>⟨I1.kIn,?_⟩) he hpl;exact xZ M F hr hb hd hx I1 r q
end
structure aR (N P:List Str) (sc:Scope):Prop where
 kind:sc.kind=.function
 co:sc.isCoroutine=false
 gen:sc.isGenerator=false
 nd:N.Nodup
 pre:N.take P.length=P
 par:∀x∈P,sc.names.lookup x=some .local\/sc.names.lookup x=some .cell
 nofree:∀y∈sc.names,y.2≠.free
theorem pN{kindOf:Str->Option NameKind}{x:Str}:∀{binds:List (Str×Value)}{m:Str->Option Value},(∀v,(x,v)∉binds)->bindL kindOf binds m x=m x
 | [],_,_=>rfl
 | (n,v)::r,m,h=>by
  unfold bindL;rw [pN fun w hw=>h w (mem_cons_of_mem _ hw)]
  split
  .have:x≠n:=by rintro rfl;exact h v mem_cons_self
   simp [this]
  .rfl
theorem pO{kindOf:Str->Option NameKind}{x:Str}:∀{binds:List (Str×Value)}{m:Str->Option Value},(∀v,(x,v)∉binds)->bindC kindOf binds m x=m x
 | [],_,_=>rfl
 | (n,v)::r,m,h=>by
  unfold bindC;rw [pO fun w hw=>h w (mem_cons_of_mem _ hw)]
  split
  .rfl
  .have:x≠n:=by rintro rfl;exact h v mem_cons_self
   simp [this]
theorem pP{kindOf:Str->Option NameKind}{x:Str}{v:Value}:∀{P:List Str}{vs:List Value}{i:Nat}{m:Str->Option Value},P.Nodup->P[i]?=some x->vs[i]?=some v->kindOf x=some .local ->
  bindL kindOf (P.zip vs) m x=some v
 | [],_,_,_,_,h,_,_=>by simp at h
 | _::_,[],_,_,_,_,h,_=>by simp at h
 | p::P,w::vs,0,m,nd,h1,h2,hk=>by
  simp at h1 h2;subst h1;subst h2;show bindL kindOf ((p,w)::P.zip vs) m p=_;unfold bindL;rw [pN fun v hv=>(nodup_cons.mp nd).1 (of_mem_zip hv).1,if_pos hk];simp
 | p::P,w::vs,i+1,m,nd,h1,h2,hk=>by
  show bindL kindOf ((p,w)::P.zip vs) m x=_;unfold bindL;exact pP (i:=i) (nodup_cons.mp nd).2 (by simpa using h1) (by simpa using h2) hk
theorem pQ{kindOf:Str->Option NameKind}{x:Str}{v:Value}:∀{P:List Str}{vs:List Value}{i:Nat}{m:Str->Option Value},P.Nodup->P[i]?=some x->vs[i]?=some v->kindOf x≠some .local ->
  bindC kindOf (P.zip vs) m x=some v
 | [],_,_,_,_,h,_,_=>by simp at h
 | _::_,[],_,_,_,_,h,_=>by simp at h
 | p::P,w::vs,0,m,nd,h1,h2,hk=>by
  simp at h1 h2;subst h1;subst h2;show bindC kindOf ((p,w)::P.zip vs) m p=_;unfold bindC;rw [pO fun v hv=>(nodup_cons.mp nd).1 (of_mem_zip hv).1,if_neg hk];simp
 | p::P,w::vs,i+1,m,nd,h1,h2,hk=>by
  show bindC kindOf ((p,w)::P.zip vs) m x=_;unfold bindC;exact pQ (i:=i) (nodup_cons.mp nd).2 (by simpa using h1) (by simpa using h2) hk
def start(N:List Str)(vs:List V):St:=vs.map some++List.replicate (N.length - vs.length) none
def xH(CX:CXT)(P:Program)(w:World)(K:PySem.W.Frag)(mg:Str->Option Value)(base:Heap)(N:List Str)(qual:Str)(scope:Scope)(f:Addr)(cd:Value)(A:Around)(outer:List Env)(s:Shared)(H:Hp)(E:XK):Cx where
 prog:=P
 w:=w
 K:=K
 mg:=mg
 base:=base
 A:=A.deeper (envOfC qual scope s.heap.objs.size f cd)
 N:=N
 s₀:=s
 H₀:=H
 env:=envOfC qual scope s.heap.objs.size f cd
 outer:=outer
 stack:=envOfC qual scope s.heap.objs.size f cd::outer
 ex:=[]
 calm:=true
 fn:=fun _=>true
 pn:=[]
 xe:=fun e s'=>wpAny (model P w) (A.deeper (envOfC qual scope s.heap.objs.size f cd)) (leaving (envOfC qual scope s.heap.objs.size f cd) e) (fun _ s''=>CX outer H s E e s'') (fun e' s''=>CX outer H s E e' s'') s'
theorem sS{sc:Scope}{n:Nat}{x:Str}(h:sc.names.lookup x=some .cell):∃c,(cellsFrom n sc.names []).lookup x=some c:=by
 have q:=PySem.W.cellsFrom_some sc.names n [] (.inl h);exact Option.isSome_iff_exists.mp q
theorem vx{CX:CXT}{P:Program}{w:World}{K:PySem.W.Frag}{mg:Str->Option Value}{base:Heap}{N ps:List Str}{qual:Str}{scope:Scope}{f:Addr}{cd:Value}{A:Around}{outer:List Env}{s s1:Shared}{H:Hp}{E:XK}{us:List Value}{vs:List V}
  (S:aR N ps scope) (hd:A.handled=none) (e0:Aw P w K mg base A outer s H) (hl:vs.length=ps.length) (r:bY vs us)
  (x:InCallC s s.heap.objs.size (bindL (envOfC qual scope s.heap.objs.size f cd).kindOf (ps.zip us) fun _=>none) (cellsFrom (s.heap.objs.size+1) scope.names []) (bindC (envOfC qual scope s.heap.objs.size f cd).kindOf (ps.zip us) fun _=>none) s1) :
  Inv (xH CX P w K mg base N qual scope f cd A outer s H E) [] (start N vs) H s1:=by
 have hpl:ps.length<=N.length:=by have:=congrArg List.length S.pre;rw [length_take] at this;omega
 obtain⟨h1,tk,rfl,hk⟩:=x.done;have noA:∀b:Addr,b∉(xH CX P w K mg base N qual scope f cd A outer s H E).ex:=fun b z=>absurd (show b∈([]:List Addr) from z) (by simp)
 refine⟨⟨e0.mod,S.kind,rfl,rfl,Nat.le_refl _,fun y z c h1 h2=>?_,fun y hy=>?_,fun y c _ h=>?_,fun _=>hd,Around.frames_deeper e0.frames,.inr ⟨rfl,rfl⟩,fun b z=>absurd z (noA b),e0.bs,e0.bsz,fun b _ _=>noA b,fun b z=>absurd z (noA b),e0.funs,e0.frf⟩,
  rfl,e0.bare,Un.kept hk,⟨_,x.toInCall.ns,fun i y v h1 h2 h3=>?_⟩,fun y c h=>⟨_,x.cell y c h⟩,e0.hok.fresh (Nat.le_refl _),fun y c h=>?_,fun p hp=>absurd (show p∈([]:List (Addr×Obj)) from hp) (by simp),e0.hok.kept hk,?_⟩
 .exact name_of_addr x.apart (PySem.mem_of_lookup h1) (PySem.mem_of_lookup h2)
 .have hy:scope.names.lookup y=some .cell\/scope.names.lookup y=some .free:=hy
  rcases hy with hy|hy
  .exact sS hy
  .exact absurd rfl (S.nofree _ (PySem.mem_of_lookup hy))
 .exact le_of_lt (x.above y c (PySem.mem_of_lookup h))
 .have hi:i<vs.length:=by
   unfold start at h2
   by_cases hi:i<vs.length
   .exact hi
   .rw [getElem?_append_right (by simpa using hi)] at h2;rw [getElem?_replicate] at h2;split at h2 <;> cases h2
  have ha:vs[i]?=some v:=by
   unfold start at h2;rw [getElem?_append_left (by simpa using hi),getElem?_map] at h2
   cases e:vs[i]? with
   | none=>rw [e] at h2;cases h2
   | some a=>rw [e] at h2;cases h2;rfl
  obtain⟨u,hu,rv⟩:=r.get ha
  have hp:ps[i]?=some y:=by
   rw [<- S.pre,getElem?_take_of_lt (by omega)];exact h1
  have ndP:ps.Nodup:=by rw [<- S.pre];exact S.nd.sublist (take_sublist _ _)
  refine⟨u,rv,?_⟩
  rcases S.par y (mem_of_getElem? hp) with k|k
  .exact .inl ⟨k,pP ndP hp hu k⟩
  .obtain⟨c,e⟩:=sS (n:=s.heap.objs.size+1) k;refine .inr ⟨.inl k,c,e,?_⟩;have q:=x.cell y c e;rw [pQ ndP hp hu (by show scope.names.lookup y≠_;rw [k];decide)] at q;exact q
 .exact e0.hok.fresh (le_of_lt (x.above y c (PySem.mem_of_lookup h)))
 .unfold start;show _=N.length;rw [length_append,length_map,length_replicate];omega
theorem CO{CX:CXT}{P:Program}{w:World}{K:PySem.W.Frag}{mg:Str->Option Value}{base:Heap}{k:Nat}{f:Addr}{name qual:Str}{params:Arguments}{body:List Stmt}{scope:Scope}{dV kV doc pm cdv ct oc:Value}{an od:Option Addr}
  {osl:Array (Option Value)}{N ps:List Str}{sp:Sp} (lk:K.lookup f=some ⟨oc,od,.func (PySem.W.fnOf name qual params body scope dV kV doc pm an cdv ct),osl⟩) (hcd:PySem.W.codeIn K cdv qual=true) (S:aR N ps scope)
  (len:∀vs H Q E,sp vs H Q E->vs.length=ps.length)
  (hbody:∀(A:Around) (outer:List Env) (s:Shared) (H:Hp) (vs:List V) (Q:VK) (E:XK),gJ k (A.deeper (envOfC qual scope s.heap.objs.size f cdv))->sp vs H Q E ->
   ∃t,PSs (xH CX P w K mg base N qual scope f cdv A outer s H E) body t/\t { nx:=fun _ H'=>Q .non H',rt:=Q } (start N vs) H) :
  nY P w K mg base CX (k+1) f (PySem.W.fnOf name qual params body scope dV kV doc pm an cdv ct) ps sp:=by
 refine⟨len,fun A outer s H args us vs Q E hr e0 hb r hsp=>?_⟩;have hl:=len _ _ _ _ hsp;have KX:K.In s.heap:=e0.mod.kin.keeps fun b o e=>(e0.bs b o e).1;have lim:s.heap.NoLimit:=e0.mod.nolimit.keeps fun b o e=>(e0.bs b o e).1
 have hkind:∀y∈ps.zip us,scope.names.lookup y.1=some .local\/(scope.names.lookup y.1=some .cell/\((cellsFrom (s.heap.objs.size+1) scope.names []).lookup y.1).isSome=true):=fun ⟨n,v⟩ hy=>by
  rcases S.par n (of_mem_zip hy).1 with q|q
  .exact .inl q
  .exact .inr ⟨q,PySem.W.cellsFrom_some _ _ _ (.inl q)⟩
 refine codeAny_call_function hr.depth (KX _ _ lk) rfl S.co S.gen rfl (PySem.W.codeRec_of KX hcd) (hb _ _ _ _ ?_);refine wpAny_newFunctionEnv_cells S.kind hkind fun env he s1 x=>?_;subst he;refine⟨lim.keeps x.toInCall.keep,codeAny_func ?_⟩;obtain⟨t,ht,hq⟩:=hbody A outer s H vs Q E (hr.deeper _) hsp;have I:Inv (xH CX P w K mg base N qual scope f cdv A outer s H E) [] (start N vs) H s1:=vx S hr.hd e0 hl r x
 refine wpAny_mono (ht [] s1 (start N vs) H _ I hq) (fun fl s' hs=>?_) fun e s' hs=>hs
 have fin:∀{σ':St}{H':Hp}{v:V}{u:Value},Inv (xH CX P w K mg base N qual scope f cdv A outer s H E) [] σ' H' s'->ee v u->Q v H'->CE outer P w H s Q u s' :=
  fun {σ' H' v u} J rv q=>⟨v,H',J.os,J.bare,J.base,J.hok,rv,q⟩
 cases fl with
 | ret u =>
  obtain⟨v,σ',H',J,rv,q⟩:=hs;exact fin J rv q
 | next =>
  obtain⟨σ',H',J,q⟩:=hs;exact fin (v:=V.non) (u:=Value.none) J rfl q
 | brk =>
  obtain⟨_,_,_,q⟩:=hs;exact False.elim q
 | cont =>
  obtain⟨_,_,_,q⟩:=hs;exact False.elim q
section
variable {X:Cx}{x:Str}{p pos:Pos}{e:Expr}{es:List Expr}{t:TA}{id T:String}{r:List V->Hp->VK->Prop}
def tCB(r:List V->Hp->VK->Prop)(t:TA):TE:=fun σ H Q=>t σ H fun vs H1=>r vs H1 Q
theorem x3(hc:cN X (.builtin id) r)(hg:Gl X x)(hm:X.mg x=none)(hv:bootBuiltins x=some (.builtin id))(ha:PA X (e::es) t)(hn:x≠"__name__":=by decide)(hdb:(x == ("__debug__":Str))=false:=by decide)
  (he:starEach (e::es) X.env=(false,eval e X.env)::starEach es X.env:=by rfl) (hpl:(backTo pos (starEach es X.env)).any (·.1)=false:=by rfl):PE X (.Call (.Name x p) (e::es) [] pos) (tCB r t):=by
 intro pins s σ H Q I h;refine wpAny_Call_Name_kw (iw I hg hm hv ?_ hn hdb);exact PyProof.Rows.callWith_builtin1 (thn (ha pos pins s σ H _ I h) fun us s1 ⟨vs,H1,I1,r1,q1⟩=>hc pins s1 σ H1 vs us Q I1 r1 q1) he hpl
theorem vy(hc:cN X (.type T) r)(hg:Gl X x)(hm:X.mg x=none)(hv:bootBuiltins x=some (.type T))(ha:PA X (e::es) t)(hn:x≠"__name__":=by decide)(hdb:(x == ("__debug__":Str))=false:=by decide)
  (he:starEach (e::es) X.env=(false,eval e X.env)::starEach es X.env:=by rfl) (hpl:(backTo pos (starEach es X.env)).any (·.1)=false:=by rfl):PE X (.Call (.Name x p) (e::es) [] pos) (tCB r t):=by
 intro pins s σ H Q I h;refine wpAny_Call_Name_kw (iw I hg hm hv ?_ hn hdb);exact PyProof.Rows.callWith_type1 (thn (ha pos pins s σ H _ I h) fun us s1 ⟨vs,H1,I1,r1,q1⟩=>hc pins s1 σ H1 vs us Q I1 r1 q1) he hpl
end
end L2
namespace HT
open PySem PyProof.Rows
section
open PySem.SeqAt
open PySem.AutoSeq1 (wpAny_loadPart')
open PySem.MeetsSeq PySem.MeetsSeq2 PySem.MeetsSeq3
end
section
variable {prog:Program}{w:World}{A:Around}{E:Value->Shared->Prop}{s:Shared}
theorem cat_tup{t b:Addr}{vs ws:List Value}{Q:Value->Shared->Prop}(ht:IsTup s.heap t vs.toArray)(hb:IsTup s.heap b ws.toArray)(hv:vs≠[])
  (h1:ws=[]->Q (.ref t) s) (h2:ws≠[]->Q (.ref s.heap.objs.size) { s with heap:=s.heap.push { cls:=.type "tuple",data:=.seq (vs++ws).toArray } })
  (hsz:vs.length+ws.length<=sizeLine):wpAny (model prog w) A (binaryOp .Add (.ref t) (.ref b)) Q E s:=by
 obtain⟨⟨cls,dd,data,sl⟩,ho,hc,n,hd⟩:=id ht;obtain⟨⟨cls2,dd2,data2,sl2⟩,ho2,hc2,n2,hd2⟩:=id hb;simp only at hc hd hc2 hd2;subst hc hd hc2 hd2;have e:vs.toArray++ws.toArray=(vs++ws).toArray:=by simp
 by_cases hw:ws=[]
 .exact concat_meets ⟨_,ho,rfl⟩ ⟨_,ho2,rfl⟩ noFill_tuple_add seq_tuple_add PySem.F.slot_tuple_add PySem.F.entry_tuple_add (PySem.F.args_tuple_add_2 _ _)
   (tuple_addW1 t b vs.toArray ws.toArray n n2 dd dd2 sl sl2 (by simpa using hv) (by simp [hw])) ⟨ho,ho2,h1 hw⟩
 .refine concat_meets ⟨_,ho,rfl⟩ ⟨_,ho2,rfl⟩ noFill_tuple_add seq_tuple_add PySem.F.slot_tuple_add PySem.F.entry_tuple_add (PySem.F.args_tuple_add_2 _ _)
   (tuple_addW2 t b vs.toArray ws.toArray n n2 dd dd2 sl sl2 (by simpa using hv) (by simpa using hw) (by rw [size_toArray,size_toArray];exact hsz)) ⟨ho,ho2,?_⟩
  rw [e];exact h2 hw
def sIx(n d:Nat):Option Int->Nat
 | none=>d
 | some v=>if v<0 then (v+(n:Int)).toNat else min v.toNat n
theorem sIx_nat(n d k:Nat):sIx n d (some (k:Int))=min k n:=by
 show (if (k:Int)<0 then ((k:Int)+(n:Int)).toNat else min (k:Int).toNat n)=min k n;rw [if_neg (by omega),toNat_natCast]
theorem sIx_le(n d:Nat)(hd:d<=n)(o:Option Int):sIx n d o<=n:=by
 cases o with
 | none=>exact hd
 | some v =>
  show (if v<0 then (v+(n:Int)).toNat else min v.toNat n)<=n
  by_cases hv:v<0
  .rw [if_pos hv];omega
  .rw [if_neg hv];exact min_le_right _ _
theorem clip_eq(v:Int)(n d:Nat):(if v<0 then max (v+(n:Int)) 0 else min v (n:Int))=((sIx n d (some v):Nat):Int):=by
 show (if v<0 then max (v+(n:Int)) 0 else min v (n:Int))=(((if v<0 then (v+(n:Int)).toNat else min v.toNat n):Nat):Int)
 by_cases hv:v<0
 .simp only [if_pos hv];omega
 .simp only [if_neg hv];omega
theorem uw(lo hi:Option Int)(n:Nat):Builtin.Slice.sliceAdjust lo hi 1 (n:Int)=(((sIx n 0 lo:Nat):Int),((sIx n n hi:Nat):Int)):=by
 have h1:¬ ((1:Int)<0):=by omega
 unfold Builtin.Slice.sliceAdjust;simp only [h1,if_false]
 refine Prod.ext ?_ ?_
 .cases lo with
  | none=>rfl
  | some v=>exact clip_eq v n 0
 .cases hi with
  | none=>rfl
  | some v=>exact clip_eq v n n
theorem uz(i j:Nat):Builtin.Slice.slicePlaces (i:Int) (j:Int) 1=j - i:=by
 unfold Builtin.Slice.slicePlaces;have h1:(1:Int) > 0:=by omega
 simp only [h1,if_true,ediv_one];split <;> omega
theorem mY{v:Value}{o:Option Int}{Q:Option Int->Shared->Prop}(p:IsPart v o)(h:Q o s):wpAny (model prog w) A (Builtin.Slice.slicePartIndex v) Q E s:=by
 cases p with
 | none=>exact slicePart_none h
 | int i t=>exact slicePart_int h
theorem gq{sl:Addr}{vl vu:Value}{lo hi:Option Int}{n:Nat}{Q:Int×Int×Nat->Shared->Prop}(hs:s.heap.IsSliceOf sl vl vu .none)(pl:IsPart vl lo)(pu:IsPart vu hi)
  (h:Q (((sIx n 0 lo:Nat):Int),1,sIx n n hi - sIx n 0 lo) s):wpAny (model prog w) A (Builtin.Slice.sliceApplied (.ref sl) (pure (n:Int))) Q E s:=by
 obtain⟨os,hos,hcs,hds⟩:=id hs;unfold Builtin.Slice.sliceApplied Builtin.Slice.sliceFields;refine wpAny_bind (wpAny_bind (wpAny_field hos hds (x:=vl) rfl (wpAny_bind (wpAny_field hos hds (x:=vu) rfl (wpAny_bind (wpAny_field hos hds (x:=.none) rfl (wpAny_pure ?_)))))));refine wpAny_bind (slicePart_none ?_);show wpAny _ _ (if ((1:Int) == 0)=true then _ else _) _ _ s;rw [if_neg (by decide)];refine wpAny_bind (mY pl (wpAny_bind (mY pu (wpAny_bind (wpAny_pure ?_)))))
 show wpAny _ _ (match Builtin.Slice.sliceAdjust lo hi 1 (n:Int) with|(lo,hi)=>pure (lo,(1:Int),Builtin.Slice.slicePlaces lo hi 1)) _ _ s;rw [uw lo hi n];show wpAny _ _ (pure (((sIx n 0 lo:Nat):Int),(1:Int),Builtin.Slice.slicePlaces ((sIx n 0 lo:Nat):Int) ((sIx n n hi:Nat):Int) 1)) _ _ s;rw [uz];exact wpAny_pure h
theorem x4(xs:Array Value)(i k:Nat):((List.range k).filterMap fun (m:Nat)=>xs[((i:Int)+(m:Int)*1).toNat]?).toArray=((xs.toList.drop i).take k).toArray:=by
 have e:(fun (m:Nat)=>xs[((i:Int)+(m:Int)*1).toNat]?)=fun m=>xs[i+m]?:=by
  funext m;have:((i:Int)+(m:Int)*1).toNat=i+m:=by omega
  rw [this]
 rw [e];have:=pick_run xs i k;rw [filterMap_map] at this;have e2:((fun x=>xs[x]?) ∘ fun x=>i+x)=fun m=>xs[i+m]?:=rfl;rw [e2] at this;rw [this]
theorem getItem_tuple_cut{t sl:Addr}{items:Array Value}{vl vu:Value}{lo hi:Option Int}{Q:Value->Shared->Prop}(ht:IsTup s.heap t items)(hs:s.heap.IsSliceOf sl vl vu .none)(pl:IsPart vl lo)(pu:IsPart vu hi)
  (hw:¬ (sIx items.size 0 lo=0/\sIx items.size items.size hi=items.size))
  (h:Q (.ref s.heap.objs.size) { s with heap:=s.heap.push { cls:=.type "tuple",data:=.seq ((items.toList.drop (sIx items.size 0 lo)).take (sIx items.size items.size hi - sIx items.size 0 lo)).toArray } })
  (hsz:items.size<=sizeLine):wpAny (model prog w) A (getItem (.ref t) (.ref sl)) Q E s:=by
 have htake:sizeOk (.seq ((items.toList.drop (sIx items.size 0 lo)).take (sIx items.size items.size hi - sIx items.size 0 lo)).toArray):=by
  show ((items.toList.drop (sIx items.size 0 lo)).take (sIx items.size items.size hi - sIx items.size 0 lo)).toArray.size<=sizeLine;rw [size_toArray,length_take,length_drop,Array.length_toList];omega
 have hj:sIx items.size items.size hi<=items.size:=sIx_le _ _ (Nat.le_refl _) hi;obtain⟨os,hos,hcs,hds⟩:=id hs;have hTs:s.TypeIs (.ref sl) "slice":=⟨os,hos,hcs⟩
 unfold getItem
 try with_reducible refine wpAny_holding ?_
 first|refine wpAny_bind (wpAny_pure ?_)|skip
 refine wpAny_bind (wpAny_sequenceKey ht.typeIs (by decide) ?_)
 refine wpAny_bind (wpAny_callSpecial?_slot (name:=Str.ofString "__getitem__") ht.typeIs PyProof.Rows.slot_tuple_getitem
  (wpAny_call_entry PyProof.Rows.slot_tuple_getitem ht.typeIs entry_tuple_getitem ?_ (args_tuple_getitem _ _)))
 show wpAny _ _ (Builtin.Tuple.tupleItemsOf (.ref t) >>= _) _ _ s;refine wpAny_bind (tupleItemsOf_ ht ?_);refine wpAny_bind (wpAny_typeOf hTs ?_);rw [if_pos (by decide)];refine wpAny_bind (gq hs pl pu ?_)
 have hno:¬ ((((sIx items.size 0 lo:Nat):Int) == 0 && (1:Int) == 1 && (sIx items.size items.size hi - sIx items.size 0 lo) == items.size)=true):=by
  intro q;rw [and_eq_true,and_eq_true] at q;have q1:((sIx items.size 0 lo:Nat):Int)=0:=eq_of_beq q.1.1;have q2:sIx items.size items.size hi - sIx items.size 0 lo=items.size:=eq_of_beq q.2;exact hw ⟨by omega,by omega⟩
 show wpAny _ _ (if (((sIx items.size 0 lo:Nat):Int) == 0 && (1:Int) == 1 && (sIx items.size items.size hi - sIx items.size 0 lo) == items.size)=true then _ else _) _ _ s;rw [if_neg hno,x4]
 first
  | exact wpAny_bind (m:=Builtin.Tuple.tupleExact _) (wpAny_newObj_type (wpAny_pure ⟨_,rfl,wpAny_pure h⟩) htake)
  | exact wpAny_bind (m:=Builtin.Tuple.tupleExact _) (wpAny_newObj_type (wpAny_bind (wpAny_pure (wpAny_pure ⟨_,rfl,wpAny_pure h⟩))) htake)
  | exact wpAny_bind (wpAny_bind (m:=Builtin.Tuple.tupleExact _) (wpAny_newObj_type (wpAny_pure (wpAny_pure ⟨_,rfl,wpAny_pure h⟩)) htake))
  | exact wpAny_bind (wpAny_bind (m:=Builtin.Tuple.tupleExact _) (wpAny_newObj_type (wpAny_pure ⟨_,rfl,wpAny_pure h⟩) htake))
end
end HT
namespace L2
open PySem PySem.Spec PyProof.Rows
abbrev TO:=St->Hp->(Option Int->Hp->Prop)->Prop
def PO(X:Cx)(e:Option Expr)(t:TO):Prop :=
 ∀(pins:List (Addr×Obj)) (s:Shared) (σ:St) (H:Hp) (Q:Option Int->Hp->Prop),Inv X pins σ H s->t σ H Q ->
  wpAny (model X.prog X.w) X.A (evalPart e X.env) (fun u s'=>∃o H',Inv X pins σ H' s'/\IsPart u o/\Q o H') X.xe s
def nZ:TO:=fun _ H Q=>Q none H
def x5(t:TE):TO:=fun σ H Q=>t σ H fun x H1=>∃i,x=.int i/\Q (some i) H1
theorem jB{ns:List Int}:∀{us:List Value},bY (ns.map V.int) us->IntsAre us ns:=by
 induction ns with
 | nil=>intro us r;rw [map_nil] at r;cases r;exact .nil
 | cons n ns ih =>
  intro us r;rw [map_cons] at r
  cases r with
  | cons r1 r2 =>
   obtain⟨t,e⟩:=r1;subst e;exact .cons n t (ih r2)
section
variable {X:Cx}{e:Expr}{te:TE}{lo hi:Option Expr}{tl th:TO}{pos p2:Pos}
theorem cK:PO X none nZ:=by
 intro pins s σ H Q I h;rw [evalPart_none];exact wpAny_pure ⟨none,H,I,.none,h⟩
theorem cp(h:PE X e te):PO X (some e) (x5 te):=by
 intro pins s σ H Q I hw;rw [evalPart_some];refine thn (h pins s σ H _ I hw) fun u s1 ⟨x,H1,I1,r1,q1⟩=>?_;obtain⟨i,rfl,q⟩:=q1;obtain⟨t,rfl⟩:=r1;exact⟨some i,H1,I1,.int i t,q⟩
def SlR(X:Cx)(r:V->Option Int->Option Int->Hp->VK->Prop):Prop :=
 ∀(pins:List (Addr×Obj)) (s:Shared) (σ:St) (H:Hp) (x:V) (v vl vu:Value) (lo hi:Option Int) (sl:Addr) (Q:VK),Inv X pins σ H s->ee x v->s.heap.IsSliceOf sl vl vu .none->IsPart vl lo->IsPart vu hi->r x lo hi H Q ->
  ∃T id,typeLookup (.type T) "__getitem__"=pure (some (.builtin id))/\s.TypeIs v T/\wpAny (model X.prog X.w) X.A (getItem v (.ref sl)) (EP X pins σ Q) X.xe s
theorem SlR.or{r r':V->Option Int->Option Int->Hp->VK->Prop}(h:SlR X r)(h':SlR X r'):SlR X (fun x lo hi H Q=>r x lo hi H Q\/r' x lo hi H Q):=by
 intro pins s σ H x v vl vu lo hi sl Q I rx hs pl pu q
 rcases q with q|q
 .exact h pins s σ H x v vl vu lo hi sl Q I rx hs pl pu q
 .exact h' pins s σ H x v vl vu lo hi sl Q I rx hs pl pu q
def tSl(r:V->Option Int->Option Int->Hp->VK->Prop)(te:TE)(tl th:TO):TE:=fun σ H Q=>te σ H fun x H1=>tl σ H1 fun l H2=>th σ H2 fun u H3=>r x l u H3 Q
theorem bJ{r:V->Option Int->Option Int->Hp->VK->Prop}(hr:SlR X r)(he:PE X e te)(hl:PO X lo tl)(hu:PO X hi th):PE X (.Subscript e (.Slice lo hi none p2) pos) (tSl r te tl th):=by
 intro pins s σ H Q I h;refine Subscript_ (thn (he pins s σ H _ I h) fun v s1 ⟨x,H1,I1,r1,q1⟩=>?_);refine wpAny_Slice (thn (hl pins s1 σ H1 _ I1 q1) fun vl s2 ⟨l,H2,I2,pl,q2⟩=>thn (hu pins s2 σ H2 _ I2 q2) fun vu s3 ⟨u,H3,I3,pu,q3⟩=>?_);rw [evalPart_none];refine wpAny_pure ?_;have I4:Inv X pins σ H3 { s3 with heap:=s3.heap.push { cls:=.type "slice",data:=.fields #[vl,vu,.none] } }:=I3.kept (t':=s3.toks) fun b ob q=>Heap.get?_push_of_some _ q
 obtain⟨T,id,hT,ht,hg⟩:=hr pins { s3 with heap:=s3.heap.push { cls:=.type "slice",data:=.fields #[vl,vu,.none] } } σ H3 x v vl vu l u s3.heap.objs.size Q I4 r1 (Heap.IsSliceOf.new ..) pl pu q3;show wpAny (model X.prog X.w) X.A (subscriptTail e (.Slice lo hi none p2) v (.ref s3.heap.objs.size)) (EP X pins σ Q) X.xe { s3 with heap:=s3.heap.push { cls:=.type "slice",data:=.fields #[vl,vu,.none] } };exact tail_any (ops:=[.ref s3.heap.objs.size,v]) ht hT hg (by with_unfolding_all rfl)
def Az(xs:List V)(lo hi:Option Int):List V:=(xs.drop (HT.sIx xs.length 0 lo)).take (HT.sIx xs.length xs.length hi - HT.sIx xs.length 0 lo)
theorem k9(xs:List V)(lo hi:Option Int):(Az xs lo hi).length<=xs.length:=by
 unfold Az;rw [length_take,length_drop];omega
def FW(K:PySem.W.Frag):V->Option Int->Option Int->Hp->VK->Prop:=fun x lo hi H Q=>∃a xs,x=.ref a/\SqT K H a xs /\
 ¬ (HT.sIx xs.length 0 lo=0/\HT.sIx xs.length xs.length hi=xs.length)/\∀p,H p=none->Q (.ref p) (upd H p (.tup (Az xs lo hi)))
theorem CP:SlR X (FW X.K):=by
 intro pins s σ H x v vl vu lo hi sl Q I rx hs pl pu h;obtain⟨a,xs,rfl,hx,hw,q⟩:=h;cases rx;obtain⟨its,r,ht,hz⟩:=I.tuple hx;have hlen:its.toArray.size=xs.length:=by rw [size_toArray];exact r.length.symm
 refine⟨"tuple",_,PyProof.Rows.slot_tuple_getitem.lookup,ht.typeIs,?_⟩;refine HT.getItem_tuple_cut ht hs pl pu (by rw [hlen];exact hw) ?_ (by rw [hlen];exact hz);rw [hlen];refine⟨.ref s.heap.objs.size,_,I.laid (t':=s.toks) (o:=.tup (Az xs lo hi)) (fun b ob q=>Heap.get?_push_of_some _ q) (Nat.le_refl _) ?_,rfl,q _ (I.hok.fresh (Nat.le_refl _))⟩;exact⟨Nat.le_trans (k9 xs lo hi) hz,_,(r.drop (HT.sIx xs.length 0 lo)).take (HT.sIx xs.length xs.length hi - HT.sIx xs.length 0 lo),IsTup.new _ _⟩
def CQ(K:PySem.W.Frag):R2:=fun x y H Q=>∃a b xs ys,x=.ref a/\y=.ref b/\SqT K H a xs/\SqT K H b ys/\xs≠[]/\xs.length+ys.length<=sizeLine /\
 (ys=[]->Q (.ref a) H)/\(ys≠[]->∀p,H p=none->Q (.ref p) (upd H p (.tup (xs++ys))))
theorem bY.nil_iff{xs:List V}{us:List Value}(r:bY xs us):us=[] ↔ xs=[]:=by
 cases r with
 | nil=>simp
 | cons _ _=>simp
theorem AA:OpR X (binaryOp .Add) (CQ X.K):=by
 intro pins s σ H x y v u Q I rx ry h;obtain⟨a,b,xs,ys,rfl,rfl,ha,hb,hx,hz,q1,q2⟩:=h;cases rx;cases ry;obtain⟨its,r1,p1,_⟩:=I.tuple ha;obtain⟨its2,r2,p2,_⟩:=I.tuple hb;refine HT.cat_tup p1 p2 (fun z=>hx (r1.nil_iff.mp z)) (fun z=>⟨.ref a,H,I,rfl,q1 (r2.nil_iff.mp z)⟩) (fun z=>?_) (by rw [<- r1.length,<- r2.length];exact hz);refine⟨.ref s.heap.objs.size,_,I.laid (t':=s.toks) (o:=.tup (xs++ys)) (fun b ob q=>Heap.get?_push_of_some _ q) (Nat.le_refl _) ?_,rfl,q2 (fun w=>z (r2.nil_iff.mpr w)) _ (I.hok.fresh (Nat.le_refl _))⟩
 exact⟨by rw [length_append];exact hz,_,r1.append r2,IsTup.new _ _⟩
end
def ixN(n:Nat)(i:Int):Option Nat:=if 0<=i then (if i<n then some i.toNat else none) else if -(n:Int)<=i then some (i+n).toNat else none
def atI{α:Type}(xs:List α)(i:Int):Option α:=(ixN xs.length i).bind fun j=>xs[j]?
theorem rB{n:Nat}{i:Int}{j:Nat}(h:ixN n i=some j):seqIndex? i n=some j/\j<n/\-(n:Int)<=i/\i<n:=by
 unfold ixN at h
 by_cases h0:0<=i
 .rw [if_pos h0] at h
  by_cases h1:i<n
  .rw [if_pos h1] at h;have e:i.toNat=j:=Option.some.inj h;exact⟨by rw [seqIndex_of h0 h1,e],by omega,by omega,h1⟩
  .rw [if_neg h1] at h;cases h
 .rw [if_neg h0] at h
  by_cases h1:-(n:Int)<=i
  .rw [if_pos h1] at h;have e:(i+n).toNat=j:=Option.some.inj h;exact⟨by rw [seqIndex_neg (by omega) h1,e],by omega,h1,by omega⟩
  .rw [if_neg h1] at h;cases h
theorem rC{α:Type}{xs:List α}{i:Int}{v:α}(h:atI xs i=some v):∃j,seqIndex? i xs.length=some j/\xs[j]?=some v/\j<xs.length/\-(xs.length:Int)<=i/\i<xs.length:=by
 unfold atI at h
 cases e:ixN xs.length i with
 | none=>rw [e] at h;cases h
 | some j =>
  rw [e] at h;obtain⟨h1,h2,h3,h4⟩:=rB e;exact⟨j,h1,h,h2,h3,h4⟩
theorem AB{α:Type}{xs:List α}{j:Nat}{v:α}(h:xs[j]?=some v):atI xs (j:Int)=some v:=by
 have hj:j<xs.length:=(List.getElem?_eq_some_iff.mp h).1
 have e:ixN xs.length (j:Int)=some j:=by
  unfold ixN;rw [if_pos (by omega),if_pos (by omega)];simp
 unfold atI;rw [e];exact h
def AC(b:Expr):Prop:=∀o i,subscripted b false o i=operate [o,i] (getItem o i)
def IxR(X:Cx)(r:R2):Prop :=
 ∀(value slice:Expr) (pins:List (Addr×Obj)) (s:Shared) (σ:St) (H:Hp) (x y:V) (v u:Value) (Q:VK),Inv X pins σ H s->ee x v->ee y u->r x y H Q ->
  subscripted slice false v u=operate [v,u] (getItem v u)->wpAny (model X.prog X.w) X.A (subscriptTail value slice v u) (EP X pins σ Q) X.xe s
def MtR(X:Cx)(id:String)(r:V->List V->Hp->VK->Prop):Prop :=
 ∀(pins:List (Addr×Obj)) (s:Shared) (σ:St) (H:Hp) (x:V) (xs:List V) (v:Value) (us:List Value) (Q:VK),Inv X pins σ H s->ee x v->bY xs us->r x xs H Q ->
  wpAny (model X.prog X.w) X.A (call (.builtin id) (v::us)) (EP X pins σ Q) X.xe s
section
variable {X:Cx}{a b:Expr}{ta tb:TE}{pos:Pos}
theorem IxR.or{r r':R2}(h:IxR X r)(h':IxR X r'):IxR X (fun x y H Q=>r x y H Q\/r' x y H Q):=by
 intro value slice pins s σ H x y v u Q I rx ry q hs
 rcases q with q|q
 .exact h value slice pins s σ H x y v u Q I rx ry q hs
 .exact h' value slice pins s σ H x y v u Q I rx ry q hs
theorem dH{r:R2}(hr:IxR X r)(ha:PE X a ta)(hb:PE X b tb)(hs:AC b):PE X (.Subscript a b pos) (tOp r ta tb):=by
 intro pins s σ H Q I h;exact Subscript_ (EG ha hb I h fun v u s2 x y H2 I2 rx ry q=>hr a b pins s2 σ H2 x y v u Q I2 rx ry q (hs _ _))
def FY(K:PySem.W.Frag):R2:=fun x y H Q=>∃p xs i v,x=.ref p/\y=.int i/\SqL K H p xs/\atI xs i=some v/\Q v H
def FZ(K:PySem.W.Frag):R2:=fun x y H Q=>∃p xs i v,x=.ref p/\y=.int i/\SqT K H p xs/\atI xs i=some v/\Q v H
def Gs:R2:=fun x y H Q=>∃z i c,x=.str z/\y=.int i/\z.length<=sizeLine/\atI z.cps.toList i=some c/\Q (.str ⟨#[c]⟩) H
theorem AD:IxR X (FY X.K):=by
 intro value slice pins s σ H x y v u Q I rx ry h hs;obtain⟨p,xs,i,z,rfl,rfl,hq,he,q⟩:=h;cases rx;obtain⟨t,rfl⟩:=ry;obtain⟨its,r,pl,hz⟩:=I.list hq;obtain⟨j,h1,h2,h3,h4,h5⟩:=rC he;obtain⟨w,ew,rw'⟩:=r.get h2;have hl:=r.length;have hn:=kY;have fin:EP X pins σ Q w s:=⟨z,H,I,rw',q⟩
 by_cases h0:0<=i
 .have hj:i.toNat=j:=by
   rw [seqIndex_of h0 h5] at h1;exact Option.some.inj h1
  exact item_listR pl.isList h0 (by omega) (by rw [hj];simpa using ew) fin hs
 .have hj:(i+(its.toArray.size:Int)).toNat=j:=by
   rw [seqIndex_neg (by omega) h4] at h1;rw [size_toArray,<- hl];exact Option.some.inj h1
  exact subscriptTail_builtinR (x:=w) pl.isList.typeIs slot_list_getitem.lookup
   (wpAny_getItem_list_neg (Q:=fun r s'=>r=w/\EP X pins σ Q r s') pl.isList (by omega) (by rw [size_toArray] <;> omega) (by omega) (by rw [hj];simpa using ew) ⟨rfl,fin⟩) hs
theorem CS:IxR X (FZ X.K):=by
 intro value slice pins s σ H x y v u Q I rx ry h hs;obtain⟨p,xs,i,z,rfl,rfl,hq,he,q⟩:=h;cases rx;obtain⟨t,rfl⟩:=ry;obtain⟨its,r,pl,hz⟩:=I.tuple hq;obtain⟨j,h1,h2,h3,h4,h5⟩:=rC he;obtain⟨w,ew,rw'⟩:=r.get h2;have hl:=r.length;have hn:=kY;have fin:EP X pins σ Q w s:=⟨z,H,I,rw',q⟩
 exact subscriptTail_builtinR (x:=w) pl.typeIs slot_tuple_getitem.lookup
  (getItem_tuple (j:=j) (Q:=fun r s'=>r=w/\EP X pins σ Q r s') pl (by omega) (by omega) (by rw [size_toArray,<- hl];exact h1) (by simpa using ew) ⟨rfl,fin⟩) hs
theorem CT:IxR X Gs:=by
 intro value slice pins s σ H x y v u Q I rx ry h hs;obtain⟨z,i,c,rfl,rfl,hz,he,q⟩:=h;obtain⟨t,rfl⟩:=rx;obtain⟨t',rfl⟩:=ry;obtain⟨j,h1,h2,h3,h4,h5⟩:=rC he;have hl:z.cps.toList.length=z.length:=by simp [Str.length]
 rw [hl] at h1 h4 h5;have hn:=kY
 exact tail_any (typeIs_str s z t) slot_str_getitem.lookup (getItem_str (c:=c) (by
  have e1:decide (i < -(2^63:Int))=false:=decide_eq_false (by omega);have e2:decide (i >= 2^63)=false:=decide_eq_false (by omega);rw [e1,e2,Bool.or_false]) (by rw [h1];simpa using h2) ⟨.str ⟨#[c]⟩,H,I.tok _,⟨_,rfl⟩,q⟩) hs
theorem uA(its:List Value)(n j:Nat)(u:Value):Obj.mapSeq (·.setIfInBounds j u) { cls:=.type "list",data:=.seq its.toArray n }={ cls:=.type "list",data:=.seq (its.set j u).toArray n }:=by
 simp [Obj.mapSeq]
theorem Inv.lst{pins:List (Addr×Obj)}{σ:St}{H:Hp}{s:Shared}{p:Addr}{xs:List V}(I:Inv X pins σ H s)(h:H p=some (.lst xs)) :
  ∃(its:List Value) (n:Nat),bY xs its/\s.heap.get? p=some { cls:=.type "list",data:=.seq its.toArray n }/\xs.length<=sizeLine:=by
 obtain⟨z,its,n,r,e⟩:=I.hok p _ h;exact⟨its,n,r,e,z⟩
theorem Inv.lstUpd{pins:List (Addr×Obj)}{σ:St}{H:Hp}{s:Shared}{p:Addr}{xs ys:List V}{its its':List Value}{n n':Nat}{f:Obj->Obj}(I:Inv X pins σ H s)(h:H p=some (.lst xs))
  (ho:s.heap.get? p=some { cls:=.type "list",data:=.seq its.toArray n }) (hf:f { cls:=.type "list",data:=.seq its.toArray n }={ cls:=.type "list",data:=.seq its'.toArray n' }) (r:bY ys its') (hz:ys.length<=sizeLine) (t:Nat) :
  Inv X pins σ (upd H p (.lst ys)) { s with heap:=s.heap.update p f,toks:=t }:=by
 have e:(s.heap.update p f).get? p=some { cls:=.type "list",data:=.seq its'.toArray n' }:=by
  rw [Heap.get?_update_self f ho (by rw [hf] <;> rfl),hf]
 refine I.write (x:=p) (e:=p) (by rw [h];trivial) (.inl rfl) (fun b u hb q=>(Heap.get?_update_other _ _ (Ne.symm hb)).trans q) ⟨_,e⟩ ?_;exact⟨hz,its',n',r,e⟩
def CU:V->V->V->Hp->(Hp->Prop)->Prop:=fun o i v H Q=>∃p xs k j,o=.ref p/\i=.int k/\H p=some (.lst xs)/\ixN xs.length k=some j/\Q (upd H p (.lst (xs.set j v)))
theorem x6:FO X CU:=by
 intro pins s σ H o i v ov iv u Q I ro ri rv h;obtain⟨p,xs,k,j,rfl,rfl,hp,hj,q⟩:=h;cases ro;obtain⟨t,rfl⟩:=ri;obtain⟨its,n,r,ho,hz⟩:=I.lst hp;obtain⟨h1,h2,h3,h4⟩:=rB hj;have hl:=r.length;have hn:=kY
 have I':Inv X pins σ (upd H p (.lst (xs.set j v))) { s with heap:=s.heap.update p (Obj.mapSeq (·.setIfInBounds j u)) } :=
  I.lstUpd hp ho (uA its n j u) (r.set rv j) (by rw [length_set];exact hz) s.toks
 by_cases h0:0<=k
 .have hk:k.toNat=j:=by
   rw [seqIndex_of h0 h4] at h1;exact Option.some.inj h1
  exact PySem.W.ki_setAt ho h0 (by omega) (by rw [size_toArray,<- hl];exact h4) (by rw [hk];exact⟨_,I',q⟩)
 .have hk:(k+(its.toArray.size:Int)).toNat=j:=by
   rw [seqIndex_neg (by omega) h3] at h1;rw [size_toArray,<- hl];exact Option.some.inj h1
  exact PySem.W.ki_setBack ho (by omega) (by rw [size_toArray,<- hl];exact h3) (by omega) (by rw [hk];exact⟨_,I',q⟩)
theorem pR(lo hi:Option Int)(n:Nat):(sliceBounds lo hi none n).1=((HT.sIx n 0 lo:Nat):Int)/\(sliceBounds lo hi none n).2.1=((HT.sIx n n hi:Nat):Int)/\(sliceBounds lo hi none n).2.2=1:=by
 refine⟨?_,?_,rfl⟩
 .cases lo with
  | none=>simp [sliceBounds,HT.sIx]
  | some i =>
   simp only [sliceBounds,HT.sIx,Option.getD_none,show (1:Int) > 0 by decide,if_true]
   by_cases h:i<0
   .simp only [h,if_true] <;> omega
   .simp only [h,if_false] <;> omega
 .cases hi with
  | none=>simp [sliceBounds,HT.sIx]
  | some i =>
   simp only [sliceBounds,HT.sIx,Option.getD_none,show (1:Int) > 0 by decide,if_true]
   by_cases h:i<0
   .simp only [h,if_true] <;> omega
   .simp only [h,if_false] <;> omega
theorem n0(its:List Value)(lo hi:Option Int):slicePick its.toArray lo hi none=((its.drop (HT.sIx its.length 0 lo)).take (HT.sIx its.length its.length hi - HT.sIx its.length 0 lo)).toArray:=by
 obtain⟨h1,h2,h3⟩:=pR lo hi its.toArray.size;unfold slicePick;rw [h1,h2,h3];simp only [sliceRange_one,pick_run,size_toArray] <;> rfl
def F4(K:PySem.W.Frag):V->Option Int->Option Int->Hp->VK->Prop:=fun x lo hi H Q=>∃a xs,x=.ref a/\SqL K H a xs/\∀p,H p=none->Q (.ref p) (upd H p (.lst (Az xs lo hi)))
theorem AE:SlR X (F4 X.K):=by
 intro pins s σ H x v vl vu lo hi sl Q I rx hs pl pu h;obtain⟨a,xs,rfl,hx,q⟩:=h;cases rx;obtain⟨its,r,ht,hz⟩:=I.list hx;have hlen:=r.length;refine⟨"list",_,slot_list_getitem.lookup,ht.isList.typeIs,?_⟩;refine wpAny_getItem_list_slice ht.isList hs pl pu .none (by simp) ?_ (by rw [size_toArray] <;> omega);rw [n0,<- hlen];refine⟨.ref s.heap.objs.size,_,I.laid (t':=s.toks) (o:=.lst (Az xs lo hi)) (fun b ob q=>Heap.get?_push_of_some _ q) (Nat.le_refl _) ?_,rfl,q _ (I.hok.fresh (Nat.le_refl _))⟩
 exact⟨Nat.le_trans (k9 xs lo hi) hz,_,0,(r.drop (HT.sIx xs.length 0 lo)).take (HT.sIx xs.length xs.length hi - HT.sIx xs.length 0 lo),Heap.get?_push_size _ rfl⟩
def mB:V->Bool
 | .non=>true
 | .bl _=>true
 | .int _=>true
 | .str _=>true
 | _=>false
def eqV:V->V->Bool
 | .non,.non=>true
 | .bl a,.bl b=>a == b
 | .bl a,.int b=>(if a then 1 else 0) == b
 | .int a,.bl b=>a == (if b then 1 else 0)
 | .int a,.int b=>a == b
 | .str a,.str b=>a == b
 | _,_=>false
theorem CV{A:Around}{s:Shared}{y x:V}{u v:Value}(ry:ee y u)(rx:ee x v)(fy:mB y=true)(fx:mB x=true):SeqAt.EqAt A s u v (eqV y x):=by
 cases y with
 | non =>
  cases ry
  cases x with
  | non=>cases rx;exact SeqAt.EqAt.same _
  | bl b=>cases rx;exact SeqAt.EqAt.none_bool b
  | int b=>obtain⟨t,rfl⟩:=rx;exact SeqAt.EqAt.none_int b t
  | str b=>obtain⟨t,rfl⟩:=rx;exact SeqAt.EqAt.none_str b t
  | _=>exact absurd (show false=true from fx) Bool.false_ne_true
 | bl a =>
  cases ry
  cases x with
  | non=>cases rx;exact SeqAt.EqAt.bool_none a
  | bl b=>cases rx;exact SeqAt.EqAt.bool_bool a b
  | int b=>obtain⟨t,rfl⟩:=rx;exact SeqAt.EqAt.bool_int a b t
  | str b=>obtain⟨t,rfl⟩:=rx;exact SeqAt.EqAt.bool_str a b t
  | _=>exact absurd (show false=true from fx) Bool.false_ne_true
 | int a =>
  obtain⟨t',rfl⟩:=ry
  cases x with
  | non=>cases rx;exact SeqAt.EqAt.int_none a t'
  | bl b=>cases rx;exact SeqAt.EqAt.int_bool a t' b
  | int b=>obtain⟨t,rfl⟩:=rx;exact SeqAt.EqAt.int_int a t' b t
  | str b=>obtain⟨t,rfl⟩:=rx;exact SeqAt.EqAt.int_str a t' b t
  | _=>exact absurd (show false=true from fx) Bool.false_ne_true
 | str a =>
  obtain⟨t',rfl⟩:=ry
  cases x with
  | non=>cases rx;exact SeqAt.EqAt.str_none a t'
  | bl b=>cases rx;exact SeqAt.EqAt.str_bool a t' b
  | int b=>obtain⟨t,rfl⟩:=rx;exact SeqAt.EqAt.str_int a t' b t
  | str b=>obtain⟨t,rfl⟩:=rx;exact SeqAt.EqAt.str_str a t' b t
  | _=>exact absurd (show false=true from fx) Bool.false_ne_true
 | _=>exact absurd (show false=true from fy) Bool.false_ne_true
def eqU(x:V)(u:Value):Bool:=match u with
 | .none=>eqV .non x
 | .bool b=>eqV (.bl b) x
 | .int i _=>eqV (.int i) x
 | .str z _=>eqV (.str z) x
 | _=>false
theorem zw{x y:V}{u:Value}(r:ee y u)(f:mB y=true):eqU x u=eqV y x:=by
 cases y with
 | non=>cases r;rfl
 | bl b=>cases r;rfl
 | int i=>obtain⟨t,rfl⟩:=r;rfl
 | str z=>obtain⟨t,rfl⟩:=r;rfl
 | _=>exact absurd (show false=true from f) Bool.false_ne_true
theorem lc{x:V}:∀{xs:List V}{us:List Value},bY xs us->xs.all mB=true->us.any (eqU x)=xs.any fun y=>eqV y x
 | _,_,.nil,_=>rfl
 | y::xs,u::us,.cons r t,f=>by
  rw [all_cons,and_eq_true] at f;rw [any_cons,any_cons,zw r f.1,lc t f.2]
theorem jb{A:Around}{s:Shared}{x:V}{v:Value}(rx:ee x v)(fx:mB x=true):∀{xs:List V}{us:List Value},bY xs us->xs.all mB=true->∀u∈us,SeqAt.EqAt A s u v (eqU x u)
 | _,_,.nil,_=>fun u hu=>by cases hu
 | y::xs,u::us,.cons r t,f=>fun u' hu=>by
  rw [all_cons,and_eq_true] at f
  rcases mem_cons.mp hu with rfl|hu
  .rw [zw r f.1];exact CV r rx f.1 fx
  .exact jb rx fx t f.2 u' hu
def inV(x:V)(xs:List V):Bool:=xs.any fun y=>eqV y x
def rIn(K:PySem.W.Frag)(neg:Bool):R2:=fun x y H Q=>∃p xs,y=.ref p/\(SqL K H p xs\/SqT K H p xs)/\mB x=true/\xs.all mB=true/\Q (.bl (if neg then !inV x xs else inV x xs)) H
theorem vz:OpR X (compareOp .In) (rIn X.K false):=by
 intro pins s σ H x y v u Q I rx ry h;obtain⟨p,xs,rfl,hq,fx,fs,q⟩:=h;cases ry
 rcases hq with hq|hq
 .obtain⟨its,r,pl,hz⟩:=I.list hq;refine SeqAt.in_listAt (eqU x) pl.isList (fun w hw=>jb rx fx r fs w (by simpa using hw)) ⟨.bl _,H,I,rfl,?_⟩;rw [show its.toArray.any (eqU x)=its.any (eqU x) by simp,lc r fs];exact q
 .obtain⟨its,r,pl,hz⟩:=I.tuple hq;refine SeqAt.in_tupleAt (eqU x) pl (fun w hw=>jb rx fx r fs w (by simpa using hw)) ⟨.bl _,H,I,rfl,?_⟩;rw [show its.toArray.any (eqU x)=its.any (eqU x) by simp,lc r fs];exact q
theorem pS:OpR X (compareOp .NotIn) (rIn X.K true):=by
 intro pins s σ H x y v u Q I rx ry h;obtain⟨p,xs,rfl,hq,fx,fs,q⟩:=h;cases ry
 rcases hq with hq|hq
 .obtain⟨its,r,pl,hz⟩:=I.list hq;refine SeqAt.notIn_listAt (eqU x) pl.isList (fun w hw=>jb rx fx r fs w (by simpa using hw)) ⟨.bl _,H,I,rfl,?_⟩;rw [show its.toArray.any (eqU x)=its.any (eqU x) by simp,lc r fs];exact q
 .obtain⟨its,r,pl,hz⟩:=I.tuple hq;refine SeqAt.notIn_tupleAt (eqU x) pl (fun w hw=>jb rx fx r fs w (by simpa using hw)) ⟨.bl _,H,I,rfl,?_⟩;rw [show its.toArray.any (eqU x)=its.any (eqU x) by simp,lc r fs];exact q
theorem j7:cN X (.builtin "len") (fun xs H Q=>∃p ys,xs=[.ref p]/\(SqL X.K H p ys\/SqT X.K H p ys)/\Q (.int ys.length) H):=by
 intro pins s σ H xs us Q I r h;obtain⟨p,ys,rfl,hq,q⟩:=h;obtain⟨u,rfl,rx⟩:=iq r;cases rx;have hn:=kY
 rcases hq with hq|hq
 .obtain⟨its,r',pl,hz⟩:=I.list hq;have hlen:=r'.length;exact Calls.call_len_list pl.isList (by simp only [size_toArray] <;> omega) ⟨.int ys.length,H,I.tok _,⟨s.toks+1,by rw [size_toArray,hlen]⟩,q⟩
 .obtain⟨its,r',pl,hz⟩:=I.tuple hq;have hlen:=r'.length;exact len_tuple pl (by simp only [size_toArray] <;> omega) ⟨.int ys.length,H,I.tok _,⟨s.toks+1,by rw [size_toArray,hlen]⟩,q⟩
theorem pT:cN X (.builtin "len") (fun xs H Q=>∃z,xs=[.str z]/\z.length<=sizeLine/\Q (.int z.length) H):=by
 intro pins s σ H xs us Q I r h;obtain⟨z,rfl,hz,q⟩:=h;obtain⟨u,rfl,t,rfl⟩:=iq r;have hn:=kY;exact len_str (by omega) ⟨.int z.length,H,I.tok _,⟨_,rfl⟩,q⟩
theorem cN.or{f:Value}{r r':List V->Hp->VK->Prop}(h:cN X f r)(h':cN X f r'):cN X f (fun xs H Q=>r xs H Q\/r' xs H Q):=by
 intro pins s σ H xs us Q I rs q
 rcases q with q|q
 .exact h pins s σ H xs us Q I rs q
 .exact h' pins s σ H xs us Q I rs q
theorem pU:cN X (.type "list") (fun xs H Q=>∃p ys,xs=[.ref p]/\(SqL X.K H p ys\/SqT X.K H p ys)/\∀l,H l=none->Q (.ref l) (upd H l (.lst ys))):=by
 intro pins s σ H xs us Q I r h;obtain⟨p,ys,rfl,hq,q⟩:=h;obtain⟨u,rfl,rx⟩:=iq r;cases rx
 have fin:∀(its:List Value),bY ys its->ys.length<=sizeLine->∀(h':Heap) (c':Nat),(∀b o',s.heap.get? b=some o'->h'.get? b=some o') ->
   h'.get? s.heap.objs.size=some { cls:=.type "list",dict:=none,data:=.seq its.toArray c',slots:=#[] }->EP X pins σ Q (.ref s.heap.objs.size) { s with heap:=h' }:=fun its r' hz h' c' kp e =>
  ⟨.ref s.heap.objs.size,_,I.laid (t':=s.toks) kp (Nat.le_refl _) (show dy X.prog X.w _ h' _ (.lst ys) from ⟨hz,its,c',r',e⟩),rfl,q _ (I.hok.fresh (Nat.le_refl _))⟩
 rcases hq with hq|hq
 .obtain⟨its,r',pl,hz⟩:=I.list hq;have hlen:=r'.length;obtain⟨o,ho,hc,n,hd⟩:=pl.isList;exact call_list_seq p (.inl rfl) ho hc hd (fun h' c' kp e=>fin its r' hz h' c' kp e) (by simp only [size_toArray] <;> omega)
 .obtain⟨its,r',pl,hz⟩:=I.tuple hq;have hlen:=r'.length;obtain⟨o,ho,hc,n,hd⟩:=pl;exact call_list_seq p (.inr rfl) ho hc hd (fun h' c' kp e=>fin its r' hz h' c' kp e) (by simp only [size_toArray] <;> omega)
theorem n6:cN X (.type "tuple") (fun xs H Q=>∃p ys,xs=[.ref p]/\((SqL X.K H p ys/\∀l,H l=none->Q (.ref l) (upd H l (.tup ys)))\/(SqT X.K H p ys/\Q (.ref p) H))):=by
 intro pins s σ H xs us Q I r h;obtain⟨p,ys,rfl,h⟩:=h;obtain⟨u,rfl,rx⟩:=iq r;cases rx
 rcases h with ⟨hq,q⟩|⟨hq,q⟩
 .obtain⟨its,r',pl,hz⟩:=I.list hq;have hlen:=r'.length;refine call_tuple_list pl.isList (fun h' kp=>?_) (by simp only [size_toArray] <;> omega);have I1:Inv X pins σ H { s with heap:=h' }:=I.kept (t':=s.toks) kp
  have I2:Inv X pins σ (upd H h'.objs.size (.tup ys)) { s with heap:=h'.push { cls:=.type "tuple",data:=.seq its.toArray } } :=
   I1.laid (t':=s.toks) (fun b o e=>Heap.get?_push_of_some _ e) (Nat.le_refl _) (show dy X.prog X.w _ _ _ (.tup ys) from ⟨hz,its,r',IsTup.new _ _⟩)
  exact⟨.ref h'.objs.size,_,I2,rfl,q _ (I1.hok.fresh (Nat.le_refl _))⟩
 .obtain⟨its,r',pl,hz⟩:=I.tuple hq;exact call_tuple_same pl ⟨.ref p,H,I,rfl,q⟩
def tyV(K:PySem.W.Frag)(T:String)(x:V)(H:Hp):Prop:=match x with
 | .str _=>T="str"
 | .int _=>T="int"
 | .ref p=>(T="list"/\∃xs,SqL K H p xs)\/(T="tuple"/\∃o,K.lookup p=some o/\o.cls=.type "tuple"/\o.dict=none) \/
   (T="dict"/\((∃kvs,H p=some (.dK kvs))\/∃kvs,H p=some (.dT kvs)))\/(T="set"/\∃S n,H p=some (.set S n))
 | _=>False
theorem zx{pins:List (Addr×Obj)}{σ:St}{H:Hp}{s:Shared}{T:String}{x:V}{v:Value}(I:Inv X pins σ H s)(r:ee x v)(ty:tyV X.K T x H) :
  s.TypeIs v T/\∀a,v=.ref a->∃ob,s.heap.get? a=some ob/\ob.dict=none:=by
 cases x with
 | str z =>
  obtain⟨t,rfl⟩:=r;cases (show T="str" from ty);exact⟨typeIs_str s z t,fun _ e=>nomatch e⟩
 | int i =>
  obtain⟨t,rfl⟩:=r;cases (show T="int" from ty);exact⟨typeIs_int s i t,fun _ e=>nomatch e⟩
 | ref p =>
  cases r
  rcases ty with ⟨rfl,xs,hq⟩|⟨rfl,o,hk,hc,hd⟩|⟨rfl,hk⟩|⟨rfl,S,n,hk⟩
  .obtain⟨its,_,pl,_⟩:=I.list hq;refine⟨pl.isList.typeIs,fun a e=>?_⟩;cases e;obtain⟨o,n,e,c,hd,_⟩:=pl;exact⟨o,e,hd⟩
  .refine⟨⟨o,I.kIn p o hk,hc⟩,fun a e=>?_⟩;cases e;exact⟨o,I.kIn _ o hk,hd⟩
  .have z:∃o,s.heap.get? p=some o/\o.ExactDict:=by
    rcases hk with ⟨kvs,hk⟩|⟨kvs,hk⟩
    .obtain⟨_,_,_,_,o,_,_,e,ex,_⟩:=I.hok p _ hk;exact⟨o,e,ex⟩
    .obtain⟨_,_,_,_,o,_,_,e,ex,_⟩:=I.hok p _ hk;exact⟨o,e,ex⟩
   obtain⟨o,e,ex⟩:=z;refine⟨⟨o,e,ex.1⟩,fun a e2=>?_⟩;cases e2;exact⟨o,e,ex.2.1⟩
  .obtain⟨o,_,_,_,e,ex,_⟩:=I.hok p _ hk;refine⟨⟨o,e,ex.1⟩,fun a e2=>?_⟩;cases e2;exact⟨o,e,ex.2.1⟩
 | _=>exact False.elim ty
def CW(K:PySem.W.Frag)(T:String)(r:V->List V->Hp->VK->Prop)(to:TE):TE:=fun σ H Q=>to σ H fun x H1=>tyV K T x H1/\r x [] H1 Q
def tBM(K:PySem.W.Frag)(T:String)(r:V->List V->Hp->VK->Prop)(to:TE)(t:TA):TE:=fun σ H Q=>to σ H fun x H1=>tyV K T x H1/\t σ H1 fun xs H2=>r x xs H2 Q
variable {o e:Expr}{es:List Expr}{to:TE}{t:TA}{name:Str}{apos cpos:Pos}{T id:String}{r:V->List V->Hp->VK->Prop}
theorem zy(pa:PlainAttrs T)(slot:Slot T name id)(hty:typeOf (.builtin id)=pure (.type "method_descriptor"))(hm:MtR X id r)(ho:PE X o to)
  (hbase:attributeBase o name X.env (eval o X.env)=eval o X.env:=by rfl) (hline:(apos.endLine == cpos.line)=true:=by rfl):PE X (.Call (.Attribute o name apos) [] [] cpos) (CW X.K T r to):=by
 intro pins s σ H Q I h;refine wpAny_Call_method0_late hbase hline (thn (ho pins s σ H _ I h) fun v s1 ⟨x,H1,I1,r1,ty,q1⟩=>?_);obtain⟨h1,h2⟩:=zx I1 r1 ty;exact⟨T,id,pa,slot,hty,h1,h2,Calls.callWith_builtin rfl (PySem.evalArgs_none (hm pins s1 σ H1 x [] v [] Q I1 r1 .nil q1))⟩
theorem EQ(pa:PlainAttrs T)(slot:Slot T name id)(hty:typeOf (.builtin id)=pure (.type "method_descriptor"))(hm:MtR X id r)(ho:PE X o to)(ha:PA X (e::es) t)
  (hbase:attributeBase o name X.env (eval o X.env)=eval o X.env:=by rfl)
  (hfew:((backTo cpos (starEach (e::es) X.env)).all (fun x=>!x.1) && (backToKw cpos (keywordEach [] X.env)).all (fun x=>x.1.isSome)
   && decide ((e::es).length+([]:List Keyword).length+(if ([]:List Keyword).isEmpty then 0 else 1)<30))=true:=by rfl)
  (hline:(apos.endLine == cpos.line)=true:=by rfl) (hs:starEach (e::es) X.env=(false,eval e X.env)::starEach es X.env:=by rfl) (hplain:(backTo cpos (starEach es X.env)).any (·.1)=false:=by rfl) :
  PE X (.Call (.Attribute o name apos) (e::es) [] cpos) (tBM X.K T r to t):=by
 intro pins s σ H Q I h;refine wpAny_Call_method_late hbase hfew hline rfl (thn (ho pins s σ H _ I h) fun v s1 ⟨x,H1,I1,r1,ty,q1⟩=>?_);obtain⟨h1,h2⟩:=zx I1 r1 ty;refine⟨T,id,pa,slot,hty,h1,h2,?_⟩;have hA:=ha cpos pins s1 σ H1 _ I1 q1;rw [hs] at hA ⊢;refine Calls.callWith_builtin (by show (false || (backTo cpos (starEach es X.env)).any (·.1))=false;rw [hplain] <;> rfl) (Calls.evalArgs_plain ?_);exact thn hA fun us s2 ⟨vs,H2,I2,r2,q2⟩=>hm pins s2 σ H2 x vs v us Q I2 r1 r2 q2
end
def MtM(X:Cx)(id:String)(r:V->List V->Hp->VK->Prop):Prop :=
 ∀(pins:List (Addr×Obj)) (s:Shared) (σ:St) (H:Hp) (x:V) (xs:List V) (v:Value) (us:List Value) (Q:VK),Inv X pins σ H s->ee x v->bY xs us->r x xs H Q ->
  wpAny (model X.prog X.w) X.A (call (.builtin id) (v::us)) (EP X pins σ Q) X.xe s
theorem bY.one:∀{x:V}{us:List Value},bY [x] us->∃u,us=[u]/\ee x u
 | _,_,.cons r .nil=>⟨_,rfl,r⟩
theorem bY.zero:∀{us:List Value},bY [] us->us=[]
 | _,.nil=>rfl
theorem bY.dropLast{xs:List V}{us:List Value}(h:bY xs us):bY xs.dropLast us.dropLast:=by
 induction h with
 | nil=>exact .nil
 | cons r t ih =>
  cases t with
  | nil=>exact .nil
  | cons q t'=>exact .cons r ih
theorem bY.eraseIdx:∀{xs:List V}{us:List Value} (i:Nat),bY xs us->bY (xs.eraseIdx i) (us.eraseIdx i)
 | _,_,_,.nil=>.nil
 | _,_,0,.cons _ t=>t
 | _,_,i+1,.cons r t=>.cons r (bY.eraseIdx i t)
theorem bY.reverse{xs:List V}{us:List Value}(h:bY xs us):bY xs.reverse us.reverse:=by
 induction h with
 | nil=>exact .nil
 | cons r t ih=>rw [reverse_cons,reverse_cons];exact bY.append ih (.cons r .nil)
theorem bY.rep{xs:List V}{us:List Value}(h:bY xs us):∀k:Nat,bY (List.replicate k xs).flatten (List.replicate k us).flatten
 | 0=>.nil
 | k+1=>by
  rw [replicate_succ,replicate_succ,flatten_cons,flatten_cons];exact bY.append h (bY.rep h k)
theorem uB{α:Type}(l:List α):l.eraseIdx (l.length - 1)=l.dropLast:=by
 induction l with
 | nil=>rfl
 | cons a r ih =>
  cases r with
  | nil=>rfl
  | cons b r =>
   have e:(a::b::r).length - 1=((b::r).length - 1)+1:=by
    have h1:(a::b::r).length=r.length+2:=rfl;have h2:(b::r).length=r.length+1:=rfl;omega
   rw [e,eraseIdx_cons_succ,ih]
   all_goals rfl
theorem pV{α:Type}:∀(l:List α) (i:Nat),(l.eraseIdx i).length<=l.length
 | [],_=>Nat.le_refl _
 | _::_,0=>le_succ _
 | _::r,i+1=>succ_le_succ (pV r i)
theorem pW(its:List Value):∀(k:Nat) (acc:List Value),
  List.foldl (fun x1 x2=>x1++x2) acc.toArray (List.replicate k its.toArray)=(acc++(List.replicate k its).flatten).toArray
 | 0,acc=>by simp
 | k+1,acc=>by
  have e:acc.toArray++its.toArray=(acc++its).toArray:=by simp
  have e2:(acc++its)++(List.replicate k its).flatten=acc++(List.replicate (k+1) its).flatten:=by
   rw [replicate_succ,flatten_cons,append_assoc]
  rw [<- e2,<- pW its k (acc++its),<- e,replicate_succ,foldl_cons]
section
variable {X:Cx}{pins:List (Addr×Obj)}{σ:St}{H:Hp}{s:Shared}{l b:Addr}{xs ys zs:List V}
theorem Inv.lset{its its':List Value}{n:Nat}{f:Array Value->Array Value}{t':Nat}(I:Inv X pins σ H s)(hH:H l=some (.lst xs))
  (e:s.heap.get? l=some { cls:=.type "list",data:=.seq its.toArray n }) (hf:f its.toArray=its'.toArray) (hv:bY ys its') (hz:ys.length<=sizeLine) :
  Inv X pins σ (upd H l (.lst ys)) { s with heap:=s.heap.update l (Obj.mapSeq f),toks:=t' }:=by
 have q:=PySem.IsL.update e f;rw [hf] at q;refine I.write (x:=l) (e:=l) (by rw [hH];exact trivial) (.inl rfl) (fun b' u hb hu=>(Heap.get?_update_other s.heap (Obj.mapSeq f) (Ne.symm hb)).trans hu) ⟨_,q⟩ ?_;exact⟨hz,its',_,hv,q⟩
theorem Inv.lnew{its:List Value}{t':Nat}(I:Inv X pins σ H s)(hv:bY ys its)(hz:ys.length<=sizeLine) :
  Inv X pins σ (upd H s.heap.objs.size (.lst ys)) { s with heap:=s.heap.push { cls:=.type "list",data:=.seq its.toArray },toks:=t' } :=
 I.laid (fun _ _ q=>Heap.get?_push_of_some _ q) (Nat.le_refl _) ⟨hz,its,0,hv,Heap.get?_push_size _ rfl⟩
theorem Inv.fresh(I:Inv X pins σ H s):H s.heap.objs.size=none:=I.hok.fresh (Nat.le_refl _)
theorem Inv.lstM(I:Inv X pins σ H s)(hH:H l=some (.lst xs)):xs.length<=sizeLine/\∃(its:List Value) (n:Nat),bY xs its/\xs.length=its.length/\s.heap.get? l=some { cls:=.type "list",data:=.seq its.toArray n }:=by
 obtain⟨z,its,n,r,e⟩:=I.hok l _ hH;exact⟨z,its,n,r,r.length,e⟩
theorem x8{n:Nat}(h:n<=sizeLine):Builtin.List.listTooLong n=false:=by
 unfold Builtin.List.listTooLong;exact decide_eq_false (by omega)
end
section
variable {X:Cx}
def vA:V->List V->Hp->VK->Prop:=fun x vs H Q=>∃l xs y,x=.ref l/\vs=[y]/\H l=some (.lst xs)/\xs.length<sizeLine/\Q .non (upd H l (.lst (xs++[y])))
theorem dI:MtM X "list.append" vA:=by
 intro pins s σ H x vs v us Q I rx rv h;obtain⟨l,xs,y,rfl,rfl,hH,hz,q⟩:=h;cases rx;obtain⟨u,rfl,ru⟩:=rv.one;obtain⟨z,its,n,r,hl,e⟩:=I.lstM hH;refine call_meets F.slot_list_append ⟨_,e,rfl⟩ F.entry_list_append (F.args_list_append_2 _ _) (PySem.list_append l its.toArray n u (by rw [size_toArray];omega)) ⟨e,?_⟩;refine⟨.non,_,I.lset (its':=its++[u]) hH e (by simp) (r.append (.cons ru .nil)) ?_,rfl,q⟩;rw [length_append,length_singleton]
 omega
def F7:V->List V->Hp->VK->Prop:=fun x vs H Q=>∃l xs y,x=.ref l/\vs=[]/\H l=some (.lst xs)/\xs[xs.length - 1]?=some y/\Q y (upd H l (.lst xs.dropLast))
theorem CY:MtM X "list.pop" F7:=by
 intro pins s σ H x vs v us Q I rx rv h;obtain⟨l,xs,y,rfl,rfl,hH,hy,q⟩:=h;cases rx;have hus:=rv.zero;subst hus;obtain⟨z,its,n,r,hl,e⟩:=I.lstM hH;obtain⟨u,hu,ru⟩:=r.get hy
 have hy':its.toArray[its.toArray.size - 1]?=some u:=by
  show its.toArray[its.length - 1]?=some u;rw [<- Array.getElem?_toList,<- hl];exact hu
 refine call_meets F.slot_list_pop ⟨_,e,rfl⟩ F.entry_list_pop (F.args_list_pop_1 _) (MeetsSeq.list_pop_last l its.toArray n u hy' (by rw [size_toArray];omega)) ⟨e,?_⟩
 refine⟨y,_,I.lset (its':=its.dropLast) hH e ?_ r.dropLast ?_,ru,q⟩
 .show its.toArray.eraseIdxIfInBounds (its.toArray.size - 1)=its.dropLast.toArray;rw [size_toArray,eraseIdxIfInBounds_toArray,uB]
 .rw [length_dropLast];omega
def zA:V->List V->Hp->VK->Prop:=fun x vs H Q=>∃l xs i k y,x=.ref l/\vs=[.int i]/\H l=some (.lst xs)/\-(2^63)<=i/\i<2^63/\seqIndex? i xs.length=some k/\xs[k]?=some y/\Q y (upd H l (.lst (xs.eraseIdx k)))
theorem sU:MtM X "list.pop" zA:=by
 intro pins s σ H x vs v us Q I rx rv h;obtain⟨l,xs,i,k,y,rfl,rfl,hH,h1,h2,hk,hy,q⟩:=h;cases rx;obtain⟨u,rfl,ru⟩:=rv.one;obtain⟨t,rfl⟩:=ru;obtain⟨z,its,n,r,hl,e⟩:=I.lstM hH;obtain⟨w,hw,rw'⟩:=r.get hy
 refine call_meets F.slot_list_pop ⟨_,e,rfl⟩ F.entry_list_pop (F.args_list_pop_2 _ _)
  (MeetsSeq.list_pop_at l its.toArray n i t k w (fitsIndex_both h1 h2) (by rw [size_toArray,<- hl];exact hk) (by rw [<- Array.getElem?_toList];exact hw) (by rw [size_toArray];omega)) ⟨e,?_⟩
 refine⟨y,_,I.lset (its':=its.eraseIdx k) hH e ?_ (r.eraseIdx k) ?_,rw',q⟩
 .show its.toArray.eraseIdxIfInBounds k=(its.eraseIdx k).toArray;rw [eraseIdxIfInBounds_toArray]
 .have:=pV xs k;omega
def F8:R2:=fun x y H Q=>∃l k xs,x=.ref l/\y=.int k/\H l=some (.lst xs)/\-(2^63)<=k/\k<2^63/\xs.length*k.toNat<=sizeLine /\
 ∀p,H p=none->Q (.ref p) (upd H p (.lst (List.replicate k.toNat xs).flatten))
theorem AF{α:Type}(xs:List α)(k:Nat):(List.replicate k xs).flatten.length=k*xs.length:=by
 induction k with
 | zero=>simp
 | succ k ih=>rw [replicate_succ,flatten_cons,length_append,ih,succ_mul,add_comm]
theorem CZ:OpR X (binaryOp .Mult) F8:=by
 intro pins s σ H x y v u Q I rx ry h;obtain⟨l,k,xs,rfl,rfl,hH,h1,h2,hz,q⟩:=h;cases rx;obtain⟨t,rfl⟩:=ry;obtain⟨z,its,n,r,hl,e⟩:=I.lstM hH;have hlen:its.toArray.size*k.toNat<=sizeLine:=by rw [size_toArray,<- hl];exact hz
 have hcap:¬ its.toArray.size*k.toNat > (2^63 - 1) / 8:=by
  have:(sizeLine:Nat)<=(2^63 - 1) / 8:=by decide
  omega
 have hfit:¬ (!Builtin.List.listFitsIndex k)=true:=by
  rw [fitsIndex_both h1 h2];exact Bool.false_ne_true
 have hlong:¬ Builtin.List.listTooLong (its.toArray.size*k.toNat)=true:=by
  rw [x8 hlen];exact Bool.false_ne_true
 have hnew:List.foldl (fun x1 x2=>x1++x2) #[] (List.replicate (if its.toArray.isEmpty=true then 0 else k.toNat) its.toArray)=(List.replicate k.toNat its).flatten.toArray:=by
  have f0:∀m:Nat,List.foldl (fun x1 x2=>x1++x2) #[] (List.replicate m its.toArray)=(List.replicate m its).flatten.toArray:=fun m=>by
   have:=pW its m [];rw [nil_append] at this;exact this
  rw [f0]
  cases its with
  | nil=>simp
  | cons a r'=>rw [if_neg (by simp)]
 refine wpAny_binaryOp_repeat_ref (T:="list") (U:="int") (by decide) ⟨_,e,rfl⟩ (fun s'=>typeIs_int s' k t) noFill_list_mul F.fills_int_mul F.slot_int_rmul repeat_list F.slot_int_index.lookup
  (call_meets F.slot_int_rmul (typeIs_int s k t) F.entry_int_rmul (F.args_int_rmul_2 _ _) (int___rmul___int_list k t l its.toArray n)
   ⟨e,rfl,⟨_,e,rfl⟩,call_meets F.slot_list_mul ⟨_,e,rfl⟩ F.entry_list_mul (F.args_list_mul_2 _ _) (AutoListH.list___mul___list_int_3 l its.toArray n k t hfit hcap hlong) ⟨e,?_⟩⟩)
 rw [hnew];exact⟨.ref _,_,I.lnew (t':=s.toks) (r.rep k.toNat) (by rw [AF,mul_comm];exact hz),rfl,q _ I.fresh⟩
end
end L2
namespace Att
open PySem PySem.W PySem.Calls PyProof.Rows
theorem lf{P:Params}{h:Heap}:∀(ns:List Int) (vs:List Value),WellAll P h vs (ns.map WData.int)->IntsAre vs ns:=by
 intro ns
 induction ns with
 | nil =>
  intro vs w;rw [map_nil] at w;cases w;exact .nil
 | cons n ns ih =>
  intro vs w;rw [map_cons] at w
  cases w with
  | cons a b =>
   cases a;exact .cons _ _ (ih _ b)
theorem vB{l:OpenLaw}{n:Nat}(hn:l.most=some n){P:Params}{h:Heap}{args:List WData}{vals:List Value}
  (hpre:l.row.toRowW.claim.pre args=true) (hwl:WellAll P h vals args) :
  ∃a vs ns,vals=[Value.ref a]/\args=[WData.list (ns.map WData.int)]/\h.get? a=some { cls:=.type "list",data:=.seq vs.toArray }/\IntsAre vs ns/\ns.length<=n:=by
 have hsh:WShape.hasAll [] args [.list .int]=true:=(pre_splitW hpre).1;have hc:l.pre.holds [] { args:=args }=true:=(pre_splitW hpre).2;obtain⟨d,r,rfl,h1,h2⟩:=hasAllW_cons hsh;obtain rfl:=hasAllW_nil h2;obtain⟨xs,rfl,h3⟩:=hasW_list h1;obtain⟨ns,rfl⟩:=items_int h3
 have hlen:ns.length<=n:=by
  unfold OpenLaw.pre at hc
  have h4:(WTm.not (.lt (.lit (.int (n:Int))) (.len (.arg 0)))).holds [] { args:=[.list (ns.map .int)] }=true:=by
   have h4:=(holds_andW hc).1;rw [hn] at h4;exact h4
  have h5:=condW_of h4 (w_not (w_lt w_lit (w_len_list (w_arg rfl))));rw [length_map] at h5;refine le_of_not_lt fun q=>?_;have q':(n:Int)<((ns.length:Nat):Int):=by omega
  first
   | (rw [decide_eq_true q'] at h5;exact absurd h5 (by decide))
   | (simp at h5;omega)
 cases hwl with
 | cons w1 w2 =>
  cases w2
  cases w1 with
  | list ho hall=>exact⟨_,_,ns,rfl,rfl,ho,lf ns _ hall,hlen⟩
theorem vC(l:OpenLaw)(args:List WData):l.row.toRowW.claim.post args (.bool true) args=true :=
 postW_of (r:=l.row.toRowW) (X:=(true == true))
  (show WShape.has [] (.bool true) .bool=true by first|rfl|decide|simp [WShape.has,WShape.arms,WShape.armsAll])
  (show (WTm.eq .res (.lit (.bool true))).value [] { args:=args,res:=some (.bool true),after:=args }=some (.bool (true == true)) from w_eq_bool (w_res rfl) w_lit) rfl
theorem attach_call{l:OpenLaw}{n:Nat}{q:Program}{loose:List Str}{XP:(Str->Option Value)->Heap->Prop}{YP:World->Heap->Prop}{d:DefRec}
  (hn:l.most=some n) (hdf:d.params.defaults=[])
  (call:∀(w:World) (s₀ s₁:Shared) (mg mb:Str->Option Value) (fa:Addr) (o:Obj) (pm cd doc:Value) (a:Addr) (vs:List Value) (ns:List Int),
   Ground q loose [] XP w s₀ mg mb s₁.heap->YP w s₁.heap ->
   s₁.heap.get? fa=some o->o.data=.func (docDef d.name d.params d.body d.scope pm cd doc)->s₁.heap.CodeRec cd d.name->mg d.name=some (.ref fa) ->
   s₁.heap.get? a=some { cls:=.type "list",data:=.seq vs.toArray }->IntsAre vs ns->ns.length<=n->s₁.gens=#[] ->
   codeAny (model l.prog w) callerA (.call (.ref fa) ⟨[.ref a],[]⟩) (fun r s'=>r=.ok (.ret (.bool true))/\OldK s₁.heap s'.heap/\s'.os=s₁.os/\AllBare s'.gens) s₁) :
  WalkO q loose XP YP l.row.toRowW d [] (fun f vs=>PySem.call f vs):=by
 intro w s₀ s₁ mg mb G Y fa o pm cd doc dV kV ho hd hcd hD hmg hg args vals as hpre hlay hrd hwl hlo;obtain rfl:dV=.none:=Dflts.none hD hdf;obtain rfl:kV=.none:=Dflts.noKw hD;obtain⟨a,vs,ns,rfl,rfl,hobj,hints,hlen⟩:=vB hn hpre hwl;refine enter_call (codeAny_mono (call w s₀ s₁ mg mb fa o pm cd doc a vs ns G Y ho (fd_plain hd) hcd hmg hobj hints hlen hg) fun r s' hq=>?_);obtain⟨rfl,h2,h3,h4⟩:=hq;exact⟨.inl ⟨.bool true,.bool true,[],rfl,fun _=>rfl,.bool true,vC l _,fun _=>⟨List.Pairwise.nil,fun _ hm=>(nomatch hm)⟩⟩,h2,h3,h4⟩
end Att
namespace L2
open PySem PySem.Spec PyProof.Rows
theorem pX:∀{vs:List Value}{ns:List Int},IntsAre vs ns->bY (ns.map V.int) vs
 | _,_,.nil=>.nil
 | _,_,.cons n t h=>.cons ⟨t,rfl⟩ (pX h)
def ER(H:Hp):Prop:=∀b,H b=none\/∃o xs,H b=some (.frz o (.lst xs))
theorem x9{P:Program}{w:World}{K:PySem.W.Frag}{mg mb:Str->Option Value}{CX:CXT}{k:Nat}{fa a:Addr}{fd:FuncData}{x:Str}{sp:Sp}{s₁:Shared}{vs:List Value}{ns:List Int}
  (KX:K.In s₁.heap) (hns:s₁.heap.Ns mainGlobals mg) (hb:s₁.heap.Ns builtinsNs mb) (hbb:∀x:Str,x≠"__name__"->mb x=bootBuiltins x) (hlim:s₁.heap.NoLimit) (hg:s₁.gens=#[])
  (ha:s₁.heap.get? a=some { cls:=.type "list",data:=.seq vs.toArray }) (hi:IntsAre vs ns) (hl:ns.length<=sizeLine) (hr:gJ k callerA)
  (F:∀base:Heap,K.In base->base.Ns mainGlobals mg->nY P w K mg base CX k fa fd [x] sp) (hbind:∀(s:Shared) (u:Value),BindsTo s fd ⟨[u],[]⟩ [(x,u)])
  (hsp:∀H:Hp,ER H->SqL K H a (ns.map V.int)->sp [.ref a] H (fun v _=>v=.bl true) fun _ _ _=>False)
  (hCX:∀H e s',CX [] H s₁ (fun _ _ _=>False) e s'->False) :
  codeAny (model P w) callerA (.call (.ref fa) ⟨[.ref a],[]⟩) (fun r s'=>r=.ok (.ret (.bool true))/\OldK s₁.heap s'.heap/\s'.os=s₁.os/\AllBare s'.gens) s₁:=by
 have rv:=pX hi;have lenV:=hi.length
 -- from an abstract heap in which nothing but the script may be tracked
 have core:∀H:Hp,ER H->SqL K H a (ns.map V.int)->HOk P w H s₁.heap->(∀b,H b≠none->b=a)->(H a≠none->K.lookup a=none) ->
   codeAny (model P w) callerA (.call (.ref fa) ⟨[.ref a],[]⟩) (fun r s'=>r=.ok (.ret (.bool true))/\OldK s₁.heap s'.heap/\s'.os=s₁.os/\AllBare s'.gens) s₁:=by
  intro H hO hS hok hA hK;have base_of:∀{b:Addr}{o:Obj},s₁.heap.get? b=some o->H b=none->(xO s₁.heap H).get? b=some o:=fun e n=>xP e n
  have noA:∀{b:Addr}{o:Obj}{es:Array DictEntry}{ep:Nat},s₁.heap.get? b=some o->o.data=.dict es ep->H b=none:=fun {b o es ep} e d=>by
   cases q:H b with
   | none=>rfl
   | some u =>
    have e':b=a:=hA b (by rw [q];simp);subst e';rw [ha] at e;cases e;have d':Data.seq vs.toArray _=Data.dict es ep:=d;cases d'
  have nsK:∀{b:Addr}{m:Str->Option Value},s₁.heap.Ns b m->(xO s₁.heap H).Ns b m:=fun {b m} ⟨o,es,ep,e,d,r⟩=>⟨o,es,ep,base_of e (noA e d),d,r⟩
  have hKb:K.In (xO s₁.heap H):=fun b o e=>base_of (KX b o e) (by
   cases q:H b with
   | none=>rfl
   | some u =>
    have e':b=a:=hA b (by rw [q];simp);subst e';rw [hK (by rw [q];simp)] at e;cases e)
  have hM:Mod K mg (xO s₁.heap H):=⟨hKb,nsK hns,⟨mb,nsK hb,hbb⟩,let ⟨mc,h1,h2⟩:=hlim;⟨mc,nsK h1,h2⟩⟩
  have e0:Aw P w K mg (xO s₁.heap H) callerA [] s₁ H:=⟨rfl,hM,fun b o e=>Am e,le_of_eq (vf _ _),trivial,fun b hb=>absurd (show b∈([]:List Addr) from hb) (by simp),hok,.of_eq hg⟩
  refine codeAny_mono ((F _ hKb (nsK hns)).run callerA [] s₁ H ⟨[.ref a],[]⟩ [.ref a] [.ref a] _ _ hr e0 (hbind s₁ (.ref a)) (.cons rfl .nil) (hsp H hO hS)) fun r s' h=>?_
  cases r with
  | error e=>exact (hCX H e s' h).elim
  | ok fl =>
   cases fl with
   | next=>exact False.elim h
   | brk=>exact False.elim h
   | cont=>exact False.elim h
   | ret u =>
    obtain⟨v,H',os,bare,un,hok',r',q⟩:=h;have q':v=.bl true:=q;subst q';obtain rfl:u=Value.bool true:=r';refine⟨rfl,OldK.of_keep fun b o e=>?_,os,bare⟩
    cases q:H b with
    | none=>exact un.keep b o e q (by intro z;exact absurd (show b∈([]:List Addr) from z) (by simp)) (by simp)
    | some u =>
     rcases hO b with z|⟨ob,xs,z⟩
     .rw [q] at z;cases z
     .have z2:=un.frzs b ob _ z;obtain⟨e1,_⟩:=hok b _ z;obtain⟨e2,_⟩:=hok' b _ z2;rw [e] at e1;cases e1;exact e2
 cases hk:K.lookup a with
 | some o =>
  -- the script is one of the module's own objects
  have e:=KX a o hk;rw [ha] at e;cases e;refine core (fun _=>none) (fun _=>.inl rfl) (.inr ⟨_,vs.toArray,_,hk,rfl,rfl,rfl,by rw [size_toArray,lenV];exact hl,by simpa using rv⟩) (fun b u z=>by have z':(none:Option HO)=some u:=z;cases z') (fun b z=>absurd rfl z) fun z=>absurd rfl z
 | none =>
  refine core (fun b=>if b=a then some (.frz { cls:=.type "list",data:=.seq vs.toArray } (.lst (ns.map V.int))) else none) (fun b=>?_) (.inl (.inr ⟨{ cls:=.type "list",data:=.seq vs.toArray },if_pos rfl⟩)) (fun b u z=>?_) (fun b z=>?_) fun _=>hk
  .by_cases hb:b=a
   .exact .inr ⟨_,_,if_pos hb⟩
   .exact .inl (if_neg hb)
  .by_cases hb:b=a
   .have z':=(if_pos hb).symm.trans z;cases z';subst hb;exact⟨ha,by rw [length_map];exact hl,vs,_,rv,ha⟩
   .have z':=(if_neg hb).symm.trans z;cases z'
  .by_cases hb:b=a
   .exact hb
   .exact absurd (if_neg hb) z
theorem AG{l:PySem.W.OpenLaw}{n k:Nat}{q:Program}{loose:List Str}{XP:(Str->Option Value)->Heap->Prop}{YP:World->Heap->Prop}{d:DefRec}{K:Params->PySem.W.Frag}{CX:World->CXT}{sp:World->Sp}{x:Str}
  (hn:l.most=some n) (hn2:n<=sizeLine) (hdf:d.params.defaults=[]) (hr:gJ k callerA)
  (hY:∀(w:World) (h:Heap),YP w h->(K w.params).In h)
  (F:∀(w:World) (mg:Str->Option Value) (fa:Addr) (h:Heap),(K w.params).In h->h.Ns mainGlobals mg->mg d.name=some (.ref fa) ->
   ∃fd:FuncData,(∀(s:Shared) (u:Value),BindsTo s fd ⟨[u],[]⟩ [(x,u)]) /\
    ∀base:Heap,(K w.params).In base->base.Ns mainGlobals mg->nY l.prog w (K w.params) mg base (CX w) k fa fd [x] (sp w))
  (hsp:∀(w:World) (H:Hp) (a:Addr) (ns:List Int),ns.length<=n->ER H->SqL (K w.params) H a (ns.map V.int)->sp w [.ref a] H (fun v _=>v=.bl true) fun _ _ _=>False)
  (hCX:∀(w:World) (H:Hp) (s:Shared) (e:Value) (s':Shared),CX w [] H s (fun _ _ _=>False) e s'->False) :
  PySem.W.WalkO q loose XP YP l.row.toRowW d [] (fun f vs=>PySem.call f vs):=by
 refine Att.attach_call hn hdf fun w s₀ s₁ mg mb fa o pm cd doc a vs ns G Y ho hd hcd hmg hobj hints hlen hg=>?_;have KX:=hY w _ Y;obtain⟨fd,hb,hF⟩:=F w mg fa _ KX G.T.g hmg;exact x9 KX G.T.g G.T.b G.T.builtins G.T.nolimit hg hobj hints (Nat.le_trans hlen hn2) hr hF hb (fun H hO hS=>hsp w H a ns hlen hO hS) fun H e s'=>hCX w H s₁ e s'
def vD(s:Stmt)(j:Nat):Stmt:=match s with
 | .ClassDef _ _ _ body _ _ _ _ _ _ _=>body.getD j (.Pass ⟨0,0,0,0⟩)
 | _=>.Pass ⟨0,0,0,0⟩
def dh(s:Stmt):Arguments:=match s with
 | .FunctionDef _ a _ _ _ _ _ _ _ _=>a
 | _=>{ posonlyargs:=[],args:=[],vararg:=none,kwonlyargs:=[],kw_defaults:=[],kwarg:=none,defaults:=[] }
def cB(s:Stmt):List Stmt:=match s with
 | .FunctionDef _ _ b _ _ _ _ _ _ _=>b
 | _=>[]
def ar(s:Stmt):Scope:=match s with
 | .FunctionDef _ _ _ _ _ _ sc _ _ _=>sc
 | _=>{ kind:=.function,names:=[],isGenerator:=false,isCoroutine:=false }
abbrev CX0:CXT:=fun _ _ _ _ _ _=>False
abbrev E0:XK:=fun _ _ _=>False
theorem ya{X:Cx}:mX CX0 X E0:=fun _ _ _ _ _ _ _ h=>h.elim
structure Fun (K:PySem.W.Frag) (x qual:Str) (st:Stmt) (f:Addr) (fd:FuncData):Prop where
 ex:∃(oc:Value) (od:Option Addr) (kV doc pm:Value) (an:Option Addr) (cdv ct:Value) (osl:Array (Option Value)),
  fd=PySem.W.fnOf x qual (dh st) (cB st) (ar st) .none kV doc pm an cdv ct/\K.lookup f=some ⟨oc,od,.func fd,osl⟩/\PySem.W.codeIn K cdv qual=true
 kp:PySem.W.keepIn K (.ref f)=true
section
variable {P:Program}{w:World}{K:PySem.W.Frag}{mg:Str->Option Value}{base:Heap}
theorem Fun.ok{x qual:Str}{st:Stmt}{f:Addr}{fd:FuncData}{N ps:List Str}{k:Nat}{sp:Sp}(F:Fun K x qual st f fd)(S:aR N ps (ar st))(len:∀vs H Q E,sp vs H Q E->vs.length=ps.length)
  (hbody:∀(cdv:Value) (A:Around) (outer:List Env) (s:Shared) (H:Hp) (vs:List V) (Q:VK) (E:XK),gJ k (A.deeper (envOfC qual (ar st) s.heap.objs.size f cdv))->sp vs H Q E ->
   ∃t,PSs (xH CX0 P w K mg base N qual (ar st) f cdv A outer s H E).nox (cB st) t/\t { nx:=fun _ H'=>Q .non H',rt:=Q } (start N vs) H):nY P w K mg base CX0 (k+1) f fd ps sp:=by
 obtain⟨oc,od,kV,doc,pm,an,cdv,ct,osl,rfl,lk,hcd⟩:=F.ex;refine CO lk hcd S len fun A outer s H vs Q E hr hsp=>?_;obtain⟨t,h,q⟩:=hbody cdv A outer s H vs Q E hr hsp;exact⟨t,h.nox,q⟩
theorem Fun.binds{x qual:Str}{st:Stmt}{f:Addr}{fd:FuncData}{ps:List Str}(F:Fun K x qual st f fd)
  (h:∀(kV doc pm:Value) (an:Option Addr) (cdv ct:Value) (us:List Value),us.length=ps.length->bindArgs (PySem.W.fnOf x qual (dh st) (cB st) (ar st) .none kV doc pm an cdv ct) ⟨us,[]⟩=pure (ps.zip us)):kA K fd ps []:=by
 obtain⟨oc,od,kV,doc,pm,an,cdv,ct,osl,rfl,lk,hcd⟩:=F.ex;exact .all (h kV doc pm an cdv ct)
theorem vE{x qual:Str}{st:Stmt}{f:Addr}{oc:Value}{od an:Option Addr}{osl:Array (Option Value)}{kV doc pm cdv ct:Value}(l:K.lookup f=some ⟨oc,od,.func (PySem.W.fnOf x qual (dh st) (cB st) (ar st) .none kV doc pm an cdv ct),osl⟩)
  (c:PySem.W.codeIn K cdv qual=true) (k:PySem.W.keepIn K (.ref f)=true):Fun K x qual st f (PySem.W.fnOf x qual (dh st) (cB st) (ar st) .none kV doc pm an cdv ct):=⟨⟨oc,od,kV,doc,pm,an,cdv,ct,osl,rfl,l,c⟩,k⟩
end
section
variable {X:Cx}
theorem pv(i:Nat){x:Str}{pos:Pos}(hN:X.N[i]?=some x:=by rfl)(hv:Vis X.env.scope x:=by first|exact Or.inl rfl|exact Or.inr (Or.inl rfl)|exact Or.inr (Or.inr rfl))(hd:(x == ("__debug__":Str))=false:=by decide)
  (hcd:(x == ("__classdict__":Str))=false:=by decide):PE X (.Name x pos) (bg i):=Cp hN hv hd hcd
end
def S(l:List Nat):Str:=⟨l.toArray⟩
theorem fC(l:List Nat):(S l).length=l.length:=by simp [S,Str.length]
theorem AH(a b:List Nat):S a++S b=S (a++b):=by
 show (⟨a.toArray++b.toArray⟩:Str)=⟨(a++b).toArray⟩
 rw [append_toArray]
theorem C1{a b:List Nat}(h:S a=S b):a=b:=by
 have h':=congrArg (fun x:Str=>x.cps.toList) h;simpa [S] using h'
theorem Gu{a b:List Nat}(h:a≠b):S a≠S b:=fun e=>h (C1 e)
theorem C2{a b:List Nat}:V.str (S a)=V.str (S b) ↔ a=b:=⟨fun h=>C1 (V.str.inj h),fun h=>by rw [h]⟩
theorem C3(a b:List Nat):decide (V.str (S a)=V.str (S b))=decide (a=b):=by
 by_cases h:a=b
 .rw [decide_eq_true h,decide_eq_true (C2.mpr h)]
 .rw [decide_eq_false h,decide_eq_false (fun z=>h (C2.mp z))]
def eV{α:Type}(xs:List α)(lo hi:Option Int):List α:=(xs.drop (HT.sIx xs.length 0 lo)).take (HT.sIx xs.length xs.length hi - HT.sIx xs.length 0 lo)
theorem dY{α:Type}(xs:List α)(lo hi:Option Int):(eV xs lo hi).length<=xs.length:=by
 unfold eV;rw [length_take,length_drop];omega
theorem vF(xs:List V)(lo hi:Option Int):Az xs lo hi=eV xs lo hi:=rfl
theorem C4(lo hi:Option Int)(n:Nat):Builtin.Str.strSliceIndices lo hi 1 n=(List.range (HT.sIx n n hi - HT.sIx n 0 lo)).map (fun k=>HT.sIx n 0 lo+k):=by
 have key:∀(o:Option Int) (d:Nat),d<=n->(match o with|none=>(d:Int)|some i=>max 0 (min (if i<0 then i+(n:Int) else i) (n:Int)))=((HT.sIx n d o:Nat):Int):=by
  intro o d hd
  cases o with
  | none=>rfl
  | some i =>
   show max 0 (min (if i<0 then i+(n:Int) else i) (n:Int))=_;rw [<- HT.clip_eq i n d]
   by_cases h:i<0
   .rw [if_pos h,if_pos h];omega
   .rw [if_neg h,if_neg h];omega
 have k1:=key lo 0 (zero_le _);have k2:=key hi n (Nat.le_refl _);unfold Builtin.Str.strSliceIndices;simp only [show (1:Int) > 0 by decide,if_true];refine Eq.trans (congrArg (fun a=>sliceRange a _ 1) k1) (Eq.trans (congrArg (fun b=>sliceRange _ b 1) k2) ?_);unfold sliceRange;simp only [show (1:Int) > 0 by decide,if_true];generalize HT.sIx n 0 lo=a;generalize HT.sIx n n hi=b
 have ec:(if (a:Int)<(b:Int) then ((b:Int) - (a:Int)+1 - 1) / 1 else 0).toNat=b - a:=by
  split <;> omega
 rw [ec];apply map_congr_left;intro k _;omega
theorem vG{α:Type}(l:List α)(a m:Nat):((List.range m).map (fun k=>a+k)).filterMap (fun i=>l[i]?)=(l.drop a).take m:=by
 induction m generalizing a with
 | zero=>simp
 | succ m ih =>
  rw [range_succ_eq_map,map_cons,map_map,filterMap_cons];have e:((fun k=>a+k) ∘ Nat.succ)=fun k=>(a+1)+k:=by funext k;simp;omega
  rw [e,ih (a+1)]
  cases h:l[a+0]? with
  | none =>
   have hl:l.length<=a:=by simpa using List.getElem?_eq_none_iff.mp h
   rw [drop_eq_nil_of_le hl,drop_eq_nil_of_le (by omega)];simp
  | some v =>
   have hl:a<l.length:=by simpa using (List.getElem?_eq_some_iff.mp h).1
   have hv:l[a]=v:=by simpa using (List.getElem?_eq_some_iff.mp h).2
   rw [drop_eq_getElem_cons hl,hv];rfl
theorem AI(l:List Nat)(lo hi:Option Int):Txt.slice (S l) lo hi=S (eV l lo hi):=by
 have e1:(Builtin.Str.strSliceIndices lo hi 1 (S l).length).filterMap ((S l).cps[·]?)=eV l lo hi:=by
  rw [C4,fC];have e:(fun i:Nat=>(S l).cps[i]?)=fun i:Nat=>l[i]?:=by funext i;simp [S]
  rw [e];exact vG l _ _
 unfold Txt.slice
 split
 .rename_i h;have h2:(Builtin.Str.strSliceIndices lo hi 1 (S l).length).length=(S l).length:=by simpa using h
  rw [C4,fC,length_map,length_range] at h2;have a0:=HT.sIx_le l.length 0 (zero_le _) lo;have b0:=HT.sIx_le l.length l.length (Nat.le_refl _) hi;unfold eV
  by_cases hz:l.length=0
  .have:l=[]:=length_eq_zero_iff.mp hz;subst this;simp
  .have ha:HT.sIx l.length 0 lo=0:=by omega
   have hb:HT.sIx l.length l.length hi=l.length:=by omega
   rw [ha,hb];simp
 .rw [e1];rfl
theorem fo{α:Type}(l:List α)(k:Nat):eV l none (some (k:Int))=l.take k:=by
 unfold eV;rw [HT.sIx_nat];show (l.drop 0).take (min k l.length - 0)=l.take k;rw [drop_zero,Nat.sub_zero]
 by_cases h:k<=l.length
 .rw [min_eq_left h]
 .rw [min_eq_right (by omega),take_of_length_le (Nat.le_refl _),take_of_length_le (by omega)]
theorem fE{α:Type}(l:List α)(k:Nat):eV l (some (k:Int)) none=l.drop k:=by
 unfold eV;rw [HT.sIx_nat];show (l.drop (min k l.length)).take (l.length - min k l.length)=l.drop k
 by_cases h:k<=l.length
 .rw [min_eq_left h,take_of_length_le (by rw [length_drop];exact Nat.le_refl _)]
 .rw [min_eq_right (by omega),sub_self,take_zero,drop_eq_nil_of_le (by omega)]
theorem vH{α:Type}(l:List α)(i j:Nat):eV l (some (i:Int)) (some (j:Int))=(l.drop i).take (j - i):=by
 unfold eV;rw [HT.sIx_nat,HT.sIx_nat]
 by_cases h:i<=l.length
 .rw [min_eq_left h]
  by_cases h2:j<=l.length
  .rw [min_eq_left h2]
  .rw [min_eq_right (by omega),take_of_length_le (by rw [length_drop];omega),take_of_length_le (by rw [length_drop];omega)]
 .have e:min i l.length=l.length:=min_eq_right (by omega);rw [e,drop_eq_nil_of_le (Nat.le_refl _),drop_eq_nil_of_le (by omega),take_nil,take_nil]
section
variable {X:Cx}
def F9:V->Option Int->Option Int->Hp->VK->Prop:=fun x lo hi H Q=>∃l,x=.str (S l)/\l.length<=sizeLine/\Q (.str (S (eV l lo hi))) H
theorem C5:SlR X F9:=by
 intro pins s σ H x v vl vu lo hi sl Q I rx hs pl pu h;obtain⟨l,rfl,hz,q⟩:=h;obtain⟨t,rfl⟩:=rx;refine⟨"str",_,slot_str_getitem.lookup,typeIs_str s _ t,?_⟩
 obtain⟨l',hl',el⟩:∃l':Option (Int×Tok),vl=partValue l'/\l'.map (·.1)=lo:=by
  cases pl with
  | none=>exact⟨none,rfl,rfl⟩
  | int i t=>exact⟨some (i,t),rfl,rfl⟩
 obtain⟨u',hu',eu⟩:∃l':Option (Int×Tok),vu=partValue l'/\l'.map (·.1)=hi:=by
  cases pu with
  | none=>exact⟨none,rfl,rfl⟩
  | int i t=>exact⟨some (i,t),rfl,rfl⟩
 subst hl' hu';refine wpAny_getItem_str_slice (l:=l') (u:=u') (st:=none) hs rfl ?_;have hm:∀t' k,EP X pins σ Q (.str (Txt.slice (S l) lo hi) t') { s with toks:=k }:=fun t' k=>⟨.str (S (eV l lo hi)),H,I.tok _,⟨t',by rw [AI]⟩,q⟩
 have hlen:(Txt.slice (S l) lo hi).length<=sizeLine:=Nat.le_trans (Txt.slice_le _ _ _) (by rw [fC];exact hz);subst el eu;exact post_val_or_str ⟨hlen,hm⟩
def kO{α:Type}(l:List α)(n:Int):List α:=(List.replicate n.toNat l).flatten
theorem vI(k:Nat)(l acc:List Nat):(List.replicate k l.toArray).foldl (·++·) acc.toArray=(acc++(List.replicate k l).flatten).toArray:=by
 induction k generalizing acc with
 | zero=>simp
 | succ k ih =>
  rw [replicate_succ,foldl_cons,append_toArray,ih (acc++l),replicate_succ,flatten_cons,append_assoc]
theorem ES(l:List Nat)(n:Int):Txt.mul (S l) n=S (kO l n):=by
 unfold Txt.mul kO
 by_cases h:n<1
 .rw [if_pos h];have:n.toNat=0:=by omega
  rw [this];rfl
 .rw [if_neg h]
  split
  .rename_i h2;rw [fC] at h2;simp only [or_eq_true,beq_iff_eq] at h2
   rcases h2 with h2|h2
   .subst h2;simp [S]
   .have:l=[]:=length_eq_zero_iff.mp h2;subst this;simp [S]
  .have e:=vI n.toNat l [];show (⟨_⟩:Str)=_
   have e':(List.replicate n.toNat (S l).cps).foldl (·++·) #[]=((List.replicate n.toNat l).flatten).toArray:=by
    simpa [S] using e
   rw [e'];rfl
theorem fN{α:Type}(l:List α)(n:Int):(kO l n).length=n.toNat*l.length:=by
 unfold kO;rw [length_flatten,map_replicate,sum_replicate_nat]
theorem uC:OpR X (binaryOp .Mult) (fun x y H Q=>∃l n,x=.str (S l)/\y=.int n/\-1000000<=n/\n<=1000000/\n.toNat*l.length<=sizeLine/\Q (.str (S (kO l n))) H):=by
 intro pins s σ H x y v u Q I rx ry h;obtain⟨l,n,rfl,rfl,h1,h2,hz,q⟩:=h;obtain⟨t,rfl⟩:=rx;obtain⟨t',rfl⟩:=ry;have hs:sizeLine=16777216:=sizeLine_eq;have hz':n.toNat*l.length<=16777216:=by rw [<- hs];exact hz
 refine SB.mul ⟨?_,fun hn hc=>?_,fun hn hc=>?_⟩ fun t' k=>⟨.str (S (kO l n)),H,I.tok _,⟨t',by rw [ES]⟩,q⟩
 .rw [decide_eq_false (by omega),decide_eq_false (by omega)];rfl
 .rw [fC];intro hgt
  have hl:l.length<=16777216:=by
   have:1*l.length<=n.toNat*l.length:=mul_le_mul_right _ (by omega);omega
  have hdiv:(2^63 - 1:Int) / 1000000<=(2^63 - 1) / n:=by
   apply le_ediv_of_mul_le (by omega);have:=mul_le_mul_of_nonneg_left h2 (show (0:Int)<=(2^63 - 1) / 1000000 by decide);have e2:((2^63 - 1:Int) / 1000000)*1000000<=2^63 - 1:=by decide
   omega
  have e3:(2^63 - 1:Int) / 1000000=9223372036854:=by decide
  omega
 .rw [fC];have:l.length*n.toNat<=16777216:=by rw [mul_comm];exact hz'
  exact decide_eq_false (by omega)
theorem vJ:OpR X (compareOp .LtE) (fun x y H Q=>∃i j,x=.str i/\y=.str j/\Q (.bl (!decide (j.cps.toList<i.cps.toList))) H):=by
 intro pins s σ H x y v u Q I rx ry h;obtain⟨i,j,rfl,rfl,q⟩:=h;obtain⟨t,rfl⟩:=rx;obtain⟨t',rfl⟩:=ry;exact PySem.P.le_str ⟨.bl _,H,I,rfl,q⟩
end
def Its(xs:List V):It:=⟨fun i _=>i<xs.length,fun i H x H'=>H'=H/\xs[i]?=some x,fun i _=>xs.length=i⟩
theorem vK{M:Model}{A:Around}{E:Value->Shared->Prop}{s:Shared}{tg:Expr}{it:Addr}{u:Value}{Q:Unit->Shared->Prop}(hu:∀a,u≠.ref a)(hQ:Q () s):wpAny M A (letOwnedTupleGo tg (.ref it) u) Q E s:=by
 unfold letOwnedTupleGo
 cases tg <;> first
  | exact wpAny_pure hQ
  | (cases u <;> first
    | exact wpAny_pure hQ
    | exact absurd rfl (hu _))
theorem lg{P:Program}{w:World}{K:PySem.W.Frag}{tg:Expr}{it:Addr}{xs:List V}{n:Nat}{Pt:Nat->Value->Prop}{St:Nat->Heap->Prop}
  (W:∀A:Around,A.handled=none->Walks P w A it [it] [it] n Pt St) (hn:xs.length=n)
  (hv:∀i v,i<n->Pt i v->∃x,xs[i]?=some x/\ee x v) (hsc:∀i v,Pt i v->∀a,v≠.ref a)
  (hobj:∀i h,St i h->∃o,h.get? it=some o/\∀v,o.data≠.cell v)
  (hfr:∀i h h',St i h->(∀b∈[it],∀o,h.get? b=some o->h'.get? b=some o)->St i h')
  (hself:∀(A:Around) (i:Nat) (s:Shared) (Q:Value->Shared->Prop) (E:Value->Shared->Prop),St i s.heap->Q (.ref it) s->wpAny (model P w) A (pyIter (.ref it)) Q E s) :
  zr P w K tg (Its xs) [it] it St where
 mem:=by simp
 obj:=fun i h st b hb=>by
  have e:b=it:=by simpa using hb
  subst e;exact hobj i h st
 keep:=fun i h h' st k=>hfr i h h' st k
 item:=by
  intro X hP hw hK hc i pins s σ H E I hf st hg;subst hP hw hK;obtain⟨f0,f1,f2,f3,f4,f5⟩:=hf it (by simp);refine (W X.A (I.ok.hd hc)).item i s _ _ (by rw [<- hn];exact hg) st fun v h' tk hp st' kk=>?_;obtain⟨x,hx,rx⟩:=hv i v (by rw [<- hn];exact hg) hp;have I1:Inv X pins σ H { s with heap:=h',toks:=tk }:=I.turned (fun b o hb e=>kk b o (by simpa using hb) e) f0 f1 f3 f4 f5;exact⟨v,rfl,vK (s:={ s with heap:=h',toks:=tk }) (hsc i v hp) ⟨x,H,I1,rx,⟨rfl,hx⟩,st',fun b hb=>(hf b hb).1⟩⟩
 done:=by
  intro X hP hw hK hc i pins s σ H E I hf st hg;subst hP hw hK;obtain⟨f0,f1,f2,f3,f4,f5⟩:=hf it (by simp);have e:n=i:=hn.symm.trans hg;subst e;exact (W X.A (I.ok.hd hc)).done s _ _ st fun h' tk kk=>⟨rfl,I.turned (fun b o hb e=>kk b o (by simpa using hb) e) f0 f1 f3 f4 f5⟩
 self:=hself
section
variable {X:Cx}{tg:Expr}
def cZ(l:List Nat):List V:=l.map fun c=>V.str (S [c])
theorem fF{l:List Nat}{i:Nat}{x:V}(h:(cZ l)[i]?=some x):∃c,l[i]?=some c/\x=.str (S [c]):=by
 unfold cZ at h;rw [getElem?_map] at h
 cases e:l[i]? with
 | none=>rw [e] at h;cases h
 | some c=>rw [e] at h;exact⟨c,rfl,(Option.some.inj h).symm⟩
theorem c9(l:List Nat):(cZ l).length=l.length:=length_map _
def n8(i:Int)(n:Nat):List V:=(List.range n).map fun (k:Nat)=>V.int (i - k)
theorem lh(i:Int)(n:Nat):(n8 i n).length=n:=by simp [n8]
theorem vL{i:Int}{n k:Nat}{x:V}(h:(n8 i n)[k]?=some x):k<n/\x=.int (i - k):=by
 unfold n8 at h;rw [getElem?_map] at h
 by_cases hk:k<n
 .rw [getElem?_range hk] at h;exact⟨hk,(Option.some.inj h).symm⟩
 .rw [getElem?_eq_none (by simp;omega)] at h;cases h
def C6(ta:TA):TI:=fun σ H R=>ta σ H fun vs H1=>∃i j:Int,vs=[.int i,.int j,.int (-1)]/\(-(2^60)<=i/\i<2^60/\-(2^60)<=j/\j<2^60)/\R (Its (n8 i (i - j).toNat)) H1
theorem iA(i j:Int):Builtin.Range.rangeSize i j (-1)=(((i - j).toNat:Nat):Int):=by
 unfold Builtin.Range.rangeSize;rw [if_neg (by decide)];simp only [neg_neg,ediv_one];split <;> omega
theorem pY{a b c:Expr}{ta:TA}{p pos:Pos}(hg:Gl X "range")(hm:X.mg "range"=none)(ha:PA X [a,b,c] ta)
  (hs:starEach [a,b,c] X.env=[(false,eval a X.env),(false,eval b X.env),(false,eval c X.env)]:=by rfl) (hs2:starEach [b,c] X.env=[(false,eval b X.env),(false,eval c X.env)]:=by rfl) :
  PI X tg (.Call (.Name "range" p) [a,b,c] [] pos) (C6 ta):=by
 intro pins s σ H R I h;refine Call_ (iw I hg hm boot_range (PyProof.Rows.callWith_type1 (thn (ha pos pins s σ H _ I h) fun us s1 ⟨vs,H1,I1,r1,q1⟩=>?_) (by rw [hs,hs2]) (by rw [hs2];rfl)));obtain⟨i,j,e,⟨q1,q2,q3,q4⟩,q⟩:=q1;subst e
 cases r1 with
 | cons r rr =>
  cases rr with
  | cons r' rr =>
   cases rr with
   | cons r'' rr =>
    cases rr;obtain⟨t,rfl⟩:=r;obtain⟨t',rfl⟩:=r';obtain⟨t'',rfl⟩:=r'';refine call_range_3 (by decide) ?_ (.inl (PyProof.noPylong_small (by decide)))
    refine wpAny_pyIter_range (IsRange.new ..) ?_ ?_
    .unfold Builtin.Range.small;rw [iA];simp only [Builtin.Range.rangeFitsLong,and_eq_true,or_eq_true,decide_eq_true_eq,beq_iff_eq,show ¬ (-1:Int) > 0 by decide,if_false];omega
    have I2:Inv X pins σ H1 { s1 with heap:=s1.heap.push { cls:=.type "range",data:=.fields #[.int i t,.int j t',.int (-1) t''] },toks:=s1.toks }:=I1.kept fun b o e=>Heap.get?_push_of_some _ e
    refine⟨_,[(s1.heap.push { cls:=.type "range",data:=.fields #[.int i t,.int j t',.int (-1) t''] }).objs.size],_,Its (n8 i (i - j).toNat),H1,rfl,I2.kept (t':=s1.toks) fun b o e=>Heap.get?_push_of_some _ e,
     lg (fun A hA=>Walks.range hA _ i (-1) (i - j).toNat) (lh _ _) ?_ ?_ ?_ ?_ (fun A i s Q E st q=>wpAny_pyIter_rangeiter st q),?_,fun b hb=>?_,q⟩
    .rintro k v hk ⟨t,rfl⟩
     refine⟨.int (i - k),?_,t,?_⟩
     .unfold n8;rw [getElem?_map,getElem?_range hk];rfl
     .have e:i+(k:Int)*(-1)=i - k:=by omega
      rw [e]
    .rintro k v ⟨t,rfl⟩ a z;cases z
    .exact fun k h st=>⟨_,st,fun v z=>by
      have z':Data.fields _=Data.cell v:=z;cases z'⟩
    .exact fun k h h' st kk=>kk _ (by simp) _ st
    .show IsRangeIter _ _ (i+((0:Nat):Int)*(-1)) ((((i - j).toNat:Nat):Int) - ((0:Nat):Int)) (-1);rw [<- iA];simp only [natCast_zero,zero_mul,Int.add_zero,Int.sub_zero];exact Heap.get?_push_size _ rfl
    .have e:b=(s1.heap.push { cls:=.type "range",data:=.fields #[.int i t,.int j t',.int (-1) t''] }).objs.size:=by simpa using hb
     subst e;exact I2.fpOk (Nat.le_refl _) (I2.hok.fresh (Nat.le_refl _))
end
section
variable {X:Cx}
theorem rD:cN X (.builtin "isinstance") (fun xs H Q=>∃x n t b,xs=[x,.ty n]/\rA X.K H x t/\PySem.W.kitOne X.K t (.type n)=some b/\Q (.bl b) H):=by
 intro pins s σ H xs us Q I r h;obtain⟨x,n,t,b,rfl,ty,e,q⟩:=h;obtain⟨u,w',rfl,rx,ry⟩:=CL r;cases (show w'=Value.type n from ry);exact vt I rx ty e fun tk=>⟨.bl b,H,I.tok _,rfl,q⟩
mutual
inductive DV (K:PySem.W.Frag) (H:Hp):V->PyData->Prop
 | non:DV K H .non .none
 | bl (b:Bool):DV K H (.bl b) (.bool b)
 | int (i:Int):DV K H (.int i) (.int i)
 | str (x:Str):DV K H (.str x) (.str x)
 | lst {a:Addr}{xs:List V}{ds:List PyData}:SqL K H a xs->DVs K H xs ds->DV K H (.ref a) (.list ds)
 | tup {a:Addr}{xs:List V}{ds:List PyData}:SqT K H a xs->DVs K H xs ds->DV K H (.ref a) (.tuple ds)
inductive DVs (K:PySem.W.Frag) (H:Hp):List V->List PyData->Prop
 | nil:DVs K H [] []
 | cons {x:V}{d:PyData}{xs:List V}{ds:List PyData}:DV K H x d->DVs K H xs ds->DVs K H (x::xs) (d::ds)
end
mutual
theorem DV.reads{pins:List (Addr×Obj)}{σ:St}{H:Hp}{s:Shared}(I:Inv X pins σ H s):∀{x:V}{d:PyData}{u:Value},DV X.K H x d->ee x u->∃as,Reads s.heap u d as
 | _,_,u,.non,r=>by cases (show u=Value.none from r);exact⟨_,.none⟩
 | _,_,u,.bl b,r=>by cases (show u=Value.bool b from r);exact⟨_,.bool b⟩
 | _,_,u,.int i,r=>by obtain⟨t,e⟩:=(show ∃t,u=Value.int i t from r);subst e;exact⟨_,.int i t⟩
 | _,_,u,.str x,r=>by obtain⟨t,e⟩:=(show ∃t,u=Value.str x t from r);subst e;exact⟨_,.str x t⟩
 | _,_,u,.lst (a:=a) hq hs,r=>by
  cases (show u=Value.ref a from r);obtain⟨its,rv,pl,_⟩:=I.list hq;obtain⟨o,ho,hc,n,hd⟩:=pl.isList;obtain⟨as,ra⟩:=DVs.reads I hs rv;exact⟨_,.list ho hc hd ra⟩
 | _,_,u,.tup (a:=a) hq hs,r=>by
  cases (show u=Value.ref a from r);obtain⟨its,rv,pl,_⟩:=I.tuple hq;obtain⟨o,ho,hc,n,hd⟩:=pl;obtain⟨as,ra⟩:=DVs.reads I hs rv;exact⟨_,.tuple ho hc hd ra⟩
theorem DVs.reads{pins:List (Addr×Obj)}{σ:St}{H:Hp}{s:Shared}(I:Inv X pins σ H s):∀{xs:List V}{ds:List PyData}{us:List Value},DVs X.K H xs ds->bY xs us->∃as,ReadsAll s.heap us ds as
 | _,_,_,.nil,.nil=>⟨_,.nil⟩
 | _,_,_,.cons h hs,.cons r rs=>by
  obtain⟨as,ra⟩:=DV.reads I h r;obtain⟨bs,rb⟩:=DVs.reads I hs rs;exact⟨_,.cons ra rb⟩
end
def ET(K:PySem.W.Frag)(neg:Bool):R2:=fun x y H Q=>∃da db,DV K H x da/\DV K H y db/\SeqAt.shaped da=true/\SeqAt.shaped db=true/\Q (.bl (if neg then !PyData.eqv da db else PyData.eqv da db)) H
theorem C7(hu:X.A.units+64<cLine):OpR X (compareOp .Eq) (ET X.K false):=by
 intro pins s σ H x y v u Q I rx ry h;obtain⟨da,db,ha,hb,sa,sb,q⟩:=h;obtain⟨as,ra⟩:=DV.reads I ha rx;obtain⟨bs,rb⟩:=DV.reads I hb ry;exact eq_dataH ra rb sa sb hu ⟨.bl _,H,I,rfl,q⟩
theorem C8(hu:X.A.units+64<cLine):OpR X (compareOp .NotEq) (ET X.K true):=by
 intro pins s σ H x y v u Q I rx ry h;obtain⟨da,db,ha,hb,sa,sb,q⟩:=h;obtain⟨as,ra⟩:=DV.reads I ha rx;obtain⟨bs,rb⟩:=DV.reads I hb ry;exact ne_dataH ra rb sa sb hu ⟨.bl _,H,I,rfl,q⟩
theorem DVs.ints{K:PySem.W.Frag}{H:Hp}:∀ns:List Int,DVs K H (ns.map V.int) (ns.map PyData.int)
 | []=>.nil
 | n::ns=>.cons (.int n) (DVs.ints ns)
theorem li:∀ns ms:List Int,PyData.eqvAll (ns.map PyData.int) (ms.map PyData.int)=decide (ns=ms)
 | [],[]=>by simp [PyData.eqvAll]
 | [],_::_=>by simp [PyData.eqvAll]
 | _::_,[]=>by simp [PyData.eqvAll]
 | a::r,b::t=>by
  simp only [map_cons,PyData.eqvAll,PyData.eqv,li r t]
  by_cases h:a=b <;> by_cases h':r=t <;> simp [h,h']
theorem rE:MtR X "str.endswith" (fun x xs H Q=>∃a b,x=.str (S a)/\xs=[.str (S b)]/\Q (.bl (decide (b <:+ a))) H):=by
 intro pins s σ H x xs v us Q I rx rs h;obtain⟨a,b,rfl,rfl,q⟩:=h;obtain⟨t,rfl⟩:=rx;obtain⟨u,rfl,t',rfl⟩:=iq rs
 have e:Txt.endswith (S a) (S b)=decide (b <:+ a):=by
  unfold Txt.endswith Builtin.Str.subAt;rw [fC,fC]
  have e1:((S a).cps.extract (a.length - b.length) (a.length - b.length+b.length))=((a.drop (a.length - b.length)).take b.length).toArray:=by
   show a.toArray.extract _ _=_;rw [extract_toArray,extract_eq_take_drop];have e2:a.length - b.length+b.length - (a.length - b.length)=b.length:=by omega
   rw [e2]
  rw [e1]
  by_cases h:b <:+ a
  .rw [decide_eq_true h];have hl:=h.length_le;have hd:a.drop (a.length - b.length)=b:=(suffix_iff_eq_drop.mp h).symm;rw [hd];simp [S,hl]
  .rw [decide_eq_false h]
   by_cases hl:b.length<=a.length
   .have hne:¬ (a.drop (a.length - b.length)).take b.length=b:=fun z=>h (by
     rw [take_of_length_le (by rw [length_drop];omega)] at z;exact suffix_iff_eq_drop.mpr z.symm)
    simp only [and_eq_false_imp];intro _;show (((a.drop (a.length - b.length)).take b.length).toArray == b.toArray)=false;rw [beq_eq_false_iff_ne];intro z;exact hne (by simpa using congrArg Array.toList z)
   .rw [decide_eq_false (by omega)];rfl
 exact SC.endswith ⟨.bl _,H,I,rfl,by rw [e];exact q⟩
end
section
variable {X:Cx}{a b:Expr}{ta tb:TE}{pos:Pos}
theorem di{x:Str}{l:List Nat}{j:Nat}(h:x=S l):PE X (.Constant (.str x) j pos) (tC (.str (S l))):=by
 subst h;exact Cq
theorem vM:cN X (.builtin "len") (fun xs H Q=>∃l,xs=[.str (S l)]/\l.length<=sizeLine/\Q (.int l.length) H):=by
 intro pins s σ H xs us Q I r h;obtain⟨l,rfl,hz,q⟩:=h;exact pT pins s σ H _ us Q I r ⟨S l,rfl,by rw [fC];exact hz,by rw [fC];exact q⟩
def C9:R2:=fun x y H Q=>∃l i c,x=.str (S l)/\y=.int i/\l.length<=sizeLine/\atI l i=some c/\Q (.str (S [c])) H
theorem AJ:IxR X C9:=by
 intro value slice pins s σ H x y v u Q I rx ry q hs;obtain⟨l,i,c,rfl,rfl,hz,ha,q⟩:=q;exact CT value slice pins s σ H _ _ v u Q I rx ry ⟨S l,i,c,rfl,rfl,by rw [fC];exact hz,ha,q⟩ hs
theorem AK:OpR X (binaryOp .Add) (fun x y H Q=>∃i j,x=.str (S i)/\y=.str (S j)/\i.length+j.length<=sizeLine/\Q (.str (S (i++j))) H):=by
 intro pins s σ H x y v u Q I rx ry h;obtain⟨i,j,rfl,rfl,hz,q⟩:=h;exact uo pins s σ H _ _ v u Q I rx ry ⟨S i,S j,rfl,rfl,by rw [fC,fC];exact hz,by rw [AH];exact q⟩
theorem Db:OpR X (compareOp .Eq) (fun x y H Q=>∃i j,x=.str (S i)/\y=.str (S j)/\Q (.bl (decide (i=j))) H):=by
 intro pins s σ H x y v u Q I rx ry h;obtain⟨i,j,rfl,rfl,q⟩:=h;exact EJ pins s σ H _ _ v u Q I rx ry ⟨rfl,by rw [C3];exact q⟩
theorem Dc:OpR X (compareOp .NotEq) (fun x y H Q=>∃i j,x=.str (S i)/\y=.str (S j)/\Q (.bl (!decide (i=j))) H):=by
 intro pins s σ H x y v u Q I rx ry h;obtain⟨i,j,rfl,rfl,q⟩:=h;exact EK pins s σ H _ _ v u Q I rx ry ⟨rfl,by rw [C3];exact q⟩
theorem Dd:OpR X (compareOp .Eq) (rI0 fun i j=>.bl (decide (i=j))):=B8 fun _ _ _ _ _ _ _ q=>eq_int (by rw [beq_eq_decide_eq];exact q)
theorem De:OpR X (compareOp .NotEq) (rI0 fun i j=>.bl (!decide (i=j))):=B8 fun _ _ _ _ _ _ _ q=>ne_int (by rw [bne,beq_eq_decide_eq];exact q)
theorem vN:cN X (.builtin "len") (fun xs H Q=>∃p ys,xs=[.ref p]/\SqL X.K H p ys/\Q (.int ys.length) H):=by
 intro pins s σ H xs us Q I r h;obtain⟨p,ys,e,hq,q⟩:=h;exact j7 pins s σ H xs us Q I r ⟨p,ys,e,.inl hq,q⟩
theorem vO:cN X (.builtin "len") (fun xs H Q=>∃p ys,xs=[.ref p]/\SqT X.K H p ys/\Q (.int ys.length) H):=by
 intro pins s σ H xs us Q I r h;obtain⟨p,ys,e,hq,q⟩:=h;exact j7 pins s σ H xs us Q I r ⟨p,ys,e,.inr hq,q⟩
end
structure Cal (P:Program) (w:World) (K:PySem.W.Frag) (mg:Str->Option Value) (base:Heap) (k:Nat) (x:Str) (ps:List Str) (sp:Sp):Prop where
 ex:∃(f:Addr) (fd:FuncData),nY P w K mg base CX0 k f fd ps sp/\kA K fd ps []/\PySem.W.keepIn K (.ref f)=true/\mg x=some (.ref f)/\∃oc od osl,K.lookup f=some ⟨oc,od,.func fd,osl⟩
structure cS (K:PySem.W.Frag) (mg:Str->Option Value) (x:Str) (st:Stmt):Prop where
 ex:∃(f:Addr) (fd:FuncData),Fun K x x st f fd/\mg x=some (.ref f)
section
variable {P:Program}{w:World}{K:PySem.W.Frag}{mg:Str->Option Value}{base:Heap}{x:Str}{st:Stmt}{N ps:List Str}{k:Nat}{sp:Sp}
theorem cS.ok(D:cS K mg x st)(S:aR N ps (ar st))
  (hb:∀(kV doc pm:Value) (an:Option Addr) (cdv ct:Value) (us:List Value),us.length=ps.length->bindArgs (PySem.W.fnOf x x (dh st) (cB st) (ar st) .none kV doc pm an cdv ct) ⟨us,[]⟩=pure (ps.zip us))
  (len:∀vs H Q E,sp vs H Q E->vs.length=ps.length)
  (hbody:∀(f:Addr) (cdv:Value) (A:Around) (outer:List Env) (s:Shared) (H:Hp) (vs:List V) (Q:VK) (E:XK),gJ k (A.deeper (envOfC x (ar st) s.heap.objs.size f cdv))->sp vs H Q E ->
   ∃t,PSs (xH CX0 P w K mg base N x (ar st) f cdv A outer s H E).nox (cB st) t/\t { nx:=fun _ H'=>Q .non H',rt:=Q } (start N vs) H):Cal P w K mg base (k+1) x ps sp:=by
 obtain⟨f,fd,F,hm⟩:=D.ex
 have lk:∃oc od osl,K.lookup f=some ⟨oc,od,.func fd,osl⟩:=by
  obtain⟨oc,od,kV,doc,pm,an,cdv,ct,osl,rfl,lk,hcd⟩:=F.ex;exact⟨oc,od,osl,lk⟩
 exact⟨f,fd,F.ok S len fun cdv A outer s H vs Q E hr h=>hbody f cdv A outer s H vs Q E hr h,F.binds hb,F.kp,hm,lk⟩
theorem cS.mk'{K:PySem.W.Frag}{h:Heap}{mg:Str->Option Value}{x:Str}{st:Stmt}{f:Addr}{oc:Value}{od an:Option Addr}{osl:Array (Option Value)}{kV doc pm cdv ct:Value}(X:K.In h)(G:h.Ns mainGlobals mg)
  (a:PySem.W.nsIn K mainGlobals x=some (some (.ref f))) (l:K.lookup f=some ⟨oc,od,.func (PySem.W.fnOf x x (dh st) (cB st) (ar st) .none kV doc pm an cdv ct),osl⟩)
  (c:PySem.W.codeIn K cdv x=true) (k:PySem.W.keepIn K (.ref f)=true):cS K mg x st:=⟨f,_,vE (st:=st) l c k,PySem.W.mg_of X G a⟩
end
section
variable {X:Cx}{k:Nat}{x:Str}{ps:List Str}{sp:Sp}{p pos:Pos}{e:Expr}{es:List Expr}{t:TA}
theorem Df(C:Cal X.prog X.w X.K X.mg X.base k x ps sp)(hr:gJ k X.A)(ha:PA X (e::es) t)(hg:Gl X x:=by rfl)(hdb:(x == ("__debug__":Str))=false:=by decide)(he:starEach (e::es) X.env=(false,eval e X.env)::starEach es X.env:=by rfl)
  (hpl:(backTo pos (starEach es X.env)).any (·.1)=false:=by rfl):PE X (.Call (.Name x p) (e::es) [] pos) (fm sp [] E0 t):=by
 obtain⟨f,fd,F,hb,hk,hm,_⟩:=C.ex;exact vw F hr hg hm hk hb .nil ya ha hdb he hpl
end
def uD(K:PySem.W.Frag):Sp:=fun vs H Q _=>∃(a:Addr) (ns:List Int),vs=[.ref a]/\SqL K H a (ns.map V.int)/\ns.length<=63/\∀H',Q (.bl true) H'
theorem Dg{P:Program}{w:World}{K:PySem.W.Frag}{mg:Str->Option Value}{fa:Addr}{st:Stmt}{k:Nat}{x:Str}(hfa:mg "law"=some (.ref fa))(D:cS K mg "law" st)
  (hbind:∀(kV doc pm:Value) (an:Option Addr) (cdv ct:Value) (s:Shared) (v:Value),BindsTo s (PySem.W.fnOf "law" "law" (dh st) (cB st) (ar st) .none kV doc pm an cdv ct) ⟨[v],[]⟩ [(x,v)])
  (h:∀base:Heap,Cal P w K mg base k "law" [x] (uD K)) :
  ∃fd:FuncData,(∀(s:Shared) (v:Value),BindsTo s fd ⟨[v],[]⟩ [(x,v)])/\∀base:Heap,K.In base->base.Ns mainGlobals mg->nY P w K mg base CX0 k fa fd [x] (uD K):=by
 obtain⟨f,fd,F,hm⟩:=D.ex;have e:=hfa.symm.trans hm;cases e;obtain⟨oc,od,kV,doc,pm,an,cdv,ct,osl,rfl,lk,hcd⟩:=F.ex;refine⟨_,fun s v=>hbind kV doc pm an cdv ct s v,fun base kb nb=>?_⟩;obtain⟨f',fd',F',_,_,hm',oc',od',osl',lk'⟩:=(h base).ex;have e:=hfa.symm.trans hm';cases e;rw [lk] at lk';cases lk';exact F'
theorem Dh{l:PySem.W.OpenLaw}{q:Program}{loose:List Str}{XP:(Str->Option Value)->Heap->Prop}{YP:World->Heap->Prop}{d:DefRec}{K:Params->PySem.W.Frag}{k:Nat}{x:Str}(hn:l.most=some 63)(hdf:d.params.defaults=[])(hr:gJ k callerA)
  (hY:∀(w:World) (h:Heap),YP w h->(K w.params).In h)
  (F:∀(w:World) (mg:Str->Option Value) (fa:Addr) (h:Heap),(K w.params).In h->h.Ns mainGlobals mg->mg d.name=some (.ref fa) ->
   ∃fd:FuncData,(∀(s:Shared) (u:Value),BindsTo s fd ⟨[u],[]⟩ [(x,u)])/\∀base:Heap,(K w.params).In base->base.Ns mainGlobals mg->nY l.prog w (K w.params) mg base CX0 k fa fd [x] (uD (K w.params))) :
  PySem.W.WalkO q loose XP YP l.row.toRowW d [] (fun f vs=>PySem.call f vs) :=
 AG (n:=63) (k:=k) (x:=x) (CX:=fun _=>CX0) (sp:=fun w=>uD (K w.params)) hn (by decide) hdf hr hY F (fun _ _ a ns hl _ hS=>⟨a,ns,rfl,hS,hl,fun _=>rfl⟩) fun _ _ _ _ _ z=>z
theorem AL{α β:Type}{f:α->β}{xs:List α}{i:Int}{v:α}(h:atI xs i=some v):atI (xs.map f) i=some (f v):=by
 unfold atI at h ⊢;rw [length_map]
 cases e:ixN xs.length i with
 | none=>rw [e] at h;cases h
 | some j =>
  rw [e] at h;show (xs.map f)[j]?=some (f v);have h':xs[j]?=some v:=h;rw [getElem?_map,h'];rfl
theorem gK{α:Type}{xs:List α}{i:Int}{j:Nat}{v:α}(h:xs[j]?=some v)(e:i=(j:Int)):atI xs i=some v:=by subst e;exact AB h
def fn(l:List Nat)(t:Nat):Nat:=l.getD t 0
theorem zB{l:List Nat}{t:Nat}(h:t<l.length):l[t]?=some (fn l t):=by
 unfold fn;rw [getD_eq_getElem?_getD,getElem?_eq_getElem h];rfl
theorem sz(n:Nat)(h:n<=1000000):n<=sizeLine:=by rw [sizeLine_eq];omega
theorem yb{ns:List Int}{i:Nat}{x:V}(h:(ns.map V.int)[i]?=some x):∃z,ns[i]?=some z/\x=.int z:=by
 rw [getElem?_map] at h
 cases e:ns[i]? with
 | none=>rw [e] at h;cases h
 | some z=>rw [e] at h;exact⟨z,rfl,(Option.some.inj h).symm⟩
section
variable {X:Cx}{st:Stmt}{t:TS}
def Di(t:TS):TS:=fun D σ H=>∃J:St->Hp->Prop,t { D with nx:=J } σ H/\∀σ' H',J σ' H'->D.nx σ' H'
theorem lj(h:PS X st t):PS X st (Di t):=by
 intro pins s σ H D I q;obtain⟨J,q1,q2⟩:=q;refine thn (h pins s σ H _ I q1) fun f s' r=>?_
 cases f with
 | next=>obtain⟨σ',H',I',r'⟩:=r;exact⟨σ',H',I',q2 σ' H' r'⟩
 | brk=>exact r
 | cont=>exact r
 | ret u=>exact r
end
theorem sV{α β:Type}(f:α->β)(xs:List α)(lo hi:Option Int):eV (xs.map f) lo hi=(eV xs lo hi).map f:=by
 unfold eV;rw [length_map,map_take,map_drop]
theorem eI{x:Str}{c:Addr}:∀(names:List (Str×NameKind)) (n:Nat) (acc:List (Str×Addr)),(cellsFrom n names acc).lookup x=some c->(n<=c/\(x,NameKind.cell)∈names)\/acc.lookup x=some c
 | [],n,acc,h=>.inr h
 | (y,k)::r,n,acc,h=>by
  unfold cellsFrom at h
  split at h
  .rename_i hk;have hk':k=.cell:=by simpa using hk
   subst hk'
   rcases eI r (n+1) ((y,n)::acc) h with ⟨h1,h2⟩|h1
   .exact .inl ⟨by omega,mem_cons_of_mem _ h2⟩
   .rw [lookup_cons] at h1
    cases e:x == y with
    | true =>
     rw [e] at h1;have:n=c:=Option.some.inj h1;have ex:x=y:=by simpa using e
     subst ex;exact .inl ⟨by omega,mem_cons_self⟩
    | false=>rw [e] at h1;exact .inr h1
  .rcases eI r n acc h with ⟨h1,h2⟩|h1
   .exact .inl ⟨h1,mem_cons_of_mem _ h2⟩
   .exact .inr h1
theorem fO{x:Str}:∀(names:List (Str×NameKind)) (n:Nat) (acc:List (Str×Addr)),(x,NameKind.cell)∉names->(cellsFrom n names acc).lookup x=acc.lookup x
 | [],_,_,_=>rfl
 | (y,k)::r,n,acc,h=>by
  unfold cellsFrom
  split
  .rename_i hk;have hk':k=.cell:=by simpa using hk
   subst hk';rw [fO r (n+1) _ (fun z=>h (mem_cons_of_mem _ z)),lookup_cons]
   have:(x == y)=false:=by
    rw [beq_eq_false_iff_ne];intro e;subst e;exact h mem_cons_self
   rw [this]
  .exact fO r n acc (fun z=>h (mem_cons_of_mem _ z))
theorem fP{x y:Str}{c:Addr}:∀(names:List (Str×NameKind)) (n:Nat) (acc:List (Str×Addr)),(∀z d,acc.lookup z=some d->d<n) ->
  (cellsFrom n names acc).lookup x=some c->(cellsFrom n names acc).lookup y=some c->n<=c->x=y
 | [],n,acc,ha,h1,h2,hc=>absurd (ha x c h1) (not_lt.mpr hc)
 | (z,k)::r,n,acc,ha,h1,h2,hc=>by
  unfold cellsFrom at h1 h2
  split at h1
  .rename_i hk;rw [if_pos hk] at h2
   have ha':∀w d,((z,n)::acc).lookup w=some d->d<n+1:=fun w d e=>by
    rw [lookup_cons] at e
    cases q:w == z with
    | true=>rw [q] at e;cases e;exact lt_succ_self _
    | false=>rw [q] at e;exact lt_succ_of_lt (ha w d e)
   by_cases hcn:n+1<=c
   .exact fP r (n+1) _ ha' h1 h2 hcn
   .have e:c=n:=le_antisymm (not_lt.mp hcn) hc;subst e
    have key:∀w:Str,(cellsFrom (c+1) r ((z,c)::acc)).lookup w=some c->w=z:=fun w hw=>by
     rcases eI r (c+1) _ hw with ⟨q,_⟩|q
     .exact absurd q (not_succ_le_self _)
     .rw [lookup_cons] at q
      cases q2:w == z with
      | true=>simpa using q2
      | false=>rw [q2] at q;exact absurd (ha w c q) (Nat.lt_irrefl _)
    rw [key x h1,key y h2]
  .rename_i hk;rw [if_neg hk] at h2;exact fP r n acc ha h1 h2 hc
def jc(env:Env):List (Str×NameKind)->List (Str×Addr)->List (Str×Addr)
 | [],acc=>acc
 | (n,k)::r,acc=>if (k == .free)=true then jc env r ((n,(env.cells.lookup n).getD 0)::acc) else jc env r acc
theorem fQ{env:Env}{x:Str}{c:Addr}:∀(names:List (Str×NameKind)) (acc:List (Str×Addr)),(jc env names acc).lookup x=some c->((x,NameKind.free)∈names/\c=(env.cells.lookup x).getD 0)\/acc.lookup x=some c
 | [],acc,h=>.inr h
 | (y,k)::r,acc,h=>by
  unfold jc at h
  split at h
  .rename_i hk;have hk':k=.free:=by simpa using hk
   subst hk'
   rcases fQ r _ h with ⟨h1,h2⟩|h1
   .exact .inl ⟨mem_cons_of_mem _ h1,h2⟩
   .rw [lookup_cons] at h1
    cases e:x == y with
    | true =>
     rw [e] at h1;have ex:x=y:=by simpa using e
     subst ex;exact .inl ⟨mem_cons_self,(Option.some.inj h1).symm⟩
    | false=>rw [e] at h1;exact .inr h1
  .rcases fQ r acc h with ⟨h1,h2⟩|h1
   .exact .inl ⟨mem_cons_of_mem _ h1,h2⟩
   .exact .inr h1
theorem jd{env:Env}{x:Str}:∀(names:List (Str×NameKind)) (acc:List (Str×Addr)),((x,NameKind.free)∈names\/(acc.lookup x).isSome=true)->((jc env names acc).lookup x).isSome=true
 | [],acc,h=>h.elim (fun z=>nomatch z) id
 | (y,k)::r,acc,h=>by
  unfold jc
  split
  .rename_i hk;refine jd r _ ?_
   by_cases e:(x == y)=true
   .exact .inr (by rw [lookup_cons,e];rfl)
   .rcases h with h|h
    .rcases mem_cons.mp h with z|z
     .cases z;exact absurd (by simp) e
     .exact .inl z
    .exact .inr (by rw [lookup_cons];rw [not_eq_true] at e;rw [e];exact h)
  .rename_i hk;refine jd r acc ?_
   rcases h with h|h
   .rcases mem_cons.mp h with z|z
    .cases z;exact absurd rfl hk
    .exact .inl z
   .exact .inr h
theorem kB{scope:Scope}{env:Env}(h:∀x∈scope.names,x.2=.free->∃c,env.cells.lookup x.1=some c):closureFor scope env=pure (jc env scope.names []):=by
 unfold closureFor
 have key:∀(names:List (Str×NameKind)) (acc:List (Str×Addr)),(∀x∈names,x.2=.free->∃c,env.cells.lookup x.1=some c) ->
   (forIn names acc fun (x:Str×NameKind) (r:List (Str×Addr))=>(if (x.2 == NameKind.free)=true then do let y <- cellOf env x.1;pure (ForInStep.yield ((x.1,y)::r)) else pure (ForInStep.yield r):Sem _))=pure (jc env names acc):=by
  intro names
  induction names with
  | nil=>intro acc _;rfl
  | cons p r ih =>
   intro acc hp;obtain⟨n,k⟩:=p;rw [forIn_cons];have hr:∀x∈r,x.2=.free->∃c,env.cells.lookup x.1=some c:=fun x hx=>hp x (mem_cons_of_mem _ hx);unfold jc
   by_cases hk:(k == NameKind.free)=true
   .obtain⟨c,hc⟩:=hp (n,k) mem_cons_self (by simpa using hk);have hc':env.cells.lookup n=some c:=hc;have e1:cellOf env n=pure c:=by unfold cellOf;rw [hc']
    simp only [hk,if_true];rw [e1,hc'];simp only [pure_bind];exact ih _ hr
   .rw [if_neg hk,if_neg hk];simp only [pure_bind];exact ih _ hr
 have e:=key scope.names [] h;have e2:∀(m:Sem (List (Str×Addr))),(m >>= fun r=>pure r)=m:=fun m=>bind_pure m;rw [<- e]
 first
  | rfl
  | exact (e2 _)
def vP(scope:Scope)(C:Addr)(env:Env):Env :=
 { scope:=relabel scope env,locals:=C,globals:=env.globals,cells:=cellsFrom (C+1) scope.names (jc env scope.names []),qual:=env.qual,func:=none,code:=env.code,frame:=env.frame,builtins:=env.builtins }
def dk(X:Cx)(N':List Str)(scope:Scope)(s:Shared)(H:Hp)(fp:List Addr)(pins:List (Addr×Obj)):Cx :=
 { X with N:=N',s₀:=s,H₀:=H,env:=vP scope s.heap.objs.size X.env,outer:=X.stack,stack:=X.stack,ex:=fp,fn:=fun x=>decide ((x,NameKind.cell)∈scope.names),pn:=X.pn++pins,xe:=fun _ _=>False }
def n9(sc0:Scope)(N:List Str)(scope:Scope)(N':List Str)(ix:List (Option Nat)):Bool :=
 decide (scope.kind=.function) && scope.names.all (fun y=>(!decide (y.2=.local) || decide (scope.names.lookup y.1=some .local)) &&
  (!decide (y.2=.free) || ((decide (sc0.names.lookup y.1=some .cell) || decide (sc0.names.lookup y.1=some .free)) && !decide ((y.1,NameKind.cell)∈scope.names)))) &&
 decide (N'.length=ix.length) && (N'.zip ix).all (fun p=>match p.2 with|none=>true|some j=>decide (N[j]?=some p.1) && decide (scope.names.lookup p.1=some .free))
structure vQ (env:Env) (N:List Str) (scope:Scope) (N':List Str) (ix:List (Option Nat)):Prop where
 kind:scope.kind=.function
 loc:∀y∈scope.names,y.2=.local->scope.names.lookup y.1=some .local
 free:∀y∈scope.names,y.2=.free->(env.kindOf y.1=some .cell\/env.kindOf y.1=some .free)/\(y.1,NameKind.cell)∉scope.names
 len:N'.length=ix.length
 slot:∀(i:Nat) (x:Str) (j:Nat),N'[i]?=some x->ix[i]?=some (some j)->N[j]?=some x/\scope.names.lookup x=some .free
theorem pZ{env:Env}{N:List Str}{scope:Scope}{N':List Str}{ix:List (Option Nat)}(h:n9 env.scope N scope N' ix=true):vQ env N scope N' ix:=by
 unfold n9 at h;simp only [and_eq_true,decide_eq_true_eq,all_eq_true] at h;obtain⟨⟨⟨h1,h2⟩,h3⟩,h4⟩:=h
 refine⟨h1,fun y hy e=>?_,fun y hy e=>?_,h3,fun i x j e1 e2=>?_⟩
 .have:=(h2 y hy).1;rw [e] at this;simpa using this
 .have:=(h2 y hy).2;rw [e] at this;simpa [Env.kindOf] using this
 .have hm:(x,some j)∈N'.zip ix:=by
   refine mem_of_getElem? (i:=i) ?_;rw [getElem?_zip_eq_some];exact⟨e1,e2⟩
  have:=h4 _ hm;simpa using this
def rlf(env:Env)(p:Str×NameKind):Str×NameKind:=match p with|(n,k)=>if (k == NameKind.free && env.scope.kind == .function && env.kindOf n == some .cell) then (n,.cell) else (n,k)
theorem vR(env:Env)(n:Str)(k:NameKind):∃k',rlf env (n,k)=(n,k')/\(k'=k\/(k=.free/\k'=.cell)):=by
 unfold rlf
 by_cases c:(k == NameKind.free && env.scope.kind == .function && env.kindOf n == some .cell)=true
 .refine⟨.cell,if_pos c,.inr ⟨?_,rfl⟩⟩;simp only [and_eq_true,beq_iff_eq] at c;exact c.1.1
 .exact⟨k,if_neg c,.inl rfl⟩
theorem sW{env:Env}:∀{names:List (Str×NameKind)}{x:Str},names.lookup x=some .free->(names.map (rlf env)).lookup x=some .cell\/(names.map (rlf env)).lookup x=some .free
 | [],_,h=>by simp at h
 | (n,k)::r,x,h=>by
  have ih:=@sW env r x;obtain⟨k',e,hk'⟩:=vR env n k;rw [map_cons,e]
  cases hx:x == n with
  | true =>
   simp only [lookup_cons,hx] at h ⊢;have hk:k=.free:=Option.some.inj h
   rcases hk' with z|z
   .right;rw [z,hk]
   .left;rw [z.2]
  | false =>
   simp only [lookup_cons,hx] at h ⊢;exact ih h
theorem oa{env:Env}:∀{names:List (Str×NameKind)}{x:Str}{k':NameKind},(names.map (rlf env)).lookup x=some k'->k'=.cell\/k'=.free->names.lookup x=some .cell\/names.lookup x=some .free
 | [],_,_,h,_=>by simp at h
 | (n,k)::r,x,k',h,hk'=>by
  have ih:=@oa env r x k';obtain⟨k2,e,hk2⟩:=vR env n k;rw [map_cons,e] at h
  cases hx:x == n with
  | true =>
   simp only [lookup_cons,hx] at h ⊢;have:k2=k':=Option.some.inj h;subst this
   rcases hk2 with z|z
   .rw [<- z]
    rcases hk' with q|q
    .left;rw [q]
    .right;rw [q]
   .right;rw [z.1]
  | false =>
   simp only [lookup_cons,hx] at h ⊢;exact ih h hk'
theorem p5{x:Str}{c:Addr}:∀(names:List (Str×NameKind)) (n:Nat) (acc:List (Str×Addr)),(cellsFrom n names acc).lookup x=some c->(x,c)∈cellsFrom n names []\/acc.lookup x=some c:=by
 have app:∀(names:List (Str×NameKind)) (n:Nat) (acc:List (Str×Addr)),cellsFrom n names acc=cellsFrom n names []++acc:=by
  intro names
  induction names with
  | nil=>intro n acc;rfl
  | cons p r ih =>
   intro n acc;obtain⟨y,k⟩:=p;unfold cellsFrom
   split
   .rw [ih (n+1) ((y,n)::acc),ih (n+1) [(y,n)],append_assoc];rfl
   .exact ih n acc
 intro names n acc h;rw [app] at h;rw [lookup_append] at h
 cases e:(cellsFrom n names []).lookup x with
 | some d =>
  rw [e] at h;have:d=c:=by simpa using h
  subst this;exact .inl (mem_of_lookup e)
 | none=>rw [e] at h;exact .inr (by simpa using h)
def vS(ix:List (Option Nat))(σ:St):St:=ix.map fun o=>match o with
 | none=>none
 | some j=>match σ[j]? with
  | some v=>v
  | none=>none
section
variable {X:Cx}{pins:List (Addr×Obj)}{σ:St}{H:Hp}{s:Shared}
theorem yc{N':List Str}{ix:List (Option Nat)}{scope:Scope}{fp:List Addr}(ok:vQ X.env X.N scope N' ix)(I:Inv X pins σ H s)(hf:∀b∈fp,ui X pins H b)(hfl:∀b∈fp,b<s.heap.objs.size) :
  Inv (dk X N' scope s H fp pins) [] (vS ix σ) H { s with heap:=pushCells (s.heap.push { cls:=.type "dict",data:=.dict #[] }) scope.names }:=by
 have hk4:∀b o,s.heap.get? b=some o->(pushCells (s.heap.push { cls:=.type "dict",data:=.dict #[] }) scope.names).get? b=some o:=fun b o e=>pushCells_keeps _ _ b o (Heap.get?_push_of_some _ e)
 have hclo:∀x c,(jc X.env scope.names []).lookup x=some c->X.env.cells.lookup x=some c:=fun x c e=>by
  rcases fQ scope.names [] e with ⟨h1,h2⟩|h1
  .obtain⟨d,hd⟩:=I.ok.has x (ok.free _ h1 rfl).1;rw [hd] at h2 ⊢;rw [h2];rfl
  .cases h1
 have hcl:∀x c,X.env.cells.lookup x=some c->c<s.heap.objs.size:=fun x c e=>by
  obtain⟨v,q⟩:=I.cell x c e;exact q.lt
 have own:=cellsFrom_ok scope.names (s.heap.push { cls:=.type "dict",data:=.dict #[] }) (s.heap.objs.size+1) [] ⟨fun _ _ hm=>(nomatch hm),List.Pairwise.nil⟩ (by rw [Heap.size_push];exact Nat.le_refl _);rw [Heap.size_push] at own
 have cases:∀x c,(cellsFrom (s.heap.objs.size+1) scope.names (jc X.env scope.names [])).lookup x=some c ->
   ((pushCells (s.heap.push { cls:=.type "dict",data:=.dict #[] }) scope.names).IsCell c none/\s.heap.objs.size+1<=c)\/X.env.cells.lookup x=some c:=fun x c e=>by
  rcases p5 _ _ _ e with h|h
  .exact .inl (own.empty x c h)
  .exact .inr (hclo x c h)
 have fs':∀b,b∈frs X.stack->b<s.heap.objs.size:=fun b hb=>by
  rcases mem_cons.mp (I.stkSub b hb) with z|z
  .rw [z];exact I.lt
  .by_cases q:b<s.heap.objs.size
   .exact q
   .exact absurd z (I.nofs (not_lt.mp q))
 have cix:(dk X N' scope s H fp pins).Ok:=by
  refine⟨I.ok.mod,ok.kind,I.ok.glob,I.ok.blt,Nat.le_refl _,fun x y c h1 h2=>?_,fun x hx=>?_,fun x c hx e=>?_,I.ok.hd,I.ok.frames,.inl rfl,fun b hb=>⟨ne_of_lt (hfl b hb),fun x c e=>?_⟩,fun b o e=>I.bs b o e,Nat.le_trans I.ok.bsz I.sz,fun b o e hb=>?_,fun b hb=>?_,I.stack,I.stkFree⟩
  .rcases cases x c h1 with ⟨_,z⟩|z
   .exact fP scope.names _ _ (fun w d e=>lt_succ_of_lt (hcl w d (hclo w d e))) h1 h2 z
   .rcases cases y c h2 with ⟨_,z2⟩|z2
    .exact absurd (hcl x c z) (not_lt.mpr (le_of_succ_le z2))
    .exact I.ok.inj x y c z z2
  .have hx':scope.names.lookup x=some .cell\/scope.names.lookup x=some .free:=by
    rcases hx with z|z
    .exact oa (env:=X.env) z (.inl rfl)
    .exact oa (env:=X.env) z (.inr rfl)
   rcases hx' with z|z
   .exact Option.isSome_iff_exists.mp (PySem.W.cellsFrom_some scope.names _ _ (.inl z))
   .exact Option.isSome_iff_exists.mp (PySem.W.cellsFrom_some scope.names _ _ (.inr (jd _ _ (.inl (mem_of_lookup z)))))
  .have hx':(x,NameKind.cell)∈scope.names:=of_decide_eq_true hx
   rcases cases x c e with ⟨_,z⟩|z
   .exact le_of_succ_le z
   .rcases p5 _ _ _ e with h|h
    .exact le_of_succ_le (own.empty x c h).2
    .rcases fQ scope.names [] h with ⟨h1,_⟩|h1
     .exact absurd hx' (ok.free _ h1 rfl).2
     .cases h1
  .intro z
   rcases cases x c e with ⟨_,z2⟩|z2
   .rw [z] at z2;exact absurd (hfl b hb) (not_lt.mpr (le_of_succ_le z2))
   .exact (hf b hb).2.2.2.2.1 x c z2 z
  .rcases (hf b hb).2.2.2.1 with z|z
   .exact I.ok.noex b o e z
   .exact absurd (Heap.lt_size (I.ok.bs b o e).1) (not_lt.mpr z)
  .intro z
   rcases mem_cons.mp (I.stkSub b z) with q|q
   .exact (hf b hb).2.1 q
   .exact (hf b hb).2.2.1 q
 refine⟨cix,rfl,I.bare,Un.kept hk4,⟨fun _=>none,?_,fun i x v e1 e2 e3=>?_⟩,fun x c e=>?_,I.hok.fresh (Nat.le_refl _),fun x c e=>?_,fun p hp=>?_,I.hok.kept hk4,?_⟩
 .exact (Heap.Ns.new s.heap (.type "dict")).keeps (pushCells_keeps _ _)
 .have e2':∃j,ix[i]?=some (some j)/\σ[j]?=some (some v):=by
   unfold vS at e2;rw [getElem?_map] at e2
   cases q:ix[i]? with
   | none=>rw [q] at e2;cases e2
   | some o =>
    rw [q] at e2
    cases o with
    | none=>cases (Option.some.inj e2)
    | some j =>
     refine⟨j,rfl,?_⟩;have e2'':(match σ[j]? with|some v=>v|none=>none)=some v:=Option.some.inj e2
     cases r:σ[j]? with
     | none=>rw [r] at e2'';cases e2''
     | some w=>rw [r] at e2'';exact congrArg some e2''
  obtain⟨j,hj,hv⟩:=e2';obtain⟨hN,hfr⟩:=ok.slot i x j e1 hj;have hk:=(ok.free _ (mem_of_lookup hfr) rfl).1
  have hvis:Vis X.env.scope x:=by
   rcases hk with z|z
   .exact .inr (.inl z)
   .exact .inr (.inr z)
  obtain⟨m,hn,hl⟩:=I.loc;obtain⟨u,ru,lk⟩:=hl j x v hN hv hvis
  refine⟨u,ru,.inr ⟨?_,?_⟩⟩
  .exact sW (env:=X.env) hfr
  .rcases lk with ⟨z,_⟩|⟨_,c,hc,hcell⟩
   .rcases hk with q|q
    .rw [z] at q;cases q
    .rw [z] at q;cases q
   .refine⟨c,?_,hcell.keeps hk4⟩;show (cellsFrom (s.heap.objs.size+1) scope.names (jc X.env scope.names [])).lookup x=some c;rw [fO scope.names _ _ (ok.free _ (mem_of_lookup hfr) rfl).2];obtain⟨d,hd⟩:=Option.isSome_iff_exists.mp (jd (env:=X.env) scope.names [] (.inl (mem_of_lookup hfr)));rw [hd,<- hclo x d hd,hc]
 .rcases cases x c e with ⟨z,_⟩|z
  .exact⟨none,z⟩
  .obtain⟨v,q⟩:=I.cell x c z;exact⟨v,q.keeps hk4⟩
 .rcases cases x c e with ⟨_,z⟩|z
  .exact I.hok.fresh (le_of_succ_le z)
  .exact I.freeC x c z
 .have hp':p∈X.pn++pins:=by simpa [dk] using hp
  obtain⟨q1,q2,q3,q4,q5⟩:=I.pin p hp';refine⟨hk4 _ _ q1,q2,ne_of_lt (Heap.lt_size q1),fun z=>?_,q5⟩
  rcases mem_cons.mp (I.stkSub p.1 z) with q|q
  .exact q3 q
  .exact q4 q
 .unfold vS;rw [length_map];exact ok.len.symm
end
section
variable {M:Model}{A:Around}{E:Value->Shared->Prop}{s:Shared}
theorem iN{scope:Scope}{globals:Addr}{cl:List (Str×Addr)}{qual:Str}{func:Option Addr}{code:Value}{env:Env}{Q:Env->Shared->Prop}
  (hQ:Q { scope:=scope,locals:=s.heap.objs.size,globals:=globals,cells:=cellsFrom (s.heap.objs.size+1) scope.names cl,qual:=qual,func:=func,code:=env.code,frame:=env.frame,builtins:=env.builtins }
   { s with heap:=pushCells (s.heap.push { cls:=.type "dict",data:=.dict #[] }) scope.names }) :
  wpAny M A (newFunctionEnv scope globals cl [] qual func code (some env)) Q E s:=by
 simp only [newFunctionEnv,Option.isSome_some,if_true];refine wpAny_bind (wpAny_alloc ?_);refine wpAny_bind (wpAny_layCells _ (fun name kind cells=>by cases hkc:kind == NameKind.cell <;> simp [hkc]) _ _ _ _ ?_);rw [show ({ s with heap:=s.heap.push { cls:=.type "dict",data:=.dict #[] } }:Shared).heap.objs.size=s.heap.objs.size+1 from Heap.size_push ..];simp only [forIn_nil];exact wpAny_bind (wpAny_pure (wpAny_pure hQ))
end
section
variable {prog:Program}{w:World}{A:Around}{R:Result->Shared->Prop}{s:Shared}
theorem p6{elt target iter:Expr}{ifs:List Expr}{scope:Scope}{pos:Pos}{it acc:Value}{env:Env}(I:Nat->Shared->Prop)
  (turn:∀n s,I n s->wpAny (model prog w) A (pyNext it) (fun r s₁=>match r with
   | none=>R (.ok .next) s₁
   | some v=>wpAny (model prog w) A (letOwnedTupleGo target it v) (fun _ s₂=>wpAny (model prog w) A (assign target env v) (fun _ s₃ =>
     wpAny (model prog w) A (forIn ifs true fun c r=>if r=true then do let ok <- isTrue c env (eval c env);pure (ForInStep.yield ok) else pure (ForInStep.yield r)) (fun ok s₄ =>
      if ok=true then wpAny (model prog w) A (eval elt env) (fun x s₅ =>
       wpAny (model prog w) A (call (.builtin "list.append") [acc,x]) (fun _ s₆=>∃m,m<n/\I m s₆) (fun _ _=>False) s₅) (fun _ _=>False) s₄
      else ∃m,m<n/\I m s₄) (fun _ _=>False) s₃) (fun _ _=>False) s₂) (fun _ _=>False) s₁) (fun _ _=>False) s)
  (n:Nat) (h:I n s) :
  codeAny (model prog w) A (.compLoop (.ListComp elt [⟨target,iter,ifs,0⟩] scope pos) 0 it acc env) R s:=by
 refine codeAny_loop rfl I (fun n s hI=>?_) n h;show wpAny _ A ((compTurn (.ListComp elt [⟨target,iter,ifs,0⟩] scope pos) 0 it acc env).onRaise (fun x=>do noteFrame x env;theTreesLotGoes x)) _ _ s;refine wpAny_noted ?_;rw [compTurn_list];refine wpAny_bind (wpAny_standAt (wpAny_bind (wpAny_mono (turn n s hI) (fun r s₁ h₁=>?_) fun _ _ h'=>h'.elim)))
 cases r with
 | none=>exact wpAny_pure h₁
 | some v =>
  refine wpAny_bind (wpAny_mono h₁ (fun _ s₂ h₂=>?_) fun _ _ h'=>h'.elim);refine wpAny_bind (wpAny_mono h₂ (fun _ s₃ h₃=>wpAny_bind (wpAny_mono h₃ (fun ok s₄ h₄=>?_) fun _ _ h'=>h'.elim)) fun _ _ h'=>h'.elim)
  cases ok with
  | false=>exact wpAny_pure ⟨rfl,h₄⟩
  | true =>
   exact wpAny_bind (wpAny_bind (wpAny_mono h₄ (fun x s₅ h₅=>wpAny_bind (wpAny_mono h₅ (fun _ s₆ h₆=>wpAny_pure (wpAny_pure ⟨rfl,h₆⟩)) fun _ _ h'=>h'.elim)) fun _ _ h'=>h'.elim))
end
def PIf(X:Cx)(ifs:List Expr)(t:TT):Prop :=
 ∀(pins:List (Addr×Obj)) (s:Shared) (σ:St) (H:Hp) (Q:Bool->Hp->Prop),Inv X pins σ H s->t σ H Q ->
  wpAny (model X.prog X.w) X.A (forIn ifs true fun c r=>if r=true then do let ok <- isTrue c X.env (eval c X.env);pure (ForInStep.yield ok) else pure (ForInStep.yield r)) (TP X pins σ Q) X.xe s
def je:TT:=fun _ H Q=>Q true H
section
variable {X:Cx}
theorem cr:PIf X [] je:=fun _ _ _ H _ I h=>wpAny_tests_nil ⟨H,I,h⟩
theorem fR{c:Expr}{t:TT}(h:PT X c t):PIf X [c] t:=fun pins s σ H Q I q=>wpAny_tests_one (h pins s σ H Q I q)
end
def og(ix:List (Option Nat))(wi:TI)(g:TG)(tts:TT)(te:TE):TE:=fun σ H Q=>wi σ H fun J H1=>∀D,H1 D=none->∃W:Nat->Nat->St->Hp->Prop,(∃m,W 0 m (vS ix σ) (upd H1 D (.lst [])))/\∀i m τ H2,W i m τ H2 ->
 (J.stop i H2/\Q (.ref D) H2)\/(J.go i H2/\∀x H3,J.yld i H2 x H3->g x τ H3 fun τ2 H4=>tts τ2 H4 fun ok H5=>if ok=true then te τ2 H5 fun v H6=>∃ys,H6 D=some (.lst ys)/\ys.length<sizeLine/\∃m',m'<m/\W (i+1) m' τ2 (upd H6 D (.lst (ys++[v])))
  else ∃m',m'<m/\W (i+1) m' τ2 H5)
section
variable {X:Cx}{tg iter elt:Expr}{ifs:List Expr}{scope:Scope}{N':List Str}{ix:List (Option Nat)}{wi:TI}{g:TG}{tts:TT}{te:TE}
theorem p7{use:Option (Value->Sem Unit)}{Qf:Value->Shared->Prop}{pos p':Pos}{pins:List (Addr×Obj)}{σ:St}{H:Hp}{s:Shared}{Q:VK}(hc:X.calm=true)(ok:vQ X.env X.N scope N' ix)(hi:PI X tg iter wi)
  (blk:∀s H fp pn,PG (dk X N' scope s H fp pn) tg g/\PIf (dk X N' scope s H fp pn) ifs tts/\PE (dk X N' scope s H fp pn) elt te)
  (hs:∀x,foldedSetIterable iter X.env x=pure x) (I:Inv X pins σ H s) (hw:og ix wi g tts te σ H Q)
  (fin:∀D C H' s',Inv X pins σ H' s'->Q (.ref D) H'->(∃m,s'.heap.Ns C m)->H' C=none->X.s₀.heap.objs.size<=C->C≠X.env.locals->(∀x c,X.env.cells.lookup x=some c->c≠C)->C∉X.fs->(∀p∈X.pn++pins,p.1≠C) ->
   compPost (model X.prog X.w) X.A X.xe use Qf (.ref D) C (.ok .next) s') :
  wpAny (model X.prog X.w) X.A (comprehension (.ListComp elt [⟨tg,iter,ifs,0⟩] scope pos) scope X.env p' (newList []) false (eval iter X.env) use) Qf X.xe s:=by
 have hclos:closureFor scope X.env=pure (jc X.env scope.names []):=kB fun y hy e=>I.ok.has y.1 (ok.free y hy e).1;refine wpAny_comprehension_free (use:=use) rfl hs hclos ok.kind ok.loc (thn (hi pins s σ H _ I hw) fun v s1 h1=>thn h1 fun itv s2 h2=>?_);obtain⟨it,fp,tn,J,H2,e,I2,T,st2,f2,hW⟩:=h2;subst e;obtain⟨W,⟨m0,w0⟩,turn⟩:=hW s2.heap.objs.size (I2.hok.fresh (Nat.le_refl _))
 have hfl:∀b∈fp,b<s2.heap.objs.size:=fun b hb=>by
  obtain⟨o,e,_⟩:=T.obj 0 _ st2 b hb;exact Heap.lt_size e
 refine wpAny_newObj_type ?_
 have I3:Inv X pins σ (upd H2 s2.heap.objs.size (.lst [])) { s2 with heap:=s2.heap.push { cls:=.type "list",dict:=none,data:=.seq ([]:List Value).toArray } } :=
  I2.laid (t':=s2.toks) (fun b o e=>Heap.get?_push_of_some _ e) (Nat.le_refl _) (show dy X.prog X.w _ _ _ (.lst []) from ⟨zero_le _,[],0,.nil,Heap.get?_push_size _ rfl⟩)
 have st3:tn 0 (s2.heap.push { cls:=.type "list",dict:=none,data:=.seq ([]:List Value).toArray }):=T.keep 0 _ _ st2 fun b _ o e=>Heap.get?_push_of_some _ e;have f3:∀b∈fp,ui X pins (upd H2 s2.heap.objs.size (.lst [])) b:=fun b hb=>⟨by rw [aM (ne_of_lt (hfl b hb))];exact (f2 b hb).1,(f2 b hb).2⟩
 have hfl3:∀b∈fp,b<(s2.heap.push { cls:=.type "list",dict:=none,data:=.seq ([]:List Value).toArray }).objs.size:=fun b hb=>by rw [Heap.size_push];exact lt_succ_of_lt (hfl b hb)
 generalize hs3:({ s2 with heap:=s2.heap.push { cls:=.type "list",dict:=none,data:=.seq ([]:List Value).toArray } }:Shared)=s3 at I3 ⊢;have eh3:s3.heap=s2.heap.push { cls:=.type "list",dict:=none,data:=.seq ([]:List Value).toArray }:=by rw [<- hs3]
 rw [<- eh3] at st3 hfl3;generalize hH3:upd H2 s2.heap.objs.size (.lst [])=H3 at I3 f3 w0;generalize hD:s2.heap.objs.size=D at *;refine iN ?_;have I4:=yc ok I3 f3 hfl3;obtain⟨hg,ht,he⟩:=blk s3 H3 fp pins;have st4:tn 0 (pushCells (s3.heap.push { cls:=.type "dict",data:=.dict #[] }) scope.names):=T.keep 0 _ _ st3 fun b _ o e=>pushCells_keeps _ _ b o (Heap.get?_push_of_some _ e)
 have stat:∀{H':Hp},(∀b∈fp,H' b=none)->∀b∈fp,ui (dk X N' scope s3 H3 fp pins) [] H' b:=fun hn b hb=>by
  refine⟨hn b hb,ne_of_lt (hfl3 b hb),I4.ok.exfs b hb,.inl hb,(I4.ok.exf b hb).2,fun p hp=>?_⟩;have hp':p∈X.pn++pins:=by simpa [dk] using hp
  exact (f2 b hb).2.2.2.2.2 p hp'
 have loop:∀(s4:Shared),Inv (dk X N' scope s3 H3 fp pins) [] (vS ix σ) H3 s4->tn 0 s4.heap ->
   codeAny (model X.prog X.w) X.A (.compLoop (.ListComp elt [⟨tg,iter,ifs,0⟩] scope pos) 0 (.ref it) (.ref D) (vP scope s3.heap.objs.size X.env)) (compPost (model X.prog X.w) X.A X.xe use Qf (.ref D) s3.heap.objs.size) s4:=by
  intro s4 I4 st4;refine p6 (fun n s'=>∃i τ H',Inv (dk X N' scope s3 H3 fp pins) [] τ H' s'/\tn i s'.heap/\(∀b∈fp,H' b=none)/\W i n τ H') ?_ m0 ⟨0,_,H3,I4,st4,fun b hb=>(f3 b hb).1,w0⟩;rintro n s5 ⟨i,τ,H5,I5,st5,fr5,w5⟩
  rcases turn i n τ H5 w5 with ⟨stop,qn⟩|⟨go,step⟩
  .refine thn (T.done (dk X N' scope s3 H3 fp pins) rfl rfl rfl hc i [] s5 τ H5 (fun _ _=>False) I5 (stat fr5) st5 stop) fun r s6 ⟨hr,I6⟩=>?_;subst hr;have I7:Inv X pins σ H5 s6:=I3.call' (ch:=fp) I6.os I6.base I6.hok I6.bare fun b hb=>⟨(f2 b hb).2.2.2.1,(f2 b hb).2.1,(f2 b hb).2.2.2.2.1,(f2 b hb).2.2.2.2.2⟩
   obtain⟨m6,hn6,_⟩:=I6.loc
   refine fin D s3.heap.objs.size H5 s6 I7 qn ⟨m6,hn6⟩ I6.free ?_ ?_ ?_ ?_ ?_
   .exact I3.sz
   .exact ne_of_gt I3.lt
   .intro x c e z;obtain⟨v,q⟩:=I3.cell x c e;have:=q.lt;rw [z] at this;exact Nat.lt_irrefl _ this
   .exact I3.nofs (Nat.le_refl _)
   .intro p hp z;have:=Heap.lt_size (I3.pin p hp).1;rw [z] at this;exact Nat.lt_irrefl _ this
  .refine thn (T.item (dk X N' scope s3 H3 fp pins) rfl rfl rfl hc i [] s5 τ H5 (fun _ _=>False) I5 (stat fr5) st5 go) fun r s6 ⟨u,hr,h6⟩=>?_;subst hr;refine thn h6 fun _ s7 ⟨x,H7,I7,r7,y7,st7,fr7⟩=>?_;have I7':=I7.pinned (stat fr7) (T.obj _ _ st7)
   have again:∀{s8:Shared}{τ8:St}{H8:Hp},Inv (dk X N' scope s3 H3 fp pins) ([]++pL fp s7.heap) τ8 H8 s8->(∃m',m'<n/\W (i+1) m' τ8 H8) ->
     ∃m,m<n/\∃i τ H',Inv (dk X N' scope s3 H3 fp pins) [] τ H' s8/\tn i s8.heap/\(∀b∈fp,H' b=none)/\W i m τ H':=fun {s8 τ8 H8} I8 ⟨m',hm,w8⟩=>by
    refine⟨m',hm,i+1,τ8,H8,I8.unpinned,T.keep _ _ _ st7 fun b hb o e=>(I8.pin (b,o) (mem_append_right _ (mem_append_right _ (ie hb e)))).1,fun b hb=>?_,w8⟩;obtain⟨o,e,d⟩:=T.obj _ _ st7 b hb;exact (I8.pin (b,o) (mem_append_right _ (mem_append_right _ (ie hb e)))).2.1
   refine thn (hg _ s7 τ H7 x u _ I7' r7 (step x H7 y7)) fun _ s8 ⟨τ8,H8,I8,q8⟩=>?_;refine thn (ht _ s8 τ8 H8 _ I8 q8) fun okb s9 ⟨H9,I9,q9⟩=>?_
   cases okb with
   | false =>
    rw [if_neg Bool.false_ne_true] at q9;rw [if_neg Bool.false_ne_true];exact again I9 q9
   | true =>
    rw [if_pos rfl] at q9;rw [if_pos rfl];refine thn (he _ s9 τ8 H9 _ I9 q9) fun v10 s10 ⟨x10,H10,I10,r10,q10⟩=>?_;obtain⟨ys,hD10,hz,m',hm,w10⟩:=q10;refine thn (dI (X:=dk X N' scope s3 H3 fp pins) _ s10 τ8 H10 (.ref D) [x10] (.ref D) [v10] (fun _ H'=>∃m',m'<n/\W (i+1) m' τ8 H') I10 rfl (.cons r10 .nil) ⟨D,ys,x10,rfl,rfl,hD10,hz,m',hm,w10⟩) fun _ s11 ⟨_,H11,I11,_,q11⟩=>?_;exact again I11 q11
 exact codeAny_compStart_list (loop _ I4 st4) (T.self X.A 0 _ _ _ st4 (loop _ I4 st4))
theorem bO{pos:Pos}(N':List Str)(ix:List (Option Nat))(hc:X.calm=true)(hi:PI X tg iter wi)
  (blk:∀s H fp pn,PG (dk X N' scope s H fp pn) tg g/\PIf (dk X N' scope s H fp pn) ifs tts/\PE (dk X N' scope s H fp pn) elt te)
  (chk:n9 X.env.scope X.N scope N' ix=true) (hs:∀x,foldedSetIterable iter X.env x=pure x:=by intro _;rfl) :
  PE X (.ListComp elt [⟨tg,iter,ifs,0⟩] scope pos) (og ix wi g tts te):=by
 intro pins s σ H Q I hw;rw [eval_ListComp];refine p7 (use:=none) hc (pZ chk) hi blk hs I hw fun D C H' s' I' q hm hn h1 h2 h3 h4 h5=>?_;obtain⟨m,hm⟩:=hm;refine⟨m,hm,fun h' sb=>⟨.ref D,H',?_,rfl,q⟩⟩;exact I'.turned (t':=s'.toks) (fun b o hb e=>(sb.2 b hb).trans e) hn h2 (.inr h1) h3 h5
end
section
variable {X:Cx}{tg iter elt:Expr}{ifs:List Expr}{scope:Scope}{N':List Str}{ix:List (Option Nat)}{wi:TI}{g:TG}{tts:TT}{te:TE}
theorem iO{i:Nat}{x:Str}{pos pos' cpos:Pos}(N':List Str)(ix:List (Option Nat))(hN:X.N.Nodup)(hi:X.N[i]?=some x)(hx:Loc X.env.scope x)(hc:X.calm=true)(hit:PI X tg iter wi)
  (blk:∀s H fp pn,PG (dk X N' scope s H fp pn) tg g/\PIf (dk X N' scope s H fp pn) ifs tts/\PE (dk X N' scope s H fp pn) elt te)
  (chk:n9 X.env.scope X.N scope N' ix=true) (hsw:swapsWith (.ListComp elt [⟨tg,iter,ifs,0⟩] scope cpos) (some (.Name x pos')) pos.line X.env=pure true:=by rfl)
  (hs:∀x,foldedSetIterable iter X.env x=pure x:=by intro _;rfl) (hf:X.fn x=true\/X.env.scope.names.lookup x=some .local:=by first|exact .inl rfl|exact .inr rfl|assumption) :
  PS X (.Assign [.Name x pos'] (.ListComp elt [⟨tg,iter,ifs,0⟩] scope cpos) pos) (B7 (og ix wi g tts te) (cm i)):=by
 intro pins s σ H D I hw;rw [exec_Assign_Name_used _ _ _ _ hsw];refine wpAny_bind (wpAny_standAt (wpAny_bind ?_));show wpAny _ X.A (do let _ <- comprehension (.ListComp elt [⟨tg,iter,ifs,0⟩] scope cpos) scope X.env _ (newList []) false (eval iter X.env) (some (assign (.Name x pos') X.env))) _ _ s;refine wpAny_bind (thn (p7 (use:=some (assign (.Name x pos') X.env)) (Qf:=fun _ s'=>SP X pins D .next s') hc (pZ chk) hit blk hs I hw fun D' C H' s' I' q hm hn h1 h2 h3 h4 h5=>?_) fun _ s' q=>wpAny_pure (wpAny_pure q))
 obtain⟨m,oC,es,ep,hoC,hdC,hrC⟩:=hm
 have Ip:Inv X (pins++[(C,oC)]) σ H' s':=I'.pins_of fun p hp=>(mem_append.mp hp).elim (fun z=>I'.pin p (mem_append_right _ z)) fun z=>by
  have e:p=(C,oC):=by simpa using z
  subst e;exact⟨hoC,hn,h2,h4,fun v z=>by rw [hdC] at z;cases z⟩
 refine wpAny_assign_Name (nR (v:=.ref D') Ip hN hi hx rfl (fun s2 I2=>?_) hf);have hC2:s2.heap.get? C=some oC:=(I2.pin (C,oC) (by simp)).1;have I2':Inv X pins (σ.set i (some (.ref D'))) H' s2:=I2.pins_of fun p hp=>I2.pin p (mem_append_right _ (mem_append_left _ hp));refine⟨m,⟨oC,es,ep,hC2,hdC,hrC⟩,fun h' sb=>⟨_,H',?_,q⟩⟩;exact I2'.turned (t':=s2.toks) (fun b o hb e=>(sb.2 b hb).trans e) hn h2 (.inr h1) h3 h5
end
def zC(p:Addr)(a b c:Int):HO:=.ext fun h=>∃t u v,IsRange h p a b c t u v
def rF(a c:Int)(n:Nat):List V:=(List.range n).map fun (k:Nat)=>V.int (a+k*c)
theorem uE{a c:Int}{n:Nat}{acc:Array Value}(h:ItemsOf (fun i v=>∃t,v=.int (a+i*c) t) acc n):bY (rF a c n) acc.toList:=by
 obtain⟨hn,hi⟩:=h
 have key:∀(m:Nat) (us:List Value) (f:Nat->Int),us.length=m->(∀i u,us[i]?=some u->∃t,u=Value.int (f i) t)->bY ((List.range m).map fun k=>V.int (f k)) us:=by
  intro m
  induction m with
  | zero=>intro us f hl _;rw [length_eq_zero_iff] at hl;subst hl;exact .nil
  | succ m ih =>
   intro us f hl hu
   cases us with
   | nil=>simp at hl
   | cons u r =>
    rw [range_succ_eq_map,map_cons,map_map];refine .cons (hu 0 u rfl) (ih r (fun k=>f (k+1)) (by simpa using hl) fun i v e=>hu (i+1) v (by simpa using e))
 refine key n acc.toList (fun k=>a+k*c) (by simpa using hn) fun i u e=>?_;exact hi i u (by simpa using e)
theorem vT(a c:Int)(n:Nat):(rF a c n).length=n:=by simp [rF]
section
variable {X:Cx}
theorem yd{pins:List (Addr×Obj)}{σ:St}{H:Hp}{s:Shared}{a b c:Int}{t u v:Tok}{tk:Nat}(I:Inv X pins σ H s) :
  Inv X pins σ (upd H s.heap.objs.size (zC s.heap.objs.size a b c)) { s with heap:=s.heap.push { cls:=.type "range",data:=.fields #[.int a t,.int b u,.int c v] },toks:=tk }:=by
 refine I.laid (fun b o e=>Heap.get?_push_of_some _ e) (Nat.le_refl _) ⟨⟨t,u,v,IsRange.new ..⟩,⟨_,Heap.get?_push_size _ rfl⟩,fun h1 h2 ⟨t,u,v,z⟩ k=>⟨t,u,v,k _ z⟩⟩
theorem p8{a:Expr}{ta:TA}{p pos:Pos}(hg:Gl X "range")(hm:X.mg "range"=none)(ha:PA X [a] ta)(hs:starEach [a] X.env=[(false,eval a X.env)]:=by rfl) :
  PE X (.Call (.Name "range" p) [a] [] pos) (fun σ H Q=>ta σ H fun vs H1=>∃j:Int,vs=[.int j]/\∀p,H1 p=none->Q (.ref p) (upd H1 p (zC p 0 j 1))):=by
 intro pins s σ H Q I h;refine Call_ (iw I hg hm boot_range (PyProof.Rows.callWith_type1 (thn (ha pos pins s σ H _ I h) fun us s1 ⟨vs,H1,I1,r1,q1⟩=>?_) hs rfl));obtain⟨j,e,q⟩:=q1;subst e
 cases r1 with
 | cons r rr =>
  cases rr;obtain⟨t,rfl⟩:=r;exact call_range_1 ⟨.ref s1.heap.objs.size,_,yd I1,rfl,q _ (I1.hok.fresh (Nat.le_refl _))⟩
def EU(K:PySem.W.Frag)(mk:List V->HO):List V->Hp->VK->Prop:=fun xs H Q=>∃p a b c n,xs=[.ref p]/\H p=some (zC p a b c)/\Builtin.Range.small a b c=true/\Builtin.Range.rangeSize a b c=((n:Nat):Int)/\n<=1000000/\∀l,H l=none->Q (.ref l) (upd H l (mk (rF a c n)))
theorem uF(hc:X.calm=true):cN X (.type "list") (EU X.K .lst):=by
 intro pins s σ H xs us Q I r h;obtain⟨p,a,b,c,n,rfl,hp,hsm,hsz,hn,q⟩:=h;obtain⟨u,rfl,rx⟩:=iq r;cases rx;obtain⟨⟨t,u,v,hr⟩,_,_⟩:=(show dy X.prog X.w H s.heap p (zC p a b c) from I.hok p _ hp)
 have hs:sizeLine=16777216:=sizeLine_eq;refine call_list_range (I.ok.hd hc) hr hsm hsz (by omega) fun h' tk acc c' hk e hacc=>?_;exact⟨.ref s.heap.objs.size,_,I.laid (t':=tk) hk (Nat.le_refl _) (show dy X.prog X.w _ h' _ (.lst (rF a c n)) from ⟨by rw [vT];omega,acc.toList,c',uE hacc,by simpa using e⟩),rfl,q _ (I.hok.fresh (Nat.le_refl _))⟩
theorem jf{α β:Type}{g:α->Option β}{h:α->β}:∀{xs:List α},(∀x∈xs,g x=some (h x))->xs.filterMap g=xs.map h
 | [],_=>rfl
 | x::r,hx=>by rw [filterMap_cons,hx x mem_cons_self,map_cons,jf fun y hy=>hx y (mem_cons_of_mem _ hy)]
theorem EV(l:List Nat)(u:Tok):Txt.sliceBy (S l) none none (-1,u)=S l.reverse:=by
 have e1:((slicePicked (S l) none none (some (-1,u))).filterMap ((S l).cps[·]?))=l.reverse:=by
  unfold slicePicked Builtin.Str.strSliceIndices sliceRange;simp only [Option.map_some,Option.getD_some,Option.map_none,show ¬ ((-1:Int) > 0) by decide,if_false];rw [fC]
  have ec:(if ((l.length:Int) - 1 > -1) then ((l.length:Int) - 1 - -1 - -1 - 1) / (- -1) else 0).toNat=l.length:=by
   have:(- -1:Int)=1:=by decide
   rw [this,ediv_one];split <;> omega
  rw [ec]
  have e:((List.range l.length).map fun (k:Nat)=>((l.length:Int) - 1+-1*(k:Int)).toNat)=(List.range l.length).map fun k=>l.length - 1 - k:=by
   apply map_congr_left;intro k _;omega
  rw [e];have e2:(fun i:Nat=>(S l).cps[i]?)=fun i:Nat=>l[i]?:=by funext i;simp [S]
  rw [e2];apply ext_getElem?;intro i;rw [filterMap_map]
  have hall:∀x∈List.range l.length,((fun i:Nat=>l[i]?) ∘ fun k=>l.length - 1 - k) x=some (fn l (l.length - 1 - x)):=fun x hx=>by
   have hx':x<l.length:=mem_range.mp hx;have hx2:l.length - 1 - x<l.length:=by omega
   exact zB hx2
  rw [jf hall]
  by_cases hi:i<l.length
  .rw [getElem?_map,getElem?_range hi,getElem?_reverse hi,zB (by omega)];rfl
  .rw [getElem?_eq_none (by simp;omega),getElem?_eq_none (by simp;omega)]
 unfold Txt.sliceBy;rw [if_neg (by simp),e1];rfl
end
theorem vU:typeLookup (.type "list_reverseiterator") "__len__"=pure none:=by rw [typeLookup_type,builtinLookup_eq_fast];kernel_rfl
theorem ye:typeLookup (.type "list_reverseiterator") "__length_hint__"=pure (some (.builtin "list_reverseiterator.__length_hint__")):=by rw [typeLookup_type,builtinLookup_eq_fast];kernel_rfl
section
variable {prog:Program}{w:World}{A:Around}{E:Value->Shared->Prop}{s:Shared}{I l:Addr}{items:Array Value}
theorem yf{Q:Bool->Shared->Prop}{i:Int}(hit:s.heap.IsRevIter I l i)(h:Q false s):wpAny (model prog w) A (Builtin.List.listLengthHint (.ref I)) Q E s:=by
 unfold Builtin.List.listLengthHint;refine wpAny_bind (wpAny_specialOf hit.typeIs vU ?_);show wpAny _ A (specialOf (Value.ref I) (Str.ofString "__length_hint__") >>= _) _ _ _;refine wpAny_bind (wpAny_specialOf hit.typeIs ye ?_)
 (generalize hid:("list_reverseiterator.__length_hint__":String)=id0;(fail_if_success (clear hid id0));wp_delta;rw [show splitId id0=some ("list_reverseiterator","__length_hint__") from by subst hid;decide +kernel];subst hid)
 refine wpAny_bind (wpAny_isInstance (b:=true) hit.typeIs (by rw [isSubtype_type];kernel_rfl) ?_);exact wpAny_pure h
theorem uG{R:Result->Shared->Prop}(hh:A.handled=none)(hit:s.heap.IsRevIter I l ((items.size:Int) - 1))(hl:s.heap.IsList l items)(hlI:l≠I)(hsz:items.size<=sizeLine)(Sx:Addr)(res:Value)(c₀:Nat)
  (hS:s.heap.get? Sx=some { cls:=.type "list",data:=.seq #[] c₀ }) (hSI:Sx≠I) (hSl:Sx≠l)
  (hR:∀h' tk acc' c',(∀b o,b≠Sx->b≠I->s.heap.get? b=some o->h'.get? b=some o)->h'.get? Sx=some { cls:=.type "list",dict:=none,data:=.seq acc' c',slots:=#[] } ->
   ItemsOf (fun i v=>items[items.size - 1 - i]?=some v) acc' items.size->R (.ok (.ret res)) { s with heap:=h',toks:=tk }) :
  wpAny (model prog w) A.in1 (Builtin.List.listExtendWith (.ref Sx) (.ref I) res)
   (fun fin s'=>match fin with|.done f=>R (.ok f) s'|.again c'=>c'.quiet=true/\codeAny (model prog w) A c' R s') (fun e s'=>R (.error e) s') s:=by
 have hSf:Sx∉[I,l]:=fun hm=>by
  rcases mem_cons.mp hm with e|e
  .exact hSI e
  .exact hSl (mem_singleton.mp e)
 have W:=(Walks.listRev (prog:=prog) (w:=w) (A:=A.in1) hh I l hlI items).toS;unfold Builtin.List.listExtendWith;refine wpAny_bind (wpAny_typeOf (T:="list_reverseiterator") hit.typeIs ?_);have h1:Builtin.List.listSameRef (.ref Sx) (.ref I)=false:=by simp [Builtin.List.listSameRef,hSI]
 have h2:(Value.type "list_reverseiterator" == Value.type "list")=false:=by decide
 have h3:(Value.type "list_reverseiterator" == Value.type "tuple")=false:=by decide
 simp only [h1,h2,h3,Bool.or_false,false_eq_true,if_false];refine wpAny_bind (wpAny_pyIter_revIter hit ?_);refine wpAny_bind (wpAny_holding (yf hit ?_));refine wpAny_ite_split (fun hab=>absurd hab (by decide)) (fun _=>?_);refine wpAny_pure ⟨plainId_quiet F.plain_extend_loop _,codeAny_extend_loopS W hsz Sx hSf res items.size 0 _ #[] c₀ rfl (zero_le _) ⟨zero_le _,by simpa using hit,hl⟩ hS (ItemsOf.nil _) fun s' acc' c' hm hS' hacc=>?_⟩
 rw [Moved.eq_with hm];refine hR s'.heap s'.toks acc' c' (fun b o hb hbI e=>hm.heap b o (fun hmem=>?_) e) hS' hacc
 rcases mem_cons.mp hmem with e'|hmem
 .exact hb e'
 .exact hbI (mem_singleton.mp hmem)
theorem oh{R:Result->Shared->Prop}(hh:A.handled=none)(hit:s.heap.IsRevIter I l ((items.size:Int) - 1))(hl:s.heap.IsList l items)(hlI:l≠I)(hsz:items.size<=sizeLine)(Sx:Addr)
  (hS:s.heap.get? Sx=some { cls:=.type "list",data:=.seq #[] }) (hSI:Sx≠I) (hSl:Sx≠l)
  (hR:∀h' tk acc' c',(∀b o,b≠Sx->b≠I->s.heap.get? b=some o->h'.get? b=some o)->h'.get? Sx=some { cls:=.type "list",dict:=none,data:=.seq acc' c',slots:=#[] } ->
   ItemsOf (fun i v=>items[items.size - 1 - i]?=some v) acc' items.size->R (.ok (.ret .none)) { s with heap:=h',toks:=tk }) :
  wpAny (model prog w) A.in1 (Builtin.«list.__init__» ⟨[.ref Sx,.ref I],[]⟩)
   (fun fin s'=>match fin with|.done f=>R (.ok f) s'|.again c'=>c'.quiet=true/\codeAny (model prog w) A c' R s') (fun e s'=>R (.error e) s') s:=by
 show wpAny _ _ (do let old <- Builtin.List.listItems (.ref Sx);Builtin.List.listUpdate (.ref Sx) (fun _=>#[]);letGo old.toList.reverse;Builtin.List.listExtendWith (.ref Sx) (.ref I) .none) _ _ s;refine wpAny_bind ?_;unfold Builtin.List.listItems;refine wpAny_bind (wpAny_seqItems hS rfl (wpAny_pure ?_));show wpAny _ _ (updateSeq Sx (fun _=>#[]) >>= fun _=>letGo (#[]:Array Value).toList.reverse >>= fun _=>Builtin.List.listExtendWith (.ref Sx) (.ref I) .none) _ _ s
 refine wpAny_bind (wpAny_updateSeq hS rfl ?_);have hS₂:=Heap.get?_update_self (Obj.mapSeq (fun _=>(#[]:Array Value))) hS rfl
 have oth:∀b o,b≠Sx->s.heap.get? b=some o->(s.heap.update Sx (Obj.mapSeq (fun _=>(#[]:Array Value)))).get? b=some o :=
  fun b o hb e=>(Heap.get?_update_other _ _ (Ne.symm hb)).trans e
 refine wpAny_bind (wpAny_letGo ?_);refine uG hh (hit.at fun o e=>oth I o (Ne.symm hSI) e) (hl.at fun o e=>oth l o (Ne.symm hSl) e) hlI hsz Sx .none _ hS₂ hSI hSl fun h' tk acc' c' hk hS' hacc=>?_;exact hR h' tk acc' c' (fun b o hb hbI e=>hk b o hb hbI (oth b o hb e)) hS' hacc
theorem oi{Q:Value->Shared->Prop}(hh:A.handled=none)(hit:s.heap.IsRevIter I l ((items.size:Int) - 1))(hl:s.heap.IsList l items)(hlI:l≠I)(hsz:items.size<=sizeLine)
  (hQ:∀h' tk acc' c',(∀b o,b≠I->s.heap.get? b=some o->h'.get? b=some o) ->
   h'.get? s.heap.objs.size=some { cls:=.type "list",dict:=none,data:=.seq acc' c',slots:=#[] }->ItemsOf (fun i v=>items[items.size - 1 - i]?=some v) acc' items.size->Q (.ref s.heap.objs.size) { s with heap:=h',toks:=tk }) :
  wpAny (model prog w) A (call (.type "list") [.ref I]) Q E s:=by
 refine callType_codes (Q₁:=fun obj s₁=>obj=.ref s.heap.objs.size/\s₁={ s with heap:=s.heap.push { cls:=.type "list",data:=.seq #[] } }) F.called_list (F.typeCall_list_1 _) F.entry_list_init
  (code_list_new _ ⟨rfl,rfl⟩) fun obj s₁ h₁=>?_
 obtain⟨rfl,rfl⟩:=h₁;have hS:(s.heap.push { cls:=.type "list",data:=.seq #[] }).get? s.heap.objs.size=some { cls:=.type "list",data:=.seq #[] }:=Heap.get?_push_size _ rfl
 have hSI:s.heap.objs.size≠I:=by
  obtain⟨o,ho,_⟩:=hit;exact ne_of_gt (Heap.lt_size ho)
 have hSl:s.heap.objs.size≠l:=by
  obtain⟨o,ho,_⟩:=hl;exact ne_of_gt (Heap.lt_size ho)
 refine⟨⟨_,hS,rfl⟩,F.args_list_init_2 _ _,oh (A:=A.in1) hh (hit.at fun o e=>Heap.get?_push_of_some _ e) (hl.push _) hlI hsz _ hS hSI hSl fun h' tk acc' c' hk hS' hacc=>?_⟩;exact⟨rfl,hQ h' tk acc' c' (fun b o hb e=>hk b o (ne_of_lt (Heap.lt_size e)) hb (Heap.get?_push_of_some _ e)) hS' hacc⟩
end
theorem yg{xs:List V}{its:List Value}(r:bY xs its){acc:Array Value}(h:ItemsOf (fun i v=>its.toArray[its.toArray.size - 1 - i]?=some v) acc its.toArray.size):bY xs.reverse acc.toList:=by
 have e:acc.toList=its.reverse:=by
  obtain⟨hn,hi⟩:=h;apply ext_getElem?;intro i
  by_cases hil:i<its.length
  .have hia:i<acc.size:=by rw [hn];simpa using hil
   have:=hi i acc[i] (by simp);rw [getElem?_reverse hil];have e1:acc.toList[i]?=some acc[i]:=by simp
   rw [e1,<- this];simp
  .have hna:acc.toList.length=its.length:=by simpa using hn
   rw [getElem?_eq_none (by omega),getElem?_eq_none (by rw [length_reverse];omega)]
 rw [e];exact r.reverse
section
variable {X:Cx}{e:Expr}{te:TE}{p p1 p2 pos:Pos}
theorem uH(hc:X.calm=true)(he:PE X e te)(hg1:Gl X "list")(hm1:X.mg "list"=none)(hg2:Gl X "reversed")(hm2:X.mg "reversed"=none)
  (hs:starEach [.Call (.Name "reversed" p1) [e] [] p2] X.env=[(false,eval (.Call (.Name "reversed" p1) [e] [] p2) X.env)]:=by rfl) (hs2:starEach [e] X.env=[(false,eval e X.env)]:=by rfl) :
  PE X (.Call (.Name "list" p) [.Call (.Name "reversed" p1) [e] [] p2] [] pos) (fun σ H Q=>te σ H fun x H1=>∃a xs,x=.ref a/\SqL X.K H1 a xs/\∀l,H1 l=none->Q (.ref l) (upd H1 l (.lst xs.reverse))):=by
 intro pins s σ H Q I h;refine Call_ (iw I hg1 hm1 boot_list (PyProof.Rows.callWith_type1 ?_ hs rfl));rw [hs];show wpAny _ _ (spliced ((false,eval (.Call (.Name "reversed" p1) [e] [] p2) X.env)::backTo pos [])) _ _ s;refine Calls.spliced_cons ?_;refine Call_ (iw I hg2 hm2 boot_reversed (PyProof.Rows.callWith_type1 ?_ hs2 rfl));rw [hs2];show wpAny _ _ (spliced ((false,eval e X.env)::backTo p2 [])) _ _ s
 refine Calls.spliced_cons (thn (he pins s σ H _ I h) fun u s1 ⟨x,H1,I1,r1,q1⟩=>Calls.spliced_nil ?_);obtain⟨a,xs,rfl,hS,q⟩:=q1;cases r1;obtain⟨its,rv,pl,hz⟩:=I1.list hS;have hlen:=rv.length;refine call_reversed_list pl.isList ?_;refine Calls.spliced_nil ?_
 have hal:a<s1.heap.objs.size:=by
  obtain⟨o,ho,_⟩:=pl.isList;exact Heap.lt_size ho
 have I2:Inv X pins σ H1 { s1 with heap:=s1.heap.push (revObj a ((its.toArray.size:Int) - 1)) }:=I1.kept (t':=s1.toks) fun b o e=>Heap.get?_push_of_some _ e;refine oi (I1.ok.hd hc) (I:=s1.heap.objs.size) (l:=a) (items:=its.toArray) ⟨_,Heap.get?_push_size _ rfl,rfl,rfl⟩ (pl.isList.push _) (ne_of_lt hal) (by rw [size_toArray];omega) fun h' tk acc' c' hk eL hacc=>?_;have hfI:=I1.fpOk (H':=H1) (Nat.le_refl s1.heap.objs.size) (I1.hok.fresh (Nat.le_refl _))
 obtain⟨f0,f1,f2,f3,f4,f5⟩:=hfI;have hLn:H1 (s1.heap.push (revObj a ((its.toArray.size:Int) - 1))).objs.size=none:=I2.hok.fresh (Nat.le_refl _);have hLlt:∀b o,(s1.heap.push (revObj a ((its.toArray.size:Int) - 1))).get? b=some o->b≠(s1.heap.push (revObj a ((its.toArray.size:Int) - 1))).objs.size:=fun b o e=>ne_of_lt (Heap.lt_size e);have nit:∀b u,H1 b=some u->b≠s1.heap.objs.size:=fun b u e z=>by rw [z,f0] at e;cases e
 have neL:∀b u,H1 b=some u->b≠(s1.heap.push (revObj a ((its.toArray.size:Int) - 1))).objs.size:=fun b u e z=>by rw [z,hLn] at e;cases e
 have hokT:HOk X.prog X.w H1 h':=fun b u e=>by
  refine (I2.hok b u e).stay (fun c v hc q=>hk c v ?_ q) (fun _ q=>q) fun _ _ q=>q
  rcases hc with z|z
  .rw [z];exact nit b u e
  .exact nit c _ z
 refine⟨.ref _,upd H1 (s1.heap.push (revObj a ((its.toArray.size:Int) - 1))).objs.size (.lst xs.reverse),?_,rfl,q _ hLn⟩
 refine I2.step (g':=s1.gens) (d':=s1.drawn) (t':=tk) (ch:=[s1.heap.objs.size]) (fun b hb=>?_) (fun b o _ _ hc e _=>hk b o (fun z=>hc (by simp [z])) e) (fun b o _ _ hc e _=>⟨o.slots,hk b o (fun z=>hc (by simp [z])) e⟩)
  (fun b o _ e n=>by rw [aM (hLlt b o e)];exact n) (fun b o hc e=>⟨o,hk b o (fun z=>hc (by simp [z])) e⟩) (fun b ys e=>by rw [aM (neL b _ e)];exact e) (fun b o u e=>by rw [aM (neL b _ e)];exact e)
  (fun b ps e=>⟨#[],by rw [aM (neL b _ e),e];simp⟩) (fun m hm=>?_) ?_ I2.bare
 .have e:b=s1.heap.objs.size:=by simpa using hb
  subst e;exact⟨f3,f1,f4,f5⟩
 .obtain⟨o,es,ep,ho,r⟩:=hm;exact⟨o,es,ep,hk _ o (Ne.symm f1) ho,r⟩
 .intro b u e
  by_cases hb:b=(s1.heap.push (revObj a ((its.toArray.size:Int) - 1))).objs.size
  .subst hb;rw [bv] at e;cases e;exact⟨by rw [length_reverse];exact hz,acc'.toList,c',yg rv hacc,by simpa using eL⟩
  .rw [aM hb] at e
   refine (hokT b u e).stay (fun c v _ q=>q) (fun c q=>?_) fun c ys q=>?_
   .rw [aM (neL c _ q)];exact q
   .rw [aM (neL c _ q)];exact q
end
def fq(k:Bool)(h:Heap)(a:Addr)(its:Array Value):Prop:=∃o,h.get? a=some o/\o.cls=.type (cond k "tuple" "list")/\∃n,o.data=.seq its n
def dn(k:Bool)(h:Heap)(it a:Addr)(i:Nat):Prop:=∃o,h.get? it=some o/\o.cls=.type (cond k "tuple_iterator" "list_iterator")/\o.data=.fields #[.ref a,.int i 0]
theorem fq.mv{k:Bool}{h h':Heap}{a:Addr}{its:Array Value}(r:fq k h a its)(f:∀o,h.get? a=some o->h'.get? a=some o):fq k h' a its:=let ⟨o,e,q⟩:=r;⟨o,f o e,q⟩
theorem dn.mv{k:Bool}{h h':Heap}{it a:Addr}{i:Nat}(r:dn k h it a i)(f:∀o,h.get? it=some o->h'.get? it=some o):dn k h' it a i:=let ⟨o,e,q⟩:=r;⟨o,f o e,q⟩
section
variable {P:Program}{w:World}{A:Around}{E:Value->Shared->Prop}{s:Shared}{k:Bool}{it a:Addr}{i:Nat}{its:Array Value}
theorem qa{x:Value}{Q:Value->Shared->Prop}(W:s.heap.IsTupleIter it a i)(R:s.heap.IsTuple a its)(hx:its[i]?=some x)
  (hQ:∀h',h'.IsTupleIter it a (i+1)->Heap.SameBut it s.heap h'->Q x { s with heap:=h' }):wpAny (model P w) A (Builtin.SmallTypes.nextOf (.ref it)) Q E s:=by
 have hT:=W.typeIs;obtain⟨o,ho,c,d⟩:=W;obtain⟨ol,hol,_,nl,dl⟩:=R;unfold Builtin.SmallTypes.nextOf;refine wpAny_bind (wpAny_callSpecial?_slot (name:=Str.ofString "__next__") hT F.slot_tuple_iterator_next (wpAny_call_entry F.slot_tuple_iterator_next hT F.entry_tuple_iterator_next ?_ (F.args_tuple_iterator_next_1 _)));refine wpAny_bind (m:=field (.ref it) 0) (wpAny_field ho d (x:=.ref a) rfl ?_);have nn:¬ ((Value.ref a == Value.none)=true):=Bool.false_ne_true
 show wpAny _ _ (if (Value.ref a == Value.none)=true then _ else _) _ _ s;rw [if_neg nn];refine wpAny_bind (m:=field (.ref it) 1) (wpAny_field ho d (x:=.int i 0) rfl ?_);refine wpAny_bind (m:=seqItems? (.ref a)) (wpAny_seqItems hol dl ?_);simp only [toNat_natCast,hx];exact wpAny_bind (wpAny_setField ho d (by simp) (wpAny_pure ⟨x,rfl,wpAny_pure (hQ _ ⟨_,Heap.get?_update_self _ ho (Obj.isFreed_of_fields (Obj.data_mapFields d _)),(Obj.cls_mapFields ..).trans c,by rw [Obj.data_mapFields d];simp [rawInt]⟩ (Heap.SameBut.update ..))⟩))
theorem rG{Q:Value->Shared->Prop}(hh:A.handled=none)(W:s.heap.IsTupleIter it a i)(R:s.heap.IsTuple a its)(hx:its[i]?=none)
  (hE:∀h' e,Heap.ExtBut it s.heap h'->(∃o,h'.get? e=some o/\o.cls=.type "StopIteration")->E (.ref e) { s with heap:=h' }):wpAny (model P w) A (Builtin.SmallTypes.nextOf (.ref it)) Q E s:=by
 have hT:=W.typeIs;obtain⟨o,ho,c,d⟩:=W;obtain⟨ol,hol,_,nl,dl⟩:=R;unfold Builtin.SmallTypes.nextOf;refine wpAny_bind (wpAny_callSpecial?_slot (name:=Str.ofString "__next__") hT F.slot_tuple_iterator_next (wpAny_call_entry F.slot_tuple_iterator_next hT F.entry_tuple_iterator_next ?_ (F.args_tuple_iterator_next_1 _)));refine wpAny_bind (m:=field (.ref it) 0) (wpAny_field ho d (x:=.ref a) rfl ?_);have nn:¬ ((Value.ref a == Value.none)=true):=Bool.false_ne_true
 show wpAny _ _ (if (Value.ref a == Value.none)=true then _ else _) _ _ s;rw [if_neg nn];refine wpAny_bind (m:=field (.ref it) 1) (wpAny_field ho d (x:=.int i 0) rfl ?_);refine wpAny_bind (m:=seqItems? (.ref a)) (wpAny_seqItems hol dl ?_);simp only [toNat_natCast,hx];refine wpAny_bind (wpAny_rule (wpAny_bind (wpAny_setField ho d (by simp) (wpAny_bind (m:=newExc (.type "StopIteration") []) ?_))));simp only [newExc,newTuple]
 refine wpAny_bind (wpAny_newObj_type (wpAny_bind (m:=firstArgMember _ _) (wpAny_of_eq (a:=Value.none) (by first|rfl|(simp only [firstArgMember];rfl)) (wpAny_newObj_type ?_ (by size_fits)))) (by size_fits));simp only [raiseNew];refine wpAny_bind (wpAny_handled ?_)
 first|rw [show A.in1.handled=none from hh]|rw [hh]
 exact wpAny_bind (wpAny_pure (wpAny_throw (hE _ _ (((Heap.SameBut.update ..).extBut.push _).push _) ⟨_,Heap.get?_push_size _ rfl,rfl⟩)))
theorem eW{x:Value}{Q:Value->Shared->Prop}(W:dn k s.heap it a i)(R:fq k s.heap a its)(hx:its[i]?=some x)
  (hQ:∀h',dn k h' it a (i+1)->Heap.SameBut it s.heap h'->Q x { s with heap:=h' }):wpAny (model P w) A (Builtin.SmallTypes.nextOf (.ref it)) Q E s:=by
 cases k with
 | false=>exact wpAny_nextOf_list_item W R hx hQ
 | true=>exact qa W R hx hQ
theorem fS{Q:Value->Shared->Prop}(hh:A.handled=none)(W:dn k s.heap it a i)(R:fq k s.heap a its)(hx:its[i]?=none)
  (hE:∀h' e,Heap.ExtBut it s.heap h'->(∃o,h'.get? e=some o/\o.cls=.type "StopIteration")->E (.ref e) { s with heap:=h' }):wpAny (model P w) A (Builtin.SmallTypes.nextOf (.ref it)) Q E s:=by
 cases k with
 | false=>exact wpAny_nextOf_list_end hh W R hx hE
 | true=>exact rG hh W R hx hE
end
structure ZA (z U V i j:Addr):Prop where
 Uz:U≠z
 Vz:V≠z
 iz:i≠z
 jz:j≠z
 UV:U≠V
 Ui:U≠i
 Uj:U≠j
 Vi:V≠i
 Vj:V≠j
 ij:i≠j
section
variable {P:Program}{w:World}{A:Around}{E:Value->Shared->Prop}{s:Shared}{k l:Bool}{z U V i j a c:Addr}{n:Nat}{xs ys:Array Value}{x y u v:Value}
theorem AM{Q:Value->Shared->Prop}(D:ZA z U V i j)(az:a≠z)(cz:c≠z)(ci:c≠i)(cV:c≠V)(hz:IsZip s.heap z U V .none)(hU:IsPair s.heap U (.ref i) (.ref j))(hV:IsPair s.heap V u v)
  (W1:dn k s.heap i a n) (W2:dn l s.heap j c n) (R1:fq k s.heap a xs) (R2:fq l s.heap c ys) (hx:xs[n]?=some x) (hy:ys[n]?=some y)
  (hQ:∀h',IsZip h' z U V (rawInt s.heap.objs.size)->IsPair h' V x y->dn k h' i a (n+1)->dn l h' j c (n+1)->IsPair h' s.heap.objs.size x y->h'.objs.size=s.heap.objs.size+1 ->
   (∀b o,b≠z->b≠V->b≠i->b≠j->s.heap.get? b=some o->h'.get? b=some o)->Q (.ref s.heap.objs.size) { s with heap:=h' }) :
  wpAny (model P w) A (Builtin.«zip.__next__» ⟨[.ref z],[]⟩) (fun f s'=>∃r,f=.done (.ret r)/\Q r s') E s:=by
 refine wpAny_bind (m:=field (.ref z) 2) (wpAny_field hz rfl (x:=.bool false) rfl (wpAny_bind (m:=field (.ref z) 3) (wpAny_field hz rfl (x:=.ref U) rfl (wpAny_bind (wpAny_seqItems hU rfl ?_)))));refine wpAny_bind (m:=Builtin.SmallTypes.ownedTupleIsFree (.ref z)) ?_;unfold Builtin.SmallTypes.ownedTupleIsFree;refine wpAny_bind (wpAny_field hz rfl (x:=.none) rfl (wpAny_pure ?_));simp only [if_true];refine wpAny_bind (wpAny_rule (wpAny_bind (wpAny_field hz rfl (x:=.ref V) rfl (wpAny_bind (wpAny_setField_rec hz (by simp) fun g1 z1 b1=>wpAny_bind ?_)))))
 replace z1:IsZip g1 z U V .ellipsis:=z1
 simp only [zipIdx_cons,zipIdx_nil,forIn_cons,forIn_nil];have e1:=b1.extBut;refine wpAny_bind (wpAny_bind (wpAny_onRaise (wpAny_bind (m:=Builtin.SmallTypes.nextOf (.ref i)) (eW (W1.mv fun o e=>e1 _ o D.iz e) (R1.mv fun o e=>e1 _ o az e) hx fun g2 w1 b2=>wpAny_pure ?_))));have e2:=b2.extBut;have v2:IsPair g2 V u v:=e2 _ _ D.Vi (e1 _ _ D.Vz hV);refine wpAny_bind (wpAny_seqItems v2 rfl (wpAny_bind (wpAny_updateSeq_pair v2 fun g3 v3 b3=>wpAny_bind (wpAny_letGo (wpAny_pure ?_)))))
 replace v3:IsPair g3 V x v:=v3
 have e3:=b3.extBut;refine wpAny_bind (wpAny_bind (wpAny_onRaise (wpAny_bind (m:=Builtin.SmallTypes.nextOf (.ref j)) (eW (W2.mv fun o e=>e3 _ o D.Vj.symm (e2 _ o D.ij.symm (e1 _ o D.jz e))) (R2.mv fun o e=>e3 _ o cV (e2 _ o ci (e1 _ o cz e))) hy fun g4 w2 b4=>wpAny_pure ?_))));have e4:=b4.extBut;have v4:IsPair g4 V x v:=e4 _ _ D.Vj v3;refine wpAny_bind (wpAny_seqItems v4 rfl (wpAny_bind (wpAny_updateSeq_pair v4 fun g5 v5 b5=>wpAny_bind (wpAny_letGo (wpAny_pure (wpAny_pure ?_))))))
 replace v5:IsPair g5 V x y:=v5
 have e5:=b5.extBut;refine wpAny_bind (wpAny_seqItems v5 rfl (wpAny_bind (wpAny_newTuple ?_)));have sz:g5.objs.size=s.heap.objs.size:=by rw [b5.1,b4.1,b3.1,b2.1,b1.1]
 have z5:IsZip g5 z U V .ellipsis:=e5 _ _ D.Vz.symm (e4 _ _ D.jz.symm (e3 _ _ D.Vz.symm (e2 _ _ D.iz.symm z1)));have k5:∀b o,b≠z->b≠V->b≠i->b≠j->s.heap.get? b=some o->g5.get? b=some o:=fun b o q1 q2 q3 q4 e=>e5 _ _ q2 (e4 _ _ q4 (e3 _ _ q2 (e2 _ _ q3 (e1 _ _ q1 e))));have w15:dn k g5 i a (n+1):=w1.mv fun o e=>e5 _ o D.Vi.symm (e4 _ o D.ij (e3 _ o D.Vi.symm e));have w25:dn l g5 j c (n+1):=w2.mv fun o e=>e5 _ o D.Vj.symm e
 have zlt:z<g5.objs.size:=Heap.lt_size z5;refine wpAny_bind (m:=Builtin.SmallTypes.ownedTupleHandOut (.ref z) (.ref g5.objs.size)) ?_;unfold Builtin.SmallTypes.ownedTupleHandOut;have z6:IsZip (g5.push { cls:=.type "tuple",data:=.seq #[x,y] }) z U V .ellipsis:=Heap.get?_push_of_some _ z5;refine wpAny_bind (wpAny_setField_rec z6 (by simp) fun g7 z7 b7=>?_)
 replace z7:IsZip g7 z U V (rawInt g5.objs.size):=z7
 refine wpAny_setField_rec z7 (by simp) fun g8 z8 b8=>?_
 replace z8:IsZip g8 z U V (rawInt g5.objs.size):=z8
 have up:∀b o,b≠z->g5.get? b=some o->g8.get? b=some o:=fun b o q e=>b8.extBut _ _ q (b7.extBut _ _ q (Heap.get?_push_of_some _ e));have t8:IsPair g8 g5.objs.size x y:=b8.extBut _ _ (ne_of_gt zlt) (b7.extBut _ _ (ne_of_gt zlt) (Heap.get?_push_size _ rfl));have s8:g8.objs.size=g5.objs.size+1:=by rw [b8.1,b7.1,Heap.size_push]
 rw [sz] at z8 t8 s8;refine wpAny_pure ⟨_,rfl,?_⟩;show Q (.ref g5.objs.size) _;rw [sz];exact hQ g8 z8 (up _ _ D.Vz v5) (w15.mv fun o e=>up _ o D.iz e) (w25.mv fun o e=>up _ o D.jz e) t8 s8 fun b o q1 q2 q3 q4 e=>up b o q1 (k5 b o q1 q2 q3 q4 e)
theorem Dj{Q:Fin->Shared->Prop}(hh:A.handled=none)(D:ZA z U V i j)(az:a≠z)(cz:c≠z)(ci:c≠i)(cV:c≠V)(hz:IsZip s.heap z U V .none)(hU:IsPair s.heap U (.ref i) (.ref j))(hV:IsPair s.heap V u v)
  (W1:dn k s.heap i a n) (W2:dn l s.heap j c n) (R1:fq k s.heap a xs) (R2:fq l s.heap c ys) (hend:xs[n]?=none\/ys[n]?=none)
  (hE:∀h' e,(∀b o,b≠z->b≠V->b≠i->b≠j->s.heap.get? b=some o->h'.get? b=some o)->(∃o,h'.get? e=some o/\o.cls=.type "StopIteration")->E (.ref e) { s with heap:=h' }) :
  wpAny (model P w) A (Builtin.«zip.__next__» ⟨[.ref z],[]⟩) Q E s:=by
 refine wpAny_bind (m:=field (.ref z) 2) (wpAny_field hz rfl (x:=.bool false) rfl (wpAny_bind (m:=field (.ref z) 3) (wpAny_field hz rfl (x:=.ref U) rfl (wpAny_bind (wpAny_seqItems hU rfl ?_)))));refine wpAny_bind (m:=Builtin.SmallTypes.ownedTupleIsFree (.ref z)) ?_;unfold Builtin.SmallTypes.ownedTupleIsFree;refine wpAny_bind (wpAny_field hz rfl (x:=.none) rfl (wpAny_pure ?_));simp only [if_true];refine wpAny_bind (wpAny_rule (wpAny_bind (wpAny_field hz rfl (x:=.ref V) rfl (wpAny_bind (wpAny_setField_rec hz (by simp) fun g1 z1 b1=>wpAny_bind ?_)))))
 replace z1:IsZip g1 z U V .ellipsis:=z1
 simp only [zipIdx_cons,zipIdx_nil,forIn_cons,forIn_nil];have e1:=b1.extBut
 cases hx:xs[n]? with
 | none =>
  refine wpAny_bind (wpAny_bind (wpAny_onRaise (wpAny_bind (m:=Builtin.SmallTypes.nextOf (.ref i)) (fS hh (W1.mv fun o e=>e1 _ o D.iz e) (R1.mv fun o e=>e1 _ o az e) hx fun g2 e b2 he=>?_))));obtain⟨oe,ge,ce⟩:=he;have z2:IsZip g2 z U V .ellipsis:=b2 _ _ D.iz.symm z1;have ez:e≠z:=fun q=>by subst q;rw [z2] at ge;cases ge;simp at ce
  exact wpAny_setField_rec z2 (by simp) fun g3 _ b3=>hE g3 e (fun b o q1 _ q3 _ q=>b3.extBut _ _ q1 (b2 _ _ q3 (e1 _ _ q1 q))) ⟨oe,b3.extBut _ _ ez ge,ce⟩
 | some x =>
  have hy:ys[n]?=none:=by
   rcases hend with q|q
   .rw [hx] at q;cases q
   .exact q
  refine wpAny_bind (wpAny_bind (wpAny_onRaise (wpAny_bind (m:=Builtin.SmallTypes.nextOf (.ref i)) (eW (W1.mv fun o e=>e1 _ o D.iz e) (R1.mv fun o e=>e1 _ o az e) hx fun g2 w1 b2=>wpAny_pure ?_))));have e2:=b2.extBut;have v2:IsPair g2 V u v:=e2 _ _ D.Vi (e1 _ _ D.Vz hV);refine wpAny_bind (wpAny_seqItems v2 rfl (wpAny_bind (wpAny_updateSeq_pair v2 fun g3 v3 b3=>wpAny_bind (wpAny_letGo (wpAny_pure ?_)))))
  have e3:=b3.extBut;refine wpAny_bind (wpAny_bind (wpAny_onRaise (wpAny_bind (m:=Builtin.SmallTypes.nextOf (.ref j)) (fS hh (W2.mv fun o e=>e3 _ o D.Vj.symm (e2 _ o D.ij.symm (e1 _ o D.jz e))) (R2.mv fun o e=>e3 _ o cV (e2 _ o ci (e1 _ o cz e))) hy fun g4 e b4 he=>?_))));obtain⟨oe,ge,ce⟩:=he;have z4:IsZip g4 z U V .ellipsis:=b4 _ _ D.jz.symm (e3 _ _ D.Vz.symm (e2 _ _ D.iz.symm z1));have ez:e≠z:=fun q=>by subst q;rw [z4] at ge;cases ge;simp at ce
  exact wpAny_setField_rec z4 (by simp) fun g5 _ b5=>hE g5 e (fun b o q1 q2 q3 q4 q=>b5.extBut _ _ q1 (b4 _ _ q4 (e3 _ _ q2 (e2 _ _ q3 (e1 _ _ q1 q))))) ⟨oe,b5.extBut _ _ ez ge,ce⟩
end
def Sq(k:Bool)(K:PySem.W.Frag)(H:Hp)(a:Addr)(xs:List V):Prop:=cond k (SqT K H a xs) (SqL K H a xs)
section
variable {X:Cx}{pins:List (Addr×Obj)}{σ:St}{H:Hp}{s:Shared}{k l:Bool}{a b c:Addr}{xs ys:List V}
theorem Inv.row(I:Inv X pins σ H s)(h:Sq k X.K H a xs):∃its:List Value,bY xs its/\fq k s.heap a its.toArray/\xs.length<=sizeLine:=by
 cases k with
 | false=>obtain⟨its,r,p,z⟩:=I.list h;exact⟨its,r,p.isList,z⟩
 | true=>obtain⟨its,r,p,z⟩:=I.tuple h;exact⟨its,r,p,z⟩
theorem Inv.row_inj(I:Inv X pins σ H s)(h:Sq k X.K H a xs)(h':Sq k X.K H a ys):xs=ys:=by
 cases k with
 | false=>exact I.list_inj h h'
 | true=>exact I.tuple_inj h h'
theorem vV{u:HO}(r:Rd H a u):∃v,H a=some v:=by
 rcases r with r|⟨o,r⟩ <;> exact⟨_,r⟩
theorem Inv.row_ne(I:Inv X pins σ H s)(h:Sq k X.K H a xs)(f:ui X pins H b):a≠b:=by
 have kk:∀o,X.K.lookup a=some o->a≠b:=fun o e z=>by
  have e1:=I.ok.mod.kin a o e
  rcases f.2.2.2.1 with q|q
  .exact I.ok.noex a o e1 (z ▸ q)
  .exact absurd (lt_of_lt_of_le (Heap.lt_size (I.ok.bs a o e1).1) (z ▸ q)) (Nat.lt_irrefl _)
 have hh:∀u,H a=some u->a≠b:=fun u e z=>by rw [z,f.1] at e;cases e
 cases k with
 | false =>
  rcases h with r|⟨o,its,n,e,_⟩
  .obtain⟨v,e⟩:=vV r;exact hh v e
  .exact kk o e
 | true =>
  rcases h with r|⟨o,its,n,e,_⟩
  .obtain⟨v,e⟩:=vV r;exact hh v e
  .exact kk o e
theorem Inv.yielded{h':Heap}{T:Addr}{zs:List V}{t':Nat}{ch:List Addr}(I:Inv X pins σ H s)(hf:∀b∈ch,ui X pins H b)(hT:s.heap.objs.size<=T)
  (kp:∀b o,b∉ch->s.heap.get? b=some o->h'.get? b=some o) (new:dy X.prog X.w (upd H T (.tup zs)) h' T (.tup zs)):Inv X pins σ (upd H T (.tup zs)) { s with heap:=h',toks:=t' }:=by
 have hn:H T=none:=I.hok.fresh hT;have nT:∀b u,H b=some u->b≠T:=fun b u e z=>by rw [z,hn] at e;cases e
 have oT:∀b o,s.heap.get? b=some o->b≠T:=fun b o e z=>absurd (lt_of_lt_of_le (Heap.lt_size e) (z ▸ hT)) (Nat.lt_irrefl _);have nc:∀b u,H b=some u->b∉ch:=fun b u e z=>by rw [(hf b z).1] at e;cases e
 refine I.step (g':=s.gens) (d':=s.drawn) (ch:=ch) (fun b hb=>⟨(hf b hb).2.2.2.1,(hf b hb).2.1,(hf b hb).2.2.2.2.1,(hf b hb).2.2.2.2.2⟩) (fun b o _ _ hc e _=>kp b o hc e) (fun b o _ _ hc e _=>⟨o.slots,kp b o hc e⟩)
  (fun b o _ e n=>by rw [aM (oT b o e)];exact n) (fun b o hc e=>⟨o,kp b o hc e⟩) (fun b xs e=>by rw [aM (nT b _ e)];exact e) (fun b o u e=>by rw [aM (nT b _ e)];exact e)
  (fun b ps e=>⟨#[],by rw [aM (nT b _ e),e];simp⟩) (fun m hm=>?_) (fun b u e=>?_) I.bare
 .obtain⟨o,es,ep,ho,r⟩:=hm;exact⟨o,es,ep,kp _ o (fun z=>(hf _ z).2.1 rfl) ho,r⟩
 .by_cases hb:b=T
  .subst hb;rw [bv] at e;cases e;exact new
  .rw [aM hb] at e;refine (I.hok b u e).stay (fun c v hc q=>kp c v ?_ q) (fun c q=>by rw [aM (nT c _ q)];exact q) fun c xs q=>by rw [aM (nT c _ q)];exact q
   rcases hc with z|z
   .rw [z];exact nc b u e
   .exact nc c _ z
end
def Itz(k l:Bool)(K:PySem.W.Frag)(a c:Addr):It :=
  ⟨fun i H=>∃xs ys x y,Sq k K H a xs/\Sq l K H c ys/\xs[i]?=some x/\ys[i]?=some y,
   fun i H p H'=>∃T x y,H T=none/\p=.ref T/\(∀xs,Sq k K H a xs->xs[i]?=some x)/\(∀ys,Sq l K H c ys->ys[i]?=some y)/\H'=upd H T (.tup [x,y]),
   fun i H=>∃xs ys,Sq k K H a xs/\Sq l K H c ys/\(xs.length<=i\/ys.length<=i)⟩
theorem yh{P:Program}{w:World}{K:PySem.W.Frag}{es:List Expr}{ct:Nat}{tp:Pos}{k l:Bool}{a c z U V i j:Addr}(D:ZA z U V i j) :
  zr P w K (.Tuple es ct tp) (Itz k l K a c) [z,U,V,i,j] z (fun n h=>IsZip h z U V .none/\IsPair h U (.ref i) (.ref j)/\(∃u v,IsPair h V u v)/\dn k h i a n/\dn l h j c n) where
 mem:=by simp
 obj:=fun n h st b hb=>by
  obtain⟨hz,hU,⟨u,v,hV⟩,⟨o1,g1,c1,d1⟩,⟨o2,g2,c2,d2⟩⟩:=st;simp only [mem_cons,not_mem_nil,or_false] at hb
  rcases hb with rfl|rfl|rfl|rfl|rfl
  .exact⟨_,hz,fun v q=>by cases q⟩
  .exact⟨_,hU,fun v q=>by cases q⟩
  .exact⟨_,hV,fun v q=>by cases q⟩
  .exact⟨_,g1,fun v q=>by rw [d1] at q;cases q⟩
  .exact⟨_,g2,fun v q=>by rw [d2] at q;cases q⟩
 keep:=fun n h h' st kk=>by
  obtain⟨hz,hU,⟨u,v,hV⟩,w1,w2⟩:=st;exact⟨kk z (by simp) _ hz,kk U (by simp) _ hU,⟨u,v,kk V (by simp) _ hV⟩,w1.mv fun o e=>kk i (by simp) o e,w2.mv fun o e=>kk j (by simp) o e⟩
 item:=by
  intro X hP hw hK hc n pins s σ H E I hf st hg;subst hP hw hK;obtain⟨xs,ys,x,y,q1,q2,hx,hy⟩:=hg;obtain⟨hz,hU,⟨u,v,hV⟩,w1,w2⟩:=st;obtain⟨its,rv,p,_⟩:=I.row q1;obtain⟨jts,rv',p',_⟩:=I.row q2;obtain⟨ux,hux,rx⟩:=rv.get hx;obtain⟨uy,huy,ry⟩:=rv'.get hy;have hT:s.TypeIs (.ref z) "zip":=⟨_,hz,rfl⟩
  have nz:=I.row_ne q1 (hf z (by simp));have mz:=I.row_ne q2 (hf z (by simp));have mi:=I.row_ne q2 (hf i (by simp));have mV:=I.row_ne q2 (hf V (by simp));unfold pyNext
  refine wpAny_bind (wpAny_attempt (wpAny_callSpecial?_slot (name:=Str.ofString "__next__") hT F.slot_zip_next (wpAny_call_entry F.slot_zip_next hT F.entry_zip_next
   (AM (x:=ux) (y:=uy) D nz mz mi mV hz hU hV w1 w2 p p' (by simpa using hux) (by simpa using huy) fun h' a1 a2 a3 a4 a5 a6 a7=>wpAny_pure ?_) (F.args_zip_next_1 _))))
  refine⟨_,rfl,wpAny_letOwnedTupleGo_zip a1 fun g gz gs=>?_⟩;have lt:∀{b o},s.heap.get? b=some o->s.heap.objs.size≠b:=fun e=>ne_of_gt (Heap.lt_size e)
  have kp:∀b o,b∉[z,V,i,j]->s.heap.get? b=some o->g.get? b=some o:=fun b o hb e=>by
   simp only [mem_cons,not_mem_nil,or_false,not_or] at hb;exact gs.extBut _ _ hb.1 (a7 b o hb.1 hb.2.1 hb.2.2.1 hb.2.2.2 e)
  have I2:Inv X pins σ (upd H s.heap.objs.size (.tup [x,y])) { s with heap:=g,toks:=s.toks }:=I.yielded (ch:=[z,V,i,j]) (fun b hb=>hf b (by
   simp only [mem_cons,not_mem_nil,or_false] at hb ⊢;rcases hb with q|q|q|q <;> simp [q])) (Nat.le_refl _) kp ⟨by show 2<=sizeLine;decide,[ux,uy],.cons rx (.cons ry .nil),_,gs.extBut _ _ (lt hz) a5,rfl,_,rfl⟩
  refine⟨.ref s.heap.objs.size,_,I2,rfl,⟨_,x,y,I.hok.fresh (Nat.le_refl _),rfl,fun xs' q=>by rw [I.row_inj q q1];exact hx,fun ys' q=>by rw [I.row_inj q q2];exact hy,rfl⟩,
   ⟨gz,gs.extBut _ _ D.Uz (a7 _ _ D.Uz D.UV D.Ui D.Uj hU),⟨_,_,gs.extBut _ _ D.Vz a2⟩,a3.mv fun o e=>gs.extBut _ o D.iz e,a4.mv fun o e=>gs.extBut _ o D.jz e⟩,fun b hb=>?_⟩
  rw [aM ?_]
  .exact (hf b hb).1
  .intro q;subst q;simp only [mem_cons,not_mem_nil,or_false] at hb;obtain⟨o1,g1,_⟩:=w1;obtain⟨o2,g2,_⟩:=w2
   rcases hb with q|q|q|q|q
   .exact lt hz q
   .exact lt hU q
   .exact lt hV q
   .exact lt g1 q
   .exact lt g2 q
 done:=by
  intro X hP hw hK hc n pins s σ H E I hf st hg;subst hP hw hK;obtain⟨xs,ys,q1,q2,hend⟩:=hg;obtain⟨hz,hU,⟨u,v,hV⟩,w1,w2⟩:=st;obtain⟨its,rv,p,_⟩:=I.row q1;obtain⟨jts,rv',p',_⟩:=I.row q2;have e1:=rv.length;have e2:=rv'.length;have hT:s.TypeIs (.ref z) "zip":=⟨_,hz,rfl⟩
  unfold pyNext
  refine wpAny_bind (wpAny_attempt (wpAny_callSpecial?_slot (name:=Str.ofString "__next__") hT F.slot_zip_next (wpAny_call_entry F.slot_zip_next hT F.entry_zip_next
   (Dj (I.ok.hd hc) D (I.row_ne q1 (hf z (by simp))) (I.row_ne q2 (hf z (by simp))) (I.row_ne q2 (hf i (by simp))) (I.row_ne q2 (hf V (by simp))) hz hU hV w1 w2 p p' ?_ fun h' e hk he=>?_) (F.args_zip_next_1 _))))
  .rcases hend with q|q
   .exact .inl (by simp;omega)
   .exact .inr (by simp;omega)
  .obtain⟨o,ho,hcl⟩:=he;refine wpAny_bind (wpAny_isInstance (T:="StopIteration") (b:=true) ⟨o,ho,hcl⟩ isSubtype_stop (wpAny_pure ⟨rfl,?_⟩))
   exact I.step (g':=s.gens) (d':=s.drawn) (t':=s.toks) (ch:=[z,V,i,j]) (fun b hb=>by
     have q:=hf b (by
      simp only [mem_cons,not_mem_nil,or_false] at hb ⊢;rcases hb with q|q|q|q <;> simp [q])
     exact⟨q.2.2.2.1,q.2.1,q.2.2.2.2.1,q.2.2.2.2.2⟩) (fun b o _ _ hc e _=>by
     simp only [mem_cons,not_mem_nil,or_false,not_or] at hc;exact hk b o hc.1 hc.2.1 hc.2.2.1 hc.2.2.2 e) (fun b o _ _ hc e _=>⟨o.slots,by
     simp only [mem_cons,not_mem_nil,or_false,not_or] at hc;exact hk b o hc.1 hc.2.1 hc.2.2.1 hc.2.2.2 e⟩) (fun _ _ _ _ q=>q) (fun b o hc e=>⟨o,by
     simp only [mem_cons,not_mem_nil,or_false,not_or] at hc;exact hk b o hc.1 hc.2.1 hc.2.2.1 hc.2.2.2 e⟩) (fun _ _ e=>e) (fun _ _ _ e=>e) (fun b ps e=>⟨#[],by rw [e];simp⟩) (fun m hm=>by
     obtain⟨o,es,ep,ho,r⟩:=hm;exact⟨o,es,ep,hk _ o (hf z (by simp)).2.1.symm (hf V (by simp)).2.1.symm (hf i (by simp)).2.1.symm (hf j (by simp)).2.1.symm ho,r⟩) (fun b u e=>by
     have nn:∀b u,H b=some u->b≠z/\b≠V/\b≠i/\b≠j:=fun b u e=>⟨fun q=>(by rw [q,(hf z (by simp)).1] at e;cases e),fun q=>(by rw [q,(hf V (by simp)).1] at e;cases e),fun q=>(by rw [q,(hf i (by simp)).1] at e;cases e),fun q=>(by rw [q,(hf j (by simp)).1] at e;cases e)⟩
     refine (I.hok b u e).stay (fun c v hc q=>?_) (fun _ q=>q) fun _ _ q=>q
     have n4:c≠z/\c≠V/\c≠i/\c≠j:=by
      rcases hc with q|q
      .rw [q];exact nn b u e
      .exact nn c _ q
     exact hk c v n4.1 n4.2.1 n4.2.2.1 n4.2.2.2 q) I.bare
 self:=fun _ _ _ _ _ st h=>wpAny_pyIter_zip st.1 h
theorem Dl(n:Nat):ZA (n+4) (n+2) (n+3) n (n+1):=by
 refine⟨?_,?_,?_,?_,?_,?_,?_,?_,?_,?_⟩ <;> (intro h;have h2:@Eq Nat _ _:=h;omega)
section
variable {P:Program}{w:World}{A:Around}{E:Value->Shared->Prop}{s:Shared}{k l:Bool}
abbrev kC(k:Bool)(a:Addr):Obj:={ cls:=.type (cond k "tuple_iterator" "list_iterator"),data:=.fields #[.ref a,.int 0 0] }
theorem fG{a:Addr}{its:Array Value}{Q:Value->Shared->Prop}(R:fq k s.heap a its)(hQ:Q (.ref s.heap.objs.size) { s with heap:=s.heap.push (kC k a) }):wpAny (model P w) A (pyIter (.ref a)) Q E s:=by
 cases k with
 | false=>exact wpAny_pyIter_list R hQ
 | true=>exact wpAny_pyIter_tuple R hQ
abbrev zg1(h:Heap)(k:Bool)(a:Addr):Heap:=h.push (kC k a)
abbrev zg2(h:Heap)(k l:Bool)(a c:Addr):Heap:=(zg1 h k a).push (kC l c)
abbrev zg3(h:Heap)(k l:Bool)(a c:Addr):Heap:=(zg2 h k l a c).push { cls:=.type "tuple",data:=.seq #[.ref h.objs.size,.ref (zg1 h k a).objs.size] }
abbrev zg4(h:Heap)(k l:Bool)(a c:Addr):Heap:=(zg3 h k l a c).push { cls:=.type "tuple",data:=.seq #[.none,.none] }
abbrev zg5(h:Heap)(k l:Bool)(a c:Addr):Heap:=(zg4 h k l a c).push { cls:=.type "zip",data:=.fields #[.none,.bool false,.bool false,.ref (zg2 h k l a c).objs.size,.ref (zg3 h k l a c).objs.size] }
theorem AN(k l:Bool)(a c:Addr)(xs ys:Array Value):Meets (Builtin.«zip.__new__» ⟨[.type "zip",.ref a,.ref c],[]⟩) (fun _ R s=>fq k s.heap a xs/\fq l s.heap c ys /\
   R (.ok (.ret (.ref (zg4 s.heap k l a c).objs.size))) { s with heap:=zg5 s.heap k l a c }) :=
 .of_wp fun prog w A R s h=>by
  obtain⟨hp,g,d,tk,os⟩:=s;obtain⟨r1,r2,h⟩:=h;have hsub:=sub_zip;have R1:fq k (Shared.heap ⟨hp,g,d,tk,os⟩) a xs:=r1;have R2:fq l (Shared.heap ⟨hp.push (kC k a),g,d,tk,os⟩) c ys:=r2.mv fun o e=>Heap.get?_push_of_some _ e
  wp_walk using fG R1,fG R2
  exact⟨_,rfl,h⟩
theorem AO{a c:Addr}{xs ys:Array Value}{Q:Value->Shared->Prop}(r1:fq k s.heap a xs)(r2:fq l s.heap c ys)
  (h:∀h',IsZip h' (s.heap.objs.size+4) (s.heap.objs.size+2) (s.heap.objs.size+3) .none->IsPair h' (s.heap.objs.size+2) (.ref s.heap.objs.size) (.ref (s.heap.objs.size+1)) ->
   IsPair h' (s.heap.objs.size+3) .none .none->dn k h' s.heap.objs.size a 0->dn l h' (s.heap.objs.size+1) c 0->(∀b o,s.heap.get? b=some o->h'.get? b=some o)->Q (.ref (s.heap.objs.size+4)) { s with heap:=h' }) :
  wpAny (model P w) A (call (.type "zip") [.ref a,.ref c]) Q E s:=by
 refine callType_new F.called_zip (by decide) (F.typeCall_zip_2 _ _) (F.newCall_zip_2 _ _) (fun obj=>F.args_object_init_3 obj _ _) F.entry_zip_new (AN k l a c xs ys) ⟨r1,r2,?_⟩;have z1:(zg1 s.heap k a).objs.size=s.heap.objs.size+1:=Heap.size_push ..;have z2:(zg2 s.heap k l a c).objs.size=s.heap.objs.size+2:=by rw [Heap.size_push,z1]
 have z3:(zg3 s.heap k l a c).objs.size=s.heap.objs.size+3:=by rw [Heap.size_push,z2]
 have z4:(zg4 s.heap k l a c).objs.size=s.heap.objs.size+4:=by rw [Heap.size_push,z3]
 have m4:∀b o,(zg4 s.heap k l a c).get? b=some o->(zg5 s.heap k l a c).get? b=some o:=fun b o e=>Heap.get?_push_of_some _ e;have m3:∀b o,(zg3 s.heap k l a c).get? b=some o->(zg5 s.heap k l a c).get? b=some o:=fun b o e=>m4 b o (Heap.get?_push_of_some _ e);have m2:∀b o,(zg2 s.heap k l a c).get? b=some o->(zg5 s.heap k l a c).get? b=some o:=fun b o e=>m3 b o (Heap.get?_push_of_some _ e);have m1:∀b o,(zg1 s.heap k a).get? b=some o->(zg5 s.heap k l a c).get? b=some o:=fun b o e=>m2 b o (Heap.get?_push_of_some _ e)
 have g5:(zg5 s.heap k l a c).get? (zg4 s.heap k l a c).objs.size=some _:=Heap.get?_push_size _ rfl;have g4:=m4 _ _ (Heap.get?_push_size (zg3 s.heap k l a c) (o:={ cls:=.type "tuple",data:=.seq #[.none,.none] }) rfl);have g3:=m3 _ _ (Heap.get?_push_size (zg2 s.heap k l a c) (o:={ cls:=.type "tuple",data:=.seq #[.ref s.heap.objs.size,.ref (zg1 s.heap k a).objs.size] }) rfl);have g2:=m2 _ _ (Heap.get?_push_size (zg1 s.heap k a) (o:=kC l c) rfl)
 have g1:=m1 _ _ (Heap.get?_push_size s.heap (o:=kC k a) rfl);show _/\_;rw [z2,z3,z4] at g5;rw [z1,z2] at g3;rw [z3] at g4;rw [z1] at g2;rw [z4];exact⟨⟨_,g5,rfl⟩,h _ g5 g3 g4 ⟨_,g1,rfl,rfl⟩ ⟨_,g2,rfl,rfl⟩ fun b o e=>m1 b o (Heap.get?_push_of_some _ e)⟩
end
def stA(a b:List Nat)(i:Nat):Bool:=decide (i+b.length<=a.length/\(a.drop i).take b.length=b)
def fnd(a b:List Nat)(lo:Nat):Int:=match (List.range' lo (a.length+1 - lo)).find? (stA a b) with|some k=>(k:Int)|none=>-1
theorem qb(s sub:Str)(hi:Nat):∀(l:List Nat) (st:Array Nat×Nat),st.fst.size=1->(forIn l st (StrLaws.occBody s sub hi 1)).run.fst=st.fst
 | [],_,_=>rfl
 | x::l,st,h=>by
  rw [forIn_cons];unfold StrLaws.occBody;rw [if_neg (fun z=>by have:=z.1.1.1;omega)];exact qb s sub hi l (st.fst,st.snd) h
theorem qc(s sub:Str)(hi:Nat)(p:Nat->Bool)(hp:∀i,p i=true ↔ (i+sub.length<=hi/\Builtin.Str.subAt s sub i=true)):∀(l:List Nat) (free:Nat),(∀i∈l,free<=i) ->
  (forIn l ((#[]:Array Nat),free) (StrLaws.occBody s sub hi 1)).run.fst=(match l.find? p with|some k=>#[k]|none=>#[])
 | [],_,_=>rfl
 | x::l,free,hf=>by
  rw [forIn_cons,find?_cons];unfold StrLaws.occBody;have hx:free<=x:=hf x (mem_cons_self ..)
  cases c:p x with
  | true =>
   have hc:=(hp x).mp c;rw [if_pos ⟨⟨⟨by simp,hx⟩,hc.1⟩,hc.2⟩];exact qb s sub hi l (#[x],x+sub.length) rfl
  | false =>
   rw [if_neg (fun z=>by
    have:=(hp x).mpr ⟨z.1.2,z.2⟩;rw [c] at this;cases this)]
   exact qc s sub hi p hp l free fun i h=>hf i (mem_cons_of_mem _ h)
theorem AQ(a b:List Nat)(i:Nat):Builtin.Str.subAt (S a) (S b) i=decide ((a.drop i).take b.length=b):=by
 unfold Builtin.Str.subAt;rw [fC]
 have e1:((S a).cps.extract i (i+b.length))=((a.drop i).take b.length).toArray:=by
  show a.toArray.extract _ _=_;rw [extract_toArray,extract_eq_take_drop];congr 2;omega
 rw [e1];show (((a.drop i).take b.length).toArray == b.toArray)=_
 by_cases h:(a.drop i).take b.length=b
 .rw [decide_eq_true h,h];simp
 .rw [decide_eq_false h,beq_eq_false_iff_ne];intro z;exact h (by simpa using congrArg Array.toList z)
theorem vW(a b:List Nat)(lo:Nat):(match Builtin.Str.occurrences (S a) (S b) lo (S a).length 1 with|k::_=>(k:Int)|[]=>-1)=fnd a b lo:=by
 rw [StrLaws.occ_eq,fC,qc (S a) (S b) a.length (stA a b) (fun i=>?_) _ lo (fun i hi=>(mem_range'_1.mp hi).1)]
 .unfold fnd;cases (List.range' lo (a.length+1 - lo)).find? (stA a b) <;> rfl
 .unfold stA;rw [AQ,fC];simp
section
variable {X:Cx}
theorem yi:MtR X "str.find" (fun x xs H Q=>∃a b,x=.str (S a)/\xs=[.str (S b)]/\Q (.int (fnd a b 0)) H):=by
 intro pins s σ H x xs v us Q I rx rs h;obtain⟨a,b,rfl,rfl,q⟩:=h;obtain⟨t,rfl⟩:=rx;obtain⟨u,rfl,t',rfl⟩:=iq rs;have e:Txt.find (S a) (S b)=fnd a b 0:=vW a b 0;exact SC.find ⟨.int _,H,I.tok _,⟨_,rfl⟩,by rw [e];exact q⟩
end
theorem kP{a b:List Nat}{lo:Nat}(h:fnd a b lo≠-1):∃k:Nat,fnd a b lo=(k:Int)/\lo<=k/\stA a b k=true/\∀j,lo<=j->j<k->stA a b j=false:=by
 unfold fnd at h ⊢
 cases e:(List.range' lo (a.length+1 - lo)).find? (stA a b) with
 | none=>rw [e] at h;exact absurd rfl h
 | some k =>
  obtain⟨h1,h2⟩:=find?_eq_some_iff_append.mp e;obtain⟨as,bs,hl,hn⟩:=h2;have hk:k∈List.range' lo (a.length+1 - lo):=by rw [hl];simp
  refine⟨k,rfl,(mem_range'_1.mp hk).1,h1,fun j hj1 hj2=>?_⟩;have hj:j∈List.range' lo (a.length+1 - lo):=mem_range'_1.mpr ⟨hj1,by have:=(mem_range'_1.mp hk).2;omega⟩;have hs:(List.range' lo (a.length+1 - lo)).Pairwise (·<·):=List.pairwise_lt_range';rw [hl] at hj hs
  rcases mem_append.mp hj with z|z
  .have:=hn j z;simpa using this
  .rcases mem_cons.mp z with z|z
   .omega
   .have:=(pairwise_cons.mp (pairwise_append.mp hs).2.1).1 j z;omega
theorem yj{a b:List Nat}{lo:Nat}(h:fnd a b lo=-1):∀j,lo<=j->stA a b j=false:=by
 unfold fnd at h
 cases e:(List.range' lo (a.length+1 - lo)).find? (stA a b) with
 | some k=>rw [e] at h;simp only at h;omega
 | none =>
  intro j hj
  by_cases hlt:j<a.length+1
  .have:=find?_eq_none.mp e j (mem_range'_1.mpr ⟨hj,by omega⟩);simpa using this
  .unfold stA;rw [decide_eq_false (fun z=>by have:=z.1;omega)]
section
variable {X:Cx}{tg:Expr}
def Itk(k:Bool)(K:PySem.W.Frag)(a:Addr):It:=cond k (Itt K a) (Itl K a)
def Dm(K:PySem.W.Frag):R2:=fun x y H Q=>∃l b xs zs,x=.ref l/\y=.ref b/\SqL K H l xs/\SqL K H b zs/\xs.length+zs.length<=sizeLine/\∀p,H p=none->Q (.ref p) (upd H p (.lst (xs++zs)))
theorem AR:OpR X (binaryOp .Add) (Dm X.K):=by
 intro pins s σ H x y v u Q I rx ry h;obtain⟨l,b,xs,zs,rfl,rfl,hH,hB,hz,q⟩:=h;cases rx;cases ry;obtain⟨its,r,pl,hl⟩:=I.list hH;obtain⟨its2,r2,pl2,hl2⟩:=I.list hB;obtain⟨⟨cls,dd,data,sl⟩,ho,hc,n,hd⟩:=pl.isList;obtain⟨⟨cls2,dd2,data2,sl2⟩,ho2,hc2,n2,hd2⟩:=pl2.isList;simp only at hc hd hc2 hd2;subst hc hd hc2 hd2;have n1:=r.length;have n2':=r2.length;have ea:its.toArray++its2.toArray=(its++its2).toArray:=by simp
 have fin:EP X pins σ Q (.ref s.heap.objs.size) { s with heap:=s.heap.push { cls:=.type "list",data:=.seq (its.toArray++its2.toArray) } }:=by
  rw [ea];exact⟨.ref _,_,I.lnew (t':=s.toks) (r.append r2) (by rw [length_append];omega),rfl,q _ I.fresh⟩
 exact concat_meets ⟨_,ho,rfl⟩ ⟨_,ho2,rfl⟩ noFill_list_add seq_list_add PySem.F.slot_list_add PySem.F.entry_list_add (PySem.F.args_list_add_2 _ _) (list_addW l b its.toArray its2.toArray n n2 dd dd2 sl sl2 (by simp;omega)) ⟨ho,ho2,fin⟩
end
def tx(l:List Nat):V:=.str (S l)
def rm(n:Nat)(d:PyData):Prop:=d.canLay0=true/\d.depth<=n
theorem rm.shaped{n:Nat}{d:PyData}(h:rm n d)(hn:n<=64):SeqAt.shaped d=true:=by
 unfold SeqAt.shaped;rw [h.1,decide_eq_true (Nat.le_trans h.2 hn)];rfl
theorem vX{n:Nat}:∀{ds:List PyData},(∀d∈ds,rm n d)->PyData.canLayAll0 ds=true/\PyData.depthAll ds<=n
 | [],_=>⟨rfl,zero_le _⟩
 | d::ds,h=>by
  obtain⟨a,b⟩:=vX (ds:=ds) fun x hx=>h x (mem_cons_of_mem _ hx);obtain⟨c,e⟩:=h d mem_cons_self;simp only [PyData.canLayAll0,PyData.depthAll,a,c];exact⟨rfl,max_le.mpr ⟨e,b⟩⟩
theorem rm.list{n:Nat}{ds:List PyData}(h:∀d∈ds,rm n d):rm (n+1) (.list ds):=by
 obtain⟨a,b⟩:=vX h;exact⟨by simp only [PyData.canLay0];exact a,by simp only [PyData.depth];omega⟩
theorem rm.int(i:Int):rm 0 (.int i):=⟨by simp [PyData.canLay0],by simp [PyData.depth]⟩
def Lts(l:List Nat):Prop:=∀c∈l,97<=c/\c<=122
theorem Lts.nil:Lts []:=fun c h=>nomatch h
theorem Lts.app{a b:List Nat}(x:Lts a)(y:Lts b):Lts (a++b):=fun c h=>(mem_append.mp h).elim (x c) (y c)
theorem Lts.one{c:Nat}(h:97<=c/\c<=122):Lts [c]:=fun d hd=>by
 have:d=c:=by simpa using hd
 subst this;exact h
theorem Lts.take{a:List Nat}(x:Lts a)(n:Nat):Lts (a.take n):=fun c h=>x c (mem_of_mem_take h)
theorem Lts.drop{a:List Nat}(x:Lts a)(n:Nat):Lts (a.drop n):=fun c h=>x c (mem_of_mem_drop h)
theorem Lts.rep{a:List Nat}(x:Lts a)(n:Int):Lts (kO a n):=fun c h=>by
 unfold kO at h;obtain⟨l,h1,h2⟩:=mem_flatten.mp h;rw [eq_of_mem_replicate h1] at h2;exact x c h2
theorem rm.str{l:List Nat}(h:Lts l):rm 0 (.str (S l)):=by
 refine⟨?_,by simp [PyData.depth]⟩;simp only [PyData.canLay0,PyData.strOk,S];rw [Array.all_eq_true];intro i hi;have:=h l[i] (getElem_mem _);simp only [getElem_toArray,decide_eq_true_eq];omega
theorem vY(ns:List Int):∀d∈ns.map PyData.int,rm 0 d:=fun d hd=>by
 obtain⟨i,_,rfl⟩:=mem_map.mp hd;exact rm.int i
theorem uI{ws:List (List Nat)}(h:∀w∈ws,Lts w):∀d∈ws.map (fun w=>PyData.str (S w)),rm 0 d:=fun d hd=>by
 obtain⟨i,hi,rfl⟩:=mem_map.mp hd;exact rm.str (h i hi)
theorem qd{ws:List (List Nat)}(h:∀w∈ws,Lts w):SeqAt.shaped (.list (ws.map fun w=>PyData.str (S w)))=true:=(rm.list (uI h)).shaped (by decide)
theorem yk{d:PyData}(h:SeqAt.shaped d=true):PyData.eqv d d=true:=SeqAt.eqv_refl d (SeqAt.canLay_of_shaped h)
theorem ll(p:Nat->Prop)(h0:p 0):∀n,0<n->∃k,k<n/\p k/\∀j,j<n->p j->j<=k
 | 0,h=>absurd h (by decide)
 | 1,_=>⟨0,by decide,h0,fun j hj _=>by omega⟩
 | n+2,_=>by
  obtain⟨k,h1,h2,h3⟩:=ll p h0 (n+1) (by omega)
  by_cases c:p (n+1)
  .exact⟨n+1,by omega,c,fun j hj _=>by omega⟩
  .refine⟨k,by omega,h2,fun j hj hp=>?_⟩
   by_cases e:j=n+1
   .subst e;exact absurd hp c
   .exact h3 j (by omega) hp
section
variable {κ:Type} [DecidableEq κ]
theorem KV.length{kvs:List (κ×V)}{vs:List (κ×Value)}(r:KV kvs vs):kvs.length=vs.length:=Paired.length r
end
section
variable {P:Program}{w:World}{H:Hp}{h:Heap}{a:Addr}
theorem EW{u:HO}(ok:HOk P w H h)(e:Rd H a u):dy P w H h a u:=e.ok ok
theorem EX{kvs:List (Key×V)}(ok:HOk P w H h)(e:Rd H a (.dK kvs)):kvs.length<=sizeLine/\(a == sysModules)=false/\∃vs,KV kvs vs/\h.DictOf (nQ P w) a vs :=
 show dy P w H h a (.dK kvs) from EW ok e
end
section
variable {X:Cx}{pins:List (Addr×Obj)}{σ:St}{H:Hp}{s:Shared}{a:Addr}{kvs:List (Key×V)}{k:Key}{u:Value}{A:Around}{E:Value->Shared->Prop}
theorem EY{Q:Value->Shared->Prop}(I:Inv X pins σ H s)(e:Rd H a (.dK kvs))(h:∀t s',Inv X pins σ H s'->Q (.int kvs.length t) s'):wpAny (model X.prog X.w) A (call (.builtin "len") [.ref a]) Q E s:=by
 obtain⟨z,hd,vs,rel,dd⟩:=EX I.hok e;refine call_len_dict hd dd (by rw [<- rel.length];rw [sizeLine_eq] at z;omega) ?_;rw [<- rel.length];exact h _ _ (I.tok _)
end
section
variable {X:Cx}
theorem oj{x:Str}{i:Int}{pos:Pos}(hg:Gl X x)(h:∃t,X.mg x=some (.int i t))(hd:(x == ("__debug__":Str))=false:=by decide):PE X (.Name x pos) (tC (.int i)):=by
 obtain⟨t,e⟩:=h;exact An (u:=.int i t) hg e ⟨t,rfl⟩ hd
end
structure Dn (P:Program) (w:World) (K:PySem.W.Frag) (mg:Str->Option Value) (base:Heap) (k:Nat) (x:Str) (ps:List Str) (dvs:List V) (sp:Sp):Prop where
 ex:∃(f:Addr) (fd:FuncData),nY P w K mg base CX0 k f fd ps sp/\(∀n,n<=dvs.length->∃ds,bY (dvs.drop n) ds/\kA K fd ps ds)/\PySem.W.keepIn K (.ref f)=true/\mg x=some (.ref f)
structure sX (K:PySem.W.Frag) (mg:Str->Option Value) (x:Str) (st:Stmt) (dvs:List V):Prop where
 ex:∃(f dT:Addr) (oc:Value) (od an dd:Option Addr) (kV doc pm cdv ct:Value) (osl sl:Array (Option Value)) (items:List Value) (n:Nat),
  K.lookup f=some ⟨oc,od,.func (PySem.W.fnOf x x (dh st) (cB st) (ar st) (.ref dT) kV doc pm an cdv ct),osl⟩/\PySem.W.codeIn K cdv x=true/\PySem.W.keepIn K (.ref f)=true/\mg x=some (.ref f) /\
  K.lookup dT=some ⟨.type "tuple",dd,.seq items.toArray n,sl⟩/\bY dvs items
section
variable {P:Program}{w:World}{K:PySem.W.Frag}{mg:Str->Option Value}{base:Heap}{x:Str}{st:Stmt}{N ps:List Str}{k:Nat}{sp:Sp}{dvs:List V}
theorem sX.ok(D:sX K mg x st dvs)(S:aR N ps (ar st))
  (hb:∀(dT:Addr) (kV doc pm:Value) (an:Option Addr) (cdv ct:Value) (items:List Value) (us:List Value) (n:Nat),items.length=dvs.length->n<=dvs.length->(us++items.drop n).length=ps.length ->
   ∃k,bindArgs (PySem.W.fnOf x x (dh st) (cB st) (ar st) (.ref dT) kV doc pm an cdv ct) ⟨us,[]⟩=seqItems? (.ref dT) >>= k/\k (some items.toArray)=pure (ps.zip (us++items.drop n)))
  (len:∀vs H Q E,sp vs H Q E->vs.length=ps.length)
  (hbody:∀(f:Addr) (cdv:Value) (A:Around) (outer:List Env) (s:Shared) (H:Hp) (vs:List V) (Q:VK) (E:XK),gJ k (A.deeper (envOfC x (ar st) s.heap.objs.size f cdv))->sp vs H Q E ->
   ∃t,PSs (xH CX0 P w K mg base N x (ar st) f cdv A outer s H E).nox (cB st) t/\t { nx:=fun _ H'=>Q .non H',rt:=Q } (start N vs) H):Dn P w K mg base (k+1) x ps dvs sp:=by
 obtain⟨f,dT,oc,od,an,dd,kV,doc,pm,cdv,ct,osl,sl,items,n,lk,hcd,kp,hm,lt,rv⟩:=D.ex;have hl:=rv.length
 refine⟨f,_,CO lk hcd S len fun A outer s H vs Q E hr hsp=>?_,fun j hj=>⟨items.drop j,rv.drop j,fun s us X hlen=>?_⟩,kp,hm⟩
 .obtain⟨t,h,q⟩:=hbody f cdv A outer s H vs Q E hr hsp;exact⟨t,h.nox,q⟩
 .obtain⟨k,h1,h2⟩:=hb dT kV doc pm an cdv ct items us j hl.symm hj hlen;exact BindsTo.of_defaults rfl (X dT _ lt) rfl h1 h2
end
section
variable {X:Cx}{k:Nat}{x:Str}{ps:List Str}{sp:Sp}{p pos:Pos}{e:Expr}{es:List Expr}{t:TA}{dvs:List V}
theorem AS(j:Nat)(C:Dn X.prog X.w X.K X.mg X.base k x ps dvs sp)(hr:gJ k X.A)(hj:j<=dvs.length)(ha:PA X (e::es) t)(hg:Gl X x:=by rfl)(hdb:(x == ("__debug__":Str))=false:=by decide)(he:starEach (e::es) X.env=(false,eval e X.env)::starEach es X.env:=by rfl)
  (hpl:(backTo pos (starEach es X.env)).any (·.1)=false:=by rfl):PE X (.Call (.Name x p) (e::es) [] pos) (fm sp (dvs.drop j) E0 t):=by
 obtain⟨f,fd,F,hb,hk,hm⟩:=C.ex;obtain⟨ds,rv,hb⟩:=hb j hj;exact vw F hr hg hm hk hb rv ya ha hdb he hpl
theorem om(bs:List Bool):(List.range bs.length).all (fun i=>bs.getD i false)=bs.all id:=by
 induction bs with
 | nil=>rfl
 | cons b bs ih=>rw [length_cons,range_succ_eq_map,all_cons,all_map,all_cons,<- ih];rfl
theorem oq(bs:List Bool):(List.range bs.length).any (fun i=>bs.getD i false)=bs.any id:=by
 induction bs with
 | nil=>rfl
 | cons b bs ih=>rw [length_cons,range_succ_eq_map,any_cons,any_map,any_cons,<- ih];rfl
theorem vZ{bs:List Bool}{its:List Value}(r:bY (bs.map V.bl) its){i:Nat}{v:Value}(h:its.toArray[i]?=some v):v=.bool (bs.getD i false):=by
 have h':its[i]?=some v:=by simpa using h
 have hl:=r.length;rw [length_map] at hl;have hi:i<bs.length:=by have:=(List.getElem?_eq_some_iff.mp h').1;omega
 obtain⟨u,e1,e2⟩:=r.get (i:=i) (x:=V.bl bs[i]) (by rw [getElem?_map,getElem?_eq_getElem hi];rfl);rw [h'] at e1;cases e1;rw [show v=Value.bool bs[i] from e2,getD_eq_getElem?_getD,getElem?_eq_getElem hi];rfl
theorem yl(hc:X.calm=true):cN X (.builtin "all") (fun xs H Q=>∃(p:Addr) (bs:List Bool),xs=[.ref p]/\SqL X.K H p (bs.map V.bl)/\Q (.bl (bs.all id)) H):=by
 intro pins s σ H xs us Q I r h;obtain⟨p,bs,rfl,hS,q⟩:=h;obtain⟨u,rfl,ru⟩:=iq r;cases (show u=Value.ref p from ru);obtain⟨its,rv,pl,hz⟩:=I.list hS;have hl:=rv.length;rw [length_map] at hl;have hps:p<s.heap.objs.size:=let ⟨o,ho,_⟩:=pl.isList;Heap.lt_size ho
 obtain⟨f0,f1,f2,f3,f4,f5⟩:=I.fpOk (H':=H) (Nat.le_refl s.heap.objs.size) (I.hok.fresh (Nat.le_refl _))
 refine call_all_walk (wpAny_pyIter_list pl.isList ⟨s.heap.objs.size,_,_,its.toArray.size,_,_,fun i=>bs.getD i false,rfl,Walks.list (by exact I.ok.hd hc) s.heap.objs.size p (ne_of_lt hps) its.toArray,⟨⟨_,Heap.get?_push_size _ rfl,rfl,rfl⟩,pl.isList.push _⟩,fun i v s Q E hP hQ=>?_,fun h' tk hk=>?_⟩)
 .rw [vZ rv hP];exact wpAny_truthy_bool hQ
 .have I1:Inv X pins σ H { s with heap:=s.heap.push { cls:=.type "list_iterator",data:=.fields #[.ref p,.int 0 0] } }:=I.kept (t':=s.toks) fun b o e=>Heap.get?_push_of_some _ e;have I2:=I1.turned (h':=h') (t':=tk) (it:=s.heap.objs.size) (fun b o hb e=>hk b o (by simpa using hb) e) f0 f1 f3 f4 f5;refine⟨.bl (bs.all id),H,I2,?_,q⟩;show Value.bool _=Value.bool _;rw [size_toArray,<- hl,om]
theorem ym(hc:X.calm=true):cN X (.builtin "any") (fun xs H Q=>∃(p:Addr) (bs:List Bool),xs=[.ref p]/\SqL X.K H p (bs.map V.bl)/\Q (.bl (bs.any id)) H):=by
 intro pins s σ H xs us Q I r h;obtain⟨p,bs,rfl,hS,q⟩:=h;obtain⟨u,rfl,ru⟩:=iq r;cases (show u=Value.ref p from ru);obtain⟨its,rv,pl,hz⟩:=I.list hS;have hl:=rv.length;rw [length_map] at hl;have hps:p<s.heap.objs.size:=let ⟨o,ho,_⟩:=pl.isList;Heap.lt_size ho
 obtain⟨f0,f1,f2,f3,f4,f5⟩:=I.fpOk (H':=H) (Nat.le_refl s.heap.objs.size) (I.hok.fresh (Nat.le_refl _))
 refine call_any_walk (wpAny_pyIter_list pl.isList ⟨s.heap.objs.size,_,_,its.toArray.size,_,_,fun i=>bs.getD i false,rfl,Walks.list (by exact I.ok.hd hc) s.heap.objs.size p (ne_of_lt hps) its.toArray,⟨⟨_,Heap.get?_push_size _ rfl,rfl,rfl⟩,pl.isList.push _⟩,fun i v s Q E hP hQ=>?_,fun h' tk hk=>?_⟩)
 .rw [vZ rv hP];exact wpAny_truthy_bool hQ
 .have I1:Inv X pins σ H { s with heap:=s.heap.push { cls:=.type "list_iterator",data:=.fields #[.ref p,.int 0 0] } }:=I.kept (t':=s.toks) fun b o e=>Heap.get?_push_of_some _ e;have I2:=I1.turned (h':=h') (t':=tk) (it:=s.heap.objs.size) (fun b o hb e=>hk b o (by simpa using hb) e) f0 f1 f3 f4 f5;refine⟨.bl (bs.any id),H,I2,?_,q⟩;show Value.bool _=Value.bool _;rw [size_toArray,<- hl,oq]
end
section
variable {X:Cx}{o e f:Expr}{apos cpos:Pos}{td ty tx:TE}
theorem v8:cN X (.builtin "len") (fun xs H Q=>∃p kvs,xs=[.ref p]/\Rd H p (.dK kvs)/\Q (.int kvs.length) H):=by
 intro pins s σ H xs us Q I r h;obtain⟨p,kvs,rfl,hd,q⟩:=h;obtain⟨u,rfl,ru⟩:=iq r;cases (show u=Value.ref p from ru);exact EY I hd fun t s' I'=>⟨.int kvs.length,H,I',⟨t,rfl⟩,q⟩
end
def cJ(K:PySem.W.Frag)(x:Str):Addr:=match PySem.W.nsIn K mainGlobals x with
 | some (some (.ref C))=>C
 | _=>0
theorem yn{K:PySem.W.Frag}{x:Str}{C:Addr}(h:PySem.W.nsIn K mainGlobals x=some (some (.ref C))):cJ K x=C:=by unfold cJ;rw [h]
structure Do (P:Program) (w:World) (K:PySem.W.Frag) (mg:Str->Option Value) (base:Heap) (k:Nat) (C:Addr) (m:Str) (ps:List Str) (sp:Sp):Prop where
 ex:∃(f:Addr) (fd:FuncData),nY P w K mg base CX0 k f fd ps sp/\kA K fd ps []/\Ew K C m f
structure AT (P:Program) (w:World) (K:PySem.W.Frag) (mg:Str->Option Value) (base:Heap) (k:Nat) (C:Addr) (x:Str) (ps:List Str) (sp:Sp):Prop where
 ex:∃(f:Addr) (fd:FuncData),nY P w K mg base CX0 k f fd ps sp/\kA K fd ps []/\Mk K C f/\mg x=some (.ref C)
structure sY (K:PySem.W.Frag) (C:Addr) (m qual:Str) (st:Stmt):Prop where
 ex:∃(f:Addr) (fd:FuncData),Fun K m qual st f fd/\Ew K C m f
structure sZ (K:PySem.W.Frag) (mg:Str->Option Value) (C:Addr) (x qual:Str) (st:Stmt):Prop where
 ex:∃(f:Addr) (fd:FuncData),Fun K "__init__" qual st f fd/\Mk K C f/\mg x=some (.ref C)
section
variable {P:Program}{w:World}{K:PySem.W.Frag}{mg:Str->Option Value}{base:Heap}{x m qual:Str}{C:Addr}{st:Stmt}{N ps:List Str}{k:Nat}{sp:Sp}
theorem sY.ok(D:sY K C m qual st)(S:aR N ps (ar st))
  (hb:∀(kV doc pm:Value) (an:Option Addr) (cdv ct:Value) (us:List Value),us.length=ps.length->bindArgs (PySem.W.fnOf m qual (dh st) (cB st) (ar st) .none kV doc pm an cdv ct) ⟨us,[]⟩=pure (ps.zip us))
  (len:∀vs H Q E,sp vs H Q E->vs.length=ps.length)
  (hbody:∀(f:Addr) (cdv:Value) (A:Around) (outer:List Env) (s:Shared) (H:Hp) (vs:List V) (Q:VK) (E:XK),gJ k (A.deeper (envOfC qual (ar st) s.heap.objs.size f cdv))->sp vs H Q E ->
   ∃t,PSs (xH CX0 P w K mg base N qual (ar st) f cdv A outer s H E).nox (cB st) t/\t { nx:=fun _ H'=>Q .non H',rt:=Q } (start N vs) H):Do P w K mg base (k+1) C m ps sp:=by
 obtain⟨f,fd,F,hm⟩:=D.ex;exact⟨f,fd,F.ok S len fun cdv A outer s H vs Q E hr h=>hbody f cdv A outer s H vs Q E hr h,F.binds hb,hm⟩
theorem sZ.ok(D:sZ K mg C x qual st)(S:aR N ps (ar st))
  (hb:∀(kV doc pm:Value) (an:Option Addr) (cdv ct:Value) (us:List Value),us.length=ps.length->bindArgs (PySem.W.fnOf "__init__" qual (dh st) (cB st) (ar st) .none kV doc pm an cdv ct) ⟨us,[]⟩=pure (ps.zip us))
  (len:∀vs H Q E,sp vs H Q E->vs.length=ps.length)
  (hbody:∀(f:Addr) (cdv:Value) (A:Around) (outer:List Env) (s:Shared) (H:Hp) (vs:List V) (Q:VK) (E:XK),gJ k (A.deeper (envOfC qual (ar st) s.heap.objs.size f cdv))->sp vs H Q E ->
   ∃t,PSs (xH CX0 P w K mg base N qual (ar st) f cdv A outer s H E).nox (cB st) t/\t { nx:=fun _ H'=>Q .non H',rt:=Q } (start N vs) H):AT P w K mg base (k+1) C x ps sp:=by
 obtain⟨f,fd,F,hm,e⟩:=D.ex;exact⟨f,fd,F.ok S len fun cdv A outer s H vs Q E hr h=>hbody f cdv A outer s H vs Q E hr h,F.binds hb,hm,e⟩
end
section
variable {X:Cx}{k:Nat}{x m:Str}{C:Addr}{ps:List Str}{sp:Sp}{p pos apos:Pos}{o e:Expr}{es:List Expr}{ta:TE}{t:TA}
theorem AU(M:AT X.prog X.w X.K X.mg X.base k C x ps sp)(hr:gJ (k+1) X.A)(ha:PA X (e::es) t)(hg:Gl X x:=by rfl)(hdb:(x == ("__debug__":Str))=false:=by decide)(he:starEach (e::es) X.env=(false,eval e X.env)::starEach es X.env:=by rfl)
  (hpl:(backTo pos (starEach es X.env)).any (·.1)=false:=by rfl):PE X (.Call (.Name x p) (e::es) [] pos) (xX C sp [] E0 t):=by
 obtain⟨f,fd,F,hb,hk,hm⟩:=M.ex;exact Ay hk F hr hg hm hb .nil ya ha hdb he hpl
theorem tm{pl:Sem Bool}(he:PE X o ta)(c:Cls X.K C)(M:Do X.prog X.w X.K X.mg X.base k C m ps sp)(hr:gJ k X.A)
  (ht:eval (.Call (.Attribute o m apos) [] [] pos) X.env=(do
   let ov <- eval o X.env
   standAt apos.atName
   let (f,first) <- holding [ov] (getMethod ov m pl)
   callWith pos f first (backTo pos (starEach [] X.env)) (backToKw pos (keywordEach [] X.env))):=by rfl) :
  PE X (.Call (.Attribute o m apos) [] [] pos) (Ax C m sp [] E0 ta fB):=by
 obtain⟨f,fd,F,hb,hm⟩:=M.ex;exact xY (pl:=pl) he c hm F hr hb .nil ya ht
end
theorem wb{prog:Program}{w:World}{A:Around}(k:Bool)(hh:A.handled=none)(it a:Addr)(hne:a≠it)(its:Array Value) :
  Draws prog w A it [it,a] its.size (fun i v=>its[i]?=some v) (fun i h=>dn k h it a i/\fq k h a its) where
 live:=fun _ _ st=>let ⟨o,ho,_⟩:=st.1;⟨o,ho⟩
 frame:=fun _ _ _ st hk=>⟨st.1.mv fun o e=>hk it (by simp) o e,st.2.mv fun o e=>hk a (by simp) o e⟩
 item:=fun i s Q E hi st hQ=>by
  refine eW st.1 st.2 (x:=its[i]) (by simp [hi]) fun h' hit' hs'=>?_;exact hQ _ h' s.toks (by simp [hi]) ⟨hit',st.2.mv fun o e=>hs'.extBut _ o hne e⟩ hs'
 done:=fun s Q E st hE=>fS hh st.1 st.2 (by simp) hE
def Ite(k:Bool)(K:PySem.W.Frag)(a:Addr):It :=
  ⟨fun i H=>∃xs x,Sq k K H a xs/\xs[i]?=some x,
   fun i H p H'=>∃T x,H T=none/\p=.ref T/\(∀xs,Sq k K H a xs->xs[i]?=some x)/\H'=upd H T (.tup [.int (i:Int),x]),
   fun i H=>∃xs,Sq k K H a xs/\xs.length<=i⟩
theorem wc{P:Program}{w:World}{K:PySem.W.Frag}{es:List Expr}{ct:Nat}{tp:Pos}{k:Bool}{a e it:Addr}(hei:e≠it) :
  zr P w K (.Tuple es ct tp) (Ite k K a) [e,it] e (fun n h=>(∃old,IsEnum h e it ((n:Nat):Int) old)/\dn k h it a n) where
 mem:=by simp
 obj:=fun n h st b hb=>by
  obtain⟨⟨old,he⟩,o1,g1,c1,d1⟩:=st;simp only [mem_cons,not_mem_nil,or_false] at hb
  rcases hb with rfl|rfl
  .exact⟨_,he,fun v q=>by cases q⟩
  .exact⟨_,g1,fun v q=>by rw [d1] at q;cases q⟩
 keep:=fun n h h' st kk=>by
  obtain⟨⟨old,he⟩,w1⟩:=st;exact⟨⟨old,kk e (by simp) _ he⟩,w1.mv fun o q=>kk it (by simp) o q⟩
 item:=by
  intro X hP hw hK hc n pins s σ H E I hf st hg;subst hP hw hK;obtain⟨xs,x,q1,hx⟩:=hg;obtain⟨⟨old,he⟩,w1⟩:=st;obtain⟨its,rv,p,_⟩:=I.row q1;obtain⟨ux,hux,rx⟩:=rv.get hx;have ne:=I.row_ne q1 (hf e (by simp));have ni:=I.row_ne q1 (hf it (by simp))
  have hlt:n<its.toArray.size:=by
   have:=(List.getElem?_eq_some_iff.mp hux).1;simpa using this
  have hhd:X.A.in1.handled=none:=by exact I.ok.hd hc
  refine wpAny_pyNext_enum_itemD (wb k hhd it a ni its.toArray) he ⟨w1,p⟩ hlt hei (by simp [hei,Ne.symm ne]) fun y h' tk hP ho hst ht hsz hk=>?_
  have hy:y=ux:=by
   have h1:its[n]?=some y:=by simpa using hP
   rw [hux] at h1;exact (Option.some.inj h1).symm
  subst hy;refine⟨_,rfl,wpAny_letOwnedTupleGo_enum ho fun g ge gs=>?_⟩;have lt:∀{b o},s.heap.get? b=some o->s.heap.objs.size≠b:=fun q=>ne_of_gt (Heap.lt_size q)
  have kp:∀b o,b∉[e,it]->s.heap.get? b=some o->g.get? b=some o:=fun b o hb q=>by
   simp only [mem_cons,not_mem_nil,or_false,not_or] at hb;exact gs.extBut _ _ hb.1 (hk b o hb.1 hb.2 q)
  have I2:Inv X pins σ (upd H s.heap.objs.size (.tup [.int (n:Int),x])) { s with heap:=g,toks:=tk+1 }:=I.yielded (ch:=[e,it]) (fun b hb=>hf b hb) (Nat.le_refl _) kp
   ⟨by show 2<=sizeLine;decide,[.int (n:Int) tk,y],.cons ⟨tk,rfl⟩ (.cons rx .nil),_,gs.extBut _ _ (lt he) ht,rfl,_,rfl⟩
  refine⟨.ref s.heap.objs.size,_,I2,rfl,⟨_,x,I.hok.fresh (Nat.le_refl _),rfl,fun xs' q=>by rw [I.row_inj q q1];exact hx,rfl⟩,⟨⟨y,by simpa using ge⟩,hst.1.mv fun o q=>gs.extBut _ o (Ne.symm hei) q⟩,fun b hb=>?_⟩
  rw [aM ?_]
  .exact (hf b hb).1
  .intro q;subst q;simp only [mem_cons,not_mem_nil,or_false] at hb;obtain⟨o1,g1,_⟩:=w1
   rcases hb with q|q
   .exact lt he q
   .exact lt g1 q
 done:=by
  intro X hP hw hK hc n pins s σ H E I hf st hg;subst hP hw hK;obtain⟨xs,q1,hend⟩:=hg;obtain⟨⟨old,he⟩,w1⟩:=st;obtain⟨its,rv,p,_⟩:=I.row q1;have e1:=rv.length;have ni:=I.row_ne q1 (hf it (by simp));have hhd:X.A.in1.handled=none:=by exact I.ok.hd hc
  obtain⟨f0,f1,f2,f3,f4,f5⟩:=hf it (by simp)
  -- the walk's end is wherever the row has no item
  have hT:s.TypeIs (.ref e) "enumerate":=⟨_,he,rfl⟩
  unfold pyNext
  refine wpAny_bind (wpAny_attempt (wpAny_callSpecial?_slot (name:=Str.ofString "__next__") hT F.slot_enumerate_next
   (wpAny_call_entry F.slot_enumerate_next hT F.entry_enumerate_next ?_ (F.args_enumerate_next_1 _))))
  show wpAny _ _ (field (.ref e) 2 >>= _) _ _ _;refine wpAny_bind (wpAny_field he rfl (x:=.ref it) rfl ?_);refine wpAny_bind (fS hhd w1 p (by simp;omega) fun h' x he' hx'=>?_);obtain⟨o,ho,hcl⟩:=hx';refine wpAny_bind (wpAny_isInstance (T:="StopIteration") (b:=true) ⟨o,ho,hcl⟩ isSubtype_stop ?_);exact wpAny_pure ⟨rfl,I.turned (t':=s.toks) (fun b o hb q=>he' b o hb q) f0 f1 f3 f4 f5⟩
 self:=fun _ _ _ _ _ st h=>let ⟨⟨_,he⟩,_⟩:=st;wpAny_pyIter_enum he h
section
variable {P:Program}{w:World}{A:Around}{E:Value->Shared->Prop}{s:Shared}{k:Bool}
theorem yo(k:Bool)(a:Addr)(xs:Array Value):Meets (Builtin.«enumerate.__new__» ⟨[.type "enumerate",.ref a],[]⟩) (fun _ R s=>fq k s.heap a xs /\
   R (.ok (.ret (.ref (s.heap.push (kC k a)).objs.size))) { s with heap:=(s.heap.push (kC k a)).push { cls:=.type "enumerate",data:=.fields #[.none,.bool false,.ref s.heap.objs.size,rawInt 0,.none,.none] } }) :=
 .of_wp fun prog w A R s h=>by
  obtain⟨hp,g,d,tk,os⟩:=s;obtain⟨r1,h⟩:=h;have hsub:=sub_enumerate;have R1:fq k (Shared.heap ⟨hp,g,d,tk,os⟩) a xs:=r1;obtain⟨⟨cls,dd,data,sl⟩,ho,hc,n,hd⟩:=id r1;simp only at hc hd;subst hc hd
  wp_walk using AutoSeq1.wpAny_loadPart' ho
  refine wpAny_stack_any fun st=>wpAny_pure ?_
  split
  .rename_i c _ _ _ _ _
   cases (c == Value.type "enumerate")
   .wp_walk using AutoSeq1.wpAny_loadPart' ho,fG R1
    exact⟨_,rfl,h⟩
   .wp_walk using AutoSeq1.wpAny_loadPart' ho,fG R1
    exact⟨_,rfl,h⟩
  .wp_walk using AutoSeq1.wpAny_loadPart' ho,fG R1
   exact⟨_,rfl,h⟩
theorem yp{a:Addr}{xs:Array Value}{Q:Value->Shared->Prop}(r1:fq k s.heap a xs)
  (h:∀h',IsEnum h' (s.heap.objs.size+1) s.heap.objs.size 0 .none->dn k h' s.heap.objs.size a 0->(∀b o,s.heap.get? b=some o->h'.get? b=some o)->Q (.ref (s.heap.objs.size+1)) { s with heap:=h' }) :
  wpAny (model P w) A (call (.type "enumerate") [.ref a]) Q E s:=by
 refine callType_new F.called_enumerate (by decide) (F.typeCall_enumerate_1 _) (F.newCall_enumerate_1 _) (fun obj=>F.args_object_init_2 obj _) F.entry_enumerate_new (yo k a xs) ⟨r1,?_⟩;have z1:(s.heap.push (kC k a)).objs.size=s.heap.objs.size+1:=Heap.size_push ..;have g2:((s.heap.push (kC k a)).push { cls:=.type "enumerate",data:=.fields #[.none,.bool false,.ref s.heap.objs.size,rawInt 0,.none,.none] }).get? (s.heap.push (kC k a)).objs.size=some _:=Heap.get?_push_size _ rfl
 have g1:=Heap.get?_push_of_some { cls:=.type "enumerate",data:=.fields #[.none,.bool false,.ref s.heap.objs.size,rawInt 0,.none,.none] } (Heap.get?_push_size s.heap (o:=kC k a) rfl);show _/\_;rw [z1] at g2 ⊢;exact⟨⟨_,g2,rfl⟩,h _ g2 ⟨_,g1,rfl,rfl⟩ fun b o q=>Heap.get?_push_of_some _ (Heap.get?_push_of_some _ q)⟩
end
section
variable {X:Cx}{es:List Expr}{ct:Nat}{tp:Pos}
def AW(K:PySem.W.Frag)(ta:TA):TI:=fun σ H R=>ta σ H fun vs H1=>∃k a,vs=[.ref a]/\(∃xs,Sq k K H1 a xs)/\R (Ite k K a) H1
theorem AX{a:Expr}{ta:TA}{p pos:Pos}(hg:Gl X "enumerate")(hm:X.mg "enumerate"=none)(ha:PA X [a] ta)(hs:starEach [a] X.env=[(false,eval a X.env)]:=by rfl) :
  PI X (.Tuple es ct tp) (.Call (.Name "enumerate" p) [a] [] pos) (AW X.K ta):=by
 intro pins s σ H R I h;refine Call_ (iw I hg hm boot_enumerate (PyProof.Rows.callWith_type1 (thn (ha pos pins s σ H _ I h) fun us s1 ⟨vs,H1,I1,r1,q1⟩=>?_) hs rfl));obtain⟨k,a,e,⟨xs,q1⟩,q⟩:=q1;subst e
 cases r1 with
 | cons r rr =>
  cases rr;cases r;obtain⟨its,rv,p,_⟩:=I1.row q1;refine yp p fun h' g1 g2 kk=>wpAny_pyIter_enum g1 ?_;have I2:Inv X pins σ H1 { s1 with heap:=h',toks:=s1.toks }:=I1.kept kk;refine⟨s1.heap.objs.size+1,[s1.heap.objs.size+1,s1.heap.objs.size],_,_,H1,rfl,I2,wc (k:=k) (a:=a) (it:=s1.heap.objs.size) (ne_of_gt (lt_succ_self _)),⟨⟨_,g1⟩,g2⟩,fun b hb=>?_,q⟩
  have hle:s1.heap.objs.size<=b:=by
   simp only [mem_cons,not_mem_nil,or_false] at hb
   rcases hb with e|e
   .rw [e];exact le_add_right _ _
   .rw [e];exact Nat.le_refl _
  exact I1.fpOk hle (I1.hok.fresh hle)
end
section
variable {X:Cx}
theorem wd(hc:X.calm=true):cN X (.builtin "min") (fun xs H Q=>∃(p:Addr) (ns:List Int),xs=[.ref p]/\SqL X.K H p (ns.map V.int)/\0<ns.length/\∀m:Int,m∈ns->(∀a∈ns,m<=a)->Q (.int m) H):=by
 intro pins s σ H xs us Q I r h;obtain⟨p,ns,rfl,hS,hne,q⟩:=h;obtain⟨u,rfl,ru⟩:=iq r;cases (show u=Value.ref p from ru);obtain⟨its,rv,pl,hz⟩:=I.list hS;have hi:=jB rv;have hl:=pl.isList;obtain⟨ys,e⟩:=hi.allInts.items;have hns:ns=ys.toList.map (·.1):=by rw [<- hi.numsOf,<- nums_intItems,<- e]
 have hsz:0<ys.size:=by
  have h3:=hne;rw [hns,length_map,Array.length_toList] at h3;exact h3
 rw [e] at hl;refine min_intList (by exact I.ok.hd hc) hl hsz fun v h' tk hv hk=>?_;obtain⟨t,rfl⟩:=intItems_at hv;obtain⟨h1,h2⟩:=argBest_lt (numAt ys) (ys.size - 1)
 refine⟨.int _,H,I.kept (t':=tk) hk,⟨t,rfl⟩,q _ ?_ fun a ha=>?_⟩
 .rw [hns,numAt_eq];exact getD_mem (by rw [length_map,Array.length_toList];omega)
 .rw [hns] at ha;obtain⟨j,hj,rfl⟩:=mem_getD ha;rw [length_map,Array.length_toList] at hj;rw [<- numAt_eq];exact h2 j (by omega)
theorem mZ(ns:List Int):∀k,k<=ns.length->preSum (fun i=>ns.getD i 0) k=(ns.take k).sum
 | 0,_=>rfl
 | k+1,h=>by
  rw [preSum,mZ ns k (by omega),take_add_one,getElem?_eq_getElem (by omega),sum_append,getD_eq_getElem?_getD,getElem?_eq_getElem (by omega)];simp
theorem wf(hc:X.calm=true):cN X (.builtin "sum") (fun xs H Q=>∃(p:Addr) (ns:List Int),xs=[.ref p]/\SqL X.K H p (ns.map V.int)/\Q (.int ns.sum) H):=by
 intro pins s σ H xs us Q I r h;obtain⟨p,ns,rfl,hS,q⟩:=h;obtain⟨u,rfl,ru⟩:=iq r;cases (show u=Value.ref p from ru);obtain⟨its,rv,pl,hz⟩:=I.list hS;have hi:=jB rv;have hl:=pl.isList;obtain⟨ys,e⟩:=hi.allInts.items;have hns:ns=ys.toList.map (·.1):=by rw [<- hi.numsOf,<- nums_intItems,<- e]
 rw [e] at hl;refine sum_intListG (by exact I.ok.hd hc) hl fun h' tk t' hk=>⟨.int ns.sum,H,I.kept (t':=tk) hk,⟨t',?_⟩,q⟩
 have hlen:ys.size=ns.length:=by rw [hns,length_map,Array.length_toList]
 have hnum:numAt ys=fun i=>ns.getD i 0:=by
  funext i;rw [numAt_eq,hns]
 rw [hnum,hlen,mZ ns ns.length (Nat.le_refl _),take_length]
theorem rH:∀{ws:List (List Nat)}{us:List Value},bY (ws.map tx) us->StrsAre us (ws.map S)
 | [],_,.nil=>.nil
 | w::ws,_,.cons r rr=>by
  obtain⟨t,e⟩:=r;subst e;exact .cons _ _ (rH rr)
end
section
variable {X:Cx}{es:List Expr}{ct:Nat}{tp:Pos}
def EZ(K:PySem.W.Frag)(ta:TA):TI:=fun σ H R=>ta σ H fun vs H1=>∃k l a c,vs=[.ref a,.ref c]/\(∃xs ys,Sq k K H1 a xs/\Sq l K H1 c ys)/\R (Itz k l K a c) H1
end
section
variable {X:Cx}{e:Expr}{ta:TE}{f:Str}{pos:Pos}
theorem ek(K:PySem.W.Frag)(eK:X.K=K)(he:PE X e ta)(hb:attributeBase e f X.env (eval e X.env)=eval e X.env):PE X (.Attribute e f pos) (xG K ta f):=eK ▸ CM he hb
def E1(K:PySem.W.Frag):List V->Hp->VK->Prop:=fun xs H Q=>∃p ys,xs=[.ref p]/\SqL K H p ys/\Q (.int ys.length) H
def E2(K:PySem.W.Frag):List V->Hp->VK->Prop:=fun xs H Q=>∃p ys,xs=[.ref p]/\SqT K H p ys/\Q (.int ys.length) H
def Ga(K:PySem.W.Frag):List V->Hp->VK->Prop:=fun xs H Q=>∃x n t b,xs=[x,.ty n]/\rA K H x t/\PySem.W.kitOne K t (.type n)=some b/\Q (.bl b) H
def wg(K:PySem.W.Frag):List V->Hp->VK->Prop:=fun xs H Q=>∃p ys,xs=[.ref p]/\(SqL K H p ys\/SqT K H p ys)/\∀l,H l=none->Q (.ref l) (upd H l (.lst ys))
end
section
variable {X:Cx}{o e:Expr}{es:List Expr}{to:TE}{t:TA}{name:Str}{apos cpos:Pos}{T id:String}{r:V->List V->Hp->VK->Prop}
theorem eX(K:PySem.W.Frag)(eK:X.K=K)(pa:PlainAttrs T)(slot:Slot T name id)(hty:typeOf (.builtin id)=pure (.type "method_descriptor"))(hm:MtR X id r)(ho:PE X o to)(ha:PA X (e::es) t)
  (hbase:attributeBase o name X.env (eval o X.env)=eval o X.env:=by rfl)
  (hfew:((backTo cpos (starEach (e::es) X.env)).all (fun x=>!x.1) && (backToKw cpos (keywordEach [] X.env)).all (fun x=>x.1.isSome)
   && decide ((e::es).length+([]:List Keyword).length+(if ([]:List Keyword).isEmpty then 0 else 1)<30))=true:=by rfl)
  (hline:(apos.endLine == cpos.line)=true:=by rfl) (hs:starEach (e::es) X.env=(false,eval e X.env)::starEach es X.env:=by rfl) (hplain:(backTo cpos (starEach es X.env)).any (·.1)=false:=by rfl) :
  PE X (.Call (.Attribute o name apos) (e::es) [] cpos) (tBM K T r to t):=eK ▸ EQ pa slot hty hm ho ha hbase hfew hline hs hplain
end
def gL(c:Bool)(A B:Prop):Prop:=match c with|true=>A|false=>B
theorem zD{c:Bool}{A B:Prop}(h1:c=true->A)(h2:c=false->B):gL c A B:=by
 cases c with
 | true=>exact h1 rfl
 | false=>exact h2 rfl
theorem gF{p:Prop}[Decidable p]{A B:Prop}(h1:p->A)(h2:¬ p->B):gL (decide p) A B:=zD (fun h=>h1 (of_decide_eq_true h)) (fun h=>h2 (of_decide_eq_false h))
theorem qe{p:Prop}[Decidable p]{A B:Prop}(h1:¬ p->A)(h2:p->B):gL (!decide p) A B:=zD (fun h=>h1 fun z=>by rw [decide_eq_true z] at h;cases h) (fun h=>h2 (by
 by_cases z:p
 .exact z
 .rw [decide_eq_false z] at h;cases h))
theorem E3{p:Prop}[Decidable p]{A B:Prop}(h:p)(hA:A):gL (decide p) A B:=gF (fun _=>hA) (fun z=>absurd h z)
theorem E4{p:Prop}[Decidable p]{A B:Prop}(h:¬ p)(hB:B):gL (decide p) A B:=gF (fun z=>absurd z h) (fun _=>hB)
theorem Dp{p:Prop}[Decidable p]{A B:Prop}(h:¬ p)(hA:A):gL (!decide p) A B:=qe (fun _=>hA) (fun z=>absurd z h)
theorem Dq{p:Prop}[Decidable p]{A B:Prop}(h:p)(hB:B):gL (!decide p) A B:=qe (fun z=>absurd h z) (fun _=>hB)
theorem ot{c:Bool}{A B:Prop}(h:gL c B A):gL (!c) A B:=by
 cases c <;> exact h
theorem Gv{c:Bool}{A B:Prop}(h:c=true)(hA:A):gL c A B:=by subst h;exact hA
theorem Gw{c:Bool}{A B:Prop}(h:c=false)(hB:B):gL c A B:=by subst h;exact hB
theorem E5{c:Bool}{A B:Prop}(h:c=false)(hA:A):gL (!c) A B:=by subst h;exact hA
theorem AY{c:Bool}{A B:Prop}(h:c=true)(hB:B):gL (!c) A B:=by subst h;exact hB
inductive D where
 | non|bl (b:Bool)|int (i:Int)|str (l:List Nat)|ty (n:String)
 | lst (ds:List D)|tup (ds:List D)|scr (ns:List Int)|dic (ks:List Key) (ds:List D)|obj (c:Str) (ns:List Str) (ds:List D)|exc (c:Str) (ns:List Str) (ds:List D)
def XAt(x C:Addr)(dd:Option Addr)(new:Bool)(h:Heap):Prop:=∃o vs,h.get? x=some o/\o.cls=.ref C/\o.dict=dd/\o.data=.fields vs/\1<vs.size/\(new=true->vs[1]?=some .none)
def gu(A:Addr->Prop)(a:Addr):Addr->Prop:=fun b=>A b\/b=a
def B9(K:PySem.W.Frag)(O:Addr->Prop)(H:Hp)(a:Addr)(xs:List V):Prop :=
 (¬ O a/\Rd H a (.lst xs))\/∃(o:Obj) (its:Array Value) (n:Nat),K.lookup a=some o/\o.cls=.type "list"/\o.dict=none/\o.data=.seq its n/\its.size<=sizeLine/\bY xs its.toList
theorem B9.sq{K:PySem.W.Frag}{O:Addr->Prop}{H:Hp}{a:Addr}{xs:List V}(h:B9 K O H a xs):SqL K H a xs:=h.elim (fun z=>.inl z.2) .inr
def bh(O:Addr->Prop)(H:Hp)(O':Addr->Prop)(H':Hp):Prop:=∀b o,¬ O b->H b=some o->¬ O' b/\H' b=some o
theorem Rd.keeps{O O':Addr->Prop}{H H':Hp}{a:Addr}{u:HO}(k:bh O H O' H')(n:¬ O a)(r:Rd H a u):¬ O' a/\Rd H' a u:=by
 rcases r with e|⟨o,e⟩
 .exact⟨(k _ _ n e).1,.inl (k _ _ n e).2⟩
 .exact⟨(k _ _ n e).1,.inr ⟨o,(k _ _ n e).2⟩⟩
theorem B9.keeps{K:PySem.W.Frag}{O O':Addr->Prop}{H H':Hp}{a:Addr}{xs:List V}(k:bh O H O' H')(h:B9 K O H a xs):B9 K O' H' a xs:=by
 rcases h with ⟨n,r⟩|r
 .exact .inl (r.keeps k n)
 .exact .inr r
mutual
inductive FV (K:PySem.W.Frag) (O:Addr->Prop) (H:Hp):V->D->Prop
 | non:FV K O H .non .non
 | bl (b:Bool):FV K O H (.bl b) (.bl b)
 | int (i:Int):FV K O H (.int i) (.int i)
 | str (l:List Nat):l.length<=1000000->FV K O H (.str (S l)) (.str l)
 | ty (n:String):FV K O H (.ty n) (.ty n)
 | scr {a:Addr}{ns:List Int}:B9 K O H a (ns.map V.int)->FV K O H (.ref a) (.scr ns)
 | lst {a:Addr}{xs:List V}{ds:List D}:¬ O a->H a=some (.lst xs)->FVs K O H xs ds->FV K O H (.ref a) (.lst ds)
 | tup {a:Addr}{xs:List V}{ds:List D}:¬ O a->H a=some (.tup xs)->FVs K O H xs ds->FV K O H (.ref a) (.tup ds)
 | dic {a:Addr}{kvs:List (Key×V)}{ks:List Key}{ds:List D}:¬ O a->H a=some (.dK kvs)->kvs.map Prod.fst=ks->FVs K O H (kvs.map Prod.snd) ds->FV K O H (.ref a) (.dic ks ds)
 | obj {a dx:Addr}{c:Str}{fs:List (Str×V)}{ns:List Str}{ds:List D}:¬ O a->H a=some (.ins (cJ K c) dx fs)->fs.map Prod.fst=ns->FVs K O H (fs.map Prod.snd) ds->FV K O H (.ref a) (.obj c ns ds)
 | exc0 {a:Addr}{c:Str}{new:Bool}:¬ O a->H a=some (.ext (XAt a (cJ K c) none new))->FV K O H (.ref a) (.exc c [] [])
 | exc1 {a dx:Addr}{c:Str}{new:Bool}{fs:List (Str×V)}{ns:List Str}{ds:List D}:¬ O a->¬ O dx->H a=some (.ext (XAt a (cJ K c) (some dx) new))->H dx=some (.xd fs)->fs.map Prod.fst=ns->FVs K O H (fs.map Prod.snd) ds->FV K O H (.ref a) (.exc c ns ds)
inductive FVs (K:PySem.W.Frag) (O:Addr->Prop) (H:Hp):List V->List D->Prop
 | nil:FVs K O H [] []
 | cons {x:V}{d:D}{xs:List V}{ds:List D}:FV K O H x d->FVs K O H xs ds->FVs K O H (x::xs) (d::ds)
end
section
variable {K:PySem.W.Frag}{O O':Addr->Prop}{H H':Hp}
mutual
theorem FV.keeps(k:bh O H O' H'):∀{v:V}{d:D},FV K O H v d->FV K O' H' v d
 | _,_,.non=>.non
 | _,_,.bl b=>.bl b
 | _,_,.int i=>.int i
 | _,_,.str l h=>.str l h
 | _,_,.ty n=>.ty n
 | _,_,.scr s=>.scr (s.keeps k)
 | _,_,.lst n e f=>.lst (k _ _ n e).1 (k _ _ n e).2 (FVs.keeps k f)
 | _,_,.tup n e f=>.tup (k _ _ n e).1 (k _ _ n e).2 (FVs.keeps k f)
 | _,_,.dic n e m f=>.dic (k _ _ n e).1 (k _ _ n e).2 m (FVs.keeps k f)
 | _,_,.obj n e m f=>.obj (k _ _ n e).1 (k _ _ n e).2 m (FVs.keeps k f)
 | _,_,.exc0 n e=>.exc0 (k _ _ n e).1 (k _ _ n e).2
 | _,_,.exc1 n n2 e e2 m f=>.exc1 (k _ _ n e).1 (k _ _ n2 e2).1 (k _ _ n e).2 (k _ _ n2 e2).2 m (FVs.keeps k f)
theorem FVs.keeps(k:bh O H O' H'):∀{vs:List V}{ds:List D},FVs K O H vs ds->FVs K O' H' vs ds
 | _,_,.nil=>.nil
 | _,_,.cons a b=>.cons (FV.keeps k a) (FVs.keeps k b)
end
theorem FVs.length:∀{vs:List V}{ds:List D},FVs K O H vs ds->vs.length=ds.length
 | _,_,.nil=>rfl
 | _,_,.cons _ b=>by rw [length_cons,length_cons,b.length]
theorem FVs.get:∀{vs:List V}{ds:List D}{i:Nat}{v:V},FVs K O H vs ds->vs[i]?=some v->∃d,ds[i]?=some d/\FV K O H v d
 | _,_,0,_,.cons a _,e=>by simp at e;subst e;exact⟨_,rfl,a⟩
 | _,_,i+1,v,.cons _ b,e=>by
  obtain⟨d,h1,h2⟩:=b.get (i:=i) (v:=v) (by simpa using e);exact⟨d,by simpa using h1,h2⟩
theorem FVs.getD:∀{vs:List V}{ds:List D}{i:Nat}{d:D},FVs K O H vs ds->ds[i]?=some d->∃v,vs[i]?=some v/\FV K O H v d
 | _,_,0,_,.cons a _,e=>by simp at e;subst e;exact⟨_,rfl,a⟩
 | _,_,i+1,v,.cons _ b,e=>by
  obtain⟨d,h1,h2⟩:=b.getD (i:=i) (d:=v) (by simpa using e);exact⟨d,by simpa using h1,h2⟩
theorem FVs.append:∀{vs ws:List V}{ds es:List D},FVs K O H vs ds->FVs K O H ws es->FVs K O H (vs++ws) (ds++es)
 | _,_,_,_,.nil,s=>s
 | _,_,_,_,.cons a b,s=>.cons a (b.append s)
theorem FVs.set{v:V}{d:D}(f:FV K O H v d):∀{vs:List V}{ds:List D} (i:Nat),FVs K O H vs ds->FVs K O H (vs.set i v) (ds.set i d)
 | _,_,_,.nil=>.nil
 | _,_,0,.cons _ t=>.cons f t
 | _,_,i+1,.cons q t=>.cons q (FVs.set f i t)
theorem FVs.take:∀{vs:List V}{ds:List D} (n:Nat),FVs K O H vs ds->FVs K O H (vs.take n) (ds.take n)
 | _,_,0,_=>.nil
 | _,_,_+1,.nil=>.nil
 | _,_,n+1,.cons r t=>.cons r (t.take n)
theorem FVs.drop:∀{vs:List V}{ds:List D} (n:Nat),FVs K O H vs ds->FVs K O H (vs.drop n) (ds.drop n)
 | _,_,0,r=>r
 | _,_,_+1,.nil=>.nil
 | _,_,n+1,.cons _ t=>t.drop n
theorem FVs.reverse:∀{vs:List V}{ds:List D},FVs K O H vs ds->FVs K O H vs.reverse ds.reverse
 | _,_,.nil=>.nil
 | _,_,.cons r t=>by rw [reverse_cons,reverse_cons];exact t.reverse.append (.cons r .nil)
theorem FVs.ints:∀{vs:List V}{ns:List Int},FVs K O H vs (ns.map D.int)->vs=ns.map V.int
 | _,[],.nil=>rfl
 | _,n::r,h=>by
  cases h with
  | cons a b=>cases a;rw [FVs.ints b];rfl
theorem FVs.of_ints:∀ns:List Int,FVs K O H (ns.map V.int) (ns.map D.int)
 | []=>.nil
 | n::r=>.cons (.int n) (FVs.of_ints r)
theorem FVs.strs:∀{vs:List V}{ws:List (List Nat)},FVs K O H vs (ws.map D.str)->vs=ws.map tx
 | _,[],.nil=>rfl
 | _,n::r,h=>by
  cases h with
  | cons a b=>cases a;rw [FVs.strs b];rfl
theorem FVs.of_strs:∀ws:List (List Nat),(∀w∈ws,w.length<=1000000)->FVs K O H (ws.map tx) (ws.map D.str)
 | [],_=>.nil
 | n::r,h=>.cons (.str n (h n (mem_cons_self ..))) (FVs.of_strs r fun w hw=>h w (mem_cons_of_mem _ hw))
theorem FVs.strs_le:∀{vs:List V}{ws:List (List Nat)},FVs K O H vs (ws.map D.str)->∀w∈ws,w.length<=1000000
 | _,[],.nil=>nofun
 | _,n::r,h=>by
  cases h with
  | cons a b =>
   cases a with
   | str _ z =>
    intro w hw
    rcases mem_cons.mp hw with e|e
    .rw [e];exact z
    .exact FVs.strs_le b w e
theorem FVs.bls:∀{vs:List V}{bs:List Bool},FVs K O H vs (bs.map D.bl)->vs=bs.map V.bl
 | _,[],.nil=>rfl
 | _,n::r,h=>by
  cases h with
  | cons a b=>cases a;rw [FVs.bls b];rfl
end
inductive PV where
 | dat (d:D)|own (ds:List D)|ins (c:Str) (ns:List Str) (ds:List D)
def PV.isOwn:PV->Bool
 | .dat _=>false
 | _=>true
def PV.d:PV->D
 | .dat d=>d
 | .own ds=>.lst ds
 | .ins c ns ds=>.obj c ns ds
abbrev PSt:=List (Option PV)
def Wr(ρ:PSt)(σ:St)(b:Addr):Prop:=∃(i:Nat) (p:PV),ρ[i]?=some (some p)/\p.isOwn=true/\σ[i]?=some (some (.ref b))
def OO(A:Addr->Prop)(ρ:PSt)(σ:St)(b:Addr):Prop:=A b\/Wr ρ σ b
def RS(K:PySem.W.Frag)(O:Addr->Prop)(H:Hp):PV->V->Prop
 | .dat d,v=>FV K O H v d
 | .own ds,v=>∃a xs,v=.ref a/\H a=some (.lst xs)/\FVs K O H xs ds
 | .ins c ns ds,v=>∃a dx fs,v=.ref a/\H a=some (.ins (cJ K c) dx fs)/\fs.map Prod.fst=ns/\FVs K O H (fs.map Prod.snd) ds
structure Rel (K:PySem.W.Frag) (A:Addr->Prop) (ρ:PSt) (σ:St) (H:Hp):Prop where
 len:ρ.length=σ.length
 get:∀(i:Nat) (p:PV),ρ[i]?=some (some p)->∃v,σ[i]?=some (some v)/\RS K (OO A ρ σ) H p v
 dj:∀(i j:Nat) (p q:PV) (v:V),ρ[i]?=some (some p)->ρ[j]?=some (some q)->p.isOwn=true->q.isOwn=true->σ[i]?=some (some v)->σ[j]?=some (some v)->i=j
 dom:∀b,A b->H b≠none
 sep:∀b,A b->¬ Wr ρ σ b
structure Fr (ρ:PSt) (σ:St) (H:Hp) (ρ':PSt) (H':Hp):Prop where
 kp:∀b o,¬ Wr ρ σ b->H b=some o->H' b=some o
 dm:∀b,H b≠none->H' b≠none
 ow:∀b,Wr ρ' σ b->Wr ρ σ b
theorem Fr.refl(ρ:PSt)(σ:St)(H:Hp):Fr ρ σ H ρ H:=⟨fun _ _ _ h=>h,fun _ h=>h,fun _ h=>h⟩
theorem Fr.trans{ρ ρ1 ρ2:PSt}{σ:St}{H H1 H2:Hp}(a:Fr ρ σ H ρ1 H1)(b:Fr ρ1 σ H1 ρ2 H2):Fr ρ σ H ρ2 H2 :=
 ⟨fun c o n h=>b.kp c o (fun z=>n (a.ow c z)) (a.kp c o n h),fun c h=>b.dm c (a.dm c h),fun c h=>a.ow c (b.ow c h)⟩
theorem Fr.keeps{ρ ρ':PSt}{σ:St}{H H':Hp}{A:Addr->Prop}(f:Fr ρ σ H ρ' H'):bh (OO A ρ σ) H (OO A ρ' σ) H':=fun b o n h =>
 ⟨fun z=>z.elim (fun z=>n (.inl z)) (fun z=>n (.inr (f.ow b z))),f.kp b o (fun z=>n (.inr z)) h⟩
theorem Fr.new{ρ:PSt}{σ:St}{H:Hp}{p:Addr}{o:HO}(h:H p=none):Fr ρ σ H ρ (upd H p o) :=
 ⟨fun b u _ e=>by rw [aM (br e h)];exact e,fun b e=>by
  by_cases z:b=p
  .rw [z,bv];exact nofun
  .rw [aM z];exact e,fun _ h=>h⟩
theorem bh.fresh{O:Addr->Prop}{H:Hp}{p:Addr}{o:HO}(h:H p=none):bh O H (gu O p) (upd H p o):=fun b u n e =>
 ⟨fun z=>z.elim n (fun z=>by rw [z,h] at e;cases e),by rw [aM (br e h)];exact e⟩
theorem bh.less{O O':Addr->Prop}{H:Hp}(h:∀b,O' b->O b):bh O H O' H:=fun b o n e=>⟨fun z=>n (h b z),e⟩
theorem RS.keeps{K:PySem.W.Frag}{O O':Addr->Prop}{H H':Hp}{p:PV}{v:V}(k:bh O H O' H')(w:p.isOwn=true->∀a,v=.ref a->H' a=H a)(h:RS K O H p v):RS K O' H' p v:=by
 cases p with
 | dat d=>exact FV.keeps k h
 | own ds =>
  obtain⟨a,xs,e,g,f⟩:=h;exact⟨a,xs,e,by rw [w rfl a e];exact g,f.keeps k⟩
 | ins c ns ds =>
  obtain⟨a,dx,fs,e,g,m,f⟩:=h;exact⟨a,dx,fs,e,by rw [w rfl a e];exact g,m,f.keeps k⟩
theorem RS.ref{K:PySem.W.Frag}{O:Addr->Prop}{H:Hp}{p:PV}{v:V}(h:RS K O H p v)(o:p.isOwn=true):∃a u,v=.ref a/\H a=some u:=by
 cases p with
 | dat d=>cases o
 | own ds=>obtain⟨a,xs,e,g,f⟩:=h;exact⟨a,_,e,g⟩
 | ins c ns ds=>obtain⟨a,dx,fs,e,g,m,f⟩:=h;exact⟨a,_,e,g⟩
theorem Rel.wr{K:PySem.W.Frag}{A:Addr->Prop}{ρ:PSt}{σ:St}{H:Hp}(R:Rel K A ρ σ H){b:Addr}(h:Wr ρ σ b):H b≠none:=by
 obtain⟨i,p,e,o,s⟩:=h;obtain⟨v,s',r⟩:=R.get i p e;rw [s] at s';cases s';obtain⟨a,u,e1,e2⟩:=r.ref o;cases e1;rw [e2];exact nofun
theorem Rel.oo{K:PySem.W.Frag}{A:Addr->Prop}{ρ:PSt}{σ:St}{H:Hp}(R:Rel K A ρ σ H){b:Addr}(h:H b=none):¬ OO A ρ σ b:=fun z=>z.elim (fun z=>R.dom b z h) (fun z=>R.wr z h)
theorem Rel.grow{K:PySem.W.Frag}{A:Addr->Prop}{ρ:PSt}{σ:St}{H:Hp}(R:Rel K A ρ σ H){p:Addr}{o:HO}(h:H p=none):Rel K A ρ σ (upd H p o):=by
 have k:bh (OO A ρ σ) H (OO A ρ σ) (upd H p o):=Fr.keeps (Fr.new h);refine⟨R.len,fun i q e=>?_,R.dj,fun b z=>(Fr.new (ρ:=ρ) (σ:=σ) h).dm b (R.dom b z),R.sep⟩;obtain⟨v,s,r⟩:=R.get i q e;refine⟨v,s,r.keeps k fun ow a ea=>?_⟩;obtain⟨a',u,e1,e2⟩:=r.ref ow;rw [ea] at e1;cases e1;rw [aM (br e2 h)]
theorem Rel.less{K:PySem.W.Frag}{A A':Addr->Prop}{ρ:PSt}{σ:St}{H:Hp}(R:Rel K A ρ σ H)(h:∀b,A' b->A b):Rel K A' ρ σ H:=by
 refine⟨R.len,fun i q e=>?_,R.dj,fun b z=>R.dom b (h b z),fun b z=>R.sep b (h b z)⟩;obtain⟨v,s,r⟩:=R.get i q e;exact⟨v,s,r.keeps (bh.less fun b z=>z.imp (h b) id) fun _ _ _=>rfl⟩
theorem Rel.write{K:PySem.W.Frag}{A:Addr->Prop}{ρ:PSt}{σ:St}{H:Hp}(R:Rel K A ρ σ H){i:Nat}{p q:PV}{a:Addr}{o:HO}(e:ρ[i]?=some (some p))(ow:p.isOwn=true)(ow':q.isOwn=true)(es:σ[i]?=some (some (.ref a)))
  (new:RS K (OO A ρ σ) (upd H a o) q (.ref a)):Rel K A (ρ.set i (some q)) σ (upd H a o)/\Fr ρ σ H (ρ.set i (some q)) (upd H a o):=by
 have hi:i<ρ.length:=(List.getElem?_eq_some_iff.mp e).1;have wa:Wr ρ σ a:=⟨i,p,e,ow,es⟩
 have weq:∀b,Wr (ρ.set i (some q)) σ b ↔ Wr ρ σ b:=fun b=>by
  constructor
  .rintro⟨j,r,e1,o1,s1⟩
   by_cases z:i=j
   .subst z;exact⟨i,p,e,ow,s1⟩
   .rw [getElem?_set_ne z] at e1;exact⟨j,r,e1,o1,s1⟩
  .rintro⟨j,r,e1,o1,s1⟩
   by_cases z:i=j
   .subst z;exact⟨i,q,getElem?_set_self hi,ow',s1⟩
   .exact⟨j,r,by rw [getElem?_set_ne z];exact e1,o1,s1⟩
 have oeq:OO A (ρ.set i (some q)) σ=OO A ρ σ:=funext fun b=>propext (or_congr Iff.rfl (weq b));have kp:∀b u,¬ Wr ρ σ b->H b=some u->upd H a o b=some u:=fun b u n h=>by rw [aM (fun z=>n (by rw [z];exact wa))];exact h
 have k:bh (OO A ρ σ) H (OO A ρ σ) (upd H a o):=fun b u n h=>⟨n,kp b u (fun z=>n (.inr z)) h⟩
 have dm:∀b,H b≠none->upd H a o b≠none:=fun b n=>by
  by_cases z:b=a
  .rw [z,bv];exact nofun
  .rw [aM z];exact n
 refine⟨⟨by rw [length_set];exact R.len,fun j r e1=>?_,fun j l p1 q1 v e1 e2 o1 o2 s1 s2=>?_,fun b z=>dm b (R.dom b z),fun b z w=>R.sep b z ((weq b).mp w)⟩,⟨kp,dm,fun b w=>(weq b).mp w⟩⟩
 .rw [oeq]
  by_cases z:i=j
  .subst z;rw [getElem?_set_self hi] at e1;cases e1;exact⟨_,es,new⟩
  .rw [getElem?_set_ne z] at e1;obtain⟨v,s,rr⟩:=R.get j r e1;refine⟨v,s,rr.keeps k fun ow2 b eb=>?_⟩;rw [aM];intro zz;subst zz;rw [eb] at s;exact z (R.dj i j p r _ e e1 ow ow2 es s)
 .have ex:∀(m:Nat) (x:PV),(ρ.set i (some q))[m]?=some (some x)->x.isOwn=true->∃y:PV,ρ[m]?=some (some y)/\y.isOwn=true:=fun m x em ox=>by
   by_cases z:i=m
   .subst z;exact⟨p,e,ow⟩
   .rw [getElem?_set_ne z] at em;exact⟨x,em,ox⟩
  obtain⟨y1,h1,h2⟩:=ex j p1 e1 o1;obtain⟨y2,h3,h4⟩:=ex l q1 e2 o2;exact R.dj j l y1 y2 v h1 h3 h2 h4 s1 s2
theorem Rel.frz{K:PySem.W.Frag}{A:Addr->Prop}{ρ:PSt}{σ:St}{H:Hp}(R:Rel K A ρ σ H){i:Nat}{p:PV}(e:ρ[i]?=some (some p)) :
  Rel K A (ρ.set i (some (.dat p.d))) σ H/\Fr ρ σ H (ρ.set i (some (.dat p.d))) H:=by
 have hi:i<ρ.length:=(List.getElem?_eq_some_iff.mp e).1
 have ex:∀(m:Nat) (x:PV),(ρ.set i (some (.dat p.d)))[m]?=some (some x)->x.isOwn=true->m≠i/\ρ[m]?=some (some x):=fun m x em ox=>by
  by_cases z:i=m
  .subst z;rw [getElem?_set_self hi] at em;cases em;cases ox
  .rw [getElem?_set_ne z] at em;exact⟨fun q=>z q.symm,em⟩
 have ow:∀b,Wr (ρ.set i (some (.dat p.d))) σ b->Wr ρ σ b:=fun b ⟨j,r,e1,o1,s1⟩=>⟨j,r,(ex j r e1 o1).2,o1,s1⟩
 have k:bh (OO A ρ σ) H (OO A (ρ.set i (some (.dat p.d))) σ) H:=bh.less fun b z=>z.imp id (ow b);refine⟨⟨by rw [length_set];exact R.len,fun j r e1=>?_,fun j l p1 q1 v e1 e2 o1 o2 s1 s2=>R.dj j l p1 q1 v (ex j p1 e1 o1).2 (ex l q1 e2 o2).2 o1 o2 s1 s2,R.dom,fun b z w=>R.sep b z (ow b w)⟩,⟨fun _ _ _ h=>h,fun _ h=>h,ow⟩⟩
 by_cases z:i=j
 .subst z;rw [getElem?_set_self hi] at e1;cases e1;obtain⟨v,s,r⟩:=R.get i p e;refine⟨v,s,?_⟩
  have na:∀a,v=.ref a->p.isOwn=true->¬ OO A (ρ.set i (some (.dat p.d))) σ a:=fun a ea oo z=>by
   subst ea
   rcases z with z|⟨j,r,e1,o1,s1⟩
   .exact R.sep a z ⟨i,p,e,oo,s⟩
   .obtain⟨n1,n2⟩:=ex j r e1 o1;exact n1 (R.dj j i r p _ n2 e o1 oo s1 s)
  cases p with
  | dat d=>exact FV.keeps k r
  | own ds =>
   obtain⟨a,xs,rfl,g,f⟩:=r;exact .lst (na a rfl rfl) g (f.keeps k)
  | ins c ns ds =>
   obtain⟨a,dx,fs,rfl,g,m,f⟩:=r;exact .obj (na a rfl rfl) g m (f.keeps k)
 .rw [getElem?_set_ne z] at e1;obtain⟨v,s,r⟩:=R.get j _ e1;exact⟨v,s,r.keeps k fun _ _ _=>rfl⟩
abbrev PKt:=PV->PSt->Prop
abbrev PTE:=PSt->PKt->Prop
abbrev PTT:=PSt->(Bool->PSt->Prop)->Prop
inductive AV where
 | v (d:D)|sl (i:Nat)
abbrev PA1:=PSt->(AV->PSt->Prop)->Prop
abbrev PTA:=PSt->(List AV->PSt->Prop)->Prop
def Out(K:PySem.W.Frag)(A:Addr->Prop)(ρ:PSt)(σ:St)(H0 H:Hp):PV->V->Prop
 | .dat d,v=>Rel K A ρ σ H/\FV K (OO A ρ σ) H v d
 | .own ds,v=>∃a xs,v=.ref a/\¬ A a/\H0 a=none/\H a=some (.lst xs)/\Rel K (gu A a) ρ σ H/\FVs K (OO (gu A a) ρ σ) H xs ds
 | .ins c ns ds,v=>∃a dx fs,v=.ref a/\¬ A a/\H0 a=none/\H a=some (.ins (cJ K c) dx fs)/\fs.map Prod.fst=ns/\Rel K (gu A a) ρ σ H/\FVs K (OO (gu A a) ρ σ) H (fs.map Prod.snd) ds
def LE(K:PySem.W.Frag)(te:TE)(pe:PTE):Prop:=∀(A:Addr->Prop) (ρ:PSt) (σ:St) (H:Hp) (Q:PKt) (Q':VK),Rel K A ρ σ H->pe ρ Q ->
 (∀v H' p ρ',Q p ρ'->Fr ρ σ H ρ' H'->Out K A ρ' σ H H' p v->Q' v H')->te σ H Q'
def LT(K:PySem.W.Frag)(tt:TT)(pt:PTT):Prop:=∀(A:Addr->Prop) (ρ:PSt) (σ:St) (H:Hp) (Q:Bool->PSt->Prop) (Q':Bool->Hp->Prop),Rel K A ρ σ H->pt ρ Q ->
 (∀b H' ρ',Q b ρ'->Fr ρ σ H ρ' H'->Rel K A ρ' σ H'->Q' b H')->tt σ H Q'
def AOk(K:PySem.W.Frag)(O:Addr->Prop)(σ:St)(H:Hp):AV->V->Prop
 | .v d,v=>FV K O H v d
 | .sl i,v=>σ[i]?=some (some v)
def LA1(K:PySem.W.Frag)(te:TE)(pa:PA1):Prop:=∀(A:Addr->Prop) (ρ:PSt) (σ:St) (H:Hp) (Q:AV->PSt->Prop) (Q':VK),Rel K A ρ σ H->pa ρ Q ->
 (∀v H' av ρ',Q av ρ'->Fr ρ σ H ρ' H'->Rel K A ρ' σ H'->AOk K (OO A ρ' σ) σ H' av v->Q' v H')->te σ H Q'
inductive AZ (K:PySem.W.Frag) (O:Addr->Prop) (σ:St) (H:Hp):List AV->List V->Prop
 | nil:AZ K O σ H [] []
 | cons {a:AV}{v:V}{as:List AV}{vs:List V}:AOk K O σ H a v->AZ K O σ H as vs->AZ K O σ H (a::as) (v::vs)
def LAs(K:PySem.W.Frag)(ta:TA)(pa:PTA):Prop:=∀(A:Addr->Prop) (ρ:PSt) (σ:St) (H:Hp) (Q:List AV->PSt->Prop) (Q':List V->Hp->Prop),Rel K A ρ σ H->pa ρ Q ->
 (∀vs H' as ρ',Q as ρ'->Fr ρ σ H ρ' H'->Rel K A ρ' σ H'->AZ K (OO A ρ' σ) σ H' as vs->Q' vs H')->ta σ H Q'
section
variable {K:PySem.W.Frag}{A O O':Addr->Prop}{ρ ρ':PSt}{σ:St}{H H' H0:Hp}
theorem AOk.keeps{a:AV}{v:V}(k:bh O H O' H')(h:AOk K O σ H a v):AOk K O' σ H' a v:=by
 cases a with
 | v d=>exact FV.keeps k h
 | sl i=>exact h
theorem Out.frz{p:PV}{v:V}(h:Out K A ρ σ H0 H p v):Rel K A ρ σ H/\FV K (OO A ρ σ) H v p.d:=by
 cases p with
 | dat d=>exact h
 | own ds =>
  obtain⟨a,xs,rfl,na,_,e,R,f⟩:=h;refine⟨R.less fun b z=>.inl z,.lst (fun z=>?_) e (f.keeps (bh.less fun b z=>z.imp .inl id))⟩;exact z.elim na (fun z=>R.sep a (.inr rfl) z)
 | ins c ns ds =>
  obtain⟨a,dx,fs,rfl,na,_,e,m,R,f⟩:=h;refine⟨R.less fun b z=>.inl z,.obj (fun z=>?_) e m (f.keeps (bh.less fun b z=>z.imp .inl id))⟩;exact z.elim na (fun z=>R.sep a (.inr rfl) z)
theorem Out.h0{p:PV}{v:V}{H1:Hp}(h:Out K A ρ σ H0 H p v)(dm:∀b,H1 b≠none->H0 b≠none):Out K A ρ σ H1 H p v:=by
 have k:∀a,H0 a=none->H1 a=none:=fun a e=>by
  cases z:H1 a with
  | none=>rfl
  | some o=>exact absurd e (dm a (by rw [z];exact nofun))
 cases p with
 | dat d=>exact h
 | own ds=>obtain⟨a,xs,e1,na,e2,r⟩:=h;exact⟨a,xs,e1,na,k a e2,r⟩
 | ins c ns ds=>obtain⟨a,dx,fs,e1,na,e2,r⟩:=h;exact⟨a,dx,fs,e1,na,k a e2,r⟩
def Gr(H H':Hp):Prop:=∀b o,H b=some o->H' b=some o
theorem Gr.fr(g:Gr H H'):Fr ρ σ H ρ H':=⟨fun b o _ h=>g b o h,fun b h=>by
 cases e:H b with
 | none=>exact absurd e h
 | some o=>rw [g b o e];exact nofun,fun _ h=>h⟩
theorem Gr.new{p:Addr}{o:HO}(h:H p=none):Gr H (upd H p o):=fun b u e=>by rw [aM (br e h)];exact e
theorem Gr.refl(H:Hp):Gr H H:=fun _ _ h=>h
theorem Rel.gr(R:Rel K A ρ σ H)(g:Gr H H'):Rel K A ρ σ H':=by
 refine⟨R.len,fun i q e=>?_,R.dj,fun b z=>(g.fr (ρ:=ρ) (σ:=σ)).dm b (R.dom b z),R.sep⟩;obtain⟨v,s,r⟩:=R.get i q e;refine⟨v,s,r.keeps (g.fr (ρ:=ρ) (σ:=σ)).keeps fun ow a ea=>?_⟩;obtain⟨a',u,e1,e2⟩:=r.ref ow;rw [ea] at e1;cases e1;rw [e2];exact g _ _ e2
theorem Rel.grA(R:Rel K A ρ σ H)(g:Gr H H'){p:Addr}(h:H p=none)(h':H' p≠none):Rel K (gu A p) ρ σ H':=by
 have k:bh (OO A ρ σ) H (OO (gu A p) ρ σ) H':=fun b u n e=>by
  refine⟨fun z=>?_,g _ _ e⟩
  rcases z with (z|z)|z
  .exact n (.inl z)
  .rw [z,h] at e;cases e
  .exact n (.inr z)
 refine⟨R.len,fun i q e=>?_,R.dj,fun b z=>?_,fun b z w=>?_⟩
 .obtain⟨v,s,r⟩:=R.get i q e;refine⟨v,s,r.keeps k fun ow a ea=>?_⟩;obtain⟨a',u,e1,e2⟩:=r.ref ow;rw [ea] at e1;cases e1;rw [e2];exact g _ _ e2
 .rcases z with z|z
  .exact (g.fr (ρ:=ρ) (σ:=σ)).dm b (R.dom b z)
  .rw [z];exact h'
 .rcases z with z|z
  .exact R.sep b z w
  .exact R.wr w (by rw [z];exact h)
def rn(K:PySem.W.Frag)(O:Addr->Prop)(H0 H:Hp):PV->V->Prop
 | .dat d,v=>FV K O H v d
 | .own ds,v=>∃a xs,v=.ref a/\H0 a=none/\H a=some (.lst xs)/\FVs K (gu O a) H xs ds
 | .ins c ns ds,v=>∃a dx fs,v=.ref a/\H0 a=none/\H a=some (.ins (cJ K c) dx fs)/\fs.map Prod.fst=ns/\FVs K (gu O a) H (fs.map Prod.snd) ds
theorem rn.out{p:PV}{v:V}(R:Rel K A ρ σ H)(g:Gr H H')(h:rn K (OO A ρ σ) H H' p v):Out K A ρ σ H H' p v:=by
 cases p with
 | dat d=>exact⟨R.gr g,h⟩
 | own ds =>
  obtain⟨a,xs,rfl,e0,e,f⟩:=h;refine⟨a,xs,rfl,fun z=>R.dom a z e0,e0,e,R.grA g e0 (by rw [e];exact nofun),f.keeps (bh.less fun b z=>?_)⟩
  rcases z with (z|z)|z
  .exact .inl (.inl z)
  .exact .inr z
  .exact .inl (.inr z)
 | ins c ns ds =>
  obtain⟨a,dx,fs,rfl,e0,e,m,f⟩:=h;refine⟨a,dx,fs,rfl,fun z=>R.dom a z e0,e0,e,m,R.grA g e0 (by rw [e];exact nofun),f.keeps (bh.less fun b z=>?_)⟩
  rcases z with (z|z)|z
  .exact .inl (.inl z)
  .exact .inr z
  .exact .inl (.inr z)
def FVc(K:PySem.W.Frag)(O:Addr->Prop)(H:Hp)(v:V)(d:D):Prop:=FV K O H v d\/(∃a xs ds,v=.ref a/\d=.lst ds/\H a=some (.lst xs)/\FVs K O H xs ds) \/
 ∃a dx c fs ns ds,v=.ref a/\d=.obj c ns ds/\H a=some (.ins (cJ K c) dx fs)/\fs.map Prod.fst=ns/\FVs K O H (fs.map Prod.snd) ds
def cont(ρ:PSt):AV->Option D
 | .v d=>some d
 | .sl i=>match ρ[i]? with|some (some p)=>some p.d|_=>none
theorem Rel.cont{av:AV}{v:V}{d:D}(R:Rel K A ρ σ H)(h:AOk K (OO A ρ σ) σ H av v)(e:L2.cont ρ av=some d):FVc K (OO A ρ σ) H v d:=by
 cases av with
 | v d'=>cases e;exact .inl h
 | sl i =>
  have h:σ[i]?=some (some v):=h;simp only [L2.cont] at e
  split at e
  .rename_i p ep;cases e;obtain⟨v',s,r⟩:=R.get i p ep;rw [h] at s;cases s
   cases p with
   | dat d=>exact .inl r
   | own ds=>obtain⟨a,xs,e1,e2,f⟩:=r;exact .inr (.inl ⟨a,xs,ds,e1,rfl,e2,f⟩)
   | ins c ns ds=>obtain⟨a,dx,fs,e1,e2,m,f⟩:=r;exact .inr (.inr ⟨a,dx,c,fs,ns,ds,e1,rfl,e2,m,f⟩)
  .cases e
theorem FVc.lst{v:V}{ds:List D}(h:FVc K O H v (.lst ds)):∃a xs,v=.ref a/\H a=some (.lst xs)/\FVs K O H xs ds:=by
 rcases h with h|⟨a,xs,ds',e1,e2,e3,f⟩|⟨a,dx,c,fs,ns,ds',e1,e2,_⟩
 .cases h with
  | lst n s f=>exact⟨_,_,rfl,s,f⟩
 .cases e2;exact⟨a,xs,e1,e3,f⟩
 .cases e2
theorem FVc.fv{v:V}{d:D}(h:FVc K O H v d)(n:∀ds,d≠.lst ds)(n':∀c ns ds,d≠.obj c ns ds):FV K O H v d:=by
 rcases h with h|⟨a,xs,ds',e1,e2,e3,f⟩|⟨a,dx,c,fs,ns,ds',e1,e2,_⟩
 .exact h
 .exact absurd e2 (n _)
 .exact absurd e2 (n' _ _ _)
theorem FVc.tup{v:V}{ds:List D}(h:FVc K O H v (.tup ds)):∃a xs,v=.ref a/\¬ O a/\H a=some (.tup xs)/\FVs K O H xs ds:=by
 cases h.fv nofun nofun with
 | tup n s f=>exact⟨_,_,rfl,n,s,f⟩
theorem FVc.scr{v:V}{ns:List Int}(h:FVc K O H v (.scr ns)):∃a,v=.ref a/\SqL K H a (ns.map V.int):=by
 cases h.fv nofun nofun with
 | scr s=>exact⟨_,rfl,s.sq⟩
theorem FVc.int{v:V}{i:Int}(h:FVc K O H v (.int i)):v=.int i:=by cases h.fv nofun nofun;rfl
theorem FVc.str{v:V}{i:List Nat}(h:FVc K O H v (.str i)):v=.str (S i)/\i.length<=1000000:=by
 cases h.fv nofun nofun with
 | str _ z=>exact⟨rfl,z⟩
end
def pC(d:D):PTE:=fun ρ Q=>Q (.dat d) ρ
def bo(i:Nat):PTE:=fun ρ Q=>match ρ[i]? with
 | some (some (.dat d))=>Q (.dat d) ρ
 | some (some (.own ds))=>Q (.dat (.lst ds)) (ρ.set i (some (.dat (.lst ds))))
 | some (some (.ins c ns ds))=>Q (.dat (.obj c ns ds)) (ρ.set i (some (.dat (.obj c ns ds))))
 | _=>False
def pSl(i:Nat):PA1:=fun ρ Q=>match ρ[i]? with
 | some (some (.dat d))=>Q (.v d) ρ
 | some (some (.own _))=>Q (.sl i) ρ
 | some (some (.ins _ _ _))=>Q (.sl i) ρ
 | _=>False
def pFz(pe:PTE):PA1:=fun ρ Q=>pe ρ fun p ρ1=>Q (.v p.d) ρ1
def ao:PTA:=fun ρ Q=>Q [] ρ
def af(pa:PA1)(pr:PTA):PTA:=fun ρ Q=>pa ρ fun a ρ1=>pr ρ1 fun as ρ2=>Q (a::as) ρ2
section
variable {K:PySem.W.Frag}{ta tb tc:TE}{pa pb pc:PA1}{pe pe':PTE}{tr:TA}{pr:PTA}
theorem E6{v:V}{d:D}(h:∀O H,FV K O H v d):LE K (tC v) (pC d):=fun A ρ σ H Q Q' R q k=>k v H (.dat d) ρ q (Fr.refl _ _ _) ⟨R,h _ _⟩
theorem le_int{i:Int}:LE K (tC (.int i)) (pC (.int i)):=E6 fun _ _=>.int i
theorem rJ{i:Bool}:LE K (tC (.bl i)) (pC (.bl i)):=E6 fun _ _=>.bl i
theorem le_str{l:List Nat}(h:l.length<=1000000:=by decide):LE K (tC (.str (S l))) (pC (.str l)):=E6 fun _ _=>.str l h
theorem am{i:Nat}:LE K (bg i) (bo i):=by
 intro A ρ σ H Q Q' R q k;unfold bo at q
 split at q
 .rename_i d e;obtain⟨v,s,r⟩:=R.get i _ e;exact⟨v,s,k v H (.dat d) ρ q (Fr.refl _ _ _) ⟨R,r⟩⟩
 .rename_i ds e;obtain⟨R',f⟩:=R.frz e;obtain⟨v,s,r⟩:=R'.get i _ (getElem?_set_self (List.getElem?_eq_some_iff.mp e).1);exact⟨v,s,k v H (.dat (.lst ds)) _ q f ⟨R',r⟩⟩
 .rename_i c ns ds e;obtain⟨R',f⟩:=R.frz e;obtain⟨v,s,r⟩:=R'.get i _ (getElem?_set_self (List.getElem?_eq_some_iff.mp e).1);exact⟨v,s,k v H (.dat (.obj c ns ds)) _ q f ⟨R',r⟩⟩
 .exact q.elim
theorem aj{i:Nat}:LA1 K (bg i) (pSl i):=by
 intro A ρ σ H Q Q' R q k;unfold pSl at q
 split at q
 .rename_i d e;obtain⟨v,s,r⟩:=R.get i _ e;exact⟨v,s,k v H _ ρ q (Fr.refl _ _ _) R r⟩
 .rename_i e;obtain⟨v,s,r⟩:=R.get i _ e;exact⟨v,s,k v H _ ρ q (Fr.refl _ _ _) R s⟩
 .rename_i e;obtain⟨v,s,r⟩:=R.get i _ e;exact⟨v,s,k v H _ ρ q (Fr.refl _ _ _) R s⟩
 .exact q.elim
theorem ac(h:LE K ta pe):LA1 K ta (pFz pe):=fun A ρ σ H Q Q' R q k=>h A ρ σ H _ Q' R q fun v H' p ρ' q f o=>k v H' _ ρ' q f o.frz.1 o.frz.2
theorem ae:LAs K fB ao:=fun A ρ σ H Q Q' R q k=>k [] H [] ρ q (Fr.refl _ _ _) R .nil
theorem aa(h:LA1 K ta pa)(hr:LAs K tr pr):LAs K (bB ta tr) (af pa pr):=fun A ρ σ H Q Q' R q k =>
 h A ρ σ H _ _ R q fun v H1 a ρ1 q1 f1 R1 o1=>hr A ρ1 σ H1 _ _ R1 q1 fun vs H2 as ρ2 q2 f2 R2 o2=>k _ H2 _ ρ2 q2 (f1.trans f2) R2 (.cons (o1.keeps f2.keeps) o2)
def LO(K:PySem.W.Frag)(r:R2)(f:D->D->(PV->Prop)->Prop):Prop:=∀(O:Addr->Prop) (H:Hp) (x y:V) (a b:D) (Q:PV->Prop) (Q':VK),(∀b,O b->H b≠none)->FVc K O H x a->FVc K O H y b->f a b Q ->
 (∀v H' p,Q p->Gr H H'->rn K O H H' p v->Q' v H')->r x y H Q'
def op2(f:D->D->(PV->Prop)->Prop)(ρ:PSt)(x y:AV)(Q:PKt):Prop:=match cont ρ x,cont ρ y with
 | some a,some b=>f a b fun p=>Q p ρ
 | _,_=>False
def pOp(f:D->D->(PV->Prop)->Prop)(pa pb:PA1):PTE:=fun ρ Q=>pa ρ fun x ρ1=>pb ρ1 fun y ρ2=>op2 f ρ2 x y Q
theorem Rel.dom2{A:Addr->Prop}{ρ:PSt}{σ:St}{H:Hp}(R:Rel K A ρ σ H):∀b,OO A ρ σ b->H b≠none:=fun b z=>z.elim (R.dom b) R.wr
theorem al{r:R2}{f:D->D->(PV->Prop)->Prop}(o:LO K r f)(ha:LA1 K ta pa)(hb:LA1 K tb pb):LE K (tOp r ta tb) (pOp f pa pb):=fun A ρ σ H Q Q' R q k =>
 ha A ρ σ H _ _ R q fun v H1 a ρ1 q1 f1 R1 o1=>hb A ρ1 σ H1 _ _ R1 q1 fun w H2 b ρ2 q2 f2 R2 o2=>by
  unfold op2 at q2
  split at q2
  .rename_i da db e1 e2;exact o _ H2 v w da db _ _ R2.dom2 (R2.cont (o1.keeps f2.keeps) e1) (R2.cont o2 e2) q2 fun z H3 p q3 g ov=>k z H3 p ρ2 q3 ((f1.trans f2).trans g.fr) ((ov.out R2 g).h0 fun b z=>f2.dm b (f1.dm b z))
  .exact q2.elim
def LU(K:PySem.W.Frag)(r:V->Hp->VK->Prop)(f:D->(PV->Prop)->Prop):Prop:=∀(O:Addr->Prop) (H:Hp) (x:V) (a:D) (Q:PV->Prop) (Q':VK),(∀b,O b->H b≠none)->FVc K O H x a->f a Q ->
 (∀v H' p,Q p->Gr H H'->rn K O H H' p v->Q' v H')->r x H Q'
def op1(f:D->(PV->Prop)->Prop)(ρ:PSt)(x:AV)(Q:PKt):Prop:=match cont ρ x with
 | some a=>f a fun p=>Q p ρ
 | _=>False
def pUn(f:D->(PV->Prop)->Prop)(pa:PA1):PTE:=fun ρ Q=>pa ρ fun x ρ1=>op1 f ρ1 x Q
theorem qf{r:V->Hp->VK->Prop}{f:D->(PV->Prop)->Prop}(o:LU K r f)(ha:LA1 K ta pa):LE K (tUn r ta) (pUn f pa):=fun A ρ σ H Q Q' R q k =>
 ha A ρ σ H _ _ R q fun v H1 a ρ1 q1 f1 R1 o1=>by
  unfold op1 at q1
  split at q1
  .rename_i da e1;exact o _ H1 v da _ _ R1.dom2 (R1.cont o1 e1) q1 fun z H3 p q3 g ov=>k z H3 p ρ1 q3 (f1.trans g.fr) ((ov.out R1 g).h0 fun b z=>f1.dm b z)
  .exact q1.elim
inductive Ca (K:PySem.W.Frag) (O:Addr->Prop) (H:Hp):List V->List D->Prop
 | nil:Ca K O H [] []
 | cons {x:V}{d:D}{xs:List V}{ds:List D}:FVc K O H x d->Ca K O H xs ds->Ca K O H (x::xs) (d::ds)
def conts(ρ:PSt):List AV->Option (List D)
 | []=>some []
 | a::r=>match cont ρ a,conts ρ r with
  | some d,some ds=>some (d::ds)
  | _,_=>none
theorem Rel.conts{A:Addr->Prop}{ρ:PSt}{σ:St}{H:Hp}(R:Rel K A ρ σ H):∀{as:List AV}{vs:List V}{ds:List D},AZ K (OO A ρ σ) σ H as vs->L2.conts ρ as=some ds->Ca K (OO A ρ σ) H vs ds
 | _,_,_,.nil,e=>by cases e;exact .nil
 | _,_,_,.cons a b,e=>by
  unfold L2.conts at e
  split at e
  .rename_i e1 e2;cases e;exact .cons (R.cont a e1) (R.conts b e2)
  .cases e
def LC(K:PySem.W.Frag)(r:List V->Hp->VK->Prop)(f:List D->(PV->Prop)->Prop):Prop:=∀(O:Addr->Prop) (H:Hp) (xs:List V) (as:List D) (Q:PV->Prop) (Q':VK),(∀b,O b->H b≠none)->Ca K O H xs as->f as Q ->
 (∀v H' p,Q p->Gr H H'->rn K O H H' p v->Q' v H')->r xs H Q'
def opN(f:List D->(PV->Prop)->Prop)(ρ:PSt)(as:List AV)(Q:PKt):Prop:=match conts ρ as with
 | some ds=>f ds fun p=>Q p ρ
 | _=>False
def pCB(f:List D->(PV->Prop)->Prop)(pr:PTA):PTE:=fun ρ Q=>pr ρ fun as ρ1=>opN f ρ1 as Q
theorem bD{r:List V->Hp->VK->Prop}{f:List D->(PV->Prop)->Prop}(o:LC K r f)(ha:LAs K tr pr):LE K (tCB r tr) (pCB f pr):=fun A ρ σ H Q Q' R q k =>
 ha A ρ σ H _ _ R q fun vs H1 as ρ1 q1 f1 R1 o1=>by
  unfold opN at q1
  split at q1
  .rename_i ds e1;exact o _ H1 vs ds _ _ R1.dom2 (R1.conts o1 e1) q1 fun z H3 p q3 g ov=>k z H3 p ρ1 q3 (f1.trans g.fr) ((ov.out R1 g).h0 fun b z=>f1.dm b z)
  .exact q1.elim
def avD:List AV->Option (List D)
 | []=>some []
 | .v d::r=>match avD r with|some ds=>some (d::ds)|none=>none
 | .sl _::_=>none
theorem AZ.avD{O:Addr->Prop}{σ:St}{H:Hp}:∀{as:List AV}{vs:List V}{ds:List D},AZ K O σ H as vs->L2.avD as=some ds->FVs K O H vs ds
 | _,_,_,.nil,e=>by cases e;exact .nil
 | .v d::r,_,_,.cons a b,e=>by
  simp only [L2.avD] at e
  split at e
  .rename_i e1;cases e;exact .cons a (b.avD e1)
  .cases e
 | .sl i::r,_,_,.cons a b,e=>by cases e
def mC(pr:PTA):PTE:=fun ρ Q=>pr ρ fun as ρ1=>match avD as with
 | some ds=>ds.length<=1000000/\Q (.own ds) ρ1
 | _=>False
def Ex(pr:PTA):PTE:=fun ρ Q=>pr ρ fun as ρ1=>match avD as with
 | some ds=>ds.length<=1000000/\Q (.dat (.tup ds)) ρ1
 | _=>False
theorem dB(ha:LAs K tr pr):LE K (FU tr) (mC pr):=fun A ρ σ H Q Q' R q k =>
 ha A ρ σ H _ _ R q fun vs H1 as ρ1 q1 f1 R1 o1=>by
  split at q1
  .rename_i ds e1;have fs:=o1.avD e1;refine⟨sz _ (by rw [fs.length];exact q1.1),fun p hp=>k _ _ (.own ds) ρ1 q1.2 (f1.trans (Fr.new hp)) ?_⟩;have g:Gr H1 (upd H1 p (.lst vs)):=Gr.new hp;exact (rn.out (p:=.own ds) R1 g ⟨p,vs,rfl,hp,bv,fs.keeps (bh.fresh hp)⟩).h0 fun b z=>f1.dm b z
  .exact q1.elim
theorem wk(ha:LAs K tr pr):LE K (CN tr) (Ex pr):=fun A ρ σ H Q Q' R q k =>
 ha A ρ σ H _ _ R q fun vs H1 as ρ1 q1 f1 R1 o1=>by
  split at q1
  .rename_i ds e1;have fs:=o1.avD e1;refine⟨sz _ (by rw [fs.length];exact q1.1),fun p hp=>k _ _ (.dat (.tup ds)) ρ1 q1.2 (f1.trans (Fr.new hp)) ⟨R1.grow hp,?_⟩⟩;exact .tup (R1.oo hp) bv (fs.keeps (Fr.new hp).keeps)
  .exact q1.elim
def pB(pe:PTE):PTT:=fun ρ Q=>pe ρ fun p ρ1=>match p with
 | .dat (.bl b)=>Q b ρ1
 | _=>False
theorem rK(h:LE K ta pe):LT K (tB ta) (pB pe):=fun A ρ σ H Q Q' R q k=>h A ρ σ H _ _ R q fun v H1 p ρ1 q1 f1 o1=>by
 split at q1
 .rename_i b;obtain⟨R1,f⟩:=o1;cases f;exact⟨b,rfl,k b H1 ρ1 q1 f1 R1⟩
 .exact q1.elim
theorem iP(h:LE K ta pe):LT K (nW ta) (pB pe):=rK h
def Cb(a b:PTT):PTT:=fun ρ Q=>a ρ fun c ρ1=>gL c (b ρ1 Q) (Q false ρ1)
def pOr(a b:PTT):PTT:=fun ρ Q=>a ρ fun c ρ1=>gL c (Q true ρ1) (b ρ1 Q)
def wl(a:PTT):PTT:=fun ρ Q=>a ρ fun c ρ1=>Q (!c) ρ1
variable {tta ttb:TT}{pta ptb:PTT}
theorem qg(ha:LT K tta pta)(hb:LT K ttb ptb):LT K (EE tta ttb) (Cb pta ptb):=fun A ρ σ H Q Q' R q k=>ha A ρ σ H _ _ R q fun c H1 ρ1 q1 f1 R1=>by
 cases c with
 | true=>exact hb A ρ1 σ H1 _ _ R1 q1 fun b H2 ρ2 q2 f2 R2=>k b H2 ρ2 q2 (f1.trans f2) R2
 | false=>exact k false H1 ρ1 q1 f1 R1
theorem uJ(ha:LT K tta pta)(hb:LT K ttb ptb):LT K (tOr tta ttb) (pOr pta ptb):=fun A ρ σ H Q Q' R q k=>ha A ρ σ H _ _ R q fun c H1 ρ1 q1 f1 R1=>by
 cases c with
 | false=>exact hb A ρ1 σ H1 _ _ R1 q1 fun b H2 ρ2 q2 f2 R2=>k b H2 ρ2 q2 (f1.trans f2) R2
 | true=>exact k true H1 ρ1 q1 f1 R1
theorem iB(ha:LT K tta pta):LT K (FI tta) (wl pta):=fun A ρ σ H Q Q' R q k=>ha A ρ σ H _ _ R q fun c H1 ρ1 q1 f1 R1=>k _ H1 ρ1 q1 f1 R1
def Dr(a b:PTE):PTE:=fun ρ Q=>a ρ fun p ρ1=>match p with
 | .dat (.bl c)=>gL c (b ρ1 Q) (Q (.dat (.bl false)) ρ1)
 | _=>False
def Ds(a:PTE):PTE:=fun ρ Q=>a ρ fun p ρ1=>match p with
 | .dat (.bl c)=>Q (.dat (.bl (!c))) ρ1
 | _=>False
theorem Dt(ha:LE K ta pe)(hb:LE K tb pe'):LE K (Cs ta tb) (Dr pe pe'):=fun A ρ σ H Q Q' R q k=>ha A ρ σ H _ _ R q fun v H1 p ρ1 q1 f1 o1=>by
 split at q1
 .rename_i c;obtain⟨R1,f⟩:=o1;cases f;refine⟨c,rfl,?_⟩
  cases c with
  | true=>exact hb A ρ1 σ H1 _ _ R1 q1 fun b H2 p2 ρ2 q2 f2 o2=>k b H2 p2 ρ2 q2 (f1.trans f2) (o2.h0 fun b z=>f1.dm b z)
  | false=>exact k _ H1 _ ρ1 q1 f1 ⟨R1,.bl false⟩
 .exact q1.elim
theorem Du(ha:LE K ta pe):LE K (Ct ta) (Ds pe):=fun A ρ σ H Q Q' R q k=>ha A ρ σ H _ _ R q fun v H1 p ρ1 q1 f1 o1=>by
 split at q1
 .rename_i c;obtain⟨R1,f⟩:=o1;cases f;exact⟨c,rfl,k _ H1 _ ρ1 q1 f1 ⟨R1,.bl (!c)⟩⟩
 .exact q1.elim
def pIf(t:PTT)(a b:PTE):PTE:=fun ρ Q=>t ρ fun c ρ1=>gL c (a ρ1 Q) (b ρ1 Q)
theorem E7(ht:LT K tta pta)(ha:LE K ta pe)(hb:LE K tb pe'):LE K (tIf tta ta tb) (pIf pta pe pe'):=fun A ρ σ H Q Q' R q k=>ht A ρ σ H _ _ R q fun c H1 ρ1 q1 f1 R1=>by
 cases c with
 | true=>exact ha A ρ1 σ H1 _ _ R1 q1 fun b H2 p2 ρ2 q2 f2 o2=>k b H2 p2 ρ2 q2 (f1.trans f2) (o2.h0 fun b z=>f1.dm b z)
 | false=>exact hb A ρ1 σ H1 _ _ R1 q1 fun b H2 p2 ρ2 q2 f2 o2=>k b H2 p2 ρ2 q2 (f1.trans f2) (o2.h0 fun b z=>f1.dm b z)
end
abbrev F2:=D->D->(PV->Prop)->Prop
def fI0(g:Int->Int->D):F2
 | .int i,.int j,Q=>Q (.dat (g i j))
 | _,_,_=>False
def fI(C:Int->Int->Prop)(g:Int->Int->D):F2
 | .int i,.int j,Q=>C i j/\Q (.dat (g i j))
 | _,_,_=>False
section
variable {K:PySem.W.Frag}{X:Cx}
theorem yq{g:Int->Int->V}{g':Int->Int->D}(h:∀i j O H,FV K O H (g i j) (g' i j)):LO K (rI0 g) (fI0 g'):=by
 intro O H x y a b Q Q' dom fx fy q k;unfold fI0 at q
 split at q
 .rename_i i j;exact⟨i,j,fx.int,fy.int,k _ H _ q (Gr.refl _) (h i j _ _)⟩
 .exact q.elim
theorem Dv{C:Int->Int->Prop}{g:Int->Int->V}{g':Int->Int->D}(h:∀i j O H,FV K O H (g i j) (g' i j)):LO K (rI C g) (fI C g'):=by
 intro O H x y a b Q Q' dom fx fy q k;unfold fI at q
 split at q
 .rename_i i j;exact⟨i,j,fx.int,fy.int,q.1,k _ H _ q.2 (Gr.refl _) (h i j _ _)⟩
 .exact q.elim
theorem dR{O:Addr->Prop}{H:Hp}{xs:List V}{ds:List D}{p:Addr}(hp:H p=none)(f:FVs K O H xs ds):rn K O H (upd H p (.lst xs)) (.own ds) (.ref p) :=
 ⟨p,xs,rfl,hp,bv,f.keeps (bh.fresh hp)⟩
theorem lm{O:Addr->Prop}{H:Hp}{xs:List V}{ds:List D}{p:Addr}(dom:∀b,O b->H b≠none)(hp:H p=none)(f:FVs K O H xs ds):rn K O H (upd H p (.tup xs)) (.dat (.tup ds)) (.ref p) :=
 .tup (fun z=>dom p z hp) bv (f.keeps fun b o n e=>⟨n,by rw [aM (br e hp)];exact e⟩)
def E8:R2:=fun x y H Q=>∃i j,x=.str (S i)/\y=.str (S j)/\i.length+j.length<=sizeLine/\Q (.str (S (i++j))) H
def A0(K:PySem.W.Frag):R2:=fun x y H Q=>rI0 (fun i j=>.int (i+j)) x y H Q\/E8 x y H Q\/Dm K x y H Q\/CQ K x y H Q
theorem E9(K:PySem.W.Frag)(e:X.K=K):OpR X (binaryOp .Add) (A0 K):=by
 subst e;exact OpR.or CC (OpR.or AK (OpR.or AR AA))
def Fa:F2
 | .int i,.int j,Q=>Q (.dat (.int (i+j)))
 | .str a,.str b,Q=>a.length+b.length<=1000000/\Q (.dat (.str (a++b)))
 | .lst a,.lst b,Q=>a.length+b.length<=1000000/\Q (.own (a++b))
 | .scr a,.lst b,Q=>a.length+b.length<=1000000/\Q (.own (a.map .int++b))
 | .tup a,.tup b,Q=>a≠[]/\a.length+b.length<=1000000/\Q (.dat (.tup (a++b)))
 | _,_,_=>False
theorem zE:LO K (A0 K) Fa:=by
 intro O H x y a b Q Q' dom fx fy q k;unfold Fa at q
 split at q
 .rename_i i j;exact .inl ⟨i,j,fx.int,fy.int,k _ H _ q (Gr.refl _) (.int _)⟩
 .rename_i i j;exact .inr (.inl ⟨i,j,fx.str.1,fy.str.1,sz _ q.1,k _ H _ q.2 (Gr.refl _) (.str _ (by rw [length_append];exact q.1))⟩)
 .rename_i i j;obtain⟨a,xs,rfl,e1,f1⟩:=fx.lst;obtain⟨b,ys,rfl,e2,f2⟩:=fy.lst;exact .inr (.inr (.inl ⟨a,b,xs,ys,rfl,rfl,SqL.of e1,SqL.of e2,sz _ (by rw [f1.length,f2.length];exact q.1),fun p hp=>k _ _ _ q.2 (Gr.new hp) (dR hp (f1.append f2))⟩))
 .rename_i i j;obtain⟨a,rfl,e1⟩:=fx.scr;obtain⟨b,ys,rfl,e2,f2⟩:=fy.lst;exact .inr (.inr (.inl ⟨a,b,_,ys,rfl,rfl,e1,SqL.of e2,sz _ (by rw [length_map,f2.length];exact q.1),fun p hp=>k _ _ _ q.2 (Gr.new hp) (dR hp ((FVs.of_ints i).append f2))⟩))
 .rename_i i j;obtain⟨a,xs,rfl,n1,e1,f1⟩:=fx.tup;obtain⟨b,ys,rfl,n2,e2,f2⟩:=fy.tup;have l1:=f1.length;have l2:=f2.length
  refine .inr (.inr (.inr ⟨a,b,xs,ys,rfl,rfl,SqT.of e1,SqT.of e2,fun z=>q.1 ?_,sz _ (by rw [l1,l2];exact q.2.1),fun z=>?_,fun _ p hp=>k _ _ _ q.2.2 (Gr.new hp) (lm dom hp (f1.append f2))⟩))
  .exact length_eq_zero_iff.mp (by rw [<- l1,z];rfl)
  .have:j=[]:=length_eq_zero_iff.mp (by rw [<- l2,z];rfl);subst this;exact k _ H _ q.2.2 (Gr.refl _) (by rw [append_nil];exact .tup n1 e1 f1)
 .exact q.elim
theorem ln:LO K (rI0 fun i j=>.int (i - j)) (fI0 fun i j=>.int (i - j)):=yq fun _ _ _ _=>.int _
theorem bE:LO K (rI (fun _ j=>0<j) fun i j=>.int (i % j)) (fI (fun _ j=>0<j) fun i j=>.int (i % j)):=Dv fun _ _ _ _=>.int _
theorem lr:LO K (rI EI fun i j=>.int (i / j)) (fI (fun _ j=>0<j/\j<1073741824) fun i j=>.int (i / j)):=Dv fun _ _ _ _=>.int _
theorem Dw:LO K (rI CB fun i j=>.int (i^j.toNat)) (fI (fun i j=>0<=j/\j<=1000000/\i.natAbs<2^64) fun i j=>.int (i^j.toNat)):=Dv fun _ _ _ _=>.int _
def Fb:R2:=fun x y H Q=>∃l n,x=.str (S l)/\y=.int n/\-1000000<=n/\n<=1000000/\n.toNat*l.length<=sizeLine/\Q (.str (S (kO l n))) H
def yr:R2:=fun x y H Q=>rI Eu (fun i j=>.int (i*j)) x y H Q\/Fb x y H Q\/F8 x y H Q
theorem gM:OpR X (binaryOp .Mult) yr:=OpR.or CF (OpR.or uC CZ)
def ou:F2
 | .int i,.int j,Q=>((-(2^64)<i/\i<2^64)\/(-(2^64)<j/\j<2^64))/\Q (.dat (.int (i*j)))
 | .str a,.int n,Q=>(-1000000<=n/\n<=1000000/\n.toNat*a.length<=1000000)/\Q (.dat (.str (kO a n)))
 | .lst a,.int n,Q=>(-1000000<=n/\n<=1000000/\a.length*n.toNat<=1000000)/\Q (.own (kO a n))
 | _,_,_=>False
theorem FVs.rep{O:Addr->Prop}{H:Hp}{xs:List V}{ds:List D}(f:FVs K O H xs ds):∀n,FVs K O H (List.replicate n xs).flatten (List.replicate n ds).flatten
 | 0=>.nil
 | n+1=>by rw [replicate_succ,replicate_succ,flatten_cons,flatten_cons];exact f.append (f.rep n)
theorem ef:LO K yr ou:=by
 intro O H x y a b Q Q' dom fx fy q k;unfold ou at q
 split at q
 .rename_i i j;exact .inl ⟨i,j,fx.int,fy.int,q.1,k _ H _ q.2 (Gr.refl _) (.int _)⟩
 .rename_i i j;exact .inr (.inl ⟨i,j,fx.str.1,fy.int,q.1.1,q.1.2.1,sz _ q.1.2.2,k _ H _ q.2 (Gr.refl _) (.str _ (by rw [fN];exact q.1.2.2))⟩)
 .rename_i i j;obtain⟨a,xs,rfl,e1,f1⟩:=fx.lst;exact .inr (.inr ⟨a,j,xs,rfl,fy.int,e1,by omega,by omega,sz _ (by rw [f1.length];exact q.1.2.2),fun p hp=>k _ _ _ q.2 (Gr.new hp) (dR hp (f1.rep _))⟩)
 .exact q.elim
def Gb:R2:=fun x y H Q=>rI0 (fun i j=>.bl (decide (i<j))) x y H Q\/∃i j,x=.str i/\y=.str j/\Q (.bl (decide (i.cps.toList<j.cps.toList))) H
def Ey:R2:=fun x y H Q=>rI0 (fun i j=>.bl (decide (i<=j))) x y H Q\/∃i j,x=.str i/\y=.str j/\Q (.bl (!decide (j.cps.toList<i.cps.toList))) H
theorem A1:OpR X (compareOp .Lt) Gb:=OpR.or EL vn
theorem Ez:OpR X (compareOp .LtE) Ey:=OpR.or EM vJ
def fLt:F2
 | .int i,.int j,Q=>Q (.dat (.bl (decide (i<j))))
 | .str i,.str j,Q=>Q (.dat (.bl (decide (i<j))))
 | _,_,_=>False
def fLe:F2
 | .int i,.int j,Q=>Q (.dat (.bl (decide (i<=j))))
 | .str i,.str j,Q=>Q (.dat (.bl (!decide (j<i))))
 | _,_,_=>False
theorem rL:LO K Gb fLt:=by
 intro O H x y a b Q Q' dom fx fy q k;unfold fLt at q
 split at q
 .rename_i i j;exact .inl ⟨i,j,fx.int,fy.int,k _ H _ q (Gr.refl _) (.bl _)⟩
 .rename_i i j;exact .inr ⟨_,_,fx.str.1,fy.str.1,k _ H _ q (Gr.refl _) (.bl _)⟩
 .exact q.elim
theorem yt:LO K Ey fLe:=by
 intro O H x y a b Q Q' dom fx fy q k;unfold fLe at q
 split at q
 .rename_i i j;exact .inl ⟨i,j,fx.int,fy.int,k _ H _ q (Gr.refl _) (.bl _)⟩
 .rename_i i j;exact .inr ⟨_,_,fx.str.1,fy.str.1,k _ H _ q (Gr.refl _) (.bl _)⟩
 .exact q.elim
theorem rM:LO K (rI0 fun i j=>.bl (decide (j<i))) (fI0 fun i j=>.bl (decide (j<i))):=yq fun _ _ _ _=>.bl _
theorem Fc:LO K (rI0 fun i j=>.bl (decide (j<=i))) (fI0 fun i j=>.bl (decide (j<=i))):=yq fun _ _ _ _=>.bl _
mutual
def D.py:D->PyData
 | .non=>.none|.bl b=>.bool b|.int i=>.int i|.str l=>.str (S l)|.ty _=>.none
 | .lst ds=>.list (D.pys ds)|.tup ds=>.tuple (D.pys ds)|.scr ns=>.list (ns.map .int)|.dic _ _=>.none|.obj _ _ _=>.none|.exc _ _ _=>.none
def D.pys:List D->List PyData
 | []=>[]
 | d::r=>d.py::D.pys r
end
mutual
def D.plain:D->Bool
 | .non=>true|.bl _=>true|.int _=>true|.str _=>true|.ty _=>false
 | .lst ds=>D.plains ds|.tup ds=>D.plains ds|.scr _=>true|.dic _ _=>false|.obj _ _ _=>false|.exc _ _ _=>false
def D.plains:List D->Bool
 | []=>true
 | d::r=>d.plain && D.plains r
end
mutual
theorem FV.dv{O:Addr->Prop}{H:Hp}:∀{v:V}{d:D},FV K O H v d->d.plain=true->DV K H v d.py
 | _,_,.non,_=>.non
 | _,_,.bl b,_=>.bl b
 | _,_,.int i,_=>.int i
 | _,_,.str l h,_=>.str (S l)
 | _,_,.ty n,p=>nomatch p
 | _,_,.scr s,_=>.lst s.sq (DVs.ints _)
 | _,_,.lst n e f,p=>.lst (SqL.of e) (FVs.dvs f p)
 | _,_,.tup n e f,p=>.tup (SqT.of e) (FVs.dvs f p)
 | _,_,.dic _ _ _ _,p=>nomatch p
 | _,_,.obj _ _ _ _,p=>nomatch p
 | _,_,.exc0 _ _,p=>nomatch p
 | _,_,.exc1 _ _ _ _ _ _,p=>nomatch p
theorem FVs.dvs{O:Addr->Prop}{H:Hp}:∀{vs:List V}{ds:List D},FVs K O H vs ds->D.plains ds=true->DVs K H vs (D.pys ds)
 | _,_,.nil,_=>.nil
 | _,_,.cons a b,p=>by
  have p:(_ && _)=true:=p;rw [and_eq_true] at p;exact .cons (FV.dv a p.1) (FVs.dvs b p.2)
end
theorem FVc.dv{O:Addr->Prop}{H:Hp}{v:V}{d:D}(h:FVc K O H v d)(p:d.plain=true):DV K H v d.py:=by
 rcases h with h|⟨a,xs,ds',rfl,rfl,e3,f⟩|⟨a,dx,c,fs,ns,ds',e1,rfl,_⟩
 .exact h.dv p
 .exact .lst (SqL.of e3) (f.dvs p)
 .cases p
def Dx(K:PySem.W.Frag)(neg:Bool):R2:=fun x y H Q=>rI0 (fun i j=>.bl (if neg then !decide (i=j) else decide (i=j))) x y H Q\/(∃i j,x=.str (S i)/\y=.str (S j)/\Q (.bl (if neg then !decide (i=j) else decide (i=j))) H)\/ET K neg x y H Q
theorem Gx(K:PySem.W.Frag)(e:X.K=K)(hu:X.A.units+64<cLine):OpR X (compareOp .Eq) (Dx K false):=by
 subst e;exact OpR.or Dd (OpR.or Db (C7 hu))
theorem Gy(K:PySem.W.Frag)(e:X.K=K)(hu:X.A.units+64<cLine):OpR X (compareOp .NotEq) (Dx K true):=by
 subst e;exact OpR.or De (OpR.or Dc (C8 hu))
def vd(a b:D):Prop:=a.plain=true/\b.plain=true/\SeqAt.shaped a.py=true/\SeqAt.shaped b.py=true
def deq(a b:D):Bool:=PyData.eqv a.py b.py
def fEq:F2
 | .int i,.int j,Q=>Q (.dat (.bl (decide (i=j))))
 | .str i,.str j,Q=>Q (.dat (.bl (decide (i=j))))
 | a,b,Q=>vd a b/\Q (.dat (.bl (deq a b)))
def fNe:F2
 | .int i,.int j,Q=>Q (.dat (.bl (!decide (i=j))))
 | .str i,.str j,Q=>Q (.dat (.bl (!decide (i=j))))
 | a,b,Q=>vd a b/\Q (.dat (.bl (!deq a b)))
theorem Fd:LO K (Dx K false) fEq:=by
 intro O H x y a b Q Q' dom fx fy q k;unfold fEq at q
 split at q
 .rename_i i j;exact .inl ⟨i,j,fx.int,fy.int,k _ H _ q (Gr.refl _) (.bl _)⟩
 .rename_i i j;exact .inr (.inl ⟨i,j,fx.str.1,fy.str.1,k _ H _ q (Gr.refl _) (.bl _)⟩)
 .exact .inr (.inr ⟨_,_,fx.dv q.1.1,fy.dv q.1.2.1,q.1.2.2.1,q.1.2.2.2,k _ H _ q.2 (Gr.refl _) (.bl _)⟩)
theorem Fe:LO K (Dx K true) fNe:=by
 intro O H x y a b Q Q' dom fx fy q k;unfold fNe at q
 split at q
 .rename_i i j;exact .inl ⟨i,j,fx.int,fy.int,k _ H _ q (Gr.refl _) (.bl _)⟩
 .rename_i i j;exact .inr (.inl ⟨i,j,fx.str.1,fy.str.1,k _ H _ q (Gr.refl _) (.bl _)⟩)
 .exact .inr (.inr ⟨_,_,fx.dv q.1.1,fy.dv q.1.2.1,q.1.2.2.1,q.1.2.2.2,k _ H _ q.2 (Gr.refl _) (.bl _)⟩)
def D.fl:D->Bool
 | .non=>true|.bl _=>true|.int _=>true|.str _=>true
 | _=>false
def eqF:D->D->Bool
 | .non,.non=>true
 | .bl a,.bl b=>a == b
 | .bl a,.int b=>(if a then 1 else 0) == b
 | .int a,.bl b=>a == (if b then 1 else 0)
 | .int a,.int b=>a == b
 | .str a,.str b=>a == b
 | _,_=>false
def inD(x:D)(xs:List D):Bool:=xs.any fun y=>eqF y x
theorem FV.fl{O:Addr->Prop}{H:Hp}{v:V}{d:D}(h:FV K O H v d)(f:d.fl=true):mB v=true:=by cases h <;> first|rfl|cases f
theorem Dy(a b:List Nat):(S a == S b)=(a == b):=by
 by_cases h:a=b
 .subst h;rw [beq_self_eq_true,beq_self_eq_true]
 .rw [beq_eq_false_iff_ne.mpr h,beq_eq_false_iff_ne.mpr (Gu h)]
theorem FV.eqF{O:Addr->Prop}{H:Hp}{v w:V}{d e:D}(h:FV K O H v d)(f:d.fl=true)(h':FV K O H w e)(f':e.fl=true):eqV v w=L2.eqF d e:=by
 cases h <;> first|(cases f;done)|(cases h' <;> first|(cases f';done)|rfl|exact Dy _ _)
theorem FVs.inD{O:Addr->Prop}{H:Hp}{v:V}{d:D}(h:FV K O H v d)(f:d.fl=true):∀{xs:List V}{ds:List D},FVs K O H xs ds->ds.all D.fl=true->xs.all mB=true/\inV v xs=L2.inD d ds
 | _,_,.nil,_=>⟨rfl,rfl⟩
 | _,_,.cons a b,g=>by
  rw [all_cons,and_eq_true] at g;obtain⟨i1,i2⟩:=b.inD h f g.2;refine⟨by rw [all_cons,a.fl g.1,i1];rfl,?_⟩;unfold inV L2.inD at i2 ⊢;rw [any_cons,any_cons,i2,a.eqF g.1 h f]
def fIn(neg:Bool):F2
 | a,.lst ds,Q=>(a.fl=true/\ds.all D.fl=true)/\Q (.dat (.bl (if neg then !inD a ds else inD a ds)))
 | a,.tup ds,Q=>(a.fl=true/\ds.all D.fl=true)/\Q (.dat (.bl (if neg then !inD a ds else inD a ds)))
 | _,_,_=>False
theorem FVc.fl{O:Addr->Prop}{H:Hp}{v:V}{d:D}(h:FVc K O H v d)(f:d.fl=true):FV K O H v d:=h.fv (fun _ z=>by rw [z] at f;cases f) (fun _ _ _ z=>by rw [z] at f;cases f)
theorem Gz(K:PySem.W.Frag)(e:X.K=K):OpR X (compareOp .In) (rIn K false):=by subst e;exact vz
theorem A2(K:PySem.W.Frag)(e:X.K=K):OpR X (compareOp .NotIn) (rIn K true):=by subst e;exact pS
theorem Dz{neg:Bool}:LO K (rIn K neg) (fIn neg):=by
 intro O H x y a b Q Q' dom fx fy q k;unfold fIn at q
 split at q
 .obtain⟨p,xs,rfl,e1,f1⟩:=fy.lst;obtain⟨g1,g2⟩:=f1.inD (fx.fl q.1.1) q.1.1 q.1.2;exact⟨p,xs,rfl,.inl (SqL.of e1),(fx.fl q.1.1).fl q.1.1,g1,by rw [g2];exact k _ H _ q.2 (Gr.refl _) (.bl _)⟩
 .obtain⟨p,xs,rfl,n1,e1,f1⟩:=fy.tup;obtain⟨g1,g2⟩:=f1.inD (fx.fl q.1.1) q.1.1 q.1.2;exact⟨p,xs,rfl,.inr (SqT.of e1),(fx.fl q.1.1).fl q.1.1,g1,by rw [g2];exact k _ H _ q.2 (Gr.refl _) (.bl _)⟩
 .exact q.elim
def m5(K:PySem.W.Frag):R2:=fun x y H Q=>FY K x y H Q\/FZ K x y H Q\/C9 x y H Q
theorem jg(K:PySem.W.Frag)(e:X.K=K):IxR X (m5 K):=by
 subst e;exact IxR.or AD (IxR.or CS AJ)
def fIx:F2
 | .lst ds,.int i,Q=>∃d,atI ds i=some d/\Q (.dat d)
 | .tup ds,.int i,Q=>∃d,atI ds i=some d/\Q (.dat d)
 | .scr ns,.int i,Q=>∃d,atI ns i=some d/\Q (.dat (.int d))
 | .str l,.int i,Q=>∃c,atI l i=some c/\Q (.dat (.str [c]))
 | _,_,_=>False
theorem FVs.atI{O:Addr->Prop}{H:Hp}{vs:List V}{ds:List D}{i:Int}{d:D}(f:FVs K O H vs ds)(h:L2.atI ds i=some d):∃v,L2.atI vs i=some v/\FV K O H v d:=by
 unfold L2.atI at h ⊢;rw [f.length]
 cases e:ixN ds.length i with
 | none=>rw [e] at h;cases h
 | some j=>rw [e] at h;exact f.getD h
theorem dJ:LO K (m5 K) fIx:=by
 intro O H x y a b Q Q' dom fx fy q k;unfold fIx at q
 split at q
 .obtain⟨d,hd,q⟩:=q;obtain⟨p,xs,rfl,e1,f1⟩:=fx.lst;obtain⟨v,hv,fv⟩:=f1.atI hd;exact .inl ⟨p,xs,_,v,rfl,fy.int,SqL.of e1,hv,k _ H _ q (Gr.refl _) fv⟩
 .obtain⟨d,hd,q⟩:=q;obtain⟨p,xs,rfl,n1,e1,f1⟩:=fx.tup;obtain⟨v,hv,fv⟩:=f1.atI hd;exact .inr (.inl ⟨p,xs,_,v,rfl,fy.int,SqT.of e1,hv,k _ H _ q (Gr.refl _) fv⟩)
 .obtain⟨d,hd,q⟩:=q;obtain⟨p,rfl,e1⟩:=fx.scr;exact .inl ⟨p,_,_,_,rfl,fy.int,e1,AL hd,k _ H _ q (Gr.refl _) (.int d)⟩
 .obtain⟨c,hc,q⟩:=q;exact .inr (.inr ⟨_,_,c,fx.str.1,fy.int,sz _ fx.str.2,hc,k _ H _ q (Gr.refl _) (.str _ (by show 1<=1000000;decide))⟩)
 .exact q.elim
end
end L2
namespace L2
open PySem PySem.Spec PyProof.Rows _root_.HT
section
variable {prog:Program}{w:World}{A:Around}{E:Value->Shared->Prop}{s:Shared}
theorem jC{t sl:Addr}{items:Array Value}{vl vu:Value}{lo hi:Option Int}{Q:Value->Shared->Prop}(ht:IsTup s.heap t items)(hs:s.heap.IsSliceOf sl vl vu .none)(pl:IsPart vl lo)(pu:IsPart vu hi)
  (hw:sIx items.size 0 lo=0/\sIx items.size items.size hi=items.size)
  (h:Q (.ref t) s):wpAny (model prog w) A (getItem (.ref t) (.ref sl)) Q E s:=by
 obtain⟨os,hos,hcs,hds⟩:=id hs;have hTs:s.TypeIs (.ref sl) "slice":=⟨os,hos,hcs⟩
 unfold getItem
 try with_reducible refine wpAny_holding ?_
 first|refine wpAny_bind (wpAny_pure ?_)|skip
 refine wpAny_bind (wpAny_sequenceKey ht.typeIs (by decide) ?_)
 refine wpAny_bind (wpAny_callSpecial?_slot (name:=Str.ofString "__getitem__") ht.typeIs PyProof.Rows.slot_tuple_getitem
  (wpAny_call_entry PyProof.Rows.slot_tuple_getitem ht.typeIs entry_tuple_getitem ?_ (args_tuple_getitem _ _)))
 show wpAny _ _ (Builtin.Tuple.tupleItemsOf (.ref t) >>= _) _ _ s;refine wpAny_bind (tupleItemsOf_ ht ?_);refine wpAny_bind (wpAny_typeOf hTs ?_);rw [if_pos (by decide)];refine wpAny_bind (gq hs pl pu ?_)
 have hyes:(((sIx items.size 0 lo:Nat):Int) == 0 && (1:Int) == 1 && (sIx items.size items.size hi - sIx items.size 0 lo) == items.size)=true:=by
  rw [hw.1,hw.2,Nat.sub_zero];simp
 show wpAny _ _ (if (((sIx items.size 0 lo:Nat):Int) == 0 && (1:Int) == 1 && (sIx items.size items.size hi - sIx items.size 0 lo) == items.size)=true then _ else _) _ _ s;rw [if_pos hyes];refine wpAny_bind (m:=Builtin.Tuple.tupleIsExact _) (wpAny_bind (wpAny_typeOf ht.typeIs (wpAny_pure ?_)));rw [if_pos (by decide)]
 first
  | exact wpAny_bind (m:=rule _) (wpAny_pure (wpAny_pure ⟨_,rfl,wpAny_pure h⟩))
  | exact wpAny_pure ⟨_,rfl,wpAny_pure h⟩
  | exact wpAny_bind (wpAny_rule (wpAny_pure ⟨_,rfl,wpAny_pure h⟩))
def DA(K:PySem.W.Frag):V->Option Int->Option Int->Hp->VK->Prop:=fun x lo hi H Q=>∃a xs,x=.ref a/\SqT K H a xs/\(sIx xs.length 0 lo=0/\sIx xs.length xs.length hi=xs.length)/\Q (.ref a) H
theorem A3{X:Cx}:SlR X (DA X.K):=by
 intro pins s σ H x v vl vu lo hi sl Q I rx hs pl pu h;obtain⟨a,xs,rfl,hx,hw,q⟩:=h;cases rx;obtain⟨its,r,ht,hz⟩:=I.tuple hx;have hlen:its.toArray.size=xs.length:=by rw [size_toArray];exact r.length.symm
 refine⟨"tuple",_,PyProof.Rows.slot_tuple_getitem.lookup,ht.typeIs,?_⟩;exact jC ht hs pl pu (by rw [hlen];exact hw) ⟨.ref a,H,I,rfl,q⟩
end
end L2
namespace L2
open PySem PySem.Spec PyProof.Rows
section
variable {K:PySem.W.Frag}{X:Cx}{ta tb tc to:TE}{pa pb pc:PA1}{pe:PTE}{tr:TA}{pr:PTA}
def wm(f f':F2)(pa pb pc:PA1):PTE:=fun ρ Q=>pa ρ fun x ρ1=>pb ρ1 fun y ρ2=>op2 f ρ2 x y fun p ρ3=>match p with
 | .dat (.bl k)=>gL k (pc ρ3 fun z ρ4=>op2 f' ρ4 y z Q) (Q (.dat (.bl false)) ρ3)
 | _=>False
theorem tq{r r':R2}{f f':F2}(o:LO K r f)(o':LO K r' f')(ha:LA1 K ta pa)(hb:LA1 K tb pb)(hc:LA1 K tc pc):LE K (sR r r' ta tb tc) (wm f f' pa pb pc):=fun A ρ σ H Q Q' R q k =>
 ha A ρ σ H _ _ R q fun v H1 a ρ1 q1 f1 R1 o1=>hb A ρ1 σ H1 _ _ R1 q1 fun w H2 b ρ2 q2 f2 R2 o2=>by
  unfold op2 at q2
  split at q2
  .rename_i da db e1 e2;refine o _ H2 v w da db _ _ R2.dom2 (R2.cont (o1.keeps f2.keeps) e1) (R2.cont o2 e2) q2 fun z H3 p q3 g ov=>?_;dsimp only at q3
   split at q3
   .rename_i c;cases ov;refine⟨c,rfl,?_⟩;have R3:=R2.gr g
    cases c with
    | true =>
     refine hc A ρ2 σ H3 _ _ R3 q3 fun u H4 cc ρ4 q4 f4 R4 o4=>?_
     try unfold op2 at q4
     split at q4
     .rename_i dc dd e3 e4;have o2':AOk K (OO A ρ4 σ) σ H4 b w:=(o2.keeps (g.fr (ρ:=ρ2) (σ:=σ)).keeps).keeps f4.keeps;exact o' _ H4 w u _ _ _ _ R4.dom2 (R4.cont o2' e3) (R4.cont o4 e4) q4 fun z H5 p q5 g5 ov=>k z H5 p ρ4 q5 ((((f1.trans f2).trans g.fr).trans f4).trans g5.fr) ((ov.out R4 g5).h0 fun b z=>f4.dm b ((g.fr (ρ:=ρ2) (σ:=σ)).dm b (f2.dm b (f1.dm b z))))
     .exact q4.elim
    | false=>exact k _ H3 _ ρ2 q3 ((f1.trans f2).trans g.fr) ⟨R3,.bl false⟩
   .exact q3.elim
  .exact q2.elim
abbrev PTO:=PSt->(Option Int->PSt->Prop)->Prop
def LPo(K:PySem.W.Frag)(t:TO)(p:PTO):Prop:=∀(A:Addr->Prop) (ρ:PSt) (σ:St) (H:Hp) (Q:Option Int->PSt->Prop) (Q':Option Int->Hp->Prop),Rel K A ρ σ H->p ρ Q ->
 (∀b H' ρ',Q b ρ'->Fr ρ σ H ρ' H'->Rel K A ρ' σ H'->Q' b H')->t σ H Q'
def dq:PTO:=fun ρ Q=>Q none ρ
def c8(pe:PTE):PTO:=fun ρ Q=>pe ρ fun p ρ1=>match p with
 | .dat (.int i)=>Q (some i) ρ1
 | _=>False
theorem bM:LPo K nZ dq:=fun A ρ σ H Q Q' R q k=>k none H ρ q (Fr.refl _ _ _) R
theorem bC(h:LE K ta pe):LPo K (x5 ta) (c8 pe):=fun A ρ σ H Q Q' R q k=>h A ρ σ H _ _ R q fun v H1 p ρ1 q1 f1 o1=>by
 split at q1
 .rename_i i;obtain⟨R1,f⟩:=o1;cases f;exact⟨i,rfl,k _ H1 ρ1 q1 f1 R1⟩
 .exact q1.elim
def DB(K:PySem.W.Frag):V->Option Int->Option Int->Hp->VK->Prop:=fun x lo hi H Q=>F4 K x lo hi H Q\/F9 x lo hi H Q\/FW K x lo hi H Q\/DA K x lo hi H Q
theorem mD(K:PySem.W.Frag)(e:X.K=K):SlR X (DB K):=by
 subst e;exact SlR.or AE (SlR.or C5 (SlR.or CP A3))
def fSl:D->Option Int->Option Int->(PV->Prop)->Prop
 | .lst ds,lo,hi,Q=>Q (.own (eV ds lo hi))
 | .scr ns,lo,hi,Q=>Q (.own ((eV ns lo hi).map .int))
 | .str l,lo,hi,Q=>Q (.dat (.str (eV l lo hi)))
 | .tup ds,lo,hi,Q=>Q (.dat (.tup (eV ds lo hi)))
 | _,_,_,_=>False
theorem FVs.cut{O:Addr->Prop}{H:Hp}{xs:List V}{ds:List D}(f:FVs K O H xs ds)(lo hi:Option Int):FVs K O H (eV xs lo hi) (eV ds lo hi):=by
 unfold eV;rw [f.length];exact (f.drop _).take _
def df(pa:PA1)(pl ph:PTO):PTE:=fun ρ Q=>pa ρ fun x ρ1=>pl ρ1 fun lo ρ2=>ph ρ2 fun hi ρ3=>match cont ρ3 x with
 | some d=>fSl d lo hi fun p=>Q p ρ3
 | _=>False
theorem A4{α:Type}{ds:List α}{lo hi:Option Int}{n:Nat}(h:n=ds.length)(hw:HT.sIx n 0 lo=0/\HT.sIx n n hi=n):eV ds lo hi=ds:=by
 subst h;unfold eV;rw [hw.1,hw.2,drop_zero,Nat.sub_zero,take_length]
theorem lsl{O:Addr->Prop}{H:Hp}{x:V}{d:D}{lo hi:Option Int}{Q:PV->Prop}{Q':VK}(dom:∀b,O b->H b≠none)(fx:FVc K O H x d)(q:fSl d lo hi Q)(k:∀v H' p,Q p->Gr H H'->rn K O H H' p v->Q' v H'):DB K x lo hi H Q':=by
 unfold fSl at q
 split at q
 .obtain⟨a,xs,rfl,e1,f1⟩:=fx.lst;exact .inl ⟨a,xs,rfl,SqL.of e1,fun p hp=>k _ _ _ q (Gr.new hp) (dR hp (f1.cut _ _))⟩
 .obtain⟨a,rfl,e1⟩:=fx.scr;exact .inl ⟨a,_,rfl,e1,fun p hp=>k _ _ _ q (Gr.new hp) (dR hp (by rw [vF,sV];exact FVs.of_ints _))⟩
 .exact .inr (.inl ⟨_,fx.str.1,sz _ fx.str.2,k _ H _ q (Gr.refl _) (.str _ (Nat.le_trans (dY _ _ _) fx.str.2))⟩)
 .obtain⟨a,xs,rfl,n1,e1,f1⟩:=fx.tup
  by_cases hw:HT.sIx xs.length 0 lo=0/\HT.sIx xs.length xs.length hi=xs.length
  .refine .inr (.inr (.inr ⟨a,xs,rfl,SqT.of e1,hw,k _ H _ q (Gr.refl _) ?_⟩));rw [A4 f1.length hw];exact .tup n1 e1 f1
  .exact .inr (.inr (.inl ⟨a,xs,rfl,SqT.of e1,hw,fun p hp=>k _ _ _ q (Gr.new hp) (lm dom hp (f1.cut _ _))⟩))
 .exact q.elim
theorem bK{tl th:TO}{pl ph:PTO}(ha:LA1 K ta pa)(hl:LPo K tl pl)(hh:LPo K th ph):LE K (tSl (DB K) ta tl th) (df pa pl ph):=fun A ρ σ H Q Q' R q k =>
 ha A ρ σ H _ _ R q fun v H1 a ρ1 q1 f1 R1 o1=>hl A ρ1 σ H1 _ _ R1 q1 fun lo H2 ρ2 q2 f2 R2=>hh A ρ2 σ H2 _ _ R2 q2 fun hi H3 ρ3 q3 f3 R3=>by
  split at q3
  .rename_i d e1;exact lsl R3.dom2 (R3.cont (o1.keeps (f2.trans f3).keeps) e1) q3 fun z H4 p q4 g ov=>k z H4 p ρ3 q4 (((f1.trans f2).trans f3).trans g.fr) ((ov.out R3 g).h0 fun b z=>f3.dm b (f2.dm b (f1.dm b z)))
  .exact q3.elim
abbrev FN:=List D->(PV->Prop)->Prop
def lu(K:PySem.W.Frag):List V->Hp->VK->Prop:=fun xs H Q=>(∃l,xs=[.str (S l)]/\l.length<=sizeLine/\Q (.int l.length) H)\/E1 K xs H Q\/E2 K xs H Q\/∃p kvs,xs=[.ref p]/\Rd H p (.dK kvs)/\Q (.int kvs.length) H
theorem cY(K:PySem.W.Frag)(e:X.K=K):cN X (.builtin "len") (lu K):=by
 subst e;exact cN.or vM (cN.or vN (cN.or vO v8))
def gv:FN
 | [.str l],Q=>Q (.dat (.int l.length))
 | [.lst l],Q=>Q (.dat (.int l.length))
 | [.tup l],Q=>Q (.dat (.int l.length))
 | [.scr l],Q=>Q (.dat (.int l.length))
 | [.dic ks _],Q=>Q (.dat (.int ks.length))
 | _,_=>False
theorem bI:LC K (lu K) gv:=by
 intro O H xs as Q Q' dom fs q k;unfold gv at q
 split at q
 .cases fs with|cons a b=>cases b;rw [a.str.1];exact .inl ⟨_,rfl,sz _ a.str.2,k _ H _ q (Gr.refl _) (.int _)⟩
 .cases fs with
  | cons a b =>
   cases b;obtain⟨p,ys,rfl,e1,f1⟩:=a.lst;exact .inr (.inl ⟨p,ys,rfl,SqL.of e1,by rw [f1.length];exact k _ H _ q (Gr.refl _) (.int _)⟩)
 .cases fs with
  | cons a b =>
   cases b;obtain⟨p,ys,rfl,n1,e1,f1⟩:=a.tup;exact .inr (.inr (.inl ⟨p,ys,rfl,SqT.of e1,by rw [f1.length];exact k _ H _ q (Gr.refl _) (.int _)⟩))
 .cases fs with
  | cons a b =>
   cases b;obtain⟨p,rfl,e1⟩:=a.scr;exact .inr (.inl ⟨p,_,rfl,e1,by rw [length_map];exact k _ H _ q (Gr.refl _) (.int _)⟩)
 .cases fs with
  | cons a b =>
   cases b
   cases a.fv nofun nofun with
   | dic n e m f=>subst m;exact .inr (.inr (.inr ⟨_,_,rfl,.inl e,k _ H _ q (Gr.refl _) (by rw [length_map];exact .int _)⟩))
 .exact q.elim
inductive Kd where
 | int|bool|str|list|tuple|dict
def Kd.nm:Kd->String
 | .int=>"int"|.bool=>"bool"|.str=>"str"|.list=>"list"|.tuple=>"tuple"|.dict=>"dict"
def isK:Kd->D->Bool
 | .int,.int _=>true
 | .int,.bl _=>true
 | .bool,.bl _=>true
 | .str,.str _=>true
 | .list,.lst _=>true
 | .tuple,.tup _=>true
 | .dict,.dic _ _=>true
 | _,_=>false
def D.sort:D->Bool
 | .obj _ _ _=>false
 | .exc _ _ _=>false
 | .scr _=>false
 | .ty _=>false
 | _=>true
theorem FVc.ty{O:Addr->Prop}{H:Hp}{v:V}{d:D}(h:FVc K O H v d)(s:d.sort=true):∃t,rA K H v t/\∀k:Kd,PySem.W.kitOne K t (.type k.nm)=some (isK k d):=by
 rcases h with h|⟨a,xs,ds',rfl,rfl,e3,f⟩|⟨a,dx,c,fs,ns,ds',rfl,rfl,_⟩
 .cases h with
  | non=>exact⟨_,.non,fun k=>by cases k <;> rfl⟩
  | bl b=>exact⟨_,.bl b,fun k=>by cases k <;> rfl⟩
  | int i=>exact⟨_,.int i,fun k=>by cases k <;> rfl⟩
  | str l h=>exact⟨_,.str _,fun k=>by cases k <;> rfl⟩
  | ty n=>cases s
  | scr _=>cases s
  | lst n e f=>exact⟨_,.lst e,fun k=>by cases k <;> rfl⟩
  | tup n e f=>exact⟨_,.tup e,fun k=>by cases k <;> rfl⟩
  | dic n e m f=>exact⟨_,.dK e,fun k=>by cases k <;> rfl⟩
  | obj _ _ _ _=>cases s
  | exc0 _ _=>cases s
  | exc1 _ _ _ _ _ _=>cases s
 .exact⟨_,.lst e3,fun k=>by cases k <;> rfl⟩
 .cases s
theorem A5(K:PySem.W.Frag)(e:X.K=K):cN X (.builtin "isinstance") (Ga K):=by subst e;exact rD
def EA(k:Kd)(pa:PA1):PTE:=fun ρ Q=>pa ρ fun x ρ1=>match cont ρ1 x with
 | some d=>gL d.sort (Q (.dat (.bl (isK k d))) ρ1) False
 | _=>False
theorem wn(k:Kd)(ha:LA1 K ta pa):LE K (tCB (Ga K) (bB ta (bB (tC (.ty k.nm)) fB))) (EA k pa):=fun A ρ σ H Q Q' R q kk =>
 ha A ρ σ H _ _ R q fun v H1 a ρ1 q1 f1 R1 o1=>by
  split at q1
  .rename_i d e1
   cases hs:d.sort with
   | false=>rw [hs] at q1;exact q1.elim
   | true =>
    rw [hs] at q1;obtain⟨t,ty,hk⟩:=(R1.cont o1 e1).ty hs;exact⟨v,k.nm,t,isK k d,rfl,ty,hk k,kk _ H1 _ ρ1 q1 f1 ⟨R1,.bl _⟩⟩
  .exact q1.elim
end
structure DC where
 nx:PSt->Prop
 rt:PV->PSt->Prop
 bk:PSt->Prop:=fun _=>False
 ct:PSt->Prop:=fun _=>False
abbrev PTS:=DC->PSt->Prop
structure gH (fx:List (Nat×V)) (R:Addr->Prop) (H0:Hp) (ρ:PSt) (σ:St) (H:Hp):Prop where
 kp:∀b o,¬ R b->H0 b=some o->H b=some o
 dm:∀b,H0 b≠none->H b≠none
 ow:∀b,Wr ρ σ b->R b\/H0 b=none
 fx:∀p∈fx,σ[p.1]?=some (some p.2)
section
variable {K:PySem.W.Frag}{fx:List (Nat×V)}{A R:Addr->Prop}{H0 H H':Hp}{ρ ρ':PSt}{σ:St}
theorem gH.fr(F:gH fx R H0 ρ σ H)(f:Fr ρ σ H ρ' H'):gH fx R H0 ρ' σ H' :=
 ⟨fun b o n e=>f.kp b o (fun w=>(F.ow b w).elim n (fun z=>by rw [z] at e;cases e)) (F.kp b o n e),fun b z=>f.dm b (F.dm b z),fun b w=>F.ow b (f.ow b w),F.fx⟩
theorem gH.start(hfx:∀p∈fx,σ[p.1]?=some (some p.2)):gH fx (Wr ρ σ) H ρ σ H:=⟨fun _ _ _ h=>h,fun _ h=>h,fun _ h=>.inl h,hfx⟩
theorem gH.keepsR{ρ1:PSt}{σ1:St}{H1:Hp}(F:gH fx R H1 ρ σ H)(hR:∀b,R b->OO A ρ1 σ1 b):bh (OO A ρ1 σ1) H1 (OO A ρ σ) H:=fun b o n e=>by
 refine⟨fun z=>?_,F.kp b o (fun z=>n (hR b z)) e⟩
 rcases z with z|z
 .exact n (.inl z)
 .rcases F.ow b z with z|z
  .exact n (hR b z)
  .rw [z] at e;cases e
theorem gH.keeps{ρ1:PSt}{σ1:St}{H1:Hp}(F:gH fx (Wr ρ1 σ1) H1 ρ σ H):bh (OO A ρ1 σ1) H1 (OO A ρ σ) H:=F.keepsR fun b z=>.inr z
theorem gH.trans{fx':List (Nat×V)}{ρ1:PSt}{σ1:St}{H1:Hp}(F:gH fx R H0 ρ1 σ1 H1)(G:gH fx' (Wr ρ1 σ1) H1 ρ σ H)(hfx:∀p∈fx,σ[p.1]?=some (some p.2)):gH fx R H0 ρ σ H:=by
 refine⟨fun b o n e=>G.kp b o (fun w=>(F.ow b w).elim n (fun z=>by rw [z] at e;cases e)) (F.kp b o n e),fun b z=>G.dm b (F.dm b z),fun b w=>?_,hfx⟩
 rcases G.ow b w with z|z
 .exact F.ow b z
 .refine .inr ?_
  cases e:H0 b with
  | none=>rfl
  | some o=>exact absurd z (F.dm b (by rw [e];exact nofun))
theorem Out.put{p:PV}{v:V}{i:Nat}(h:Out K A ρ σ H0 H p v):Rel K A (ρ.set i (some p)) (σ.set i (some v)) H/\∀b,Wr (ρ.set i (some p)) (σ.set i (some v)) b->Wr ρ σ b\/H0 b=none:=by
 have get:∀(j:Nat) (q:PV),(ρ.set i (some p))[j]?=some (some q)->(j=i/\q=p/\i<ρ.length)\/(j≠i/\ρ[j]?=some (some q)):=fun j q e=>by
  by_cases z:i=j
  .subst z
   by_cases hi:i<ρ.length
   .rw [getElem?_set_self hi] at e;cases e;exact .inl ⟨rfl,rfl,hi⟩
   .rw [getElem?_eq_none (by rw [length_set];omega)] at e;cases e
  .rw [getElem?_set_ne z] at e;exact .inr ⟨fun q=>z q.symm,e⟩
 cases p with
 | dat d =>
  obtain⟨R1,f⟩:=h
  have ow:∀b,Wr (ρ.set i (some (.dat d))) (σ.set i (some v)) b->Wr ρ σ b:=fun b ⟨j,r,e1,o1,s1⟩=>by
   rcases get j r e1 with ⟨_,rfl,_⟩|⟨n,e⟩
   .cases o1
   .rw [getElem?_set_ne (fun z=>n z.symm)] at s1;exact⟨j,r,e,o1,s1⟩
  have k:bh (OO A ρ σ) H (OO A (ρ.set i (some (.dat d))) (σ.set i (some v))) H:=bh.less fun b z=>z.imp id (ow b)
  refine⟨⟨by rw [length_set,length_set];exact R1.len,fun j r e1=>?_,fun j l p1 q1 v' e1 e2 o1 o2 s1 s2=>?_,R1.dom,fun b z w=>R1.sep b z (ow b w)⟩,fun b w=>.inl (ow b w)⟩
  .rcases get j r e1 with ⟨rfl,rfl,hi⟩|⟨n,e⟩
   .exact⟨v,getElem?_set_self (by rw [<- R1.len];exact hi),f.keeps k⟩
   .obtain⟨u,s,r'⟩:=R1.get j r e;exact⟨u,by rw [getElem?_set_ne (fun z=>n z.symm)];exact s,r'.keeps k fun _ _ _=>rfl⟩
  .rcases get j p1 e1 with ⟨_,rfl,_⟩|⟨n1,e1⟩
   .cases o1
   .rcases get l q1 e2 with ⟨_,rfl,_⟩|⟨n2,e2⟩
    .cases o2
    .rw [getElem?_set_ne (fun z=>n1 z.symm)] at s1;rw [getElem?_set_ne (fun z=>n2 z.symm)] at s2;exact R1.dj j l p1 q1 v' e1 e2 o1 o2 s1 s2
 | own ds =>
  obtain⟨a,xs,rfl,na,hn,e0,R1,f⟩:=h
  have ow:∀b,Wr (ρ.set i (some (.own ds))) (σ.set i (some (.ref a))) b->Wr ρ σ b\/b=a:=fun b ⟨j,r,e1,o1,s1⟩=>by
   rcases get j r e1 with ⟨rfl,rfl,hi⟩|⟨n,e⟩
   .rw [getElem?_set_self (by rw [<- R1.len];exact hi)] at s1;cases s1;exact .inr rfl
   .rw [getElem?_set_ne (fun z=>n z.symm)] at s1;exact .inl ⟨j,r,e,o1,s1⟩
  have k:bh (OO (gu A a) ρ σ) H (OO A (ρ.set i (some (.own ds))) (σ.set i (some (.ref a)))) H:=bh.less fun b z=>by
   rcases z with z|z
   .exact .inl (.inl z)
   .rcases ow b z with z|z
    .exact .inr z
    .exact .inl (.inr z)
  refine⟨⟨by rw [length_set,length_set];exact R1.len,fun j r e1=>?_,fun j l p1 q1 v' e1 e2 o1 o2 s1 s2=>?_,fun b z=>R1.dom b (.inl z),fun b z w=>?_⟩,fun b w=>(ow b w).imp id fun z=>by rw [z];exact hn⟩
  .rcases get j r e1 with ⟨rfl,rfl,hi⟩|⟨n,e⟩
   .exact⟨_,getElem?_set_self (by rw [<- R1.len];exact hi),a,xs,rfl,e0,f.keeps k⟩
   .obtain⟨u,s,r'⟩:=R1.get j r e;exact⟨u,by rw [getElem?_set_ne (fun z=>n z.symm)];exact s,r'.keeps k fun _ _ _=>rfl⟩
  .rcases get j p1 e1 with ⟨rfl,rfl,hi⟩|⟨n1,e1'⟩
   .rw [getElem?_set_self (by rw [<- R1.len];exact hi)] at s1;cases s1
    rcases get l q1 e2 with ⟨rfl,rfl,_⟩|⟨n2,e2⟩
    .rfl
    .rw [getElem?_set_ne (fun z=>n2 z.symm)] at s2;exact absurd ⟨l,q1,e2,o2,s2⟩ (R1.sep a (.inr rfl))
   .rw [getElem?_set_ne (fun z=>n1 z.symm)] at s1
    rcases get l q1 e2 with ⟨rfl,rfl,hi⟩|⟨n2,e2⟩
    .rw [getElem?_set_self (by rw [<- R1.len];exact hi)] at s2;cases s2;exact absurd ⟨j,p1,e1',o1,s1⟩ (R1.sep a (.inr rfl))
    .rw [getElem?_set_ne (fun z=>n2 z.symm)] at s2;exact R1.dj j l p1 q1 v' e1' e2 o1 o2 s1 s2
  .rcases ow b w with w|w
   .exact R1.sep b (.inl z) w
   .rw [w] at z;exact na z
 | ins c ns ds =>
  obtain⟨a,dx,fs,rfl,na,hn,e0,m,R1,f⟩:=h
  have ow:∀b,Wr (ρ.set i (some (.ins c ns ds))) (σ.set i (some (.ref a))) b->Wr ρ σ b\/b=a:=fun b ⟨j,r,e1,o1,s1⟩=>by
   rcases get j r e1 with ⟨rfl,rfl,hi⟩|⟨n,e⟩
   .rw [getElem?_set_self (by rw [<- R1.len];exact hi)] at s1;cases s1;exact .inr rfl
   .rw [getElem?_set_ne (fun z=>n z.symm)] at s1;exact .inl ⟨j,r,e,o1,s1⟩
  have k:bh (OO (gu A a) ρ σ) H (OO A (ρ.set i (some (.ins c ns ds))) (σ.set i (some (.ref a)))) H:=bh.less fun b z=>by
   rcases z with z|z
   .exact .inl (.inl z)
   .rcases ow b z with z|z
    .exact .inr z
    .exact .inl (.inr z)
  refine⟨⟨by rw [length_set,length_set];exact R1.len,fun j r e1=>?_,fun j l p1 q1 v' e1 e2 o1 o2 s1 s2=>?_,fun b z=>R1.dom b (.inl z),fun b z w=>?_⟩,fun b w=>(ow b w).imp id fun z=>by rw [z];exact hn⟩
  .rcases get j r e1 with ⟨rfl,rfl,hi⟩|⟨n,e⟩
   .exact⟨_,getElem?_set_self (by rw [<- R1.len];exact hi),a,dx,fs,rfl,e0,m,f.keeps k⟩
   .obtain⟨u,s,r'⟩:=R1.get j r e;exact⟨u,by rw [getElem?_set_ne (fun z=>n z.symm)];exact s,r'.keeps k fun _ _ _=>rfl⟩
  .rcases get j p1 e1 with ⟨rfl,rfl,hi⟩|⟨n1,e1'⟩
   .rw [getElem?_set_self (by rw [<- R1.len];exact hi)] at s1;cases s1
    rcases get l q1 e2 with ⟨rfl,rfl,_⟩|⟨n2,e2⟩
    .rfl
    .rw [getElem?_set_ne (fun z=>n2 z.symm)] at s2;exact absurd ⟨l,q1,e2,o2,s2⟩ (R1.sep a (.inr rfl))
   .rw [getElem?_set_ne (fun z=>n1 z.symm)] at s1
    rcases get l q1 e2 with ⟨rfl,rfl,hi⟩|⟨n2,e2⟩
    .rw [getElem?_set_self (by rw [<- R1.len];exact hi)] at s2;cases s2;exact absurd ⟨j,p1,e1',o1,s1⟩ (R1.sep a (.inr rfl))
    .rw [getElem?_set_ne (fun z=>n2 z.symm)] at s2;exact R1.dj j l p1 q1 v' e1' e2 o1 o2 s1 s2
  .rcases ow b w with w|w
   .exact R1.sep b (.inl z) w
   .rw [w] at z;exact na z
end
abbrev PTG:=PV->PSt->(PSt->Prop)->Prop
abbrev zF:=List D->PSt->(PSt->Prop)->Prop
def LG(K:PySem.W.Frag)(fs:List Nat)(g:TG)(pg:PTG):Prop:=∀(fx:List (Nat×V)) (A R:Addr->Prop) (H0:Hp) (ρ:PSt) (σ:St) (H:Hp) (p:PV) (v:V) (Q:PSt->Prop) (Q':St->Hp->Prop),fx.map Prod.fst=fs->gH fx R H0 ρ σ H->Out K A ρ σ H0 H p v->pg p ρ Q ->
 (∀ρ' σ' H',Q ρ'->Rel K A ρ' σ' H'->gH fx R H0 ρ' σ' H'->Q' σ' H')->g v σ H Q'
def LGs(K:PySem.W.Frag)(fs:List Nat)(g:TGs)(pg:zF):Prop:=∀(fx:List (Nat×V)) (A R:Addr->Prop) (H0:Hp) (ρ:PSt) (σ:St) (H:Hp) (ds:List D) (vs:List V) (Q:PSt->Prop) (Q':St->Hp->Prop),fx.map Prod.fst=fs->gH fx R H0 ρ σ H->Rel K A ρ σ H->FVs K (OO A ρ σ) H vs ds->pg ds ρ Q ->
 (∀ρ' σ',Q ρ'->Rel K A ρ' σ' H->gH fx R H0 ρ' σ' H->(∀b,Wr ρ' σ' b->Wr ρ σ b)->Q' σ' H)->g vs σ H Q'
def LGd(K:PySem.W.Frag)(fs:List Nat)(g:TG)(pg:PTG):Prop:=∀(fx:List (Nat×V)) (A R:Addr->Prop) (H0:Hp) (ρ:PSt) (σ:St) (H:Hp) (d:D) (v:V) (Q:PSt->Prop) (Q':St->Hp->Prop),fx.map Prod.fst=fs->gH fx R H0 ρ σ H->Rel K A ρ σ H->FV K (OO A ρ σ) H v d->pg (.dat d) ρ Q ->
 (∀ρ' σ',Q ρ'->Rel K A ρ' σ' H->gH fx R H0 ρ' σ' H->(∀b,Wr ρ' σ' b->Wr ρ σ b)->Q' σ' H)->g v σ H Q'
def ak(i:Nat):PTG:=fun p ρ Q=>Q (ρ.set i (some p))
def mE:zF:=fun ds ρ Q=>match ds with|[]=>Q ρ|_=>False
def dC(g:PTG)(gs:zF):zF:=fun ds ρ Q=>match ds with|d::r=>g (.dat d) ρ fun ρ1=>gs r ρ1 Q|[]=>False
section
variable {K:PySem.W.Frag}{fs:List Nat}
theorem gH.put{fx:List (Nat×V)}{R:Addr->Prop}{H0 H:Hp}{ρ:PSt}{σ:St}{i:Nat}{p:PV}{v:V}(hf:fx.map Prod.fst=fs)(hi:fs.contains i=false)(F:gH fx R H0 ρ σ H)(ow:∀b,Wr (ρ.set i (some p)) (σ.set i (some v)) b->Wr ρ σ b\/H0 b=none):gH fx R H0 (ρ.set i (some p)) (σ.set i (some v)) H :=
 ⟨F.kp,F.dm,fun b w=>(ow b w).elim (F.ow b) .inr,fun q hq=>by
  have:q.1≠i:=fun z=>by
   have h1:i∈fs:=by rw [<- hf,<- z];exact mem_map_of_mem hq
   rw [contains_iff_mem.mpr h1] at hi;cases hi
  rw [getElem?_set_ne (fun z=>this z.symm)];exact F.fx q hq⟩
theorem aA{i:Nat}(hi:fs.contains i=false):LG K fs (cm i) (ak i):=fun fx A R H0 ρ σ H p v Q Q' hf F o q k=>k _ _ _ q o.put.1 (F.put hf hi o.put.2)
theorem gN:LGs K fs Ao mE:=fun fx A R H0 ρ σ H ds vs Q Q' hf F r fv q k=>by
 unfold mE at q
 split at q
 .cases fv;exact⟨rfl,k _ _ q r F fun _ h=>h⟩
 .exact q.elim
theorem aC{i:Nat}(hi:fs.contains i=false):LGd K fs (cm i) (ak i):=fun fx A R H0 ρ σ H d v Q Q' hf F r fv q k=>by
 have o:Out K A ρ σ H0 H (.dat d) v:=⟨r,fv⟩
 have ow:∀b,Wr (ρ.set i (some (.dat d))) (σ.set i (some v)) b->Wr ρ σ b:=fun b ⟨j,p,e1,o1,s1⟩=>by
  by_cases z:i=j
  .subst z
   by_cases hl:i<ρ.length
   .rw [getElem?_set_self hl] at e1;cases e1;cases o1
   .rw [getElem?_eq_none (by rw [length_set];omega)] at e1;cases e1
  .rw [getElem?_set_ne z] at e1 s1;exact⟨j,p,e1,o1,s1⟩
 exact k _ _ q o.put.1 (F.put hf hi o.put.2) ow
theorem ck{g:TG}{pg:PTG}{gs:TGs}{pgs:zF}(hg:LGd K fs g pg)(h:LGs K fs gs pgs):LGs K fs (kz g gs) (dC pg pgs):=fun fx A R H0 ρ σ H ds vs Q Q' hf F r fv q k=>by
 unfold dC at q
 split at q
 .cases fv with
  | cons a b =>
   exact⟨_,_,rfl,hg fx A R H0 ρ σ H _ _ _ _ hf F r a q fun ρ1 σ1 q1 r1 F1 w1=>h fx A R H0 ρ1 σ1 H _ _ _ _ hf F1 r1 (b.keeps (bh.less fun b z=>z.imp id (w1 b))) q1 fun ρ2 σ2 q2 r2 F2 w2=>k ρ2 σ2 q2 r2 F2 fun b z=>w1 b (w2 b z)⟩
 .exact q.elim
end
def LS(K:PySem.W.Frag)(fs:List Nat)(ts:TS)(ps:PTS):Prop:=∀(fx:List (Nat×V)) (A R:Addr->Prop) (H0:Hp) (ρ:PSt) (σ:St) (H:Hp) (D:DC) (D':B6),fx.map Prod.fst=fs->Rel K A ρ σ H->gH fx R H0 ρ σ H->ps D ρ ->
 (∀ρ' σ' H',D.nx ρ'->Rel K A ρ' σ' H'->gH fx R H0 ρ' σ' H'->D'.nx σ' H') ->
 (∀v p ρ' σ' H',D.rt p ρ'->Out K A ρ' σ' H0 H' p v->gH fx R H0 ρ' σ' H'->D'.rt v H') ->
 (∀ρ' σ' H',D.bk ρ'->Rel K A ρ' σ' H'->gH fx R H0 ρ' σ' H'->D'.bk σ' H') ->
 (∀ρ' σ' H',D.ct ρ'->Rel K A ρ' σ' H'->gH fx R H0 ρ' σ' H'->D'.ct σ' H')->ts D' σ H
def cU:PTS:=fun D ρ=>D.nx ρ
def aH(a b:PTS):PTS:=fun D ρ=>a { D with nx:=b D } ρ
def gO(pe:PTE):PTS:=fun D ρ=>pe ρ fun _ ρ1=>D.nx ρ1
def cw(pe:PTE):PTS:=fun D ρ=>pe ρ D.rt
def kQ(t:PTT)(a b:PTS):PTS:=fun D ρ=>t ρ fun c ρ1=>gL c (a D ρ1) (b D ρ1)
def oy:PTS:=fun _ _=>False
def a8(pe:PTE)(g:PTG):PTS:=fun D ρ=>pe ρ fun p ρ1=>g p ρ1 D.nx
def m7(a:PTS):PTS:=fun D ρ=>∃J:PSt->Prop,a { D with nx:=J } ρ/\∀ρ',J ρ'->D.nx ρ'
section
variable {K:PySem.W.Frag}{fs:List Nat}{ta tb:TS}{pa pb:PTS}{te:TE}{pe:PTE}{tt:TT}{pt:PTT}
theorem b9:LS K fs Cw cU:=fun fx A R H0 ρ σ H D D' hf r F q k1 k2 k3 k4=>k1 _ _ _ q r F
theorem oz:LS K fs zo oy:=fun fx A R H0 ρ σ H D D' hf r F q k1 k2 k3 k4=>q
theorem au(ha:LS K fs ta pa)(hb:LS K fs tb pb):LS K fs (FJ ta tb) (aH pa pb):=fun fx A R H0 ρ σ H D D' hf r F q k1 k2 k3 k4 =>
 ha fx A R H0 ρ σ H _ _ hf r F q (fun ρ1 σ1 H1 q1 r1 F1=>hb fx A R H0 ρ1 σ1 H1 _ _ hf r1 F1 q1 k1 k2 k3 k4) k2 k3 k4
theorem ft(h:LE K te pe):LS K fs (Cy te) (gO pe):=fun fx A R H0 ρ σ H D D' hf r F q k1 k2 k3 k4=>h A ρ σ H _ _ r q fun v H1 p ρ1 q1 f1 o1=>k1 _ _ _ q1 o1.frz.1 (F.fr f1)
theorem bj(h:LE K te pe):LS K fs (FK te) (cw pe):=fun fx A R H0 ρ σ H D D' hf r F q k1 k2 k3 k4=>h A ρ σ H _ _ r q fun v H1 p ρ1 q1 f1 o1=>k2 v p ρ1 σ H1 q1 (o1.h0 F.dm) (F.fr f1)
theorem eJ(ht:LT K tt pt)(ha:LS K fs ta pa)(hb:LS K fs tb pb):LS K fs (FL tt ta tb) (kQ pt pa pb):=fun fx A R H0 ρ σ H D D' hf r F q k1 k2 k3 k4=>ht A ρ σ H _ _ r q fun c H1 ρ1 q1 f1 r1=>by
 cases c with
 | true=>exact ha fx A R H0 ρ1 σ H1 D D' hf r1 (F.fr f1) q1 k1 k2 k3 k4
 | false=>exact hb fx A R H0 ρ1 σ H1 D D' hf r1 (F.fr f1) q1 k1 k2 k3 k4
theorem aG{g:TG}{pg:PTG}(h:LE K te pe)(hg:LG K fs g pg):LS K fs (B7 te g) (a8 pe pg):=fun fx A R H0 ρ σ H D D' hf r F q k1 k2 k3 k4=>h A ρ σ H _ _ r q fun v H1 p ρ1 q1 f1 o1 =>
 hg fx A R H0 ρ1 σ H1 p v _ _ hf (F.fr f1) (o1.h0 F.dm) q1 k1
theorem lv(h:LS K fs ta pa):LS K fs (Di ta) (m7 pa):=fun fx A R H0 ρ σ H D D' hf r F q k1 k2 k3 k4=>by
 obtain⟨J,q1,q2⟩:=q;refine⟨fun σ' H'=>∃ρ',J ρ'/\Rel K A ρ' σ' H'/\gH fx R H0 ρ' σ' H',?_,fun σ' H' ⟨ρ',j,r',F'⟩=>k1 ρ' σ' H' (q2 ρ' j) r' F'⟩;exact h fx A R H0 ρ σ H _ _ hf r F q1 (fun ρ' σ' H' j r' F'=>⟨ρ',j,r',F'⟩) k2 k3 k4
end
def iQ(K:PySem.W.Frag)(tl:TE):TI:=fun σ H R=>tl σ H fun x H1=>(∃k a xs,x=.ref a/\Sq k K H1 a xs/\R (Itk k K a) H1)\/∃l,x=.str (S l)/\R (Its (cZ l)) H1
section
variable {X:Cx}{tg:Expr}
theorem A6{l:Expr}{tl:TE}(hl:PE X l tl):PI X tg l (iQ X.K tl):=by
 intro pins s σ H R I h;refine thn (hl pins s σ H _ I h) fun v s1 ⟨x,H1,I1,r1,q1⟩=>?_
 have fin:∀b∈[s1.heap.objs.size],ui X pins H1 b:=fun b hb=>by
  have e:b=s1.heap.objs.size:=by simpa using hb
  subst e;exact I1.fpOk (Nat.le_refl _) (I1.hok.fresh (Nat.le_refl _))
 rcases q1 with ⟨k,a,xs,e,hq,q⟩|⟨l,e,q⟩
 .subst e;cases r1
  cases k with
  | false =>
   obtain⟨its,rv,p,hz⟩:=I1.list hq;refine wpAny_pyIter_list p.isList ?_;exact⟨s1.heap.objs.size,[s1.heap.objs.size],_,_,H1,rfl,I1.kept (t':=s1.toks) fun b o e=>Heap.get?_push_of_some _ e,vh a _,⟨_,Heap.get?_push_size _ rfl,rfl,rfl⟩,fin,q⟩
  | true =>
   obtain⟨its,rv,p,hz⟩:=I1.tuple hq;refine wpAny_pyIter_tuple (show s1.heap.IsTuple a its.toArray from p) ?_;exact⟨s1.heap.objs.size,[s1.heap.objs.size],_,_,H1,rfl,I1.kept (t':=s1.toks) fun b o e=>Heap.get?_push_of_some _ e,uj a _,⟨_,Heap.get?_push_size _ rfl,rfl,rfl⟩,fin,q⟩
 .subst e;obtain⟨t,rfl⟩:=r1
  have hv:∀i v,i<(S l).cps.size->SignAt (S l) i v->∃x,(cZ l)[i]?=some x/\ee x v:=fun i v _ ⟨c,u,hc,e⟩=>by
   subst e;have hc':l[i]?=some c:=by simpa [S] using hc
   exact⟨.str (S [c]),by unfold cZ;rw [getElem?_map,hc'];rfl,u,rfl⟩
  have hsc:∀i v,SignAt (S l) i v->∀a,v≠.ref a:=fun i v ⟨c,u,hc,e⟩ a z=>by subst e;cases z
  have hn:(cZ l).length=(S l).cps.size:=by rw [c9];simp [S]
  have hobj:∀ty i (h:Heap),h.IsStrIter s1.heap.objs.size ty (S l) t i->∃o,h.get? s1.heap.objs.size=some o/\∀v,o.data≠.cell v:=fun ty i h ⟨o,ho,_,hd⟩=>⟨o,ho,fun v z=>by rw [hd] at z;cases z⟩
  have hfr:∀ty i (h h':Heap),h.IsStrIter s1.heap.objs.size ty (S l) t i->(∀b∈[s1.heap.objs.size],∀o,h.get? b=some o->h'.get? b=some o)->h'.IsStrIter s1.heap.objs.size ty (S l) t i:=fun ty i h h' ⟨o,ho,r⟩ k=>⟨o,k _ (by simp) o ho,r⟩
  cases ha:(S l).cps.all (·<128)
  .refine wpAny_pyIter_wide ha ⟨s1.heap.objs.size,[s1.heap.objs.size],_,Its (cZ l),H1,rfl,I1.kept (t':=s1.toks) fun b o e=>Heap.get?_push_of_some _ e,
    lg (fun A hA=>Walks.strWide hA _ (S l) t) hn hv hsc (hobj _) (hfr _) (fun A i s Q E st q=>wpAny_pyIter_striter_wide st q),⟨_,Heap.get?_push_size _ rfl,rfl,rfl⟩,fin,q⟩
  .refine wpAny_pyIter_ascii ha ⟨s1.heap.objs.size,[s1.heap.objs.size],_,Its (cZ l),H1,rfl,I1.kept (t':=s1.toks) fun b o e=>Heap.get?_push_of_some _ e,
    lg (fun A hA=>Walks.strAscii hA _ (S l) t) hn hv hsc (hobj _) (hfr _) (fun A i s Q E st q=>wpAny_pyIter_striter_ascii st q),⟨_,Heap.get?_push_size _ rfl,rfl,rfl⟩,fin,q⟩
theorem cH(K:PySem.W.Frag)(e:X.K=K){l:Expr}{tl:TE}(hl:PE X l tl):PI X tg l (iQ K tl):=by subst e;exact A6 hl
end
abbrev PTI:=PSt->(Nat->(Nat->D)->PSt->Prop)->Prop
def Wlk(K:PySem.W.Frag)(O:Addr->Prop)(H:Hp)(J:It)(n:Nat)(it:Nat->D):Prop:=∀(O':Addr->Prop) (H':Hp),bh O H O' H'->(∀b,O' b->H' b≠none) ->
 (∀k,k<n->J.go k H'/\∀x H'',J.yld k H' x H''->Gr H' H''/\FV K O' H'' x (it k))/\J.stop n H'
def LI(K:PySem.W.Frag)(wi:TI)(pi:PTI):Prop:=∀(A:Addr->Prop) (ρ:PSt) (σ:St) (H:Hp) (Q:Nat->(Nat->D)->PSt->Prop) (Q':It->Hp->Prop),Rel K A ρ σ H->pi ρ Q ->
 (∀J H' n it ρ',Q n it ρ'->Fr ρ σ H ρ' H'->Rel K A ρ' σ H'->Wlk K (OO A ρ' σ) H' J n it->Q' J H')->wi σ H Q'
def itD(ds:List D)(k:Nat):D:=ds.getD k .non
theorem gw{ds:List D}{k:Nat}{d:D}(h:ds[k]?=some d):itD ds k=d:=by unfold itD;rw [getD_eq_getElem?_getD,h];rfl
def Gc:D->Option (Nat×(Nat->D))
 | .lst ds=>some (ds.length,itD ds)
 | .tup ds=>some (ds.length,itD ds)
 | .scr ns=>some (ns.length,fun k=>.int (ns.getD k 0))
 | .str l=>some (l.length,fun k=>.str [l.getD k 0])
 | _=>none
def dL(pe:PTE):PTI:=fun ρ Q=>pe ρ fun p ρ1=>match Gc p.d with
 | some (n,it)=>Q n it ρ1
 | none=>False
section
variable {K:PySem.W.Frag}{te:TE}{pe:PTE}{ta:TA}{pa:PTA}
theorem FV.row{O:Addr->Prop}{H:Hp}{v:V}{d:D}{n:Nat}{it:Nat->D}(h:FV K O H v d)(e:Gc d=some (n,it)) :
  (∃k a xs,v=.ref a/\xs.length=n/\(∀O' H',bh O H O' H'->Sq k K H' a xs/\∀j x,xs[j]?=some x->FV K O' H' x (it j)))\/∃l,v=.str (S l)/\l.length=n/\(∀k,it k=.str [l.getD k 0]):=by
 cases h with
 | lst nn e0 f =>
  cases e;refine .inl ⟨false,_,_,rfl,f.length,fun O' H' k=>⟨SqL.of (k _ _ nn e0).2,fun j x hx=>?_⟩⟩;obtain⟨d,hd,fd⟩:=f.get hx;rw [gw hd];exact fd.keeps k
 | tup nn e0 f =>
  cases e;refine .inl ⟨true,_,_,rfl,f.length,fun O' H' k=>⟨SqT.of (k _ _ nn e0).2,fun j x hx=>?_⟩⟩;obtain⟨d,hd,fd⟩:=f.get hx;rw [gw hd];exact fd.keeps k
 | scr s =>
  cases e;refine .inl ⟨false,_,_,rfl,length_map _,fun O' H' k=>⟨(s.keeps k).sq,fun j x hx=>?_⟩⟩;obtain⟨z,hz,rfl⟩:=yb hx;show FV K O' H' (V.int z) (D.int (List.getD _ j 0));rw [getD_eq_getElem?_getD,hz];exact .int z
 | str l hl=>cases e;exact .inr ⟨l,rfl,rfl,fun _=>rfl⟩
 | non=>cases e
 | bl b=>cases e
 | int i=>cases e
 | ty n=>cases e
 | dic _ _ _ _=>cases e
 | obj _ _ _ _=>cases e
 | exc0 _ _=>cases e
 | exc1 _ _ _ _ _ _=>cases e
theorem cI(h:LE K te pe):LI K (iQ K te) (dL pe):=fun A ρ σ H Q Q' R q k=>h A ρ σ H _ _ R q fun v H1 p ρ1 q1 f1 o1=>by
 obtain⟨R1,fv⟩:=o1.frz
 split at q1
 .rename_i n it e
  rcases fv.row e with ⟨b,a,xs,rfl,hl,hr⟩|⟨l,rfl,hl,hi⟩
  .refine .inl ⟨b,a,xs,rfl,(hr _ H1 (fun b o n h=>⟨n,h⟩)).1,k _ H1 n it ρ1 q1 f1 R1 fun O' H' kk dom=>?_⟩;obtain⟨sq,hx⟩:=hr O' H' kk
   cases b with
   | false =>
    refine⟨fun j hj=>⟨⟨xs,_,sq,getElem?_eq_getElem (by rw [hl];exact hj)⟩,fun x H'' ⟨e,y⟩=>?_⟩,⟨xs,sq,by rw [hl];exact Nat.le_refl _⟩⟩;subst e;exact⟨Gr.refl _,hx j x (y xs sq)⟩
   | true =>
    refine⟨fun j hj=>⟨⟨xs,_,sq,getElem?_eq_getElem (by rw [hl];exact hj)⟩,fun x H'' ⟨e,y⟩=>?_⟩,⟨xs,sq,by rw [hl];exact Nat.le_refl _⟩⟩;subst e;exact⟨Gr.refl _,hx j x (y xs sq)⟩
  .refine .inr ⟨l,rfl,k _ H1 n it ρ1 q1 f1 R1 fun O' H' kk dom=>?_⟩;refine⟨fun j hj=>⟨by show j<(cZ l).length;rw [c9,hl];exact hj,fun x H'' ⟨e,y⟩=>?_⟩,by show (cZ l).length=n;rw [c9,hl]⟩;subst e;obtain⟨c,hc,rfl⟩:=fF y;rw [hi,getD_eq_getElem?_getD,hc];exact⟨Gr.refl _,.str _ (by show 1<=1000000;decide)⟩
 .exact q1.elim
def uK(pa:PTA):PTI:=fun ρ Q=>pa ρ fun as ρ1=>match as with
 | [.v (.int j)]=>(-(2^60)<=j/\j<2^60)/\Q j.toNat (fun k=>.int (k:Int)) ρ1
 | _=>False
def Ff(pa:PTA):PTI:=fun ρ Q=>pa ρ fun as ρ1=>match as with
 | [.v (.int i),.v (.int j),.v (.int (-1))]=>(-(2^60)<=i/\i<2^60/\-(2^60)<=j/\j<2^60)/\Q (i - j).toNat (fun k=>.int (i - (k:Int))) ρ1
 | _=>False
theorem Fg{O:Addr->Prop}{H:Hp}{lo:Int}{n:Nat}{it:Nat->D}(h:∀k:Nat,it k=.int (lo+k)):Wlk K O H (Itr lo n) n it:=fun O' H' _ _ =>
 ⟨fun j hj=>⟨hj,fun x H'' ⟨e,y⟩=>by subst e y;rw [h];exact⟨Gr.refl _,.int _⟩⟩,Nat.le_refl _⟩
theorem Fh{O:Addr->Prop}{H:Hp}{lo:Int}{n:Nat}:Wlk K O H (Its (n8 lo n)) n (fun k=>.int (lo - (k:Int))):=fun O' H' _ _ =>
 ⟨fun j hj=>⟨by show j<(n8 lo n).length;rw [lh];exact hj,fun x H'' ⟨e,y⟩=>by subst e;rw [(vL y).2];exact⟨Gr.refl _,.int _⟩⟩,lh _ _⟩
theorem kE(h:LAs K ta pa):LI K (nV ta) (uK pa):=fun A ρ σ H Q Q' R q k=>h A ρ σ H _ _ R q fun vs H1 as ρ1 q1 f1 R1 o1=>by
 split at q1
 .rename_i j
  cases o1 with
  | cons a b =>
   cases b;cases a;exact⟨j,rfl,by omega,by omega,k _ H1 _ _ ρ1 q1.2 f1 R1 (Fg fun k=>by rw [Int.zero_add])⟩
 .exact q1.elim
theorem DD(h:LAs K ta pa):LI K (C6 ta) (Ff pa):=fun A ρ σ H Q Q' R q k=>h A ρ σ H _ _ R q fun vs H1 as ρ1 q1 f1 R1 o1=>by
 split at q1
 .rename_i i j
  cases o1 with
  | cons a b =>
   cases b with
   | cons c d =>
    cases d with
    | cons e f =>
     cases f;cases a;cases c;cases e;exact⟨i,j,rfl,q1.1,k _ H1 _ _ ρ1 q1.2 f1 R1 Fh⟩
 .exact q1.elim
def rowD:D->Option (List D)
 | .lst ds=>some ds
 | .tup ds=>some ds
 | .scr ns=>some (ns.map .int)
 | _=>none
theorem FV.rowD{O:Addr->Prop}{H:Hp}{v:V}{d:D}{ds:List D}(h:FV K O H v d)(e:L2.rowD d=some ds) :
  ∃k a xs,v=.ref a/\xs.length=ds.length/\(∀O' H',bh O H O' H'->Sq k K H' a xs/\FVs K O' H' xs ds):=by
 cases h with
 | lst nn e0 f=>cases e;exact⟨false,_,_,rfl,f.length,fun O' H' k=>⟨SqL.of (k _ _ nn e0).2,f.keeps k⟩⟩
 | tup nn e0 f=>cases e;exact⟨true,_,_,rfl,f.length,fun O' H' k=>⟨SqT.of (k _ _ nn e0).2,f.keeps k⟩⟩
 | scr s=>cases e;exact⟨false,_,_,rfl,by rw [length_map,length_map],fun O' H' k=>⟨(s.keeps k).sq,FVs.of_ints _⟩⟩
 | str l hl=>cases e
 | non=>cases e
 | bl b=>cases e
 | int i=>cases e
 | ty n=>cases e
 | dic _ _ _ _=>cases e
 | obj _ _ _ _=>cases e
 | exc0 _ _=>cases e
 | exc1 _ _ _ _ _ _=>cases e
def Fi(pa:PTA):PTI:=fun ρ Q=>pa ρ fun as ρ1=>match as with
 | [.v a,.v b]=>(match rowD a,rowD b with
  | some xs,some ys=>Q (min xs.length ys.length) (fun k=>.tup [itD xs k,itD ys k]) ρ1
  | _,_=>False)
 | _=>False
def wo(pa:PTA):PTI:=fun ρ Q=>pa ρ fun as ρ1=>match as with
 | [.v a]=>(match rowD a with
  | some xs=>Q xs.length (fun k=>.tup [.int (k:Int),itD xs k]) ρ1
  | _=>False)
 | _=>False
theorem DE(h:LAs K ta pa):LI K (EZ K ta) (Fi pa):=fun A ρ σ H Q Q' R q k=>h A ρ σ H _ _ R q fun vs H1 as ρ1 q1 f1 R1 o1=>by
 split at q1
 .rename_i da db
  cases o1 with
  | cons o1 o2 =>
   cases o2 with
   | cons o2 o3 =>
    cases o3
    split at q1
    .rename_i xs ys ex ey;obtain⟨b1,a1,us,rfl,l1,w1⟩:=FV.rowD (show FV K _ H1 _ da from o1) ex;obtain⟨b2,a2,ws,rfl,l2,w2⟩:=FV.rowD (show FV K _ H1 _ db from o2) ey;have t1:=w1 _ H1 (fun b o n h=>⟨n,h⟩);have t2:=w2 _ H1 (fun b o n h=>⟨n,h⟩);refine⟨b1,b2,a1,a2,rfl,⟨us,ws,t1.1,t2.1⟩,k _ H1 _ _ ρ1 q1 f1 R1 fun O' H' kk dom=>?_⟩;obtain⟨s1,g1⟩:=w1 O' H' kk;obtain⟨s2,g2⟩:=w2 O' H' kk;refine⟨fun j hj=>?_,⟨us,ws,s1,s2,by omega⟩⟩
     have h1:j<us.length:=by omega
     have h2:j<ws.length:=by omega
     refine⟨⟨us,ws,_,_,s1,s2,getElem?_eq_getElem h1,getElem?_eq_getElem h2⟩,fun x H'' ⟨T,u,w,hT,e,y1,y2,e2⟩=>?_⟩;subst e e2;obtain⟨d1,hd1,fd1⟩:=g1.get (y1 us s1);obtain⟨d2,hd2,fd2⟩:=g2.get (y2 ws s2);have e1:itD xs j=d1:=by unfold itD;rw [getD_eq_getElem?_getD,hd1];rfl
     have e2:itD ys j=d2:=by unfold itD;rw [getD_eq_getElem?_getD,hd2];rfl
     rw [e1,e2];have kk2:bh O' H' O' (upd H' T (.tup [u,w])):=fun b o n e=>⟨n,by rw [aM (br e hT)];exact e⟩
     exact⟨Gr.new hT,.tup (fun z=>dom T z hT) bv (.cons (fd1.keeps kk2) (.cons (fd2.keeps kk2) .nil))⟩
    .exact q1.elim
 .exact q1.elim
theorem wp(h:LAs K ta pa):LI K (AW K ta) (wo pa):=fun A ρ σ H Q Q' R q k=>h A ρ σ H _ _ R q fun vs H1 as ρ1 q1 f1 R1 o1=>by
 split at q1
 .rename_i da
  cases o1 with
  | cons o1 o3 =>
   cases o3
   split at q1
   .rename_i xs ex;obtain⟨b1,a1,us,rfl,l1,w1⟩:=FV.rowD (show FV K _ H1 _ da from o1) ex;have t1:=w1 _ H1 (fun b o n h=>⟨n,h⟩);refine⟨b1,a1,rfl,⟨us,t1.1⟩,k _ H1 _ _ ρ1 q1 f1 R1 fun O' H' kk dom=>?_⟩;obtain⟨s1,g1⟩:=w1 O' H' kk;refine⟨fun j hj=>?_,⟨us,s1,by omega⟩⟩;have h1:j<us.length:=by omega
    refine⟨⟨us,_,s1,getElem?_eq_getElem h1⟩,fun x H'' ⟨T,u,hT,e,y1,e2⟩=>?_⟩;subst e e2;obtain⟨d1,hd1,fd1⟩:=g1.get (y1 us s1);have e1:itD xs j=d1:=by unfold itD;rw [getD_eq_getElem?_getD,hd1];rfl
    rw [e1];have kk2:bh O' H' O' (upd H' T (.tup [.int (j:Int),u])):=fun b o n e=>⟨n,by rw [aM (br e hT)];exact e⟩
    exact⟨Gr.new hT,.tup (fun z=>dom T z hT) bv (.cons (.int _) (.cons (fd1.keeps kk2) .nil))⟩
   .exact q1.elim
 .exact q1.elim
end
def ir(pi:PTI)(g:PTG)(pb:PTS):PTS:=fun D ρ=>pi ρ fun n it ρ1=>∃I:Nat->PSt->Prop,I 0 ρ1/\(∀k ρ d,k<n->d=it k->I k ρ->g (.dat d) ρ fun ρ2=>pb { D with nx:=I (k+1),ct:=I (k+1),bk:=D.nx } ρ2)/\∀ρ,I n ρ->D.nx ρ
def oA(pt:PTT)(pb:PTS):PTS:=fun D ρ=>∃I:Nat->PSt->Prop,(∃m,I m ρ)/\∀m ρ,I m ρ->pt ρ fun b ρ1=>gL b (pb { D with nx:=fun ρ'=>∃m',m'<m/\I m' ρ',ct:=fun ρ'=>∃m',m'<m/\I m' ρ',bk:=D.nx } ρ1) (D.nx ρ1)
section
variable {K:PySem.W.Frag}{fs:List Nat}{wi:TI}{pi:PTI}{g:TG}{pg:PTG}{tb:TS}{pb:PTS}{tt:TT}{pt:PTT}
theorem eM(hi:LI K wi pi)(hg:LGd K fs g pg)(hb:LS K fs tb pb):LS K fs (FQ wi g tb) (ir pi pg pb):=fun fx A R H0 ρ σ H D D' hf r F q k1 k2 k3 k4=>hi A ρ σ H _ _ r q fun J H1 n it ρ1 q1 f1 r1 W=>by
 obtain⟨I,i0,turn,after⟩:=q1;have F1:=F.fr f1;refine⟨fun i m σ' H'=>i+m=n/\∃ρ',I i ρ'/\Rel K A ρ' σ' H'/\gH fx (Wr ρ1 σ) H1 ρ' σ' H',⟨n,Nat.zero_add n,ρ1,i0,r1,gH.start F1.fx⟩,fun i m σ' H' ⟨him,ρ',iv,r',F'⟩=>?_⟩;obtain⟨go,stop⟩:=W _ H' F'.keeps r'.dom2
 by_cases hk:i<n
 .obtain⟨g1,g2⟩:=go i hk;refine .inr ⟨g1,fun σ'' H''=>∃ρ'',I (i+1) ρ''/\Rel K A ρ'' σ'' H''/\gH fx (Wr ρ1 σ) H1 ρ'' σ'' H'',fun σ'' H'' z=>⟨m - 1,by omega,by omega,z⟩,fun x H'' y=>?_⟩;obtain⟨gr,fv⟩:=g2 x H'' y;refine hg fx A (Wr ρ1 σ) H1 ρ' σ' H'' _ x _ _ hf (F'.fr gr.fr) (r'.gr gr) fv (turn i ρ' _ hk rfl iv) fun ρ2 σ2 q2 r2 F2 _=>?_;refine hb fx A (Wr ρ1 σ) H1 ρ2 σ2 H'' _ _ hf r2 F2 q2 (fun ρ3 σ3 H3 q3 r3 F3=>⟨ρ3,q3,r3,F3⟩) (fun v p ρ3 σ3 H3 q3 o3 F3=>k2 v p ρ3 σ3 H3 q3 (o3.h0 F1.dm) (F1.trans F3 F3.fx)) (fun ρ3 σ3 H3 q3 r3 F3=>k1 ρ3 σ3 H3 q3 r3 (F1.trans F3 F3.fx)) (fun ρ3 σ3 H3 q3 r3 F3=>⟨ρ3,q3,r3,F3⟩)
 .have e:i=n:=by omega
  subst e;exact .inl ⟨stop,k1 ρ' σ' H' (after ρ' iv) r' (F1.trans F' F'.fx)⟩
theorem oB(ht:LT K tt pt)(hb:LS K fs tb pb):LS K fs (zq tt tb) (oA pt pb):=fun fx A R H0 ρ σ H D D' hf r F q k1 k2 k3 k4=>by
 obtain⟨I,⟨m0,i0⟩,turn⟩:=q;refine⟨fun m σ' H'=>∃ρ',I m ρ'/\Rel K A ρ' σ' H'/\gH fx R H0 ρ' σ' H',⟨m0,ρ,i0,r,F⟩,fun m σ' H' ⟨ρ',iv,r',F'⟩=>?_⟩;refine ht A ρ' σ' H' _ _ r' (turn m ρ' iv) fun b H1 ρ1 q1 f1 r1=>?_
 cases b with
 | true =>
  refine⟨fun σ'' H''=>∃ρ'' m',m'<m/\I m' ρ''/\Rel K A ρ'' σ'' H''/\gH fx R H0 ρ'' σ'' H'',fun σ'' H'' ⟨ρ'',m',h1,h2⟩=>⟨m',h1,ρ'',h2⟩,?_⟩;exact hb fx A R H0 ρ1 σ' H1 _ _ hf r1 (F'.fr f1) q1 (fun ρ3 σ3 H3 ⟨m',h1,h2⟩ r3 F3=>⟨ρ3,m',h1,h2,r3,F3⟩) k2 k1 (fun ρ3 σ3 H3 ⟨m',h1,h2⟩ r3 F3=>⟨ρ3,m',h1,h2,r3,F3⟩)
 | false=>exact k1 ρ1 σ' H1 q1 r1 (F'.fr f1)
end
def bX(ix:List (Option Nat))(ρ:PSt):PSt:=ix.map fun o=>match o with
 | none=>none
 | some j=>match ρ[j]? with
  | some v=>v
  | none=>none
def fH:List (Option Nat)->PSt->PSt->PSt
 | some j::ix,ρ,t::τ=>fH ix (ρ.set j t) τ
 | none::ix,ρ,_::τ=>fH ix ρ τ
 | _,ρ,_=>ρ
def A7:List (Option Nat)->Bool
 | []=>true
 | none::r=>A7 r
 | some j::r=>!r.contains (some j) && A7 r
theorem oE:∀(ix:List (Option Nat)) (ρ τ:PSt),(fH ix ρ τ).length=ρ.length
 | [],ρ,τ=>by unfold fH;rfl
 | some j::ix,ρ,t::τ=>by show (fH ix (ρ.set j t) τ).length=_;rw [oE ix,length_set]
 | none::ix,ρ,t::τ=>by show (fH ix ρ τ).length=_;exact oE ix ρ τ
 | some j::ix,ρ,[]=>by unfold fH;rfl
 | none::ix,ρ,[]=>by unfold fH;rfl
theorem kR:∀(ix:List (Option Nat)) (ρ τ:PSt) (j:Nat),some j∉ix->(fH ix ρ τ)[j]?=ρ[j]?
 | [],ρ,τ,j,_=>by unfold fH;rfl
 | some i::ix,ρ,t::τ,j,h=>by
  show (fH ix (ρ.set i t) τ)[j]?=_;rw [kR ix _ τ j (fun z=>h (mem_cons_of_mem _ z)),getElem?_set_ne (fun z=>h (by rw [z];exact mem_cons_self ..))]
 | none::ix,ρ,t::τ,j,h=>by show (fH ix ρ τ)[j]?=_;exact kR ix ρ τ j fun z=>h (mem_cons_of_mem _ z)
 | some i::ix,ρ,[],j,_=>by unfold fH;rfl
 | none::ix,ρ,[],j,_=>by unfold fH;rfl
theorem rN:∀(ix:List (Option Nat)) (ρ τ:PSt) (j k:Nat),A7 ix=true->ix[k]?=some (some j)->k<τ.length->j<ρ.length->(fH ix ρ τ)[j]?=τ[k]?
 | some i::ix,ρ,t::τ,j,k,h,e,hk,hj=>by
  have h:(!ix.contains (some i) && A7 ix)=true:=h;rw [and_eq_true] at h;show (fH ix (ρ.set i t) τ)[j]?=_
  cases k with
  | zero =>
   have e:some (some i)=some (some j):=e;cases e
   have hn:some i∉ix:=fun z=>by
    have:=h.1;rw [contains_iff_mem.mpr z] at this;cases this
   rw [kR ix _ τ i hn,getElem?_set_self hj];rfl
  | succ k =>
   have e:ix[k]?=some (some j):=by simpa using e
   rw [rN ix _ τ j k h.2 e (by simpa using hk) (by rw [length_set];exact hj)];simp
 | none::ix,ρ,t::τ,j,k,h,e,hk,hj=>by
  show (fH ix ρ τ)[j]?=_
  cases k with
  | zero=>cases e
  | succ k =>
   have e:ix[k]?=some (some j):=by simpa using e
   rw [rN ix _ τ j k h e (by simpa using hk) hj];simp
 | [],ρ,τ,j,k,h,e,hk,hj=>by simp at e
 | some i::ix,ρ,[],j,k,h,e,hk,hj=>absurd hk (not_lt_zero _)
 | none::ix,ρ,[],j,k,h,e,hk,hj=>absurd hk (not_lt_zero _)
theorem oF:∀{ix:List (Option Nat)}{k l j:Nat},A7 ix=true->ix[k]?=some (some j)->ix[l]?=some (some j)->k=l
 | some i::ix,k,l,j,h,e1,e2=>by
  have h:(!ix.contains (some i) && A7 ix)=true:=h;rw [and_eq_true] at h
  have no:∀m,ix[m]?≠some (some i):=fun m z=>by
   have:=h.1;rw [contains_iff_mem.mpr (mem_of_getElem? z)] at this;cases this
  cases k with
  | zero =>
   have e1:some (some i)=some (some j):=e1;cases e1
   cases l with
   | zero=>rfl
   | succ l=>exact absurd (by simpa using e2) (no l)
  | succ k =>
   cases l with
   | zero =>
    have e2:some (some i)=some (some j):=e2;cases e2;exact absurd (by simpa using e1) (no k)
   | succ l=>rw [oF (k:=k) (l:=l) h.2 (by simpa using e1) (by simpa using e2)]
 | none::ix,k,l,j,h,e1,e2=>by
  cases k with
  | zero=>cases e1
  | succ k =>
   cases l with
   | zero=>cases e2
   | succ l=>rw [oF (ix:=ix) (k:=k) (l:=l) (j:=j) h (by simpa using e1) (by simpa using e2)]
 | [],k,l,j,h,e1,e2=>by simp at e1
theorem gP{ix:List (Option Nat)}{ρ:PSt}{k:Nat}{p:PV}(h:(bX ix ρ)[k]?=some (some p)):∃j,ix[k]?=some (some j)/\ρ[j]?=some (some p):=by
 unfold bX at h;rw [getElem?_map] at h
 cases e:ix[k]? with
 | none=>rw [e] at h;cases h
 | some o =>
  rw [e] at h
  cases o with
  | none=>cases h
  | some j =>
   refine⟨j,rfl,?_⟩;have h:some (match ρ[j]? with|some v=>v|none=>none)=some (some p):=h
   cases e2:ρ[j]? with
   | none=>rw [e2] at h;cases h
   | some v=>rw [e2] at h;exact h
theorem ig{ix:List (Option Nat)}{σ:St}{k j:Nat}{v:V}(h:ix[k]?=some (some j))(e:σ[j]?=some (some v)):(vS ix σ)[k]?=some (some v):=by
 unfold vS;rw [getElem?_map,h];show some (match σ[j]? with|some v=>v|none=>none)=some (some v);rw [e]
theorem Rel.amb{K:PySem.W.Frag}{A:Addr->Prop}{ρ:PSt}{σ:St}{H:Hp}{a:Addr}{o:HO}(R:Rel K A ρ σ H)(ha:A a):Rel K A ρ σ (upd H a o):=by
 have k:bh (OO A ρ σ) H (OO A ρ σ) (upd H a o):=fun b u n e=>⟨n,by rw [aM (fun z=>n (by rw [z];exact .inl ha))];exact e⟩
 refine⟨R.len,fun i q e=>?_,R.dj,fun b z=>?_,R.sep⟩
 .obtain⟨v,s,r⟩:=R.get i q e;refine⟨v,s,r.keeps k fun ow b eb=>?_⟩;rw [aM];intro z;subst z eb;exact R.sep b ha ⟨i,q,e,ow,s⟩
 .by_cases z':b=a
  .rw [z',bv];exact nofun
  .rw [aM z'];exact R.dom b z
def Fj(ix:List (Option Nat))(ρ:PSt):Bool:=ix.all fun o=>match o with|none=>true|some j=>(match ρ[j]? with|some (some _)=>true|_=>false)
structure lw (ix:List (Option Nat)) (ρ1:PSt) (n:Nat) (it:Nat->D) (g:PTG) (pt:PTT) (pe:PTE) (Q:PKt):Prop where
 ex:∃I:Nat->List D->PSt->Prop,I 0 [] (bX ix ρ1) /\
  (∀k ys τ d,k<n->d=it k->I k ys τ->g (.dat d) τ fun τ2=>pt τ2 fun ok τ3=>gL ok (pe τ3 fun p τ4=>I (k+1) (ys++[p.d]) τ4) (I (k+1) ys τ3))/\∀ys τ,I n ys τ->Q (.own ys) (fH ix ρ1 τ)
def dr(ix:List (Option Nat))(pi:PTI)(g:PTG)(pt:PTT)(pe:PTE):PTE:=fun ρ Q=>pi ρ fun n it ρ1=>Fj ix ρ1=true/\n<=1000000/\lw ix ρ1 n it g pt pe Q
def jy:PTT:=fun ρ Q=>Q true ρ
theorem dg{K:PySem.W.Frag}:LT K je jy:=fun A ρ σ H Q Q' R q k=>k true H ρ q (Fr.refl _ _ _) R
def Cc(ix:List (Option Nat)):List Nat:=(List.range ix.length).filter fun k=>(ix.getD k none).isSome
theorem bp{K:PySem.W.Frag}{ix:List (Option Nat)}{wi:TI}{pi:PTI}{g:TG}{pg:PTG}{tts:TT}{pt:PTT}{te:TE}{pe:PTE}(hix:A7 ix=true)(hi:LI K wi pi)(hg:∀fs:List Nat,(∀k∈fs,k∈Cc ix)->LGd K fs g pg)(ht:LT K tts pt)(he:LE K te pe) :
  LE K (og ix wi g tts te) (dr ix pi pg pt pe):=fun A ρ σ H Q Q' R q k=>hi A ρ σ H _ _ R q fun J H1 n it ρ1 q1 f1 R1 W D hD=>by
 obtain⟨hcap,hn,⟨I,i0,turn,after⟩⟩:=q1
 let τρ0:=bX ix ρ1
 let τσ0:=vS ix σ
 let Ai:Addr->Prop:=fun b=>A b\/b=D\/(Wr ρ1 σ b/\¬ Wr τρ0 τσ0 b)
 let H0':=upd H1 D (.lst [])
 have wsub:∀b,Wr τρ0 τσ0 b->Wr ρ1 σ b:=fun b ⟨m,p,e,o,s⟩=>by
  obtain⟨j,h1,h2⟩:=gP e;obtain⟨v,hv,_⟩:=R1.get j p h2;have:=ig h1 hv;rw [s] at this;cases this;exact⟨j,p,h2,o,hv⟩
 have nD:¬ Wr ρ1 σ D:=fun z=>R1.wr z hD
 have oosub:∀b,OO Ai τρ0 τσ0 b->OO A ρ1 σ b\/b=D:=fun b z=>by
  rcases z with (z|z|z)|z
  .exact .inl (.inl z)
  .exact .inr z
  .exact .inl (.inr z.1)
  .exact .inl (.inr (wsub b z))
 have kD:bh (OO A ρ1 σ) H1 (OO Ai τρ0 τσ0) H0':=fun b o nn e=>by
  refine⟨fun z=>?_,?_⟩
  .rcases oosub b z with z|z
   .exact nn z
   .rw [z,hD] at e;cases e
  .rw [show H0' b=H1 b from aM (br e hD)];exact e
 have Ri:Rel K Ai τρ0 τσ0 H0':=by
  refine⟨by show (bX ix ρ1).length=(vS ix σ).length;unfold bX vS;rw [length_map,length_map],fun m p e=>?_,fun m l p q v e1 e2 o1 o2 s1 s2=>?_,fun b z=>?_,fun b z w=>?_⟩
  .obtain⟨j,h1,h2⟩:=gP e;obtain⟨v,hv,r⟩:=R1.get j p h2;refine⟨v,ig h1 hv,r.keeps kD fun ow a ea=>?_⟩;subst ea;exact aM (fun z=>nD (by rw [<- z];exact⟨j,p,h2,ow,hv⟩))
  .obtain⟨j,h1,h2⟩:=gP e1;obtain⟨j',h3,h4⟩:=gP e2;obtain⟨v1,hv1,_⟩:=R1.get j p h2;obtain⟨v2,hv2,_⟩:=R1.get j' q h4;have t1:=ig h1 hv1;have t2:=ig h3 hv2;rw [s1] at t1;rw [s2] at t2;cases t1;cases t2;have:=R1.dj j j' p q _ h2 h4 o1 o2 hv1 hv2;subst this;exact oF hix h1 h3
  .rcases z with z|z|z
   .intro e
    by_cases zz:b=D
    .exact R1.dom b z (by rw [zz];exact hD)
    .rw [show H0' b=H1 b from aM zz] at e;exact R1.dom b z e
   .rw [z];show upd H1 D _ D≠none;rw [bv];exact nofun
   .intro e;rw [show H0' b=H1 b from aM (fun zz=>nD (by rw [<- zz];exact z.1))] at e;exact R1.wr z.1 e
  .rcases z with z|z|z
   .exact R1.sep b z (wsub b w)
   .rw [z] at w;exact nD (wsub D w)
   .exact z.2 w
 let fxi:List (Nat×V):=(Cc ix).filterMap fun m=>match (τσ0[m]?) with|some (some v)=>some (m,v)|_=>none
 have hfx:∀p∈fxi,τσ0[p.1]?=some (some p.2):=fun p hp=>by
  obtain⟨m,hm,e⟩:=mem_filterMap.mp hp
  split at e
  .rename_i v ev;cases e;exact ev
  .cases e
 have hfs:∀m∈fxi.map Prod.fst,m∈Cc ix:=fun m hm=>by
  obtain⟨p,hp,rfl⟩:=mem_map.mp hm;obtain⟨m',hm',e⟩:=mem_filterMap.mp hp
  split at e
  .cases e;exact hm'
  .cases e
 have hgi:=hg (fxi.map Prod.fst) hfs
 have fxget:∀(m j:Nat) (v:V),ix[m]?=some (some j)->σ[j]?=some (some v)->(m,v)∈fxi:=fun m j v h1 h2=>by
  refine mem_filterMap.mpr ⟨m,?_,?_⟩
  .unfold Cc;refine mem_filter.mpr ⟨mem_range.mpr (List.getElem?_eq_some_iff.mp h1).1,?_⟩;rw [getD_eq_getElem?_getD,h1];rfl
  .show (match (vS ix σ)[m]? with|some (some v)=>some (m,v)|_=>none)=_;rw [ig h1 h2]
 let Rr:Addr->Prop:=fun b=>Wr τρ0 τσ0 b\/b=D
 have hRr:∀b,Rr b->OO Ai τρ0 τσ0 b:=fun b z=>z.elim (fun z=>.inr z) (fun z=>.inl (.inr (.inl z)));have F0:gH fxi Rr H0' τρ0 τσ0 H0':=⟨fun _ _ _ h=>h,fun _ h=>h,fun b w=>.inl (.inl w),hfx⟩
 refine⟨fun i m τ H2=>i+m=n/\∃ys τρ xs,I i ys τρ/\ys.length<=i/\Rel K Ai τρ τ H2/\gH fxi Rr H0' τρ τ H2/\H2 D=some (.lst xs)/\FVs K (OO Ai τρ τ) H2 xs ys/\∀b,Wr τρ τ b->Wr τρ0 τσ0 b,
  ⟨n,Nat.zero_add n,[],τρ0,[],i0,Nat.le_refl _,Ri,F0,bv,.nil,fun _ h=>h⟩,fun i m τ H2 ⟨him,ys,τρ,xs,iv,hy,r2,F2,eD,fD,hw⟩=>?_⟩
 have kk:bh (OO A ρ1 σ) H1 (OO Ai τρ τ) H2:=fun b o nn e=>(F2.keepsR hRr) b o (kD b o nn e).1 (kD b o nn e).2;obtain⟨go,stop⟩:=W _ H2 kk r2.dom2
 by_cases hk:i<n
 .obtain⟨g1,g2⟩:=go i hk;refine .inr ⟨g1,fun x H3 y=>?_⟩;obtain⟨gr,fv⟩:=g2 x H3 y;have AiD:Ai D:=.inr (.inl rfl);refine hgi fxi Ai Rr H0' τρ τ H3 _ x _ _ rfl (F2.fr gr.fr) (r2.gr gr) fv (turn i ys τρ _ hk rfl iv) fun τρ2 τ2 q2 r3 F3 w3=>?_;refine ht Ai τρ2 τ2 H3 _ _ r3 q2 fun ok H5 τρ3 q3 f5 r5=>?_;have F5:=F3.fr f5;have fD5:FVs K (OO Ai τρ3 τ2) H5 xs ys:=((fD.keeps (gr.fr (ρ:=τρ) (σ:=τ)).keeps).keeps (bh.less fun b z=>z.imp id (w3 b))).keeps f5.keeps
  have eD5:H5 D=some (.lst xs):=f5.kp D _ (r3.sep D AiD) (gr D _ eD)
  cases ok with
  | true =>
   refine he Ai τρ3 τ2 H5 _ _ r5 q3 fun v H6 p τρ4 q4 f6 o6=>?_;obtain⟨r6,fv6⟩:=o6.frz;have F6:=F5.fr f6;have eD6:H6 D=some (.lst xs):=f6.kp D _ (r5.sep D AiD) eD5;have kw:bh (OO Ai τρ4 τ2) H6 (OO Ai τρ4 τ2) (upd H6 D (.lst (xs++[v]))):=fun b o nn e=>⟨nn,by rw [aM (fun z=>nn (by rw [z];exact .inl AiD))];exact e⟩
   refine⟨xs,eD6,?_,m - 1,by omega,by omega,ys++[p.d],τρ4,xs++[v],q4,by rw [length_append];show _+1<=_;omega,r6.amb AiD,⟨fun b o nn e=>?_,fun b z=>?_,F6.ow,F6.fx⟩,bv,((fD5.keeps f6.keeps).append (.cons fv6 .nil)).keeps kw,fun b z=>hw b (w3 b (f5.ow b (f6.ow b z)))⟩
   .have:xs.length=ys.length:=fD.length;exact lt_of_lt_of_le (by omega:xs.length<1000000) (sz _ (Nat.le_refl _))
   .rw [aM (fun z=>nn (.inr z))];exact F6.kp b o nn e
   .by_cases zz:b=D
    .rw [zz,bv];exact nofun
    .rw [aM zz];exact F6.dm b z
  | false=>exact⟨m - 1,by omega,by omega,ys,τρ3,xs,q3,by omega,r5,F5,eD5,fD5,fun b z=>hw b (w3 b (f5.ow b z))⟩
 .have e:i=n:=by omega
  subst e;refine .inl ⟨stop,?_⟩;have q':=after ys τρ iv
  have cap:∀(m j:Nat),ix[m]?=some (some j)->∃p v,ρ1[j]?=some (some p)/\σ[j]?=some (some v)/\τ[m]?=some (some v):=fun m j e=>by
   have h1:=all_eq_true.mp hcap _ (mem_of_getElem? e);have h1:(match ρ1[j]? with|some (some _)=>true|_=>false)=true:=h1
   split at h1
   .rename_i p ep;obtain⟨v,hv,_⟩:=R1.get j p ep;exact⟨p,v,ep,hv,F2.fx _ (fxget m j v e hv)⟩
   .cases h1
  have get':∀(j:Nat) (p:PV),(fH ix ρ1 τρ)[j]?=some (some p)->(∃m v,ix[m]?=some (some j)/\σ[j]?=some (some v)/\τ[m]?=some (some v)/\τρ[m]?=some (some p))\/(some j∉ix/\ρ1[j]?=some (some p)):=fun j p e=>by
   by_cases hj:some j∈ix
   .obtain⟨m,hm,em⟩:=getElem_of_mem hj;have em':ix[m]?=some (some j):=by rw [getElem?_eq_getElem hm,em]
    obtain⟨p0,v,h1,h2,h3⟩:=cap m j em';rw [rN ix ρ1 τρ j m hix em' (by rw [r2.len];exact (List.getElem?_eq_some_iff.mp h3).1) (List.getElem?_eq_some_iff.mp h1).1] at e;exact .inl ⟨m,v,em',h2,h3,e⟩
   .rw [kR ix ρ1 τρ j hj] at e;exact .inr ⟨hj,e⟩
  have nocap:∀(j:Nat) (p:PV) (b:Addr),some j∉ix->ρ1[j]?=some (some p)->p.isOwn=true->σ[j]?=some (some (.ref b))->¬ Wr τρ0 τσ0 b:=fun j p b hj e o s ⟨m,q,e1,o1,s1⟩=>by
   obtain⟨j',h1,h2⟩:=gP e1;obtain⟨v,hv,_⟩:=R1.get j' q h2;have:=ig h1 hv;rw [s1] at this;cases this;have:=R1.dj j j' p q _ e h2 o o1 s hv;subst this;exact hj (mem_of_getElem? h1)
  have w':∀b,Wr (fH ix ρ1 τρ) σ b->Wr τρ τ b\/(Wr ρ1 σ b/\¬ Wr τρ0 τσ0 b):=fun b ⟨j,p,e,o,s⟩=>by
   rcases get' j p e with ⟨m,v,h1,h2,h3,h4⟩|⟨hj,h1⟩
   .rw [s] at h2;cases h2;exact .inl ⟨m,p,h4,o,h3⟩
   .exact .inr ⟨⟨j,p,h1,o,s⟩,nocap j p b hj h1 o s⟩
  have oo':∀b,OO (gu A D) (fH ix ρ1 τρ) σ b->OO Ai τρ τ b:=fun b z=>by
   rcases z with (z|z)|z
   .exact .inl (.inl z)
   .exact .inl (.inr (.inl z))
   .rcases w' b z with z|z
    .exact .inr z
    .exact .inl (.inr (.inr z))
  have kp1:∀b o,¬ Wr τρ0 τσ0 b->b≠D->H1 b=some o->H2 b=some o:=fun b o n1 n2 e=>F2.kp b o (fun z=>z.elim n1 n2) (by rw [show H0' b=H1 b from aM n2];exact e);have k1:bh (OO A ρ1 σ) H1 (OO (gu A D) (fH ix ρ1 τρ) σ) H2:=fun b o nn e=>⟨fun z=>(kk b o nn e).1 (oo' b z),(kk b o nn e).2⟩
  have AiD:Ai D:=.inr (.inl rfl)
  have R':Rel K (gu A D) (fH ix ρ1 τρ) σ H2:=by
   refine⟨by rw [oE];exact R1.len,fun j p e=>?_,fun j l p q v e1 e2 o1 o2 s1 s2=>?_,fun b z=>?_,fun b z w=>?_⟩
   .rcases get' j p e with ⟨m,v,h1,h2,h3,h4⟩|⟨hj,h1⟩
    .obtain⟨v',hv',r⟩:=r2.get m p h4;rw [h3] at hv';cases hv';exact⟨v,h2,r.keeps (bh.less oo') fun _ _ _=>rfl⟩
    .obtain⟨v,hv,r⟩:=R1.get j p h1;refine⟨v,hv,r.keeps k1 fun ow a ea=>?_⟩;subst ea;obtain⟨a',u,e1,e2⟩:=r.ref ow;cases e1;rw [e2];exact kp1 a u (nocap j p a hj h1 ow hv) (fun z=>by rw [z,hD] at e2;cases e2) e2
   .rcases get' j p e1 with ⟨m,v1,h1,h2,h3,h4⟩|⟨hj,h1⟩
    .rw [s1] at h2;cases h2
     rcases get' l q e2 with ⟨m',v2,g1,g2,g3,g4⟩|⟨hl,g1⟩
     .rw [s2] at g2;cases g2;have:=r2.dj m m' p q _ h4 g4 o1 o2 h3 g3;subst this;rw [h1] at g1;cases g1;rfl
     .exfalso;obtain⟨v',hv',r⟩:=r2.get m p h4;rw [h3] at hv';cases hv';obtain⟨a,u,ea,_⟩:=r.ref o1;subst ea;exact nocap l q a hl g1 o2 s2 (hw a ⟨m,p,h4,o1,h3⟩)
    .rcases get' l q e2 with ⟨m',v2,g1,g2,g3,g4⟩|⟨hl,g1⟩
     .rw [s2] at g2;cases g2;exfalso;obtain⟨v',hv',r⟩:=r2.get m' q g4;rw [g3] at hv';cases hv';obtain⟨a,u,ea,_⟩:=r.ref o2;subst ea;exact nocap j p a hj h1 o1 s1 (hw a ⟨m',q,g4,o2,g3⟩)
     .exact R1.dj j l p q v h1 g1 o1 o2 s1 s2
   .rcases z with z|z
    .exact r2.dom b (.inl z)
    .rw [z,eD];exact nofun
   .rcases w' b w with w|w
    .rcases z with z|z
     .exact r2.sep b (.inl z) w
     .rw [z] at w;exact r2.sep D AiD w
    .rcases z with z|z
     .exact R1.sep b z w.1
     .rw [z] at w;exact nD w.1
  have f2:Fr ρ1 σ H1 (fH ix ρ1 τρ) H2:=by
   refine⟨fun b o nn e=>kp1 b o (fun z=>nn (wsub b z)) (fun z=>by rw [z,hD] at e;cases e) e,fun b z=>F2.dm b ?_,fun b z=>?_⟩
   .intro e
    by_cases zz:b=D
    .exact z (by rw [zz];exact hD)
    .rw [show H0' b=H1 b from aM zz] at e;exact z e
   .rcases w' b z with z|z
    .exact wsub b (hw b z)
    .exact z.1
  have hD0:H D=none:=by
   cases e:H D with
   | none=>rfl
   | some o=>exact absurd hD (f1.dm D (by rw [e];exact nofun))
  exact k _ H2 (.own ys) _ q' (f1.trans f2) ⟨D,xs,rfl,fun z=>R1.dom D z hD,hD0,eD,R',fD.keeps (bh.less oo')⟩
section
variable {K:PySem.W.Frag}{A A':Addr->Prop}{ρ:PSt}{σ:St}{H H':Hp}
theorem Rel.step(R:Rel K A ρ σ H){i:Nat}{p q:PV}{a:Addr}(e:ρ[i]?=some (some p))(ow:p.isOwn=true)(ow':q.isOwn=true)(es:σ[i]?=some (some (.ref a)))
  (kp:∀b o,b≠a->H b=some o->H' b=some o) (ha:H' a≠none) (h1:∀b,A b->A' b) (h2:∀b,A' b->A b\/H b=none) (dom':∀b,A' b->H' b≠none)
  (new:RS K (OO A' ρ σ) H' q (.ref a)):Rel K A' (ρ.set i (some q)) σ H'/\Fr ρ σ H (ρ.set i (some q)) H':=by
 have hi:i<ρ.length:=(List.getElem?_eq_some_iff.mp e).1;have wa:Wr ρ σ a:=⟨i,p,e,ow,es⟩
 have weq:∀b,Wr (ρ.set i (some q)) σ b ↔ Wr ρ σ b:=fun b=>by
  constructor
  .rintro⟨j,r,e1,o1,s1⟩
   by_cases z:i=j
   .subst z;exact⟨i,p,e,ow,s1⟩
   .rw [getElem?_set_ne z] at e1;exact⟨j,r,e1,o1,s1⟩
  .rintro⟨j,r,e1,o1,s1⟩
   by_cases z:i=j
   .subst z;exact⟨i,q,getElem?_set_self hi,ow',s1⟩
   .exact⟨j,r,by rw [getElem?_set_ne z];exact e1,o1,s1⟩
 have oeq:OO A' (ρ.set i (some q)) σ=OO A' ρ σ:=funext fun b=>propext (or_congr Iff.rfl (weq b));have kp1:∀b u,¬ Wr ρ σ b->H b=some u->H' b=some u:=fun b u n h=>kp b u (fun z=>n (by rw [z];exact wa)) h
 have k:bh (OO A ρ σ) H (OO A' ρ σ) H':=fun b u n h=>by
  refine⟨fun z=>?_,kp1 b u (fun z=>n (.inr z)) h⟩
  rcases z with z|z
  .rcases h2 b z with z|z
   .exact n (.inl z)
   .rw [z] at h;cases h
  .exact n (.inr z)
 have dm:∀b,H b≠none->H' b≠none:=fun b n=>by
  by_cases z:b=a
  .rw [z];exact ha
  .cases eb:H b with
   | none=>exact absurd eb n
   | some o=>rw [kp b o z eb];exact nofun
 refine⟨⟨by rw [length_set];exact R.len,fun j r e1=>?_,fun j l p1 q1 v e1 e2 o1 o2 s1 s2=>?_,dom',fun b z w=>?_⟩,⟨kp1,dm,fun b w=>(weq b).mp w⟩⟩
 .rw [oeq]
  by_cases z:i=j
  .subst z;rw [getElem?_set_self hi] at e1;cases e1;exact⟨_,es,new⟩
  .rw [getElem?_set_ne z] at e1;obtain⟨v,s,rr⟩:=R.get j r e1;refine⟨v,s,rr.keeps k fun ow2 b eb=>?_⟩;obtain⟨b',u,e3,e4⟩:=rr.ref ow2;rw [eb] at e3;cases e3;rw [e4];refine kp b u (fun zz=>?_) e4;subst zz;rw [eb] at s;exact z (R.dj i j p r _ e e1 ow ow2 es s)
 .have ex:∀(m:Nat) (x:PV),(ρ.set i (some q))[m]?=some (some x)->x.isOwn=true->∃y:PV,ρ[m]?=some (some y)/\y.isOwn=true:=fun m x em ox=>by
   by_cases z:i=m
   .subst z;exact⟨p,e,ow⟩
   .rw [getElem?_set_ne z] at em;exact⟨x,em,ox⟩
  obtain⟨y1,g1,g2⟩:=ex j p1 e1 o1;obtain⟨y2,g3,g4⟩:=ex l q1 e2 o2;exact R.dj j l y1 y2 v g1 g3 g2 g4 s1 s2
 .rcases h2 b z with z|z
  .exact R.sep b z ((weq b).mp w)
  .exact R.wr ((weq b).mp w) z
theorem Rel.lstw(R:Rel K A ρ σ H){i:Nat}{ds es:List D}{a:Addr}{ys:List V}(e:ρ[i]?=some (some (.own ds)))(es':σ[i]?=some (some (.ref a)))(f:FVs K (OO A ρ σ) H ys es) :
  Rel K A (ρ.set i (some (.own es))) σ (upd H a (.lst ys))/\Fr ρ σ H (ρ.set i (some (.own es))) (upd H a (.lst ys)):=by
 have wa:OO A ρ σ a:=.inr ⟨i,_,e,rfl,es'⟩;exact R.write (q:=.own es) e rfl rfl es' ⟨a,ys,rfl,bv,f.keeps fun b u n h=>⟨n,by rw [aM (fun z=>n (by rw [z];exact wa))];exact h⟩⟩
theorem Rel.ownAt(R:Rel K A ρ σ H){i:Nat}{ds:List D}(e:ρ[i]?=some (some (.own ds))):∃a xs,σ[i]?=some (some (.ref a))/\H a=some (.lst xs)/\FVs K (OO A ρ σ) H xs ds:=by
 obtain⟨v,s,a,xs,rfl,g,f⟩:=R.get i _ e;exact⟨a,xs,s,g,f⟩
end
def xI(i:Nat)(pe:PTE):PTE:=fun ρ Q=>match ρ[i]? with
 | some (some (.own _))=>pe ρ fun p ρ1=>(match ρ1[i]? with
  | some (some (.own ds))=>ds.length<1000000/\Q (.dat .non) (ρ1.set i (some (.own (ds++[p.d]))))
  | _=>False)
 | _=>False
def Fk(i:Nat):PTE:=fun ρ Q=>match ρ[i]? with
 | some (some (.own ds))=>∃d,ds[ds.length - 1]?=some d/\Q (.dat d) (ρ.set i (some (.own ds.dropLast)))
 | _=>False
def zG(i:Nat)(pe pk:PTE):PTS:=fun D ρ=>pe ρ fun p ρ1=>(match ρ1[i]? with
 | some (some (.own _))=>pk ρ1 fun kp ρ2=>(match ρ2[i]?,kp with
  | some (some (.own ds)),.dat (.int k)=>∃j,ixN ds.length k=some j/\D.nx (ρ2.set i (some (.own (ds.set j p.d))))
  | _,_=>False)
 | _=>False)
section
variable {K:PySem.W.Frag}{te tk:TE}{pe pk:PTE}{fs:List Nat}
theorem j8{i:Nat}(h:LE K te pe):LE K (tBM K "list" vA (bg i) (bB te fB)) (xI i pe):=fun A ρ σ H Q Q' R q k=>by
 unfold xI at q
 split at q
 .rename_i ds0 e0;obtain⟨a0,xs0,s0,g0,f0⟩:=R.ownAt e0;refine⟨_,s0,.inl ⟨rfl,xs0,SqL.of g0⟩,h A ρ σ H _ _ R q fun v H1 p ρ1 q1 f1 o1=>?_⟩;obtain⟨R1,fv⟩:=o1.frz
  split at q1
  .rename_i ds e1;obtain⟨a,xs,s,g,f⟩:=R1.ownAt e1;rw [s0] at s;cases s;obtain⟨R2,f2⟩:=R1.lstw e1 s0 (f.append (.cons fv .nil));exact⟨a0,xs,v,rfl,rfl,g,lt_of_lt_of_le (by rw [f.length];exact q1.1) (sz _ (Nat.le_refl _)),k _ _ _ _ q1.2 (f1.trans f2) ⟨R2,.non⟩⟩
  .exact q1.elim
 .exact q.elim
theorem DF{i:Nat}:LE K (CW K "list" F7 (bg i)) (Fk i):=fun A ρ σ H Q Q' R q k=>by
 unfold Fk at q
 split at q
 .rename_i ds e;obtain⟨d,hd,q⟩:=q;obtain⟨a,xs,s,g,f⟩:=R.ownAt e;obtain⟨v,hv,fv⟩:=f.getD hd;obtain⟨R2,f2⟩:=R.lstw (es:=ds.dropLast) (ys:=xs.dropLast) e s (by rw [dropLast_eq_take,dropLast_eq_take,f.length];exact f.take _);exact⟨_,s,.inl ⟨rfl,xs,SqL.of g⟩,a,xs,v,rfl,rfl,g,by rw [f.length];exact hv,k _ _ _ _ q f2 ⟨R2,(fv.keeps f2.keeps)⟩⟩
 .exact q.elim
theorem A8{i:Nat}(h:LE K te pe)(hk:LE K tk pk):LS K fs (B7 te (FP (bg i) tk CU)) (zG i pe pk):=fun fx A R H0 ρ σ H D D' hf r F q k1 k2 k3 k4=>h A ρ σ H _ _ r q fun v H1 p ρ1 q1 f1 o1=>by
 obtain⟨R1,fv⟩:=o1.frz
 split at q1
 .rename_i ds0 e0;obtain⟨a0,xs0,s0,g0,f0⟩:=R1.ownAt e0;refine⟨_,s0,hk A ρ1 σ H1 _ _ R1 q1 fun w H2 kp ρ2 q2 f2 o2=>?_⟩
  split at q2
  .rename_i ds j e2;obtain⟨n,hn,q2⟩:=q2;obtain⟨R2,fw⟩:=o2;cases fw;obtain⟨a,xs,s,g,f⟩:=R2.ownAt e2;rw [s0] at s;cases s;obtain⟨R3,f3⟩:=R2.lstw e2 s0 (FVs.set (fv.keeps f2.keeps) n f);exact⟨a0,xs,j,n,rfl,rfl,g,by rw [f.length];exact hn,k1 _ _ _ q2 R3 (((F.fr f1).fr f2).fr f3)⟩
  .exact q2.elim
 .exact q1.elim
end
def spP(K:PySem.W.Frag)(c:FN):Sp:=fun vs H Q _=>∃(O:Addr->Prop) (ds:List D) (Qc:PV->Prop),(∀b,O b->H b≠none)/\FVs K O H vs ds/\c ds Qc/\∀r,Qc r->∀v H',Gr H H'->rn K O H H' r v->Q v H'
def bF(c:FN)(pr:PTA):PTE:=fun ρ Q=>pr ρ fun as ρ1=>match avD as with
 | some ds=>c ds fun r=>Q r ρ1
 | none=>False
theorem lx{N:List Str}{vs:List V}{i:Nat}{v:V}(h:vs[i]?=some v):(start N vs)[i]?=some (some v):=by
 unfold start;rw [getElem?_append_left (by rw [length_map];exact (List.getElem?_eq_some_iff.mp h).1),getElem?_map,h];rfl
def et(n:Nat)(ps:List PV):PSt:=ps.map some++List.replicate (n - ps.length) none
theorem fJ{n:Nat}{ps:List PV}{i:Nat}{p:PV}(h:(et n ps)[i]?=some (some p)):ps[i]?=some p:=by
 unfold et at h
 by_cases hi:i<ps.length
 .rw [getElem?_append_left (by rw [length_map];exact hi),getElem?_map] at h
  cases e:ps[i]? with
  | none=>rw [e] at h;cases h
  | some q=>rw [e] at h;cases h;rfl
 .rw [getElem?_append_right (by rw [length_map];omega)] at h;have:=mem_of_getElem? h;rw [mem_replicate] at this;cases this.2
section
variable {K:PySem.W.Frag}{tr:TA}{pr:PTA}{ts:TS}{ps:PTS}
theorem aN{c:FN}(h:LAs K tr pr):LE K (fm (spP K c) [] E0 tr) (bF c pr):=fun A ρ σ H Q Q' R q k=>h A ρ σ H _ _ R q fun vs H1 as ρ1 q1 f1 R1 o1=>by
 split at q1
 .rename_i ds e;rw [append_nil];exact⟨OO A ρ1 σ,ds,_,R1.dom2,o1.avD e,q1,fun r qr v H' g ov=>k v H' r ρ1 qr (f1.trans g.fr) ((ov.out R1 g).h0 f1.dm)⟩
 .exact q1.elim
theorem Out.outV{O:Addr->Prop}{ρ:PSt}{σ:St}{H H':Hp}{p:PV}{v:V}(h:Out K O ρ σ H H' p v):rn K O H H' p v:=by
 cases p with
 | dat d=>exact h.2.keeps (bh.less fun b z=>.inl z)
 | own ds =>
  obtain⟨a,xs,e1,na,e2,e3,R,f⟩:=h;exact⟨a,xs,e1,e2,e3,f.keeps (bh.less fun b z=>.inl z)⟩
 | ins c ns ds =>
  obtain⟨a,dx,fs,e1,na,e2,e3,m,R,f⟩:=h;exact⟨a,dx,fs,e1,e2,e3,m,f.keeps (bh.less fun b z=>.inl z)⟩
theorem fnP{c:FN}{N:List Str}(hl:LS K [] ts ps)(hn:∀ds Q,c ds Q->ds.length<=N.length)(hc:∀ds Q,c ds Q->ps { nx:=fun _=>Q (.dat .non),rt:=fun p _=>Q p } (et N.length (ds.map .dat)))
  {vs:List V}{H:Hp}{Q:VK}{E:XK} (h:spP K c vs H Q E):ts { nx:=fun _ H'=>Q .non H',rt:=Q } (start N vs) H:=by
 obtain⟨O,ds,Qc,dom,fv,hq,k⟩:=h
 have nw:∀(ρ:PSt) (b:Addr),ρ=et N.length (ds.map .dat)->¬ Wr ρ (start N vs) b:=fun ρ b e ⟨i,p,e1,o1,s1⟩=>by
  rw [e] at e1;have:=fJ e1;rw [getElem?_map] at this
  cases e2:ds[i]? with
  | none=>rw [e2] at this;cases this
  | some d=>rw [e2] at this;cases this;cases o1
 have lenv:=fv.length;have hle:=hn ds Qc hq
 have R0:Rel K O (et N.length (ds.map .dat)) (start N vs) H:=by
  refine⟨?_,fun i p e=>?_,fun i j p q v e1 e2 o1 o2 s1 s2=>?_,dom,fun b _ w=>nw _ b rfl w⟩
  .unfold et start;rw [length_append,length_append,length_map,length_map,length_map,length_replicate,length_replicate,lenv]
  .have:=fJ e;rw [getElem?_map] at this
   cases e2:ds[i]? with
   | none=>rw [e2] at this;cases this
   | some d =>
    rw [e2] at this;cases this;obtain⟨v,hv,f⟩:=fv.getD e2;exact⟨v,lx hv,f.keeps (bh.less fun b z=>z.elim id fun w=>absurd w (nw _ b rfl))⟩
  .have:=fJ e1;rw [getElem?_map] at this
   cases e3:ds[i]? with
   | none=>rw [e3] at this;cases this
   | some d=>rw [e3] at this;cases this;cases o1
 refine hl [] O (fun _=>False) H _ _ H _ _ rfl R0 ⟨fun _ _ _ h=>h,fun _ h=>h,fun b w=>absurd w (nw _ b rfl),fun p hp=>nomatch hp⟩ (hc ds Qc hq) (fun ρ' σ' H' q r F=>?_) (fun v p ρ' σ' H' q o F=>?_) (fun _ _ _ z=>z.elim) (fun _ _ _ z=>z.elim)
 .exact k _ q .non H' (fun b o e=>F.kp b o id e) .non
 .exact k _ q v H' (fun b o e=>F.kp b o id e) o.outV
abbrev FR:=PV->List D->(PV->PV->Prop)->Prop
def spR(K:PySem.W.Frag)(c:FR):Sp:=fun vs H Q _=>∃(A:Addr->Prop) (a:Addr) (p:PV) (ws:List V) (ds:List D) (Qc:PV->PV->Prop),vs=.ref a::ws/\p.isOwn=true/\(∀b,A b->H b≠none)/\¬ A a/\RS K (gu A a) H p (.ref a)/\FVs K (gu A a) H ws ds/\c p ds Qc /\
 ∀r p',Qc r p'->p'.isOwn=true->∀v H',(∀b o,b≠a->H b=some o->H' b=some o)->H' a≠none->RS K (gu A a) H' p' (.ref a)->rn K (gu A a) H H' r v->(∀a',v=.ref a'->r.isOwn=true->RS K (gu (gu A a) a') H' p' (.ref a))->Q v H'
def bN(c:FR)(i:Nat)(pr:PTA):PTE:=fun ρ Q=>match ρ[i]? with
 | some (some _)=>pr ρ fun as ρ1=>(match ρ1[i]?,avD as with
  | some (some p),some ds=>p.isOwn=true/\c p ds fun r p'=>Q r (ρ1.set i (some p'))
  | _,_=>False)
 | _=>False
theorem aU{c:FR}{i:Nat}(h:LAs K tr pr):LE K (fm (spR K c) [] E0 (bB (bg i) tr)) (bN c i pr):=fun A ρ σ H Q Q' R q k=>by
 unfold bN at q
 split at q
 .rename_i p0 e0;obtain⟨v0,s0,_⟩:=R.get i p0 e0;refine⟨v0,s0,h A ρ σ H _ _ R q fun vs H1 as ρ1 q1 f1 R1 o1=>?_⟩
  split at q1
  .rename_i p ds e1 ed;obtain⟨ow,q1⟩:=q1;obtain⟨v1,s1,rs⟩:=R1.get i p e1;rw [s0] at s1;cases s1;obtain⟨a,u,rfl,ea⟩:=rs.ref ow;rw [append_nil];have wa:Wr ρ1 σ a:=⟨i,p,e1,ow,s0⟩
   have oeq:gu (fun b=>(OO A ρ1 σ b)/\b≠a) a=OO A ρ1 σ:=funext fun b=>propext ⟨fun z=>z.elim (fun z=>z.1) (fun z=>by rw [z];exact .inr wa),fun z=>by
    by_cases e:b=a
    .exact .inr e
    .exact .inl ⟨z,e⟩⟩
   refine⟨fun b=>(OO A ρ1 σ b)/\b≠a,a,p,vs,ds,_,rfl,ow,fun b z=>R1.dom2 b z.1,fun z=>z.2 rfl,by rw [oeq];exact rs,by rw [oeq];exact o1.avD ed,q1,fun r p' qr ow' v H' kp ha rs' ov hx=>?_⟩;rw [oeq] at rs' ov hx
   have domA:∀b,A b->H' b≠none:=fun b z=>by
    have:b≠a:=fun e=>R1.sep b z (by rw [e];exact wa)
    cases eb:H1 b with
    | none=>exact absurd eb (R1.dom b z)
    | some o=>rw [kp b o this eb];exact nofun
   cases r with
   | dat d =>
    obtain⟨R2,f2⟩:=R1.step (A':=A) e1 ow ow' s0 kp ha (fun _ h=>h) (fun _ h=>.inl h) domA rs';exact k v H' _ _ qr (f1.trans f2) ⟨R2,FV.keeps (bh.less fun b z=>z.imp id (f2.ow b)) ov⟩
   | own es =>
    obtain⟨a',xs,rfl,n1,e2,f⟩:=ov;have hx:=hx a' rfl rfl;have na:a'≠a:=fun e=>by rw [e,ea] at n1;cases n1
    have oo2:∀b,OO (gu A a') ρ1 σ b ↔ gu (OO A ρ1 σ) a' b:=fun b=>⟨fun z=>by
     rcases z with (z|z)|z
     .exact .inl (.inl z)
     .exact .inr z
     .exact .inl (.inr z),fun z=>by
     rcases z with (z|z)|z
     .exact .inl (.inl z)
     .exact .inr z
     .exact .inl (.inr z)⟩
    have oo2':OO (gu A a') ρ1 σ=gu (OO A ρ1 σ) a':=funext fun b=>propext (oo2 b)
    obtain⟨R2,f2⟩:=R1.step (A':=gu A a') e1 ow ow' s0 kp ha (fun _ h=>.inl h) (fun b z=>z.imp id fun z=>by rw [z];exact n1) (fun b z=>z.elim (domA b) fun z=>by rw [z,e2];exact nofun) (by rw [oo2'];exact hx)
    .refine k _ H' (.own es) _ qr (f1.trans f2) ⟨a',xs,rfl,fun z=>R1.dom a' z n1,?_,e2,R2,f.keeps (bh.less fun b z=>?_)⟩
     .cases eb:H a' with
      | none=>rfl
      | some o=>exact absurd n1 (f1.dm a' (by rw [eb];exact nofun))
     .rw [<- oo2'];exact z.imp id (f2.ow b)
   | ins c ns es =>
    obtain⟨a',dx,fs,rfl,n1,e2,m,f⟩:=ov;have hx:=hx a' rfl rfl
    have oo2':OO (gu A a') ρ1 σ=gu (OO A ρ1 σ) a':=funext fun b=>propext ⟨fun z=>by
     rcases z with (z|z)|z
     .exact .inl (.inl z)
     .exact .inr z
     .exact .inl (.inr z),fun z=>by
     rcases z with (z|z)|z
     .exact .inl (.inl z)
     .exact .inr z
     .exact .inl (.inr z)⟩
    obtain⟨R2,f2⟩:=R1.step (A':=gu A a') e1 ow ow' s0 kp ha (fun _ h=>.inl h) (fun b z=>z.imp id fun z=>by rw [z];exact n1) (fun b z=>z.elim (domA b) fun z=>by rw [z,e2];exact nofun) (by rw [oo2'];exact hx)
    .refine k _ H' (.ins c ns es) _ qr (f1.trans f2) ⟨a',dx,fs,rfl,fun z=>R1.dom a' z n1,?_,e2,m,R2,f.keeps (bh.less fun b z=>?_)⟩
     .cases eb:H a' with
      | none=>rfl
      | some o=>exact absurd n1 (f1.dm a' (by rw [eb];exact nofun))
     .rw [<- oo2'];exact z.imp id (f2.ow b)
  .exact q1.elim
 .exact q.elim
def Cd(Q:PV->PV->Prop)(r:PV)(ρ:PSt):Prop:=match ρ[0]? with
 | some (some p)=>p.isOwn=true/\Q r p
 | _=>False
theorem fnR{c:FR}{N:List Str}(hl:LS K [0] ts ps)(hn:∀p ds Q,c p ds Q->ds.length+1<=N.length)(hc:∀p ds Q,p.isOwn=true->c p ds Q->ps { nx:=Cd Q (.dat .non),rt:=Cd Q } (et N.length (p::ds.map .dat)))
  {vs:List V}{H:Hp}{Q:VK}{E:XK} (h:spR K c vs H Q E):ts { nx:=fun _ H'=>Q .non H',rt:=Q } (start N vs) H:=by
 obtain⟨A,a,p,ws,ds,Qc,rfl,ow,dom,na,rs,fv,hq,k⟩:=h;have s0:(start N (V.ref a::ws))[0]?=some (some (.ref a)):=lx rfl;have b0:(et N.length (p::ds.map .dat))[0]?=some (some p):=rfl
 have wr:∀b,Wr (et N.length (p::ds.map .dat)) (start N (.ref a::ws)) b->b=a:=fun b ⟨i,q,e1,o1,s1⟩=>by
  have:=fJ e1
  cases i with
  | zero=>rw [s0] at s1;cases s1;rfl
  | succ i =>
   rw [getElem?_cons_succ,getElem?_map] at this
   cases e2:ds[i]? with
   | none=>rw [e2] at this;cases this
   | some d=>rw [e2] at this;cases this;cases o1
 have wa:Wr (et N.length (p::ds.map .dat)) (start N (.ref a::ws)) a:=⟨0,p,b0,ow,s0⟩
 have oeq:OO A (et N.length (p::ds.map .dat)) (start N (.ref a::ws))=gu A a:=funext fun b=>propext ⟨fun z=>z.imp id (wr b),fun z=>z.imp id fun z=>by rw [z];exact wa⟩;have lenv:=fv.length;have hle:=hn p ds Qc hq
 have R0:Rel K A (et N.length (p::ds.map .dat)) (start N (.ref a::ws)) H:=by
  refine⟨?_,fun i q e=>?_,fun i j q1 q2 v e1 e2 o1 o2 s1 s2=>?_,dom,fun b z w=>?_⟩
  .unfold et start;simp only [length_append,length_map,length_replicate,length_cons,lenv]
  .have:=fJ e;rw [oeq]
   cases i with
   | zero=>cases this;exact⟨_,s0,rs⟩
   | succ i =>
    rw [getElem?_cons_succ,getElem?_map] at this
    cases e2:ds[i]? with
    | none=>rw [e2] at this;cases this
    | some d =>
     rw [e2] at this;cases this;obtain⟨v,hv,f⟩:=fv.getD e2;exact⟨v,lx (by rw [getElem?_cons_succ];exact hv),f⟩
  .have own0:∀(i:Nat) (q:PV),(et N.length (p::ds.map .dat))[i]?=some (some q)->q.isOwn=true->i=0:=fun i q e o=>by
    have:=fJ e
    cases i with
    | zero=>rfl
    | succ i =>
     rw [getElem?_cons_succ,getElem?_map] at this
     cases e2:ds[i]? with
     | none=>rw [e2] at this;cases this
     | some d=>rw [e2] at this;cases this;cases o
   rw [own0 i q1 e1 o1,own0 j q2 e2 o2]
  .rw [wr b w] at z;exact na z
 have fin:∀(v:V) (r:PV) (ρ':PSt) (σ':St) (H':Hp),Cd Qc r ρ'->Out K A ρ' σ' H H' r v->gH [(0,.ref a)] (fun b=>b=a) H ρ' σ' H'->Q v H':=fun v r ρ' σ' H' q o F=>by
  unfold Cd at q
  split at q
  .rename_i p' e';obtain⟨ow',q⟩:=q;have sa:=F.fx (0,.ref a) (mem_singleton.mpr rfl);have wa':Wr ρ' σ' a:=⟨0,p',e',ow',sa⟩
   have kpa:∀b o,b≠a->H b=some o->H' b=some o:=fun b o n e=>F.kp b o n e
   cases r with
   | dat d =>
    obtain⟨R1,f1⟩:=o;obtain⟨v1,s1,rs1⟩:=R1.get 0 p' e';rw [sa] at s1;cases s1;have less:∀b,gu A a b->OO A ρ' σ' b:=fun b z=>z.imp id fun z=>by rw [z];exact wa'
    exact k _ p' q ow' v H' kpa (R1.wr wa') (rs1.keeps (bh.less less) fun _ _ _=>rfl) (f1.keeps (bh.less less)) (fun _ _ z=>nomatch z)
   | own es =>
    obtain⟨a',xs,rfl,n1,n2,e3,R1,f1⟩:=o;obtain⟨v1,s1,rs1⟩:=R1.get 0 p' e';rw [sa] at s1;cases s1
    have less:∀b,gu (gu A a) a' b->OO (gu A a') ρ' σ' b:=fun b z=>by
     rcases z with (z|z)|z
     .exact .inl (.inl z)
     .exact .inr (by rw [z];exact wa')
     .exact .inl (.inr z)
    exact k _ p' q ow' _ H' kpa (R1.wr wa') (rs1.keeps (bh.less fun b z=>less b (.inl z)) fun _ _ _=>rfl) ⟨a',xs,rfl,n2,e3,f1.keeps (bh.less less)⟩ (fun a'' e _=>by cases e;exact rs1.keeps (bh.less less) fun _ _ _=>rfl)
   | ins c ns es =>
    obtain⟨a',dx,fs,rfl,n1,n2,e3,m,R1,f1⟩:=o;obtain⟨v1,s1,rs1⟩:=R1.get 0 p' e';rw [sa] at s1;cases s1
    have less:∀b,gu (gu A a) a' b->OO (gu A a') ρ' σ' b:=fun b z=>by
     rcases z with (z|z)|z
     .exact .inl (.inl z)
     .exact .inr (by rw [z];exact wa')
     .exact .inl (.inr z)
    exact k _ p' q ow' _ H' kpa (R1.wr wa') (rs1.keeps (bh.less fun b z=>less b (.inl z)) fun _ _ _=>rfl) ⟨a',dx,fs,rfl,n2,e3,m,f1.keeps (bh.less less)⟩ (fun a'' e _=>by cases e;exact rs1.keeps (bh.less less) fun _ _ _=>rfl)
  .exact q.elim
 refine hl [(0,.ref a)] A (fun b=>b=a) H _ _ H _ _ rfl R0 ⟨fun _ _ _ h=>h,fun _ h=>h,fun b w=>.inl (wr b w),fun q hq=>by rw [mem_singleton.mp hq];exact s0⟩ (hc p ds Qc ow hq) (fun ρ' σ' H' q r F=>fin .non (.dat .non) ρ' σ' H' q ⟨r,.non⟩ F) (fun v p ρ' σ' H' q o F=>fin v p ρ' σ' H' q o F) (fun _ _ _ z=>z.elim) (fun _ _ _ z=>z.elim)
end
def Gd:FN:=fun as Q=>∃ns:List Int,as=[.scr ns]/\ns.length<=63/\Q (.dat (.bl true))
theorem A9{K:PySem.W.Frag}{vs:List V}{H:Hp}{Q:VK}{E:XK}(h:uD K vs H Q E):spP K Gd vs H Q E:=by
 obtain⟨a,ns,rfl,hS,h63,q⟩:=h
 refine⟨fun _=>False,[.scr ns],fun r=>r=.dat (.bl true),nofun,.cons (.scr ?_) .nil,⟨ns,rfl,h63,rfl⟩,fun r e v H' g o=>?_⟩
 .rcases hS with h|h
  .exact .inl ⟨id,h⟩
  .exact .inr h
 .subst e;cases o;exact q H'
section
variable {K:PySem.W.Frag}{X:Cx}
def DG:List V->Hp->VK->Prop:=fun xs H Q=>∃i j,xs=[.int i,.int j]/\Q (.int (if j<i then j else i)) H
theorem zH(hc:X.calm=true):cN X (.builtin "min") DG:=vo hc
def yu:FN
 | [.int i,.int j],Q=>Q (.dat (.int (if j<i then j else i)))
 | _,_=>False
theorem wq:LC K DG yu:=by
 intro O H xs as Q Q' dom fs q k;unfold yu at q
 split at q
 .cases fs with
  | cons a b=>cases b with|cons b c=>cases c;rw [a.int,b.int];exact⟨_,_,rfl,k _ H _ q (Gr.refl _) (.int _)⟩
 .exact q.elim
def DH(K:PySem.W.Frag):List V->Hp->VK->Prop:=fun xs H Q=>∃(p:Addr) (ns:List Int),xs=[.ref p]/\SqL K H p (ns.map V.int)/\0<ns.length/\∀m:Int,m∈ns->(∀a∈ns,m<=a)->Q (.int m) H
def DI(K:PySem.W.Frag):List V->Hp->VK->Prop:=fun xs H Q=>∃(p:Addr) (ns:List Int),xs=[.ref p]/\SqL K H p (ns.map V.int)/\Q (.int ns.sum) H
def Ge(K:PySem.W.Frag):List V->Hp->VK->Prop:=fun xs H Q=>∃(p:Addr) (bs:List Bool),xs=[.ref p]/\SqL K H p (bs.map V.bl)/\Q (.bl (bs.all id)) H
def Gf(K:PySem.W.Frag):List V->Hp->VK->Prop:=fun xs H Q=>∃(p:Addr) (bs:List Bool),xs=[.ref p]/\SqL K H p (bs.map V.bl)/\Q (.bl (bs.any id)) H
theorem DJ(K:PySem.W.Frag)(e:X.K=K)(hc:X.calm=true):cN X (.builtin "min") (DH K):=by subst e;exact wd hc
theorem zI(K:PySem.W.Frag)(e:X.K=K)(hc:X.calm=true):cN X (.builtin "sum") (DI K):=by subst e;exact wf hc
theorem Fl(K:PySem.W.Frag)(e:X.K=K)(hc:X.calm=true):cN X (.builtin "all") (Ge K):=by subst e;exact yl hc
theorem Fm(K:PySem.W.Frag)(e:X.K=K)(hc:X.calm=true):cN X (.builtin "any") (Gf K):=by subst e;exact ym hc
def Ba:FN
 | [.lst ds],Q=>∃ns:List Int,ds=ns.map .int/\0<ns.length/\∀m:Int,m∈ns->(∀a∈ns,m<=a)->Q (.dat (.int m))
 | _,_=>False
def yv:FN
 | [.lst ds],Q=>∃ns:List Int,ds=ns.map .int/\Q (.dat (.int ns.sum))
 | _,_=>False
def Fn:FN
 | [.lst ds],Q=>∃bs:List Bool,ds=bs.map .bl/\Q (.dat (.bl (bs.all id)))
 | _,_=>False
def Fo:FN
 | [.lst ds],Q=>∃bs:List Bool,ds=bs.map .bl/\Q (.dat (.bl (bs.any id)))
 | _,_=>False
theorem Bb:LC K (DH K) Ba:=by
 intro O H xs as Q Q' dom fs q k;unfold Ba at q
 split at q
 .obtain⟨ns,rfl,h0,q⟩:=q
  cases fs with
  | cons a b =>
   cases b;obtain⟨p,ys,rfl,e1,f1⟩:=a.lst;rw [f1.ints] at e1;exact⟨p,ns,rfl,SqL.of e1,h0,fun m hm hle=>k _ H _ (q m hm hle) (Gr.refl _) (.int _)⟩
 .exact q.elim
theorem wt:LC K (DI K) yv:=by
 intro O H xs as Q Q' dom fs q k;unfold yv at q
 split at q
 .obtain⟨ns,rfl,q⟩:=q
  cases fs with
  | cons a b =>
   cases b;obtain⟨p,ys,rfl,e1,f1⟩:=a.lst;rw [f1.ints] at e1;exact⟨p,ns,rfl,SqL.of e1,k _ H _ q (Gr.refl _) (.int _)⟩
 .exact q.elim
theorem DK:LC K (Ge K) Fn:=by
 intro O H xs as Q Q' dom fs q k;unfold Fn at q
 split at q
 .obtain⟨ns,rfl,q⟩:=q
  cases fs with
  | cons a b =>
   cases b;obtain⟨p,ys,rfl,e1,f1⟩:=a.lst;rw [f1.bls] at e1;exact⟨p,ns,rfl,SqL.of e1,k _ H _ q (Gr.refl _) (.bl _)⟩
 .exact q.elim
theorem DL:LC K (Gf K) Fo:=by
 intro O H xs as Q Q' dom fs q k;unfold Fo at q
 split at q
 .obtain⟨ns,rfl,q⟩:=q
  cases fs with
  | cons a b =>
   cases b;obtain⟨p,ys,rfl,e1,f1⟩:=a.lst;rw [f1.bls] at e1;exact⟨p,ns,rfl,SqL.of e1,k _ H _ q (Gr.refl _) (.bl _)⟩
 .exact q.elim
def Bc(K:PySem.W.Frag):List V->Hp->VK->Prop:=fun xs H Q=>∃p ys,xs=[.ref p]/\((SqL K H p ys/\∀l,H l=none->Q (.ref l) (upd H l (.tup ys)))\/(SqT K H p ys/\Q (.ref p) H))
theorem iR(K:PySem.W.Frag)(e:X.K=K):cN X (.type "tuple") (Bc K):=by subst e;exact n6
theorem zJ(K:PySem.W.Frag)(e:X.K=K):cN X (.type "list") (wg K):=by subst e;exact pU
def jh:FN
 | [.lst ds],Q=>Q (.dat (.tup ds))
 | [.tup ds],Q=>Q (.dat (.tup ds))
 | [.scr ns],Q=>Q (.dat (.tup (ns.map .int)))
 | _,_=>False
def wu:FN
 | [.lst ds],Q=>Q (.own ds)
 | [.tup ds],Q=>Q (.own ds)
 | [.scr ns],Q=>Q (.own (ns.map .int))
 | _,_=>False
theorem fT:LC K (Bc K) jh:=by
 intro O H xs as Q Q' dom fs q k;unfold jh at q
 split at q
 .cases fs with
  | cons a b =>
   cases b;obtain⟨p,ys,rfl,e1,f1⟩:=a.lst;exact⟨p,ys,rfl,.inl ⟨SqL.of e1,fun l hl=>k _ _ _ q (Gr.new hl) (lm dom hl f1)⟩⟩
 .cases fs with
  | cons a b =>
   cases b;obtain⟨p,ys,rfl,n1,e1,f1⟩:=a.tup;exact⟨p,ys,rfl,.inr ⟨SqT.of e1,k _ H _ q (Gr.refl _) (.tup n1 e1 f1)⟩⟩
 .cases fs with
  | cons a b =>
   cases b;obtain⟨p,rfl,e1⟩:=a.scr;exact⟨p,_,rfl,.inl ⟨e1,fun l hl=>k _ _ _ q (Gr.new hl) (lm dom hl (FVs.of_ints _))⟩⟩
 .exact q.elim
theorem wv:LC K (wg K) wu:=by
 intro O H xs as Q Q' dom fs q k;unfold wu at q
 split at q
 .cases fs with
  | cons a b =>
   cases b;obtain⟨p,ys,rfl,e1,f1⟩:=a.lst;exact⟨p,ys,rfl,.inl (SqL.of e1),fun l hl=>k _ _ _ q (Gr.new hl) (dR hl f1)⟩
 .cases fs with
  | cons a b =>
   cases b;obtain⟨p,ys,rfl,n1,e1,f1⟩:=a.tup;exact⟨p,ys,rfl,.inr (SqT.of e1),fun l hl=>k _ _ _ q (Gr.new hl) (dR hl f1)⟩
 .cases fs with
  | cons a b =>
   cases b;obtain⟨p,rfl,e1⟩:=a.scr;exact⟨p,_,rfl,.inl e1,fun l hl=>k _ _ _ q (Gr.new hl) (dR hl (FVs.of_ints _))⟩
 .exact q.elim
variable {ta:TE}{pa:PA1}{tr:TA}{pr:PTA}{pe:PTE}
def tu(i:Int)(n:Nat):List D:=(List.range n).map fun (k:Nat)=>D.int (i+(k:Int))
def mkL(tup:Bool)(ds:List D):PV:=match tup with|true=>.dat (.tup ds)|false=>.own ds
def Bd(tup:Bool)(pr:PTA):PTE:=fun ρ Q=>pr ρ fun as ρ1=>match as with
 | [.v (.int j)]=>(0<=j/\j<=1000000)/\Q (mkL tup (tu 0 j.toNat)) ρ1
 | _=>False
theorem DM{O:Addr->Prop}{H:Hp}(i:Int)(n:Nat):FVs K O H (rF i 1 n) (tu i n):=by
 have e:∀l:List Nat,FVs K O H (l.map fun (k:Nat)=>V.int (i+k*1)) (l.map fun (k:Nat)=>D.int (i+(k:Int))):=fun l=>by
  induction l with
  | nil=>exact .nil
  | cons a r ih=>exact .cons (by show FV K O H (V.int (i+(a:Int)*1)) (D.int (i+(a:Int)));rw [show i+(a:Int)*1=i+(a:Int) by omega];exact .int _) ih
 exact e _
theorem m8{i j:Int}(h:i<=j):Builtin.Range.rangeSize i j 1=(((j - i).toNat:Nat):Int):=by
 unfold Builtin.Range.rangeSize;rw [if_pos (by decide)];simp only [ediv_one];split <;> omega
theorem uL{i j:Int}(h0:-1000000<=i)(h1:i<=j)(h2:j<=1000000):Builtin.Range.small i j 1=true:=by
 unfold Builtin.Range.small;rw [m8 h1];simp only [Builtin.Range.rangeFitsLong,and_eq_true,or_eq_true,decide_eq_true_eq,beq_iff_eq,show (1:Int) > 0 by decide,if_true];omega
def mkO(tup:Bool):List V->HO:=match tup with|true=>.tup|false=>.lst
theorem DN{O:Addr->Prop}{H:Hp}{xs:List V}{ds:List D}{p:Addr}(tup:Bool)(dom:∀b,O b->H b≠none)(hp:H p=none)(f:FVs K O H xs ds):rn K O H (upd H p (mkO tup xs)) (mkL tup ds) (.ref p):=by
 cases tup with
 | true=>exact lm dom hp f
 | false=>exact dR hp f
theorem tw(tup:Bool)(h:LAs K tr pr):LE K (tCB (EU K (mkO tup)) (bB (fun σ H Q=>tr σ H fun vs H1=>∃j:Int,vs=[.int j]/\∀p,H1 p=none->Q (.ref p) (upd H1 p (zC p 0 j 1))) fB)) (Bd tup pr):=fun A ρ σ H Q Q' R q k=>h A ρ σ H _ _ R q fun vs H1 as ρ1 q1 f1 R1 o1=>by
 split at q1
 .rename_i j
  cases o1 with
  | cons a b =>
   cases b;cases a;refine⟨j,rfl,fun p hp=>⟨p,0,j,1,j.toNat,rfl,bv,uL (by decide) q1.1.1 q1.1.2,by rw [m8 q1.1.1,Int.sub_zero],by omega,fun l hl=>?_⟩⟩;have g:Gr H1 (upd H1 p (zC p 0 j 1)):=Gr.new hp;have R2:=R1.gr g;have g2:Gr (upd H1 p (zC p 0 j 1)) (upd (upd H1 p (zC p 0 j 1)) l (mkO tup (rF 0 1 j.toNat))):=Gr.new hl;exact k _ _ _ ρ1 q1.2 (f1.trans (g.fr.trans g2.fr)) ((rn.out R2 g2 (DN tup R2.dom2 hl (DM 0 _))).h0 fun b z=>(g.fr (ρ:=ρ1) (σ:=σ)).dm b (f1.dm b z))
 .exact q1.elim
theorem zK(K:PySem.W.Frag)(e:X.K=K)(hc:X.calm=true):cN X (.type "list") (EU K (mkO false)):=by subst e;exact uF hc
def tz(pa:PA1):PTE:=fun ρ Q=>pa ρ fun x ρ1=>match cont ρ1 x with
 | some (.lst ds)=>Q (.own ds.reverse) ρ1
 | _=>False
def tD(K:PySem.W.Frag)(te:TE):TE:=fun σ H Q=>te σ H fun x H1=>∃a xs,x=.ref a/\SqL K H1 a xs/\∀l,H1 l=none->Q (.ref l) (upd H1 l (.lst xs.reverse))
theorem rO{e:Expr}{te:TE}{p p1 p2 pos:Pos}(K:PySem.W.Frag)(eK:X.K=K)(hc:X.calm=true)(he:PE X e te)(hg1:Gl X "list")(hm1:X.mg "list"=none)(hg2:Gl X "reversed")(hm2:X.mg "reversed"=none)
  (hs:starEach [.Call (.Name "reversed" p1) [e] [] p2] X.env=[(false,eval (.Call (.Name "reversed" p1) [e] [] p2) X.env)]:=by rfl) (hs2:starEach [e] X.env=[(false,eval e X.env)]:=by rfl) :
  PE X (.Call (.Name "list" p) [.Call (.Name "reversed" p1) [e] [] p2] [] pos) (tD K te):=by subst eK;exact uH hc he hg1 hm1 hg2 hm2 hs hs2
theorem uM(h:LA1 K ta pa):LE K (tD K ta) (tz pa):=fun A ρ σ H Q Q' R q k=>h A ρ σ H _ _ R q fun v H1 a ρ1 q1 f1 R1 o1=>by
 split at q1
 .rename_i ds e;obtain⟨p,xs,rfl,e1,fs⟩:=(R1.cont o1 e).lst;refine⟨p,xs,rfl,SqL.of e1,fun l hl=>?_⟩;have g:Gr H1 (upd H1 l (.lst xs.reverse)):=Gr.new hl;exact k _ _ _ ρ1 q1 (f1.trans g.fr) ((rn.out (p:=.own ds.reverse) R1 g (dR hl fs.reverse)).h0 f1.dm)
 .exact q1.elim
abbrev FM:=List Nat->List D->(PV->Prop)->Prop
def LM(K:PySem.W.Frag)(r:V->List V->Hp->VK->Prop)(f:FM):Prop:=∀(O:Addr->Prop) (H:Hp) (l:List Nat) (xs:List V) (as:List D) (Q:PV->Prop) (Q':VK),(∀b,O b->H b≠none)->l.length<=1000000->Ca K O H xs as->f l as Q ->
 (∀v H' p,Q p->Gr H H'->rn K O H H' p v->Q' v H')->r (.str (S l)) xs H Q'
def pSM(f:FM)(pe:PTE)(pr:PTA):PTE:=fun ρ Q=>pe ρ fun p ρ1=>match p with
 | .dat (.str l)=>pr ρ1 fun as ρ2=>(match conts ρ2 as with
  | some ds=>f l ds fun r=>Q r ρ2
  | none=>False)
 | _=>False
theorem yw{r:V->List V->Hp->VK->Prop}{f:FM}(o:LM K r f)(he:LE K ta pe)(hr:LAs K tr pr):LE K (tBM K "str" r ta tr) (pSM f pe pr):=fun A ρ σ H Q Q' R q k=>he A ρ σ H _ _ R q fun v H1 p ρ1 q1 f1 o1=>by
 split at q1
 .rename_i l;obtain⟨R1,fv⟩:=o1
  cases fv with
  | str _ hl =>
   refine⟨rfl,hr A ρ1 σ H1 _ _ R1 q1 fun vs H2 as ρ2 q2 f2 R2 o2=>?_⟩
   split at q2
   .rename_i ds e;exact o _ H2 l vs ds _ _ R2.dom2 hl (R2.conts o2 e) q2 fun z H3 p q3 g ov=>k z H3 p ρ2 q3 ((f1.trans f2).trans g.fr) ((ov.out R2 g).h0 fun b z=>f2.dm b (f1.dm b z))
   .exact q2.elim
 .exact q1.elim
def DO:V->List V->Hp->VK->Prop:=fun x xs H Q=>∃a b,x=.str (S a)/\xs=[.str (S b)]/\Q (.bl (decide (b <:+ a))) H
def zL:V->List V->Hp->VK->Prop:=fun x xs H Q=>∃a b,x=.str (S a)/\xs=[.str (S b)]/\Q (.int (fnd a b 0)) H
theorem Be:MtR X "str.endswith" DO:=rE
theorem yx:MtR X "str.find" zL:=yi
def Bf:FM
 | a,[.str b],Q=>Q (.dat (.bl (decide (b <:+ a))))
 | _,_,_=>False
def ww:FM
 | a,[.str b],Q=>Q (.dat (.int (fnd a b 0)))
 | _,_,_=>False
theorem Bg:LM K DO Bf:=by
 intro O H l xs as Q Q' dom hl fs q k;unfold Bf at q
 split at q
 .cases fs with|cons a b=>cases b;rw [a.str.1];exact⟨_,_,rfl,rfl,k _ H _ q (Gr.refl _) (.bl _)⟩
 .exact q.elim
theorem yz:LM K zL ww:=by
 intro O H l xs as Q Q' dom hl fs q k;unfold ww at q
 split at q
 .cases fs with|cons a b=>cases b;rw [a.str.1];exact⟨_,_,rfl,rfl,k _ H _ q (Gr.refl _) (.int _)⟩
 .exact q.elim
def eY(f:Str):List Str->Option Nat
 | []=>none
 | n::r=>if n=f then some 0 else (eY f r).map (·+1)
theorem qh{f:Str}:∀{fs:List (Str×V)}{k:Nat},eY f (fs.map Prod.fst)=some k->fs.lookup f=(fs.map Prod.snd)[k]?
 | [],k,h=>by cases h
 | (n,v)::r,k,h=>by
  unfold eY at h;rw [map_cons] at h;simp only at h;rw [lookup_cons]
  by_cases e:n=f
  .rw [if_pos e] at h;cases h;rw [show (f == n)=true by rw [e];exact beq_self_eq_true _];rfl
  .rw [if_neg e] at h;rw [show (f == n)=false from beq_eq_false_iff_ne.mpr fun z=>e z.symm]
   cases e2:eY f (r.map Prod.fst) with
   | none=>rw [e2] at h;cases h
   | some j=>rw [e2] at h;cases h;show List.lookup f r=_;rw [qh e2];simp
theorem ly{f:Str}:∀{fs:List (Str×V)},eY f (fs.map Prod.fst)=none->fs.lookup f=none
 | [],h=>rfl
 | (n,v)::r,h=>by
  unfold eY at h;rw [map_cons] at h;simp only at h;rw [lookup_cons]
  by_cases e:n=f
  .rw [if_pos e] at h;cases h
  .rw [if_neg e] at h;rw [show (f == n)=false from beq_eq_false_iff_ne.mpr fun z=>e z.symm]
   cases e2:eY f (r.map Prod.fst) with
   | none=>exact ly e2
   | some j=>rw [e2] at h;cases h
theorem oG{f:Str}{v:V}:∀{fs:List (Str×V)},eY f (fs.map Prod.fst)=none->mU f v fs=fs++[(f,v)]
 | [],h=>rfl
 | (n,x)::r,h=>by
  unfold eY at h;rw [map_cons] at h;simp only at h
  by_cases e:n=f
  .rw [if_pos e] at h;cases h
  .rw [if_neg e] at h
   cases e2:eY f (r.map Prod.fst) with
   | none=>unfold mU;rw [if_neg e,oG e2];rfl
   | some j=>rw [e2] at h;cases h
theorem FVc.obj{O:Addr->Prop}{H:Hp}{v:V}{c:Str}{ns:List Str}{ds:List D}(h:FVc K O H v (.obj c ns ds)):∃a dx fs,v=.ref a/\H a=some (.ins (cJ K c) dx fs)/\fs.map Prod.fst=ns/\FVs K O H (fs.map Prod.snd) ds:=by
 rcases h with h|⟨a,xs,ds',e1,e2,e3,f⟩|⟨a,dx,c,fs,ns,ds',e1,e2,e3,m,f⟩
 .cases h with
  | obj n e m f=>exact⟨_,_,_,rfl,e,m,f⟩
 .cases e2
 .cases e2;exact⟨a,dx,fs,e1,e3,m,f⟩
def uN(c0:Str)(ns0:List Str)(k:Nat)(pa:PA1):PTE:=fun ρ Q=>pa ρ fun x ρ1=>match cont ρ1 x with
 | some (.obj c ns ds)=>(c=c0/\ns=ns0)/\∃d,ds[k]?=some d/\Q (.dat d) ρ1
 | _=>False
theorem gx{c0 f:Str}{ns0:List Str}{i:Nat}(hc:Cls K (cJ K c0))(hn:eU K (cJ K c0) f)(hk:eY f ns0=some i)(h:LA1 K ta pa):LE K (xG K ta f) (uN c0 ns0 i pa):=fun A ρ σ H Q Q' R q k=>h A ρ σ H _ _ R q fun v H1 a ρ1 q1 f1 R1 o1=>by
 split at q1
 .rename_i c ns ds e;obtain⟨⟨rfl,rfl⟩,d,hd,q1⟩:=q1;obtain⟨a,dx,fs,rfl,e1,m,f⟩:=(R1.cont o1 e).obj;obtain⟨v,hv,fv⟩:=f.getD hd;exact⟨a,_,dx,fs,v,rfl,e1,hc,hn,by rw [qh (k:=i) (by rw [m];exact hk)];exact hv,k v H1 _ ρ1 q1 f1 ⟨R1,fv⟩⟩
 .exact q1.elim
def lz(c0:Str)(ns0:List Str)(f:Str)(i:Nat)(pe:PTE):PTS:=fun D ρ=>pe ρ fun p ρ1=>match ρ1[i]? with
 | some (some (.ins c ns ds))=>(c=c0/\ns=ns0/\ns0.length<1000)/\D.nx (ρ1.set i (some (.ins c0 (ns0++[f]) (ds++[p.d]))))
 | _=>False
theorem jD{fs':List Nat}{c0 f:Str}{ns0:List Str}{i:Nat}(hc:Cls K (cJ K c0))(hn:eU K (cJ K c0) f)(hk:eY f ns0=none)(h:LE K ta pe):LS K fs' (FT K (bg i) ta f) (lz c0 ns0 f i pe):=fun fx A R H0 ρ σ H D D' hf r F q k1 k2 k3 k4=>h A ρ σ H _ _ r q fun v H1 p ρ1 q1 f1 o1=>by
 obtain⟨R1,fv⟩:=o1.frz
 split at q1
 .rename_i c ns ds e;obtain⟨⟨rfl,rfl,hl⟩,q1⟩:=q1;obtain⟨w,s,a,dx,fs,rfl,g,m,ff⟩:=R1.get i _ e;have hk':eY f (fs.map Prod.fst)=none:=by rw [m];exact hk
  have wa:OO A ρ1 σ a:=.inr ⟨i,_,e,rfl,s⟩;have kw:∀o,bh (OO A ρ1 σ) H1 (OO A ρ1 σ) (upd H1 a o):=fun o b u n h=>⟨n,by rw [aM (fun z=>n (by rw [z];exact wa))];exact h⟩
  obtain⟨R2,f2⟩:=R1.write (o:=.ins (cJ K c) dx (mU f v fs)) (q:=.ins c (ns++[f]) (ds++[p.d])) e rfl rfl s ⟨a,dx,mU f v fs,rfl,bv,by rw [oG hk',map_append,m];rfl,by rw [oG hk',map_append];exact (ff.append (.cons fv .nil)).keeps (kw _)⟩;refine⟨_,s,a,_,dx,fs,rfl,g,hc,hn,?_,k1 _ _ _ q1 R2 ((F.fr f1).fr f2)⟩;have:fs.length=ns.length:=by rw [<- m,length_map]
  omega
 .exact q1.elim
def uO(c0:Str)(c:FR)(pr:PTA):PTE:=fun ρ Q=>pr ρ fun as ρ1=>match avD as with
 | some ds=>c (.ins c0 [] []) ds fun r p'=>(match r,p' with
  | .dat .non,.ins c1 ns es=>c1=c0/\Q (.ins c1 ns es) ρ1
  | _,_=>False)
 | none=>False
theorem lA{c0:Str}{c:FR}(h:LAs K tr pr):LE K (xX (cJ K c0) (spR K c) [] E0 tr) (uO c0 c pr):=fun A ρ σ H Q Q' R q k=>h A ρ σ H _ _ R q fun vs H1 as ρ1 q1 f1 R1 o1=>by
 split at q1
 .rename_i ds e;intro x dx hx hdx hne;rw [append_nil]
  let H2:=upd (upd H1 dx (.own x)) x (.ins (cJ K c0) dx [])
  have g2:Gr H1 H2:=fun b o z=>by
   show upd (upd H1 dx (.own x)) x _ b=_;rw [aM (br z hx),aM (br z hdx)];exact z
  have nx:¬ OO A ρ1 σ x:=R1.oo hx
  have keep2:bh (OO A ρ1 σ) H1 (gu (OO A ρ1 σ) x) H2:=fun b o n z=>by
   refine⟨fun y=>?_,g2 b o z⟩
   rcases y with y|y
   .exact n y
   .rw [y,hx] at z;cases z
  refine⟨OO A ρ1 σ,x,.ins c0 [] [],vs,ds,_,rfl,rfl,fun b z=>(g2.fr (ρ:=ρ1) (σ:=σ)).dm b (R1.dom2 b z),nx,⟨x,dx,[],rfl,bv,rfl,.nil⟩,(o1.avD e).keeps keep2,q1,fun r p' qr ow' v H' kp ha rs ov _=>?_⟩
  split at qr
  .obtain⟨rfl,qr⟩:=qr;cases ov;refine⟨rfl,?_⟩;obtain⟨a',dx',fs,ea,e2,m,f⟩:=rs;cases ea;have g:Gr H1 H':=fun b o z=>kp b o (br z hx) (g2 b o z)
   have hx0:H x=none:=by
    cases eb:H x with
    | none=>rfl
    | some o=>exact absurd hx (f1.dm x (by rw [eb];exact nofun))
   refine k _ H' _ ρ1 qr (f1.trans g.fr) ⟨x,dx',fs,rfl,fun z=>nx (.inl z),hx0,e2,m,R1.grA g hx (by rw [e2];exact nofun),f.keeps (bh.less fun b z=>?_)⟩
   rcases z with (z|z)|z
   .exact .inl (.inl z)
   .exact .inr z
   .exact .inl (.inr z)
  .exact qr.elim
 .exact q1.elim
def wx(c0:Str)(ns0:List Str)(c:FN)(pe:PTE)(pr:PTA):PTE:=fun ρ Q=>pe ρ fun p ρ1=>match p.d with
 | .obj c1 ns ds=>(c1=c0/\ns=ns0)/\pr ρ1 fun as ρ2=>(match avD as with
  | some es=>c (.obj c1 ns ds::es) fun r=>Q r ρ2
  | none=>False)
 | _=>False
theorem tE{c0 m:Str}{ns0:List Str}{c:FN}(hm:eY m ns0=none)(he:LE K ta pe)(hr:LAs K tr pr):LE K (Ax (cJ K c0) m (spP K c) [] E0 ta tr) (wx c0 ns0 c pe pr):=fun A ρ σ H Q Q' R q k=>he A ρ σ H _ _ R q fun v H1 p ρ1 q1 f1 o1=>by
 obtain⟨R1,fv⟩:=o1.frz
 split at q1
 .rename_i c1 ns ds e;rw [e] at fv;obtain⟨⟨rfl,rfl⟩,q1⟩:=q1;obtain⟨a,dx,fs,rfl,e1,mm,f⟩:=FVc.obj (.inl fv);refine⟨a,dx,fs,rfl,e1,ly (by rw [mm];exact hm),hr A ρ1 σ H1 _ _ R1 q1 fun vs H2 as ρ2 q2 f2 R2 o2=>?_⟩
  split at q2
  .rename_i es e3;rw [append_nil];exact⟨OO A ρ2 σ,_::es,_,R2.dom2,.cons (fv.keeps f2.keeps) (o2.avD e3),q2,fun r qr v H' g ov=>k v H' r ρ2 qr ((f1.trans f2).trans g.fr) ((ov.out R2 g).h0 fun b z=>f2.dm b (f1.dm b z))⟩
  .exact q2.elim
 .exact q1.elim
end
abbrev wy:R2:=rI0 fun i j=>.int (i - j)
abbrev Bh:R2:=rI (fun _ j=>0<j) fun i j=>.int (i % j)
abbrev Fp:R2:=rI EI fun i j=>.int (i / j)
abbrev Fq:R2:=rI CB fun i j=>.int (i^j.toNat)
abbrev Fs:R2:=rI0 fun i j=>.bl (decide (j<i))
abbrev GA:R2:=rI0 fun i j=>.bl (decide (j<=i))
abbrev DP:V->Hp->VK->Prop:=rU fun i=>.int (-i)
abbrev Bi:F2:=fI0 fun i j=>.int (i - j)
abbrev gG:F2:=fI (fun _ j=>0<j) fun i j=>.int (i % j)
abbrev DQ:F2:=fI (fun _ j=>0<j/\j<1073741824) fun i j=>.int (i / j)
abbrev GB:F2:=fI (fun i j=>0<=j/\j<=1000000/\i.natAbs<2^64) fun i j=>.int (i^j.toNat)
abbrev fGt:F2:=fI0 fun i j=>.bl (decide (j<i))
abbrev fGe:F2:=fI0 fun i j=>.bl (decide (j<=i))
def xJ:D->(PV->Prop)->Prop
 | .int i,Q=>Q (.dat (.int (-i)))
 | _,_=>False
section
variable {K:PySem.W.Frag}{X:Cx}{ta:TE}{tr:TA}{pr:PTA}{ts:TS}{ps:PTS}
theorem rP:OpR X (binaryOp .Sub) wy:=CD
theorem cT:OpR X (binaryOp .Mod) Bh:=CG
theorem qi:OpR X (binaryOp .FloorDiv) Fp:=Aq
theorem Ft:OpR X (binaryOp .Pow) Fq:=CH
theorem Bj:OpR X (compareOp .Gt) Fs:=EN
theorem GC:OpR X (compareOp .GtE) GA:=EO
theorem j9:LU K DP xJ:=by
 intro O H x a Q Q' dom fx q k;unfold xJ at q
 split at q
 .rename_i i;exact⟨i,fx.int,k _ H _ q (Gr.refl _) (.int _)⟩
 .exact q.elim
theorem tF{es:List Expr}{ct:Nat}{tp:Pos}(K:PySem.W.Frag)(e:X.K=K){a:Expr}{ta:TA}{p pos:Pos}(hg:Gl X "enumerate")(hm:X.mg "enumerate"=none)(ha:PA X [a] ta)(hs:starEach [a] X.env=[(false,eval a X.env)]:=by rfl) :
  PI X (.Tuple es ct tp) (.Call (.Name "enumerate" p) [a] [] pos) (AW K ta):=by subst e;exact AX hg hm ha hs
theorem gQ{ix:List (Option Nat)}{fs:List Nat}{i:Nat}(h:∀k∈fs,k∈Cc ix)(hi:(Cc ix).contains i=false):fs.contains i=false:=by
 cases e:fs.contains i with
 | false=>rfl
 | true =>
  have:=h i (contains_iff_mem.mp e);rw [contains_iff_mem.mpr this] at hi;cases hi
def zM(c:FN)(es:List D)(pr:PTA):PTE:=fun ρ Q=>pr ρ fun as ρ1=>match avD as with
 | some ds=>c (ds++es) fun r=>Q r ρ1
 | none=>False
theorem yA{c:FN}{vs0:List V}{ds:List D}(hd:∀{O:Addr->Prop}{H:Hp},FVs K O H vs0 ds)(h:LAs K tr pr):LE K (fm (spP K c) vs0 E0 tr) (zM c ds pr):=fun A ρ σ H Q Q' R q k=>h A ρ σ H _ _ R q fun vs H1 as ρ1 q1 f1 R1 o1=>by
 split at q1
 .rename_i es e;exact⟨OO A ρ1 σ,_,_,R1.dom2,(o1.avD e).append hd,q1,fun r qr v H' g ov=>k v H' r ρ1 qr (f1.trans g.fr) ((ov.out R1 g).h0 f1.dm)⟩
 .exact q1.elim
theorem jA{c:FN}{n:Nat}(hn:∀ds Q,c ds Q->ds.length=n){vs:List V}{H:Hp}{Q:VK}{E:XK}(h:spP K c vs H Q E):vs.length=n:=by
 obtain⟨O,ds,Qc,_,f,hq,_⟩:=h;rw [f.length];exact hn ds Qc hq
theorem Bk{c:FR}{n:Nat}(hn:∀p ds Q,c p ds Q->ds.length+1=n){vs:List V}{H:Hp}{Q:VK}{E:XK}(h:spR K c vs H Q E):vs.length=n:=by
 obtain⟨A,a,p,ws,ds,Qc,rfl,_,_,_,_,f,hq,_⟩:=h;rw [length_cons,f.length];exact hn p ds Qc hq
abbrev dP(pp:PTS)(n:Nat)(ds:List D)(Q:PV->Prop):Prop:=pp { nx:=fun _=>Q (.dat .non),rt:=fun p _=>Q p } (et n (ds.map .dat))
abbrev tG(pp:PTS)(n:Nat)(p:PV)(ds:List D)(Q:PV->PV->Prop):Prop:=pp { nx:=Cd Q (.dat .non),rt:=Cd Q } (et n (p::ds.map .dat))
end
end L2
namespace L2
theorem Cal.imp{P:PySem.Program}{w:PySem.World}{K:PySem.W.Frag}{mg:PySem.Str->Option PySem.Value}{base:PySem.Heap}{k:Nat}{x:PySem.Str}{ps:List PySem.Str}{sp sp':Sp}(C:Cal P w K mg base k x ps sp)(h:∀vs H Q E,sp' vs H Q E->sp vs H Q E):Cal P w K mg base k x ps sp':=by
 obtain⟨f,fd,F,r⟩:=C.ex;exact⟨f,fd,F.imp h,r⟩
end L2
namespace L2
open PySem PySem.Spec PyProof.Rows
theorem cfm{ix:List (Option Nat)}{ρ1:PSt}{n:Nat}{it:Nat->D}{g:PTG}{pt:PTT}{pe:PTE}{Q:PKt}(T:PSt->Prop)(f:Nat->Option D)(h0:T (bX ix ρ1))
  (hs:∀k τ d,k<n->d=it k->T τ->∀(K1:D->PSt->Prop) (K2:PSt->Prop),(∀d τ',f k=some d->T τ'->K1 d τ')->(∀τ',f k=none->T τ'->K2 τ')->g (.dat d) τ fun τ2=>pt τ2 fun ok τ3=>gL ok (pe τ3 fun p τ4=>K1 p.d τ4) (K2 τ3))
  (hq:∀τ,T τ->Q (.own ((List.range n).filterMap f)) (fH ix ρ1 τ)) :
  lw ix ρ1 n it g pt pe Q:=by
 refine⟨fun k ys τ=>ys=(List.range k).filterMap f/\T τ,⟨rfl,h0⟩,fun k ys τ dd hk ed ⟨e,t⟩=>?_,fun ys τ ⟨e,t⟩=>by rw [e];exact hq τ t⟩
 have r:(List.range (k+1)).filterMap f=(List.range k).filterMap f++(f k).toList:=by
  rw [range_succ,filterMap_append]
  cases e:f k with
  | none=>rw [show [k].filterMap f=[] by simp [e]];rfl
  | some d=>rw [show [k].filterMap f=[d] by simp [e]];rfl
 refine hs k τ dd hk ed t (fun d τ'=>(ys++[d]=(List.range (k+1)).filterMap f/\T τ')) (fun τ'=>(ys=(List.range (k+1)).filterMap f/\T τ')) (fun d τ' h t'=>⟨?_,t'⟩) (fun τ' h t'=>⟨?_,t'⟩)
 .rw [r,e,h];rfl
 .rw [r,e,h];simp
theorem xK{ix:List (Option Nat)}{ρ1:PSt}{n:Nat}{it:Nat->D}{g:PTG}{pe:PTE}{Q:PKt}(T:PSt->Prop)(f:Nat->D)(h0:T (bX ix ρ1))
  (hs:∀k τ d,k<n->d=it k->T τ->∀K1:D->PSt->Prop,(∀τ',T τ'->K1 (f k) τ')->g (.dat d) τ fun τ2=>pe τ2 fun p τ4=>K1 p.d τ4)
  (hq:∀τ,T τ->Q (.own ((List.range n).map f)) (fH ix ρ1 τ)) :
  lw ix ρ1 n it g jy pe Q:=by
 refine cfm T (fun k=>some (f k)) h0 (fun k τ d hk ed t K1 K2 k1 k2=>?_) fun τ t=>?_
 .exact hs k τ d hk ed t K1 fun τ' t'=>k1 _ τ' rfl t'
 .have:(List.range n).filterMap (fun k=>some (f k))=(List.range n).map f:=by rw [<- filterMap_eq_map];rfl
  rw [this];exact hq τ t
theorem fU{β:Type}(f:Nat->β)(l:List Nat):(List.range l.length).map (fun k=>f (l.getD k 0))=l.map f:=by
 apply ext_getElem?;intro i;rw [getElem?_map,getElem?_map]
 by_cases h:i<l.length
 .rw [getElem?_range h];show some (f (l.getD i 0))=_;rw [getD_eq_getElem?_getD,getElem?_eq_getElem h];rfl
 .rw [getElem?_eq_none (by rw [length_range];omega),getElem?_eq_none (by omega)];rfl
def pw(ws:List (List Nat))(k:Nat):List Nat:=ws.getD k []
theorem dQ{ws:List (List Nat)}{k:Nat}(h:k<ws.length):ws[k]?=some (pw ws k):=by unfold pw;rw [getD_eq_getElem?_getD,getElem?_eq_getElem h];rfl
theorem dD{ws:List (List Nat)}{k:Nat}(h:k<ws.length):pw ws k∈ws:=mem_of_getElem? (dQ h)
theorem gR{ws:List (List Nat)}{k:Nat}(h:k<(ws.map D.str).length):itD (ws.map D.str) k=.str (pw ws k):=gw (by rw [getElem?_map,dQ (by rwa [length_map] at h)];rfl)
theorem Bl{ns:List Int}{k:Nat}(h:k<(ns.map D.int).length):itD (ns.map D.int) k=.int (ns.getD k 0):=gw (by
 have h:k<ns.length:=by rwa [length_map] at h
 rw [getElem?_map,getD_eq_getElem?_getD,getElem?_eq_getElem h];rfl)
theorem fu{ws:List (List Nat)}{i:Int}{k:Nat}(h:k<ws.length)(e:i=(k:Int)):atI (ws.map D.str) i=some (.str (pw ws k)):=gK (j:=k) (by rw [getElem?_map,dQ h];rfl) e
def Pc(m:Nat)(w:List Nat):Prop:=0<w.length/\w.length<=m/\Lts w
def Pcs(m:Nat)(ws:List (List Nat)):Prop:=∀w∈ws,Pc m w
def ltB(c:Nat):Bool:=decide (97<=c) && decide (c<=122)
def yB:D->Int->Int->Bool
 | .str l,a,b=>(decide (a<=(l.length:Int)) && decide ((l.length:Int)<=b)) && l.all ltB
 | _,_,_=>false
theorem oH(l:List Nat)(a b:Int):yB (.str l) a b=((decide (a<=(l.length:Int)) && decide ((l.length:Int)<=b)) && l.all ltB):=rfl
def Fu:D->Nat
 | .str l=>l.length
 | _=>0
theorem oI{l:List Nat}:l.all ltB=true ↔ Lts l:=by
 rw [all_eq_true];unfold Lts ltB
 constructor
 .intro h c hc;have:=h c hc;rw [and_eq_true,decide_eq_true_eq,decide_eq_true_eq] at this;exact this
 .intro h c hc;rw [and_eq_true,decide_eq_true_eq,decide_eq_true_eq];exact h c hc
theorem wz{w:List Nat}:yB (.str w) 1 60=true ↔ Pc 60 w:=by
 unfold yB Pc;rw [and_eq_true,and_eq_true,decide_eq_true_eq,decide_eq_true_eq,oI]
 constructor
 .rintro⟨⟨h1,h2⟩,h3⟩;exact⟨by omega,by omega,h3⟩
 .rintro⟨h1,h2,h3⟩;exact⟨⟨by omega,by omega⟩,h3⟩
theorem rQ(i j:Nat):(!decide (([j]:List Nat)<[i]))=decide (i<=j):=by
 by_cases h:i<=j
 .rw [decide_eq_true h]
  have:¬ ([j]:List Nat)<[i]:=by
   rw [cons_lt_cons_iff]
   rintro (z|⟨_,z⟩)
   .omega
   .exact absurd z (List.lt_irrefl _)
  rw [decide_eq_false this];rfl
 .rw [decide_eq_false h]
  have:([j]:List Nat)<[i]:=by
   rw [cons_lt_cons_iff];exact .inl (by omega)
  rw [decide_eq_true this];rfl
theorem rR:∀ws:List (List Nat),D.pys (ws.map .str)=ws.map fun w=>PyData.str (S w)
 | []=>rfl
 | w::r=>by rw [map_cons,map_cons,<- rR r];rfl
theorem m9:∀ws:List (List Nat),D.plains (ws.map .str)=true
 | []=>rfl
 | w::r=>by rw [map_cons];show (true && D.plains (r.map .str))=true;rw [m9 r];rfl
theorem oJ:∀ns:List Int,D.pys (ns.map .int)=ns.map PyData.int
 | []=>rfl
 | n::r=>by rw [map_cons,map_cons,<- oJ r];rfl
theorem ng:∀ns:List Int,D.plains (ns.map .int)=true
 | []=>rfl
 | n::r=>by rw [map_cons];show (true && D.plains (r.map .int))=true;rw [ng r];rfl
def Sh(d:D):Prop:=d.plain=true/\SeqAt.shaped d.py=true
theorem vd.of{a b:D}(h:Sh a)(h':Sh b):vd a b:=⟨h.1,h'.1,h.2,h'.2⟩
theorem Sh.lstS{ws:List (List Nat)}(h:∀w∈ws,Lts w):Sh (.lst (ws.map .str)):=⟨m9 ws,by show SeqAt.shaped (.list (D.pys _))=true;rw [rR];exact qd h⟩
theorem Sh.lstI(ns:List Int):Sh (.lst (ns.map .int)):=⟨ng ns,by show SeqAt.shaped (.list (D.pys _))=true;rw [oJ];exact (rm.list (vY ns)).shaped (by decide)⟩
theorem tH{d:D}(h:Sh d):deq d d=true:=yk h.2
theorem yC{α:Type}(c:α)(n:Nat):kO [c] (n:Int)=List.replicate n c:=by
 unfold kO;rw [toNat_natCast]
 induction n with
 | zero=>rfl
 | succ n ih=>rw [replicate_succ,flatten_cons,ih];rfl
def mF(sep:List Nat):List (List Nat)->List Nat
 | []=>[]
 | [w]=>w
 | w::v::r=>w++sep++mF sep (v::r)
theorem wA(sep:List Nat):∀ws:List (List Nat),PySem.Str.join (S sep) (ws.map S)=S (mF sep ws)
 | []=>rfl
 | [w]=>rfl
 | w::v::r=>by
  show S w++S sep++PySem.Str.join (S sep) ((v::r).map S)=S (w++sep++mF sep (v::r));rw [wA sep (v::r),AH,AH]
theorem qj(sep:List Nat):∀ws:List (List Nat),(mF sep ws).length<=ws.flatten.length+ws.length*sep.length
 | []=>zero_le _
 | [w]=>by show w.length<=_;rw [flatten_cons,flatten_nil,append_nil];omega
 | w::v::r=>by
  have ih:=qj sep (v::r);show (w++sep++mF sep (v::r)).length<=_;rw [flatten_cons,length_append,length_append,length_append];rw [length_cons (as:=v::r),succ_mul];omega
section
variable {K:PySem.W.Frag}{X:Cx}
def zN(K:PySem.W.Frag):V->List V->Hp->VK->Prop:=fun x xs H Q=>∃(p:Addr) (sep:List Nat) (ws:List (List Nat)),x=.str (S sep)/\xs=[.ref p]/\SqL K H p (ws.map tx)/\ws.flatten.length+ws.length*sep.length<=1000000/\Q (.str (S (mF sep ws))) H
theorem tI(K:PySem.W.Frag)(e:X.K=K):MtR X "str.join" (zN K):=by
 subst e;intro pins s σ H x xs v us Q I rx rs h;obtain⟨p,sep,ws,rfl,rfl,hS,hz,q⟩:=h;obtain⟨t,rfl⟩:=rx;obtain⟨u,rfl,ru⟩:=iq rs;cases (show u=Value.ref p from ru);obtain⟨its,rv,pl,_⟩:=I.list hS
 refine join_list pl.isList (by simpa using rH rv) ?_ fun t' k=>?_
 .rw [map_map,fC]
  have e1:(ws.map ((fun y:Str=>y.length) ∘ S)).sum=ws.flatten.length:=by
   rw [length_flatten];exact congrArg List.sum (map_congr_left fun w _=>fC w)
  rw [e1];simp only [length_map];omega
 .refine⟨.str (S (mF sep ws)),H,I.tok _,⟨t',?_⟩,q⟩;rw [<- wA];exact congrArg (fun z=>Value.str z t') (StrLaws.glued_eq_join _ _)
def tJ:FM
 | [],[.lst ds],Q=>∃ws:List (List Nat),ds=ws.map .str/\ws.flatten.length<=1000000/\Q (.dat (.str ws.flatten))
 | c::sep,[.lst ds],Q=>∃ws:List (List Nat),ds=ws.map .str/\ws.flatten.length+ws.length*(c::sep).length<=1000000/\Q (.dat (.str (mF (c::sep) ws)))
 | _,_,_=>False
theorem qk:∀ws:List (List Nat),mF [] ws=ws.flatten
 | []=>rfl
 | [w]=>by show w=w++[];rw [append_nil]
 | w::v::r=>by show w++[]++mF [] (v::r)=_;rw [qk (v::r),append_nil];rfl
theorem tK:LM K (zN K) tJ:=by
 intro O H l xs as Q Q' dom hl fs q k;unfold tJ at q
 split at q
 .obtain⟨ws,rfl,hw,q⟩:=q
  cases fs with
  | cons a b =>
   cases b;obtain⟨p,ys,rfl,e1,f1⟩:=a.lst;rw [f1.strs] at e1;refine⟨p,[],ws,rfl,rfl,SqL.of e1,by rw [length_nil,mul_zero];exact hw,?_⟩;rw [qk];exact k _ H _ q (Gr.refl _) (.str _ hw)
 .obtain⟨ws,rfl,hw,q⟩:=q
  cases fs with
  | cons a b =>
   cases b;obtain⟨p,ys,rfl,e1,f1⟩:=a.lst;rw [f1.strs] at e1;exact⟨p,_,ws,rfl,rfl,SqL.of e1,hw,k _ H _ q (Gr.refl _) (.str _ (Nat.le_trans (qj _ _) hw))⟩
 .exact q.elim
end
section
variable {X:Cx}{K:PySem.W.Frag}
def wB(neg:Bool):R2:=fun x y H Q=>∃a b,x=.ref a/\y=.ref b/\H a=some (.dK [])/\H b=some (.dK [])/\Q (.bl (!neg)) H
theorem yD(hu:X.A.units+64<cLine):OpR X (compareOp .Eq) (wB false):=by
 intro pins s σ H x y v u Q I rx ry ⟨a,b,e1,e2,h1,h2,q⟩;subst e1 e2;cases rx;cases ry;obtain⟨_,y1,vs,r1,p1⟩:=(show dy X.prog X.w H s.heap a (.dK []) from I.hok a _ h1)
 obtain⟨_,y2,ws,r2,p2⟩:=(show dy X.prog X.w H s.heap b (.dK []) from I.hok b _ h2)
 cases r1;cases r2;exact PySem.W.keq_eq (r:=true) y1 y2 p1 p2 (by omega) (fun _=>.nil) ⟨.bl true,H,I,rfl,q⟩
theorem yE(hu:X.A.units+64<cLine):OpR X (compareOp .NotEq) (wB true):=by
 intro pins s σ H x y v u Q I rx ry ⟨a,b,e1,e2,h1,h2,q⟩;subst e1 e2;cases rx;cases ry;obtain⟨_,y1,vs,r1,p1⟩:=(show dy X.prog X.w H s.heap a (.dK []) from I.hok a _ h1)
 obtain⟨_,y2,ws,r2,p2⟩:=(show dy X.prog X.w H s.heap b (.dK []) from I.hok b _ h2)
 cases r1;cases r2;exact PySem.W.keq_ne (r:=true) y1 y2 p1 p2 (by omega) (fun _=>.nil) ⟨.bl false,H,I,rfl,q⟩
def wC(K:PySem.W.Frag)(neg:Bool):R2:=fun x y H Q=>Dx K neg x y H Q\/wB neg x y H Q
theorem jF(K:PySem.W.Frag)(e:X.K=K)(hu:X.A.units+64<cLine):OpR X (compareOp .Eq) (wC K false):=OpR.or (Gx K e hu) (yD hu)
theorem ql(K:PySem.W.Frag)(e:X.K=K)(hu:X.A.units+64<cLine):OpR X (compareOp .NotEq) (wC K true):=OpR.or (Gy K e hu) (yE hu)
def rS:F2
 | .dic [] [],.dic [] [],Q=>Q (.dat (.bl true))
 | a,b,Q=>fEq a b Q
def xL:F2
 | .dic [] [],.dic [] [],Q=>Q (.dat (.bl false))
 | a,b,Q=>fNe a b Q
theorem FVc.dic0{O:Addr->Prop}{H:Hp}{v:V}(h:FVc K O H v (.dic [] [])):∃a,v=.ref a/\H a=some (.dK []):=by
 cases h.fv nofun nofun with
 | dic n e m f =>
  rename_i a kvs
  cases kvs with
  | nil=>exact⟨a,rfl,e⟩
  | cons x r=>cases m
theorem fK:LO K (wC K false) rS:=by
 intro O H x y a b Q Q' dom fx fy q k;unfold rS at q
 split at q
 .obtain⟨a,rfl,e1⟩:=fx.dic0;obtain⟨b,rfl,e2⟩:=fy.dic0;exact .inr ⟨a,b,rfl,rfl,e1,e2,k _ H _ q (Gr.refl _) (.bl _)⟩
 .exact .inl (Fd O H x y _ _ Q Q' dom fx fy q k)
theorem kc:LO K (wC K true) xL:=by
 intro O H x y a b Q Q' dom fx fy q k;unfold xL at q
 split at q
 .obtain⟨a,rfl,e1⟩:=fx.dic0;obtain⟨b,rfl,e2⟩:=fy.dic0;exact .inr ⟨a,b,rfl,rfl,e1,e2,k _ H _ q (Gr.refl _) (.bl _)⟩
 .exact .inl (Fe O H x y _ _ Q Q' dom fx fy q k)
end
abbrev SIt(h:Heap)(a:Addr)(x:Str)(t:Tok)(i:Nat):Prop:=h.IsStrIter a (strIterType x) x t i
theorem SIt.mv{h h':Heap}{a:Addr}{x:Str}{t:Tok}{i:Nat}(W:SIt h a x t i)(k:∀o,h.get? a=some o->h'.get? a=some o):SIt h' a x t i:=let ⟨o,ho,r⟩:=W;⟨o,k o ho,r⟩
section
variable {P:Program}{w:World}{A:Around}{E:Value->Shared->Prop}{s:Shared}{z U V i j:Addr}{n:Nat}{x y:Str}{t t':Tok}{cx cy:Nat}{u v:Value}
theorem gS{Q:Value->Shared->Prop}(W:SIt s.heap i x t n)(hx:x.cps[n]?=some cx)(hQ:∀h',SIt h' i x t (n+1)->Heap.SameBut i s.heap h'->Q (.str ⟨#[cx]⟩ s.toks) { s with heap:=h',toks:=s.toks+1 }) :
  wpAny (model P w) A (Builtin.SmallTypes.nextOf (.ref i)) Q E s:=by
 unfold SIt strIterType at W hQ
 cases ha:x.cps.all (·<128)
 .simp only [ha,false_eq_true,if_false] at W hQ;exact wpAny_nextOf_wide_item W hx hQ
 .simp only [ha,if_true] at W hQ;exact wpAny_nextOf_ascii_item W hx hQ
theorem lB{Q:Value->Shared->Prop}(hh:A.handled=none)(W:SIt s.heap i x t n)(hx:x.cps[n]?=none)
  (hE:∀h' e,Heap.ExtBut i s.heap h'->(∃o,h'.get? e=some o/\o.cls=.type "StopIteration")->E (.ref e) { s with heap:=h' }) :
  wpAny (model P w) A (Builtin.SmallTypes.nextOf (.ref i)) Q E s:=by
 unfold SIt strIterType at W
 cases ha:x.cps.all (·<128)
 .simp only [ha,false_eq_true,if_false] at W;exact wpAny_nextOf_wide_end hh W hx hE
 .simp only [ha,if_true] at W;exact wpAny_nextOf_ascii_end hh W hx hE
theorem Bm{Q:Value->Shared->Prop}(D:ZA z U V i j)(hz:IsZip s.heap z U V .none)(hU:IsPair s.heap U (.ref i) (.ref j))(hV:IsPair s.heap V u v)
  (W1:SIt s.heap i x t n) (W2:SIt s.heap j y t' n) (hx:x.cps[n]?=some cx) (hy:y.cps[n]?=some cy)
  (hQ:∀h',IsZip h' z U V (rawInt s.heap.objs.size)->IsPair h' V (.str ⟨#[cx]⟩ s.toks) (.str ⟨#[cy]⟩ (s.toks+1))->SIt h' i x t (n+1)->SIt h' j y t' (n+1)->IsPair h' s.heap.objs.size (.str ⟨#[cx]⟩ s.toks) (.str ⟨#[cy]⟩ (s.toks+1))->h'.objs.size=s.heap.objs.size+1 ->
   (∀b o,b≠z->b≠V->b≠i->b≠j->s.heap.get? b=some o->h'.get? b=some o)->Q (.ref s.heap.objs.size) { s with heap:=h',toks:=s.toks+1+1 }) :
  wpAny (model P w) A (Builtin.«zip.__next__» ⟨[.ref z],[]⟩) (fun f s'=>∃r,f=.done (.ret r)/\Q r s') E s:=by
 refine wpAny_bind (m:=field (.ref z) 2) (wpAny_field hz rfl (x:=.bool false) rfl (wpAny_bind (m:=field (.ref z) 3) (wpAny_field hz rfl (x:=.ref U) rfl (wpAny_bind (wpAny_seqItems hU rfl ?_)))));refine wpAny_bind (m:=Builtin.SmallTypes.ownedTupleIsFree (.ref z)) ?_;unfold Builtin.SmallTypes.ownedTupleIsFree;refine wpAny_bind (wpAny_field hz rfl (x:=.none) rfl (wpAny_pure ?_));simp only [if_true];refine wpAny_bind (wpAny_rule (wpAny_bind (wpAny_field hz rfl (x:=.ref V) rfl (wpAny_bind (wpAny_setField_rec hz (by simp) fun g1 z1 b1=>wpAny_bind ?_)))))
 replace z1:IsZip g1 z U V .ellipsis:=z1
 simp only [zipIdx_cons,zipIdx_nil,forIn_cons,forIn_nil];have e1:=b1.extBut;refine wpAny_bind (wpAny_bind (wpAny_onRaise (wpAny_bind (m:=Builtin.SmallTypes.nextOf (.ref i)) (gS (W1.mv fun o e=>e1 _ o D.iz e) hx fun g2 w1 b2=>wpAny_pure ?_))));have e2:=b2.extBut;have v2:IsPair g2 V u v:=e2 _ _ D.Vi (e1 _ _ D.Vz hV);refine wpAny_bind (wpAny_seqItems v2 rfl (wpAny_bind (wpAny_updateSeq_pair v2 fun g3 v3 b3=>wpAny_bind (wpAny_letGo (wpAny_pure ?_)))))
 replace v3:IsPair g3 V (.str ⟨#[cx]⟩ s.toks) v:=v3
 have e3:=b3.extBut;refine wpAny_bind (wpAny_bind (wpAny_onRaise (wpAny_bind (m:=Builtin.SmallTypes.nextOf (.ref j)) (gS (W2.mv fun o e=>e3 _ o D.Vj.symm (e2 _ o D.ij.symm (e1 _ o D.jz e))) hy fun g4 w2 b4=>wpAny_pure ?_))));have e4:=b4.extBut;have v4:IsPair g4 V (.str ⟨#[cx]⟩ s.toks) v:=e4 _ _ D.Vj v3;refine wpAny_bind (wpAny_seqItems v4 rfl (wpAny_bind (wpAny_updateSeq_pair v4 fun g5 v5 b5=>wpAny_bind (wpAny_letGo (wpAny_pure (wpAny_pure ?_))))))
 replace v5:IsPair g5 V (.str ⟨#[cx]⟩ s.toks) (.str ⟨#[cy]⟩ (s.toks+1)):=v5
 have e5:=b5.extBut;refine wpAny_bind (wpAny_seqItems v5 rfl (wpAny_bind (wpAny_newTuple ?_)));have sz:g5.objs.size=s.heap.objs.size:=by rw [b5.1,b4.1,b3.1,b2.1,b1.1]
 have z5:IsZip g5 z U V .ellipsis:=e5 _ _ D.Vz.symm (e4 _ _ D.jz.symm (e3 _ _ D.Vz.symm (e2 _ _ D.iz.symm z1)));have k5:∀b o,b≠z->b≠V->b≠i->b≠j->s.heap.get? b=some o->g5.get? b=some o:=fun b o q1 q2 q3 q4 e=>e5 _ _ q2 (e4 _ _ q4 (e3 _ _ q2 (e2 _ _ q3 (e1 _ _ q1 e))));have w15:SIt g5 i x t (n+1):=w1.mv fun o e=>e5 _ o D.Vi.symm (e4 _ o D.ij (e3 _ o D.Vi.symm e));have w25:SIt g5 j y t' (n+1):=w2.mv fun o e=>e5 _ o D.Vj.symm e
 have zlt:z<g5.objs.size:=Heap.lt_size z5;refine wpAny_bind (m:=Builtin.SmallTypes.ownedTupleHandOut (.ref z) (.ref g5.objs.size)) ?_;unfold Builtin.SmallTypes.ownedTupleHandOut;have z6:IsZip (g5.push { cls:=.type "tuple",data:=.seq #[(.str ⟨#[cx]⟩ s.toks),(.str ⟨#[cy]⟩ (s.toks+1))] }) z U V .ellipsis:=Heap.get?_push_of_some _ z5;refine wpAny_bind (wpAny_setField_rec z6 (by simp) fun g7 z7 b7=>?_)
 replace z7:IsZip g7 z U V (rawInt g5.objs.size):=z7
 refine wpAny_setField_rec z7 (by simp) fun g8 z8 b8=>?_
 replace z8:IsZip g8 z U V (rawInt g5.objs.size):=z8
 have up:∀b o,b≠z->g5.get? b=some o->g8.get? b=some o:=fun b o q e=>b8.extBut _ _ q (b7.extBut _ _ q (Heap.get?_push_of_some _ e));have t8:IsPair g8 g5.objs.size (.str ⟨#[cx]⟩ s.toks) (.str ⟨#[cy]⟩ (s.toks+1)):=b8.extBut _ _ (ne_of_gt zlt) (b7.extBut _ _ (ne_of_gt zlt) (Heap.get?_push_size _ rfl));have s8:g8.objs.size=g5.objs.size+1:=by rw [b8.1,b7.1,Heap.size_push]
 rw [sz] at z8 t8 s8;refine wpAny_pure ⟨_,rfl,?_⟩;show Q (.ref g5.objs.size) _;rw [sz];exact hQ g8 z8 (up _ _ D.Vz v5) (w15.mv fun o e=>up _ o D.iz e) (w25.mv fun o e=>up _ o D.jz e) t8 s8 fun b o q1 q2 q3 q4 e=>up b o q1 (k5 b o q1 q2 q3 q4 e)
theorem DR{Q:Fin->Shared->Prop}(hh:A.handled=none)(D:ZA z U V i j)(hz:IsZip s.heap z U V .none)(hU:IsPair s.heap U (.ref i) (.ref j))(hV:IsPair s.heap V u v)
  (W1:SIt s.heap i x t n) (W2:SIt s.heap j y t' n) (hend:x.cps[n]?=none\/y.cps[n]?=none)
  (hE:∀h' tk e,(∀b o,b≠z->b≠V->b≠i->b≠j->s.heap.get? b=some o->h'.get? b=some o)->(∃o,h'.get? e=some o/\o.cls=.type "StopIteration")->E (.ref e) { s with heap:=h',toks:=tk }) :
  wpAny (model P w) A (Builtin.«zip.__next__» ⟨[.ref z],[]⟩) Q E s:=by
 refine wpAny_bind (m:=field (.ref z) 2) (wpAny_field hz rfl (x:=.bool false) rfl (wpAny_bind (m:=field (.ref z) 3) (wpAny_field hz rfl (x:=.ref U) rfl (wpAny_bind (wpAny_seqItems hU rfl ?_)))));refine wpAny_bind (m:=Builtin.SmallTypes.ownedTupleIsFree (.ref z)) ?_;unfold Builtin.SmallTypes.ownedTupleIsFree;refine wpAny_bind (wpAny_field hz rfl (x:=.none) rfl (wpAny_pure ?_));simp only [if_true];refine wpAny_bind (wpAny_rule (wpAny_bind (wpAny_field hz rfl (x:=.ref V) rfl (wpAny_bind (wpAny_setField_rec hz (by simp) fun g1 z1 b1=>wpAny_bind ?_)))))
 replace z1:IsZip g1 z U V .ellipsis:=z1
 simp only [zipIdx_cons,zipIdx_nil,forIn_cons,forIn_nil];have e1:=b1.extBut
 cases hx:x.cps[n]? with
 | none =>
  refine wpAny_bind (wpAny_bind (wpAny_onRaise (wpAny_bind (m:=Builtin.SmallTypes.nextOf (.ref i)) (lB hh (W1.mv fun o e=>e1 _ o D.iz e) hx fun g2 e b2 he=>?_))));obtain⟨oe,ge,ce⟩:=he;have z2:IsZip g2 z U V .ellipsis:=b2 _ _ D.iz.symm z1;have ez:e≠z:=fun q=>by subst q;rw [z2] at ge;cases ge;simp at ce
  exact wpAny_setField_rec z2 (by simp) fun g3 _ b3=>hE g3 _ e (fun b o q1 _ q3 _ q=>b3.extBut _ _ q1 (b2 _ _ q3 (e1 _ _ q1 q))) ⟨oe,b3.extBut _ _ ez ge,ce⟩
 | some cx =>
  have hy:y.cps[n]?=none:=by
   rcases hend with q|q
   .rw [hx] at q;cases q
   .exact q
  refine wpAny_bind (wpAny_bind (wpAny_onRaise (wpAny_bind (m:=Builtin.SmallTypes.nextOf (.ref i)) (gS (W1.mv fun o e=>e1 _ o D.iz e) hx fun g2 w1 b2=>wpAny_pure ?_))));have e2:=b2.extBut;have v2:IsPair g2 V u v:=e2 _ _ D.Vi (e1 _ _ D.Vz hV);refine wpAny_bind (wpAny_seqItems v2 rfl (wpAny_bind (wpAny_updateSeq_pair v2 fun g3 v3 b3=>wpAny_bind (wpAny_letGo (wpAny_pure ?_)))));have e3:=b3.extBut;refine wpAny_bind (wpAny_bind (wpAny_onRaise (wpAny_bind (m:=Builtin.SmallTypes.nextOf (.ref j)) (lB hh (W2.mv fun o e=>e3 _ o D.Vj.symm (e2 _ o D.ij.symm (e1 _ o D.jz e))) hy fun g4 e b4 he=>?_))))
  obtain⟨oe,ge,ce⟩:=he;have z4:IsZip g4 z U V .ellipsis:=b4 _ _ D.jz.symm (e3 _ _ D.Vz.symm (e2 _ _ D.iz.symm z1));have ez:e≠z:=fun q=>by subst q;rw [z4] at ge;cases ge;simp at ce
  exact wpAny_setField_rec z4 (by simp) fun g5 _ b5=>hE g5 _ e (fun b o q1 q2 q3 q4 q=>b5.extBut _ _ q1 (b4 _ _ q4 (e3 _ _ q2 (e2 _ _ q3 (e1 _ _ q1 q))))) ⟨oe,b5.extBut _ _ ez ge,ce⟩
end
def Fv(xs ys:List V):It :=
  ⟨fun i H=>∃x y,xs[i]?=some x/\ys[i]?=some y,
   fun i H p H'=>∃T x y,H T=none/\p=.ref T/\xs[i]?=some x/\ys[i]?=some y/\H'=upd H T (.tup [x,y]),
   fun i H=>xs.length<=i\/ys.length<=i⟩
theorem wD{P:Program}{w:World}{K:PySem.W.Frag}{es:List Expr}{ct:Nat}{tp:Pos}{z U V i j:Addr}{la lb:List Nat}{t t':Tok}(D:ZA z U V i j) :
  zr P w K (.Tuple es ct tp) (Fv (cZ la) (cZ lb)) [z,U,V,i,j] z (fun n h=>IsZip h z U V .none/\IsPair h U (.ref i) (.ref j)/\(∃u v,IsPair h V u v)/\SIt h i (S la) t n/\SIt h j (S lb) t' n) where
 mem:=by simp
 obj:=fun n h st b hb=>by
  obtain⟨hz,hU,⟨u,v,hV⟩,⟨o1,g1,c1,d1⟩,⟨o2,g2,c2,d2⟩⟩:=st;simp only [mem_cons,not_mem_nil,or_false] at hb
  rcases hb with rfl|rfl|rfl|rfl|rfl
  .exact⟨_,hz,fun v q=>by cases q⟩
  .exact⟨_,hU,fun v q=>by cases q⟩
  .exact⟨_,hV,fun v q=>by cases q⟩
  .exact⟨_,g1,fun v q=>by rw [d1] at q;cases q⟩
  .exact⟨_,g2,fun v q=>by rw [d2] at q;cases q⟩
 keep:=fun n h h' st kk=>by
  obtain⟨hz,hU,⟨u,v,hV⟩,w1,w2⟩:=st;exact⟨kk z (by simp) _ hz,kk U (by simp) _ hU,⟨u,v,kk V (by simp) _ hV⟩,w1.mv fun o e=>kk i (by simp) o e,w2.mv fun o e=>kk j (by simp) o e⟩
 item:=by
  intro X hP hw hK hc n pins s σ H E I hf st hg;subst hP hw hK;obtain⟨x,y,hx,hy⟩:=hg;obtain⟨hz,hU,⟨u,v,hV⟩,w1,w2⟩:=st;obtain⟨cx,hcx,rfl⟩:=fF hx;obtain⟨cy,hcy,rfl⟩:=fF hy;have hT:s.TypeIs (.ref z) "zip":=⟨_,hz,rfl⟩
  unfold pyNext
  refine wpAny_bind (wpAny_attempt (wpAny_callSpecial?_slot (name:=Str.ofString "__next__") hT F.slot_zip_next (wpAny_call_entry F.slot_zip_next hT F.entry_zip_next
   (Bm (cx:=cx) (cy:=cy) D hz hU hV w1 w2 (by simpa [S] using hcx) (by simpa [S] using hcy) fun h' a1 a2 a3 a4 a5 a6 a7=>wpAny_pure ?_) (F.args_zip_next_1 _))))
  refine⟨_,rfl,wpAny_letOwnedTupleGo_zip a1 fun g gz gs=>?_⟩;have lt:∀{b o},s.heap.get? b=some o->s.heap.objs.size≠b:=fun e=>ne_of_gt (Heap.lt_size e)
  have kp:∀b o,b∉[z,V,i,j]->s.heap.get? b=some o->g.get? b=some o:=fun b o hb e=>by
   simp only [mem_cons,not_mem_nil,or_false,not_or] at hb;exact gs.extBut _ _ hb.1 (a7 b o hb.1 hb.2.1 hb.2.2.1 hb.2.2.2 e)
  have I2:Inv X pins σ (upd H s.heap.objs.size (.tup [.str (S [cx]),.str (S [cy])])) { s with heap:=g,toks:=s.toks+1+1 }:=I.yielded (ch:=[z,V,i,j]) (fun b hb=>hf b (by
   simp only [mem_cons,not_mem_nil,or_false] at hb ⊢;rcases hb with q|q|q|q <;> simp [q])) (Nat.le_refl _) kp ⟨by show 2<=sizeLine;decide,[.str ⟨#[cx]⟩ s.toks,.str ⟨#[cy]⟩ (s.toks+1)],.cons ⟨_,rfl⟩ (.cons ⟨_,rfl⟩ .nil),_,gs.extBut _ _ (lt hz) a5,rfl,_,rfl⟩
  refine⟨.ref s.heap.objs.size,_,I2,rfl,⟨_,_,_,I.hok.fresh (Nat.le_refl _),rfl,hx,hy,rfl⟩,
   ⟨gz,gs.extBut _ _ D.Uz (a7 _ _ D.Uz D.UV D.Ui D.Uj hU),⟨_,_,gs.extBut _ _ D.Vz a2⟩,a3.mv fun o e=>gs.extBut _ o D.iz e,a4.mv fun o e=>gs.extBut _ o D.jz e⟩,fun b hb=>?_⟩
  rw [aM ?_]
  .exact (hf b hb).1
  .intro q;subst q;simp only [mem_cons,not_mem_nil,or_false] at hb;obtain⟨o1,g1,_⟩:=w1;obtain⟨o2,g2,_⟩:=w2
   rcases hb with q|q|q|q|q
   .exact lt hz q
   .exact lt hU q
   .exact lt hV q
   .exact lt g1 q
   .exact lt g2 q
 done:=by
  intro X hP hw hK hc n pins s σ H E I hf st hg;subst hP hw hK;have hend:(cZ la).length<=n\/(cZ lb).length<=n:=hg;obtain⟨hz,hU,⟨u,v,hV⟩,w1,w2⟩:=st;rw [c9,c9] at hend;have hT:s.TypeIs (.ref z) "zip":=⟨_,hz,rfl⟩
  unfold pyNext
  refine wpAny_bind (wpAny_attempt (wpAny_callSpecial?_slot (name:=Str.ofString "__next__") hT F.slot_zip_next (wpAny_call_entry F.slot_zip_next hT F.entry_zip_next
   (DR (I.ok.hd hc) D hz hU hV w1 w2 ?_ fun h' tk e hk he=>?_) (F.args_zip_next_1 _))))
  .rcases hend with q|q
   .exact .inl (by simp [S];omega)
   .exact .inr (by simp [S];omega)
  .obtain⟨o,ho,hcl⟩:=he;refine wpAny_bind (wpAny_isInstance (T:="StopIteration") (b:=true) ⟨o,ho,hcl⟩ isSubtype_stop (wpAny_pure ⟨rfl,?_⟩))
   exact I.step (g':=s.gens) (d':=s.drawn) (t':=tk) (ch:=[z,V,i,j]) (fun b hb=>by
     have q:=hf b (by
      simp only [mem_cons,not_mem_nil,or_false] at hb ⊢;rcases hb with q|q|q|q <;> simp [q])
     exact⟨q.2.2.2.1,q.2.1,q.2.2.2.2.1,q.2.2.2.2.2⟩) (fun b o _ _ hc e _=>by
     simp only [mem_cons,not_mem_nil,or_false,not_or] at hc;exact hk b o hc.1 hc.2.1 hc.2.2.1 hc.2.2.2 e) (fun b o _ _ hc e _=>⟨o.slots,by
     simp only [mem_cons,not_mem_nil,or_false,not_or] at hc;exact hk b o hc.1 hc.2.1 hc.2.2.1 hc.2.2.2 e⟩) (fun _ _ _ _ q=>q) (fun b o hc e=>⟨o,by
     simp only [mem_cons,not_mem_nil,or_false,not_or] at hc;exact hk b o hc.1 hc.2.1 hc.2.2.1 hc.2.2.2 e⟩) (fun _ _ e=>e) (fun _ _ _ e=>e) (fun b ps e=>⟨#[],by rw [e];simp⟩) (fun m hm=>by
     obtain⟨o,es,ep,ho,r⟩:=hm;exact⟨o,es,ep,hk _ o (hf z (by simp)).2.1.symm (hf V (by simp)).2.1.symm (hf i (by simp)).2.1.symm (hf j (by simp)).2.1.symm ho,r⟩) (fun b u e=>by
     have nn:∀b u,H b=some u->b≠z/\b≠V/\b≠i/\b≠j:=fun b u e=>⟨fun q=>(by rw [q,(hf z (by simp)).1] at e;cases e),fun q=>(by rw [q,(hf V (by simp)).1] at e;cases e),fun q=>(by rw [q,(hf i (by simp)).1] at e;cases e),fun q=>(by rw [q,(hf j (by simp)).1] at e;cases e)⟩
     refine (I.hok b u e).stay (fun c v hc q=>?_) (fun _ q=>q) fun _ _ q=>q
     have n4:c≠z/\c≠V/\c≠i/\c≠j:=by
      rcases hc with q|q
      .rw [q];exact nn b u e
      .exact nn c _ q
     exact hk c v n4.1 n4.2.1 n4.2.2.1 n4.2.2.2 q) I.bare
 self:=fun _ _ _ _ _ st h=>wpAny_pyIter_zip st.1 h
section
variable {P:Program}{w:World}{A:Around}{E:Value->Shared->Prop}{s:Shared}
abbrev uP(x:Str)(t:Tok):Obj:={ cls:=.type (strIterType x),data:=.fields #[.str x t,.int 0 0] }
theorem nh{x:Str}{t:Tok}{Q:Value->Shared->Prop}(hQ:Q (.ref s.heap.objs.size) { s with heap:=s.heap.push (uP x t) }):wpAny (model P w) A (pyIter (.str x t)) Q E s:=by
 unfold uP strIterType at hQ
 cases ha:x.cps.all (·<128)
 .simp only [ha,false_eq_true,if_false] at hQ;exact wpAny_pyIter_wide ha hQ
 .simp only [ha,if_true] at hQ;exact wpAny_pyIter_ascii ha hQ
abbrev yg1(h:Heap)(x:Str)(t:Tok):Heap:=h.push (uP x t)
abbrev yg2(h:Heap)(x y:Str)(t u:Tok):Heap:=(yg1 h x t).push (uP y u)
abbrev yg3(h:Heap)(x y:Str)(t u:Tok):Heap:=(yg2 h x y t u).push { cls:=.type "tuple",data:=.seq #[.ref h.objs.size,.ref (yg1 h x t).objs.size] }
abbrev yg4(h:Heap)(x y:Str)(t u:Tok):Heap:=(yg3 h x y t u).push { cls:=.type "tuple",data:=.seq #[.none,.none] }
abbrev yg5(h:Heap)(x y:Str)(t u:Tok):Heap:=(yg4 h x y t u).push { cls:=.type "zip",data:=.fields #[.none,.bool false,.bool false,.ref (yg2 h x y t u).objs.size,.ref (yg3 h x y t u).objs.size] }
theorem yF(x y:Str)(t u:Tok):Meets (Builtin.«zip.__new__» ⟨[.type "zip",.str x t,.str y u],[]⟩) (fun _ R s =>
   R (.ok (.ret (.ref (yg4 s.heap x y t u).objs.size))) { s with heap:=yg5 s.heap x y t u }) :=
 .of_wp fun prog w A R s h=>by
  obtain⟨hp,g,d,tk,os⟩:=s;have hsub:=sub_zip
  wp_walk using nh (x:=x) (t:=t),nh (x:=y) (t:=u)
  exact⟨_,rfl,h⟩
theorem yG{x y:Str}{t u:Tok}{Q:Value->Shared->Prop}
  (h:∀h',IsZip h' (s.heap.objs.size+4) (s.heap.objs.size+2) (s.heap.objs.size+3) .none->IsPair h' (s.heap.objs.size+2) (.ref s.heap.objs.size) (.ref (s.heap.objs.size+1)) ->
   IsPair h' (s.heap.objs.size+3) .none .none->SIt h' s.heap.objs.size x t 0->SIt h' (s.heap.objs.size+1) y u 0->(∀b o,s.heap.get? b=some o->h'.get? b=some o)->Q (.ref (s.heap.objs.size+4)) { s with heap:=h' }) :
  wpAny (model P w) A (call (.type "zip") [.str x t,.str y u]) Q E s:=by
 refine callType_new F.called_zip (by decide) (F.typeCall_zip_2 _ _) (F.newCall_zip_2 _ _) (fun obj=>F.args_object_init_3 obj _ _) F.entry_zip_new (yF x y t u) ?_;have z1:(yg1 s.heap x t).objs.size=s.heap.objs.size+1:=Heap.size_push ..;have z2:(yg2 s.heap x y t u).objs.size=s.heap.objs.size+2:=by rw [Heap.size_push,z1]
 have z3:(yg3 s.heap x y t u).objs.size=s.heap.objs.size+3:=by rw [Heap.size_push,z2]
 have z4:(yg4 s.heap x y t u).objs.size=s.heap.objs.size+4:=by rw [Heap.size_push,z3]
 have m4:∀b o,(yg4 s.heap x y t u).get? b=some o->(yg5 s.heap x y t u).get? b=some o:=fun b o e=>Heap.get?_push_of_some _ e;have m3:∀b o,(yg3 s.heap x y t u).get? b=some o->(yg5 s.heap x y t u).get? b=some o:=fun b o e=>m4 b o (Heap.get?_push_of_some _ e);have m2:∀b o,(yg2 s.heap x y t u).get? b=some o->(yg5 s.heap x y t u).get? b=some o:=fun b o e=>m3 b o (Heap.get?_push_of_some _ e);have m1:∀b o,(yg1 s.heap x t).get? b=some o->(yg5 s.heap x y t u).get? b=some o:=fun b o e=>m2 b o (Heap.get?_push_of_some _ e)
 have g5:(yg5 s.heap x y t u).get? (yg4 s.heap x y t u).objs.size=some _:=Heap.get?_push_size _ rfl;have g4:=m4 _ _ (Heap.get?_push_size (yg3 s.heap x y t u) (o:={ cls:=.type "tuple",data:=.seq #[.none,.none] }) rfl);have g3:=m3 _ _ (Heap.get?_push_size (yg2 s.heap x y t u) (o:={ cls:=.type "tuple",data:=.seq #[.ref s.heap.objs.size,.ref (yg1 s.heap x t).objs.size] }) rfl);have g2:=m2 _ _ (Heap.get?_push_size (yg1 s.heap x t) (o:=uP y u) rfl)
 have g1:=m1 _ _ (Heap.get?_push_size s.heap (o:=uP x t) rfl);show _/\_;rw [z2,z3,z4] at g5;rw [z1,z2] at g3;rw [z3] at g4;rw [z1] at g2;rw [z4];exact⟨⟨_,g5,rfl⟩,h _ g5 g3 g4 ⟨_,g1,rfl,rfl⟩ ⟨_,g2,rfl,rfl⟩ fun b o e=>m1 b o (Heap.get?_push_of_some _ e)⟩
end
section
variable {X:Cx}{es:List Expr}{ct:Nat}{tp:Pos}
def Bn(K:PySem.W.Frag)(ta:TA):TI:=fun σ H R=>ta σ H fun vs H1=>(∃k l a c,vs=[.ref a,.ref c]/\(∃xs ys,Sq k K H1 a xs/\Sq l K H1 c ys)/\R (Itz k l K a c) H1)\/∃la lb,vs=[.str (S la),.str (S lb)]/\R (Fv (cZ la) (cZ lb)) H1
theorem wE(K:PySem.W.Frag)(e:X.K=K){a b:Expr}{ta:TA}{p pos:Pos}(hg:Gl X "zip")(hm:X.mg "zip"=none)(ha:PA X [a,b] ta)
  (hs:starEach [a,b] X.env=[(false,eval a X.env),(false,eval b X.env)]:=by rfl) (hs2:starEach [b] X.env=[(false,eval b X.env)]:=by rfl) :
  PI X (.Tuple es ct tp) (.Call (.Name "zip" p) [a,b] [] pos) (Bn K ta):=by
 subst e;intro pins s σ H R I h;refine Call_ (iw I hg hm boot_zip (PyProof.Rows.callWith_type1 (thn (ha pos pins s σ H _ I h) fun us s1 ⟨vs,H1,I1,r1,q1⟩=>?_) (by rw [hs,hs2]) (by rw [hs2];rfl)))
 have fin:∀b∈[s1.heap.objs.size+4,s1.heap.objs.size+2,s1.heap.objs.size+3,s1.heap.objs.size,s1.heap.objs.size+1],ui X pins H1 b:=fun b hb=>by
  have hle:s1.heap.objs.size<=b:=by
   simp only [mem_cons,not_mem_nil,or_false] at hb
   rcases hb with e|e|e|e|e
   .rw [e];exact le_add_right _ _
   .rw [e];exact le_add_right _ _
   .rw [e];exact le_add_right _ _
   .rw [e];exact Nat.le_refl _
   .rw [e];exact le_add_right _ _
  exact I1.fpOk hle (I1.hok.fresh hle)
 rcases q1 with ⟨k,l,a,c,e,⟨xs,ys,q1,q2⟩,q⟩|⟨la,lb,e,q⟩
 .subst e
  cases r1 with
  | cons r rr =>
   cases rr with
   | cons r' rr =>
    cases rr;cases r;cases r';obtain⟨its,rv,p,_⟩:=I1.row q1;obtain⟨jts,rv',p',_⟩:=I1.row q2;refine AO p p' fun h' g1 g2 g3 g4 g5 kk=>wpAny_pyIter_zip g1 ?_;have I2:Inv X pins σ H1 { s1 with heap:=h',toks:=s1.toks }:=I1.kept kk
    exact⟨s1.heap.objs.size+4,[s1.heap.objs.size+4,s1.heap.objs.size+2,s1.heap.objs.size+3,s1.heap.objs.size,s1.heap.objs.size+1],_,_,H1,rfl,I2,yh (i:=s1.heap.objs.size) (j:=s1.heap.objs.size+1)
     (Dl _),⟨g1,g2,⟨_,_,g3⟩,g4,g5⟩,fin,q⟩
 .subst e
  cases r1 with
  | cons r rr =>
   cases rr with
   | cons r' rr =>
    cases rr;obtain⟨t,rfl⟩:=r;obtain⟨u,rfl⟩:=r';refine yG fun h' g1 g2 g3 g4 g5 kk=>wpAny_pyIter_zip g1 ?_;have I2:Inv X pins σ H1 { s1 with heap:=h',toks:=s1.toks }:=I1.kept kk
    exact⟨s1.heap.objs.size+4,[s1.heap.objs.size+4,s1.heap.objs.size+2,s1.heap.objs.size+3,s1.heap.objs.size,s1.heap.objs.size+1],_,_,H1,rfl,I2,wD (i:=s1.heap.objs.size) (j:=s1.heap.objs.size+1)
     (Dl _),⟨g1,g2,⟨_,_,g3⟩,g4,g5⟩,fin,q⟩
def wF(pa:PTA):PTI:=fun ρ Q=>pa ρ fun as ρ1=>match as with
 | [.v (.str x),.v (.str y)]=>Q (min x.length y.length) (fun k=>.tup [.str [x.getD k 0],.str [y.getD k 0]]) ρ1
 | [.v a,.v b]=>(match rowD a,rowD b with
  | some xs,some ys=>Q (min xs.length ys.length) (fun k=>.tup [itD xs k,itD ys k]) ρ1
  | _,_=>False)
 | _=>False
end
section
variable {K:PySem.W.Frag}{ta:TA}{pa:PTA}
theorem DS{O:Addr->Prop}{H:Hp}{x y:List Nat}:Wlk K O H (Fv (cZ x) (cZ y)) (min x.length y.length) (fun k=>.tup [.str [x.getD k 0],.str [y.getD k 0]]):=fun O' H' kk dom=>by
 refine⟨fun j hj=>?_,?_⟩
 .have h1:j<(cZ x).length:=by rw [c9];omega
  have h2:j<(cZ y).length:=by rw [c9];omega
  refine⟨⟨_,_,getElem?_eq_getElem h1,getElem?_eq_getElem h2⟩,fun v H'' ⟨T,u,w,hT,e,y1,y2,e2⟩=>?_⟩;subst e e2;obtain⟨c,hc,rfl⟩:=fF y1;obtain⟨d,hd,rfl⟩:=fF y2;show Gr H' _/\FV K O' _ _ (.tup [.str [x.getD j 0],.str [y.getD j 0]]);rw [getD_eq_getElem?_getD,getD_eq_getElem?_getD,hc,hd];exact⟨Gr.new hT,.tup (fun z=>dom T z hT) bv (.cons (.str _ (by show 1<=1000000;decide)) (.cons (.str _ (by show 1<=1000000;decide)) .nil))⟩
 .show (cZ x).length<=_\/(cZ y).length<=_;rw [c9,c9];omega
theorem wG(h:LAs K ta pa):LI K (Bn K ta) (wF pa):=fun A ρ σ H Q Q' R q k=>h A ρ σ H _ _ R q fun vs H1 as ρ1 q1 f1 R1 o1=>by
 split at q1
 .rename_i x y
  cases o1 with
  | cons o1 o2 =>
   cases o2 with
   | cons o2 o3 =>
    cases o3;have f1':FV K _ H1 _ (.str x):=o1;have f2':FV K _ H1 _ (.str y):=o2;cases f1';cases f2';exact .inr ⟨x,y,rfl,k _ H1 _ _ ρ1 q1 f1 R1 DS⟩
 .rename_i da db hno;have:=DE (K:=K) (ta:=ta) (pa:=pa) h
  cases o1 with
  | cons o1 o2 =>
   cases o2 with
   | cons o2 o3 =>
    cases o3
    split at q1
    .rename_i xs ys ex ey;obtain⟨b1,a1,us,rfl,l1,w1⟩:=FV.rowD (show FV K _ H1 _ da from o1) ex;obtain⟨b2,a2,ws,rfl,l2,w2⟩:=FV.rowD (show FV K _ H1 _ db from o2) ey;have t1:=w1 _ H1 (fun b o n h=>⟨n,h⟩);have t2:=w2 _ H1 (fun b o n h=>⟨n,h⟩);refine .inl ⟨b1,b2,a1,a2,rfl,⟨us,ws,t1.1,t2.1⟩,k _ H1 _ _ ρ1 q1 f1 R1 fun O' H' kk dom=>?_⟩;obtain⟨s1,g1⟩:=w1 O' H' kk;obtain⟨s2,g2⟩:=w2 O' H' kk;refine⟨fun j hj=>?_,⟨us,ws,s1,s2,by omega⟩⟩
     have h1:j<us.length:=by omega
     have h2:j<ws.length:=by omega
     refine⟨⟨us,ws,_,_,s1,s2,getElem?_eq_getElem h1,getElem?_eq_getElem h2⟩,fun x H'' ⟨T,u,w,hT,e,y1,y2,e2⟩=>?_⟩;subst e e2;obtain⟨d1,hd1,fd1⟩:=g1.get (y1 us s1);obtain⟨d2,hd2,fd2⟩:=g2.get (y2 ws s2);have e1:itD xs j=d1:=by unfold itD;rw [getD_eq_getElem?_getD,hd1];rfl
     have e2:itD ys j=d2:=by unfold itD;rw [getD_eq_getElem?_getD,hd2];rfl
     rw [e1,e2];have kk2:bh O' H' O' (upd H' T (.tup [u,w])):=fun b o n e=>⟨n,by rw [aM (br e hT)];exact e⟩
     exact⟨Gr.new hT,.tup (fun z=>dom T z hT) bv (.cons (fd1.keeps kk2) (.cons (fd2.keeps kk2) .nil))⟩
    .exact q1.elim
 .exact q1.elim
end
section
variable {X:Cx}{K:PySem.W.Frag}{te:TE}{pe:PTE}
def DT(K:PySem.W.Frag):List V->Hp->VK->Prop:=fun xs H Q=>∃(p:Addr) (ns:List Int),xs=[.ref p]/\SqL K H p (ns.map V.int)/\0<ns.length/\∀m:Int,m∈ns->(∀a∈ns,a<=m)->Q (.int m) H
theorem zO(K:PySem.W.Frag)(e:X.K=K)(hc:X.calm=true):cN X (.builtin "max") (DT K):=by
 subst e;intro pins s σ H xs us Q I r h;obtain⟨p,ns,rfl,hS,hne,q⟩:=h;obtain⟨u,rfl,ru⟩:=iq r;cases (show u=Value.ref p from ru);obtain⟨its,rv,pl,hz⟩:=I.list hS;have hi:=jB rv;have hl:=pl.isList;obtain⟨ys,e⟩:=hi.allInts.items;have hns:ns=ys.toList.map (·.1):=by rw [<- hi.numsOf,<- nums_intItems,<- e]
 have hsz:0<ys.size:=by
  have h3:=hne;rw [hns,length_map,Array.length_toList] at h3;exact h3
 rw [e] at hl;refine max_intList (by exact I.ok.hd hc) hl hsz fun v h' tk hv hk=>?_;obtain⟨t,rfl⟩:=intItems_at hv;obtain⟨h1,h2⟩:=argBest_gt (numAt ys) (ys.size - 1)
 refine⟨.int _,H,I.kept (t':=tk) hk,⟨t,rfl⟩,q _ ?_ fun a ha=>?_⟩
 .rw [hns,numAt_eq];exact getD_mem (by rw [length_map,Array.length_toList];omega)
 .rw [hns] at ha;obtain⟨j,hj,rfl⟩:=mem_getD ha;rw [length_map,Array.length_toList] at hj;rw [<- numAt_eq];exact h2 j (by omega)
def yH:FN
 | [.lst ds],Q=>∃ns:List Int,ds=ns.map .int/\0<ns.length/\∀m:Int,m∈ns->(∀a∈ns,a<=m)->Q (.dat (.int m))
 | _,_=>False
theorem wH:LC K (DT K) yH:=by
 intro O H xs as Q Q' dom fs q k;unfold yH at q
 split at q
 .obtain⟨ns,rfl,h0,q⟩:=q
  cases fs with
  | cons a b =>
   cases b;obtain⟨p,ys,rfl,e1,f1⟩:=a.lst;rw [f1.ints] at e1;exact⟨p,ns,rfl,SqL.of e1,h0,fun m h1 h2=>k _ H _ (q m h1 h2) (Gr.refl _) (.int _)⟩
 .exact q.elim
def tL(i:Nat)(pe:PTE):PTE:=fun ρ Q=>match ρ[i]? with
 | some (some (.own _))=>pe ρ fun p ρ1=>(match ρ1[i]?,p with
  | some (some (.own ds)),.dat (.int j)=>∃k d,(ixN ds.length j=some k/\ds.length<=1000000)/\ds[k]?=some d/\Q (.dat d) (ρ1.set i (some (.own (ds.eraseIdx k))))
  | _,_=>False)
 | _=>False
theorem FVs.eraseIdx{O:Addr->Prop}{H:Hp}:∀{xs:List V}{ds:List D} (k:Nat),FVs K O H xs ds->FVs K O H (xs.eraseIdx k) (ds.eraseIdx k)
 | _,_,_,.nil=>.nil
 | _,_,0,.cons a b=>b
 | _,_,k+1,.cons a b=>.cons a (FVs.eraseIdx k b)
theorem tM{i:Nat}(h:LE K te pe):LE K (tBM K "list" zA (bg i) (bB te fB)) (tL i pe):=fun A ρ σ H Q Q' R q k=>by
 unfold tL at q
 split at q
 .rename_i ds0 e0;obtain⟨a0,xs0,s0,g0,f0⟩:=R.ownAt e0;refine⟨_,s0,.inl ⟨rfl,xs0,SqL.of g0⟩,h A ρ σ H _ _ R q fun v H1 p ρ1 q1 f1 o1=>?_⟩;obtain⟨R1,fv⟩:=o1.frz
  split at q1
  .rename_i ds j e1;obtain⟨a,xs,s,g,f⟩:=R1.ownAt e1;rw [s0] at s;cases s;obtain⟨m,d,⟨hm,hl⟩,hd,q1⟩:=q1;obtain⟨w,hw,fw⟩:=f.getD hd;cases (show FV K _ H1 v (.int j) from fv);obtain⟨t1,t2,t3,t4⟩:=rB hm;obtain⟨R2,f2⟩:=R1.lstw (es:=ds.eraseIdx m) (ys:=xs.eraseIdx m) e1 s0 (f.eraseIdx m);have hx:xs.length=ds.length:=f.length;exact⟨a0,xs,j,m,w,rfl,rfl,g,by omega,by omega,by rw [hx];exact t1,hw,k _ _ _ _ q1 (f1.trans f2) ⟨R2,(fw.keeps f2.keeps)⟩⟩
  .exact q1.elim
 .exact q.elim
end
section
variable {X:Cx}{K:PySem.W.Frag}{te:TE}{pe:PTE}{fs:List Nat}
abbrev DU:R2:=rI CB fun i j=>.int (i*2^j.toNat)
abbrev DW:F2:=fI (fun i j=>0<=j/\j<=1000000/\i.natAbs<2^64) fun i j=>.int (i*2^j.toNat)
theorem yI:OpR X (binaryOp .LShift) DU:=CI
theorem tN:LO K DU DW:=Dv fun _ _ _ _=>.int _
abbrev EB:R2:=rI (fun _ j=>0<=j) fun i j=>.int (i / 2^j.toNat)
abbrev EC:F2:=fI (fun _ j=>0<=j) fun i j=>.int (i / 2^j.toNat)
theorem Bo:OpR X (binaryOp .RShift) EB:=CJ
theorem wI:LO K EB EC:=Dv fun _ _ _ _=>.int _
abbrev yJ:R2:=rI0 fun i j=>.int (Builtin.bitAnd i j)
abbrev yK:F2:=fI0 fun i j=>.int (Builtin.bitAnd i j)
theorem wJ:OpR X (binaryOp .BitAnd) yJ:=CK
theorem rT:LO K yJ yK:=yq fun _ _ _ _=>.int _
end
section
variable {prog:Program}{w:World}{A:Around}{E:Value->Shared->Prop}{s:Shared}
theorem qm{it t:Addr}{items:Array Value}(hne:t≠it):∀(n i:Nat) (s:Shared) (Q:List Value->Shared->Prop),s.heap.IsListIter it t i->s.heap.IsList t items->i+n<=items.size ->
  (∀h',h'.IsListIter it t (i+n)->Heap.SameBut it s.heap h'->Q ((items.toList.drop i).take n) { s with heap:=h' })->wpAny (model prog w) A (draw (.ref it) n) Q E s
 | 0,i,s,Q,hit,_,_,hQ=>by
  show wpAny _ _ (pure []) Q E s;exact wpAny_pure (by simpa using hQ s.heap hit (Heap.SameBut.refl ..))
 | n+1,i,s,Q,hit,ht,hle,hQ=>by
  have hlt:i<items.size:=by omega
  show wpAny _ _ (pyNext (.ref it) >>= _) Q E s;refine wpAny_bind (wpAny_pyNext_list_item hit ht (x:=items[i]) (by simp [hlt]) fun h₁ hit₁ hs₁=>?_);refine wpAny_bind (wpAny_holding (qm hne n (i+1) _ _ hit₁ (ht.extBut hs₁.extBut hne) (by omega) fun h₂ hit₂ hs₂=>wpAny_pure ?_));have hd:items.toList.drop i=items[i]::items.toList.drop (i+1):=by simp [drop_eq_getElem_cons,hlt]
  have:=hQ h₂ (by rw [show i+(n+1)=i+1+n by omega];exact hit₂) (hs₁.trans hs₂);rw [hd,take_succ_cons] at this;exact this
theorem kF{t:Addr}{items:Array Value}{Q:List Value->Shared->Prop}(hh:A.handled=none)(ht:s.heap.IsList t items)
  (hQ:∀h',Heap.ExtBut s.heap.objs.size s.heap h'->Q items.toList { s with heap:=h' }):wpAny (model prog w) A (unpackItems (.ref t) items.size none) Q E s:=by
 have hlt:t≠s.heap.objs.size:=by obtain⟨o,ho,_⟩:=ht;exact ne_of_lt (Heap.lt_size ho)
 unfold unpackItems
 refine wpAny_bind ?_
 .unfold notIterableAtAll;refine wpAny_bind (wpAny_specialOf ht.typeIs PySem.F.slot_list_iter.lookup ?_);refine wpAny_pure ?_;simp only [false_eq_true,if_false];refine wpAny_bind (wpAny_holding (wpAny_pyIter_list ht ?_));refine wpAny_bind (wpAny_holding (qm hlt items.size 0 _ _ ⟨_,Heap.get?_push_size _ rfl,rfl,rfl⟩ (ht.push _) (by omega) fun h₁ hit₁ hs₁=>?_))
  have hall:List.take items.size (List.drop 0 items.toList)=items.toList:=by
   rw [drop_zero];exact take_of_length_le (by simp)
  rw [hall];rw [if_neg (by simp)];have ht₁:h₁.IsList t items:=(ht.push _).extBut hs₁.extBut hlt;refine wpAny_bind (wpAny_holding (wpAny_pyNext_list_end hh hit₁ ht₁ (by simp) fun h₂ he₂=>?_));simp only [Option.isSome_none,false_eq_true,if_false];refine wpAny_pure (hQ h₂ fun b o hb e=>he₂ b o hb (hs₁.extBut b o hb (Heap.get?_push_of_some _ e)))
theorem jG{env:Env}{elts:List Expr}{x1}{pos:Pos}{t:Addr}{items:Array Value}{Q:Unit->Shared->Prop}(hh:A.handled=none)(ht:s.heap.IsList t items)
  (hn:(assignEach elts env).length=items.size) (hstar:(assignEach elts env).findIdx? (·.1)=none)
  (h:∀h',Heap.ExtBut s.heap.objs.size s.heap h'->wpAny (model prog w) A (assignInOrder ((assignEach elts env).map (·.2)) items.toList) Q E { s with heap:=h' }) :
  wpAny (model prog w) A (assign (.Tuple elts x1 pos) env (.ref t)) Q E s:=by
 rw [assign_Tuple];refine wpAny_bind (wpAny_standAt ?_);unfold unpack;rw [hn,hstar];exact wpAny_bind (wpAny_holding (kF hh ht h))
end
def zP(K:PySem.W.Frag)(n:Nat)(t:TGs):TG:=fun v σ H Q=>∃b a xs,v=.ref a/\Sq b K H a xs/\xs.length=n/\t xs σ H Q
section
variable {X:Cx}
theorem kd(K:PySem.W.Frag)(eK:X.K=K){es:List Expr}{k:Nat}{t:TGs}{n:Nat}{pos:Pos}(hc:X.calm=true)(h:PGs X es t)
  (hn:(assignEach es X.env).length=n:=by rfl) (hst:(assignEach es X.env).findIdx? (·.1)=none:=by rfl):PG X (.Tuple es k pos) (zP K n t):=by
 subst eK;intro pins s σ H v u Q I r hw;obtain⟨b,a,xs,e1,hq,hl,hw⟩:=hw
 cases b with
 | true=>exact Cz hc h hn hst pins s σ H v u Q I r ⟨a,xs,e1,hq,hl,hw⟩
 | false =>
  subst e1;cases r;obtain⟨its,rv,ht,hz⟩:=I.list hq;refine jG (I.ok.hd hc) ht.isList (by simp [hn,<- hl,rv.length]) hst fun h' hx=>?_;have I1:Inv X pins σ H { s with heap:=h' }:=I.kept (t':=s.toks) fun b o e=>hx b o (ne_of_lt (Heap.lt_size e)) e;exact h pins _ σ H xs _ Q I1 (by simpa using rv) hw
def iT(n:Nat)(gs:zF):PTG:=fun p ρ Q=>match p with|.dat (.tup ds)=>ds.length=n/\gs ds ρ Q|.dat (.lst ds)=>ds.length=n/\gs ds ρ Q|.own ds=>ds.length=n/\gs ds ρ Q|_=>False
end
section
variable {K:PySem.W.Frag}{fs:List Nat}
theorem iU{n:Nat}{gs:TGs}{pgs:zF}(h:LGs K fs gs pgs):LGd K fs (zP K n gs) (iT n pgs):=fun fx A R H0 ρ σ H d v Q Q' hf F r fv q k=>by
 unfold iT at q
 split at q
 .rename_i e;cases e
  cases fv with
  | tup nn e f=>exact⟨true,_,_,rfl,SqT.of e,by rw [f.length];exact q.1,h fx A R H0 ρ σ H _ _ Q Q' hf F r f q.2 k⟩
 .rename_i e;cases e
  cases fv with
  | lst nn e f=>exact⟨false,_,_,rfl,SqL.of e,by rw [f.length];exact q.1,h fx A R H0 ρ σ H _ _ Q Q' hf F r f q.2 k⟩
 .rename_i e;cases e
 .exact q.elim
theorem DX{n:Nat}{gs:TGs}{pgs:zF}(h:LGs K fs gs pgs):LG K fs (zP K n gs) (iT n pgs):=fun fx A R H0 ρ σ H p v Q Q' hf F o q k=>by
 unfold iT at q
 split at q
 .obtain⟨r,fv⟩:=o
  cases fv with
  | tup nn e f=>exact⟨true,_,_,rfl,SqT.of e,by rw [f.length];exact q.1,h fx A R H0 ρ σ H _ _ Q Q' hf F r f q.2 fun ρ' σ' q' r' F' _=>k ρ' σ' H q' r' F'⟩
 .obtain⟨r,fv⟩:=o
  cases fv with
  | lst nn e f=>exact⟨false,_,_,rfl,SqL.of e,by rw [f.length];exact q.1,h fx A R H0 ρ σ H _ _ Q Q' hf F r f q.2 fun ρ' σ' q' r' F' _=>k ρ' σ' H q' r' F'⟩
 .obtain⟨r,fv⟩:=o.frz
  cases fv with
  | lst nn e f=>exact⟨false,_,_,rfl,SqL.of e,by rw [f.length];exact q.1,h fx A R H0 ρ σ H _ _ Q Q' hf F r f q.2 fun ρ' σ' q' r' F' _=>k ρ' σ' H q' r' F'⟩
 .exact q.elim
end
def ve(d:D)(xs:List D):Prop:=d=.lst xs\/d=.tup xs
theorem Bp{d:D}{xs:List D}{Q:PV->Prop}(h:ve d xs)(q:Q (.own xs)):wu [d] Q:=by
 rcases h with rfl|rfl <;> exact q
theorem ve.lst(xs:List D):ve (.lst xs) xs:=.inl rfl
theorem ve.tup(xs:List D):ve (.tup xs) xs:=.inr rfl
def nSt:Expr->Bool
 | .Starred _ _=>false
 | _=>true
theorem iV{e:Expr}{es:List Expr}{env:Env}(h:nSt e=true):starEach (e::es) env=(false,eval e env)::starEach es env:=by
 cases e <;> first|rfl|cases h
theorem ii{env:Env}{pos:Pos}:∀{es:List Expr},es.all nSt=true->(backTo pos (starEach es env)).any (·.1)=false
 | [],_=>rfl
 | e::es,h=>by
  rw [all_cons,and_eq_true] at h;rw [iV h.1];show (false || (backTo pos (starEach es env)).any (·.1))=false;rw [ii h.2];rfl
section
variable {X:Cx}{k:Nat}{x:Str}{ps:List Str}{sp:Sp}{e:Expr}{es:List Expr}{te:TE}{t:TA}{p pos:Pos}{dvs:List V}{C:Addr}{id T:String}{r:List V->Hp->VK->Prop}
theorem paC(ha:PE X e te)(hr:PA X es t)(hn:nSt e=true:=by rfl):PA X (e::es) (bB te t):=Av ha hr (iV hn)
theorem aD(C:Cal X.prog X.w X.K X.mg X.base k x ps sp)(hr:gJ k X.A)(ha:PA X (e::es) t)(hg:Gl X x:=by rfl)(hdb:(x == ("__debug__":Str))=false:=by decide)(hn:nSt e=true:=by rfl)(hp:es.all nSt=true:=by rfl) :
  PE X (.Call (.Name x p) (e::es) [] pos) (fm sp [] E0 t):=Df C hr ha hg hdb (iV hn) (ii hp)
theorem yL(j:Nat)(C:Dn X.prog X.w X.K X.mg X.base k x ps dvs sp)(hr:gJ k X.A)(hj:j<=dvs.length)(ha:PA X (e::es) t)(hg:Gl X x:=by rfl)(hdb:(x == ("__debug__":Str))=false:=by decide)(hn:nSt e=true:=by rfl)(hp:es.all nSt=true:=by rfl) :
  PE X (.Call (.Name x p) (e::es) [] pos) (fm sp (dvs.drop j) E0 t):=AS j C hr hj ha hg hdb (iV hn) (ii hp)
theorem ji(M:AT X.prog X.w X.K X.mg X.base k C x ps sp)(hr:gJ (k+1) X.A)(ha:PA X (e::es) t)(hg:Gl X x:=by rfl)(hdb:(x == ("__debug__":Str))=false:=by decide)(hn:nSt e=true:=by rfl)(hp:es.all nSt=true:=by rfl) :
  PE X (.Call (.Name x p) (e::es) [] pos) (xX C sp [] E0 t):=AU M hr ha hg hdb (iV hn) (ii hp)
theorem ay(hc:cN X (.builtin id) r)(hg:Gl X x)(hm:X.mg x=none)(hv:bootBuiltins x=some (.builtin id))(ha:PA X (e::es) t)(hnn:x≠"__name__":=by decide)(hdb:(x == ("__debug__":Str))=false:=by decide)(hn:nSt e=true:=by rfl)(hp:es.all nSt=true:=by rfl) :
  PE X (.Call (.Name x p) (e::es) [] pos) (tCB r t):=x3 hc hg hm hv ha hnn hdb (iV hn) (ii hp)
theorem cu(hc:cN X (.type T) r)(hg:Gl X x)(hm:X.mg x=none)(hv:bootBuiltins x=some (.type T))(ha:PA X (e::es) t)(hnn:x≠"__name__":=by decide)(hdb:(x == ("__debug__":Str))=false:=by decide)(hn:nSt e=true:=by rfl)(hp:es.all nSt=true:=by rfl) :
  PE X (.Call (.Name x p) (e::es) [] pos) (tCB r t):=vy hc hg hm hv ha hnn hdb (iV hn) (ii hp)
end
def plT:Expr->Bool
 | .Call _ _ _ _=>true
 | .Name _ _=>true
 | .Subscript _ _ _=>true
 | .Attribute _ _ _=>true
 | _=>false
theorem Bq{e:Expr}{env:Env}(h:plT e=true):∀whole,isTrue e env whole=(do let v <- whole;standAt e.pos;holding [v] (truthy v)):=by
 cases e <;> first|(intro _;rfl)|cases h
theorem dM{X:Cx}{e:Expr}{t:TE}(h:PE X e t)(hp:plT e=true:=by rfl):PT X e (tB t):=Cr h (Bq hp)
def eC(a b:List Nat):Bool:=decide (0<=fnd b a 0)
def dG(ps:List (List Nat))(i:Nat):Bool:=!decide (pw ps i∈ps.take i) && !(ps.filter fun o=>decide ((pw ps i).length<o.length)).any fun o=>eC (pw ps i) o
theorem lC{a b:List Nat}:eC a b=true ↔ ∃k,stA b a k=true:=by
 unfold eC
 constructor
 .intro h;have h0:fnd b a 0≠-1:=fun z=>by rw [z] at h;exact absurd (of_decide_eq_true h) (by decide)
  obtain⟨k,_,_,h1,_⟩:=kP h0;exact⟨k,h1⟩
 .rintro⟨k,hk⟩
  by_cases h0:fnd b a 0=-1
  .rw [yj h0 k (zero_le _)] at hk;cases hk
  .obtain⟨j,e,_⟩:=kP h0;rw [e];exact decide_eq_true (by omega)
theorem yM(a:List Nat):eC a a=true:=lC.mpr ⟨0,decide_eq_true ⟨by omega,by rw [drop_zero,take_length]⟩⟩
theorem wK{a b c:List Nat}(h1:eC a b=true)(h2:eC b c=true):eC a c=true:=by
 obtain⟨k1,e1⟩:=lC.mp h1;obtain⟨k2,e2⟩:=lC.mp h2;obtain⟨l1,t1⟩:=of_decide_eq_true e1;obtain⟨l2,t2⟩:=of_decide_eq_true e2;refine lC.mpr ⟨k2+k1,decide_eq_true ⟨by omega,?_⟩⟩
 have hb:b.drop k1=(c.drop (k2+k1)).take (b.length - k1):=by
  rw [<- t2,drop_take,drop_drop,t2]
 have ha:a=((c.drop (k2+k1)).take (b.length - k1)).take a.length:=by rw [<- hb,t1]
 rw [take_take,show min a.length (b.length - k1)=a.length by omega] at ha;exact ha.symm
theorem oK{ps:List (List Nat)}{i:Nat}:dG ps i=true ↔ pw ps i∉ps.take i/\∀o∈ps,(pw ps i).length<o.length->eC (pw ps i) o=false:=by
 unfold dG;rw [and_eq_true,Bool.not_eq_true',Bool.not_eq_true',decide_eq_false_iff_not,any_eq_false]
 constructor
 .rintro⟨h1,h2⟩;refine⟨h1,fun o ho hl=>?_⟩;have:=h2 o (mem_filter.mpr ⟨ho,decide_eq_true hl⟩);simpa using this
 .rintro⟨h1,h2⟩;refine⟨h1,fun o ho=>?_⟩;obtain⟨m1,m2⟩:=mem_filter.mp ho;rw [h2 o m1 (of_decide_eq_true m2)];decide
theorem qo{ps:List (List Nat)}(hw:∀w∈ps,w.length<=60):∀(m i:Nat),i<ps.length->(61 - (pw ps i).length)*(ps.length+1)+i<=m->∃j,j<ps.length/\dG ps j=true/\eC (pw ps i) (pw ps j)=true:=by
 intro m
 induction m with
 | zero =>
  intro i hi h;have hl:=hw _ (mem_of_getElem? (dQ hi));have:0<(61 - (pw ps i).length)*(ps.length+1):=mul_pos (by omega) (by omega);omega
 | succ m ih =>
  intro i hi h;have hl:=hw _ (mem_of_getElem? (dQ hi))
  by_cases hk:dG ps i=true
  .exact⟨i,hi,hk,yM _⟩
  .by_cases h1:pw ps i∈ps.take i
   .obtain⟨i',hi'⟩:=mem_iff_getElem?.mp h1
    have hlt:i'<i:=by
     have:=(List.getElem?_eq_some_iff.mp hi').1;rw [length_take] at this;omega
    have he:pw ps i'=pw ps i:=by
     rw [getElem?_take,if_pos hlt] at hi';have:=dQ (ws:=ps) (k:=i') (by omega);rw [hi'] at this;exact (Option.some.inj this).symm
    obtain⟨j,a1,a2,a3⟩:=ih i' (by omega) (by rw [he];omega);exact⟨j,a1,a2,by rw [<- he];exact a3⟩
   .have h2:∃o∈ps,(pw ps i).length<o.length/\eC (pw ps i) o=true:=by
     apply Classical.byContradiction;intro z;refine hk (oK.mpr ⟨h1,fun o ho hlo=>?_⟩)
     cases hs:eC (pw ps i) o with
     | false=>rfl
     | true=>exact absurd ⟨o,ho,hlo,hs⟩ z
    obtain⟨o,ho,hlo,hs⟩:=h2;obtain⟨i',hi'⟩:=mem_iff_getElem?.mp ho;have hlt:i'<ps.length:=(List.getElem?_eq_some_iff.mp hi').1
    have he:pw ps i'=o:=by
     have:=dQ hlt;rw [hi'] at this;exact (Option.some.inj this).symm
    have hm:(61 - o.length+1)*(ps.length+1)<=(61 - (pw ps i).length)*(ps.length+1):=mul_le_mul_right _ (by have:=hw o ho;omega);rw [add_mul,Nat.one_mul] at hm;obtain⟨j,a1,a2,a3⟩:=ih i' hlt (by rw [he];omega);rw [he] at a3;exact⟨j,a1,a2,wK hs a3⟩
def oM(a b:List Nat)(k:Nat):Prop:=k<min a.length b.length/\b.take k <:+ a/\∀j,j<min a.length b.length->b.take j <:+ a->j<=k
theorem oM.uniq{a b:List Nat}{j k:Nat}(x:oM a b j)(y:oM a b k):j=k:=le_antisymm (y.2.2 j x.1 x.2.1) (x.2.2 k y.1 y.2.1)
def dS(a b:List Nat):Nat:=open Classical in if h:∃k,oM a b k then Classical.choose h else 0
theorem iW{a b:List Nat}(ha:0<a.length)(hb:0<b.length):oM a b (dS a b):=by
 obtain⟨k,h1,h2,h3⟩:=ll (fun k=>b.take k <:+ a) (by rw [take_zero];exact nil_suffix) (min a.length b.length) (by omega);have h:∃k,oM a b k:=⟨k,h1,h2,h3⟩
 unfold dS;rw [dif_pos h];exact Classical.choose_spec h
theorem oN{a b:List Nat}{k:Nat}(h:oM a b k):dS a b=k:=(iW (by have:=h.1;omega) (by have:=h.1;omega)).uniq h
def aQ(ps:List (List Nat)):List Nat:=(List.range ps.length).filter (dG ps)
def wL(ps:List (List Nat)):List Nat:=(List.range ps.length).filter fun i=>!decide (i∈aQ ps)
def ah(ps:List (List Nat)):List (List Nat):=(aQ ps).map (pw ps)
theorem eN{ps:List (List Nat)}{i:Nat}(h:i∈aQ ps):i<ps.length:=mem_range.mp (mem_filter.mp h).1
theorem jH(ps:List (List Nat)):(aQ ps).length<=ps.length:=Nat.le_trans (length_filter_le ..) (by rw [length_range];omega)
theorem dE{m:Nat}{ps:List (List Nat)}(h:Pcs m ps):Pcs m (ah ps):=fun w hw=>by
 obtain⟨i,hi,rfl⟩:=mem_map.mp hw;exact h _ (dD (eN hi))
theorem dU(ps:List (List Nat)):(ah ps).length<=ps.length:=by unfold ah;rw [length_map];exact jH ps
def lD(ps:List (List Nat))(i:Nat):List Nat:=(aQ ps).filter fun j=>eC (pw ps i) (pw ps j)
def tO(ps:List (List Nat))(i:Nat):Nat:=(lD ps i).headD 0
theorem yN{l:List Nat}(h:l.Pairwise (·<·)){m:Nat}(hm:m∈l)(hle:∀a∈l,m<=a):l.headD 0=m:=by
 cases l with
 | nil=>cases hm
 | cons x r =>
  show x=m;have h1:=hle x (mem_cons_self ..)
  rcases mem_cons.mp hm with e|e
  .exact e.symm
  .have:=(pairwise_cons.mp h).1 m e;omega
theorem ke(ps:List (List Nat)):(aQ ps).Pairwise (·<·):=pairwise_lt_range.filter _
theorem wM{ps:List (List Nat)}{i m:Nat}(hm:m∈lD ps i)(hle:∀a∈lD ps i,m<=a):tO ps i=m:=yN ((ke ps).filter _) hm hle
theorem uQ{ps:List (List Nat)}(hw:∀w∈ps,w.length<=60){i:Nat}(hi:i<ps.length):∃j,j∈lD ps i:=by
 obtain⟨j,h1,h2,h3⟩:=qo hw _ i hi (Nat.le_refl _);exact⟨j,mem_filter.mpr ⟨mem_filter.mpr ⟨mem_range.mpr h1,h2⟩,h3⟩⟩
def eO(ps:List (List Nat))(i:Nat):D:=.tup [.int (i:Int),.int (tO ps i:Int),.int (fnd (pw ps (tO ps i)) (pw ps i) 0)]
def qp(ws:List (List Nat)):D:=.tup (ws.map fun w=>.tup (ws.map fun v=>.int (dS w v:Int)))
def fV(ps:List (List Nat)):Int:=((ah ps).map fun w=>(w.length:Int)).sum
def nD(k:Nat):D:=.int (k:Int)
def yO:List Str:=["pieces","kept","words","left","laps","total"]
def yP(ps:List (List Nat)):List D:=[.tup (ps.map .str),.tup ((aQ ps).map nD),.tup ((ah ps).map .str),.tup ((wL ps).map (eO ps)),qp (ah ps),.int (fV ps)]
theorem wN{ks:List Nat}{k:Nat}(h:k<(ks.map nD).length):itD (ks.map nD) k=.int ((ks.getD k 0:Nat):Int):=gw (by
 have h:k<ks.length:=by rwa [length_map] at h
 rw [getElem?_map,getD_eq_getElem?_getD,getElem?_eq_getElem h];rfl)
theorem oO(w:List Nat):∀ws:List (List Nat),inD (.str w) (ws.map .str)=decide (w∈ws)
 | []=>by simp [inD]
 | v::r=>by
  have ih:=oO w r;unfold inD at ih ⊢;rw [map_cons,any_cons,ih];show ((v == w) || decide (w∈r))=_
  by_cases h:v=w
  .subst h;simp
  .rw [beq_eq_false_iff_ne.mpr h,Bool.false_or]
   by_cases h2:w∈r
   .rw [decide_eq_true h2,decide_eq_true (mem_cons_of_mem _ h2)]
   .rw [decide_eq_false h2,decide_eq_false (fun z=>(mem_cons.mp z).elim (fun e=>h e.symm) h2)]
theorem wO(k:Nat):∀ks:List Nat,inD (.int (k:Int)) (ks.map nD)=decide (k∈ks)
 | []=>by simp [inD]
 | v::r=>by
  have ih:=wO k r;unfold inD at ih ⊢;rw [map_cons,any_cons,ih];show (((v:Int) == (k:Int)) || decide (k∈r))=_
  by_cases h:v=k
  .subst h;simp
  .rw [show ((v:Int) == (k:Int))=false from beq_eq_false_iff_ne.mpr (by omega),Bool.false_or]
   by_cases h2:k∈r
   .rw [decide_eq_true h2,decide_eq_true (mem_cons_of_mem _ h2)]
   .rw [decide_eq_false h2,decide_eq_false (fun z=>(mem_cons.mp z).elim (fun e=>h e.symm) h2)]
theorem wP(ws:List (List Nat)):(ws.map D.str).all D.fl=true:=by rw [all_map];exact all_eq_true.mpr fun _ _=>rfl
theorem DY(ks:List Nat):(ks.map nD).all D.fl=true:=by rw [all_map];exact all_eq_true.mpr fun _ _=>rfl
theorem Br(n:Nat):tu 0 n=(List.range n).map nD:=by
 unfold tu nD;exact map_congr_left fun k _=>by rw [Int.zero_add]
theorem nk(ws:List (List Nat)):(List.range ws.length).map (pw ws)=ws:=by
 apply ext_getElem?;intro k;rw [getElem?_map]
 by_cases hk:k<ws.length
 .rw [getElem?_range hk,dQ hk];rfl
 .rw [getElem?_eq_none (by rw [length_range];omega),getElem?_eq_none (by omega)];rfl
theorem yQ{β:Type}(f:List Nat->Option β)(ws:List (List Nat)):(List.range ws.length).filterMap (fun k=>f (pw ws k))=ws.filterMap f:=by
 conv=>rhs;rw [<- nk ws]
 rw [filterMap_map];rfl
theorem dt{α β:Type}(p:α->Bool)(g:α->β):∀l:List α,l.filterMap (fun a=>if p a=true then some (g a) else none)=(l.filter p).map g
 | []=>rfl
 | a::r=>by
  rw [filterMap_cons,filter_cons]
  cases h:p a with
  | true=>simp [dt p g r]
  | false=>simp [dt p g r]
theorem yR{β:Type}(f:Nat->Option β)(ks:List Nat):(List.range ks.length).filterMap (fun k=>f (ks.getD k 0))=ks.filterMap f:=by
 have e:(List.range ks.length).map (fun k=>ks.getD k 0)=ks:=by
  have:=fU (fun k=>k) ks;rw [List.map_id'] at this;exact this
 conv=>rhs;rw [<- e]
 rw [filterMap_map];rfl
theorem jI(n:Nat):(tu 0 n).length=n:=by unfold tu;rw [length_map,length_range]
theorem oP{n j:Nat}(h:j<(tu 0 n).length):itD (tu 0 n) j=.int (j:Int):=gw (by
 rw [jI] at h;unfold tu;rw [getElem?_map,getElem?_range h];show some (D.int (0+(j:Int)))=_;rw [Int.zero_add])
theorem yS(a b:List Int):deq (.lst (a.map .int)) (.lst (b.map .int))=decide (a=b):=by
 unfold deq;show PyData.eqv (.list (D.pys _)) (.list (D.pys _))=_;rw [oJ,oJ];simp only [PyData.eqv];exact li a b
open PySem.Builtin PySem.Builtin.ObjectAttr
open PySem.Builtin PySem.Builtin.ObjectAttr
open PySem.Builtin PySem.Builtin.ObjectAttr
open PySem.Builtin PySem.Builtin.ObjectAttr
theorem wQ(d:D):(PV.dat d).d=d:=rfl
theorem wR(ds:List D):(PV.own ds).d=.lst ds:=rfl
theorem wS(c:Str)(ns:List Str)(ds:List D):(PV.ins c ns ds).d=.obj c ns ds:=rfl
theorem DZ(ds:List D):mkL false ds=.own ds:=rfl
theorem D0(ds:List D):mkL true ds=.dat (.tup ds):=rfl
def pkm(ρ:PSt)(j:Nat):Option PV:=match ρ[j]? with
 | some v=>v
 | none=>none
theorem tP(v:Option PV)(r:PSt):pkm (v::r) 0=v:=rfl
theorem tQ(v:Option PV)(r:PSt)(n:Nat):pkm (v::r) (n+1)=pkm r n:=rfl
theorem qq(ρ:PSt):bX [] ρ=[]:=rfl
theorem nr(ix:List (Option Nat))(ρ:PSt):bX (none::ix) ρ=none::bX ix ρ:=rfl
theorem nt(j:Nat)(ix:List (Option Nat))(ρ:PSt):bX (some j::ix) ρ=pkm ρ j::bX ix ρ:=rfl
theorem qs(j:Nat)(ix:List (Option Nat))(ρ:PSt)(t:Option PV)(τ:PSt):fH (some j::ix) ρ (t::τ)=fH ix (ρ.set j t) τ:=rfl
theorem qt(ix:List (Option Nat))(ρ:PSt)(t:Option PV)(τ:PSt):fH (none::ix) ρ (t::τ)=fH ix ρ τ:=rfl
theorem tR(ρ τ:PSt):fH [] ρ τ=ρ:=rfl
def ED(pe:PTE):PTE:=fun ρ Q=>pe ρ fun p ρ1=>Q (.dat p.d) ρ1
theorem wT{K:PySem.W.Frag}{ta:TE}{pe:PTE}(h:LE K ta pe):LE K ta (ED pe):=fun A ρ σ H Q Q' R q k=>h A ρ σ H _ Q' R q fun v H' p ρ' q f o=>k v H' (.dat p.d) ρ' q f o.frz
theorem wU{α:Type}{e:α->D}{xs:List α}{k:Nat}(h:k<xs.length):itD (xs.map e) k=e xs[k]:=gw (by rw [getElem?_map,getElem?_eq_getElem h];rfl)
theorem wV{α β:Type}(f:α->β)(xs:List α)(g:Nat->β)(h:∀k (hk:k<xs.length),g k=f xs[k]):(List.range xs.length).map g=xs.map f:=by
 apply ext_getElem?;intro i;rw [getElem?_map,getElem?_map]
 by_cases hi:i<xs.length
 .rw [getElem?_range hi,getElem?_eq_getElem hi];exact congrArg some (h i hi)
 .rw [getElem?_eq_none (by rw [length_range];omega),getElem?_eq_none (by omega)];rfl
section
variable {α:Type}{e:α->D}{xs:List α}{ix:List (Option Nat)}{ρ1:PSt}{g:PTG}{pt:PTT}{pe:PTE}{Q:PKt}
theorem Gg(T:PSt->Prop)(f:α->Option D)(h0:T (bX ix ρ1))
  (hs:∀x∈xs,∀τ,T τ->∀(K1:D->PSt->Prop) (K2:PSt->Prop),(∀d τ',f x=some d->T τ'->K1 d τ')->(∀τ',f x=none->T τ'->K2 τ')->g (.dat (e x)) τ fun τ2=>pt τ2 fun ok τ3=>gL ok (pe τ3 fun p τ4=>K1 p.d τ4) (K2 τ3))
  (hq:∀τ,T τ->Q (.own (xs.filterMap f)) (fH ix ρ1 τ)):lw ix ρ1 (xs.map e).length (itD (xs.map e)) g pt pe Q:=by
 refine cfm T (fun k=>(xs[k]?).bind f) h0 (fun k τ d hk ed t K1 K2 k1 k2=>?_) fun τ t=>?_
 .rw [length_map] at hk;rw [wU hk] at ed;subst ed;have eg:(xs[k]?).bind f=f xs[k]:=by rw [getElem?_eq_getElem hk];rfl
  rw [eg] at k1 k2;exact hs _ (getElem_mem hk) τ t K1 K2 k1 k2
 .have e1:(List.range (xs.map e).length).filterMap (fun k=>(xs[k]?).bind f)=xs.filterMap f:=by
   rw [length_map];have h1:(List.range xs.length).map (fun k=>(xs[k]?).bind f)=xs.map f:=wV f xs _ fun k hk=>by rw [getElem?_eq_getElem hk];rfl
   have h2:∀l:List Nat,l.filterMap (fun k=>(xs[k]?).bind f)=(l.map fun k=>(xs[k]?).bind f).filterMap id:=fun l=>by rw [filterMap_map];rfl
   rw [h2,h1,filterMap_map];rfl
  rw [e1];exact hq τ t
theorem D1(T:PSt->Prop)(f:α->D)(h0:T (bX ix ρ1))
  (hs:∀x∈xs,∀τ,T τ->∀K1:D->PSt->Prop,(∀τ',T τ'->K1 (f x) τ')->g (.dat (e x)) τ fun τ2=>pe τ2 fun p τ4=>K1 p.d τ4)
  (hq:∀τ,T τ->Q (.own (xs.map f)) (fH ix ρ1 τ)):lw ix ρ1 (xs.map e).length (itD (xs.map e)) g jy pe Q:=by
 refine Gg T (fun x=>some (f x)) h0 (fun x hx τ t K1 K2 k1 k2=>?_) fun τ t=>?_
 .exact hs x hx τ t K1 fun τ' t'=>k1 _ τ' rfl t'
 .rw [show xs.filterMap (fun x=>some (f x))=xs.map f by rw [<- filterMap_eq_map];rfl];exact hq τ t
theorem Fw{β:Type}(p:α->Bool)(f:α->β):∀xs:List α,xs.filterMap (fun x=>if p x=true then some (f x) else none)=(xs.filter p).map f:=dt p f
theorem cfX(T:PSt->Prop)(p:α->Bool)(f:α->D)(h0:T (bX ix ρ1))
  (hs:∀x∈xs,∀τ,T τ->∀(K1:D->PSt->Prop) (K2:PSt->Prop),(∀τ',p x=true->T τ'->K1 (f x) τ')->(∀τ',p x=false->T τ'->K2 τ')->g (.dat (e x)) τ fun τ2=>pt τ2 fun ok τ3=>gL ok (pe τ3 fun p τ4=>K1 p.d τ4) (K2 τ3))
  (hq:∀τ,T τ->Q (.own ((xs.filter p).map f)) (fH ix ρ1 τ)):lw ix ρ1 (xs.map e).length (itD (xs.map e)) g pt pe Q:=by
 refine Gg T (fun x=>if p x=true then some (f x) else none) h0 (fun x hx τ t K1 K2 k1 k2=>hs x hx τ t K1 K2 (fun τ' h t'=>k1 _ τ' (by rw [if_pos h]) t') fun τ' h t'=>k2 τ' (by rw [if_neg (by rw [h];decide)]) t') fun τ t=>?_;rw [Fw];exact hq τ t
theorem cm1(f:α->D)
  (hs:∀x∈xs,∀(v:Option PV) (K1:D->PSt->Prop),(∀v',K1 (f x) (v'::(bX ix ρ1).tail))->g (.dat (e x)) (v::(bX ix ρ1).tail) fun τ2=>pe τ2 fun p τ4=>K1 p.d τ4)
  (hq:∀v:Option PV,Q (.own (xs.map f)) (fH ix ρ1 (v::(bX ix ρ1).tail))) (hx:bX ix ρ1=none::(bX ix ρ1).tail:=by rfl):lw ix ρ1 (xs.map e).length (itD (xs.map e)) g jy pe Q:=by
 refine D1 (fun τ=>∃v,τ=v::(bX ix ρ1).tail) f ⟨none,hx⟩ ?_ ?_
 .rintro x hx τ ⟨v,rfl⟩ K1 k1;exact hs x hx v K1 fun v'=>k1 _ ⟨v',rfl⟩
 .rintro τ ⟨v,rfl⟩;exact hq v
theorem cf1(p:α->Bool)(f:α->D)
  (hs:∀x∈xs,∀(v:Option PV) (K1:D->PSt->Prop) (K2:PSt->Prop),(∀v',p x=true->K1 (f x) (v'::(bX ix ρ1).tail))->(∀v',p x=false->K2 (v'::(bX ix ρ1).tail))->g (.dat (e x)) (v::(bX ix ρ1).tail) fun τ2=>pt τ2 fun ok τ3=>gL ok (pe τ3 fun p τ4=>K1 p.d τ4) (K2 τ3))
  (hq:∀v:Option PV,Q (.own ((xs.filter p).map f)) (fH ix ρ1 (v::(bX ix ρ1).tail))) (hx:bX ix ρ1=none::(bX ix ρ1).tail:=by rfl):lw ix ρ1 (xs.map e).length (itD (xs.map e)) g pt pe Q:=by
 refine cfX (fun τ=>∃v,τ=v::(bX ix ρ1).tail) p f ⟨none,hx⟩ ?_ ?_
 .rintro x hx τ ⟨v,rfl⟩ K1 K2 k1 k2;exact hs x hx v K1 K2 (fun v' h=>k1 _ h ⟨v',rfl⟩) fun v' h=>k2 _ h ⟨v',rfl⟩
 .rintro τ ⟨v,rfl⟩;exact hq v
end
theorem cmR{ix:List (Option Nat)}{ρ1:PSt}{g:PTG}{pe:PTE}{Q:PKt}{n:Nat}{it:Nat->D}(f:Nat->D)
  (hs:∀k,k<n->∀(v:Option PV) (K1:D->PSt->Prop),(∀v',K1 (f k) (v'::(bX ix ρ1).tail))->g (.dat (it k)) (v::(bX ix ρ1).tail) fun τ2=>pe τ2 fun p τ4=>K1 p.d τ4)
  (hq:∀v:Option PV,Q (.own ((List.range n).map f)) (fH ix ρ1 (v::(bX ix ρ1).tail))) (hx:bX ix ρ1=none::(bX ix ρ1).tail:=by rfl):lw ix ρ1 n it g jy pe Q:=by
 refine xK (fun τ=>∃v,τ=v::(bX ix ρ1).tail) f ⟨none,hx⟩ ?_ ?_
 .rintro k τ d hk rfl ⟨v,rfl⟩ K1 k1;exact hs k hk v K1 fun v'=>k1 _ ⟨v',rfl⟩
 .rintro τ ⟨v,rfl⟩;exact hq v
theorem cfR{ix:List (Option Nat)}{ρ1:PSt}{g:PTG}{pt:PTT}{pe:PTE}{Q:PKt}{n:Nat}{it:Nat->D}(p:Nat->Bool)(f:Nat->D)
  (hs:∀k,k<n->∀(v:Option PV) (K1:D->PSt->Prop) (K2:PSt->Prop),(∀v',p k=true->K1 (f k) (v'::(bX ix ρ1).tail))->(∀v',p k=false->K2 (v'::(bX ix ρ1).tail))->g (.dat (it k)) (v::(bX ix ρ1).tail) fun τ2=>pt τ2 fun ok τ3=>gL ok (pe τ3 fun p τ4=>K1 p.d τ4) (K2 τ3))
  (hq:∀v:Option PV,Q (.own (((List.range n).filter p).map f)) (fH ix ρ1 (v::(bX ix ρ1).tail))) (hx:bX ix ρ1=none::(bX ix ρ1).tail:=by rfl):lw ix ρ1 n it g pt pe Q:=by
 refine cfm (fun τ=>∃v,τ=v::(bX ix ρ1).tail) (fun k=>if p k=true then some (f k) else none) ⟨none,hx⟩ ?_ ?_
 .rintro k τ d hk rfl ⟨v,rfl⟩ K1 K2 k1 k2;exact hs k hk v K1 K2 (fun v' h=>k1 _ _ (by rw [if_pos h]) ⟨v',rfl⟩) fun v' h=>k2 _ (by rw [if_neg (by rw [h];decide)]) ⟨v',rfl⟩
 .rintro τ ⟨v,rfl⟩;rw [dt];exact hq v
section
variable {α:Type}{e:α->D}{xs:List α}{ρ1:PSt}{g:PTG}{pb:PTS}{nx bk:PSt->Prop}{rt:PV->PSt->Prop}
theorem Fx(J:List α->PSt->Prop)(h0:J [] ρ1)
  (hs:∀pre x suf ρ,xs=pre++x::suf->J pre ρ->g (.dat (e x)) ρ fun ρ2=>pb { nx:=J (pre++[x]),rt:=rt,bk:=bk,ct:=J (pre++[x]) } ρ2) (hq:∀ρ,J xs ρ->nx ρ) :
  ∃I:Nat->PSt->Prop,I 0 ρ1/\(∀k ρ d,k<(xs.map e).length->d=itD (xs.map e) k->I k ρ->g (.dat d) ρ fun ρ2=>pb { nx:=I (k+1),rt:=rt,bk:=bk,ct:=I (k+1) } ρ2)/\∀ρ,I (xs.map e).length ρ->nx ρ:=by
 refine⟨fun k ρ=>J (xs.take k) ρ,by show J (xs.take 0) ρ1;rw [take_zero];exact h0,fun k ρ d hk ed hJ=>?_,fun ρ h=>hq ρ (by have h:J (xs.take (xs.map e).length) ρ:=h;rw [length_map,take_length] at h;exact h)⟩;rw [length_map] at hk;rw [wU hk] at ed;subst ed;have ht:xs.take (k+1)=xs.take k++[xs[k]]:=by rw [take_succ,getElem?_eq_getElem hk];rfl
 show g _ ρ fun ρ2=>pb { nx:=J (xs.take (k+1)),rt:=rt,bk:=bk,ct:=J (xs.take (k+1)) } ρ2;rw [ht];exact hs _ _ (xs.drop (k+1)) ρ (by rw [getElem_cons_drop,take_append_drop]) hJ
end
theorem wW{t w:List Nat}{k:Nat}:stA t w k=true ↔ ∃a b,t=a++w++b/\a.length=k:=by
 unfold stA;rw [decide_eq_true_eq]
 constructor
 .rintro⟨h1,h2⟩;refine⟨t.take k,t.drop (k+w.length),?_,by rw [length_take];omega⟩
  have h3:t.drop k=w++t.drop (k+w.length):=by
   conv=>lhs;rw [<- take_append_drop w.length (t.drop k),h2,drop_drop]
  rw [append_assoc,<- h3,take_append_drop]
 .rintro⟨a,b,rfl,rfl⟩;refine⟨by rw [length_append,length_append];omega,?_⟩;rw [append_assoc,drop_left,take_left]
theorem gT{a b:List Nat}:eC a b=true ↔ a <:+: b:=by
 rw [lC]
 constructor
 .rintro⟨k,hk⟩;obtain⟨u,v,e,_⟩:=wW.mp hk;exact⟨u,v,e.symm⟩
 .rintro⟨u,v,e⟩;exact⟨u.length,wW.mpr ⟨u,v,e.symm,rfl⟩⟩
theorem wX{a b:List Nat}:eC a b=true ↔ 0<=fnd b a 0:=by unfold eC;exact decide_eq_true_iff
theorem tS{a b t:List Nat}{k:Nat}(h:oM a b k)(ht:a <:+ t):b <:+ t++b.drop k:=by
 obtain⟨u,hu⟩:=List.IsSuffix.trans h.2.1 ht;refine⟨u,?_⟩;rw [<- hu,append_assoc,take_append_drop]
theorem lE{α β:Type}(f:α->β)(xs:List α)(i:Nat):(xs.map f).eraseIdx i=(xs.eraseIdx i).map f:=by
 rw [eraseIdx_eq_take_drop_succ,eraseIdx_eq_take_drop_succ,map_append,map_take,map_drop]
theorem qu{α:Type}{js:List α}{i:Nat}(h:i<js.length):(js.eraseIdx i++[js[i]]).Perm js:=by
 rw [eraseIdx_eq_take_drop_succ,append_assoc];have e:js=js.take i++(js[i]::js.drop (i+1)):=by rw [getElem_cons_drop,take_append_drop]
 conv=>rhs;rw [e]
 exact List.Perm.append_left _ (perm_append_singleton _ _)
theorem Fy{n i:Nat}(h:i<n):ixN n (i:Int)=some i:=by
 unfold ixN;rw [if_pos (by omega),if_pos (by omega),toNat_natCast]
theorem oQ{α:Type}{P:List α->Prop}(h0:P [])(h1:∀l a,P l->P (l++[a]))(l:List α):P l:=by
 have go:∀r:List α,P r.reverse:=fun r=>by
  induction r with
  | nil=>exact h0
  | cons a r ih=>rw [reverse_cons];exact h1 _ _ ih
 have:=go l.reverse
 rwa [reverse_reverse] at this
def glT(ws:List (List Nat)):Nat->List Nat->List Nat
 | _,[]=>[]
 | i,j::r=>(pw ws j).drop (dS (pw ws i) (pw ws j))++glT ws j r
def glN(ws:List (List Nat)):List Nat->List Nat
 | []=>[]
 | j::r=>pw ws j++glT ws j r
def yT(ws:List (List Nat)):Nat->List Nat->Nat
 | _,[]=>0
 | i,j::r=>dS (pw ws i) (pw ws j)+yT ws j r
def wY(ws:List (List Nat)):List Nat->Nat
 | []=>0
 | j::r=>yT ws j r
theorem tT(ws:List (List Nat))(j:Nat):∀(i:Nat) (r:List Nat) (l:Nat),glT ws i (r++[l]++[j])=glT ws i (r++[l])++(pw ws j).drop (dS (pw ws l) (pw ws j))
 | i,[],l=>by
  show (pw ws l).drop _++((pw ws j).drop _++[])=(pw ws l).drop _++[]++_;rw [append_nil,append_nil]
 | i,a::r,l=>by
  show (pw ws a).drop _++glT ws a (r++[l]++[j])=(pw ws a).drop _++glT ws a (r++[l])++_;rw [tT ws j a r l,append_assoc]
theorem tU(ws:List (List Nat))(pre:List Nat)(l j:Nat):glN ws (pre++[l]++[j])=glN ws (pre++[l])++(pw ws j).drop (dS (pw ws l) (pw ws j)):=by
 cases pre with
 | nil=>show pw ws l++((pw ws j).drop _++[])=pw ws l++[]++_;rw [append_nil,append_nil]
 | cons a r =>
  show pw ws a++glT ws a (r++[l]++[j])=pw ws a++glT ws a (r++[l])++_;rw [tT,append_assoc]
theorem qv(ws:List (List Nat))(j:Nat):∀(i:Nat) (r:List Nat) (l:Nat),yT ws i (r++[l]++[j])=yT ws i (r++[l])+dS (pw ws l) (pw ws j)
 | i,[],l=>by show dS _ _+(dS _ _+0)=dS _ _+0+_;omega
 | i,a::r,l=>by
  show dS _ _+yT ws a (r++[l]++[j])=dS _ _+yT ws a (r++[l])+_;rw [qv ws j a r l,add_assoc]
theorem wZ{ws:List (List Nat)}:∀{i:Nat}{r:List Nat},0<(pw ws i).length->(∀j∈r,0<(pw ws j).length)->(glT ws i r).length+yT ws i r=(r.map fun j=>(pw ws j).length).sum
 | i,[],_,_=>rfl
 | i,j::r,hi,h=>by
  have hj:=h j (mem_cons_self ..);have ih:=wZ (i:=j) (r:=r) hj fun k hk=>h k (mem_cons_of_mem _ hk);have hl:=(iW hi hj).1;show ((pw ws j).drop _++glT ws j r).length+(dS _ _+yT ws j r)=_;rw [length_append,length_drop,map_cons,sum_cons,<- ih];omega
theorem w9{ws:List (List Nat)}{js:List Nat}(h:∀j∈js,0<(pw ws j).length):(glN ws js).length+wY ws js=(js.map fun j=>(pw ws j).length).sum:=by
 cases js with
 | nil=>rfl
 | cons j r =>
  have:=wZ (h j (mem_cons_self ..)) fun k hk=>h k (mem_cons_of_mem _ hk);show (pw ws j++glT ws j r).length+yT ws j r=_;rw [length_append,map_cons,sum_cons,<- this];omega
theorem Bs{ws:List (List Nat)}:∀{pre:List Nat}{l:Nat},(∀j∈pre++[l],0<(pw ws j).length)->pw ws l <:+ glN ws (pre++[l]):=fun {pre}=>by
 induction pre using oQ with
 | h0=>intro l _;exact⟨[],by show pw ws l=pw ws l++[];rw [append_nil]⟩
 | h1 pre a ih =>
  intro l h;rw [tU];have ha:=h a (by simp);have hl:=h l (by simp);exact tS (iW ha hl) (ih fun j hj=>h j (mem_append_left _ hj))
theorem Bt{ws:List (List Nat)}(pre suf:List Nat):glN ws pre <+: glN ws (pre++suf):=by
 induction suf using oQ with
 | h0=>rw [append_nil];exact prefix_refl _
 | h1 suf a ih =>
  rw [<- append_assoc]
  rcases eq_nil_or_concat (pre++suf) with e|⟨r,l,e⟩
  .have:pre=[]:=(append_eq_nil_iff.mp e).1;rw [this];exact nil_prefix
  .rw [concat_eq_append] at e;rw [e] at ih ⊢;rw [tU];exact ih.trans (prefix_append _ _)
theorem zQ{ws:List (List Nat)}{js:List Nat}(h:∀j∈js,0<(pw ws j).length){j:Nat}(hj:j∈js):pw ws j <:+: glN ws js:=by
 obtain⟨pre,suf,rfl⟩:=append_of_mem hj;have e:pre++j::suf=(pre++[j])++suf:=by simp
 rw [e] at h ⊢;exact (Bs fun k hk=>h k (mem_append_left _ hk)).isInfix.trans (Bt _ suf).isInfix
theorem xa{t:List Nat}{a b c:Nat}(h1:a<=b)(h2:b<=c):(t.drop a).take (b - a)++(t.drop b).take (c - b)=(t.drop a).take (c - a):=by
 rw [show c - a=(b - a)+(c - b) by omega,take_add,drop_drop,show a+(b - a)=b by omega]
theorem qw{ws:List (List Nat)}{t:List Nat}{P:Nat->Nat}:∀{i:Nat}{r:List Nat},(∀j∈i::r,0<(pw ws j).length/\stA t (pw ws j) (P j)=true)->(i::r).Pairwise (fun a b=>P a<P b)->(i::r).Pairwise (fun a b=>¬ pw ws b <:+: pw ws a) ->
  ∃e,e<=t.length/\P i+(pw ws i).length<=e/\(glT ws i r).length<=e - (P i+(pw ws i).length)/\((glT ws i r).length=e - (P i+(pw ws i).length)->glT ws i r=(t.drop (P i+(pw ws i).length)).take (e - (P i+(pw ws i).length)))
 | i,[],h,_,_=>⟨P i+(pw ws i).length,(of_decide_eq_true (h i (mem_cons_self ..)).2).1,Nat.le_refl _,zero_le _,fun _=>by rw [sub_self,take_zero];rfl⟩
 | i,j::r,h,hp,ha=>by
  obtain⟨p1,p2⟩:=pairwise_cons.mp hp;obtain⟨a1,a2⟩:=pairwise_cons.mp ha;obtain⟨e,e1,e2,e3,e4⟩:=qw (i:=j) (r:=r) (fun k hk=>h k (mem_cons_of_mem _ hk)) p2 a2;have hij:=p1 j (mem_cons_self ..);have nij:=a1 j (mem_cons_self ..);obtain⟨i0,iS⟩:=h i (mem_cons_self ..);obtain⟨j0,jS⟩:=h j (mem_cons_of_mem _ (mem_cons_self ..));obtain⟨iL,iE⟩:=of_decide_eq_true iS;obtain⟨jL,jE⟩:=of_decide_eq_true jS;obtain⟨k1,k2,k3⟩:=iW i0 j0
  generalize hwi:pw ws i=wi at *;generalize hwj:pw ws j=wj at *
  have hend:P i+wi.length<P j+wj.length:=by
   rcases lt_or_ge (P i+wi.length) (P j+wj.length) with z|z
   .exact z
   .refine absurd ?_ nij
    have e:wj=((wi.drop (P j - P i)).take wj.length):=by
     conv=>rhs;rw [<- iE]
     rw [drop_take,drop_drop,show P i+(P j - P i)=P j by omega,take_take,show min wj.length (wi.length - (P j - P i))=wj.length by omega,jE]
    rw [e];exact (take_prefix _ _).isInfix.trans (drop_suffix _ _).isInfix
  have hgl:glT ws i (j::r)=wj.drop (dS wi wj)++glT ws j r:=by show (pw ws j).drop (dS (pw ws i) (pw ws j))++_=_;rw [hwi,hwj]
  have hk:P i+wi.length - P j<=dS wi wj:=by
   rcases eq_zero_or_pos (P i+wi.length - P j) with z|z
   .omega
   .refine k3 _ (by omega) ?_;refine⟨wi.take (wi.length - (P i+wi.length - P j)),?_⟩
    have e:wj.take (P i+wi.length - P j)=wi.drop (wi.length - (P i+wi.length - P j)):=by
     conv=>lhs;rw [<- jE]
     conv=>rhs;rw [<- iE]
     rw [take_take,drop_take,drop_drop]
     congr 1
     .rw [length_take,length_drop];omega
     .congr 1;rw [length_take,length_drop];omega
    rw [e,take_append_drop]
  refine⟨e,e1,by omega,?_,fun he=>?_⟩
  .rw [hgl,length_append,length_drop];omega
  .rw [hgl,length_append,length_drop] at he;have o1:P j<=P i+wi.length:=by omega
   have o2:dS wi wj=P i+wi.length - P j:=by omega
   rw [hgl,e4 (by omega),<- xa (t:=t) (a:=P i+wi.length) (b:=P j+wj.length) (c:=e) (by omega) (by omega)];congr 1;rw [o2]
   conv=>lhs;rw [<- jE]
   rw [drop_take,drop_drop,show P j+(P i+wi.length - P j)=P i+wi.length by omega];congr 1;omega
theorem xb{ws:List (List Nat)}{t:List Nat}{P:Nat->Nat}{js:List Nat}(h:∀j∈js,0<(pw ws j).length/\stA t (pw ws j) (P j)=true)(hp:js.Pairwise (fun a b=>P a<P b))(ha:js.Pairwise (fun a b=>¬ pw ws b <:+: pw ws a)) :
  (glN ws js).length<=t.length/\((glN ws js).length=t.length->glN ws js=t):=by
 cases js with
 | nil=>exact⟨zero_le _,fun e=>(length_eq_zero_iff.mp e.symm).symm⟩
 | cons i r =>
  obtain⟨e,e1,e2,e3,e4⟩:=qw h hp ha;obtain⟨iL,iE⟩:=of_decide_eq_true (h i (mem_cons_self ..)).2;have hg:glN ws (i::r)=pw ws i++glT ws i r:=rfl;rw [hg,length_append];refine⟨by omega,fun z=>?_⟩;have p0:P i=0:=by omega
  rw [e4 (by omega)];have el:e=t.length:=by omega
  rw [p0,drop_zero] at iE;rw [el,p0,Nat.zero_add];have:=xa (t:=t) (a:=0) (b:=(pw ws i).length) (c:=t.length) (zero_le _) (by omega);rw [drop_zero,Nat.sub_zero,Nat.sub_zero,take_length,iE] at this;exact this
theorem xc{a b:List Nat}(h:a <:+: b):a.length<=b.length:=h.length_le
theorem uR{ps:List (List Nat)}{a b:Nat}(ha:a<ps.length)(hb:b<ps.length)(ka:dG ps a=true)(kb:dG ps b=true)(h:a≠b):¬ pw ps a <:+: pw ps b:=fun hi=>by
 obtain⟨a1,a2⟩:=oK.mp ka;obtain⟨b1,b2⟩:=oK.mp kb
 rcases lt_or_ge (pw ps a).length (pw ps b).length with z|z
 .have:=a2 _ (dD hb) z;rw [gT.mpr hi] at this;cases this
 .have e:pw ps a=pw ps b:=hi.eq_of_length (by have:=xc hi;omega)
  have mem:∀{x y:Nat},x<y->y<ps.length->pw ps x=pw ps y->pw ps y∈ps.take y:=fun {x y} h1 h2 h3=>by
   rw [<- h3];refine mem_of_getElem? (i:=x) ?_;rw [getElem?_take,if_pos h1];exact dQ (by omega)
  rcases lt_or_ge a b with z|z
  .exact b1 (mem z hb e)
  .exact a1 (mem (by omega) ha e.symm)
theorem tV{ps:List (List Nat)}{i:Nat}(h:i<(ah ps).length):∃k,(aQ ps)[i]?=some k/\pw (ah ps) i=pw ps k/\k<ps.length/\dG ps k=true:=by
 have hk:i<(aQ ps).length:=by unfold ah at h;rwa [length_map] at h
 have hm:=getElem_mem hk;refine⟨(aQ ps)[i],getElem?_eq_getElem hk,?_,eN hm,(mem_filter.mp hm).2⟩;unfold ah pw;rw [getD_eq_getElem?_getD,getElem?_map,getElem?_eq_getElem hk];rfl
theorem jJ{ps:List (List Nat)}{i j:Nat}(hi:i<(ah ps).length)(hj:j<(ah ps).length)(h:i≠j):¬ pw (ah ps) i <:+: pw (ah ps) j:=by
 obtain⟨a,a1,a2,a3,a4⟩:=tV hi;obtain⟨b,b1,b2,b3,b4⟩:=tV hj;rw [a2,b2];refine uR a3 b3 a4 b4 fun e=>h ?_;subst e;have nd:(aQ ps).Nodup:=(ke ps).imp fun h=>ne_of_lt h;have l1:=(List.getElem?_eq_some_iff.mp a1).1;exact (getElem?_inj l1 nd).mp (a1.trans b1.symm)
theorem tW{ps:List (List Nat)}{t:List Nat}(hw:∀w∈ps,w.length<=60)(h:∀w∈ah ps,w <:+: t){p:List Nat}(hp:p∈ps):p <:+: t:=by
 obtain⟨i,hi,rfl⟩:=getElem_of_mem hp;have e:pw ps i=ps[i]:=Option.some.inj ((dQ hi).symm.trans (getElem?_eq_getElem hi));obtain⟨j,j1,j2,j3⟩:=qo hw _ i hi (Nat.le_refl _);rw [e] at j3;exact (gT.mp j3).trans (h _ (mem_map.mpr ⟨j,mem_filter.mpr ⟨mem_range.mpr j1,j2⟩,rfl⟩))
theorem GD{α β:Type}(f:α->β)(xs:List α):eV (xs.map f) (some 1) none=(xs.tail).map f:=by
 rw [show (1:Int)=((1:Nat):Int) from rfl,fE,<- map_drop,drop_one]
theorem cm2{α:Type}{e:α->D}{xs:List α}{ix:List (Option Nat)}{ρ1:PSt}{g:PTG}{pe:PTE}{Q:PKt}(f:α->D)
  (hs:∀x∈xs,∀(v w:Option PV) (K1:D->PSt->Prop),(∀v' w',K1 (f x) (v'::w'::(bX ix ρ1).tail.tail))->g (.dat (e x)) (v::w::(bX ix ρ1).tail.tail) fun τ2=>pe τ2 fun p τ4=>K1 p.d τ4)
  (hq:∀v w:Option PV,Q (.own (xs.map f)) (fH ix ρ1 (v::w::(bX ix ρ1).tail.tail))) (hx:bX ix ρ1=none::none::(bX ix ρ1).tail.tail:=by rfl):lw ix ρ1 (xs.map e).length (itD (xs.map e)) g jy pe Q:=by
 refine D1 (fun τ=>∃v w,τ=v::w::(bX ix ρ1).tail.tail) f ⟨none,none,hx⟩ ?_ ?_
 .rintro x hx τ ⟨v,w,rfl⟩ K1 k1;exact hs x hx v w K1 fun v' w'=>k1 _ ⟨v',w',rfl⟩
 .rintro τ ⟨v,w,rfl⟩;exact hq v w
theorem xf(a b:List Nat):(!(Builtin.Str.occurrences (S b) (S a) 0 (S b).length 1).isEmpty)=eC a b:=by
 have e:=vW b a 0;unfold eC;rw [<- e]
 cases Builtin.Str.occurrences (S b) (S a) 0 (S b).length 1 with
 | nil=>rfl
 | cons k r=>exact (decide_eq_true (by omega:(0:Int)<=(k:Int))).symm
section
variable {X:Cx}{K:PySem.W.Frag}
def Fz(neg:Bool):R2:=fun x y H Q=>∃a b,x=.str (S a)/\y=.str (S b)/\Q (.bl (if neg then !eC a b else eC a b)) H
theorem D2:OpR X (compareOp .In) (Fz false):=by
 intro pins s σ H x y v u Q I rx ry h;obtain⟨a,b,rfl,rfl,q⟩:=h;obtain⟨t,rfl⟩:=rx;obtain⟨t',rfl⟩:=ry;exact P.in_str ⟨.bl _,H,I,rfl,by rw [xf];exact q⟩
theorem xg:OpR X (compareOp .NotIn) (Fz true):=by
 intro pins s σ H x y v u Q I rx ry h;obtain⟨a,b,rfl,rfl,q⟩:=h;obtain⟨t,rfl⟩:=rx;obtain⟨t',rfl⟩:=ry;exact P.notIn_str ⟨.bl _,H,I,rfl,by rw [xf];exact q⟩
def Ce(K:PySem.W.Frag)(neg:Bool):R2:=fun x y H Q=>rIn K neg x y H Q\/Fz neg x y H Q
theorem FA(K:PySem.W.Frag)(e:X.K=K):OpR X (compareOp .In) (Ce K false):=OpR.or (Gz K e) D2
theorem kS(K:PySem.W.Frag)(e:X.K=K):OpR X (compareOp .NotIn) (Ce K true):=OpR.or (A2 K e) xg
def Bu(neg:Bool):F2
 | .str a,.str b,Q=>Q (.dat (.bl (if neg then !eC a b else eC a b)))
 | a,.lst ds,Q=>(a.fl=true/\ds.all D.fl=true)/\Q (.dat (.bl (if neg then !inD a ds else inD a ds)))
 | a,.tup ds,Q=>(a.fl=true/\ds.all D.fl=true)/\Q (.dat (.bl (if neg then !inD a ds else inD a ds)))
 | _,_,_=>False
theorem qx{neg:Bool}:LO K (Ce K neg) (Bu neg):=by
 intro O H x y a b Q Q' dom fx fy q k;unfold Bu at q
 split at q
 .obtain⟨rfl,_⟩:=fx.str;obtain⟨rfl,_⟩:=fy.str;exact .inr ⟨_,_,rfl,rfl,k _ H _ q (Gr.refl _) (.bl _)⟩
 .exact .inl (Dz O H x y _ _ Q Q' dom fx fy q k)
 .exact .inl (Dz O H x y _ _ Q Q' dom fx fy q k)
 .exact q.elim
end
abbrev Cf:List Nat:=[97,98,99,100,101,102,103,104,105,106,107,108,109,110,111,112,113,114,115,116,117,118,119,120,121,122]
theorem yU:Lts Cf:=oI.mp (by decide)
theorem Bv{js:List Nat}{n:Nat}(h:js.Perm (List.range n)):js.length=n:=by rw [h.length_eq,length_range]
theorem D3{ws:List (List Nat)}{m:Nat}(hw:∀j,(pw ws j).length<=m):∀js:List Nat,(glN ws js).length<=js.length*m:=by
 have go:∀(r:List Nat) (i:Nat),(glT ws i r).length<=r.length*m:=fun r=>by
  induction r with
  | nil=>intro i;exact zero_le _
  | cons j r ih =>
   intro i;show ((pw ws j).drop _++glT ws j r).length<=_;rw [length_append,length_drop,length_cons,succ_mul];have:=ih j;have:=hw j;omega
 intro js
 cases js with
 | nil=>exact zero_le _
 | cons j r =>
  show (pw ws j++glT ws j r).length<=_;rw [length_append,length_cons,succ_mul];have:=go r j;have:=hw j;omega
theorem Bw{ws:List (List Nat)}{m:Nat}(hw:∀w∈ws,w.length<=m)(j:Nat):(pw ws j).length<=m:=by
 by_cases h:j<ws.length
 .exact hw _ (dD h)
 .unfold pw;rw [getD_eq_getElem?_getD,getElem?_eq_none (by omega)];exact zero_le _
theorem D4{t a b:List Nat}(ha:a <:+: t)(hb:b <:+: t)(h1:¬ a <:+: b)(h2:¬ b <:+: a):fnd t a 0≠fnd t b 0:=fun e=>by
 have f:∀w:List Nat,w <:+: t->∃k:Nat,fnd t w 0=(k:Int)/\stA t w k=true:=fun w hw=>by
  obtain⟨k,e,_,h,_⟩:=kP (a:=t) (b:=w) (lo:=0) fun z=>by have:=wX.mp (gT.mpr hw);omega
  exact⟨k,e,h⟩
 obtain⟨k,k1,k2⟩:=f a ha;obtain⟨l,l1,l2⟩:=f b hb;have e:k=l:=by omega
 subst e;obtain⟨_,ea⟩:=of_decide_eq_true k2;obtain⟨_,eb⟩:=of_decide_eq_true l2
 rcases Nat.le_total a.length b.length with z|z
 .refine h1 ?_;have:a=b.take a.length:=by rw [<- eb,take_take,show min a.length b.length=a.length by omega,ea]
  rw [this];exact (take_prefix _ _).isInfix
 .refine h2 ?_;have:b=a.take b.length:=by rw [<- ea,take_take,show min b.length a.length=b.length by omega,eb]
  rw [this];exact (take_prefix _ _).isInfix
theorem Bx{ps:List (List Nat)}{t:List Nat}(hp:Pcs 60 ps)(hin:∀w∈ah ps,w <:+: t){js:List Nat}(h1:js.Perm (List.range (ah ps).length))(h2:js.Pairwise (fun a b=>fnd t (pw (ah ps) a) 0<fnd t (pw (ah ps) b) 0)) :
  (glN (ah ps) js).length<=t.length/\((glN (ah ps) js).length=t.length->glN (ah ps) js=t)/\(∀w∈ah ps,w <:+: glN (ah ps) js)/\((glN (ah ps) js).length:Int)=fV ps - (wY (ah ps) js:Int):=by
 have hlt:∀j∈js,j<(ah ps).length:=fun j hj=>mem_range.mp (h1.mem_iff.mp hj);have hpos:∀j∈js,0<(pw (ah ps) j).length:=fun j hj=>(dE hp _ (dD (hlt j hj))).1
 have pl:∀j∈js,fnd t (pw (ah ps) j) 0=((fnd t (pw (ah ps) j) 0).toNat:Int)/\stA t (pw (ah ps) j) (fnd t (pw (ah ps) j) 0).toNat=true:=fun j hj=>by
  have h0:=wX.mp (gT.mpr (hin _ (dD (hlt j hj))));obtain⟨k,e,_,h,_⟩:=kP (a:=t) (b:=pw (ah ps) j) (lo:=0) fun z=>by omega
  rw [e,toNat_natCast];exact⟨rfl,h⟩
 have nd:js.Nodup:=h1.nodup_iff.mpr nodup_range;have ap:js.Pairwise (fun a b=>¬ pw (ah ps) b <:+: pw (ah ps) a):=nd.imp_of_mem fun {a b} ma mb ne=>jJ (hlt b mb) (hlt a ma) (Ne.symm ne)
 obtain⟨s1,s2⟩:=xb (P:=fun j=>(fnd t (pw (ah ps) j) 0).toNat) (fun j hj=>⟨hpos j hj,(pl j hj).2⟩) (h2.imp_of_mem fun {a b} ma mb h=>by
  have e1:=(pl a ma).1;have e2:=(pl b mb).1;show (fnd t (pw (ah ps) a) 0).toNat<(fnd t (pw (ah ps) b) 0).toNat;omega) ap
 refine⟨s1,s2,fun w hw=>?_,?_⟩
 .obtain⟨j,hj,rfl⟩:=getElem_of_mem hw;rw [show (ah ps)[j]=pw (ah ps) j from Option.some.inj ((getElem?_eq_getElem hj).symm.trans (dQ hj))];exact zQ hpos (h1.mem_iff.mpr (mem_range.mpr hj))
 .have e:=w9 hpos;have e2:(js.map fun j=>(pw (ah ps) j).length).sum=((List.range (ah ps).length).map fun j=>(pw (ah ps) j).length).sum:=(h1.map _).sum_nat
  have e3:(List.range (ah ps).length).map (fun j=>(pw (ah ps) j).length)=(ah ps).map List.length:=by
   conv=>rhs;rw [<- nk (ah ps),map_map]
   rfl
  have e4:∀l:List (List Nat),(l.map fun w=>(w.length:Int)).sum=((l.map List.length).sum:Int):=fun l=>by
   induction l with
   | nil=>rfl
   | cons a r ih=>rw [map_cons,sum_cons,ih,map_cons,sum_cons];omega
  unfold fV;rw [e4,<- e3,<- e2,<- e];omega
section
variable {X:Cx}{K:PySem.W.Frag}{ta te:TE}{pa:PA1}{pe:PTE}
def lF(n:Int):Nat:=if n == 0 then 0 else n.natAbs.log2+1
def By:V->List V->Hp->VK->Prop:=fun x xs H Q=>∃n,x=.int n/\xs=[]/\Q (.int (lF n:Nat)) H
theorem Bz:MtR X "int.bit_length" By:=by
 intro pins s σ H x xs v us Q I rx rs h;obtain⟨n,rfl,rfl,q⟩:=h;obtain⟨t,rfl⟩:=rx;have hus:=rs.zero;subst hus;exact call_gives F.slot_int_bit_length (typeIs_int s n t) F.entry_int_bit_length (F.args_int_bit_length_1 _) (AutoIntG2.int_bit_length_int_0 n t) ⟨.int _,H,I.tok _,⟨_,rfl⟩,q⟩
def BA(pe:PTE):PTE:=fun ρ Q=>pe ρ fun p ρ1=>match p with
 | .dat (.int n)=>Q (.dat (.int (lF n:Nat))) ρ1
 | _=>False
theorem BB(he:LE K te pe):LE K (CW K "int" By te) (BA pe):=fun A ρ σ H Q Q' R q k=>he A ρ σ H _ _ R q fun v H1 p ρ1 q1 f1 o1=>by
 unfold BA at *
 split at q1
 .obtain⟨R1,fv⟩:=o1;cases fv;exact⟨rfl,_,rfl,rfl,k _ H1 _ ρ1 q1 f1 ⟨R1,.int _⟩⟩
 .exact q1.elim
theorem BC{o:Expr}{to:TE}{name:Str}{apos cpos:Pos}{T id:String}{r:V->List V->Hp->VK->Prop}(K:PySem.W.Frag)(eK:X.K=K)(pa:PlainAttrs T)(slot:Slot T name id)(hty:typeOf (.builtin id)=pure (.type "method_descriptor"))(hm:MtR X id r)(ho:PE X o to)
  (hbase:attributeBase o name X.env (eval o X.env)=eval o X.env:=by rfl) (hline:(apos.endLine == cpos.line)=true:=by rfl):PE X (.Call (.Attribute o name apos) [] [] cpos) (CW K T r to):=eK ▸ zy pa slot hty hm ho hbase hline
end
section
variable {X:Cx}{K:PySem.W.Frag}
def zR(K:PySem.W.Frag):R2:=fun x y H Q=>∃a b ys,x=.ref a/\y=.ref b/\SqT K H a []/\SqT K H b ys/\Q (.ref b) H
theorem yV:OpR X (binaryOp .Add) (zR X.K):=by
 intro pins s σ H x y v u Q I rx ry h;obtain⟨a,b,ys,rfl,rfl,ha,hb,q⟩:=h;cases rx;cases ry;obtain⟨its,r1,p1,_⟩:=I.tuple ha;obtain⟨its2,r2,p2,_⟩:=I.tuple hb;have e0:its=[]:=r1.nil_iff.mpr rfl;subst e0;obtain⟨⟨cls,dd,data,sl⟩,ho,hc,n,hd⟩:=id p1;obtain⟨⟨cls2,dd2,data2,sl2⟩,ho2,hc2,n2,hd2⟩:=id p2;simp only at hc hd hc2 hd2;subst hc hd hc2 hd2;exact concat_meets ⟨_,ho,rfl⟩ ⟨_,ho2,rfl⟩ noFill_tuple_add seq_tuple_add PySem.F.slot_tuple_add PySem.F.entry_tuple_add (PySem.F.args_tuple_add_2 _ _) (tuple_addW0 a b _ _ n n2 dd dd2 sl sl2 rfl) ⟨ho,ho2,.ref b,H,I,rfl,q⟩
def mG(K:PySem.W.Frag):R2:=fun x y H Q=>A0 K x y H Q\/zR K x y H Q
theorem ba(K:PySem.W.Frag)(e:X.K=K):OpR X (binaryOp .Add) (mG K):=OpR.or (E9 K e) (by subst e;exact yV)
def bP:F2
 | .tup a,.tup b,Q=>a.length+b.length<=1000000/\Q (.dat (.tup (a++b)))
 | a,b,Q=>Fa a b Q
theorem aL:LO K (mG K) bP:=by
 intro O H x y a b Q Q' dom fx fy q k;unfold bP at q
 split at q
 .rename_i Q ds es
  cases ds with
  | cons d ds=>exact .inl (zE O H x y _ _ _ Q' dom fx fy ⟨nofun,q⟩ k)
  | nil =>
   obtain⟨p1,xs1,rfl,n1,e1,f1⟩:=fx.tup;obtain⟨p2,xs2,rfl,n2,e2,f2⟩:=fy.tup;cases f1;exact .inr ⟨p1,p2,xs2,rfl,rfl,SqT.of e1,SqT.of e2,k _ H _ q.2 (Gr.refl _) (.tup n2 e2 f2)⟩
 .exact .inl (zE O H x y _ _ _ Q' dom fx fy q k)
end
section
variable {X:Cx}
def Gh:Expr->Bool
 | .ListComp ..|.SetComp ..|.DictComp ..=>false
 | _=>true
theorem xh{o i e:Expr}{p:Pos}{l:Nat}{env:Env}(h:Gh e=true):swapsWithSole [.Subscript o i p] e l env=pure false:=by
 show swapsWith e (some (.Subscript o i p)) l env=pure false;cases e <;> first|rfl|cases h
theorem rV{o i e:Expr}{p:Pos}{env:Env}:swappedStores [.Subscript o i p] e env=pure none:=rfl
theorem BD{o i e:Expr}{p:Pos}{te:TE}{g:TG}{pos:Pos}(he:PE X e te)(hg:PG X (.Subscript o i p) g)(hn:Gh e=true:=by rfl):PS X (.Assign [.Subscript o i p] e pos) (B7 te g) :=
 zp he hg (xh hn) rV rfl
end
def ik(K:PySem.W.Frag)(x:Str)(st:Stmt):Prop:=∃(f:Addr) (oc kV dc pm cd ct:Value) (od an:Option Addr) (sl:Array (Option Value)),PySem.W.nsIn K mainGlobals x=some (some (.ref f)) /\
 K.lookup f=some ⟨oc,od,.func (PySem.W.fnOf x x (dh st) (cB st) (ar st) .none kV dc pm an cd ct),sl⟩/\PySem.W.codeIn K cd x=true/\PySem.W.keepIn K (.ref f)=true
theorem D5{K:PySem.W.Frag}{x:Str}{st:Stmt}{f:Addr}{oc kV dc pm cd ct:Value}{od an:Option Addr}{sl:Array (Option Value)}(a:PySem.W.nsIn K mainGlobals x=some (some (.ref f)))(l:K.lookup f=some ⟨oc,od,.func (PySem.W.fnOf x x (dh st) (cB st) (ar st) .none kV dc pm an cd ct),sl⟩)
  (c:PySem.W.codeIn K cd x=true) (k:PySem.W.keepIn K (.ref f)=true):ik K x st:=⟨f,oc,kV,dc,pm,cd,ct,od,an,sl,a,l,c,k⟩
theorem bR{K:PySem.W.Frag}{h:Heap}{mg:Str->Option Value}{x:Str}{st:Stmt}(q:ik K x st)(X:K.In h)(G:h.Ns mainGlobals mg):cS K mg x st:=by
 obtain⟨f,oc,kV,dc,pm,cd,ct,od,an,sl,a,l,c,k⟩:=q;exact .mk' X G a l c k
section
variable {X:Cx}{K:PySem.W.Frag}
def D6(K:PySem.W.Frag)(te ts:TE):TE:=fun σ H Q=>te σ H fun x H1=>ts σ H1 fun y H2=>y=.int (-1)/\((∃l,x=.str (S l)/\l.length<=sizeLine/\Q (.str (S l.reverse)) H2)\/∃a xs,x=.ref a/\SqL K H2 a xs/\∀p,H2 p=none->Q (.ref p) (upd H2 p (.lst xs.reverse)))
theorem rW(K:PySem.W.Frag)(e0:X.K=K){e st:Expr}{te:TE}{ts:TE}{p2 pos:Pos}(he:PE X e te)(hst:PE X st ts) :
  PE X (.Subscript e (.Slice none none (some st) p2) pos) (D6 K te ts):=by
 subst e0;intro pins s σ H Q I h;refine Subscript_ (thn (he pins s σ H _ I h) fun v s1 ⟨x,H1,I1,r1,q1⟩=>?_);refine wpAny_Slice ?_;rw [evalPart_none];refine wpAny_pure (wpAny_pure ?_);rw [evalPart_some];refine thn (hst pins s1 σ H1 _ I1 q1) fun vs s2 ⟨y,H2,I2,r2,q2⟩=>?_;obtain⟨rfl,q2⟩:=q2;obtain⟨t',rfl⟩:=r2;have I3:Inv X pins σ H2 { s2 with heap:=s2.heap.push { cls:=.type "slice",data:=.fields #[.none,.none,.int (-1) t'] } }:=I2.kept (t':=s2.toks) fun b ob q=>Heap.get?_push_of_some _ q
 rcases q2 with ⟨l,rfl,hz,q⟩|⟨a,xs,rfl,hx,q⟩
 .obtain⟨t,rfl⟩:=r1;have hm:∀t2 k,EP X pins σ Q (.str (Txt.sliceBy (S l) none none (-1,t')) t2) { { s2 with heap:=s2.heap.push { cls:=.type "slice",data:=.fields #[.none,.none,.int (-1) t'] } } with toks:=k }:=fun t2 k=>⟨.str (S l.reverse),H2,I3.tok _,⟨t2,by rw [EV]⟩,q⟩
  refine tail_any (ops:=[.ref s2.heap.objs.size,.str (S l) t]) (typeIs_str _ _ t) slot_str_getitem.lookup (wpAny_getItem_str_slice (l:=none) (u:=none) (st:=some (-1,t')) ⟨_,Heap.get?_push_size _ rfl,rfl,rfl⟩ rfl ?_) (by with_unfolding_all rfl);exact post_val_or_str ⟨Nat.le_trans (Txt.sliceBy_le _ _ _ (-1,t') (by show (-1:Int)≠0;decide)) (by rw [fC];exact hz),hm⟩
 .cases r1;obtain⟨its,r,ht,hz⟩:=I3.list hx;have hlen:=r.length;refine tail_any (ops:=[.ref a,.ref s2.heap.objs.size]) ht.isList.typeIs slot_list_getitem.lookup (wpAny_getItem_list_slice ht.isList ⟨_,Heap.get?_push_size _ rfl,rfl,rfl⟩ .none .none (st:=some (-1)) (.int _ _) (by simp) ?_ (by rw [size_toArray] <;> omega)) (by first|with_unfolding_all rfl|rfl);rw [PySem.W.krv_pick];refine⟨.ref _,_,I3.laid (t':=s2.toks) (o:=.lst xs.reverse) (fun b ob q=>Heap.get?_push_of_some _ q) (Nat.le_refl _) ?_,rfl,q _ (I3.hok.fresh (Nat.le_refl _))⟩
  exact⟨by rw [length_reverse];exact hz,_,0,r.reverse,Heap.get?_push_size _ rfl⟩
end
section
variable {K:PySem.W.Frag}{ta tb:TE}{pa:PA1}{pe:PTE}
def yW(pa:PA1)(pe:PTE):PTE:=fun ρ Q=>pa ρ fun x ρ1=>pe ρ1 fun p ρ2=>match cont ρ2 x,p with
 | some (.str l),.dat (.int (-1))=>Q (.dat (.str l.reverse)) ρ2
 | some (.lst ds),.dat (.int (-1))=>Q (.own ds.reverse) ρ2
 | _,_=>False
theorem rX(ha:LA1 K ta pa)(hb:LE K tb pe):LE K (D6 K ta tb) (yW pa pe):=fun A ρ σ H Q Q' R q k =>
 ha A ρ σ H _ _ R q fun v H1 a ρ1 q1 f1 R1 o1=>hb A ρ1 σ H1 _ _ R1 q1 fun w H2 p ρ2 q2 f2 o2=>by
  split at q2
  .rename_i l e1;obtain⟨R2,fw⟩:=o2;cases fw;have fx:=R2.cont (o1.keeps f2.keeps) e1;exact⟨rfl,.inl ⟨l,fx.str.1,sz _ fx.str.2,k _ H2 _ ρ2 q2 (f1.trans f2) ⟨R2,.str _ (by rw [length_reverse];exact fx.str.2)⟩⟩⟩
  .rename_i ds e1;obtain⟨R2,fw⟩:=o2;cases fw;obtain⟨a,xs,rfl,e2,f3⟩:=(R2.cont (o1.keeps f2.keeps) e1).lst;exact⟨rfl,.inr ⟨a,xs,rfl,SqL.of e2,fun p hp=>k _ _ _ ρ2 q2 ((f1.trans f2).trans (Gr.new hp).fr) (((dR hp f3.reverse).out R2 (Gr.new hp)).h0 fun b z=>f2.dm b (f1.dm b z))⟩⟩
  .exact q2.elim
end
section
open PySem.AutoSeq1 (wpAny_loadPart')
open PySem.MeetsSeq PySem.MeetsSeq2 PySem.MeetsSeq3
variable {P:Program}{w:World}{A:Around}
end
def frzA(ρ:PSt):PSt:=ρ.map (Option.map fun p=>PV.dat p.d)
section
variable {K:PySem.W.Frag}{A:Addr->Prop}{ρ:PSt}{σ:St}{H H':Hp}{O O':Addr->Prop}
theorem oR{i:Nat}{p:PV}(e:(frzA ρ)[i]?=some (some p)):∃p0,ρ[i]?=some (some p0)/\p=.dat p0.d:=by
 unfold frzA at e;rw [getElem?_map] at e
 cases h:ρ[i]? with
 | none=>rw [h] at e;cases e
 | some o =>
  cases o with
  | none=>rw [h] at e;cases e
  | some p0=>rw [h] at e;cases e;exact⟨p0,rfl,rfl⟩
theorem oS{b:Addr}:¬ Wr (frzA ρ) σ b:=fun ⟨i,p,e,o,_⟩=>by
 obtain⟨p0,_,rfl⟩:=oR e;cases o
theorem Rel.frzA(R:Rel K A ρ σ H):Rel K A (frzA ρ) σ H:=by
 have k:bh (OO A ρ σ) H (OO A (L2.frzA ρ) σ) H:=bh.less fun b z=>z.elim .inl fun z=>(oS z).elim
 refine⟨by unfold L2.frzA;rw [length_map];exact R.len,fun i p e=>?_,fun i j p q v e1 e2 o1=>?_,R.dom,fun b _ w=>oS w⟩
 .obtain⟨p0,e0,rfl⟩:=oR e;obtain⟨v,s,r⟩:=R.get i p0 e0;refine⟨v,s,?_⟩
  have na:∀a,v=.ref a->p0.isOwn=true->¬ OO A (L2.frzA ρ) σ a:=fun a ea oo z=>by
   subst ea
   rcases z with z|z
   .exact R.sep a z ⟨i,p0,e0,oo,s⟩
   .exact oS z
  cases p0 with
  | dat d=>exact FV.keeps k r
  | own ds =>
   obtain⟨a,xs,rfl,g,f⟩:=r;exact .lst (na a rfl rfl) g (f.keeps k)
  | ins c ns ds =>
   obtain⟨a,dx,fs,rfl,g,m,f⟩:=r;exact .obj (na a rfl rfl) g m (f.keeps k)
 .obtain⟨p0,_,rfl⟩:=oR e1;cases o1
theorem FV.flat{v:V}{d:D}(h:FV K O H v d)(f:d.fl=true):FV K O' H' v d:=by
 cases h with
 | non=>exact .non
 | bl b=>exact .bl b
 | int i=>exact .int i
 | str l hl=>exact .str l hl
 | ty _=>cases f
 | scr _=>cases f
 | lst _ _ _=>cases f
 | tup _ _ _=>cases f
 | dic _ _ _ _=>cases f
 | obj _ _ _ _=>cases f
 | exc0 _ _=>cases f
 | exc1 _ _ _ _ _ _=>cases f
end
section
variable {K:PySem.W.Frag}{A O O':Addr->Prop}{fx:List (Nat×V)}{R:Addr->Prop}{H0 H0' H H':Hp}{ρ ρ':PSt}{σ:St}{x:Nat}{Da:Addr}{as:List Addr}{rows:List (List D)}
def cl(x:Nat)(ρ:PSt):Option (List (List D))->PSt
 | none=>ρ
 | some rows=>ρ.set x (some (.own (rows.map D.lst)))
theorem xi(x:Nat)(ρ:PSt):cl x ρ none=ρ:=rfl
theorem xj(x:Nat)(ρ:PSt)(rows:List (List D)):cl x ρ (some rows)=ρ.set x (some (.own (rows.map D.lst))):=rfl
end
section
variable {K:PySem.W.Frag}{A:Addr->Prop}{fx:List (Nat×V)}{R:Addr->Prop}{H0 H:Hp}{ρ:PSt}{σ:St}
def mvd(ρ:PSt)(g r:Nat)(ds:List D):PSt:=(ρ.set r (some (.own ds))).set g none
theorem zS(ρ:PSt)(g r:Nat)(ds:List D):mvd ρ g r ds=(ρ.set r (some (.own ds))).set g none:=rfl
end
section
variable {X:Cx}{K:PySem.W.Frag}
def tBI(t:TE):TT:=fun σ H Q=>t σ H fun x H1=>∃i,x=.int i/\Q (i != 0) H1
theorem D7{e:Expr}{t:TE}(h:PE X e t)(he:∀whole,isTrue e X.env whole=(do let v <- whole;standAt e.pos;holding [v] (truthy v)):=by intro _;rfl):PT X e (tBI t):=by
 intro pins s σ H Q I hw;refine isTrue_plain (thn (h pins s σ H _ I hw) fun v s1 ⟨x,H1,I1,r1,q1⟩=>?_) (he _);obtain⟨d,rfl,q⟩:=q1;obtain⟨t,rfl⟩:=r1;exact truthy_int ⟨H1,I1,q⟩
def pBI(pe:PTE):PTT:=fun ρ Q=>pe ρ fun p ρ1=>match p with
 | .dat (.int i)=>Q (i != 0) ρ1
 | _=>False
theorem FB{te:TE}{pe:PTE}(h:LE K te pe):LT K (tBI te) (pBI pe):=fun A ρ σ H Q Q' R q k=>h A ρ σ H _ _ R q fun v H1 p ρ1 q1 f1 o1=>by
 split at q1
 .rename_i b;obtain⟨R1,f⟩:=o1;cases f;exact⟨b,rfl,k _ H1 ρ1 q1 f1 R1⟩
 .exact q1.elim
def D8(pe:PTE):PTE:=fun ρ Q=>pe (frzA ρ) fun p _=>match p with
 | .dat d=>d.fl=true/\Q (.dat d) ρ
 | _=>False
theorem BE{te:TE}{pe:PTE}(h:LE K te pe):LE K te (D8 pe):=fun A ρ σ H Q Q' R q k=>h A _ σ H _ _ R.frzA q fun v H1 p ρ1 q1 f1 o1=>by
 split at q1
 .rename_i d;obtain⟨hf,q1⟩:=q1;have g:Gr H H1:=fun b o e=>f1.kp b o oS e;exact k v H1 _ ρ q1 g.fr ⟨R.gr g,FV.flat o1.2 hf⟩
 .exact q1.elim
end
def ahB(a b:List Nat):Bool:=if a.length≠b.length then decide (a.length<b.length) else decide (a<b)
theorem kf:∀a:List Nat,¬ a<a
 | []=>by simp
 | x::a=>by rw [cons_lt_cons_iff];exact fun z=>z.elim (fun h=>Nat.lt_irrefl _ h) fun h=>kf a h.2
theorem xk:∀a b:List Nat,a.length=b.length->a<b\/a=b\/b<a
 | [],[],_=>.inr (.inl rfl)
 | x::a,y::b,h=>by
  rw [cons_lt_cons_iff,cons_lt_cons_iff]
  rcases lt_trichotomy x y with c|c|c
  .exact .inl (.inl c)
  .subst c
   rcases xk a b (Nat.succ.inj h) with e|e|e
   .exact .inl (.inr ⟨rfl,e⟩)
   .exact .inr (.inl (by rw [e]))
   .exact .inr (.inr (.inr ⟨rfl,e⟩))
  .exact .inr (.inr (.inl c))
theorem oU:∀a b c:List Nat,a.length=b.length->b.length=c.length->a<b->b<c->a<c
 | [],[],_,_,_,h,_=>absurd h (kf [])
 | x::a,y::b,z::c,h1,h2,p,q=>by
  rw [cons_lt_cons_iff] at *
  rcases p with p|⟨p,p'⟩ <;> rcases q with q|⟨q,q'⟩
  .exact .inl (lt_trans p q)
  .exact .inl (q ▸ p)
  .exact .inl (p ▸ q)
  .exact .inr ⟨p.trans q,oU a b c (Nat.succ.inj h1) (Nat.succ.inj h2) p' q'⟩
theorem qy:∀u a b:List Nat,(u++a<u++b) ↔ a<b
 | [],_,_=>Iff.rfl
 | x::u,a,b=>by
  show x::(u++a)<x::(u++b) ↔ _;rw [cons_lt_cons_iff];exact⟨fun h=>h.elim (fun h=>absurd h (Nat.lt_irrefl _)) fun h=>(qy u a b).mp h.2,fun h=>.inr ⟨rfl,(qy u a b).mpr h⟩⟩
theorem jj{a b:List Nat}:ahB a b=false ↔ b.length<a.length\/(a.length=b.length/\¬ a<b):=by
 unfold ahB
 by_cases h:a.length=b.length
 .rw [if_neg (fun z=>z h),decide_eq_false_iff_not];exact⟨fun z=>.inr ⟨h,z⟩,fun z=>z.elim (fun z=>by omega) fun z=>z.2⟩
 .rw [if_pos h,decide_eq_false_iff_not];exact⟨fun z=>.inl (by omega),fun z=>z.elim (fun z=>by omega) fun z=>absurd z.1 h⟩
theorem nu(a:List Nat):ahB a a=false:=jj.mpr (.inr ⟨rfl,kf a⟩)
theorem xl{a b:List Nat}(h:ahB a b=false)(h':ahB b a=false):a=b:=by
 rw [jj] at h h'
 rcases h with h|⟨h,n⟩
 .rcases h' with h'|⟨h',_⟩ <;> omega
 .rcases h' with h'|⟨h',n'⟩
  .omega
  .rcases xk a b h with e|e|e
   .exact absurd e n
   .exact e
   .exact absurd e n'
theorem kT{a b c:List Nat}(h:ahB a b=false)(h':ahB b c=false):ahB a c=false:=by
 rw [jj] at *
 rcases h with h|⟨h,n⟩
 .left;rcases h' with h'|⟨h',_⟩ <;> omega
 .rcases h' with h'|⟨h',n'⟩
  .left;omega
  .refine .inr ⟨h.trans h',fun z=>?_⟩
   rcases xk a b h with e|e|e
   .exact n e
   .exact n' (e ▸ z)
   .exact n' (oU b a c h.symm (h.trans h') e z)
theorem FC{a b:List Nat}(h:ahB a b=true):ahB b a=false:=by
 rw [jj];unfold ahB at h
 by_cases e:a.length=b.length
 .rw [if_neg (fun z=>z e),decide_eq_true_eq] at h;exact .inr ⟨e.symm,fun z=>kf a (oU a b a e e.symm h z)⟩
 .rw [if_pos e,decide_eq_true_eq] at h;exact .inl h
theorem D9(u a b:List Nat):ahB (u++a) (u++b)=ahB a b:=by
 unfold ahB;rw [length_append,length_append]
 by_cases h:a.length=b.length
 .rw [if_neg (by omega),if_neg (by omega)];exact decide_eq_decide.mpr (qy u a b)
 .rw [if_pos (by omega),if_pos (by omega)];exact decide_eq_decide.mpr (by omega)
theorem Ea{a b:List Nat}(h:ahB a b=false):b.length<=a.length:=by
 rw [jj] at h;omega
def Lst(S:List Nat->Prop)(t:List Nat):Prop:=S t/\∀u,S u->ahB u t=false
theorem Lst.uniq{S:List Nat->Prop}{t u:List Nat}(h:Lst S t)(h':Lst S u):t=u:=xl (h'.2 t h.1) (h.2 u h'.1)
theorem Lst.congr{S S':List Nat->Prop}{t:List Nat}(h:Lst S t)(e:∀u,S u ↔ S' u):Lst S' t:=⟨(e t).mp h.1,fun u hu=>h.2 u ((e u).mpr hu)⟩
theorem rY(t:List Nat):Lst (·∈[t]) t:=⟨mem_singleton.mpr rfl,fun u hu=>by rw [mem_singleton.mp hu];exact nu t⟩
theorem tX{ts:List (List Nat)}{b t:List Nat}(h:Lst (·∈ts) b):Lst (·∈ts++[t]) (if ahB t b=true then t else b):=by
 by_cases c:ahB t b=true
 .rw [if_pos c];refine⟨mem_append_right _ (mem_singleton.mpr rfl),fun u hu=>?_⟩
  rcases mem_append.mp hu with h'|h'
  .exact kT (h.2 u h') (FC c)
  .rw [mem_singleton.mp h'];exact nu t
 .rw [if_neg c];refine⟨mem_append_left _ h.1,fun u hu=>?_⟩
  rcases mem_append.mp hu with h'|h'
  .exact h.2 u h'
  .rw [mem_singleton.mp h'];exact not_eq_true _ ▸ c
theorem zT:∀{ts:List (List Nat)},ts≠[]->∃t,Lst (·∈ts) t:=fun {ts}=>by
 induction ts using oQ with
 | h0=>exact fun h=>absurd rfl h
 | h1 l a ih =>
  intro _
  by_cases c:l=[]
  .rw [c];exact⟨a,rY a⟩
  .obtain⟨t,ht⟩:=ih c;exact⟨_,tX ht⟩
inductive Way (L:List (List (Nat×Nat))):Nat->List Nat->Prop
 | nil {n:Nat}:L.getD n []=[]->Way L n []
 | cons {n j r:Nat}{js:List Nat}:(j,r)∈L.getD n []->Way L r js->Way L n (j::js)
def tlG(hd:Nat->Nat->List Nat)(ls:Nat->List Nat):Nat->List Nat->List Nat
 | i,[]=>ls i
 | i,j::r=>hd i j++tlG hd ls j r
def Cg(L:List (List (Nat×Nat)))(hd:Nat->Nat->List Nat)(ls:Nat->List Nat)(n i:Nat)(t:List Nat):Prop:=∃js,Way L n js/\t=tlG hd ls i js
theorem BF{L:List (List (Nat×Nat))}{hd:Nat->Nat->List Nat}{ls:Nat->List Nat}{n i:Nat}(h:L.getD n []=[]):Lst (Cg L hd ls n i) (ls i):=⟨⟨[],.nil h,rfl⟩,fun u ⟨js,w,e⟩=>by
 cases w with
 | nil _=>rw [e];exact nu _
 | cons m _=>rw [h] at m;cases m⟩
theorem yX{L:List (List (Nat×Nat))}{hd:Nat->Nat->List Nat}{ls:Nat->List Nat}{n i:Nat}{E:Nat->Nat->List Nat}(hn:L.getD n []≠[])(hE:∀p∈L.getD n [],Lst (Cg L hd ls p.2 p.1) (E p.2 p.1)){t:List Nat}(h:Lst (·∈(L.getD n []).map fun p=>hd i p.1++E p.2 p.1) t):Lst (Cg L hd ls n i) t:=by
 obtain⟨hm,hl⟩:=h;obtain⟨p,hp,rfl⟩:=mem_map.mp hm;obtain⟨js,w,e⟩:=(hE p hp).1;refine⟨⟨p.1::js,.cons hp w,by rw [e];rfl⟩,fun u ⟨js',w',e'⟩=>?_⟩
 cases w' with
 | nil z=>exact absurd z hn
 | @cons _ j r js'' m w'' =>
  have h1:=(hE (j,r) m).2 _ ⟨js'',w'',rfl⟩;rw [e'];refine kT (b:=hd i j++E r j) ?_ (hl _ (mem_map.mpr ⟨(j,r),m,rfl⟩));show ahB (hd i j++_) _=false;rw [D9];exact h1
theorem BG{L:List (List (Nat×Nat))}{hd:Nat->Nat->List Nat}{ls:Nat->List Nat}{n:Nat}{E:Nat->Nat->List Nat}(hn:L.getD n []≠[])(hE:∀p∈L.getD n [],Lst (Cg L hd ls p.2 p.1) (E p.2 p.1)){t:List Nat}(h:Lst (·∈(L.getD n []).map fun p=>E p.2 p.1) t):Lst (fun u=>∃j js,Way L n (j::js)/\u=tlG hd ls j js) t:=by
 obtain⟨hm,hl⟩:=h;obtain⟨p,hp,rfl⟩:=mem_map.mp hm;obtain⟨js,w,e⟩:=(hE p hp).1;refine⟨⟨p.1,js,.cons hp w,e⟩,fun u ⟨j,js',w',e'⟩=>?_⟩
 cases w' with
 | @cons _ _ r _ m w''=>rw [e'];exact kT ((hE (j,r) m).2 _ ⟨js',w'',rfl⟩) (hl _ (mem_map.mpr ⟨(j,r),m,rfl⟩))
def hdW(ws:List (List Nat))(i j:Nat):List Nat:=(pw ws i).take ((pw ws i).length - dS (pw ws i) (pw ws j))
theorem BH{a b:List Nat}{k:Nat}(h:oM a b k):a=a.take (a.length - k)++b.take k:=by
 have h1:=h.1;obtain⟨u,e⟩:=h.2.1;have hl:(b.take k).length=k:=by rw [length_take];omega
 have:u=a.take (a.length - k):=by
  rw [<- e,length_append,hl,add_sub_cancel,take_left]
 rw [<- this,e]
theorem xm{ws:List (List Nat)}:∀(js:List Nat) (i:Nat),0<(pw ws i).length->(∀j∈js,0<(pw ws j).length)->tlG (hdW ws) (pw ws) i js=glN ws (i::js)
 | [],i,_,_=>by show pw ws i=pw ws i++_;rw [show glT ws i []=[] from rfl,append_nil]
 | j::r,i,hi,hj=>by
  have h0:=hj j mem_cons_self;have ih:=xm r j h0 fun k hk=>hj k (mem_cons_of_mem _ hk);have hs:=BH (iW hi h0);show hdW ws i j++tlG (hdW ws) (pw ws) j r=pw ws i++((pw ws j).drop (dS (pw ws i) (pw ws j))++glT ws j r)
  rw [ih];show _++(pw ws j++glT ws j r)=_;unfold hdW;generalize dS (pw ws i) (pw ws j)=k at hs ⊢;generalize hA:(pw ws i).take ((pw ws i).length - k)=A at hs ⊢;rw [hs,append_assoc,<- append_assoc (as:=(pw ws j).take _),take_append_drop]
theorem zU{L:List (List (Nat×Nat))}{w:Nat}(h:∀n,∀p∈L.getD n [],p.1<w){n:Nat}{js:List Nat}(hw:Way L n js):∀j∈js,j<w:=by
 induction hw with
 | nil _=>exact fun j hj=>nomatch hj
 | cons m _ ih=>exact fun j hj=>(mem_cons.mp hj).elim (fun e=>e ▸ h _ _ m) (ih j)
theorem BI{L:List (List (Nat×Nat))}(h:∀n,∀p∈L.getD n [],p.2<n){n:Nat}{js:List Nat}(hw:Way L n js):js.length<=n:=by
 induction hw with
 | nil _=>exact zero_le _
 | cons m _ ih=>have:=h _ _ m;show _+1<=_;omega
theorem xn{hd:Nat->Nat->List Nat}{ls:Nat->List Nat}{w m:Nat}(h1:∀i j,(hd i j).length<=m)(h2:∀i,(ls i).length<=m):∀(js:List Nat) (i:Nat),(tlG hd ls i js).length<=m*(js.length+1)
 | [],i=>by show (ls i).length<=m*1;rw [Nat.mul_one];exact h2 i
 | j::r,i=>by
  have:=xn h1 h2 (w:=w) r j;have:=h1 i j;show (hd i j++_).length<=m*(r.length+1+1);rw [length_append,mul_succ];omega
def jK(m:Nat):List Nat:=(List.range 12).filter m.testBit
theorem oV{m n i:Nat}(hm:m<2^n)(h:m.testBit i=true):i<n:=by
 rcases lt_or_ge i n with h2|h2
 .exact h2
 .rw [testBit_lt_two_pow (lt_of_lt_of_le hm (pow_le_pow_right (n:=2) (by decide) h2))] at h;cases h
theorem gU{m j:Nat}(hm:m<4096):j∈jK m ↔ m.testBit j=true:=by
 unfold jK;rw [mem_filter,mem_range];exact⟨fun h=>h.2,fun h=>⟨oV (n:=12) hm h,h⟩⟩
theorem gW{m i:Nat}(hm:m<4096)(h:m.testBit i=true):2^i<=m/\∀j,(m - 2^i).testBit j=(m.testBit j && decide (j≠i)):=by
 have ge:∀s:Nat,s.testBit i=true->2^i<=s:=fun s hs=>by
  rcases lt_or_ge s (2^i) with z|z
  .rw [testBit_lt_two_pow z] at hs;cases hs
  .exact z
 refine⟨ge m h,fun j=>?_⟩;obtain⟨q,s,hs,e⟩:∃q s,s<2^(i+1)/\m=2^(i+1)*q+s:=⟨m / 2^(i+1),m % 2^(i+1),mod_lt _ (pow_pos (by decide)),(div_add_mod m (2^(i+1))).symm⟩
 subst e
 have hsb:s.testBit i=true:=by
  rw [testBit_two_pow_mul_add _ hs,if_pos (by omega)] at h;exact h
 have h1:=ge s hsb;obtain⟨r,rfl⟩:∃r,s=2^i+r:=⟨s - 2^i,by omega⟩
 have hp:2^(i+1)=2^i+2^i:=by rw [pow_succ];omega
 have hr:r<2^i:=by omega
 rw [show 2^(i+1)*q+(2^i+r) - 2^i=2^(i+1)*q+r by omega,testBit_two_pow_mul_add _ (show r<2^(i+1) by omega),testBit_two_pow_mul_add _ hs]
 by_cases c:j<i+1
 .rw [if_pos c,if_pos c]
  rcases lt_or_ge j i with z|z
  .rw [testBit_two_pow_add_gt z];simp;omega
  .have:j=i:=by omega
   subst this;rw [testBit_lt_two_pow hr];simp
 .rw [if_neg c,if_neg c];simp;omega
def jM(n:Nat):List (List (Nat×Nat)):=(List.range (2^n)).map fun m=>(jK m).map fun i=>(i,m - 2^i)
theorem jk{n m:Nat}(h:m<2^n):(jM n).getD m []=(jK m).map fun i=>(i,m - 2^i):=by
 unfold jM;rw [getD_eq_getElem?_getD,getElem?_map,getElem?_range h];rfl
theorem oW{n m:Nat}(hn:n<=12){p:Nat×Nat}(h:p∈(jM n).getD m []):m<2^n/\p.1<n/\p.2<m/\m.testBit p.1=true/\p.2=m - 2^p.1:=by
 by_cases c:m<2^n
 .rw [jk c] at h;obtain⟨i,hi,rfl⟩:=mem_map.mp h;have h12:m<4096:=lt_of_lt_of_le c (pow_le_pow_right (n:=2) (by decide) hn);have hb:=(gU h12).mp hi;have:=(gW h12 hb).1;have h0:0<2^i:=pow_pos (by decide);exact⟨c,oV c hb,by show m - 2^i<m;omega,hb,rfl⟩
 .rw [getD_eq_getElem?_getD,getElem?_eq_none (by unfold jM;rw [length_map,length_range];omega)] at h;cases h
theorem oX{n:Nat}(hn:n<=12):∀(js:List Nat) (m:Nat),m<2^n->(Way (jM n) m js ↔ js.Nodup/\∀i,i∈js ↔ m.testBit i=true)
 | [],m,hm=>by
  have h12:m<4096:=lt_of_lt_of_le hm (pow_le_pow_right (n:=2) (by decide) hn)
  constructor
  .rintro (h|_);rw [jk hm] at h;have h:=map_eq_nil_iff.mp h;exact⟨nodup_nil,fun i=>⟨fun z=>(not_mem_nil z).elim,fun z=>by rw [<- gU h12,h] at z;cases z⟩⟩
  .rintro⟨_,h⟩;refine .nil ?_;rw [jk hm,map_eq_nil_iff];exact eq_nil_iff_forall_not_mem.mpr fun i hi=>nomatch (h i).mpr ((gU h12).mp hi)
 | j::r,m,hm=>by
  have h12:m<4096:=lt_of_lt_of_le hm (pow_le_pow_right (n:=2) (by decide) hn)
  constructor
  .intro h
   cases h with
   | @cons _ _ r' _ hc hw =>
    obtain⟨_,c2,c3,c4,c5⟩:=oW hn hc;have c4:m.testBit j=true:=c4;have c5:r'=m - 2^j:=c5;subst c5;obtain⟨nd,hi⟩:=(oX hn r _ (lt_trans c3 hm)).mp hw;have hb:=(gW h12 c4).2
    refine⟨nodup_cons.mpr ⟨fun z=>?_,nd⟩,fun i=>?_⟩
    .have:=(hi j).mp z;rw [hb,decide_eq_false (fun z=>z rfl),Bool.and_false] at this;cases this
    .rw [mem_cons,hi,hb]
     by_cases e:i=j
     .subst e;simp [c4]
     .simp [e]
  .rintro⟨nd,hi⟩;have c4:=(hi j).mp mem_cons_self;obtain⟨c1,hb⟩:=gW h12 c4;obtain⟨nj,nd⟩:=nodup_cons.mp nd
   refine .cons (r:=m - 2^j) ?_ ((oX hn r _ (lt_of_le_of_lt (sub_le _ _) hm)).mpr ⟨nd,fun i=>?_⟩)
   .rw [jk hm];exact mem_map.mpr ⟨j,(gU h12).mpr c4,rfl⟩
   .rw [hb,and_eq_true,decide_eq_true_eq,<- hi,mem_cons];refine⟨fun h=>⟨.inr h,fun e=>nj (e ▸ h)⟩,fun h=>h.1.elim (fun e=>absurd e h.2) id⟩
theorem tY{n:Nat}(hn:n<=12){js:List Nat}:Way (jM n) (2^n - 1) js ↔ js.Perm (List.range n):=by
 have h0:0<2^n:=pow_pos (by decide);rw [oX hn js _ (by omega)]
 constructor
 .rintro⟨nd,h⟩;refine (perm_ext_iff_of_nodup nd nodup_range).mpr fun i=>?_;rw [h,testBit_two_pow_sub_one,mem_range,decide_eq_true_eq]
 .intro h;refine⟨h.nodup_iff.mpr nodup_range,fun i=>?_⟩;rw [h.mem_iff,testBit_two_pow_sub_one,mem_range,decide_eq_true_eq]
def uS(ps:List (List Nat))(u:List Nat):Prop:=∀p∈ps,p <:+: u
def GlS(ws:List (List Nat))(u:List Nat):Prop:=∃js:List Nat,js.Perm (List.range ws.length)/\u=glN ws js
theorem rZ{ps:List (List Nat)}{u:List Nat}(hin:∀w∈ah ps,w <:+: u):∃js:List Nat,js.Perm (List.range (ah ps).length)/\js.Pairwise (fun a b=>fnd u (pw (ah ps) a) 0<fnd u (pw (ah ps) b) 0):=by
 let le:Nat->Nat->Bool:=fun a b=>decide (fnd u (pw (ah ps) a) 0<=fnd u (pw (ah ps) b) 0)
 have hp:=mergeSort_perm (List.range (ah ps).length) le
 have hs:((List.range (ah ps).length).mergeSort le).Pairwise (fun a b=>le a b=true):=pairwise_mergeSort (le:=le) (fun a b c h1 h2=>decide_eq_true (Int.le_trans (of_decide_eq_true h1) (of_decide_eq_true h2))) (fun a b=>by
  rcases Int.le_total (fnd u (pw (ah ps) a) 0) (fnd u (pw (ah ps) b) 0) with h|h
  .rw [show le a b=true from decide_eq_true h,Bool.true_or]
  .rw [show le b a=true from decide_eq_true h,Bool.or_true]) _
 have nd:=hp.nodup_iff.mpr nodup_range;refine⟨_,hp,(hs.and nd).imp_of_mem fun {a b} ma mb h=>?_⟩;have la:=mem_range.mp (hp.mem_iff.mp ma);have lb:=mem_range.mp (hp.mem_iff.mp mb);have h1:fnd u (pw (ah ps) a) 0<=fnd u (pw (ah ps) b) 0:=of_decide_eq_true h.1;have h2:=D4 (hin _ (dD la)) (hin _ (dD lb)) (jJ la lb h.2) (jJ lb la (Ne.symm h.2));omega
theorem oY{ps:List (List Nat)}(hp:Pcs 60 ps){js:List Nat}(h:js.Perm (List.range (ah ps).length)):uS ps (glN (ah ps) js):=fun p hpp=>by
 refine tW (fun w hw=>(hp w hw).2.1) (fun w hw=>?_) hpp;obtain⟨j,hj,rfl⟩:=getElem_of_mem hw;rw [show (ah ps)[j]=pw (ah ps) j from Option.some.inj ((getElem?_eq_getElem hj).symm.trans (dQ hj))];exact zQ (fun k hk=>(dE hp _ (dD (mem_range.mp (h.mem_iff.mp hk)))).1) (h.mem_iff.mpr (mem_range.mpr hj))
theorem yY{ps:List (List Nat)}{w:List Nat}(h:w∈ah ps):w∈ps:=by
 unfold ah at h;obtain⟨k,hk,rfl⟩:=mem_map.mp h;exact dD (eN hk)
theorem tZ{ps:List (List Nat)}(hp:Pcs 60 ps){u:List Nat}(h:uS ps u):∃js:List Nat,js.Perm (List.range (ah ps).length)/\ahB u (glN (ah ps) js)=false:=by
 have hin:∀w∈ah ps,w <:+: u:=fun w hw=>h w (yY hw);obtain⟨js,h1,h2⟩:=rZ hin;obtain⟨b1,b2,_,_⟩:=Bx hp hin h1 h2;refine⟨js,h1,?_⟩
 by_cases e:(glN (ah ps) js).length=u.length
 .rw [b2 e];exact nu u
 .rw [jj];left;omega
theorem yZ{ps:List (List Nat)}(hp:Pcs 60 ps){t:List Nat}(h:Lst (GlS (ah ps)) t):Lst (uS ps) t:=by
 obtain⟨⟨js,h1,e⟩,hl⟩:=h;refine⟨by rw [e];exact oY hp h1,fun u hu=>?_⟩;obtain⟨ks,k1,k2⟩:=tZ hp hu;exact kT k2 (hl _ ⟨ks,k1,rfl⟩)
theorem t6{ps:List (List Nat)}(hp:Pcs 60 ps){t:List Nat}(h:Lst (uS ps) t):Lst (GlS (ah ps)) t:=by
 obtain⟨ks,k1,k2⟩:=tZ hp h.1;have e:t=glN (ah ps) ks:=xl k2 (h.2 _ (oY hp k1));exact⟨⟨ks,k1,e⟩,fun u ⟨js,h1,e1⟩=>by rw [e1];exact h.2 _ (oY hp h1)⟩
section
variable {X:Cx}{K:PySem.W.Frag}{a b:Expr}{rest:List Expr}{ta tb:TE}{pe pe':PTE}
def tBL(K:PySem.W.Frag)(t:TE):TT:=fun σ H Q=>t σ H fun x H1=>∃k,Ev K x H1 k/\Q k H1
theorem BJ(K:PySem.W.Frag)(e:X.K=K)(ha:PE X a ta)(he:∀whole,isTrue a X.env whole=(do let v <- whole;standAt a.pos;holding [v] (truthy v)):=by intro _;rfl):PT X a (tBL K ta):=by
 subst e;exact xU ha he
def pBL(pe:PTE):PTT:=fun ρ Q=>pe ρ fun p ρ1=>match p.d with
 | .lst ds=>Q (!ds.isEmpty) ρ1
 | .tup ds=>Q (!ds.isEmpty) ρ1
 | _=>False
theorem FVs.emp{O:Addr->Prop}{H:Hp}{xs:List V}{ds:List D}(h:FVs K O H xs ds):(!xs.isEmpty)=!ds.isEmpty:=by cases h <;> rfl
theorem FD(h:LE K ta pe):LT K (tBL K ta) (pBL pe):=fun A ρ σ H Q Q' R q k=>h A ρ σ H _ _ R q fun v H1 p ρ1 q1 f1 o1=>by
 obtain⟨R1,f⟩:=o1.frz
 split at q1
 .rename_i ds e;rw [e] at f
  cases f with
  | lst na ea fa=>exact⟨!ds.isEmpty,.inl ⟨_,SqL.of ea,fa.emp.symm⟩,k _ H1 ρ1 q1 f1 R1⟩
 .rename_i ds e;rw [e] at f
  cases f with
  | tup na ea fa=>exact⟨!ds.isEmpty,.inr (.inl ⟨_,SqT.of ea,fa.emp.symm⟩),k _ H1 ρ1 q1 f1 R1⟩
 .exact q1.elim
def Gi(K:PySem.W.Frag)(ta tb:TE):TE:=fun σ H Q=>ta σ H fun x H1=>∃k,Ev K x H1 k/\if k=true then Q x H1 else tb σ H1 Q
theorem Eb(K:PySem.W.Frag)(e:X.K=K)(ha:PE X a ta)(hb:PE X (.BoolOp .Or (b::rest) pos) tb):PE X (.BoolOp .Or (a::b::rest) pos) (Gi K ta tb):=by
 subst e;intro pins s σ H Q I h;refine BoolOp_or (thn (ha pins s σ H _ I h) fun v s1 ⟨x,H1,I1,r1,q1⟩=>?_);obtain⟨k,hk,q1⟩:=q1;refine thn (zu pins s1 σ H1 x v (fun k' H'=>k'=k/\H'=H1) I1 r1 ⟨k,hk,rfl,rfl⟩) fun c s2 z=>?_;obtain⟨H2,I2,z1,z2⟩:=z;subst z1 z2
 cases c with
 | false=>exact hb pins s2 σ _ Q I2 q1
 | true=>exact⟨x,_,I2,r1,q1⟩
def Gj(a b:PTE):PTE:=fun ρ Q=>a ρ fun p ρ1=>match p.d with
 | .lst ds=>gL (!ds.isEmpty) (Q p ρ1) (b ρ1 Q)
 | .tup ds=>gL (!ds.isEmpty) (Q p ρ1) (b ρ1 Q)
 | _=>False
theorem Ec(ha:LE K ta pe)(hb:LE K tb pe'):LE K (Gi K ta tb) (Gj pe pe'):=fun A ρ σ H Q Q' R q k=>ha A ρ σ H _ _ R q fun v H1 p ρ1 q1 f1 o1=>by
 obtain⟨R1,f⟩:=o1.frz
 have fin:∀c:Bool,gL c (Q p ρ1) (pe' ρ1 Q)->(if c=true then Q' v H1 else tb σ H1 Q'):=fun c z=>by
  cases c with
  | false=>exact hb A ρ1 σ H1 _ _ R1 z fun b H2 p2 ρ2 q2 f2 o2=>k b H2 p2 ρ2 q2 (f1.trans f2) (o2.h0 fun b z=>f1.dm b z)
  | true=>exact k _ H1 _ ρ1 z f1 o1
 split at q1
 .rename_i ds e;rw [e] at f
  cases f with
  | lst na ea fa=>exact⟨!ds.isEmpty,.inl ⟨_,SqL.of ea,fa.emp.symm⟩,fin _ q1⟩
 .rename_i ds e;rw [e] at f
  cases f with
  | tup na ea fa=>exact⟨!ds.isEmpty,.inr (.inl ⟨_,SqT.of ea,fa.emp.symm⟩),fin _ q1⟩
 .exact q1.elim
end
theorem zV:∀a b:List Nat,Spec.ltCps a b=decide (a<b)
 | [],[]=>by rw [decide_eq_false (kf [])];rfl
 | [],y::b=>by rw [decide_eq_true (nil_lt_cons y b)];rfl
 | x::a,[]=>by rw [decide_eq_false (not_lt_nil (x::a))];rfl
 | x::a,y::b=>by
  show (decide (x<y) || x == y && Spec.ltCps a b)=_;rw [zV a b,Bool.eq_iff_iff,decide_eq_true_eq,cons_lt_cons_iff];simp
theorem qz:∀a b c:List Nat,¬ b<a->¬ c<b->¬ c<a
 | [],_,c,_,_=>not_lt_nil c
 | x::a,[],_,h,_=>absurd (nil_lt_cons x a) h
 | x::a,y::b,[],_,h=>absurd (nil_lt_cons y b) h
 | x::a,y::b,z::c,h1,h2=>by
  rw [cons_lt_cons_iff] at *;intro h;have h1':¬ y<x:=fun z=>h1 (.inl z);have h2':¬ z<y:=fun z=>h2 (.inl z)
  rcases h with h|⟨h,h'⟩
  .omega
  .have e:x=y:=by omega
   have e2:y=z:=by omega
   exact qz a b c (fun q=>h1 (.inr ⟨e.symm,q⟩)) (fun q=>h2 (.inr ⟨e2.symm,q⟩)) h'
theorem qA:∀(p:Str) (l:List Str),risingS p l=true->(∀x∈l,¬ x.cps.toList<p.cps.toList)/\l.Pairwise fun a b=>¬ b.cps.toList<a.cps.toList
 | p,[],_=>⟨fun x hx=>(not_mem_nil hx).elim,.nil⟩
 | p,x::r,h=>by
  have h:(!Spec.ltCps x.cps.toList p.cps.toList && risingS x r)=true:=h;rw [and_eq_true,zV,Bool.not_eq_true',decide_eq_false_iff_not] at h;obtain⟨h1,h2⟩:=qA x r h.2;refine⟨fun y hy=>?_,.cons h1 h2⟩
  rcases mem_cons.mp hy with rfl|hy
  .exact h.1
  .exact qz _ _ _ h.1 (h1 y hy)
theorem uT{l:List Str}(h:sortedS l=true):l.Pairwise fun a b=>¬ b.cps.toList<a.cps.toList:=by
 cases l with
 | nil=>exact .nil
 | cons x r=>obtain⟨h1,h2⟩:=qA x r h;exact .cons h1 h2
theorem Ed(x:Str):S x.cps.toList=x:=by cases x;rfl
theorem nv:∀{vs:List Value}{ss:List Str},StrsAre vs ss->bY (ss.map V.str) vs
 | _,_,.nil=>.nil
 | _,_,.cons n t h=>.cons ⟨t,rfl⟩ (nv h)
section
variable {X:Cx}{K:PySem.W.Frag}
def zW(K:PySem.W.Frag):List V->Hp->VK->Prop:=fun xs H Q=>∃(p:Addr) (ws:List (List Nat)),xs=[.ref p]/\SqL K H p (ws.map tx)/\ws.length<64/\∀ws':List (List Nat),ws'.Perm ws->ws'.Pairwise (fun a b=>¬ b<a)->∀q,H q=none->Q (.ref q) (upd H q (.lst (ws'.map tx)))
theorem BK(K:PySem.W.Frag)(e:X.K=K):cN X (.builtin "sorted") (zW K):=by
 subst e;intro pins s σ H xs us Q I r h;obtain⟨p,ws,rfl,hS,hne,q⟩:=h;obtain⟨u,rfl,ru⟩:=iq r;cases (show u=Value.ref p from ru);obtain⟨its,rv,pl,hz⟩:=I.list hS;have hi:=rH rv;have hlen:its.length=ws.length:=by have:=rv.length;rw [length_map] at this;exact this.symm
 refine sorted_strs pl.isList hi (by omega) fun out ss ho hp hs=>?_
 have e1:(ss.map fun x=>x.cps.toList).map tx=ss.map V.str:=by
  rw [map_map];exact map_congr_left fun x _=>congrArg V.str (Ed x)
 have e2:(ss.map fun x=>x.cps.toList).Perm ws:=by
  have:=hp.map fun x:Str=>x.cps.toList;rw [map_map,show ((fun x:Str=>x.cps.toList) ∘ S)=fun x=>x from rfl,List.map_id'] at this;exact this
 obtain⟨e,he⟩:=sortedAll_at s.heap its out;have hle:s.heap.objs.size<=s.heap.objs.size+1:=le_succ _;refine⟨.ref (s.heap.objs.size+1),_,I.laid (a:=s.heap.objs.size+1) (o:=.lst ((ss.map fun x=>x.cps.toList).map tx)) (t':=s.toks) (fun b o z=>sortedAll_old z) hle ?_,rfl,q _ e2 (pairwise_map.mpr (uT hs)) _ (I.hok.fresh hle)⟩;rw [e1];refine⟨?_,out.toList,e,nv ho,he⟩;rw [length_map,hp.length_eq,length_map]
 exact sz _ (by omega)
def xo:FN
 | [.lst ds],Q=>∃ws:List (List Nat),ds=ws.map .str/\ws.length<64/\∀ws':List (List Nat),ws'.Perm ws->ws'.Pairwise (fun a b=>¬ b<a)->Q (.own (ws'.map .str))
 | _,_=>False
theorem za:LC K (zW K) xo:=by
 intro O H xs as Q Q' dom fs q k;unfold xo at q
 split at q
 .obtain⟨ws,rfl,h0,q⟩:=q
  cases fs with
  | cons a b =>
   cases b;obtain⟨p,ys,rfl,e1,f1⟩:=a.lst;have hle:=f1.strs_le;rw [f1.strs] at e1;exact⟨p,ws,rfl,SqL.of e1,h0,fun ws' h1 h2 p' hp'=>k _ _ _ (q ws' h1 h2) (Gr.new hp') (dR hp' (FVs.of_strs _ fun w hw=>hle w (h1.mem_iff.mp hw)))⟩
 .exact q.elim
end
theorem qB{w u:List Nat}(h:w <:+: u):∃k,k+w.length<=u.length/\∀i,i<w.length->u[k+i]?=w[i]?:=by
 obtain⟨a,b,rfl⟩:=h;refine⟨a.length,by rw [length_append,length_append];omega,fun i hi=>?_⟩;rw [append_assoc,getElem?_append_right (by omega),add_sub_cancel_left,getElem?_append_left hi]
theorem jl:∀{M:Nat}{l:List Nat},l.Nodup->(∀x∈l,x<M)->l.length<=M
 | 0,l,_,h=>by
  cases l with
  | nil=>exact Nat.le_refl _
  | cons x r=>exact absurd (h x mem_cons_self) (not_lt_zero _)
 | M+1,l,nd,h=>by
  by_cases c:M∈l
  .have h1:=jl (M:=M) (nd.erase M) (fun x hx=>by
    have:=h x (mem_of_mem_erase hx);have hne:x≠M:=(nd.mem_erase_iff.mp hx).1;omega)
   rw [length_erase_of_mem c] at h1;omega
  .have:=jl (M:=M) nd (fun x hx=>by
    have:=h x hx;have:x≠M:=fun e=>c (e ▸ hx);omega)
   omega
theorem qC{M:Nat}{l:List Nat}(nd:l.Nodup)(h:∀x∈l,x<M)(hl:l.length=M){x:Nat}(hx:x<M):x∈l:=by
 by_cases c:x∈l
 .exact c
 .exfalso;have:=jl (M:=M) (nodup_cons.mpr ⟨c,nd⟩) (fun y hy=>(mem_cons.mp hy).elim (fun e=>e ▸ hx) (h y));rw [length_cons] at this;omega
theorem t7:∀{l m:List Nat},l.Nodup->(∀x∈l,x∈m)->m.length=l.length->m.Perm l
 | [],m,_,_,hl=>by rw [length_eq_zero_iff.mp hl]
 | x::r,m,nd,h,hl=>by
  obtain⟨nx,nd⟩:=nodup_cons.mp nd;have hx:=h x mem_cons_self;have p1:=perm_cons_erase hx;have ih:=t7 (l:=r) (m:=m.erase x) nd (fun y hy=>(mem_erase_of_ne (fun (e:y=x)=>nx (by rw [<- e];exact hy))).mpr (h y (mem_cons_of_mem _ hy))) (by rw [length_erase_of_mem hx,hl];rfl);exact p1.trans (ih.cons x)
theorem zX{ls:List Nat}(nd:ls.Nodup){i j:Nat}(hi:i<ls.length)(e:ls[i]?=ls[j]?):i=j:=(getElem?_inj hi nd).mp e
theorem xp{ls:List Nat}{n:Nat}(hl:ls.length=n+1)(hn:0<n)(nd:ls.Nodup){u:List Nat}(h:∀k,k<n->[ls.getD k 0,ls.getD (k+1) 0] <:+: u):ahB u ls=false:=by
 have gd:∀k,k<n+1->some (ls.getD k 0)=ls[k]?:=fun k hk=>by rw [getD_eq_getElem?_getD,getElem?_eq_getElem (by omega)];rfl
 have ex:∀k,∃p,k<n->p+2<=u.length/\u[p]?=ls[k]?/\u[p+1]?=ls[k+1]?:=fun k=>by
  by_cases c:k<n
  .obtain⟨p,h1,h2⟩:=qB (h k c)
   refine⟨p,fun _=>⟨h1,?_,?_⟩⟩
   .rw [<- gd k (by omega)];exact h2 0 (by show 0<2;decide)
   .rw [<- gd (k+1) (by omega)];exact h2 1 (by show 1<2;decide)
  .exact⟨0,fun z=>absurd z c⟩
 obtain⟨p,hp⟩:∃p:Nat->Nat,∀k,k<n->p k+2<=u.length/\u[p k]?=ls[k]?/\u[p k+1]?=ls[k+1]?:=⟨fun k=>Classical.choose (ex k),fun k=>Classical.choose_spec (ex k)⟩
 have pin:∀i j,i<n->j<n->p i=p j->i=j:=fun i j hi hj e=>zX nd (by omega) (by rw [<- (hp i hi).2.1,e,(hp j hj).2.1]);have ndp:((List.range n).map p).Nodup:=pairwise_map.mpr ((nodup_range (n:=n)).imp_of_mem fun {a b} ha hb ne e=>ne (pin a b (mem_range.mp ha) (mem_range.mp hb) e))
 have hlt:∀x∈(List.range n).map p,x<u.length - 1:=fun x hx=>by
  obtain⟨k,hk,rfl⟩:=mem_map.mp hx;have:=(hp k (mem_range.mp hk)).1;omega
 have hle:=jl ndp hlt;rw [length_map,length_range] at hle;rw [jj]
 by_cases e:u.length=n+1
 .refine .inr ⟨by omega,?_⟩
  have all:∀x,x<n->∃m,m<n/\p m=x:=fun x hx=>by
   have:=qC ndp hlt (by rw [length_map,length_range];omega) (show x<u.length - 1 by omega);obtain⟨m,hm,e⟩:=mem_map.mp this;exact⟨m,mem_range.mp hm,e⟩
  have nxt:∀k,k<n->p k+1<n->k+1<n/\p (k+1)=p k+1:=fun k hk h1=>by
   obtain⟨m,hm,em⟩:=all _ h1;have:m=k+1:=zX nd (by omega) (by rw [<- (hp m hm).2.1,em,(hp k hk).2.2]);subst this;exact⟨hm,em⟩
  have last:p (n - 1)=n - 1:=by
   have:=(hp (n - 1) (by omega)).1
   by_cases c:p (n - 1)+1<n
   .have:=(nxt (n - 1) (by omega) c).1;omega
   .omega
  have fH:∀d,d<n->p (n - 1 - d)=n - 1 - d:=fun d=>by
   induction d with
   | zero=>intro _;exact last
   | succ d ih =>
    intro hd;have ih:=ih (by omega);have hk:n - 1 - (d+1)<n:=by omega
    have h2:=(hp _ hk).1
    by_cases c:p (n - 1 - (d+1))+1<n
    .have:=(nxt _ hk c).2;rw [show n - 1 - (d+1)+1=n - 1 - d by omega,ih] at this;omega
    .have:p (n - 1 - (d+1))=p (n - 1):=by omega
     have:=pin _ _ hk (by omega) this;omega
  have eq:u=ls:=by
   refine ext_getElem? fun i=>?_
   rcases lt_or_ge i n with c|c
   .have:=fH (n - 1 - i) (by omega);rw [show n - 1 - (n - 1 - i)=i by omega] at this;have h1:=(hp i c).2.1;rw [this] at h1;exact h1
   .rcases lt_or_ge i (n+1) with c2|c2
    .have:i=n - 1+1:=by omega
     have h1:=(hp (n - 1) (by omega)).2.2;rw [last] at h1;rw [this];exact h1
    .rw [getElem?_eq_none (by omega),getElem?_eq_none (by omega)]
  rw [eq];exact kf ls
 .left;omega
theorem ny:∀(sb bs:List (List Nat)),bs.Perm sb->sb.Pairwise (fun a b=>¬ b<a)->(∀x∈sb,x≠[])->sb.Pairwise (fun a b=>a.headD 0≠b.headD 0)->¬ (bs.flatten<sb.flatten)
 | [],bs,hp,_,_,_=>by rw [hp.eq_nil];exact kf []
 | x::r,bs,hp,hs,hn,hd=>by
  cases bs with
  | nil=>exact absurd hp.symm.eq_nil (by simp)
  | cons y r' =>
   obtain⟨hs1,hs2⟩:=pairwise_cons.mp hs;obtain⟨hd1,hd2⟩:=pairwise_cons.mp hd
   by_cases c:y=x
   .subst c;rw [flatten_cons,flatten_cons,qy];exact ny r r' ((perm_cons y).mp hp) hs2 (fun z hz=>hn z (mem_cons_of_mem _ hz)) hd2
   .have hy:y∈r:=(mem_cons.mp (hp.mem_iff.mp mem_cons_self)).elim (fun e=>absurd e c) id;have h1:=hs1 y hy;have h2:=hd1 y hy;obtain⟨x0,xs,rfl⟩:=exists_cons_of_ne_nil (hn x mem_cons_self);obtain⟨y0,ys,rfl⟩:=exists_cons_of_ne_nil (hn y (mem_cons_of_mem _ hy));have h2:x0≠y0:=h2;rw [cons_lt_cons_iff] at h1;rw [flatten_cons,flatten_cons];show ¬ (y0::(ys++r'.flatten)<x0::(xs++r.flatten));rw [cons_lt_cons_iff]
    rintro (h|h)
    .exact h1 (.inl h)
    .exact h2 h.1.symm
def alt(a b n:Nat):List Nat:=(List.range n).map fun i=>if i % 2=0 then a else b
theorem dz(a b n:Nat):(alt a b n).length=n:=by unfold alt;rw [length_map,length_range]
theorem t9{a b n i:Nat}(h:i<n):(alt a b n)[i]?=some (if i % 2=0 then a else b):=by unfold alt;rw [getElem?_map,getElem?_range h];rfl
theorem jm(a b n:Nat):alt a b (n+1)=a::alt b a n:=by
 unfold alt;rw [range_succ_eq_map,map_cons,map_map];congr 1;refine map_congr_left fun i _=>?_;show (if (i+1) % 2=0 then a else b)=if i % 2=0 then b else a
 rcases mod_two_eq_zero_or_one i with h|h
 .rw [if_pos h,if_neg (by omega)]
 .rw [if_pos (show (i+1) % 2=0 by omega),if_neg (show ¬ i % 2=0 by omega)]
theorem oZ(a b n:Nat):alt a b (n+1)=alt a b n++[if n % 2=0 then a else b]:=by
 unfold alt;rw [range_succ,map_append];rfl
theorem o5(a b:Nat):∀t:Nat,kO [a,b] (t:Int)=alt a b (2*t)
 | 0=>rfl
 | t+1=>by
  have ih:=o5 a b t;unfold kO at ih ⊢;rw [show ((t+1:Nat):Int).toNat=t+1 by omega,replicate_succ,flatten_cons];rw [toNat_natCast] at ih;rw [ih,show 2*(t+1)=2*t+1+1 by omega,jm,jm];rfl
def iv(s n:Nat):List Nat:=(List.range n).map fun i=>s+i
theorem ua(s n:Nat):(iv s n).length=n:=by unfold iv;rw [length_map,length_range]
theorem nA{s n i:Nat}:i∈iv s n ↔ s<=i/\i<s+n:=by
 unfold iv;rw [mem_map];exact⟨fun ⟨j,hj,e⟩=>by have:=mem_range.mp hj;omega,fun h=>⟨i - s,mem_range.mpr (by omega),by omega⟩⟩
theorem zb(s n:Nat):(iv s n).Nodup:=pairwise_map.mpr ((nodup_range (n:=n)).imp fun {a b} ne e=>ne (by omega))
theorem zc{A ss:List Nat}{u:List Nat}(hd:∀s∈ss,s∉A)(nd:ss.Nodup){e:Nat->Nat}(he:∀s∈ss,u[e s]?=some s){W:List Nat}(nw:W.Nodup)(hW:∀i∈W,∃x∈A,u[i]?=some x):W.length+ss.length<=u.length/\(W.length+ss.length=u.length->∀i,i<u.length->i∈W\/∃s∈ss,e s=i):=by
 have lt:∀{i x:Nat},u[i]?=some x->i<u.length:=fun {i x} h=>by
  rcases lt_or_ge i u.length with z|z
  .exact z
  .rw [getElem?_eq_none z] at h;cases h
 have ndL:(W++ss.map e).Nodup:=by
  have m1:(ss.map e).Nodup:=pairwise_map.mpr (nd.imp_of_mem fun {a b} ha hb ne z=>ne (by
   have h1:=he a ha;rw [z,he b hb] at h1;exact (Option.some.inj h1).symm))
  refine nodup_append.mpr ⟨nw,m1,fun i hi j hj z=>?_⟩
  .obtain⟨s,hs,rfl⟩:=mem_map.mp hj;obtain⟨x,hx,hx2⟩:=hW i hi;rw [z,he s hs] at hx2;exact hd s hs (Option.some.inj hx2 ▸ hx)
 have hlt:∀x∈W++ss.map e,x<u.length:=fun x hx=>by
  rcases mem_append.mp hx with h|h
  .obtain⟨y,_,h2⟩:=hW x h;exact lt h2
  .obtain⟨s,hs,rfl⟩:=mem_map.mp h;exact lt (he s hs)
 have hle:=jl ndL hlt;rw [length_append,length_map] at hle;refine⟨hle,fun hq i hi=>?_⟩
 rcases mem_append.mp (qC ndL hlt (by rw [length_append,length_map];exact hq) hi) with h|h
 .exact .inl h
 .obtain⟨s,hs,z⟩:=mem_map.mp h;exact .inr ⟨s,hs,z⟩
theorem uU{a b c d t:Nat}{ss u:List Nat}(ht:2<=t)(nd4:a≠b/\a≠c/\a≠d/\b≠c/\b≠d/\c≠d)(hd:∀s∈ss,s∉[a,b,c,d])(nd:ss.Nodup)(hX:c::alt a b (2*t) <:+: u)(hY:alt b a (2*t) <:+: u)(hZ:alt a b (2*t)++[d] <:+: u)(hS:∀s∈ss,[s] <:+: u) :
  2*t+4+ss.length<u.length\/(u.length=2*t+4+ss.length/\∃α β,u=α++(c::(alt a b (2*t+2)++[d]))++β/\(α++β).Perm ss):=by
 obtain⟨hab,hac,had,hbc,hbd,hcd⟩:=nd4;obtain⟨p,_,p2⟩:=qB hX;obtain⟨q,_,q2⟩:=qB hY;obtain⟨r,_,r2⟩:=qB hZ;have X0:u[p]?=some c:=p2 0 (zero_lt_succ _)
 have X1:∀i,i<2*t->u[p+1+i]?=some (if i % 2=0 then a else b):=fun i hi=>by
  have:=p2 (i+1) (by rw [length_cons,dz];omega);rw [getElem?_cons_succ,t9 hi] at this;rw [<- this];congr 1;omega
 have Y1:∀i,i<2*t->u[q+i]?=some (if i % 2=0 then b else a):=fun i hi=>by
  rw [q2 i (by rw [dz];exact hi),t9 hi]
 have Z1:∀i,i<2*t->u[r+i]?=some (if i % 2=0 then a else b):=fun i hi=>by
  rw [r2 i (by rw [length_append,dz];omega),getElem?_append_left (by rw [dz];exact hi),t9 hi]
 have Z2:u[r+2*t]?=some d:=by
  rw [r2 (2*t) (by rw [length_append,dz];show _<_+1;omega),getElem?_append_right (by rw [dz];exact Nat.le_refl _),dz,sub_self];rfl
 have two:∀i x,some (if i % 2=0 then a else b)=some x->x=a\/x=b:=fun i x e=>by
  rw [<- Option.some.inj e];split
  .exact .inl rfl
  .exact .inr rfl
 have two':∀i x,some (if i % 2=0 then b else a)=some x->x=a\/x=b:=fun i x e=>by
  rw [<- Option.some.inj e];split
  .exact .inr rfl
  .exact .inl rfl
 have fX:∀i,p<=i->i<p+2*t+1->i=p\/∃x,(x=a\/x=b)/\u[i]?=some x:=fun i h1 h2=>by
  by_cases e:i=p
  .exact .inl e
  .have:=X1 (i - p - 1) (by omega);rw [show p+1+(i - p - 1)=i by omega] at this;exact .inr ⟨_,two _ _ rfl,this⟩
 have fZ:∀i,r<=i->i<r+2*t+1->i=r+2*t\/∃x,(x=a\/x=b)/\u[i]?=some x:=fun i h1 h2=>by
  by_cases e:i=r+2*t
  .exact .inl e
  .have:=Z1 (i - r) (by omega);rw [show r+(i - r)=i by omega] at this;exact .inr ⟨_,two _ _ rfl,this⟩
 have fY:∀i,q<=i->i<q+2*t->∃x,(x=a\/x=b)/\u[i]?=some x:=fun i h1 h2=>by
  have:=Y1 (i - q) (by omega);rw [show q+(i - q)=i by omega] at this;exact⟨_,two' _ _ rfl,this⟩
 have nd1:∀x,(x=a\/x=b)->some x≠some c/\some x≠some d:=fun x h=>by
  rcases h with rfl|rfl
  .exact⟨fun z=>hac (Option.some.inj z),fun z=>had (Option.some.inj z)⟩
  .exact⟨fun z=>hbc (Option.some.inj z),fun z=>hbd (Option.some.inj z)⟩
 have aX:∀i,p<=i->i<p+2*t+1->∃x∈[a,b,c,d],u[i]?=some x:=fun i h1 h2=>by
  rcases fX i h1 h2 with rfl|⟨x,hx,e⟩
  .exact⟨c,by simp,X0⟩
  .exact⟨x,by rcases hx with rfl|rfl <;> simp,e⟩
 have aZ:∀i,r<=i->i<r+2*t+1->∃x∈[a,b,c,d],u[i]?=some x:=fun i h1 h2=>by
  rcases fZ i h1 h2 with rfl|⟨x,hx,e⟩
  .exact⟨d,by simp,Z2⟩
  .exact⟨x,by rcases hx with rfl|rfl <;> simp,e⟩
 have aY:∀i,q<=i->i<q+2*t->∃x∈[a,b,c,d],u[i]?=some x:=fun i h1 h2=>by
  obtain⟨x,hx,e⟩:=fY i h1 h2;exact⟨x,by rcases hx with rfl|rfl <;> simp,e⟩
 have nE:¬ (p<=r+2*t/\r+2*t<p+2*t+1):=fun ⟨h1,h2⟩=>by
  rcases fX _ h1 h2 with e|⟨x,hx,e⟩
  .rw [e,X0] at Z2;exact hcd (Option.some.inj Z2)
  .rw [Z2] at e;exact (nd1 x hx).2 e.symm
 have nC:¬ (q<=p/\p<q+2*t):=fun ⟨h1,h2⟩=>by
  obtain⟨x,hx,e⟩:=fY p h1 h2;rw [X0] at e;exact (nd1 x hx).1 e.symm
 have nD:¬ (q<=r+2*t/\r+2*t<q+2*t):=fun ⟨h1,h2⟩=>by
  obtain⟨x,hx,e⟩:=fY _ h1 h2;rw [Z2] at e;exact (nd1 x hx).2 e.symm
 have exS:∀s,∃k,s∈ss->u[k]?=some s:=fun s=>by
  by_cases h:s∈ss
  .obtain⟨k,_,h2⟩:=qB (hS s h);exact⟨k,fun _=>h2 0 (by show 0<1;decide)⟩
  .exact⟨0,fun z=>absurd z h⟩
 obtain⟨e,he⟩:∃e:Nat->Nat,∀s∈ss,u[e s]?=some s:=⟨fun s=>Classical.choose (exS s),fun s=>Classical.choose_spec (exS s)⟩
 have cnt:=fun (W:List Nat) (nw:W.Nodup) (hW:∀i∈W,∃x∈[a,b,c,d],u[i]?=some x)=>zc hd nd he nw hW
 have dis:∀s n s' n',s+n<=s'->(iv s n++iv s' n').Nodup:=fun s n s' n' h=>nodup_append.mpr ⟨zb _ _,zb _ _,fun x hx y hy z=>by
  have:=nA.mp hx;have:=nA.mp hy;omega⟩
 have two_iv:∀s n s' n',s+n<=s'->(∀i,s<=i->i<s+n->∃x∈[a,b,c,d],u[i]?=some x)->(∀i,s'<=i->i<s'+n'->∃x∈[a,b,c,d],u[i]?=some x)->n+n'+ss.length<=u.length:=fun s n s' n' h f1 f2=>by
  have:=(cnt _ (dis s n s' n' h) fun i hi=>by
   rcases mem_append.mp hi with h|h
   .have:=nA.mp h;exact f1 i this.1 this.2
   .have:=nA.mp h;exact f2 i this.1 this.2).1
  rw [length_append,ua,ua] at this;exact this
 by_cases cA:r+2*t<p
 .left;have:=two_iv r (2*t+1) p (2*t+1) (by omega) (fun i h1 h2=>aZ i h1 (by omega)) (fun i h1 h2=>aX i h1 (by omega));omega
 have hr:p+1<=r:=by omega
 by_cases c1:r=p+1
 .left
  have nq:q≠p+1:=fun z=>by
   have h1:=X1 0 (by omega);have h2:=Y1 0 (by omega);rw [z] at h2;rw [Nat.add_zero] at h1 h2;rw [h1] at h2;exact hab (Option.some.inj h2)
  have aP:∀i,p<=i->i<p+(2*t+2)->∃x∈[a,b,c,d],u[i]?=some x:=fun i h1 h2=>by
   rcases lt_or_ge i (p+2*t+1) with z|z
   .exact aX i h1 z
   .exact aZ i (by omega) (by omega)
  rcases lt_or_ge p q with z|z
  .have:=two_iv p (2*t+2) q (2*t) (by omega) aP (fun i h1 h2=>aY i h1 h2);omega
  .have:=two_iv q (2*t) p (2*t+2) (by omega) (fun i h1 h2=>aY i h1 h2) aP;omega
 by_cases c2:r=p+2
 .exfalso;have h1:=X1 1 (by omega);have h2:=Z1 0 (by omega);rw [c2,Nat.add_zero] at h2;rw [show p+1+1=p+2 by omega,h2] at h1;exact hab (Option.some.inj h1)
 by_cases c3:r=p+3
 .have aP:∀i,p<=i->i<p+(2*t+4)->∃x∈[a,b,c,d],u[i]?=some x:=fun i h1 h2=>by
   rcases lt_or_ge i (p+2*t+1) with z|z
   .exact aX i h1 z
   .exact aZ i (by omega) (by omega)
  obtain⟨n1,n2⟩:=cnt (iv p (2*t+4)) (zb _ _) fun i hi=>by
   have:=nA.mp hi;exact aP i this.1 this.2
  rw [ua] at n1 n2
  rcases lt_or_ge (2*t+4+ss.length) u.length with z|z
  .exact .inl z
  .have hl:u.length=2*t+4+ss.length:=by omega
   refine .inr ⟨hl,u.take p,u.drop (p+(2*t+4)),?_,?_⟩
   .have mid:(u.drop p).take (2*t+4)=c::(alt a b (2*t+2)++[d]):=by
     refine ext_getElem? fun j=>?_
     rcases lt_or_ge j (2*t+4) with hj|hj
     .rw [getElem?_take_of_lt hj,getElem?_drop]
      by_cases j0:j=0
      .subst j0;rw [Nat.add_zero,X0];rfl
      obtain⟨k,rfl⟩:∃k,j=k+1:=⟨j - 1,by omega⟩
      rw [getElem?_cons_succ]
      rcases lt_or_ge k (2*t+2) with hk|hk
      .rw [getElem?_append_left (by rw [dz];exact hk),t9 hk]
       rcases lt_or_ge k (2*t) with z|z
       .rw [<- X1 k z];congr 1;omega
       .have:=Z1 (k - 2) (by omega);rw [c3,show p+3+(k - 2)=p+(k+1) by omega] at this;rw [this]
        rcases mod_two_eq_zero_or_one k with y|y
        .rw [if_pos y,if_pos (by omega)]
        .rw [if_neg (show ¬ k % 2=0 by omega),if_neg (show ¬ (k - 2) % 2=0 by omega)]
      .have:k=2*t+2:=by omega
       subst this;rw [getElem?_append_right (by rw [dz];exact Nat.le_refl _),dz,sub_self,show p+(2*t+2+1)=r+2*t by omega,Z2];rfl
     .rw [getElem?_eq_none (by rw [length_take];omega),getElem?_eq_none (by rw [length_cons,length_append,dz];show _+1+1<=_;omega)]
    rw [<- mid,append_assoc,<- drop_drop,take_append_drop,take_append_drop]
   .have hpl:p+(2*t+4)<=u.length:=by
     have h3:=Z2
     rcases lt_or_ge (r+2*t) u.length with z|z
     .omega
     .rw [getElem?_eq_none z] at h3;cases h3
    refine t7 nd (fun s hs=>?_) (by rw [length_append,length_take,length_drop];omega);have es:=he s hs
    rcases lt_or_ge (e s) p with z|z
    .exact mem_append_left _ (mem_of_getElem? (i:=e s) (by rw [getElem?_take_of_lt z];exact es))
    .rcases lt_or_ge (e s) (p+(2*t+4)) with y|y
     .obtain⟨x,hx,ex⟩:=aP _ z y;rw [es] at ex;exact absurd (Option.some.inj ex ▸ hx) (hd s hs)
     .exact mem_append_right _ (mem_of_getElem? (i:=e s - (p+(2*t+4))) (by rw [getElem?_drop,show p+(2*t+4)+(e s - (p+(2*t+4)))=e s by omega];exact es))
 .left
  rcases lt_or_ge (p+2*t+1) r with z|z
  .have:=two_iv p (2*t+1) r (2*t+1) (by omega) (fun i h1 h2=>aX i h1 (by omega)) (fun i h1 h2=>aZ i h1 (by omega));omega
  .have:=(cnt (iv p (r+2*t+1 - p)) (zb _ _) fun i hi=>by
    have h:=nA.mp hi
    rcases lt_or_ge i (p+2*t+1) with y|y
    .exact aX i h.1 y
    .exact aZ i (by omega) (by omega)).1
   rw [ua] at this;omega
theorem ub{x:List Nat}{sb:List (List Nat)}(h:x∈sb):x <:+: sb.flatten:=by
 obtain⟨a,b,rfl⟩:=append_of_mem h;rw [flatten_append,flatten_cons];exact⟨a.flatten,b.flatten,by rw [append_assoc]⟩
theorem kU(l:List Nat):(l.map fun s=>[s]).flatten=l:=by
 induction l with
 | nil=>rfl
 | cons x r ih=>rw [map_cons,flatten_cons,ih];rfl
theorem qD{a b c d t:Nat}{ss:List Nat}(ht:2<=t)(nd4:a≠b/\a≠c/\a≠d/\b≠c/\b≠d/\c≠d)(hd:∀s∈ss,s∉[a,b,c,d])(nd:ss.Nodup){sb ps:List (List Nat)}(hp:sb.Perm ((c::(alt a b (2*t+2)++[d]))::ss.map fun s=>[s]))(hs:sb.Pairwise (fun a b=>¬ b<a))(hps:∀w,w∈ps ↔ w=c::alt a b (2*t)\/w=alt b a (2*t)\/w=alt a b (2*t)++[d]\/∃s∈ss,w=[s]):Lst (uS ps) sb.flatten:=by
 have hB:(c::(alt a b (2*t+2)++[d])) <:+: sb.flatten:=ub (hp.mem_iff.mpr mem_cons_self)
 have e1:alt a b (2*t+2)=alt a b (2*t)++[a]++[b]:=by
  rw [oZ,oZ,if_pos (by omega),if_neg (by omega)]
 have e2:alt a b (2*t+2)=a::(alt b a (2*t)++[b]):=by rw [jm,oZ,if_pos (by omega)]
 have e3:alt a b (2*t+2)=a::b::alt a b (2*t):=by rw [jm,jm]
 have hl:sb.flatten.length=2*t+4+ss.length:=by
  rw [length_flatten,(hp.map List.length).sum_nat,map_cons,sum_cons,map_map,length_cons,length_append,dz,show (ss.map (List.length ∘ fun s=>[s]))=ss.map fun _=>1 from rfl]
  have:∀l:List Nat,(l.map fun _=>1).sum=l.length:=fun l=>by
   induction l with
   | nil=>rfl
   | cons x r ih=>rw [map_cons,sum_cons,ih,length_cons];omega
  rw [this];show _+1+1+_=_;omega
 refine⟨fun w hw=>?_,fun u hu=>?_⟩
 .rcases (hps w).mp hw with rfl|rfl|rfl|⟨s,hs',rfl⟩
  .refine List.IsInfix.trans ⟨[],[a,b,d],?_⟩ hB;rw [e1];simp
  .refine List.IsInfix.trans ⟨[c,a],[b,d],?_⟩ hB;rw [e2];simp
  .refine List.IsInfix.trans ⟨[c,a,b],[],?_⟩ hB;rw [e3];simp
  .exact ub (hp.mem_iff.mpr (mem_cons_of_mem _ (mem_map.mpr ⟨s,hs',rfl⟩)))
 .rcases uU ht nd4 hd nd (hu _ ((hps _).mpr (.inl rfl))) (hu _ ((hps _).mpr (.inr (.inl rfl)))) (hu _ ((hps _).mpr (.inr (.inr (.inl rfl))))) (fun s h=>hu _ ((hps _).mpr (.inr (.inr (.inr ⟨s,h,rfl⟩))))) with h|⟨h,α,β,e,pm⟩
  .rw [jj];left;omega
  .rw [jj];refine .inr ⟨by omega,?_⟩
   have eu:u=(α.map (fun s=>[s])++(c::(alt a b (2*t+2)++[d]))::β.map fun s=>[s]).flatten:=by
    rw [flatten_append,flatten_cons,kU,kU,<- append_assoc];exact e
   rw [eu]
   refine ny sb _ ?_ hs (fun x hx=>?_) ?_
   .refine List.Perm.trans ?_ hp.symm;refine perm_middle.trans (List.Perm.cons _ ?_);rw [<- map_append];exact pm.map _
   .rcases mem_cons.mp (hp.mem_iff.mp hx) with rfl|h
    .exact cons_ne_nil _ _
    .obtain⟨s,_,rfl⟩:=mem_map.mp h;exact cons_ne_nil _ _
   .have:=(hp.map fun x:List Nat=>x.headD 0).nodup_iff.mpr (by
     rw [map_cons,map_map,show ss.map ((fun x:List Nat=>x.headD 0) ∘ fun s=>[s])=ss from map_id _];exact nodup_cons.mpr ⟨fun z=>hd c z (by simp),nd⟩)
    exact pairwise_map.mp this
section
variable {X:Cx}{K:PySem.W.Frag}
def zY:List V->Hp->VK->Prop:=fun xs H Q=>∃l:List Nat,xs=[.str (S l)]/\l.length<=sizeLine/\∀q,H q=none->Q (.ref q) (upd H q (.lst ((l.map fun c=>[c]).map tx)))
theorem nB:∀{l:List Nat}{vs:List Value},vs.length=l.length->(∀(j:Nat) (v:Value),vs[j]?=some v->∃c u,l[j]?=some c/\v=Value.str ⟨#[c]⟩ u)->bY ((l.map fun c=>[c]).map tx) vs
 | [],[],_,_=>.nil
 | [],_::_,h,_=>nomatch h
 | _::_,[],h,_=>nomatch h
 | c::l,v::vs,h,f=>by
  obtain⟨c',u,e1,e2⟩:=f 0 v rfl;have e1:c=c':=Option.some.inj e1;subst e1 e2;exact .cons ⟨u,rfl⟩ (nB (Nat.succ.inj h) fun j v hv=>f (j+1) v hv)
theorem BL(hc:X.calm=true):cN X (.type "list") zY:=by
 intro pins s σ H xs us Q I r h;obtain⟨l,rfl,hz,q⟩:=h;obtain⟨u,rfl,rx⟩:=iq r;obtain⟨t,rfl⟩:=rx;refine call_list_str (I.ok.hd hc) (S l) t (fun h' tk acc c' kp e it=>?_) hz;have hl:acc.toList.length=l.length:=it.1
 exact⟨.ref s.heap.objs.size,_,I.laid (t':=tk) kp (Nat.le_refl _) (show dy X.prog X.w _ h' _ (.lst ((l.map fun c=>[c]).map tx)) from ⟨by rw [length_map,length_map];exact hz,acc.toList,c',nB hl fun j v hv=>by
  have:=it.2 j v (by rw [<- Array.getElem?_toList];exact hv);obtain⟨c,u,e1,e2⟩:=this;exact⟨c,u,by rw [<- e1];exact (Array.getElem?_toList (xs:=l.toArray)).symm ▸ rfl,e2⟩,e⟩),rfl,q _ (I.hok.fresh (Nat.le_refl _))⟩
def xq:FN
 | [.str l],Q=>Q (.own ((l.map fun c=>[c]).map .str))
 | _,_=>False
theorem zd:LC K zY xq:=by
 intro O H xs as Q Q' dom fs q k;unfold xq at q
 split at q
 .cases fs with
  | cons a b =>
   cases b;obtain⟨rfl,hl⟩:=a.str
   exact⟨_,rfl,sz _ hl,fun p hp=>k _ _ _ q (Gr.new hp) (dR hp (FVs.of_strs _ fun w hw=>by
    obtain⟨c,_,rfl⟩:=mem_map.mp hw;show 1<=1000000;decide))⟩
 .exact q.elim
end
end L2
namespace K37
open PySem PySem.Spec PyProof.Rows L2
def top(i:Nat):Stmt:=PySem.Challenge.pw_shortglue_k37_shortest_and_first.main.body.getD i (.Pass ⟨0,0,0,0⟩)
abbrev lG:Stmt:=top 6
abbrev jN:Stmt:=top 9
abbrev jO:Stmt:=top 10
abbrev dW:Stmt:=top 11
abbrev jP:Stmt:=top 12
abbrev iX:Stmt:=top 13
abbrev jQ:Stmt:=top 14
abbrev eP:Stmt:=top 15
abbrev jR:Stmt:=top 16
abbrev BM:Stmt:=top 18
abbrev jT:Stmt:=top 19
abbrev fL:Stmt:=top 24
abbrev fW:Stmt:=top 25
abbrev fz:Stmt:=top 27
abbrev eQ:Stmt:=top 28
abbrev lH:Stmt:=top 29
abbrev jU:Stmt:=top 30
abbrev cO:Stmt:=vD (top 31) 0
abbrev cP:Stmt:=vD (top 31) 1
abbrev iY:Stmt:=top 33
abbrev jV:Stmt:=top 34
abbrev jW:Stmt:=top 35
abbrev iZ:Stmt:=top 36
abbrev gX:Stmt:=top 37
abbrev i3:Stmt:=top 38
abbrev lI:Stmt:=top 39
abbrev jX:Stmt:=top 40
abbrev f8:Stmt:=top 41
abbrev gY:Stmt:=top 42
abbrev i4:Stmt:=top 43
abbrev i5:Stmt:=top 44
abbrev i6:Stmt:=top 45
abbrev fA:Stmt:=top 46
abbrev dX:Stmt:=top 47
abbrev ze:Stmt:=top 48
theorem uV:aR ["mark"] ["mark"] (ar lG):=⟨rfl,rfl,rfl,by decide +kernel,rfl,by decide +kernel,by decide +kernel⟩
theorem r0:aR ["one","other"] ["one","other"] (ar jN):=⟨rfl,rfl,rfl,by decide +kernel,rfl,by decide +kernel,by decide +kernel⟩
theorem f9:aR ["texts","best","text"] ["texts"] (ar jO):=⟨rfl,rfl,rfl,by decide +kernel,rfl,by decide +kernel,by decide +kernel⟩
theorem jn:aR ["family"] ["family"] (ar dW):=⟨rfl,rfl,rfl,by decide +kernel,rfl,by decide +kernel,by decide +kernel⟩
theorem r8:aR ["words","laps"] ["words","laps"] (ar jP):=⟨rfl,rfl,rfl,by decide +kernel,rfl,by decide +kernel,by decide +kernel⟩
theorem qE:aR ["many"] ["many"] (ar iX):=⟨rfl,rfl,rfl,by decide +kernel,rfl,by decide +kernel,by decide +kernel⟩
theorem ga:aR ["heads","lasts","lefts","ends","choices","nexts"] ["heads","lasts","lefts"] (ar jQ):=⟨rfl,rfl,rfl,by decide +kernel,rfl,by decide +kernel,by decide +kernel⟩
theorem gy:aR ["words","laps","lefts","ends"] ["words","laps","lefts"] (ar eP):=⟨rfl,rfl,rfl,by decide +kernel,rfl,by decide +kernel,by decide +kernel⟩
theorem r9:aR ["family"] ["family"] (ar jR):=⟨rfl,rfl,rfl,by decide +kernel,rfl,by decide +kernel,by decide +kernel⟩
theorem zZ:aR ["one","other","k"] ["one","other"] (ar BM):=⟨rfl,rfl,rfl,by decide +kernel,rfl,by decide +kernel,by decide +kernel⟩
theorem sd:aR ["words"] ["words"] (ar jT):=⟨rfl,rfl,rfl,by decide +kernel,rfl,by decide +kernel,by decide +kernel⟩
theorem uW:aR ["thing","least","most"] ["thing","least","most"] (ar fL):=⟨rfl,rfl,rfl,by decide +kernel,rfl,by decide +kernel,by decide +kernel⟩
theorem mH:aR ["text","piece"] ["text","piece"] (ar fW):=⟨rfl,rfl,rfl,by decide +kernel,rfl,by decide +kernel,by decide +kernel⟩
theorem eR:aR ["things","at","thing"] ["things"] (ar fz):=⟨rfl,rfl,rfl,by decide +kernel,rfl,by decide +kernel,by decide +kernel⟩
theorem kG:aR ["piece","other"] ["piece","other"] (ar eQ):=⟨rfl,rfl,rfl,by decide +kernel,rfl,by decide +kernel,by decide +kernel⟩
theorem jY:aR ["pieces","at","piece","longer"] ["pieces","at"] (ar lH):=⟨rfl,rfl,rfl,by decide +kernel,rfl,by decide +kernel,by decide +kernel⟩
theorem lJ:aR ["pieces","kept","at","holder"] ["pieces","kept","at"] (ar jU):=⟨rfl,rfl,rfl,by decide +kernel,rfl,by decide +kernel,by decide +kernel⟩
theorem iC:aR ["self","pieces","indexes"] ["self","pieces"] (ar cO):=⟨rfl,rfl,rfl,by decide +kernel,rfl,by decide +kernel,by decide +kernel⟩
theorem mI:aR ["self"] ["self"] (ar cP):=⟨rfl,rfl,rfl,by decide +kernel,rfl,by decide +kernel,by decide +kernel⟩
theorem eh:aR ["_law_cell","_law_k","_law_number"] ["_law_cell","_law_k"] (ar iY):=⟨rfl,rfl,rfl,by decide +kernel,rfl,by decide +kernel,by decide +kernel⟩
theorem cQ:aR ["_law_script","_law_many","_law_cells","_law_found","_law_turn","_law_cell","_law_rest"] ["_law_script","_law_many"] (ar jV):=⟨rfl,rfl,rfl,by decide +kernel,rfl,by decide +kernel,by decide +kernel⟩
theorem se:aR ["_law_deck_here"] ["_law_deck_here"] (ar jW):=⟨rfl,rfl,rfl,by decide +kernel,rfl,by decide +kernel,by decide +kernel⟩
theorem eZ:aR ["_law_deck_here","_law_letters","_law_many","_law_found","_law_k"] ["_law_deck_here","_law_letters","_law_many"] (ar iZ):=⟨rfl,rfl,rfl,by decide +kernel,rfl,by decide +kernel,by decide +kernel⟩
theorem bd:aR ["_law_deck_here","_law_most","_law_first_here","_law_many","_law_letters","_law_sort","_law_long","_law_text","_law_pieces_here","_law_k","_law_at","_law_piece"] ["_law_deck_here","_law_most"] (ar gX):=⟨rfl,rfl,rfl,by decide +kernel,rfl,by decide +kernel,by decide +kernel⟩
theorem ei:aR ["_law_pieces_here","_law_found","_law_k","_law_piece","_law_longer"] ["_law_pieces_here"] (ar i3):=⟨rfl,rfl,rfl,by decide +kernel,rfl,by decide +kernel,by decide +kernel⟩
theorem nF:aR ["_law_one","_law_other","_law_k"] ["_law_one","_law_other"] (ar lI):=⟨rfl,rfl,rfl,by decide +kernel,rfl,by decide +kernel,by decide +kernel⟩
theorem sf:aR ["_law_words_here"] ["_law_words_here"] (ar jX):=⟨rfl,rfl,rfl,by decide +kernel,rfl,by decide +kernel,by decide +kernel⟩
theorem bb:aR ["_law_deck_here","_law_words_here","_law_left","_law_text","_law_close","_law_earlier","_law_word","_law_shared"] ["_law_deck_here","_law_words_here"] (ar f8):=⟨rfl,rfl,rfl,by decide +kernel,rfl,by decide +kernel,by decide +kernel⟩
theorem gb:aR ["_law_laps_here","_law_table_here","_law_mark","_law_i","_law_below","_law_others"] ["_law_laps_here","_law_table_here","_law_mark","_law_i"] (ar gY):=⟨rfl,rfl,rfl,by decide +kernel,rfl,by decide +kernel,by decide +kernel⟩
theorem dF:aR ["_law_laps_here","_law_many","_law_table_here","_law_mark","_law_row","_law_i"] ["_law_laps_here"] (ar i4):=⟨rfl,rfl,rfl,by decide +kernel,rfl,by decide +kernel,by decide +kernel⟩
theorem gZ:aR ["_law_one","_law_other","_law_a","_law_b"] ["_law_one","_law_other"] (ar i5):=⟨rfl,rfl,rfl,by decide +kernel,rfl,by decide +kernel,by decide +kernel⟩
theorem qF:aR ["_law_text","_law_pieces_here"] ["_law_text","_law_pieces_here"] (ar i6):=⟨rfl,rfl,rfl,by decide +kernel,rfl,by decide +kernel,by decide +kernel⟩
theorem cf:aR ["_law_deck_here","_law_first_here","_law_many","_law_letters","_law_words_here","_law_turn"] ["_law_deck_here"] (ar fA):=⟨rfl,rfl,rfl,by decide +kernel,rfl,by decide +kernel,by decide +kernel⟩
theorem aK:aR ["_law_deck_here","_law_left","_law_signs_here","_law_k","_law_a","_law_b","_law_c","_law_d","_law_times","_law_words_here","_law_turn"] ["_law_deck_here"] (ar dX):=⟨rfl,rfl,rfl,by decide +kernel,rfl,by decide +kernel,by decide +kernel⟩
theorem fM:aR ["_law_script","_law_deck_here","_law_pieces_here","_law_words_here","_law_table_here","_law_long","_law_told","_law_texts","_law_ahead","_law_one","_law_other","_law_sort"] ["_law_script"] (ar ze):=⟨rfl,rfl,rfl,by decide +kernel,rfl,by decide +kernel,by decide +kernel⟩
structure Txt (mg:Str->Option Value):Prop where
 b_all:mg "all"=none
 b_any:mg "any"=none
 b_bool:mg "bool"=none
 b_enumerate:mg "enumerate"=none
 b_isinstance:mg "isinstance"=none
 b_len:mg "len"=none
 b_list:mg "list"=none
 b_max:mg "max"=none
 b_min:mg "min"=none
 b_range:mg "range"=none
 b_reversed:mg "reversed"=none
 b_sorted:mg "sorted"=none
 b_str:mg "str"=none
 b_sum:mg "sum"=none
 b_tuple:mg "tuple"=none
 b_zip:mg "zip"=none
 g_MOST_PIECES:∃t,mg "MOST_PIECES"=some (.int 40 t)
 g_MOST_SHORTEST_WORDS:∃t,mg "MOST_SHORTEST_WORDS"=some (.int 12 t)
 g_MOST_SIGNS:∃t,mg "MOST_SIGNS"=some (.int 60 t)
structure TxC (K:PySem.W.Frag):Prop where
 cl_Family:Cls K (cJ K "Family")
 n_Family_pieces:eU K (cJ K "Family") "pieces"
 n_Family_kept:eU K (cJ K "Family") "kept"
 n_Family_words:eU K (cJ K "Family") "words"
 n_Family_left:eU K (cJ K "Family") "left"
 n_Family_laps:eU K (cJ K "Family") "laps"
 n_Family_total:eU K (cJ K "Family") "total"
local macro_rules | `(tactic| walk_at "s")=>`(tactic| first | (with_reducible omega) | (with_reducible assumption) | (with_reducible rfl) | exact le_of_ble_eq_true rfl | (simp only [length_cons,length_nil,length_append,length_map];(with_reducible omega)) | assumption | rfl | (refine ⟨?_,?_⟩ <;> first | (with_reducible omega) | (with_reducible assumption) | (with_reducible rfl) | exact le_of_ble_eq_true rfl | assumption | rfl | (refine ⟨?_,?_⟩ <;> first | (with_reducible omega) | (with_reducible assumption) | (with_reducible rfl) | exact le_of_ble_eq_true rfl | assumption | rfl | (refine ⟨?_,?_⟩ <;> first | (with_reducible omega) | (with_reducible assumption) | (with_reducible rfl) | exact le_of_ble_eq_true rfl | assumption | rfl | fail) | fail) | fail) | omega | fail)
local macro_rules | `(tactic| walk_at "r")=>`(tactic| ((try dsimp only [set_cons_zero,set_cons_succ,wQ,wR,wS,DZ,D0,qq,nr,nt,tP,tQ,tail_cons,qs,qt,tR,xi,xj,zS]);(conv=>whnf);(repeat (first | ((with_reducible refine And.intro ?_ ?_);(next=>walk_at "s");(conv=>whnf)) | ((with_reducible refine (show Exists _ from ?_));(first | (refine ⟨_,rfl,?_⟩) | (refine ⟨_,ve.lst _,?_⟩) | (refine ⟨_,ve.tup _,?_⟩));(conv=>whnf)) | ((refine (show gL _ _ _ from ?_));(first | (with_reducible refine Gv (by assumption) ?_) | (with_reducible refine Gw (by assumption) ?_) | (with_reducible refine E5 (by assumption) ?_) | (with_reducible refine AY (by assumption) ?_) | ((with_reducible refine E3 ?_ ?_);(next=>(first | (with_reducible rfl) | (with_reducible assumption) | (with_reducible omega)))) | ((with_reducible refine E4 ?_ ?_);(next=>(first | (with_reducible rfl) | (with_reducible assumption) | (with_reducible omega)))) | ((with_reducible refine Dp ?_ ?_);(next=>(first | (with_reducible rfl) | (with_reducible assumption) | (with_reducible omega)))) | ((with_reducible refine Dq ?_ ?_);(next=>(first | (with_reducible rfl) | (with_reducible assumption) | (with_reducible omega)))));(conv=>whnf))));(try refine (show gL _ _ _ from ?_));(try dsimp only [set_cons_zero,set_cons_succ,wQ,wR,wS,DZ,D0,qq,nr,nt,tP,tQ,tail_cons,qs,qt,tR,xi,xj,zS])))
def nG:Nat:=1
theorem xr(m i:Nat):Builtin.bitAnd ((m:Int) / 2^(i:Int).toNat) 1=if m.testBit i then 1 else 0:=by
 have e:(m:Int) / 2^(i:Int).toNat=((m / 2^i:Nat):Int):=by
  rw [toNat_natCast,natCast_ediv,natCast_pow];rfl
 rw [e];generalize hq:m / 2^i=q
 have h:Builtin.bitAnd (q:Int) 1=((q &&& 1:Nat):Int):=by
  unfold Builtin.bitAnd;simp
 rw [h,and_one_is_mod]
 have ht:m.testBit i=decide (q % 2=1):=by
  rw [testBit_eq_decide_div_mod_eq,hq]
 rw [ht]
 by_cases c:q % 2=1
 .rw [decide_eq_true c,if_pos rfl,c];rfl
 .rw [decide_eq_false c,if_neg (by decide),show q % 2=0 by omega];rfl
def mem(m:Nat):List Nat:=(List.range 8).filter m.testBit
theorem mem_iff{m j:Nat}(hm:m<256):j∈mem m ↔ m.testBit j=true:=by
 unfold mem;rw [mem_filter,mem_range];refine⟨fun h=>h.2,fun h=>⟨?_,h⟩⟩
 rcases lt_or_ge j 8 with h8|h8
 .exact h8
 .rw [testBit_lt_two_pow (lt_of_lt_of_le hm (show 2^8<=2^j from pow_le_pow_right (n:=2) (by decide) h8))] at h;cases h
theorem sh:∀m:_root_.Fin 256,∀i:_root_.Fin 8,m.1.testBit i.1=true->2^i.1<=m.1/\∀j:_root_.Fin 8,(m.1 - 2^i.1).testBit j.1=(decide (j.1≠i.1) && m.1.testBit j.1):=by decide +kernel
theorem nH{m n i:Nat}(hm:m<2^n)(h:m.testBit i=true):i<n:=by
 rcases lt_or_ge i n with h2|h2
 .exact h2
 .rw [testBit_lt_two_pow (lt_of_lt_of_le hm (pow_le_pow_right (n:=2) (by decide) h2))] at h;cases h
theorem jZ{n:Nat}(h:n<=8):2^n<=256:=pow_le_pow_right (n:=2) (by decide) h
def uX(l:List Int):Int:=l.foldl max (l.headD 0)
theorem qG:∀(l:List Int) (b:Int),(l.foldl max b=b\/l.foldl max b∈l)/\b<=l.foldl max b/\∀a∈l,a<=l.foldl max b
 | [],b=>⟨.inl rfl,Int.le_refl _,fun a h=>nomatch h⟩
 | a::l,b=>by
  obtain⟨h1,h2,h3⟩:=qG l (max b a);rw [foldl_cons]
  refine⟨?_,by omega,fun c hc=>?_⟩
  .rcases h1 with h1|h1
   .rw [h1]
    rcases Int.le_total a b with h|h
    .exact .inl (by omega)
    .exact .inr (by rw [show max b a=a by omega];exact mem_cons_self)
   .exact .inr (mem_cons_of_mem _ h1)
  .rcases mem_cons.mp hc with rfl|hc
   .omega
   .exact h3 c hc
theorem lK{l:List Int}(h:0<l.length):uX l∈l/\∀a∈l,a<=uX l:=by
 cases l with
 | nil=>exact absurd h (by decide)
 | cons a l =>
  obtain⟨h1,h2,h3⟩:=qG (a::l) a;refine⟨?_,h3⟩
  rcases h1 with h1|h1
  .show List.foldl max a (a::l)∈_;rw [h1];exact mem_cons_self
  .exact h1
theorem xt{l:List Int}{m:Int}(h:m∈l)(h2:∀a∈l,a<=m):m=uX l:=by
 obtain⟨h3,h4⟩:=lK (length_pos_of_mem h);have:=h2 _ h3;have:=h4 _ h;omega
def cell(tb:List (List Int))(m i:Nat):Int:=(tb.getD m []).getD i 0
def lp(ws:List (List Nat))(j i:Nat):Int:=(dS (pw ws j) (pw ws i):Int)
def h7(ws:List (List Nat))(tb:List (List Int))(m i:Nat):List Int:=(mem (m - 2^i)).map fun j=>cell tb (m - 2^i) j+lp ws j i
def nd(ws:List (List Nat))(tb:List (List Int))(m i:Nat):Int:=uX (0::h7 ws tb m i)
theorem BN{L:List Int}{i:Nat}(h:i<L.length):atI (L.map D.int) (i:Int)=some (.int (L.getD i 0)):=by
 refine gK (j:=i) ?_ rfl;rw [getElem?_map,getElem?_eq_getElem h,getD_eq_getElem?_getD,getElem?_eq_getElem h];rfl
theorem Ee{ws:List (List Nat)}{w:List Nat}{i:Nat}(h:i<ws.length):atI (ws.map fun v=>D.int (dS w v:Int)) (i:Int)=some (.int (dS w (pw ws i):Int)):=by
 refine gK (j:=i) ?_ rfl;rw [getElem?_map,getElem?_eq_getElem h];unfold pw;rw [getD_eq_getElem?_getD,getElem?_eq_getElem h];rfl
theorem BO(m:Nat):((mem m).map nD).length<=8:=by
 rw [length_map];exact Nat.le_trans (length_filter_le ..) (by rw [length_range];exact Nat.le_refl _)
theorem qH{k:Nat}(h:k<4096):k<2^lF (k:Int)/\lF (k:Int)<=12:=by
 unfold lF
 by_cases c:k=0
 .subst c;exact⟨by decide,by decide⟩
 .have e:((k:Int) == 0)=false:=by rw [beq_eq_false_iff_ne];omega
  rw [e,if_neg (by decide),natAbs_natCast];refine⟨lt_log2_self,?_⟩;have:=(log2_lt c (k:=12)).mpr h;omega
theorem uY{k:Nat}(h:k<4096):(List.range (lF (k:Int))).filter k.testBit=jK k:=by
 obtain⟨h1,h2⟩:=qH h;unfold jK;generalize lF (k:Int)=n at h1 h2;obtain⟨d,hd⟩:∃d,12=n+d:=⟨12 - n,by omega⟩
 have:∀d,(List.range (n+d)).filter k.testBit=(List.range n).filter k.testBit:=fun d=>by
  induction d with
  | zero=>rfl
  | succ d ih =>
   rw [<- add_assoc,range_succ,filter_append,ih,filter_cons,if_neg]
   .simp
   .intro z;have:=oV h1 z;omega
 rw [hd,this d]
theorem FE(n:Nat):(1:Int)*2^(n:Int).toNat=((2^n:Nat):Int):=by rw [toNat_natCast,Int.one_mul,natCast_pow];rfl
theorem qI(k:Nat):(jK k).length<=12:=by
 unfold jK;refine Nat.le_trans (length_filter_le ..) ?_;rw [length_range];exact Nat.le_refl _
def cv:FN
 | [.int m],Q=>∃k:Nat,m=(k:Int)/\k<4096/\Q (.own ((jK k).map nD))
 | _,_=>False
def lL:Nat:=2
def bq:FN
 | [.str a,.str b],Q=>Q (.dat (.bl (ahB a b)))
 | _,_=>False
def lM:Nat:=3
def bz:FN
 | [.lst ds],Q=>∃ts:List (List Nat),ds=ts.map .str/\(ts≠[]/\ts.length<=100000)/\∀t,Lst (·∈ts) t->Q (.dat (.str t))
 | _,_=>False
def e6:Nat:=1
def aT:FN
 | [.obj c ns fs],Q=>c="Family"/\ns=yO/\∃ps:List (List Nat),fs=yP ps/\(ah ps).length<=12/\Q (.dat .non)
 | _,_=>False
def lN:Nat:=2
def hdD(w:Nat)(hd:Nat->Nat->List Nat):List D:=(List.range w).map fun i=>.lst ((List.range w).map fun j=>.str (hd i j))
theorem z0{α β:Type}[Inhabited α](f:List Nat->β)(ws:List (List Nat)):ws.map f=(List.range ws.length).map fun i=>f (pw ws i):=by
 refine ext_getElem (by rw [length_map,length_map,length_range]) fun i h1 h2=>?_;rw [length_map] at h1;rw [getElem_map,getElem_map,getElem_range];congr 1;exact Option.some.inj ((getElem?_eq_getElem h1).symm.trans (dQ h1))
def cC:FN
 | [.tup ds,.tup ls],Q=>∃ws:List (List Nat),ds=ws.map .str/\(.tup ls=qp ws/\ws.length<=200/\∀w∈ws,0<w.length/\w.length<=60)/\Q (.dat (.lst (hdD ws.length (hdW ws))))
 | _,_=>False
def kg:Nat:=1
def chD(c:List (Nat×Nat)):D:=.lst (c.map fun p=>.tup [nD p.1,nD p.2])
def Gk(L:List (List (Nat×Nat))):D:=.lst (L.map chD)
def bS:FN
 | [.int m],Q=>∃k:Nat,m=(k:Int)/\k<=12/\Q (.dat (Gk (jM k)))
 | _,_=>False
def lO:Nat:=6
structure lP (L:List (List (Nat×Nat))) (hd:Nat->Nat->List Nat) (ls:Nat->List Nat) (w k:Nat) (es:List (List (List Nat))):Prop where
 len:es.length=k
 wid:∀n,n<k->(es.getD n []).length=w
 lst:∀n,n<k->∀i,i<w->Lst (Cg L hd ls n i) ((es.getD n []).getD i [])
def esD(es:List (List (List Nat))):List D:=es.map fun e=>.lst (e.map .str)
structure i8 (L:List (List (Nat×Nat))) (w:Nat):Prop where
 many:L.length<=4096
 ch:∀n,∀p∈L.getD n [],p.1<w/\p.2<n
 few:∀n,(L.getD n []).length<=100
theorem lP.snoc{L:List (List (Nat×Nat))}{hd:Nat->Nat->List Nat}{ls:Nat->List Nat}{w k:Nat}{es:List (List (List Nat))}(h:lP L hd ls w k es){e:List (List Nat)}(hw:e.length=w)(he:∀i,i<w->Lst (Cg L hd ls k i) (e.getD i [])):lP L hd ls w (k+1) (es++[e]):=by
 have g1:∀n,n<k->(es++[e]).getD n []=es.getD n []:=fun n hn=>by rw [getD_eq_getElem?_getD,getElem?_append_left (by rw [h.len];exact hn),<- getD_eq_getElem?_getD]
 have g2:(es++[e]).getD k []=e:=by rw [getD_eq_getElem?_getD,getElem?_append_right (by rw [h.len];exact Nat.le_refl _),h.len,sub_self];rfl
 refine⟨by rw [length_append,h.len];rfl,fun n hn=>?_,fun n hn i hi=>?_⟩
 .by_cases c:n<k
  .rw [g1 n c];exact h.wid n c
  .rw [show n=k by omega,g2];exact hw
 .by_cases c:n<k
  .rw [g1 n c];exact h.lst n c i hi
  .rw [show n=k by omega,g2];exact he i hi
theorem lP.txt{L:List (List (Nat×Nat))}{hd:Nat->Nat->List Nat}{ls:Nat->List Nat}{w k:Nat}{es:List (List (List Nat))}(h:lP L hd ls w k es)(hL:i8 L w)(h1:∀i j,(hd i j).length<=60)(h2:∀i,(ls i).length<=60){n i:Nat}(hn:n<k)(hk:n<=4096)(hi:i<w):((es.getD n []).getD i []).length<=300000:=by
 obtain⟨⟨js,hw,e⟩,_⟩:=h.lst n hn i hi;rw [e];have:=xn (w:=w) h1 h2 js i;have:=BI (fun n p hp=>(hL.ch n p hp).2) hw;omega
theorem Aa{L:List (List (Nat×Nat))}{k:Nat}(h:k<L.length):itD (L.map chD) k=chD (L.getD k []):=gw (by rw [getElem?_map,getElem?_eq_getElem h,getD_eq_getElem?_getD,getElem?_eq_getElem h];rfl)
theorem Ab{es:List (List (List Nat))}{n:Nat}(h:n<es.length):atI (esD es) (n:Int)=some (.lst ((es.getD n []).map .str)):=gK (j:=n) (by unfold esD;rw [getElem?_map,getElem?_eq_getElem h,getD_eq_getElem?_getD,getElem?_eq_getElem h];rfl) rfl
theorem Ef{w:Nat}{hd:Nat->Nat->List Nat}{i j:Nat}(hj:j<w):atI ((List.range w).map fun j=>D.str (hd i j)) (j:Int)=some (.str (hd i j)):=gK (j:=j) (by rw [getElem?_map,getElem?_range hj];rfl) rfl
def zf(ts:List (List Nat)):List Nat:=open Classical in if h:ts≠[] then Classical.choose (zT h) else []
theorem uc{ts:List (List Nat)}(h:ts≠[]):Lst (·∈ts) (zf ts):=by unfold zf;rw [dif_pos h];exact Classical.choose_spec (zT h)
theorem Ac{w:Nat}{f:Nat->List Nat}{i:Nat}(h:i<w):((List.range w).map f).getD i []=f i:=by rw [getD_eq_getElem?_getD,getElem?_map,getElem?_range h];rfl
def cD:FN
 | [.lst hs,la,.lst cs],Q=>∃(w:Nat) (hd:Nat->Nat->List Nat),hs=hdD w hd/\∃L:List (List (Nat×Nat)),cs=L.map chD/\∃ls:Nat->List Nat,(ve la ((List.range w).map fun i=>.str (ls i))/\i8 L w/\(∀i j,(hd i j).length<=60)/\(∀i,(ls i).length<=60)/\w<=200)/\∀es:List (List (List Nat)),lP L hd ls w L.length es->Q (.dat (.lst (esD es)))
 | _,_=>False
def gA:Nat:=4
theorem Eg{ws:List (List Nat)}(hw:∀w∈ws,0<w.length/\w.length<=60)(i j:Nat):(hdW ws i j).length<=60:=by
 unfold hdW;rw [length_take];have:=Bw (fun w h=>(hw w h).2) i;omega
theorem Eh{ws:List (List Nat)}(hw:∀w∈ws,0<w.length/\w.length<=60){L:List (List (Nat×Nat))}(hL:i8 L ws.length){n:Nat}(hn:L.getD n []≠[]){t:List Nat}(h:Lst (fun u=>∃j js,Way L n (j::js)/\u=tlG (hdW ws) (pw ws) j js) t):Lst (fun u=>∃js,Way L n js/\u=glN ws js) t:=by
 have hp:∀i,i<ws.length->0<(pw ws i).length:=fun i hi=>(hw _ (dD hi)).1
 refine h.congr fun u=>⟨fun ⟨j,js,w,e⟩=>?_,fun ⟨js,w,e⟩=>?_⟩
 .have hl:=zU (fun n p hp=>(hL.ch n p hp).1) w;exact⟨j::js,w,by rw [e,xm js j (hp j (hl j mem_cons_self)) fun k hk=>hp k (hl k (mem_cons_of_mem _ hk))]⟩
 .cases js with
  | nil=>cases w with|nil z=>exact absurd z hn
  | cons j js =>
   have hl:=zU (fun n p hp=>(hL.ch n p hp).1) w;exact⟨j,js,w,by rw [e,xm js j (hp j (hl j mem_cons_self)) fun k hk=>hp k (hl k (mem_cons_of_mem _ hk))]⟩
theorem BP{ws:List (List Nat)}{L:List (List (Nat×Nat))}{n:Nat}(hn:L.getD n []=[]):Lst (fun u=>∃js,Way L n js/\u=glN ws js) []:=by
 refine⟨⟨[],.nil hn,rfl⟩,fun u ⟨js,w,e⟩=>?_⟩
 cases w with
 | nil _=>rw [e];exact nu _
 | cons m _=>rw [hn] at m;cases m
theorem xu{ds:List D}(h:0<ds.length):atI ds (-1)=some (itD ds (ds.length - 1)):=by
 unfold atI ixN;rw [if_neg (by decide),if_pos (by omega),show ((-1:Int)+(ds.length:Int)).toNat=ds.length - 1 by omega];unfold itD;show ds[ds.length - 1]?=_;rw [getD_eq_getElem?_getD,getElem?_eq_getElem (by omega)];rfl
def bc:FN
 | [.tup ds,.tup ls,.lst cs],Q=>∃ws:List (List Nat),ds=ws.map .str/\∃L:List (List (Nat×Nat)),cs=L.map chD/\(.tup ls=qp ws/\ws.length<=200/\(∀w∈ws,0<w.length/\w.length<=60)/\i8 L ws.length/\0<L.length)/\∀t,Lst (fun u=>∃js,Way L (L.length - 1) js/\u=glN ws js) t->Q (.dat (.str t))
 | _,_=>False
def lQ:Nat:=1
theorem jo(n:Nat):(jM n).length=2^n:=by unfold jM;rw [length_map,length_range]
theorem zg{n:Nat}(h:n<=12):i8 (jM n) n :=
 ⟨by rw [jo];exact pow_le_pow_right (n:=2) (by decide) h,fun m p hp=>⟨(oW h hp).2.1,(oW h hp).2.2.1⟩,fun m=>by
  by_cases c:m<2^n
  .rw [jk c,length_map];exact Nat.le_trans (qI m) (by decide)
  .rw [getD_eq_getElem?_getD,getElem?_eq_none (by rw [jo];omega)];exact zero_le _⟩
def aS:FN
 | [.obj c ns fs],Q=>c="Family"/\ns=yO/\∃ps:List (List Nat),fs=yP ps/\(Pcs 60 ps/\(ah ps).length<=12)/\∀t,Lst (uS ps) t->Q (.dat (.str t))
 | _,_=>False
def Ad:Nat:=3
def gB:FN
 | [.str a,.str b],Q=>(0<a.length/\a.length<=10000)/\(0<b.length/\b.length<=10000)/\Q (.dat (.int (dS a b:Int)))
 | _,_=>False
def lR:Nat:=1
def cE:FN
 | [.tup ds],Q=>∃ws:List (List Nat),ds=ws.map .str/\(ws.length<=1000/\∀w∈ws,0<w.length/\w.length<=10000)/\Q (.dat (qp ws))
 | _,_=>False
def nI:Nat:=3
def de:FN
 | [d,.int a,.int b],Q=>d.sort=true/\Fu d<=1000000/\Q (.dat (.bl (yB d a b)))
 | _,_=>False
def iD:Nat:=2
def aV:FN
 | [.str a,.str b],Q=>Q (.dat (.int (fnd a b 0)))
 | _,_=>False
def h9:Nat:=3
def bn:FN
 | [d],Q=>∃ws:List (List Nat),ve d (ws.map .str)/\(ws.length<=40/\Pcs 60 ws)/\Q (.dat .non)
 | _,_=>False
def gC:Nat:=2
def aI:FN
 | [.str a,.str b],Q=>Q (.dat (.bl (eC a b)))
 | _,_=>False
def nJ:Nat:=4
def cL:FN
 | [.tup ds,.int i],Q=>∃ws:List (List Nat),ds=ws.map .str/\(ws.length<=1000/\∀w∈ws,w.length<=10000)/\(0<=i/\i<(ws.length:Int))/\Q (.dat (.bl (dG ws i.toNat)))
 | _,_=>False
def lS:Nat:=4
def cg:FN
 | [.tup ds,.tup ks,.int i],Q=>∃ws:List (List Nat),ds=ws.map .str/\ks=(aQ ws).map nD/\(ws.length<=1000/\∀w∈ws,w.length<=60)/\(0<=i/\i<(ws.length:Int))/\Q (.dat (eO ws i.toNat))
 | _,_=>False
def iF:Nat:=3
def aO:FR
 | .ins "Family" [] [],[d],Q=>∃ws:List (List Nat),ve d (ws.map .str)/\(ws.length<=40/\Pcs 60 ws)/\Q (.dat .non) (.ins "Family" yO (yP ws))
 | _,_,_=>False
def iG:Nat:=1
def aW:FN
 | [.obj c ns fs],Q=>c="Family"/\ns=yO/\∃ws:List (List Nat),fs=yP ws/\Q (.dat (.int ((ah ws).length:Int)))
 | _,_=>False
def kh:Nat:=3
def Dk(zs:List Int):Prop:=∀x∈zs,0<=x/\x<1000
def bT:FN
 | [.int c,.int k],Q=>(0<=k/\k<=100000)/\∀z:Int,0<=z->Q (.dat (.int z))
 | _,_=>False
def lT:Nat:=7
def cF:FN
 | [.scr ns,.int mo],Q=>(ns.length<=64/\0<=mo/\mo<=2000)/\∀zs:List Int,Dk zs->zs.length=mo.toNat->Q (.own (zs.map .int))
 | _,_=>False
def lU:Nat:=1
def aB:FR
 | .own ds,[],Q=>∃zs:List Int,ds=zs.map .int/\(Dk zs/\0<zs.length/\zs.length<=100000)/\∀(z:Int) (ys:List Int),0<=z->z<1000->Dk ys->ys.length+1=zs.length->Q (.dat (.int z)) (.own (ys.map .int))
 | _,_,_=>False
def ki:Nat:=5
def bt:FR
 | .own ds,[L,.int n],Q=>∃zs:List Int,ds=zs.map .int/\(match L with
 | .lst es=>∃ls:List Nat,es=ls.map (fun c=>.str [c])/\(0<ls.length/\ls.length<=26/\Lts ls)/\(Dk zs/\zs.length<=100000)/\(0<=n/\n<=(zs.length:Int))/\∀(w:List Nat) (ys:List Int),w.length=n.toNat->Lts w->(∀c∈w,c∈ls)->Dk ys->ys.length+n.toNat=zs.length->Q (.dat (.str w)) (.own (ys.map .int))
 | .str ls=>(0<ls.length/\ls.length<=26/\Lts ls)/\(Dk zs/\zs.length<=100000)/\(0<=n/\n<=(zs.length:Int))/\∀(w:List Nat) (ys:List Int),w.length=n.toNat->Lts w->(∀c∈w,c∈ls)->Dk ys->ys.length+n.toNat=zs.length->Q (.dat (.str w)) (.own (ys.map .int))
 | _=>False)
 | _,_,_=>False
def jp:Nat:=12
def iu(n f:Nat):List Nat:=(List.range n).map fun k=>97+(f+7*k) % 26
theorem qJ(n f:Nat):Lts (iu n f):=fun c hc=>by
 obtain⟨k,_,rfl⟩:=mem_map.mp hc;have:=mod_lt (f+7*k) (show 0<26 by decide);exact⟨by omega,by omega⟩
theorem Ae{j:Nat}(h:j<26):atI [97,98,99,100,101,102,103,104,105,106,107,108,109,110,111,112,113,114,115,116,117,118,119,120,121,122] (j:Int)=some (97+j):=by
 have:∀j:Fin 26,atI [97,98,99,100,101,102,103,104,105,106,107,108,109,110,111,112,113,114,115,116,117,118,119,120,121,122] (j.1:Int)=some (97+j.1):=by decide +kernel
 exact this ⟨j,h⟩
theorem kW{ls:List Nat}{j:Nat}(h:j<ls.length):atI (ls.map fun c=>D.str [c]) (j:Int)=some (.str [ls.getD j 0]) :=
 gK (j:=j) (by rw [getElem?_map,getElem?_eq_getElem h,getD_eq_getElem?_getD,getElem?_eq_getElem h];rfl) rfl
theorem ud{ls:List Nat}(hL:Lts ls){j:Nat}(h:j<ls.length):Lts [ls.getD j 0]:=by
 rw [getD_eq_getElem?_getD,getElem?_eq_getElem h];exact Lts.one (hL _ (getElem_mem h))
def bQ:FR
 | .own ds,[.int mo],Q=>∃zs:List Int,ds=zs.map .int/\(Dk zs/\zs.length<=10000)/\(0<=mo/\mo<=39/\16+7*mo<=(zs.length:Int))/\∀(ps:List (List Nat)) (ys:List Int),(ps.length:Int)<=mo->Pcs 60 ps->Dk ys->(zs.length:Int)<=ys.length+16+7*mo->ys.length<=zs.length->Q (.dat (.lst (ps.map .str))) (.own (ys.map .int))
 | _,_,_=>False
def kj:Nat:=5
theorem BQ{ps:List (List Nat)}{k:Nat}:dG ps k=(decide ((ps.filter fun o=>decide ((pw ps k).length<o.length) && eC (pw ps k) o)=[]) && !decide (pw ps k∈ps.take k)):=by
 unfold dG;rw [Bool.and_comm];congr 1
 cases hf:(ps.filter fun o=>decide ((pw ps k).length<o.length) && eC (pw ps k) o) with
 | nil =>
  rw [decide_eq_true rfl,Bool.not_eq_true',any_eq_false];intro o ho z;obtain⟨m1,m2⟩:=mem_filter.mp ho;have:o∈ps.filter fun o=>decide ((pw ps k).length<o.length) && eC (pw ps k) o:=mem_filter.mpr ⟨m1,by rw [m2];exact z⟩;rw [hf] at this;cases this
 | cons o r =>
  rw [decide_eq_false (fun z=>nomatch z)];have:o∈ps.filter fun o=>decide ((pw ps k).length<o.length) && eC (pw ps k) o:=by rw [hf];exact mem_cons_self ..
  obtain⟨m1,m2⟩:=mem_filter.mp this;rw [and_eq_true] at m2;rw [Bool.not_eq_false',any_eq_true];exact⟨o,mem_filter.mpr ⟨m1,m2.1⟩,m2.2⟩
theorem lV{ws:List (List Nat)}(h:∀w∈ws,Lts w):vd (.lst (ws.map .str)) (.lst []):=vd.of (Sh.lstS h) (Sh.lstI [])
theorem kl(ws:List (List Nat)):deq (.lst (ws.map .str)) (.lst [])=decide (ws=[]):=by
 show PyData.eqv (.list (D.pys (ws.map .str))) (.list [])=_;rw [rR];cases ws <;> simp [PyData.eqv,PyData.eqvAll]
def bU:FN
 | [.lst ds],Q=>∃ps:List (List Nat),ds=ps.map .str/\(ps.length<=40/\∀w∈ps,w.length<=60/\Lts w)/\Q (.dat (.lst ((ah ps).map .str)))
 | _,_=>False
def nK:Nat:=3
def bG:FN
 | [.str a,.str b],Q=>a.length<=10000/\(0<b.length/\b.length<=10000)/\Q (.dat (.int (dS a b:Int)))
 | _,_=>False
def lW:Nat:=1
abbrev si(r:List Int):D:=.lst (r.map .int)
abbrev FF(ws:List (List Nat))(w:List Nat):D:=.lst (ws.map fun v=>.int (dS w v:Int))
abbrev kH(ws:List (List Nat)):List D:=ws.map (FF ws)
theorem zh{ws:List (List Nat)}{i:Nat}(h:i<ws.length):atI (kH ws) (i:Int)=some (FF ws (pw ws i)):=by
 refine gK (j:=i) ?_ rfl;rw [getElem?_map,getElem?_eq_getElem h];unfold pw;rw [getD_eq_getElem?_getD,getElem?_eq_getElem h];rfl
def Ch(ws:List (List Nat)):Prop:=ws.length<=40/\∀w∈ws,0<w.length/\w.length<=60
theorem Ch.at{ws:List (List Nat)}(h:Ch ws){i:Nat}(hi:i<ws.length):0<(pw ws i).length/\(pw ws i).length<=60:=h.2 _ (dD hi)
theorem Af{α:Type}{l:List α}{k:Nat}{d:α}(h:k<l.length):l.getD k d∈l:=mem_of_getElem? (show l[k]?=some (l.getD k d) by rw [getD_eq_getElem?_getD,getElem?_eq_getElem h];rfl)
theorem Ei{α:Type}{l:List α}{d x:α}(h:x∈l):∃i,i<l.length/\l.getD i d=x:=by
 obtain⟨i,hi,e⟩:=mem_iff_getElem.mp h;exact⟨i,hi,by rw [getD_eq_getElem?_getD,getElem?_eq_getElem hi];exact e⟩
theorem GE{ps:List (List Nat)}(hl:ps.length<=40)(h:Pcs 60 ps):Ch (ah ps):=⟨Nat.le_trans (dU ps) hl,fun w hw=>⟨(dE h w hw).1,(dE h w hw).2.1⟩⟩
def cG:FN
 | [.lst ds],Q=>∃ws:List (List Nat),ds=ws.map .str/\Ch ws/\Q (.dat (.lst (kH ws)))
 | _,_=>False
def iH:Nat:=8
theorem xv(js:List Nat):js.map nD=(js.map fun j=>((j:Nat):Int)).map D.int:=by rw [map_map];rfl
theorem xw(rs:List Nat):vd (.lst (rs.map nD)) (.lst []):=by rw [xv];exact vd.of (Sh.lstI _) (Sh.lstI [])
theorem BR(rs:List Nat):deq (.lst (rs.map nD)) (.lst [])=decide (rs=[]):=by
 rw [xv,show (D.lst [])=D.lst (([]:List Int).map D.int) from rfl,yS];exact decide_eq_decide.mpr ⟨fun z=>by simpa using z,fun z=>by rw [z];rfl⟩
def xM(ws:List (List Nat))(js:List Nat):List Nat:=if js.length=0 then [] else pw ws (js.getD (js.length - 1) 0)
theorem zi(ws:List (List Nat))(js:List Nat)(j:Nat):xM ws (js++[j])=pw ws j:=by
 unfold xM;rw [length_append,if_neg (by show ¬ (js.length+1=0);omega),show js.length+[j].length - 1=js.length from rfl,getD_eq_getElem?_getD,getElem?_append_right (Nat.le_refl _),sub_self];rfl
theorem BS(b:List Nat):dS [] b=0:=by
 unfold dS;rw [dif_neg];rintro⟨k,hk⟩;have:=hk.1;simp at this
def bx:FR
 | .own ds,[.lst es],Q=>∃zs:List Int,ds=zs.map .int/\∃ws:List (List Nat),es=ws.map .str/\(Ch ws/\Dk zs/\3*ws.length+3<=zs.length/\zs.length<=10000)/\∀(t:List Nat) (ys:List Int),(∀w∈ws,w <:+: t)->t.length<=4000->Dk ys->zs.length<=ys.length+3*ws.length+3->ys.length<=zs.length->Q (.dat (.str t)) (.own (ys.map .int))
 | _,_,_=>False
def jq:Nat:=6
theorem BU{tb:List (List Int)}{m:Nat}(h:m<tb.length):atI (tb.map si) (m:Int)=some (si (tb.getD m [])):=by
 refine gK (j:=m) ?_ rfl;rw [getElem?_map,getElem?_eq_getElem h,getD_eq_getElem?_getD,getElem?_eq_getElem h];rfl
def bL:FN
 | [.lst ls,.lst td,.int m,.int i],Q=>∃ws:List (List Nat),ls=kH ws/\∃tb:List (List Int),td=tb.map si/\∃k:Nat,m=(k:Int)/\∃j:Nat,i=(j:Int)/\(ws.length<=8/\k<2^ws.length/\j<ws.length/\k.testBit j=true/\k - 2^j<tb.length/\∀r,r<tb.length->(tb.getD r []).length=ws.length)/\Q (.dat (.int (nd ws tb k j)))
 | _,_=>False
def km:Nat:=6
theorem xx{α:Type}{a b:List α}{m:Nat}{d:α}(h:m<a.length):(a++b).getD m d=a.getD m d:=by
 rw [getD_eq_getElem?_getD,getElem?_append_left h,<- getD_eq_getElem?_getD]
theorem xy{α:Type}(a:List α)(x d:α):(a++[x]).getD a.length d=x:=by
 rw [getD_eq_getElem?_getD,getElem?_append_right (Nat.le_refl _),sub_self];rfl
theorem o7{tb:List (List Int)}{r:List Int}{m:Nat}(h:m<tb.length)(i:Nat):cell (tb++[r]) m i=cell tb m i:=by
 unfold cell;rw [xx h]
structure FG (ws:List (List Nat)) (tb:List (List Int)):Prop where
 wid:∀r,r<tb.length->(tb.getD r []).length=ws.length
 on:∀m,m<tb.length->∀i,i<ws.length->m.testBit i=true->nd ws tb m i<=cell tb m i
 off:∀m,m<tb.length->∀i,i<ws.length->m.testBit i=false->cell tb m i=-1
theorem qK(tb:List (List Int))(r:List Int)(i:Nat):cell (tb++[r]) tb.length i=r.getD i 0:=by
 unfold cell;rw [xy]
theorem Ej{ws:List (List Nat)}{tb:List (List Int)}{r:List Int}{m i:Nat}(h:m<=tb.length)(hm:m<256)(hi:i<8)(hb:m.testBit i=true):nd ws (tb++[r]) m i=nd ws tb m i:=by
 have h1:=(sh ⟨m,hm⟩ ⟨i,hi⟩ hb).1;have h1:2^i<=m:=h1;have h2:0<2^i:=pow_pos (by decide);unfold nd h7;congr 2;exact map_congr_left fun j _=>by rw [o7 (by omega)]
theorem BV(n:Nat):kO [D.int (-1)] (n:Int)=(List.replicate n (-1:Int)).map D.int:=by rw [yC,map_replicate]
structure Exa (ws:List (List Nat)) (tb:List (List Int)):Prop where
 wid:∀r,r<tb.length->(tb.getD r []).length=ws.length
 on:∀m,m<tb.length->∀i,i<ws.length->m.testBit i=true->cell tb m i=nd ws tb m i
 off:∀m,m<tb.length->∀i,i<ws.length->m.testBit i=false->cell tb m i=-1
theorem Exa.good{ws:List (List Nat)}{tb:List (List Int)}(h:Exa ws tb):FG ws tb:=⟨h.wid,fun m hm i hi hb=>by rw [h.on m hm i hi hb];exact Int.le_refl _,h.off⟩
structure BW (ws:List (List Nat)) (tb:List (List Int)) (k i:Nat) (r:List Int):Prop where
 len:r.length=ws.length
 on:∀j,j<i->k.testBit j=true->r.getD j 0=nd ws tb k j
 off:∀j,j<ws.length->(i<=j\/k.testBit j=false)->r.getD j 0=-1
theorem xz{ws:List (List Nat)}{tb:List (List Int)}{k i:Nat}{r:List Int}(h:BW ws tb k i r)(hb:k.testBit i=false):BW ws tb k (i+1) r :=
 ⟨h.len,fun j hj hbj=>by
  by_cases e:j=i
  .subst e;rw [hb] at hbj;cases hbj
  .exact h.on j (by omega) hbj,fun j hj o=>h.off j hj (o.imp (fun z=>by omega) id)⟩
theorem zj{ws:List (List Nat)}{tb:List (List Int)}{k i:Nat}{r:List Int}(h:BW ws tb k i r)(hi:i<ws.length)(hb:k.testBit i=true):BW ws tb k (i+1) (r.set i (nd ws tb k i)):=by
 have g:∀j,(r.set i (nd ws tb k i)).getD j 0=if j=i then nd ws tb k i else r.getD j 0:=fun j=>by
  by_cases e:j=i
  .subst e;rw [if_pos rfl,getD_eq_getElem?_getD,getElem?_set_self (by rw [h.len];exact hi)];rfl
  .rw [if_neg e,getD_eq_getElem?_getD,getElem?_set_ne (Ne.symm e),<- getD_eq_getElem?_getD]
 refine⟨by rw [length_set];exact h.len,fun j hj hbj=>?_,fun j hj o=>?_⟩
 .rw [g]
  by_cases e:j=i
  .rw [if_pos e,e]
  .rw [if_neg e];exact h.on j (by omega) hbj
 .have e:j≠i:=fun e=>by
   rcases o with o|o
   .omega
   .rw [e,hb] at o;cases o
  rw [g,if_neg e];exact h.off j hj (o.imp (fun z=>by omega) id)
theorem xA{ws:List (List Nat)}{tb:List (List Int)}{r:List Int}(hn:ws.length<=8)(hk:tb.length<2^ws.length)(h:Exa ws tb)(hr:BW ws tb tb.length ws.length r):Exa ws (tb++[r]):=by
 have h256:=jZ hn;have hl:(tb++[r]).length=tb.length+1:=by rw [length_append];rfl
 refine⟨fun m hm=>?_,fun m hm i hi hb=>?_,fun m hm i hi hb=>?_⟩
 .rw [hl] at hm
  by_cases e:m<tb.length
  .rw [xx e];exact h.wid m e
  .rw [show m=tb.length by omega,xy];exact hr.len
 .rw [hl] at hm;rw [Ej (by omega) (by omega) (by omega) hb]
  by_cases e:m<tb.length
  .rw [o7 e];exact h.on m e i hi hb
  .have e:m=tb.length:=by omega
   subst e;rw [qK];exact hr.on i hi hb
 .rw [hl] at hm
  by_cases e:m<tb.length
  .rw [o7 e];exact h.off m e i hi hb
  .have e:m=tb.length:=by omega
   subst e;rw [qK];exact hr.off i hi (.inr hb)
theorem uZ(ws:List (List Nat))(tb:List (List Int))(k:Nat):BW ws tb k 0 (List.replicate ws.length (-1)) :=
 ⟨length_replicate,fun j hj=>absurd hj (not_lt_zero j),fun j hj _=>by rw [getD_eq_getElem?_getD,getElem?_replicate,if_pos hj];rfl⟩
def bV:FN
 | [.lst ls],Q=>∃ws:List (List Nat),ls=kH ws/\ws.length<=8/\∀(tb:List (List Int)),Exa ws tb->tb.length=2^ws.length->Q (.dat (.lst (tb.map si)))
 | _,_=>False
def kn:Nat:=4
theorem Ek(x y:Nat):([x]<[y]) ↔ x<y:=by
 rw [cons_lt_cons_iff];exact⟨fun h=>h.elim id fun h=>absurd h.2 (kf []),.inl⟩
theorem FH{a b:List Nat}{k:Nat}(hl:a.length=b.length)(hk:k<a.length)(hp:a.take k=b.take k)(hne:a.getD k 0≠b.getD k 0):ahB a b=decide (a.getD k 0<b.getD k 0):=by
 unfold ahB;rw [if_neg (fun z=>z hl)]
 have ea:a=a.take k++a.getD k 0::a.drop (k+1):=by
  conv=>lhs;rw [<- take_append_drop k a,drop_eq_getElem_cons hk]
  rw [getD_eq_getElem?_getD,getElem?_eq_getElem hk];rfl
 have eb:b=b.take k++b.getD k 0::b.drop (k+1):=by
  conv=>lhs;rw [<- take_append_drop k b,drop_eq_getElem_cons (by omega)]
  rw [getD_eq_getElem?_getD,getElem?_eq_getElem (by omega)];rfl
 refine decide_eq_decide.mpr ?_
 conv=>lhs;rw [ea,eb,hp]
 rw [qy,cons_lt_cons_iff];exact⟨fun h=>h.elim id fun h=>absurd h.1 hne,.inl⟩
theorem xB{a b:List Nat}{k:Nat}(hl:a.length=b.length)(hk:k<a.length)(hp:a.take k=b.take k)(he:a.getD k 0=b.getD k 0):a.take (k+1)=b.take (k+1):=by
 rw [take_succ,take_succ,hp,getElem?_eq_getElem hk,getElem?_eq_getElem (by omega)];rw [getD_eq_getElem?_getD,getD_eq_getElem?_getD,getElem?_eq_getElem hk,getElem?_eq_getElem (by omega)] at he;have he:a[k]=b[k]:=he;rw [he]
def bu:FN
 | [.str a,.str b],Q=>(a.length<=100000/\b.length<=100000)/\Q (.dat (.bl (ahB a b)))
 | _,_=>False
def ko:Nat:=2
theorem FG.nn{ws:List (List Nat)}{tb:List (List Int)}(h:FG ws tb){m i:Nat}(hm:m<tb.length)(hi:i<ws.length)(hb:m.testBit i=true):0<=cell tb m i:=by
 have h1:=h.on m hm i hi hb;have h2:=(lK (l:=0::h7 ws tb m i) (zero_lt_succ _)).2 0 mem_cons_self;unfold nd at h1;omega
theorem qL(ws:List (List Nat))(pre:List Nat)(l j:Nat):wY ws (pre++[l]++[j])=wY ws (pre++[l])+dS (pw ws l) (pw ws j):=by
 cases pre with
 | nil=>show dS _ _+0=0+_;omega
 | cons i r=>exact qv ws j i r l
def Mk(js:List Nat)(m:Nat):Prop:=js.Nodup/\∀i,i∈js ↔ m.testBit i=true
theorem Mk.snoc{js:List Nat}{l m:Nat}(hm:m<4096)(h:Mk (js++[l]) m):m.testBit l=true/\Mk js (m - 2^l):=by
 obtain⟨nd,hi⟩:=h;have hl:=(hi l).mp (by simp);obtain⟨_,hb⟩:=gW hm hl;have hn:=nodup_append.mp nd;refine⟨hl,hn.1,fun i=>?_⟩;rw [hb,and_eq_true,decide_eq_true_eq,<- hi,mem_append,mem_singleton];exact⟨fun h=>⟨.inl h,fun e=>hn.2.2 i h l (mem_singleton.mpr rfl) e⟩,fun h=>h.1.elim id fun e=>absurd e h.2⟩
theorem Mk.put{js:List Nat}{l m:Nat}(hm:m<4096)(hl:m.testBit l=true)(h:Mk js (m - 2^l)):Mk (js++[l]) m:=by
 obtain⟨nd,hi⟩:=h;obtain⟨_,hb⟩:=gW hm hl
 refine⟨nodup_append.mpr ⟨nd,nodup_cons.mpr ⟨not_mem_nil,nodup_nil⟩,fun x hx y hy e=>?_⟩,fun i=>?_⟩
 .rw [mem_singleton.mp hy] at e;have:=(hi x).mp hx;rw [hb,e,decide_eq_false (fun z=>z rfl),Bool.and_false] at this;cases this
 .rw [mem_append,hi,hb,and_eq_true,decide_eq_true_eq,mem_singleton]
  by_cases e:i=l
  .subst e;exact⟨fun _=>hl,fun _=>.inr rfl⟩
  .exact⟨fun h=>h.elim (fun h=>h.1) fun z=>absurd z e,fun h=>.inl ⟨h,e⟩⟩
theorem El{ws:List (List Nat)}{tb:List (List Int)}(h:Exa ws tb)(hn:ws.length<=8)(hl:tb.length=2^ws.length):∀(js:List Nat) (l m:Nat),Mk (js++[l]) m->m<tb.length->(wY ws (js++[l]):Int)<=cell tb m l:=fun js=>by
 have h256:=jZ hn
 induction js using L2.oQ with
 | h0 =>
  intro l m hk hm;have hb:=(hk.2 l).mp (by simp);exact h.good.nn hm (nH (Nat.lt_of_lt_of_eq hm hl) hb) hb
 | h1 js j ih =>
  intro l m hk hm;obtain⟨hb,hk'⟩:=hk.snoc (by omega);have hln:=nH (Nat.lt_of_lt_of_eq hm hl) hb;have hr:m - 2^l<tb.length:=lt_of_le_of_lt (sub_le _ _) hm;have hjb:=(hk'.2 j).mp (by simp);have i1:=ih j (m - 2^l) hk' hr;rw [h.on m hm l hln hb,qL];have h2:=(lK (l:=0::h7 ws tb m l) (zero_lt_succ _)).2 (cell tb (m - 2^l) j+lp ws j l) (mem_cons_of_mem _ (mem_map.mpr ⟨j,(mem_iff (by omega)).mpr hjb,rfl⟩))
  unfold nd;unfold lp at h2;omega
theorem Em{ws:List (List Nat)}{tb:List (List Int)}(h:Exa ws tb)(hn:ws.length<=8)(hl:tb.length=2^ws.length):∀(m l:Nat),m<tb.length->m.testBit l=true->∃js:List Nat,Mk (js++[l]) m/\(wY ws (js++[l]):Int)=cell tb m l:=fun m=>by
 have h256:=jZ hn
 induction m using Nat.strongRecOn with
 | ind m ih =>
  intro l hm hb;have hln:=nH (Nat.lt_of_lt_of_eq hm hl) hb;have hr:m - 2^l<tb.length:=lt_of_le_of_lt (sub_le _ _) hm;have h2:0<2^l:=pow_pos (by decide);have hle:=(gW (by omega) hb).1
  have step:∀j,j∈mem (m - 2^l)->cell tb (m - 2^l) j+lp ws j l=nd ws tb m l->∃js:List Nat,Mk (js++[l]) m/\(wY ws (js++[l]):Int)=cell tb m l:=fun j hj e=>by
   have hjb:=(mem_iff (by omega)).mp hj;obtain⟨js,k1,k2⟩:=ih (m - 2^l) (by omega) j hr hjb;refine⟨js++[j],k1.put (by omega) hb,?_⟩;rw [h.on m hm l hln hb,qL,<- e,<- k2];rfl
  cases hM:mem (m - 2^l) with
  | nil =>
   refine⟨[],⟨nodup_cons.mpr ⟨not_mem_nil,nodup_nil⟩,fun i=>?_⟩,?_⟩
   .show i∈[l] ↔ _;rw [mem_singleton];refine⟨fun e=>e ▸ hb,fun hi=>?_⟩
    by_cases e:i=l
    .exact e
    .have:i∈mem (m - 2^l):=(mem_iff (by omega)).mpr (by rw [(gW (by omega) hb).2,hi,decide_eq_true e];rfl);rw [hM] at this;cases this
   .rw [h.on m hm l hln hb];unfold nd h7;rw [hM];rfl
  | cons j0 r =>
   have hmx:=(lK (l:=0::h7 ws tb m l) (zero_lt_succ _))
   rcases mem_cons.mp hmx.1 with e|e
   .have h0:j0∈mem (m - 2^l):=by rw [hM];exact mem_cons_self
    have hjb:=(mem_iff (show m - 2^l<256 by omega)).mp h0;have n1:=h.good.nn hr (nH (Nat.lt_of_lt_of_eq hr hl) hjb) hjb;have n2:0<=lp ws j0 l:=natCast_nonneg _;have n3:=hmx.2 (cell tb (m - 2^l) j0+lp ws j0 l) (mem_cons_of_mem _ (mem_map.mpr ⟨j0,h0,rfl⟩));exact step j0 h0 (by unfold nd;omega)
   .obtain⟨j,hj,e2⟩:=mem_map.mp (show uX (0::h7 ws tb m l)∈(mem (m - 2^l)).map fun j=>cell tb (m - 2^l) j+lp ws j l from e);exact step j hj e2
theorem xC{js:List Nat}{n:Nat}:Mk js (2^n - 1) ↔ js.Perm (List.range n):=by
 constructor
 .rintro⟨nd,h⟩;refine (perm_ext_iff_of_nodup nd nodup_range).mpr fun i=>?_;rw [h,testBit_two_pow_sub_one,mem_range,decide_eq_true_eq]
 .intro h;refine⟨h.nodup_iff.mpr nodup_range,fun i=>?_⟩;rw [h.mem_iff,testBit_two_pow_sub_one,mem_range,decide_eq_true_eq]
theorem zk{ps:List (List Nat)}(hp:Pcs 60 ps){tb:List (List Int)}(h:Exa (ah ps) tb)(hn:(ah ps).length<=8)(hl:tb.length=2^(ah ps).length){t:List Nat}(ht:Lst (uS ps) t):(t.length:Int)=fV ps - uX (0::tb.getD (2^(ah ps).length - 1) []):=by
 have hg:=t6 hp ht;have hwp:=dE hp;have h0:0<2^(ah ps).length:=pow_pos (by decide);have hM:2^(ah ps).length - 1<tb.length:=by omega
 have hwid:=h.wid _ hM
 have len:∀js:List Nat,js.Perm (List.range (ah ps).length)->((glN (ah ps) js).length:Int)+wY (ah ps) js=fV ps:=fun js hj=>by
  have hpos:∀j∈js,0<(pw (ah ps) j).length:=fun j hk=>(hwp _ (dD (mem_range.mp (hj.mem_iff.mp hk)))).1;have e:=w9 hpos;have e2:(js.map fun j=>(pw (ah ps) j).length).sum=((List.range (ah ps).length).map fun j=>(pw (ah ps) j).length).sum:=(hj.map _).sum_nat
  have e3:(List.range (ah ps).length).map (fun j=>(pw (ah ps) j).length)=(ah ps).map List.length:=by
   conv=>rhs;rw [<- nk (ah ps),map_map]
   rfl
  have e4:∀l:List (List Nat),(l.map fun w=>(w.length:Int)).sum=((l.map List.length).sum:Int):=fun l=>by
   induction l with
   | nil=>rfl
   | cons a r ih=>rw [map_cons,sum_cons,ih,map_cons,sum_cons];omega
  unfold fV;rw [e4,<- e3,<- e2,<- e];omega
 have cl:∀l,l<(ah ps).length->cell tb (2^(ah ps).length - 1) l∈tb.getD (2^(ah ps).length - 1) []:=fun l hl=>by
  unfold cell;exact Af (by omega)
 obtain⟨⟨js,hj,e⟩,hmin⟩:=hg;have hmx:=lK (l:=0::tb.getD (2^(ah ps).length - 1) []) (zero_lt_succ _)
 have hle:(wY (ah ps) js:Int)<=uX (0::tb.getD (2^(ah ps).length - 1) []):=by
  have:js=[]\/∃r l,js=r++[l]:=by
   rcases eq_nil_or_concat js with h|⟨r,l,h⟩
   .exact .inl h
   .exact .inr ⟨r,l,by rw [h,concat_eq_append]⟩
  rcases this with rfl|⟨r,l,rfl⟩
  .exact hmx.2 0 mem_cons_self
  .have hlt:=mem_range.mp (hj.mem_iff.mp (show l∈r++[l] by simp));have:=El h hn hl r l _ (xC.mpr hj) hM;exact Int.le_trans this (hmx.2 _ (mem_cons_of_mem _ (cl l hlt)))
 have hge:∃ks:List Nat,ks.Perm (List.range (ah ps).length)/\(wY (ah ps) ks:Int)=uX (0::tb.getD (2^(ah ps).length - 1) []):=by
  have top:∀l,l<(ah ps).length->cell tb (2^(ah ps).length - 1) l=uX (0::tb.getD (2^(ah ps).length - 1) [])->∃ks:List Nat,ks.Perm (List.range (ah ps).length)/\(wY (ah ps) ks:Int)=uX (0::tb.getD (2^(ah ps).length - 1) []):=fun l hlt e=>by
   obtain⟨js,k1,k2⟩:=Em h hn hl _ l hM (by rw [testBit_two_pow_sub_one];exact decide_eq_true hlt);exact⟨_,xC.mp k1,by rw [k2,e]⟩
  rcases eq_zero_or_pos (ah ps).length with z|z
  .refine⟨[],by rw [z];exact List.Perm.refl _,?_⟩;have:tb.getD (2^(ah ps).length - 1) []=[]:=length_eq_zero_iff.mp (by rw [hwid,z]);rw [this];rfl
  .rcases mem_cons.mp hmx.1 with e0|e0
   .have n1:0<=cell tb (2^(ah ps).length - 1) 0:=h.good.nn hM z (by rw [testBit_two_pow_sub_one];exact decide_eq_true z);have n2:=hmx.2 _ (mem_cons_of_mem _ (cl 0 z));exact top 0 z (by omega)
   .obtain⟨l,hlt,e1⟩:=Ei (d:=0) e0;exact top l (by omega) e1
 obtain⟨ks,k1,k2⟩:=hge;have n1:=len js hj;have n2:=len ks k1;have n3:=Ea (hmin _ ⟨ks,k1,rfl⟩);rw [<- e] at n1;omega
def bW:FN
 | [.str t,.lst ds],Q=>∃ps:List (List Nat),ds=ps.map .str/\(ps.length<=40/\∀w∈ps,w.length<=60/\Lts w)/\Q (.dat (.bl (ps.all fun p=>eC p t)))
 | _,_=>False
def ia:Nat:=6
theorem zl:∀f:_root_.Fin 26,(iu 11 f.1).Nodup:=by decide +kernel
theorem u0(n f:Nat)(h:n<=11):iu n f=(iu 11 f).take n:=by
 unfold iu;rw [<- map_take,take_range,show min n 11=n by omega]
theorem xD{n f:Nat}(hn:n<=11)(hf:f<26):(iu n f).Nodup:=by
 rw [u0 n f hn];exact (zl ⟨f,hf⟩).sublist (take_sublist ..)
def prs(ls:List Nat)(n:Nat):List (List Nat):=(List.range n).map fun k=>[ls.getD k 0,ls.getD (k+1) 0]
theorem BX(ls:List Nat)(n:Nat):(prs ls n).length=n:=by unfold prs;rw [length_map,length_range]
theorem BY{ls:List Nat}{n:Nat}(hL:Lts ls)(h:n+1=ls.length):Pcs 60 (prs ls n):=fun w hw=>by
 unfold prs at hw;obtain⟨k,hk,rfl⟩:=mem_map.mp hw;have hk:=mem_range.mp hk;exact⟨by show 0<2;decide,by show 2<=60;decide,(ud hL (j:=k) (by omega)).app (ud hL (j:=k+1) (by omega))⟩
theorem BZ{ls:List Nat}{n:Nat}(hl:ls.length=n+1)(hn:0<n)(nd:ls.Nodup){ps:List (List Nat)}(hp:ps.Perm (prs ls n)):Lst (uS ps) ls:=by
 refine⟨fun w hw=>?_,fun u hu=>xp hl hn nd fun k hk=>hu _ (hp.mem_iff.mpr (mem_map.mpr ⟨k,mem_range.mpr hk,rfl⟩))⟩;obtain⟨k,hk,rfl⟩:=mem_map.mp (hp.mem_iff.mp hw);have hk:=mem_range.mp hk;refine⟨ls.take k,ls.drop (k+2),?_⟩;have e1:ls.getD k 0=ls[k]:=by rw [getD_eq_getElem?_getD,getElem?_eq_getElem (by omega)];rfl
 have e2:ls.getD (k+1) 0=ls[k+1]:=by rw [getD_eq_getElem?_getD,getElem?_eq_getElem (by omega)];rfl
 rw [e1,e2]
 conv=>rhs;rw [<- take_append_drop k ls,drop_eq_getElem_cons (show k<ls.length by omega),drop_eq_getElem_cons (show k+1<ls.length by omega)]
 rw [append_assoc];rfl
def bA:FR
 | .own ds,[],Q=>∃zs:List Int,ds=zs.map .int/\(Dk zs/\3<=zs.length/\zs.length<=10000)/\∀ys:List Int,Dk ys->ys.length+3=zs.length->Q (.dat (.bl true)) (.own (ys.map .int))
 | _,_,_=>False
def e7:Nat:=11
theorem B0:Cf.Nodup:=by decide
theorem B1{l:List Nat}(h:∀x∈l,x∈Cf):Lts l:=fun x hx=>yU x (h x hx)
def sg1(l:List Nat):List D:=(l.map fun c=>[c]).map D.str
theorem o8(l:List Nat):(sg1 l).length=l.length:=by unfold sg1;rw [length_map,length_map]
theorem B2(a b:List Nat):sg1 (a++b)=sg1 a++sg1 b:=by unfold sg1;rw [map_append,map_append]
theorem xE(l:List Nat)(i:Nat):(sg1 l).eraseIdx i=sg1 (l.eraseIdx i):=by unfold sg1;rw [lE,lE]
theorem B3{l:List Nat}{i:Nat}(h:i<l.length):(sg1 l)[i]?=some (.str [l[i]]):=by unfold sg1;rw [getElem?_map,getElem?_map,getElem?_eq_getElem h];rfl
theorem sj{a b n:Nat}(ha:Lts [a])(hb:Lts [b]):Lts (alt a b n):=fun x hx=>by
 unfold alt at hx;obtain⟨i,_,rfl⟩:=mem_map.mp hx
 split
 .exact ha _ mem_cons_self
 .exact hb _ mem_cons_self
def a9:FR
 | .own ds,[],Q=>∃zs:List Int,ds=zs.map .int/\(Dk zs/\20<=zs.length/\zs.length<=10000)/\∀ys:List Int,Dk ys->ys.length<=zs.length->Q (.dat (.bl true)) (.own (ys.map .int))
 | _,_,_=>False
def Ag:Nat:=12
abbrev ue:FN:=Gd
def il:PTS:=(cw (dr [none,some 0] (uK (af (pFz (BA (bo 0))) ao)) (ak 0) (pBI (pOp yK (pFz (pOp EC (pSl 1) (pSl 0))) (pFz (pC (.int 1))))) (bo 0)))
theorem sk(m:Int)(Q:PV->Prop)(h:cv ([.int m]) Q):dP il nG ([.int m]) Q:=by
 show il _ [some (.dat (.int m))];obtain⟨k,rfl,hk,q⟩:=h;have hb:=uY hk;have hb8:=(qH hk).2;walk_at "r"
 refine cfR (fun j=>k.testBit j) (fun j=>nD j) (fun j hj v K1 K2 k1 k2=>?_) (fun v=>?_)
 .have e:=xr k j;show (0:Int)<=(j:Int)/\gL (Builtin.bitAnd ((k:Int) / 2^(j:Int).toNat) 1 != 0) _ _;refine⟨by omega,?_⟩;rw [e]
  cases h:k.testBit j with
  | true=>exact k1 _ h
  | false=>exact k2 _ h
 .rw [toNat_natCast,hb];exact q
theorem u4:∀ds Q,cv ds Q->dP il nG ds Q:=fun ds Q h=>by
 unfold cv at h
 split at h
 .exact sk _ _ h
 .exact h.elim
def gc:PTS:=(aH (kQ (pB (pOp xL (pFz (pCB gv (af (pSl 0) ao))) (pFz (pCB gv (af (pSl 1) ao))))) (cw (pOp fLt (pFz (pCB gv (af (pSl 0) ao))) (pFz (pCB gv (af (pSl 1) ao))))) cU) (cw (pOp fLt (pSl 0) (pSl 1))))
theorem qM(a b:List Nat)(Q:PV->Prop)(h:bq ([.str a,.str b]) Q):dP gc lL ([.str a,.str b]) Q:=by
 show gc _ [some (.dat (.str a)),some (.dat (.str b))];have h:Q (.dat (.bl (ahB a b))):=h;unfold ahB at h;walk_at "r"
 refine qe (fun c=>?_) (fun c=>?_)
 .rw [if_pos (by omega)] at h;walk_at "r";rw [show decide ((a.length:Int)<(b.length:Int))=decide (a.length<b.length) from decide_eq_decide.mpr (by omega)];exact h
 .rw [if_neg (by omega)] at h;walk_at "r";exact h
theorem sm:∀ds Q,bq ds Q->dP gc lL ds Q:=fun ds Q h=>by
 unfold bq at h
 split at h
 .exact qM _ _ _ h
 .exact h.elim
def gf:PTS:=(aH (a8 (pOp fIx (pSl 0) (pFz (pC (.int 0)))) (ak 1)) (aH (ir (dL (df (pSl 0) (c8 (pC (.int 1))) dq)) (ak 2) (kQ (pB (bF bq (af (pFz (bo 2)) (af (pFz (bo 1)) ao)))) (a8 (bo 2) (ak 1)) cU)) (cw (bo 1))))
theorem qN(ds:List D)(Q:PV->Prop)(h:bz ([.lst ds]) Q):dP gf lM ([.lst ds]) Q:=by
 show gf _ [some (.dat (.lst ds)),none,none];obtain⟨ts,rfl,⟨hne,hl⟩,q⟩:=h;obtain⟨t0,r,rfl⟩:∃t0 r,ts=t0::r:=by cases ts with|nil=>exact absurd rfl hne|cons t0 r=>exact⟨t0,r,rfl⟩
 have hl:r.length+1<=100000:=hl;have c1:eV ((t0::r).map D.str) (some 1) none=r.map D.str:=GD _ _;have hat:atI ((t0::r).map D.str) 0=some (.str t0):=gK (j:=0) rfl rfl;walk_at "r";refine⟨_,hat,?_⟩;walk_at "r";rw [c1];walk_at "r"
 refine Fx (α:=List Nat) (e:=D.str) (xs:=r) (fun (pre:List (List Nat)) ρ=>∃(b:List Nat) (v:Option PV),Lst (·∈t0::pre) b/\ρ=[some (.dat (.lst ((t0::r).map .str))),some (.dat (.str b)),v]) ⟨_,_,rY t0,rfl⟩ ?_ ?_
 .rintro pre x suf ρ ej ⟨b,v,hb,rfl⟩;have hs:=tX (t:=x) hb;walk_at "r"
  refine zD (fun c=>?_) (fun c=>?_)
  .rw [if_pos c] at hs;walk_at "r";exact⟨x,_,hs,rfl⟩
  .rw [if_neg (by rw [c];decide)] at hs;exact⟨b,_,hs,rfl⟩
 rintro ρ ⟨b,v,hb,rfl⟩;walk_at "r";exact q b hb
theorem sr:∀ds Q,bz ds Q->dP gf lM ds Q:=fun ds Q h=>by
 unfold bz at h
 split at h
 .exact qN _ _ h
 .exact h.elim
def cW:PTS:=(kQ (pB (pOp fGt (pFz (wx "Family" ["pieces","kept","words","left","laps","total"] aW (bo 0) ao)) (pFz (pC (.int 12))))) oy cU)
theorem i9(c:Str)(ns:List Str)(fs:List D)(Q:PV->Prop)(h:aT ([.obj c ns fs]) Q):dP cW e6 ([.obj c ns fs]) Q:=by
 show cW _ [some (.dat (.obj c ns fs))];obtain⟨rfl,rfl,ps,rfl,h12,q⟩:=h;walk_at "r";exact q
theorem jr:∀ds Q,aT ds Q->dP cW e6 ds Q:=fun ds Q h=>by
 unfold aT at h
 split at h
 .exact i9 _ _ _ _ h
 .exact h.elim
def gg:PTS:=(cw (ED (dr [none,none] (wF (af (pFz (bo 0)) (af (pFz (bo 1)) ao))) (iT 2 (dC (ak 0) (dC (ak 1) mE))) jy (dr [none,some 0] (dL (bo 1)) (ak 0) jy (df (pSl 1) dq (c8 (pOp Bi (pFz (pCB gv (af (pSl 1) ao))) (pSl 0))))))))
theorem qO(ds ls:List D)(Q:PV->Prop)(h:cC ([.tup ds,.tup ls]) Q):dP gg lN ([.tup ds,.tup ls]) Q:=by
 show gg _ [some (.dat (.tup ds)),some (.dat (.tup ls))];obtain⟨ws,rfl,⟨hls,hn,hw⟩,q⟩:=h;unfold qp at hls;cases hls;have hm1:(ws.map D.str).length=ws.length:=length_map _;have hm2:(ws.map fun w=>D.tup (ws.map fun v=>.int (dS w v:Int))).length=ws.length:=length_map _;walk_at "r"
 refine xK (fun τ=>∃v w:Option PV,τ=[v,w]) (fun i=>.lst ((List.range ws.length).map fun j=>.str (hdW ws i j))) ⟨_,_,rfl⟩ ?_ ?_
 .rintro i τ _ hi rfl ⟨v,w,rfl⟩ K1 k1;rw [hm1,hm2,min_self] at hi;have hwi:=hw _ (dD hi);rw [show itD (ws.map D.str) i=.str (pw ws i) from gw (by rw [getElem?_map,dQ hi];rfl),show itD (ws.map fun w=>D.tup (ws.map fun v=>.int (dS w v:Int))) i=.tup (ws.map fun v=>.int (dS (pw ws i) v:Int)) from gw (by rw [getElem?_map,dQ hi];rfl)];walk_at "r"
  refine cm1 (e:=fun u=>D.int (dS (pw ws i) u:Int)) (xs:=ws) (fun u=>.str ((pw ws i).take ((pw ws i).length - dS (pw ws i) u))) (fun u hu v K2 k2=>?_) (fun v=>?_)
  .have hl:=(iW hwi.1 (hw u hu).1).1;walk_at "r";rw [show ((pw ws i).length:Int) - (dS (pw ws i) u:Int)=(((pw ws i).length - dS (pw ws i) u:Nat):Int) by omega,fo];exact k2 _
  .rw [z0 (α:=Nat) (fun u=>D.str ((pw ws i).take ((pw ws i).length - dS (pw ws i) u))) ws];exact k1 _ ⟨_,_,rfl⟩
 .rintro τ ⟨v,w,rfl⟩;rw [hm1,hm2,min_self];exact q
theorem su:∀ds Q,cC ds Q->dP gg lN ds Q:=fun ds Q h=>by
 unfold cC at h
 split at h
 .exact qO _ _ _ h
 .exact h.elim
def e8:PTS:=(cw (ED (dr [none] (uK (af (pFz (pOp DW (pFz (pC (.int 1))) (pSl 0))) ao)) (ak 0) jy (dr [none,some 0] (dL (bF cv (af (pFz (bo 0)) ao))) (ak 0) jy (Ex (af (pFz (bo 0)) (af (pFz (pOp Bi (pSl 1) (pFz (pOp DW (pFz (pC (.int 1))) (pSl 0))))) ao)))))))
theorem o9(m:Int)(Q:PV->Prop)(h:bS ([.int m]) Q):dP e8 kg ([.int m]) Q:=by
 show e8 _ [some (.dat (.int m))];obtain⟨k,rfl,hk,q⟩:=h;have hS:0<=(k:Int)/\(k:Int)<=1000000/\(1:Int).natAbs<2^64:=⟨by omega,by omega,by decide⟩
 have hp:2^k<=4096:=pow_le_pow_right (n:=2) (by decide) hk;have eS:=FE k;have hr2:(-1000000:Int)<=1*2^(k:Int).toNat:=by rw [eS];exact Int.le_trans (show (-1000000:Int)<=0 by decide) (natCast_nonneg _)
 have hr3:(1:Int)*2^(k:Int).toNat<=1000000:=by rw [eS];exact Int.le_trans (ofNat_le.mpr hp) (by decide)
 walk_at "r";rw [eS]
 refine cmR (fun m=>chD ((jK m).map fun i=>(i,m - 2^i))) (fun m hm v K1 k1=>?_) (fun v=>?_)
 .rw [toNat_natCast] at hm;have h12:m<4096:=by omega
  have hl:=qI m;walk_at "r"
  refine cm1 (e:=nD) (xs:=jK m) (fun i=>.tup [nD i,nD (m - 2^i)]) (fun i hi v K2 k2=>?_) (fun v=>?_)
  .have hb:=(gU h12).mp hi;have hi12:=oV (n:=12) h12 hb;have hle:=(gW h12 hb).1;have hS:0<=(i:Int)/\(i:Int)<=1000000/\(1:Int).natAbs<2^64:=⟨by omega,by omega,by decide⟩
   have eS:=FE i;walk_at "r";rw [eS,show (m:Int) - ((2^i:Nat):Int)=((m - 2^i:Nat):Int) by omega];exact k2 _
  .walk_at "r";have e:(jK m).map (fun i=>D.tup [nD i,nD (m - 2^i)])=((jK m).map fun i=>(i,m - 2^i)).map fun p=>.tup [nD p.1,nD p.2]:=by rw [map_map];rfl
   rw [e];exact k1 _
 .rw [toNat_natCast];walk_at "r";unfold Gk jM at q;rw [map_map] at q;exact q
theorem qP:∀ds Q,bS ds Q->dP e8 kg ds Q:=fun ds Q h=>by
 unfold bS at h
 split at h
 .exact o9 _ _ h
 .exact h.elim
def gh:PTS:=(aH (a8 (mC ao) (ak 3)) (aH (ir (dL (bo 2)) (ak 4) (aH (a8 (dr [none,none,some 3] (dL (bo 4)) (iT 2 (dC (ak 0) (dC (ak 1) mE))) jy (Ex (af (pFz (bo 0)) (af (pFz (pOp fIx (pFz (pOp fIx (pSl 2) (pSl 1))) (pSl 0))) ao)))) (ak 5)) (gO (xI 3 (pIf (pBL (bo 5)) (dr [none,some 5] (dL (bo 0)) (ak 0) jy (bF bz (af (pFz (dr [none,none,some 0] (dL (bo 1)) (iT 2 (dC (ak 0) (dC (ak 1) mE))) jy (pOp bP (pFz (pOp fIx (pSl 2) (pSl 0))) (pSl 1)))) ao))) (pCB wu (af (pSl 1) ao))))))) (cw (bo 3))))
theorem qQ(hs cs:List D)(la:D)(Q:PV->Prop)(h:cD ([.lst hs,la,.lst cs]) Q):dP gh lO ([.lst hs,la,.lst cs]) Q:=by
 show gh _ [some (.dat (.lst hs)),some (.dat (la)),some (.dat (.lst cs)),none,none,none];obtain⟨w,hd,rfl,L,rfl,ls,⟨hla,hL,h60,hl60,hw⟩,q⟩:=h;have hcm:(L.map chD).length=L.length:=length_map _;have hmany:=hL.many;have hhl:(hdD w hd).length=w:=by unfold hdD;rw [length_map,length_range]
 walk_at "r"
 refine⟨fun k ρ=>∃(es:List (List (List Nat))) (v3 v4 v5:Option PV),lP L hd ls w k es/\ρ=[some (.dat (.lst (hdD w hd))),some (.dat la),some (.dat (.lst (L.map chD))),some (.own (esD es)),v4,v5],⟨[],none,_,_,⟨rfl,(fun n h=>absurd h (not_lt_zero _)),fun n h=>absurd h (not_lt_zero _)⟩,rfl⟩,?_,?_⟩
 .rintro k ρ d hk ed ⟨es,v3,v4,v5,hE,rfl⟩;rw [hcm] at hk;subst ed;rw [Aa hk];have hch:=hL.ch k;have hfew:=hL.few k;have hel:=hE.len;generalize hc:L.getD k []=c at hch hfew;have hcl:(c.map fun p=>D.tup [nD p.1,nD p.2]).length=c.length:=length_map _;have hesl:(esD es).length=k:=by unfold esD;rw [length_map];exact hel
  have hE2:∀p∈c,p.2<k/\p.1<w/\(es.getD p.2 []).length=w/\((es.getD p.2 []).getD p.1 []).length<=300000:=fun p hp=>by
   have:=hch p hp;exact⟨this.2,this.1,hE.wid _ this.2,hE.txt hL h60 hl60 this.2 (by omega) this.1⟩
  walk_at "r"
  refine cm2 (e:=fun p:Nat×Nat=>D.tup [nD p.1,nD p.2]) (xs:=c) (fun p=>.tup [nD p.1,.str ((es.getD p.2 []).getD p.1 [])]) (fun p hp v w2 K1 k1=>?_) (fun v w2=>?_)
  .obtain⟨p1,p2,p3,p4⟩:=hE2 p hp;show iT 2 _ (.dat (.tup [.int (p.1:Int),.int (p.2:Int)])) _ _;walk_at "r";refine⟨_,Ab (by omega),?_⟩;walk_at "r";refine⟨_,fu (k:=p.1) (by rw [p3];exact p2) rfl,?_⟩;walk_at "r";exact k1 _ _
  have hnl:(c.map fun p=>D.tup [nD p.1,.str ((es.getD p.2 []).getD p.1 [])]).length=c.length:=length_map _;have hnil:(!(c.map fun p=>D.tup [nD p.1,.str ((es.getD p.2 []).getD p.1 [])]).isEmpty)=!c.isEmpty:=by cases c <;> rfl
  walk_at "r";rw [hnil]
  cases hce:c.isEmpty with
  | true =>
   have hcn:c=[]:=isEmpty_iff.mp hce;walk_at "r";refine Bp hla ?_;walk_at "r";refine⟨es++[(List.range w).map ls],none,_,_,hE.snoc (by rw [length_map,length_range]) (fun i hi=>by rw [Ac hi];exact BF (by rw [hc];exact hcn)),by unfold esD;rw [map_append,map_cons,map_map];rfl⟩
  | false =>
   have hcn:c≠[]:=fun z=>by rw [z] at hce;cases hce
   walk_at "r";unfold hdD
   refine cm1 (e:=fun i=>D.lst ((List.range w).map fun j=>D.str (hd i j))) (xs:=List.range w) (fun i=>.str (zf (c.map fun p=>hd i p.1++(es.getD p.2 []).getD p.1 []))) (fun i hi v K1 k1=>?_) (fun v=>?_)
   .have hi:=mem_range.mp hi;have hrl:((List.range w).map fun j=>D.str (hd i j)).length=w:=by rw [length_map,length_range]
    walk_at "r"
    refine cm2 (e:=fun p:Nat×Nat=>D.tup [nD p.1,.str ((es.getD p.2 []).getD p.1 [])]) (xs:=c) (fun p=>.str (hd i p.1++(es.getD p.2 []).getD p.1 [])) (fun p hp v w2 K1 k1=>?_) (fun v w2=>?_)
    .obtain⟨p1,p2,p3,p4⟩:=hE2 p hp;have h6:=h60 i p.1;show iT 2 _ (.dat (.tup [.int (p.1:Int),.str ((es.getD p.2 []).getD p.1 [])])) _ _;walk_at "r";refine⟨_,Ef p2,?_⟩;walk_at "r";exact k1 _ _
    have e1:c.map (fun p=>D.str (hd i p.1++(es.getD p.2 []).getD p.1 []))=(c.map fun p=>hd i p.1++(es.getD p.2 []).getD p.1 []).map .str:=by rw [map_map];rfl
    have hne:c.map (fun p=>hd i p.1++(es.getD p.2 []).getD p.1 [])≠[]/\(c.map fun p=>hd i p.1++(es.getD p.2 []).getD p.1 []).length<=100000:=⟨fun z=>hcn (map_eq_nil_iff.mp z),by rw [length_map];omega⟩
    rw [e1];walk_at "r";intro t ht;rw [ht.uniq (uc hne.1)];exact k1 _
   walk_at "r";refine⟨es++[(List.range w).map fun i=>zf (c.map fun p=>hd i p.1++(es.getD p.2 []).getD p.1 [])],none,_,_,hE.snoc (by rw [length_map,length_range]) (fun i hi=>?_),by unfold esD;rw [map_append,map_cons,map_map];rfl⟩;rw [Ac hi]
   refine yX (E:=fun n j=>(es.getD n []).getD j []) (by rw [hc];exact hcn) (fun p hp=>?_) ?_
   .rw [hc] at hp;have:=hch p hp;exact hE.lst _ this.2 _ this.1
   .rw [hc];exact uc fun z=>hcn (map_eq_nil_iff.mp z)
 rintro ρ ⟨es,v3,v4,v5,hE,rfl⟩;rw [hcm] at hE;walk_at "r";exact q es hE
theorem sv:∀ds Q,cD ds Q->dP gh lO ds Q:=fun ds Q h=>by
 unfold cD at h
 split at h
 .exact qQ _ _ _ _ h
 .exact h.elim
def du:PTS:=(aH (a8 (bF cD (af (pFz (bF cC (af (pFz (bo 0)) (af (pFz (bo 1)) ao)))) (af (pFz (bo 0)) (af (pFz (bo 2)) ao)))) (ak 3)) (cw (bF bz (af (pFz (Gj (dr [none,none,some 3] (dL (pOp fIx (pSl 2) (pFz (pUn xJ (pFz (pC (.int 1))))))) (iT 2 (dC (ak 0) (dC (ak 1) mE))) jy (pOp fIx (pFz (pOp fIx (pSl 2) (pSl 1))) (pSl 0))) (mC (af (pFz (pC (.str []))) ao)))) ao))))
theorem j4(ds ls cs:List D)(Q:PV->Prop)(h:bc ([.tup ds,.tup ls,.lst cs]) Q):dP du gA ([.tup ds,.tup ls,.lst cs]) Q:=by
 show du _ [some (.dat (.tup ds)),some (.dat (.tup ls)),some (.dat (.lst cs)),none];obtain⟨ws,rfl,L,rfl,⟨hls,hn,hw,hL,h0⟩,q⟩:=h;have g1:.tup ls=qp ws/\ws.length<=200/\∀w∈ws,0<w.length/\w.length<=60:=⟨hls,hn,hw⟩
 have hcm:(L.map chD).length=L.length:=length_map _;have hmany:=hL.many;have g2:ve (.tup (ws.map .str)) ((List.range ws.length).map fun i=>.str (pw ws i))/\i8 L ws.length/\(∀i j,(hdW ws i j).length<=60)/\(∀i,(pw ws i).length<=60)/\ws.length<=200:=⟨by rw [<- z0 (α:=Nat) D.str ws];exact .inr rfl,hL,Eg hw,Bw fun w h=>(hw w h).2,hn⟩
 walk_at "r";refine⟨_,_,rfl,L,rfl,pw ws,g2,?_⟩;intro es hE;have hel:=hE.len
 have hlast:atI (L.map chD) (-1)=some (chD (L.getD (L.length - 1) [])):=by
  have:=xu (ds:=L.map chD) (by omega);rw [this,hcm,Aa (by omega)]
 have hch:=hL.ch (L.length - 1);have hfew:=hL.few (L.length - 1);generalize hc:L.getD (L.length - 1) []=c at hch hfew hlast;have hcl:(c.map fun p=>D.tup [nD p.1,nD p.2]).length=c.length:=length_map _;have hnil:(!(c.map fun p=>D.str ((es.getD p.2 []).getD p.1 [])).isEmpty)=!c.isEmpty:=by cases c <;> rfl
 walk_at "r";refine⟨_,hlast,?_⟩;walk_at "r"
 refine cm2 (e:=fun p:Nat×Nat=>D.tup [nD p.1,nD p.2]) (xs:=c) (fun p=>.str ((es.getD p.2 []).getD p.1 [])) (fun p hp v w2 K1 k1=>?_) (fun v w2=>?_)
 .have p0:=hch p hp;have p3:=hE.wid p.2 (by omega);show iT 2 _ (.dat (.tup [.int (p.1:Int),.int (p.2:Int)])) _ _;walk_at "r";refine⟨_,Ab (by omega),?_⟩;walk_at "r";refine⟨_,fu (k:=p.1) (by rw [p3];exact p0.1) rfl,?_⟩;exact k1 _ _
 walk_at "r";rw [hnil]
 cases hce:c.isEmpty with
 | true =>
  have hcn:c=[]:=isEmpty_iff.mp hce;have e1:[D.str []]=[([]:List Nat)].map .str:=rfl;have g3:[([]:List Nat)]≠[]/\[([]:List Nat)].length<=100000:=⟨by decide,by decide⟩
  walk_at "r";refine⟨[[]],rfl,g3,?_⟩;intro t ht;rw [ht.uniq (rY [])];exact q _ (BP (by rw [hc];exact hcn))
 | false =>
  have hcn:c≠[]:=fun z=>by rw [z] at hce;cases hce
  have e1:c.map (fun p=>D.str ((es.getD p.2 []).getD p.1 []))=(c.map fun p=>(es.getD p.2 []).getD p.1 []).map .str:=by rw [map_map];rfl
  have g3:c.map (fun p=>(es.getD p.2 []).getD p.1 [])≠[]/\(c.map fun p=>(es.getD p.2 []).getD p.1 []).length<=100000:=⟨fun z=>hcn (map_eq_nil_iff.mp z),by rw [length_map];omega⟩
  walk_at "r";refine⟨_,e1,g3,?_⟩;intro t ht;refine q _ (Eh hw hL (by rw [hc];exact hcn) (BG (E:=fun n j=>(es.getD n []).getD j []) (by rw [hc];exact hcn) (fun p hp=>?_) (by rw [hc];exact ht)));rw [hc] at hp;have p0:=hch p hp;exact hE.lst _ (by omega) _ p0.1
theorem kI:∀ds Q,bc ds Q->dP du gA ds Q:=fun ds Q h=>by
 unfold bc at h
 split at h
 .exact j4 _ _ _ _ h
 .exact h.elim
def gi:PTS:=(aH (gO (bF aT (af (pFz (bo 0)) ao))) (cw (bF bc (af (pFz (uN "Family" ["pieces","kept","words","left","laps","total"] 2 (pSl 0))) (af (pFz (uN "Family" ["pieces","kept","words","left","laps","total"] 4 (pSl 0))) (af (pFz (bF bS (af (pFz (wx "Family" ["pieces","kept","words","left","laps","total"] aW (bo 0) ao)) ao))) ao))))))
theorem qR(c:Str)(ns:List Str)(fs:List D)(Q:PV->Prop)(h:aS ([.obj c ns fs]) Q):dP gi lQ ([.obj c ns fs]) Q:=by
 show gi _ [some (.dat (.obj c ns fs))];obtain⟨rfl,rfl,ps,rfl,⟨hps,h12⟩,q⟩:=h;have hwp:=dE hps;have hw:∀w∈ah ps,0<w.length/\w.length<=60:=fun w h=>⟨(hwp w h).1,(hwp w h).2.1⟩
 have hlt:=fun (t:List Nat) (h:Lst (GlS (ah ps)) t)=>q t (yZ hps h);have g1:qp (ah ps)=qp (ah ps)/\(ah ps).length<=200/\(∀w∈ah ps,0<w.length/\w.length<=60)/\i8 (jM (ah ps).length) (ah ps).length/\0<(jM (ah ps).length).length:=⟨rfl,by omega,hw,zg h12,by rw [jo];exact pow_pos (by decide)⟩
 walk_at "r";intro t ht;refine hlt t ?_;rw [jo] at ht;exact ht.congr fun u=>⟨fun ⟨js,w,e⟩=>⟨js,(tY h12).mp w,e⟩,fun ⟨js,w,e⟩=>⟨js,(tY h12).mpr w,e⟩⟩
theorem sw:∀ds Q,aS ds Q->dP gi lQ ds Q:=fun ds Q h=>by
 unfold aS at h
 split at h
 .exact qR _ _ _ _ h
 .exact h.elim
def uf:PTS:=(aH (ir (Ff (af (pFz (pOp Bi (pFz (pCB yu (af (pFz (pCB gv (af (pSl 0) ao))) (af (pFz (pCB gv (af (pSl 1) ao))) ao)))) (pFz (pC (.int 1))))) (af (pFz (pC (.int 0))) (af (pFz (pUn xJ (pFz (pC (.int 1))))) ao)))) (ak 2) (kQ (pB (pSM Bf (bo 0) (af (pFz (df (pSl 1) dq (c8 (bo 2)))) ao))) (cw (bo 2)) cU)) (cw (pC (.int 0))))
theorem B4(a b:List Nat)(Q:PV->Prop)(h:gB ([.str a,.str b]) Q):dP uf Ad ([.str a,.str b]) Q:=by
 show uf _ [some (.dat (.str a)),some (.dat (.str b)),none];obtain⟨⟨a0,a1⟩,⟨b0,b1⟩,q⟩:=h;have hm:(if (b.length:Int)<(a.length:Int) then (b.length:Int) else (a.length:Int))=((min a.length b.length:Nat):Int):=by split <;> omega
 walk_at "r"
 refine⟨fun i ρ=>(∃v2:Option PV,ρ=[some (.dat (.str a)),some (.dat (.str b)),v2])/\∀j,min a.length b.length - i<=j->j<min a.length b.length->¬ b.take j <:+ a,⟨⟨_,rfl⟩,fun j h1 h2=>by omega⟩,?_,?_⟩
 .rintro i ρ d hi ed ⟨⟨v2,rfl⟩,ih⟩;have hi:i<(((if (b.length:Int)<(a.length:Int) then (b.length:Int) else (a.length:Int)) - 1) - 0).toNat:=hi;have ed:d=.int (((if (b.length:Int)<(a.length:Int) then (b.length:Int) else (a.length:Int)) - 1) - (i:Int)):=ed;rw [hm] at hi ed;obtain⟨k,hk,hk2⟩:∃k:Nat,(((min a.length b.length:Nat):Int) - 1) - (i:Int)=(k:Int)/\k=min a.length b.length - 1 - i:=⟨min a.length b.length - 1 - i,by omega,rfl⟩
  rw [hk] at ed;subst ed;walk_at "r";rw [fo]
  refine gF (fun c=>?_) (fun c=>?_)
  .walk_at "r"
   rw [show dS a b=k from oN ⟨by omega,c,fun j h1 h2=>by
    rcases lt_or_ge k j with h|h
    .exact absurd h2 (ih j (by omega) h1)
    .exact h⟩] at q
   exact q
  .refine⟨⟨_,rfl⟩,fun j h1 h2=>?_⟩
   by_cases hj:j=k
   .rw [hj];exact c
   .exact ih j (by omega) h2
 .rintro ρ ⟨⟨v2,rfl⟩,ih⟩;rw [hm] at ih;walk_at "r"
  rw [show dS a b=0 from oN ⟨by omega,by rw [take_zero];exact nil_suffix,fun j h1 h2=>by
   rcases eq_zero_or_pos j with h|h
   .omega
   .exact absurd h2 (ih j (by omega) h1)⟩] at q
  exact q
theorem En:∀ds Q,gB ds Q->dP uf Ad ds Q:=fun ds Q h=>by
 unfold gB at h
 split at h
 .exact B4 _ _ _ h
 .exact h.elim
def gj:PTS:=(cw (pCB jh (af (pFz (dr [none,some 0] (dL (bo 0)) (ak 0) jy (pCB jh (af (pFz (dr [none,some 0] (dL (bo 1)) (ak 0) jy (bF gB (af (pFz (bo 1)) (af (pFz (bo 0)) ao))))) ao)))) ao)))
theorem qS(ds:List D)(Q:PV->Prop)(h:cE ([.tup ds]) Q):dP gj lR ([.tup ds]) Q:=by
 show gj _ [some (.dat (.tup ds))];obtain⟨ws,rfl,⟨hn,hw⟩,q⟩:=h;have hlm:(ws.map D.str).length=ws.length:=length_map _
 have rr:∀f:List Nat->D,(List.range (ws.map D.str).length).map (fun k=>f (pw ws k))=ws.map f:=fun f=>by
  rw [hlm];apply ext_getElem?;intro k;rw [getElem?_map,getElem?_map]
  by_cases hk:k<ws.length
  .rw [getElem?_range hk,dQ hk];rfl
  .rw [getElem?_eq_none (by rw [length_range];omega),getElem?_eq_none (by omega)];rfl
 walk_at "r"
 refine xK (fun τ=>∃v,τ=[v,some (.dat (.tup (ws.map .str)))]) (fun k=>.tup (ws.map fun v=>.int (dS (pw ws k) v:Int))) ?_ ?_ ?_
 .exact⟨_,rfl⟩
 .rintro k τ d hk ed ⟨v,rfl⟩ K1 k1;rw [gR hk] at ed;subst ed;have w1:=hw _ (dD (show k<ws.length by omega));walk_at "r"
  refine xK (fun τ=>∃v,τ=[v,some (.dat (.str (pw ws k)))]) (fun j=>.int (dS (pw ws k) (pw ws j):Int)) ?_ ?_ ?_
  .exact⟨_,rfl⟩
  .rintro j τ d hj ed ⟨v,rfl⟩ K2 k2;rw [gR hj] at ed;subst ed;have w2:=hw _ (dD (show j<ws.length by omega));walk_at "r";exact k2 _ ⟨_,rfl⟩
  .rintro τ ⟨v,rfl⟩;rw [rr (fun w=>D.int (dS (pw ws k) w:Int))];walk_at "r";exact k1 _ ⟨_,rfl⟩
 .rintro τ ⟨v,rfl⟩;rw [rr (fun w=>D.tup (ws.map fun v=>.int (dS w v:Int)))];walk_at "r";exact q
theorem sx:∀ds Q,cE ds Q->dP gj lR ds Q:=fun ds Q h=>by
 unfold cE at h
 split at h
 .exact qS _ _ h
 .exact h.elim
def im:PTS:=(aH (kQ (pOr (wl (pB (EA .str (pSl 0)))) (wl (pB (wm fLe fLe (pSl 1) (pFz (pCB gv (af (pSl 0) ao))) (pSl 2))))) (cw (pC (.bl false))) cU) (cw (pCB Fn (af (pFz (dr [none] (dL (bo 0)) (ak 0) jy (wm fLe fLe (pFz (pC (.str [97]))) (pSl 0) (pFz (pC (.str [122])))))) ao))))
theorem sy(d:D)(a b:Int)(Q:PV->Prop)(h:de ([d,.int a,.int b]) Q):dP im nI ([d,.int a,.int b]) Q:=by
 show im _ [some (.dat (d)),some (.dat (.int a)),some (.dat (.int b))];obtain⟨hd,hl,q⟩:=h
 cases d with
 | str l =>
  have hl:l.length<=1000000:=hl;walk_at "r"
  refine gF (fun c1=>?_) (fun c1=>?_)
  .walk_at "r"
   refine qe (fun c2=>?_) (fun c2=>?_)
   .walk_at "r";rw [show yB (.str l) a b=false by rw [oH,decide_eq_false c2,Bool.and_false];rfl] at q;exact q
   .walk_at "r"
    refine xK (fun τ=>∃v,τ=[v]) (fun k=>.bl (ltB (l.getD k 0))) ?_ ?_ ?_
    .exact⟨_,rfl⟩
    .rintro k τ _ hk rfl ⟨v,rfl⟩ K1 k1;walk_at "r"
     refine qe (fun c=>?_) (fun c=>?_)
     .have hc:97<=l.getD k 0:=of_decide_eq_true (by rw [<- rQ];rw [decide_eq_false c];rfl);walk_at "r";show K1 (.bl (!decide (([122]:List Nat)<[l.getD k 0]))) _;rw [rQ];rw [show ltB (l.getD k 0)=decide (l.getD k 0<=122) by unfold ltB;rw [decide_eq_true hc];rfl] at k1;exact k1 _ ⟨_,rfl⟩
     .have hc:¬ 97<=l.getD k 0:=of_decide_eq_false (by rw [<- rQ,decide_eq_true c];rfl);walk_at "r";rw [show ltB (l.getD k 0)=false by unfold ltB;rw [decide_eq_false hc];rfl] at k1;exact k1 _ ⟨_,rfl⟩
    .rintro τ ⟨v,rfl⟩;walk_at "r";refine⟨(List.range l.length).map fun k=>ltB (l.getD k 0),by rw [map_map];rfl,?_⟩
     have e:yB (.str l) a b=(((List.range l.length).map fun k=>ltB (l.getD k 0)).all id):=by
      rw [oH,decide_eq_true c1,decide_eq_true c2,Bool.and_self,Bool.true_and,fU];rw [all_map];rfl
     rw [e] at q;exact q
  .walk_at "r";rw [show yB (.str l) a b=false by rw [oH,decide_eq_false c1,Bool.false_and];rfl] at q;exact q
 | non=>walk_at "r";exact q
 | bl b=>walk_at "r";exact q
 | int i=>walk_at "r";exact q
 | ty n=>cases hd
 | lst ds=>walk_at "r";exact q
 | tup ds=>walk_at "r";exact q
 | scr ns=>cases hd
 | dic ks ds=>walk_at "r";exact q
 | obj c ns ds=>cases hd
 | exc c ns ds=>cases hd
theorem u5:∀ds Q,de ds Q->dP im nI ds Q:=fun ds Q h=>by
 unfold de at h
 split at h
 .exact sy _ _ _ _ h
 .exact h.elim
def dZ:PTS:=(cw (pSM ww (bo 0) (af (pSl 1) ao)))
theorem lX(a b:List Nat)(Q:PV->Prop)(h:aV ([.str a,.str b]) Q):dP dZ iD ([.str a,.str b]) Q:=by
 show dZ _ [some (.dat (.str a)),some (.dat (.str b))];walk_at "r";exact h
theorem mJ:∀ds Q,aV ds Q->dP dZ iD ds Q:=fun ds Q h=>by
 unfold aV at h
 split at h
 .exact lX _ _ _ h
 .exact h.elim
def dN:PTS:=(aH (kQ (pB (pOp fGt (pFz (pCB gv (af (pSl 0) ao))) (pFz (pC (.int 40))))) oy cU) (ir (wo (af (pFz (bo 0)) ao)) (iT 2 (dC (ak 1) (dC (ak 2) mE))) (kQ (wl (pB (zM de [] (af (pFz (bo 2)) (af (pFz (pC (.int 1))) (af (pFz (pC (.int 60))) ao)))))) oy cU)))
theorem kJ(d:D)(Q:PV->Prop)(h:bn ([d]) Q):dP dN h9 ([d]) Q:=by
 show dN _ [some (.dat (d)),none,none];obtain⟨ws,hd,⟨hn,hp⟩,q⟩:=h;have hlm:(ws.map D.str).length=ws.length:=length_map _
 rcases hd with rfl|rfl
 .walk_at "r"
  refine⟨fun k ρ=>∃v1 v2:Option PV,ρ=[some (.dat (.lst (ws.map .str))),v1,v2],⟨_,_,rfl⟩,?_,?_⟩
  .rintro k ρ d hk ed ⟨v1,v2,rfl⟩;have ed:d=.tup [.int k,itD (ws.map D.str) k]:=ed;rw [gR hk] at ed;subst ed;have hw:=hp _ (dD (show k<ws.length by omega));have ht:yB (.str (pw ws k)) 1 60=true:=wz.mpr hw;have h1:(pw ws k).length<=1000000:=by have:=hw.2.1;omega
   walk_at "r";refine AY ht ?_;exact⟨_,_,rfl⟩
  .rintro ρ ⟨v1,v2,rfl⟩;exact q
 .walk_at "r"
  refine⟨fun k ρ=>∃v1 v2:Option PV,ρ=[some (.dat (.tup (ws.map .str))),v1,v2],⟨_,_,rfl⟩,?_,?_⟩
  .rintro k ρ d hk ed ⟨v1,v2,rfl⟩;have ed:d=.tup [.int k,itD (ws.map D.str) k]:=ed;rw [gR hk] at ed;subst ed;have hw:=hp _ (dD (show k<ws.length by omega));have ht:yB (.str (pw ws k)) 1 60=true:=wz.mpr hw;have h1:(pw ws k).length<=1000000:=by have:=hw.2.1;omega
   walk_at "r";refine AY ht ?_;exact⟨_,_,rfl⟩
  .rintro ρ ⟨v1,v2,rfl⟩;exact q
theorem lY:∀ds Q,bn ds Q->dP dN h9 ds Q:=fun ds Q h=>by
 unfold bn at h
 split at h
 .exact kJ _ _ h
 .exact h.elim
def dw:PTS:=(cw (pOp fGe (pFz (bF aV (af (pFz (bo 1)) (af (pFz (bo 0)) ao)))) (pFz (pC (.int 0)))))
theorem j5(a b:List Nat)(Q:PV->Prop)(h:aI ([.str a,.str b]) Q):dP dw gC ([.str a,.str b]) Q:=by
 show dw _ [some (.dat (.str a)),some (.dat (.str b))];walk_at "r";exact h
theorem kK:∀ds Q,aI ds Q->dP dw gC ds Q:=fun ds Q h=>by
 unfold aI at h
 split at h
 .exact j5 _ _ _ h
 .exact h.elim
def io:PTS:=(aH (a8 (pOp fIx (pSl 0) (pSl 1)) (ak 2)) (aH (a8 (dr [none,some 2] (dL (bo 0)) (ak 0) (pB (pOp fGt (pFz (pCB gv (af (pSl 0) ao))) (pFz (pCB gv (af (pSl 1) ao))))) (bo 0)) (ak 3)) (cw (Dr (pOp (Bu true) (pSl 2) (pFz (df (pSl 0) dq (c8 (bo 1))))) (Ds (pCB Fo (af (pFz (dr [none,some 2] (dL (bo 3)) (ak 0) jy (bF aI (af (pFz (bo 1)) (af (pFz (bo 0)) ao))))) ao)))))))
theorem sA(ds:List D)(i:Int)(Q:PV->Prop)(h:cL ([.tup ds,.int i]) Q):dP io nJ ([.tup ds,.int i]) Q:=by
 show io _ [some (.dat (.tup ds)),some (.dat (.int i)),none,none];obtain⟨ws,rfl,⟨hn,hw⟩,hi,q⟩:=h;obtain⟨k,rfl⟩:∃k:Nat,i=(k:Int):=⟨i.toNat,by omega⟩
 have hk:k<ws.length:=by omega
 have hlm:(ws.map D.str).length=ws.length:=length_map _;have w1:=hw _ (dD hk);walk_at "r";refine⟨_,fu hk rfl,?_⟩;walk_at "r"
 refine cfm (fun τ=>∃v,τ=[v,some (.dat (.str (pw ws k)))]) (fun j=>if (pw ws k).length<(pw ws j).length then some (.str (pw ws j)) else none) ?_ ?_ ?_
 .exact⟨_,rfl⟩
 .rintro j τ d hj ed ⟨v,rfl⟩ K1 K2 k1 k2;rw [gR hj] at ed;subst ed;have w2:=hw _ (dD (show j<ws.length by omega));walk_at "r"
  refine gF (fun c=>?_) (fun c=>?_)
  .walk_at "r";exact k1 _ _ (by rw [if_pos (by omega)]) ⟨_,rfl⟩
  .exact k2 _ (by rw [if_neg (by omega)]) ⟨_,rfl⟩
 .rintro τ ⟨v,rfl⟩
  have e1:(List.range (ws.map D.str).length).filterMap (fun j=>if (pw ws k).length<(pw ws j).length then some (D.str (pw ws j)) else none)=(ws.filter fun o=>decide ((pw ws k).length<o.length)).map D.str:=by
   rw [hlm,yQ (fun w=>if (pw ws k).length<w.length then some (D.str w) else none) ws,<- dt];congr 1;funext w
   by_cases h:(pw ws k).length<w.length
   .rw [if_pos h,if_pos (decide_eq_true h)]
   .rw [if_neg h,if_neg (by rw [decide_eq_false h];decide)]
  rw [e1];have hll:(ws.filter fun o=>decide ((pw ws k).length<o.length)).length<=ws.length:=length_filter_le ..;generalize hL:(ws.filter fun o=>decide ((pw ws k).length<o.length))=ls at hll ⊢;have hlm2:(ls.map D.str).length=ls.length:=length_map _;have c1:eV (ws.map D.str) none (some (k:Int))=(ws.take k).map D.str:=by rw [fo,map_take]
  have hfl:(eV (ws.map D.str) none (some (k:Int))).all D.fl=true:=by rw [c1];exact wP _
  have hin:inD (.str (pw ws k)) (eV (ws.map D.str) none (some (k:Int)))=decide (pw ws k∈ws.take k):=by rw [c1];exact oO _ _
  have hkb:dG ws k=(!inD (.str (pw ws k)) (eV (ws.map D.str) none (some (k:Int))) && !ls.any fun o=>eC (pw ws k) o):=by
   unfold dG;rw [hin,hL]
  rw [toNat_natCast,hkb] at q;walk_at "r"
  refine ot (zD (fun c=>?_) (fun c=>?_))
  .walk_at "r";have c:inD (.str (pw ws k)) (eV (ws.map D.str) none (some (k:Int)))=true:=c;rw [c] at q;exact q
  .have c:inD (.str (pw ws k)) (eV (ws.map D.str) none (some (k:Int)))=false:=c;rw [c,Bool.not_false,Bool.true_and] at q;walk_at "r"
   refine xK (fun τ=>∃v,τ=[v,some (.dat (.str (pw ws k)))]) (fun j=>.bl (eC (pw ws k) (pw ls j))) ?_ ?_ ?_
   .exact⟨_,rfl⟩
   .rintro j τ d hj ed ⟨v,rfl⟩ K1 k1;rw [gR hj] at ed;subst ed;walk_at "r";exact k1 _ ⟨_,rfl⟩
   .rintro τ ⟨v,rfl⟩;walk_at "r"
    refine⟨ls.map fun o=>eC (pw ws k) o,?_,?_⟩
    .rw [hlm2,map_map]
     conv=>rhs;rw [<- nk ls,map_map]
     rfl
    .rw [show ((ls.map fun o=>eC (pw ws k) o).any id)=ls.any (fun o=>eC (pw ws k) o) by rw [any_map];rfl];walk_at "r";exact q
theorem u6:∀ds Q,cL ds Q->dP io nJ ds Q:=fun ds Q h=>by
 unfold cL at h
 split at h
 .exact sA _ _ _ h
 .exact h.elim
def gk:PTS:=(aH (a8 (pCB Ba (af (pFz (dr [none,some 0,some 2] (dL (bo 1)) (ak 0) (pB (bF aI (af (pFz (pOp fIx (pSl 1) (pSl 2))) (af (pFz (pOp fIx (pSl 1) (pSl 0))) ao)))) (bo 0))) ao)) (ak 3)) (cw (Ex (af (pFz (bo 2)) (af (pFz (bo 3)) (af (pFz (bF aV (af (pFz (pOp fIx (pSl 0) (pSl 3))) (af (pFz (pOp fIx (pSl 0) (pSl 2))) ao)))) ao))))))
theorem qT(ds ks:List D)(i:Int)(Q:PV->Prop)(h:cg ([.tup ds,.tup ks,.int i]) Q):dP gk lS ([.tup ds,.tup ks,.int i]) Q:=by
 show gk _ [some (.dat (.tup ds)),some (.dat (.tup ks)),some (.dat (.int i)),none];obtain⟨ws,rfl,rfl,⟨hn,hw⟩,hi,q⟩:=h;obtain⟨k,rfl⟩:∃k:Nat,i=(k:Int):=⟨i.toNat,by omega⟩
 have hk:k<ws.length:=by omega
 rw [toNat_natCast] at q;have hkl:=jH ws;have hkm:((aQ ws).map nD).length=(aQ ws).length:=length_map _;walk_at "r"
 refine cfm (fun τ=>∃v,τ=[v,some (.dat (.tup (ws.map .str))),some (.dat (.int (k:Int)))]) (fun j=>if eC (pw ws k) (pw ws ((aQ ws).getD j 0))=true then some (nD ((aQ ws).getD j 0)) else none) ?_ ?_ ?_
 .exact⟨_,rfl⟩
 .rintro j τ d hj ed ⟨v,rfl⟩ K1 K2 k1 k2;have hj2:(aQ ws).getD j 0<ws.length:=eN (mem_of_getElem? (by rw [getD_eq_getElem?_getD,getElem?_eq_getElem (show j<(aQ ws).length by omega)];rfl));rw [wN hj] at ed;subst ed;generalize (aQ ws).getD j 0=z at hj2 k1 k2 ⊢;walk_at "r";refine⟨_,fu hk rfl,?_⟩;walk_at "r";refine⟨_,fu hj2 rfl,?_⟩;walk_at "r"
  cases hc:eC (pw ws k) (pw ws z) with
  | true=>walk_at "r";exact k1 _ _ (by rw [if_pos hc];rfl) ⟨_,rfl⟩
  | false=>walk_at "r";exact k2 _ (by rw [if_neg (by rw [hc];decide)]) ⟨_,rfl⟩
 .rintro τ ⟨v,rfl⟩
  have e1:(List.range ((aQ ws).map nD).length).filterMap (fun j=>if eC (pw ws k) (pw ws ((aQ ws).getD j 0))=true then some (nD ((aQ ws).getD j 0)) else none)=((lD ws k).map fun j=>((j:Nat):Int)).map D.int:=by
   rw [hkm,yR (fun j=>if eC (pw ws k) (pw ws j)=true then some (nD j) else none) (aQ ws),dt (fun j=>eC (pw ws k) (pw ws j)) nD,map_map];rfl
  rw [e1];obtain⟨h0,hh0⟩:=uQ hw hk;walk_at "r";refine⟨by rw [length_map];exact length_pos_of_mem hh0,fun m hm hle=>?_⟩;obtain⟨z,hz,rfl⟩:=mem_map.mp hm;have hz2:z<ws.length:=eN (mem_filter.mp hz).1;have hho:tO ws k=z:=wM hz fun a ha=>by have:=hle _ (mem_map_of_mem ha);omega
  walk_at "r";refine⟨_,fu hz2 rfl,?_⟩;walk_at "r";refine⟨_,fu hk rfl,?_⟩;walk_at "r";unfold eO at q;rw [hho] at q;exact q
theorem sB:∀ds Q,cg ds Q->dP gk lS ds Q:=fun ds Q h=>by
 unfold cg at h
 split at h
 .exact qT _ _ _ _ h
 .exact h.elim
def d0:PTS:=(aH (gO (bF bn (af (pFz (bo 1)) ao))) (aH (lz "Family" [] "pieces" 0 (pCB jh (af (pSl 1) ao))) (aH (a8 (Bd false (af (pFz (pCB gv (af (pFz (uN "Family" ["pieces"] 0 (pSl 0))) ao))) ao)) (ak 2)) (aH (lz "Family" ["pieces"] "kept" 0 (pCB jh (af (pFz (dr [none,some 0] (dL (bo 2)) (ak 0) (pB (bF cL (af (pFz (uN "Family" ["pieces"] 0 (pSl 1))) (af (pFz (bo 0)) ao)))) (bo 0))) ao))) (aH (lz "Family" ["pieces","kept"] "words" 0 (pCB jh (af (pFz (dr [none,some 0] (dL (uN "Family" ["pieces","kept"] 1 (pSl 0))) (ak 0) jy (pOp fIx (pFz (uN "Family" ["pieces","kept"] 0 (pSl 1))) (pSl 0)))) ao))) (aH (lz "Family" ["pieces","kept","words"] "left" 0 (pCB jh (af (pFz (dr [none,some 0] (dL (bo 2)) (ak 0) (pB (pOp (Bu true) (pSl 0) (pFz (uN "Family" ["pieces","kept","words"] 1 (pSl 1))))) (bF cg (af (pFz (uN "Family" ["pieces","kept","words"] 0 (pSl 1))) (af (pFz (uN "Family" ["pieces","kept","words"] 1 (pSl 1))) (af (pFz (bo 0)) ao)))))) ao))) (aH (lz "Family" ["pieces","kept","words","left"] "laps" 0 (bF cE (af (pFz (uN "Family" ["pieces","kept","words","left"] 2 (pSl 0))) ao))) (lz "Family" ["pieces","kept","words","left","laps"] "total" 0 (pCB yv (af (pFz (dr [none] (dL (uN "Family" ["pieces","kept","words","left","laps"] 2 (pSl 0))) (ak 0) jy (pCB gv (af (pSl 0) ao)))) ao))))))))))
theorem lZ(d:D)(Q:PV->PV->Prop)(h:aO (.ins "Family" [] []) ([d]) Q):tG d0 iF (.ins "Family" [] []) ([d]) Q:=by
 show d0 _ [some (.ins "Family" [] []),some (.dat (d)),none];obtain⟨ws,hd,⟨hn,hp⟩,q⟩:=h;have hlm:(ws.map D.str).length=ws.length:=length_map _;have hkl:=jH ws;have hkm:((aQ ws).map nD).length=(aQ ws).length:=length_map _;have hrl:(tu 0 (((ws.map D.str).length:Nat):Int).toNat).length=ws.length:=by rw [jI];omega
 have hk1:ws.length<=1000/\∀w∈ws,w.length<=10000:=⟨by omega,fun w hw=>by have:=(hp w hw).2.1;omega⟩
 have hk2:ws.length<=1000/\∀w∈ws,w.length<=60:=⟨by omega,fun w hw=>(hp w hw).2.1⟩
 walk_at "r";refine⟨ws,hd,⟨hn,hp⟩,?_⟩
 rcases hd with rfl|rfl
 .walk_at "r"
  refine cfm (fun τ=>∃v,τ=[v,some (.ins "Family" ["pieces"] [.tup (ws.map .str)])]) (fun j=>if dG ws j=true then some (nD j) else none) ?_ ?_ ?_
  .exact⟨_,rfl⟩
  .rintro j τ d hj ed ⟨v,rfl⟩ K1 K2 k1 k2;have hj2:j<ws.length:=by rw [jI] at hj;omega
   rw [oP hj] at ed;subst ed;walk_at "r";rw [toNat_natCast]
   cases hc:dG ws j with
   | true=>walk_at "r";exact k1 _ _ (by rw [if_pos hc];rfl) ⟨_,rfl⟩
   | false=>walk_at "r";exact k2 _ (by rw [if_neg (by rw [hc];decide)]) ⟨_,rfl⟩
  .rintro τ ⟨v,rfl⟩
   have e1:(List.range (tu 0 (((ws.map D.str).length:Nat):Int).toNat).length).filterMap (fun j=>if dG ws j=true then some (nD j) else none)=(aQ ws).map nD:=by
    rw [jI,hlm,toNat_natCast,dt (dG ws) nD];rfl
   rw [e1];walk_at "r"
   refine xK (fun τ=>∃v,τ=[v,some (.ins "Family" ["pieces","kept"] [.tup (ws.map .str),.tup ((aQ ws).map nD)])]) (fun k=>.str (pw ws ((aQ ws).getD k 0))) ?_ ?_ ?_
   .exact⟨_,rfl⟩
   .rintro j τ d hj ed ⟨v,rfl⟩ K1 k1;have hj2:(aQ ws).getD j 0<ws.length:=eN (mem_of_getElem? (by rw [getD_eq_getElem?_getD,getElem?_eq_getElem (show j<(aQ ws).length by omega)];rfl));rw [wN hj] at ed;subst ed;walk_at "r";refine⟨_,fu hj2 rfl,?_⟩;walk_at "r";exact k1 _ ⟨_,rfl⟩
   .rintro τ ⟨v,rfl⟩
    have e2:(List.range ((aQ ws).map nD).length).map (fun k=>D.str (pw ws ((aQ ws).getD k 0)))=(ah ws).map D.str:=by
     rw [hkm,fU (fun j=>D.str (pw ws j)) (aQ ws)];unfold ah;rw [map_map];rfl
    rw [e2];have hwl:=dU ws;have hwm:((ah ws).map D.str).length=(ah ws).length:=length_map _;have hwp:=dE hp;have hwq:(ah ws).length<=1000/\∀w∈ah ws,0<w.length/\w.length<=10000:=⟨by omega,fun w hw=>⟨(hwp w hw).1,by have:=(hwp w hw).2.1;omega⟩⟩
    have hfl:((aQ ws).map nD).all D.fl=true:=DY _;walk_at "r"
    refine cfm (fun τ=>∃v,τ=[v,some (.ins "Family" ["pieces","kept","words"] [.tup (ws.map .str),.tup ((aQ ws).map nD),.tup ((ah ws).map .str)])]) (fun j=>if (!decide (j∈aQ ws))=true then some (eO ws j) else none) ?_ ?_ ?_
    .exact⟨_,rfl⟩
    .rintro j τ d hj ed ⟨v,rfl⟩ K1 K2 k1 k2;have hj2:j<ws.length:=by omega
     rw [oP hj] at ed;subst ed;have hin:=wO j (aQ ws);walk_at "r"
     refine ot (zD (fun c=>?_) (fun c=>?_))
     .have c:inD (.int (j:Int)) ((aQ ws).map nD)=true:=c;rw [hin] at c;exact k2 _ (by rw [c];rfl) ⟨_,rfl⟩
     .have c:inD (.int (j:Int)) ((aQ ws).map nD)=false:=c;rw [hin] at c;walk_at "r";rw [toNat_natCast];exact k1 _ _ (by rw [c];rfl) ⟨_,rfl⟩
    .rintro τ ⟨v,rfl⟩
     have e3:(List.range (tu 0 (((ws.map D.str).length:Nat):Int).toNat).length).filterMap (fun j=>if (!decide (j∈aQ ws))=true then some (eO ws j) else none)=(wL ws).map (eO ws):=by
      rw [hrl,dt (fun j=>!decide (j∈aQ ws)) (eO ws)];rfl
     rw [e3];walk_at "r"
     refine xK (fun τ=>∃v,τ=[v]) (fun k=>.int ((pw (ah ws) k).length:Int)) ?_ ?_ ?_
     .exact⟨_,rfl⟩
     .rintro j τ d hj ed ⟨v,rfl⟩ K1 k1;rw [gR hj] at ed;subst ed;walk_at "r";exact k1 _ ⟨_,rfl⟩
     .rintro τ ⟨v,rfl⟩
      have e4:(List.range ((ah ws).map D.str).length).map (fun k=>D.int ((pw (ah ws) k).length:Int))=((ah ws).map fun w=>(w.length:Int)).map D.int:=by
       rw [hwm,map_map]
       conv=>rhs;rw [<- nk (ah ws),map_map]
       rfl
      rw [e4];walk_at "r";exact q
 .walk_at "r"
  refine cfm (fun τ=>∃v,τ=[v,some (.ins "Family" ["pieces"] [.tup (ws.map .str)])]) (fun j=>if dG ws j=true then some (nD j) else none) ?_ ?_ ?_
  .exact⟨_,rfl⟩
  .rintro j τ d hj ed ⟨v,rfl⟩ K1 K2 k1 k2;have hj2:j<ws.length:=by rw [jI] at hj;omega
   rw [oP hj] at ed;subst ed;walk_at "r";rw [toNat_natCast]
   cases hc:dG ws j with
   | true=>walk_at "r";exact k1 _ _ (by rw [if_pos hc];rfl) ⟨_,rfl⟩
   | false=>walk_at "r";exact k2 _ (by rw [if_neg (by rw [hc];decide)]) ⟨_,rfl⟩
  .rintro τ ⟨v,rfl⟩
   have e1:(List.range (tu 0 (((ws.map D.str).length:Nat):Int).toNat).length).filterMap (fun j=>if dG ws j=true then some (nD j) else none)=(aQ ws).map nD:=by
    rw [jI,hlm,toNat_natCast,dt (dG ws) nD];rfl
   rw [e1];walk_at "r"
   refine xK (fun τ=>∃v,τ=[v,some (.ins "Family" ["pieces","kept"] [.tup (ws.map .str),.tup ((aQ ws).map nD)])]) (fun k=>.str (pw ws ((aQ ws).getD k 0))) ?_ ?_ ?_
   .exact⟨_,rfl⟩
   .rintro j τ d hj ed ⟨v,rfl⟩ K1 k1;have hj2:(aQ ws).getD j 0<ws.length:=eN (mem_of_getElem? (by rw [getD_eq_getElem?_getD,getElem?_eq_getElem (show j<(aQ ws).length by omega)];rfl));rw [wN hj] at ed;subst ed;walk_at "r";refine⟨_,fu hj2 rfl,?_⟩;walk_at "r";exact k1 _ ⟨_,rfl⟩
   .rintro τ ⟨v,rfl⟩
    have e2:(List.range ((aQ ws).map nD).length).map (fun k=>D.str (pw ws ((aQ ws).getD k 0)))=(ah ws).map D.str:=by
     rw [hkm,fU (fun j=>D.str (pw ws j)) (aQ ws)];unfold ah;rw [map_map];rfl
    rw [e2];have hwl:=dU ws;have hwm:((ah ws).map D.str).length=(ah ws).length:=length_map _;have hwp:=dE hp;have hwq:(ah ws).length<=1000/\∀w∈ah ws,0<w.length/\w.length<=10000:=⟨by omega,fun w hw=>⟨(hwp w hw).1,by have:=(hwp w hw).2.1;omega⟩⟩
    have hfl:((aQ ws).map nD).all D.fl=true:=DY _;walk_at "r"
    refine cfm (fun τ=>∃v,τ=[v,some (.ins "Family" ["pieces","kept","words"] [.tup (ws.map .str),.tup ((aQ ws).map nD),.tup ((ah ws).map .str)])]) (fun j=>if (!decide (j∈aQ ws))=true then some (eO ws j) else none) ?_ ?_ ?_
    .exact⟨_,rfl⟩
    .rintro j τ d hj ed ⟨v,rfl⟩ K1 K2 k1 k2;have hj2:j<ws.length:=by omega
     rw [oP hj] at ed;subst ed;have hin:=wO j (aQ ws);walk_at "r"
     refine ot (zD (fun c=>?_) (fun c=>?_))
     .have c:inD (.int (j:Int)) ((aQ ws).map nD)=true:=c;rw [hin] at c;exact k2 _ (by rw [c];rfl) ⟨_,rfl⟩
     .have c:inD (.int (j:Int)) ((aQ ws).map nD)=false:=c;rw [hin] at c;walk_at "r";rw [toNat_natCast];exact k1 _ _ (by rw [c];rfl) ⟨_,rfl⟩
    .rintro τ ⟨v,rfl⟩
     have e3:(List.range (tu 0 (((ws.map D.str).length:Nat):Int).toNat).length).filterMap (fun j=>if (!decide (j∈aQ ws))=true then some (eO ws j) else none)=(wL ws).map (eO ws):=by
      rw [hrl,dt (fun j=>!decide (j∈aQ ws)) (eO ws)];rfl
     rw [e3];walk_at "r"
     refine xK (fun τ=>∃v,τ=[v]) (fun k=>.int ((pw (ah ws) k).length:Int)) ?_ ?_ ?_
     .exact⟨_,rfl⟩
     .rintro j τ d hj ed ⟨v,rfl⟩ K1 k1;rw [gR hj] at ed;subst ed;walk_at "r";exact k1 _ ⟨_,rfl⟩
     .rintro τ ⟨v,rfl⟩
      have e4:(List.range ((ah ws).map D.str).length).map (fun k=>D.int ((pw (ah ws) k).length:Int))=((ah ws).map fun w=>(w.length:Int)).map D.int:=by
       rw [hwm,map_map]
       conv=>rhs;rw [<- nk (ah ws),map_map]
       rfl
      rw [e4];walk_at "r";exact q
theorem mK:∀p ds Q,p.isOwn=true->aO p ds Q->tG d0 iF p ds Q:=fun p ds Q _ h=>by
 unfold aO at h
 split at h
 .exact lZ _ _ h
 .exact h.elim
def d5:PTS:=(cw (pCB gv (af (pFz (uN "Family" ["pieces","kept","words","left","laps","total"] 2 (pSl 0))) ao)))
theorem l4(c:Str)(ns:List Str)(fs:List D)(Q:PV->Prop)(h:aW ([.obj c ns fs]) Q):dP d5 iG ([.obj c ns fs]) Q:=by
 show d5 _ [some (.dat (.obj c ns fs))];obtain⟨rfl,rfl,ws,rfl,q⟩:=h;walk_at "r";rw [length_map];exact q
theorem mL:∀ds Q,aW ds Q->dP d5 iG ds Q:=fun ds Q h=>by
 unfold aW at h
 split at h
 .exact l4 _ _ _ _ h
 .exact h.elim
def e9:PTS:=(aH (a8 (pOp bP (pFz (pOp bP (pFz (pOp bP (pFz (pOp gG (pSl 0) (pFz (pC (.int 2305843009213693951))))) (pFz (pOp ou (pFz (pOp ou (pSl 1) (pSl 1))) (pFz (pC (.int 48271))))))) (pFz (pOp ou (pSl 1) (pFz (pC (.int 9973))))))) (pFz (pC (.int 20021)))) (ak 2)) (aH (a8 (pOp gG (pSl 2) (pFz (pC (.int 2305843009213693951)))) (ak 2)) (aH (a8 (pOp gG (pFz (pOp ou (pSl 2) (pSl 2))) (pFz (pC (.int 2305843009213693951)))) (ak 2)) (aH (a8 (pOp gG (pFz (pOp ou (pFz (pOp bP (pFz (pOp bP (pSl 2) (pFz (pOp ou (pSl 1) (pFz (pC (.int 16807))))))) (pFz (pC (.int 11))))) (pFz (pC (.int 69621))))) (pFz (pC (.int 2305843009213693951)))) (ak 2)) (cw (pOp DQ (pFz (pOp gG (pFz (pOp ou (pSl 2) (pSl 2))) (pFz (pC (.int 2305843009213693951))))) (pFz (pC (.int 4096)))))))))
theorem pd(c k:Int)(Q:PV->Prop)(h:bT ([.int c,.int k]) Q):dP e9 kh ([.int c,.int k]) Q:=by
 show e9 _ [some (.dat (.int c)),some (.dat (.int k)),none];obtain⟨⟨h0,h1⟩,q⟩:=h;walk_at "r";exact q _ (ediv_nonneg (emod_nonneg _ (by decide)) (by decide))
theorem qU:∀ds Q,bT ds Q->dP e9 kh ds Q:=fun ds Q h=>by
 unfold bT at h
 split at h
 .exact pd _ _ _ h
 .exact h.elim
def gm:PTS:=(aH (a8 (pOp bP (pFz (pCB wu (af (pSl 0) ao))) (pFz (mC (af (pFz (pCB gv (af (pSl 0) ao))) ao)))) (ak 2)) (aH (a8 (mC ao) (ak 3)) (aH (a8 (pC (.int 0)) (ak 4)) (aH (oA (pB (pOp fLt (pFz (pCB gv (af (pSl 3) ao))) (pSl 1))) (aH (ir (dL (bo 2)) (ak 5) (aH (a8 (bo 5) (ak 6)) (aH (m7 (kQ (pOr (pB (pOp fGt (pSl 4) (pFz (pC (.int 0))))) (pB (pOp fLt (pSl 5) (pFz (pOp GB (pFz (pC (.int 10))) (pFz (pC (.int 18)))))))) (aH (gO (xI 3 (pOp gG (pFz (bF bT (af (pFz (bo 5)) (af (pFz (pOp bP (pFz (pCB gv (af (pSl 3) ao))) (pFz (pC (.int 1))))) ao)))) (pFz (pC (.int 1000)))))) (a8 (pC (.int 0)) (ak 6))) cU)) (oA (Cb (pB (pOp fGt (pSl 6) (pFz (pC (.int 0))))) (pB (pOp fLt (pFz (pCB gv (af (pSl 3) ao))) (pSl 1)))) (aH (gO (xI 3 (pOp gG (pSl 6) (pFz (pC (.int 1000)))))) (a8 (pOp DQ (pSl 6) (pFz (pC (.int 1000)))) (ak 6))))))) (a8 (pOp bP (pSl 4) (pFz (pC (.int 1)))) (ak 4)))) (cw (tz (pFz (df (pSl 3) dq (c8 (bo 1))))))))))
theorem qV(ns:List Int)(mo:Int)(Q:PV->Prop)(h:cF ([.scr ns,.int mo]) Q):dP gm lT ([.scr ns,.int mo]) Q:=by
 show gm _ [some (.dat (.scr ns)),some (.dat (.int mo)),none,none,none,none,none];obtain⟨⟨hn,h0,h1⟩,q⟩:=h;obtain⟨n,rfl⟩:∃n:Nat,mo=(n:Int):=⟨mo.toNat,by omega⟩
 have ecs:ns.map D.int++[D.int (ns.length:Int)]=(ns++[(ns.length:Int)]).map D.int:=by rw [map_append];rfl
 have hnm:(ns.map D.int).length=ns.length:=length_map _;walk_at "r";rw [ecs];generalize hcs:ns++[(ns.length:Int)]=cs;have hcl:cs.length=ns.length+1:=by rw [<- hcs,length_append];rfl
 have hcm:(cs.map D.int).length=cs.length:=length_map _;refine⟨fun m ρ=>∃(x:Option PV) (zs:List Int) (tn:Nat) (v5 v6:Option PV),(x=some (.own (cs.map .int))\/x=some (.dat (.lst (cs.map .int))))/\Dk zs/\zs.length<=n+65/\tn<=zs.length/\m=n - zs.length/\ρ=[some (.dat (.scr ns)),some (.dat (.int (n:Int))),x,some (.own (zs.map .int)),some (.dat (.int (tn:Int))),v5,v6],⟨n,_,[],0,_,_,.inl rfl,nofun,zero_le _,zero_le _,rfl,rfl⟩,?_⟩
 rintro m ρ ⟨x,zs,tn,v5,v6,hx,hz,hzl,htn,hm,rfl⟩;have hzm:(zs.map D.int).length=zs.length:=length_map _
 have fin:∀zs:List Int,Dk zs->n<=zs.length->Q (.own ((zs.take n).map D.int).reverse):=fun zs hz hl=>by
  rw [<- map_reverse];refine q _ (fun x hx=>hz x (mem_of_mem_take (mem_reverse.mp hx))) ?_;rw [length_reverse,length_take,toNat_natCast];omega
 have p18:((10:Int)^(18:Nat))=1000000000000000000:=by decide
 rcases hx with rfl|rfl <;> (
  walk_at "r"
  refine gF (fun c0=>?_) (fun c0=>?_)
  .have c0:zs.length<n:=by omega
   walk_at "r"
   refine⟨fun k ρ=>∃(ys:List Int) (w5 w6:Option PV),Dk ys/\ys.length<=n+k/\zs.length<=ys.length/\(0<k->zs.length<ys.length)/\ρ=[some (.dat (.scr ns)),some (.dat (.int (n:Int))),some (.dat (.lst (cs.map .int))),some (.own (ys.map .int)),some (.dat (.int (tn:Int))),w5,w6],⟨zs,_,_,hz,by omega,Nat.le_refl _,fun z=>absurd z (Nat.lt_irrefl _),rfl⟩,?_,?_⟩
   .rintro k ρ d hk ed ⟨ys,w5,w6,hy,hyl,hzy,hpr,rfl⟩;have hk:k<cs.length:=by rw [hcm] at hk;exact hk
    have ed:d=.int (cs.getD k 0):=by rw [ed];exact Bl (by rw [hcm];exact hk)
    subst ed;generalize cs.getD k 0=c;have hym:(ys.map D.int).length=ys.length:=length_map _;walk_at "r"
    refine⟨fun ρ=>∃(us:List Int) (r:Int),Dk us/\0<=r/\((us.length=ys.length+1/\r=0)\/(us.length=ys.length/\0<r))/\ρ=[some (.dat (.scr ns)),some (.dat (.int (n:Int))),some (.dat (.lst (cs.map .int))),some (.own (us.map .int)),some (.dat (.int (tn:Int))),some (.dat (.int c)),some (.dat (.int r))],?_,?_⟩
    .have dm:∀(us:List Int) (z:Int),Dk us->Dk (us++[z % 1000]):=fun us z hu x hx=>by
      rcases mem_append.mp hx with w|w
      .exact hu x w
      .rw [mem_singleton.mp w];exact⟨emod_nonneg _ (by decide),emod_lt_of_pos _ (by decide)⟩
     have app:∀(us:List Int) (z:Int),us.map D.int++[D.int (z % 1000)]=(us++[z % 1000]).map D.int:=fun us z=>by rw [map_append];rfl
     walk_at "r"
     refine gF (fun c1=>?_) (fun c1=>?_)
     .walk_at "r";rintro z hz0;walk_at "r";exact⟨ys++[z % 1000],0,dm ys z hy,by decide,.inl ⟨by rw [length_append];rfl,rfl⟩,by rw [<- app]⟩
     .walk_at "r"
      refine gF (fun c2=>?_) (fun c2=>?_)
      .walk_at "r";rintro z hz0;walk_at "r";exact⟨ys++[z % 1000],0,dm ys z hy,by decide,.inl ⟨by rw [length_append];rfl,rfl⟩,by rw [<- app]⟩
      .have c3:¬ (c<1000000000000000000):=c2;walk_at "r";exact⟨ys,c,hy,by omega,.inr ⟨rfl,by omega⟩,rfl⟩
    .rintro ρ ⟨us,r,hu,hr,hc,rfl⟩
     have dm:∀(us:List Int) (z:Int),Dk us->Dk (us++[z % 1000]):=fun us z hu x hx=>by
      rcases mem_append.mp hx with w|w
      .exact hu x w
      .rw [mem_singleton.mp w];exact⟨emod_nonneg _ (by decide),emod_lt_of_pos _ (by decide)⟩
     have app:∀(us:List Int) (z:Int),us.map D.int++[D.int (z % 1000)]=(us++[z % 1000]).map D.int:=fun us z=>by rw [map_append];rfl
     walk_at "r";refine⟨fun m ρ=>∃(vs:List Int) (r:Int),Dk vs/\0<=r/\us.length<=vs.length/\(vs.length<=n\/vs.length=us.length)/\(vs.length=us.length->us.length=ys.length->0<r)/\m=n - vs.length/\ρ=[some (.dat (.scr ns)),some (.dat (.int (n:Int))),some (.dat (.lst (cs.map .int))),some (.own (vs.map .int)),some (.dat (.int (tn:Int))),some (.dat (.int c)),some (.dat (.int r))],⟨_,us,r,hu,hr,Nat.le_refl _,.inr rfl,fun _ e=>by omega,rfl,rfl⟩,?_⟩
     rintro m ρ ⟨vs,r,hv,hr0,huv,hvn,hrp,hm2,rfl⟩;have hvm:(vs.map D.int).length=vs.length:=length_map _
     have done:¬ (0<r/\vs.length<n)->∃(ys:List Int) (w5 w6:Option PV),Dk ys/\ys.length<=n+(k+1)/\zs.length<=ys.length/\(0<k+1->zs.length<ys.length)/\[some (.dat (.scr ns)),some (.dat (.int (n:Int))),some (.dat (.lst (cs.map .int))),some (.own (vs.map .int)),some (.dat (.int (tn:Int))),some (.dat (.int c)),some (.dat (.int r))]=[some (PV.dat (.scr ns)),some (.dat (.int (n:Int))),some (.dat (.lst (cs.map .int))),some (.own (ys.map .int)),some (.dat (.int (tn:Int))),w5,w6]:=fun hd=>by
      refine⟨vs,_,_,hv,by omega,by omega,fun _=>?_,rfl⟩
      rcases hc with ⟨e1,e2⟩|⟨e1,e2⟩
      .omega
      .by_cases g:vs.length=us.length
       .have:=hrp g e1
        by_cases k0:0<k
        .have:=hpr k0;omega
        .omega
       .omega
     walk_at "r"
     refine gF (fun c3=>?_) (fun c3=>?_)
     .walk_at "r"
      refine gF (fun c4=>?_) (fun c4=>?_)
      .walk_at "r"
       refine⟨_,?_,vs++[r % 1000],r / 1000,dm vs r hv,ediv_nonneg hr0 (by decide),?_,?_,?_,rfl,by rw [<- app]⟩
       .rw [length_append];show n - (vs.length+1)<m;omega
       .rw [length_append];omega
       .rw [length_append];show vs.length+1<=n\/_;omega
       .rw [length_append];intro e;exfalso;have e:vs.length+1=us.length:=e;omega
      .exact done (by omega)
     .exact done (by omega)
   .rintro ρ ⟨ys,w5,w6,hy,hyl,hzy,hpr,rfl⟩;rw [hcm] at hyl hpr;walk_at "r";exact⟨_,by omega,_,ys,tn+1,_,_,.inr rfl,hy,by omega,by have:=hpr (by omega);omega,rfl,by rw [show ((tn:Int)+1)=((tn+1:Nat):Int) by omega]⟩
  .have c0:n<=zs.length:=by omega
   walk_at "r";rw [fo,<- map_take];exact fin zs hz c0)
theorem sC:∀ds Q,cF ds Q->dP gm lT ds Q:=fun ds Q h=>by
 unfold cF at h
 split at h
 .exact qV _ _ _ h
 .exact h.elim
def gn:PTS:=(cw (Fk 0))
theorem qW(ds:List D)(Q:PV->PV->Prop)(h:aB (.own ds) ([]) Q):tG gn lU (.own ds) ([]) Q:=by
 show gn _ [some (.own ds)];obtain⟨zs,rfl,⟨hz,h0,h1⟩,q⟩:=h;obtain⟨ys,z,rfl⟩:∃ys z,zs=ys++[z]:=⟨zs.dropLast,zs.getLast (ne_nil_of_length_pos h0),(dropLast_concat_getLast _).symm⟩
 have hm:((ys++[z]).map D.int)=ys.map D.int++[D.int z]:=by rw [map_append];rfl
 have hl:(ys.map D.int++[D.int z]).length - 1=(ys.map D.int).length:=by rw [length_append];rfl
 rw [hm];walk_at "r";refine⟨.int z,by rw [hl,getElem?_append_right (Nat.le_refl _),sub_self];rfl,?_⟩;walk_at "r";rw [dropLast_concat];have hzz:=hz z (mem_append_right _ (mem_singleton.mpr rfl));exact q z ys hzz.1 hzz.2 (fun x hx=>hz x (mem_append_left _ hx)) (by rw [length_append];rfl)
theorem sD:∀p ds Q,p.isOwn=true->aB p ds Q->tG gn lU p ds Q:=fun p ds Q _ h=>by
 unfold aB at h
 split at h
 .exact qW _ _ h
 .exact h.elim
def fb:PTS:=(aH (a8 (pC (.str [])) (ak 3)) (aH (ir (uK (af (pFz (bo 2)) ao)) (ak 4) (a8 (pOp bP (pSl 3) (pFz (pOp fIx (pSl 1) (pFz (pOp gG (pFz (bN aB 0 ao)) (pFz (pCB gv (af (pSl 1) ao)))))))) (ak 3))) (cw (bo 3))))
theorem pq(ds:List D)(L:D)(n:Int)(Q:PV->PV->Prop)(h:bt (.own ds) ([L,.int n]) Q):tG fb ki (.own ds) ([L,.int n]) Q:=by
 show fb _ [some (.own ds),some (.dat (L)),some (.dat (.int n)),none,none];obtain⟨zs,rfl,h⟩:=h
 cases L with
 | lst es =>
  obtain⟨ls,rfl,⟨hl0,hl1,hL⟩,⟨hz,h1⟩,⟨hn0,hn1⟩,q⟩:=h;have hlm:(ls.map fun c=>D.str [c]).length=ls.length:=length_map _;walk_at "r"
  refine⟨fun k ρ=>∃(w:List Nat) (ys:List Int) (v4:Option PV),w.length=k/\Lts w/\(∀c∈w,c∈ls)/\Dk ys/\ys.length+k=zs.length/\ρ=[some (.own (ys.map .int)),some (.dat (.lst (ls.map fun c=>.str [c]))),some (.dat (.int n)),some (.dat (.str w)),v4],⟨[],zs,_,rfl,Lts.nil,(fun c hc=>nomatch hc),hz,rfl,rfl⟩,?_,?_⟩
  .rintro k ρ _ hk rfl ⟨w,ys,v4,hw,hwL,hwc,hy,hyl,rfl⟩;have hk2:(k:Int)<n:=by omega
   have g1:Dk ys/\0<ys.length/\ys.length<=100000:=⟨hy,by omega,by omega⟩
   walk_at "r";rintro z y2 hz0 hz1 hd2 hl2;obtain⟨j,hj⟩:∃j:Nat,z % (ls.length:Int)=(j:Int):=⟨(z % (ls.length:Int)).toNat,by have:=emod_nonneg z (show (ls.length:Int)≠0 by omega);omega⟩
   have hj2:j<ls.length:=by have:=emod_lt_of_pos z (show 0<(ls.length:Int) by omega);omega
   walk_at "r";rw [hlm,hj];refine⟨_,gK (j:=j) (by rw [getElem?_map,getElem?_eq_getElem hj2];rfl) rfl,?_⟩;walk_at "r";refine⟨w++[ls[j]],y2,_,by rw [length_append,hw];rfl,hwL.app (Lts.one (hL _ (getElem_mem hj2))),fun c hc=>?_,hd2,by omega,rfl⟩
   rcases mem_append.mp hc with x|x
   .exact hwc c x
   .rw [mem_singleton.mp x];exact getElem_mem hj2
  .rintro ρ ⟨w,ys,v4,hw,hwL,hwc,hy,hyl,rfl⟩;walk_at "r";exact q w ys hw hwL hwc hy hyl
 | str ls =>
  obtain⟨⟨hl0,hl1,hL⟩,⟨hz,h1⟩,⟨hn0,hn1⟩,q⟩:=h;walk_at "r"
  refine⟨fun k ρ=>∃(w:List Nat) (ys:List Int) (v4:Option PV),w.length=k/\Lts w/\(∀c∈w,c∈ls)/\Dk ys/\ys.length+k=zs.length/\ρ=[some (.own (ys.map .int)),some (.dat (.str ls)),some (.dat (.int n)),some (.dat (.str w)),v4],⟨[],zs,_,rfl,Lts.nil,(fun c hc=>nomatch hc),hz,rfl,rfl⟩,?_,?_⟩
  .rintro k ρ _ hk rfl ⟨w,ys,v4,hw,hwL,hwc,hy,hyl,rfl⟩;have hk2:(k:Int)<n:=by omega
   have g1:Dk ys/\0<ys.length/\ys.length<=100000:=⟨hy,by omega,by omega⟩
   walk_at "r";rintro z y2 hz0 hz1 hd2 hl2;obtain⟨j,hj⟩:∃j:Nat,z % (ls.length:Int)=(j:Int):=⟨(z % (ls.length:Int)).toNat,by have:=emod_nonneg z (show (ls.length:Int)≠0 by omega);omega⟩
   have hj2:j<ls.length:=by have:=emod_lt_of_pos z (show 0<(ls.length:Int) by omega);omega
   walk_at "r";rw [hj];refine⟨_,gK (j:=j) (getElem?_eq_getElem hj2) rfl,?_⟩;walk_at "r";refine⟨w++[ls[j]],y2,_,by rw [length_append,hw];rfl,hwL.app (Lts.one (hL _ (getElem_mem hj2))),fun c hc=>?_,hd2,by omega,rfl⟩
   rcases mem_append.mp hc with x|x
   .exact hwc c x
   .rw [mem_singleton.mp x];exact getElem_mem hj2
  .rintro ρ ⟨w,ys,v4,hw,hwL,hwc,hy,hyl,rfl⟩;walk_at "r";exact q w ys hw hwL hwc hy hyl
 | _=>exact h.elim
theorem qX:∀p ds Q,p.isOwn=true->bt p ds Q->tG fb ki p ds Q:=fun p ds Q _ h=>by
 unfold bt at h
 split at h
 .exact pq _ _ _ _ h
 .exact h.elim
def eA:PTS:=(aH (a8 (pOp gG (pFz (bN aB 0 ao)) (pFz (pC (.int 26)))) (ak 2)) (aH (a8 (pOp fIx (pFz (mC (af (pFz (pC (.int 2))) (af (pFz (pC (.int 2))) (af (pFz (pC (.int 3))) (af (pFz (pC (.int 26))) ao)))))) (pFz (pOp gG (pFz (bN aB 0 ao)) (pFz (pC (.int 4)))))) (ak 3)) (aH (a8 (dr [none,some 2] (uK (af (pFz (bo 3)) ao)) (ak 0) jy (pOp fIx (pFz (pC (.str [97,98,99,100,101,102,103,104,105,106,107,108,109,110,111,112,113,114,115,116,117,118,119,120,121,122]))) (pFz (pOp gG (pFz (pOp bP (pSl 1) (pFz (pOp ou (pFz (pC (.int 7))) (pSl 0))))) (pFz (pC (.int 26))))))) (ak 4)) (aH (a8 (pOp gG (pFz (bN aB 0 ao)) (pFz (pC (.int 4)))) (ak 5)) (aH (a8 (pOp bP (pFz (pC (.int 1))) (pFz (pOp gG (pFz (bN aB 0 ao)) (pFz (pC (.int 6)))))) (ak 6)) (aH (a8 (pOp ou (pFz (bN bt 0 (af (pFz (bo 4)) (af (pFz (pOp bP (pFz (pC (.int 2))) (pFz (pOp gG (pFz (bN aB 0 ao)) (pFz (pC (.int 9))))))) ao)))) (pFz (pC (.int 9)))) (ak 7)) (aH (a8 (mC ao) (ak 8)) (aH (ir (uK (af (pFz (pOp gG (pFz (bN aB 0 ao)) (pFz (pOp bP (pSl 1) (pFz (pC (.int 1))))))) ao)) (ak 9) (aH (a8 (bN aB 0 ao) (ak 10)) (aH (a8 (df (pSl 7) (c8 (pOp gG (pSl 10) (pFz (pC (.int 9))))) (c8 (pOp bP (pFz (pOp bP (pFz (pOp gG (pSl 10) (pFz (pC (.int 9))))) (pSl 6))) (pFz (pOp DQ (pFz (pOp gG (pFz (pOp DQ (pSl 10) (pFz (pC (.int 9))))) (pFz (pC (.int 5))))) (pFz (pC (.int 3)))))))) (ak 11)) (aH (m7 (kQ (pB (pOp rS (pSl 5) (pFz (pC (.int 2))))) (a8 (bN bt 0 (af (pFz (bo 4)) (af (pFz (pOp bP (pFz (pC (.int 1))) (pFz (pOp gG (pSl 10) (pFz (pC (.int 6))))))) ao))) (ak 11)) cU)) (aH (m7 (kQ (pB (pOp rS (pSl 5) (pFz (pC (.int 3))))) (a8 (pOp bP (pFz (pOp bP (pFz (pOp ou (pFz (pOp fIx (pSl 4) (pFz (pC (.int 0))))) (pFz (pOp gG (pSl 10) (pFz (pC (.int 4))))))) (pFz (pOp fIx (pSl 4) (pFz (pC (.int 1))))))) (pFz (pOp ou (pFz (pOp fIx (pSl 4) (pFz (pC (.int 0))))) (pFz (pOp gG (pFz (pOp DQ (pSl 10) (pFz (pC (.int 4))))) (pFz (pC (.int 4)))))))) (ak 11)) cU)) (gO (xI 8 (bo 11)))))))) (cw (bo 8))))))))))
theorem mM(ds:List D)(mo:Int)(Q:PV->PV->Prop)(h:bQ (.own ds) ([.int mo]) Q):tG eA jp (.own ds) ([.int mo]) Q:=by
 show eA _ [some (.own ds),some (.dat (.int mo)),none,none,none,none,none,none,none,none,none,none];obtain⟨zs,rfl,⟨hz,h1⟩,⟨hm0,hm1,hm2⟩,q⟩:=h;have g0:Dk zs/\0<zs.length/\zs.length<=100000:=⟨hz,by omega,by omega⟩
 walk_at "r";rintro a y1 ha0 ha1 hd1 hl1;have g1:Dk y1/\0<y1.length/\y1.length<=100000:=⟨hd1,by omega,by omega⟩
 obtain⟨f,hf⟩:∃f:Nat,a % 26=(f:Int):=⟨(a % 26).toNat,by omega⟩
 have hf26:f<26:=by omega
 walk_at "r";rintro b y2 hb0 hb1 hd2 hl2;rw [hf]
 have hm:∃n:Nat,atI [D.int 2,D.int 2,D.int 3,D.int 26] (b % 4)=some (.int (n:Int))/\(n=2\/n=3\/n=26):=by
  rcases (show b % 4=0\/b % 4=1\/b % 4=2\/b % 4=3 by omega) with e|e|e|e <;> rw [e]
  .exact⟨2,rfl,.inl rfl⟩
  .exact⟨2,rfl,.inl rfl⟩
  .exact⟨3,rfl,.inr (.inl rfl)⟩
  .exact⟨26,rfl,.inr (.inr rfl)⟩
 obtain⟨n,en,hn⟩:=hm;have hn26:n<=26:=by omega
 walk_at "r";refine⟨_,en,?_⟩;walk_at "r"
 refine cmR (fun k=>.str [97+(f+7*k) % 26]) (fun k hk v K1 k1=>?_) (fun v=>?_)
 .have hk:k<n:=by rw [toNat_natCast] at hk;exact hk
  have hk26:k<26:=by omega
  walk_at "r";rw [show ((f:Int)+7*(k:Int)) % 26=(((f+7*k) % 26:Nat):Int) by omega];exact⟨_,Ae (mod_lt _ (by decide)),k1 _⟩
 rw [toNat_natCast,show (List.range n).map (fun k=>D.str [97+(f+7*k) % 26])=(iu n f).map fun c=>.str [c] by unfold iu;rw [map_map];rfl];have hll:(iu n f).length=n:=by unfold iu;rw [length_map,length_range]
 have hL:=qJ n f;generalize iu n f=ls at hll hL;have gl:0<ls.length/\ls.length<=26/\Lts ls:=⟨by omega,by omega,hL⟩
 have hlm:(ls.map fun c=>D.str [c]).length=ls.length:=length_map _;have g2:Dk y2/\0<y2.length/\y2.length<=100000:=⟨hd2,by omega,by omega⟩
 walk_at "r";rintro c y3 hc0 hc1 hd3 hl3;have g3:Dk y3/\0<y3.length/\y3.length<=100000:=⟨hd3,by omega,by omega⟩
 walk_at "r";rintro e y4 he0 he1 hd4 hl4;have g4:Dk y4/\0<y4.length/\y4.length<=100000:=⟨hd4,by omega,by omega⟩
 obtain⟨lo,hlo,hlo6⟩:∃lo:Nat,1+e % 6=(lo:Int)/\1<=lo/\lo<=6:=⟨(1+e % 6).toNat,by omega,by omega,by omega⟩
 walk_at "r";rintro u y5 hu0 hu1 hd5 hl5;rw [hlo];generalize c % 4=so;have g5:Dk y5/\y5.length<=100000:=⟨hd5,by omega⟩
 have g6:0<=2+u % 9/\2+u % 9<=(y5.length:Int):=⟨by omega,by omega⟩
 have u9:0<=u % 9/\u % 9<9:=by omega
 walk_at "r";rintro b0 y6 hb0l hb0L _ hd6 hl6;have w2:(-1000000:Int)<=9/\(9:Int)<=1000000/\Int.toNat 9*b0.length<=1000000:=⟨by decide,by decide,by show 9*_<=_;omega⟩
 walk_at "r";have hbl:(kO b0 9).length=9*b0.length:=fN ..;have hbL:Lts (kO b0 9):=hb0L.rep _;generalize kO b0 9=bs at hbl hbL;have g7:Dk y6/\0<y6.length/\y6.length<=100000:=⟨hd6,by omega,by omega⟩
 walk_at "r";rintro r y7 hr0 hr1 hd7 hl7;obtain⟨m,hm,hmm⟩:∃m:Nat,r % (mo+1)=(m:Int)/\(m:Int)<=mo:=⟨(r % (mo+1)).toNat,by have:=emod_nonneg r (show mo+1≠0 by omega);omega,by have:=emod_lt_of_pos r (show 0<mo+1 by omega);have:=emod_nonneg r (show mo+1≠0 by omega);omega⟩
 walk_at "r";rw [hm];rw [toNat_natCast]
 refine⟨fun k ρ=>∃(ps:List (List Nat)) (ys:List Int) (v9 v10 v11:Option PV),ps.length=k/\Pcs 60 ps/\Dk ys/\y7.length<=ys.length+7*k/\ys.length<=y7.length/\ρ=[some (.own (ys.map .int)),some (.dat (.int mo)),some (.dat (.int (f:Int))),some (.dat (.int (n:Int))),some (.dat (.lst (ls.map fun c=>.str [c]))),some (.dat (.int so)),some (.dat (.int (lo:Int))),some (.dat (.str bs)),some (.own (ps.map .str)),v9,v10,v11],⟨[],y7,_,_,_,rfl,(fun w hw=>nomatch hw),hd7,Nat.le_refl _,Nat.le_refl _,rfl⟩,?_,?_⟩
 .rintro k ρ _ hk rfl ⟨ps,ys,v9,v10,v11,hpl,hps,hdy,hyl,hyl',rfl⟩;have hpm:(ps.map D.str).length=ps.length:=length_map _;have g8:Dk ys/\0<ys.length/\ys.length<=100000:=⟨hdy,by omega,by omega⟩
  walk_at "r";rintro t y8 ht0 ht1 hd8 hl8;obtain⟨p9,hp9,hp9'⟩:∃p9:Nat,t % 9=(p9:Int)/\p9<9:=⟨(t % 9).toNat,by omega,by omega⟩
  obtain⟨x1,hx1,hx1'⟩:∃x1:Nat,t / 9 % 5 / 3=(x1:Int)/\x1<=1:=⟨(t / 9 % 5 / 3).toNat,by omega,by omega⟩
  walk_at "r";rw [hp9,hx1]
  have cb:eV bs (some (p9:Int)) (some ((p9:Int)+(lo:Int)+(x1:Int)))=(bs.drop p9).take (lo+x1):=by
   rw [show (p9:Int)+(lo:Int)+(x1:Int)=((p9+lo+x1:Nat):Int) by omega,vH,show p9+lo+x1 - p9=lo+x1 by omega]
  rw [cb];have w0:Pc 60 ((bs.drop p9).take (lo+x1)):=⟨by rw [length_take,length_drop];omega,by rw [length_take];omega,(hbL.drop _).take _⟩
  generalize (bs.drop p9).take (lo+x1)=w at w0
  refine⟨fun ρ=>∃(p:List Nat) (yy:List Int),Pc 60 p/\Dk yy/\y8.length<=yy.length+6/\yy.length<=y8.length/\ρ=[some (.own (yy.map .int)),some (.dat (.int mo)),some (.dat (.int (f:Int))),some (.dat (.int (n:Int))),some (.dat (.lst (ls.map fun c=>.str [c]))),some (.dat (.int so)),some (.dat (.int (lo:Int))),some (.dat (.str bs)),some (.own (ps.map .str)),some (.dat (.int (k:Int))),some (.dat (.int t)),some (.dat (.str p))],?_,?_⟩
  .walk_at "r"
   refine gF (fun c=>?_) (fun c=>?_)
   .have g9:Dk y8/\y8.length<=100000:=⟨hd8,by omega⟩
    have g10:0<=1+t % 6/\1+t % 6<=(y8.length:Int):=⟨by omega,by omega⟩
    walk_at "r";rintro w' y9 hw hwL _ hd9 hl9;walk_at "r";exact⟨w',y9,⟨by omega,by omega,hwL⟩,hd9,by omega,by omega,rfl⟩
   .exact⟨w,y8,w0,hd8,by omega,by omega,rfl⟩
  rintro ρ ⟨p,y9,pc,hd9,hl9,hl9',rfl⟩;walk_at "r"
  refine⟨fun ρ=>∃(p:List Nat),Pc 60 p/\ρ=[some (.own (y9.map .int)),some (.dat (.int mo)),some (.dat (.int (f:Int))),some (.dat (.int (n:Int))),some (.dat (.lst (ls.map fun c=>.str [c]))),some (.dat (.int so)),some (.dat (.int (lo:Int))),some (.dat (.str bs)),some (.own (ps.map .str)),some (.dat (.int (k:Int))),some (.dat (.int t)),some (.dat (.str p))],?_,?_⟩
  .walk_at "r"
   refine gF (fun c=>?_) (fun c=>?_)
   .have s0:=kW (ls:=ls) (j:=0) (by omega);have s1:=kW (ls:=ls) (j:=1) (by omega);have l0:=ud hL (j:=0) (by omega);have l1:=ud hL (j:=1) (by omega);generalize ls.getD 0 0=c0 at s0 l0;generalize ls.getD 1 0=c1 at s1 l1;have w3:(-1000000:Int)<=t % 4/\t % 4<=1000000/\(t % 4).toNat*[c0].length<=1000000:=⟨by omega,by omega,by show _*1<=_;omega⟩
    have w4:(-1000000:Int)<=t / 4 % 4/\t / 4 % 4<=1000000/\(t / 4 % 4).toNat*[c0].length<=1000000:=⟨by omega,by omega,by show _*1<=_;omega⟩
    have r3:(kO [c0] (t % 4)).length=(t % 4).toNat*1:=fN ..;have r4:(kO [c0] (t / 4 % 4)).length=(t / 4 % 4).toNat*1:=fN ..;walk_at "r";refine⟨_,s0,?_⟩;walk_at "r";refine⟨_,s1,?_⟩;walk_at "r";refine⟨_,s0,?_⟩;walk_at "r";exact⟨_,⟨by rw [length_append,length_append];show 0<_+1+_;omega,by rw [length_append,length_append];show _+1+_<=60;omega,((l0.rep _).app l1).app (l0.rep _)⟩,rfl⟩
   .exact⟨p,pc,rfl⟩
  clear pc p;rintro ρ ⟨p,pc,rfl⟩;walk_at "r";refine⟨ps++[p],y9,_,_,_,by rw [length_append,hpl];rfl,fun w hw=>?_,hd9,by omega,by omega,by rw [map_append];rfl⟩
  rcases mem_append.mp hw with h|h
  .exact hps w h
  .rw [mem_singleton.mp h];exact pc
 .rintro ρ ⟨ps,ys,v9,v10,v11,hpl,hps,hdy,hyl,hyl',rfl⟩;walk_at "r";exact q ps ys (by omega) hps hdy (by omega) (by omega)
theorem px:∀p ds Q,p.isOwn=true->bQ p ds Q->tG eA jp p ds Q:=fun p ds Q _ h=>by
 unfold bQ at h
 split at h
 .exact mM _ _ _ h
 .exact h.elim
def fc:PTS:=(aH (a8 (mC ao) (ak 1)) (aH (ir (wo (af (pFz (bo 0)) ao)) (iT 2 (dC (ak 2) (dC (ak 3) mE))) (aH (a8 (dr [none,some 3] (dL (bo 0)) (ak 0) (Cb (pB (pOp fGt (pFz (pCB gv (af (pSl 0) ao))) (pFz (pCB gv (af (pSl 1) ao))))) (pB (pOp (Bu false) (pSl 1) (pSl 0)))) (bo 0)) (ak 4)) (kQ (Cb (pB (pOp rS (pSl 4) (pFz (mC ao)))) (pB (pOp (Bu true) (pSl 3) (pFz (df (pSl 0) dq (c8 (bo 2))))))) (gO (xI 1 (bo 3))) cU))) (cw (bo 1))))
theorem pz(ds:List D)(Q:PV->Prop)(h:bU ([.lst ds]) Q):dP fc kj ([.lst ds]) Q:=by
 show fc _ [some (.dat (.lst ds)),none,none,none,none];obtain⟨ps,rfl,⟨hn,hw⟩,q⟩:=h;have hlm:(ps.map D.str).length=ps.length:=length_map _;walk_at "r"
 refine⟨fun k ρ=>∃v2 v3 v4:Option PV,ρ=[some (.dat (.lst (ps.map .str))),some (.own ((((List.range k).filter (dG ps)).map (pw ps)).map .str)),v2,v3,v4],⟨_,_,_,rfl⟩,?_,?_⟩
 .rintro k ρ d hk ed ⟨v2,v3,v4,rfl⟩;have hk:k<ps.length:=by rw [hlm] at hk;exact hk
  subst ed;rw [show itD (ps.map D.str) k=.str (pw ps k) from gw (by rw [getElem?_map,dQ hk];rfl)];have hpm:=dD hk;obtain⟨hpl,hpL⟩:=hw _ hpm
  have hml:((((List.range k).filter (dG ps)).map (pw ps)).map D.str).length<=40:=by
   rw [length_map,length_map];refine Nat.le_trans (length_filter_le ..) ?_;rw [length_range];omega
  walk_at "r"
  refine cf1 (fun o=>decide ((pw ps k).length<o.length) && eC (pw ps k) o) (fun o=>.str o) (fun o ho v K1 K2 k1 k2=>?_) (fun v=>?_)
  .walk_at "r"
   refine gF (fun c=>?_) (fun c=>?_)
   .walk_at "r"
    cases hs:eC (pw ps k) o with
    | true=>exact k1 _ (by rw [decide_eq_true (by omega:(pw ps k).length<o.length)];exact hs)
    | false=>exact k2 _ (by rw [hs,Bool.and_false])
   .exact k2 _ (by rw [decide_eq_false (by omega:¬ (pw ps k).length<o.length),Bool.false_and])
  .have c1:eV (ps.map D.str) none (some (k:Int))=(ps.take k).map D.str:=by rw [fo,map_take]
   have hfl:(eV (ps.map D.str) none (some (k:Int))).all D.fl=true:=by rw [c1];exact wP _
   have hin:inD (.str (pw ps k)) (eV (ps.map D.str) none (some (k:Int)))=decide (pw ps k∈ps.take k):=by rw [c1];exact oO _ _
   have eF:=lV (ws:=ps.filter fun o=>decide ((pw ps k).length<o.length) && eC (pw ps k) o) fun w h=>(hw w (mem_filter.mp h).1).2;have eD:=kl (ps.filter fun o=>decide ((pw ps k).length<o.length) && eC (pw ps k) o);have hkb:=BQ (ps:=ps) (k:=k)
   have hrs:((List.range (k+1)).filter (dG ps)).map (pw ps)=((List.range k).filter (dG ps)).map (pw ps)++(if dG ps k=true then [pw ps k] else []):=by
    rw [range_succ,filter_append,map_append];congr 1;rw [filter_cons];split <;> rfl
   rw [hrs];generalize ((List.range k).filter (dG ps)).map (pw ps)=ks at hml ⊢;have hk1:(ks.map D.str).length<=40:=hml;walk_at "r";rw [eD]
   refine gF (fun c=>?_) (fun c=>?_)
   .walk_at "r";rw [hin]
    refine ot (zD (fun c2=>?_) (fun c2=>?_))
    .walk_at "r";have e:dG ps k=false:=by rw [hkb,c2,Bool.not_true,Bool.and_false]
     exact⟨_,_,_,by rw [e,if_neg (by decide),append_nil]⟩
    .walk_at "r";have e:dG ps k=true:=by rw [hkb,c2,decide_eq_true c];rfl
     exact⟨_,_,_,by rw [e,if_pos rfl,map_append];rfl⟩
   .walk_at "r";have e:dG ps k=false:=by rw [hkb,decide_eq_false c,Bool.false_and]
    exact⟨_,_,_,by rw [e,if_neg (by decide),append_nil]⟩
 .rintro ρ ⟨v2,v3,v4,rfl⟩;rw [hlm];walk_at "r";exact q
theorem qY:∀ds Q,bU ds Q->dP fc kj ds Q:=fun ds Q h=>by
 unfold bU at h
 split at h
 .exact pz _ _ h
 .exact h.elim
def ip:PTS:=(aH (ir (Ff (af (pFz (pOp Bi (pFz (pCB yu (af (pFz (pCB gv (af (pSl 0) ao))) (af (pFz (pCB gv (af (pSl 1) ao))) ao)))) (pFz (pC (.int 1))))) (af (pFz (pC (.int 0))) (af (pFz (pUn xJ (pFz (pC (.int 1))))) ao)))) (ak 2) (kQ (pB (pOp rS (pFz (df (pSl 0) (c8 (pOp Bi (pFz (pCB gv (af (pSl 0) ao))) (pSl 2))) dq)) (pFz (df (pSl 1) dq (c8 (bo 2)))))) (cw (bo 2)) cU)) (cw (pC (.int 0))))
theorem sE(a b:List Nat)(Q:PV->Prop)(h:bG ([.str a,.str b]) Q):dP ip nK ([.str a,.str b]) Q:=by
 show ip _ [some (.dat (.str a)),some (.dat (.str b)),none];obtain⟨a1,⟨b0,b1⟩,q⟩:=h;have hm:(if (b.length:Int)<(a.length:Int) then (b.length:Int) else (a.length:Int))=((min a.length b.length:Nat):Int):=by split <;> omega
 walk_at "r";rw [hm]
 refine⟨fun i ρ=>(∃v2:Option PV,ρ=[some (.dat (.str a)),some (.dat (.str b)),v2])/\∀j,min a.length b.length - i<=j->j<min a.length b.length->¬ b.take j <:+ a,⟨⟨_,rfl⟩,fun j h1 h2=>by omega⟩,?_,?_⟩
 .rintro i ρ d hi ed ⟨⟨v2,rfl⟩,ih⟩;obtain⟨k,hk,hk2⟩:∃k:Nat,(((min a.length b.length:Nat):Int) - 1) - (i:Int)=(k:Int)/\k=min a.length b.length - 1 - i:=⟨min a.length b.length - 1 - i,by omega,rfl⟩
  have hk0:0<k:=by omega
  rw [hk] at ed;subst ed;have cd:eV a (some ((a.length:Int) - (k:Int))) none=a.drop (a.length - k):=by rw [show (a.length:Int) - (k:Int)=((a.length - k:Nat):Int) by omega,fE]
  have ct:=fo b k;walk_at "r";rw [cd,ct]
  refine gF (fun c=>?_) (fun c=>?_)
  .walk_at "r"
   rw [show dS a b=k from oN ⟨by omega,by rw [<- c];exact drop_suffix ..,fun j h1 h2=>by
    rcases lt_or_ge k j with h|h
    .exact absurd h2 (ih j (by omega) h1)
    .exact h⟩] at q
   exact q
  .refine⟨⟨_,rfl⟩,fun j h1 h2=>?_⟩
   by_cases hj:j=k
   .subst hj;intro z;refine c ?_;obtain⟨t,ht⟩:=z;have hl:=congrArg List.length ht;rw [length_append,length_take] at hl;rw [<- ht,show (t++b.take j).length - j=t.length by rw [length_append,length_take];omega,drop_left]
   .exact ih j (by omega) h2
 .rintro ρ ⟨⟨v2,rfl⟩,ih⟩;walk_at "r"
  by_cases a0:0<a.length
  .rw [show dS a b=0 from oN ⟨by omega,by rw [take_zero];exact nil_suffix,fun j h1 h2=>by
    rcases lt_or_ge 0 j with h|h
    .exact absurd h2 (ih j (by omega) h1)
    .exact h⟩] at q
   exact q
  .rw [show dS a b=0 by
    unfold dS;rw [dif_neg];rintro⟨k,hk⟩;have:=hk.1;omega] at q
   exact q
theorem u7:∀ds Q,bG ds Q->dP ip nK ds Q:=fun ds Q h=>by
 unfold bG at h
 split at h
 .exact sE _ _ _ h
 .exact h.elim
def gp:PTS:=(cw (ED (dr [none,some 0] (dL (bo 0)) (ak 0) jy (dr [none,some 0] (dL (bo 1)) (ak 0) jy (bF bG (af (pFz (bo 1)) (af (pFz (bo 0)) ao)))))))
theorem qZ(ds:List D)(Q:PV->Prop)(h:cG ([.lst ds]) Q):dP gp lW ([.lst ds]) Q:=by
 show gp _ [some (.dat (.lst ds))];obtain⟨ws,rfl,hwo,q⟩:=h;have hwm:(ws.map D.str).length=ws.length:=length_map _;have hn40:=hwo.1;walk_at "r"
 
 refine cm1 (e:=D.str) (xs:=ws) (fun w=>FF ws w) (fun w hw v K1 k1=>?_) (fun v=>?_)
 .have w1:=hwo.2 w hw;walk_at "r"
  refine cm1 (e:=D.str) (xs:=ws) (fun u=>.int (dS w u:Int)) (fun u hu v K1 k1=>?_) (fun v=>?_)
  .have u1:=hwo.2 u hu;have w2:w.length<=10000:=by omega
   walk_at "r";exact k1 _
  .exact k1 _
 .exact q
theorem sF:∀ds Q,cG ds Q->dP gp lW ds Q:=fun ds Q h=>by
 unfold cG at h
 split at h
 .exact qZ _ _ h
 .exact h.elim
def d7:PTS:=(aH (a8 (Bd false (af (pFz (pCB gv (af (pSl 1) ao))) ao)) (ak 2)) (aH (a8 (df (pFz (pC (.str [112,113]))) dq (c8 (pOp gG (pFz (bN aB 0 ao)) (pFz (pC (.int 3)))))) (ak 3)) (aH (a8 (pOp fGt (pFz (pOp gG (pFz (bN aB 0 ao)) (pFz (pC (.int 3))))) (pFz (pC (.int 0)))) (ak 4)) (aH (a8 (pC (.str [])) (ak 5)) (aH (oA (pB (pOp xL (pSl 2) (pFz (mC ao)))) (aH (a8 (pOp fIx (pSl 1) (pFz (tL 2 (pOp gG (pFz (bN aB 0 ao)) (pFz (pCB gv (af (pSl 2) ao))))))) (ak 6)) (aH (a8 (bF bG (af (pFz (bo 5)) (af (pFz (bo 6)) ao))) (ak 7)) (aH (m7 (kQ (wl (pB (bo 4))) (aH (a8 (pOp fIx (pFz (mC (af (pFz (bo 7)) (af (pFz (pC (.int 0))) ao)))) (pFz (pOp gG (pFz (bN aB 0 ao)) (pFz (pC (.int 2)))))) (ak 7)) (kQ (pB (pOp rS (pSl 7) (pFz (pC (.int 0))))) (a8 (pOp bP (pSl 3) (pFz (df (pFz (pC (.str [113,97]))) dq (c8 (pOp gG (pFz (bN aB 0 ao)) (pFz (pC (.int 3)))))))) (ak 3)) cU)) cU)) (aH (a8 (pOp bP (pSl 3) (pFz (df (pSl 6) (c8 (bo 7)) dq))) (ak 3)) (a8 (bo 6) (ak 5))))))) (aH (m7 (kQ (wl (pB (bo 4))) (a8 (pOp bP (pSl 3) (pFz (df (pFz (pC (.str [112,113]))) dq (c8 (pOp gG (pFz (bN aB 0 ao)) (pFz (pC (.int 3)))))))) (ak 3)) cU)) (cw (bo 3))))))))
theorem l6(ds es:List D)(Q:PV->PV->Prop)(h:bx (.own ds) ([.lst es]) Q):tG d7 iH (.own ds) ([.lst es]) Q:=by
 show d7 _ [some (.own ds),some (.dat (.lst es)),none,none,none,none,none,none];obtain⟨zs,rfl,ws,rfl,⟨hw,hz,h0,h1⟩,q⟩:=h;have hw40:=hw.1;have hlm:(ws.map D.str).length=ws.length:=length_map _;have g0:Dk zs/\0<zs.length/\zs.length<=100000:=⟨hz,by omega,by omega⟩
 walk_at "r";rintro z1 y1 hz10 hz11 hd1 hl1;have g1:Dk y1/\0<y1.length/\y1.length<=100000:=⟨hd1,by omega,by omega⟩
 have ca:=dY [112,113] none (some (z1 % 3));have la:[112,113].length=2:=rfl;walk_at "r";rintro z2 y2 hz20 hz21 hd2 hl2;rw [hlm,toNat_natCast];generalize eV [112,113] none (some (z1 % 3))=t0 at ca;walk_at "r";generalize hcl:decide (z2 % 3 > 0)=cl;refine⟨fun k ρ=>∃(rs js t:List Nat) (ys:List Int) (v6 v7:Option PV),(js++rs).Perm (List.range ws.length)/\Dk ys/\y2.length<=ys.length+3*js.length/\ys.length<=y2.length/\k=rs.length/\(∀j∈js,pw ws j <:+: t)/\xM ws js <:+ t/\t.length<=2+64*js.length/\ρ=[some (.own (ys.map .int)),some (.dat (.lst (ws.map .str))),some (.own (rs.map nD)),some (.dat (.str t)),some (.dat (.bl cl)),some (.dat (.str (xM ws js))),v6,v7],⟨ws.length,List.range ws.length,[],t0,y2,_,_,List.Perm.refl _,hd2,Nat.le_refl _,Nat.le_refl _,by rw [length_range],(fun j hj=>(not_mem_nil hj).elim),nil_suffix,by show _<=2+0;omega,by rw [<- Br];rfl⟩,?_⟩
 rintro k ρ ⟨rs,js,t,ys,v6,v7,hp,hy,hyl,hyl',rfl,hin,hsf,htl,rfl⟩;have hpl:=hp.length_eq;rw [length_append,length_range] at hpl;have e1:=xw rs;have e2:=BR rs;walk_at "r";rw [e2]
 refine qe (fun c=>?_) (fun c=>?_)
 .have hrl:0<rs.length:=length_pos_iff.mpr c;have g2:Dk ys/\0<ys.length/\ys.length<=100000:=⟨hy,by omega,by omega⟩
  have hrm:(rs.map nD).length=rs.length:=length_map _;walk_at "r";rintro z y3 hz0 hz1 hd3 hy3;obtain⟨i,hi⟩:∃i:Nat,z % (rs.length:Int)=(i:Int):=⟨(z % (rs.length:Int)).toNat,by have:=emod_nonneg z (show (rs.length:Int)≠0 by omega);omega⟩
  have hir:i<rs.length:=by have:=emod_lt_of_pos z (show 0<(rs.length:Int) by omega);omega
  have hrw:rs[i]<ws.length:=mem_range.mp (hp.mem_iff.mp (mem_append_right _ (getElem_mem hir)));have hwk:=hw.at hrw
  have hpm:(js++[rs[i]]++rs.eraseIdx i).Perm (List.range ws.length):=by
   rw [append_assoc];exact ((perm_append_comm.trans (qu hir)).append_left js).trans hp
  have hbj:=zi ws js rs[i]
  have hb0:xM ws js=[]\/(0<(xM ws js).length/\(xM ws js).length<=60):=by
   unfold xM
   split
   .exact .inl rfl
   .rename_i h;exact .inr (hw.at (mem_range.mp (hp.mem_iff.mp (mem_append_left _ (Af (show js.length - 1<js.length by omega))))))
  generalize xM ws js=bf at hb0 hsf;have hbl:bf.length<=60:=hb0.elim (fun h=>by rw [h];exact zero_le _) fun h=>h.2
  have hglue:pw ws rs[i] <:+ t++(pw ws rs[i]).drop (dS bf (pw ws rs[i])):=by
   rcases hb0 with h|h
   .rw [h,BS,drop_zero];exact suffix_append _ _
   .exact tS (iW h.1 hwk.1) hsf
  have g3:bf.length<=10000:=by omega
  have g4:0<(pw ws rs[i]).length/\(pw ws rs[i]).length<=10000:=⟨hwk.1,by omega⟩
  have aw:atI (ws.map D.str) ((rs[i]:Nat):Int)=some (.str (pw ws rs[i])):=fu hrw rfl;walk_at "r";rw [hrm,hi];refine⟨i,nD rs[i],⟨Fy hir,by omega⟩,by rw [getElem?_map,getElem?_eq_getElem hir];rfl,?_⟩;walk_at "r";refine⟨_,aw,?_⟩;walk_at "r";rw [lE]
  refine⟨fun ρ=>∃(o:Nat) (u:List Nat) (y5:List Int),pw ws rs[i] <:+ u++(pw ws rs[i]).drop o/\t <+: u/\u.length<=t.length+2/\Dk y5/\y3.length<=y5.length+2/\y5.length<=y3.length/\ρ=[some (.own (y5.map .int)),some (.dat (.lst (ws.map .str))),some (.own ((rs.eraseIdx i).map nD)),some (.dat (.str u)),some (.dat (.bl cl)),some (.dat (.str bf)),some (.dat (.str (pw ws rs[i]))),some (.dat (.int (o:Int)))],?_,?_⟩
  .walk_at "r"
   cases cl with
   | true =>
    walk_at "r";exact⟨_,t,y3,hglue,prefix_refl _,by omega,hd3,by omega,Nat.le_refl _,rfl⟩
   | false =>
    have g5:Dk y3/\0<y3.length/\y3.length<=100000:=⟨hd3,by omega,by omega⟩
    walk_at "r";rintro x y4 hx0 hx1 hd4 hy4
    obtain⟨o,ho,hol⟩:∃o:Nat,atI [D.int (dS bf (pw ws rs[i]):Int),D.int 0] (x % 2)=some (.int (o:Int))/\(o=dS bf (pw ws rs[i])\/o=0):=by
     rcases (show x % 2=0\/x % 2=1 by omega) with h|h <;> rw [h]
     .exact⟨_,rfl,.inl rfl⟩
     .exact⟨0,rfl,.inr rfl⟩
    have g6:Dk y4/\0<y4.length/\y4.length<=100000:=⟨hd4,by omega,by omega⟩
    walk_at "r";refine⟨_,ho,?_⟩;walk_at "r"
    refine gF (fun c2=>?_) (fun c2=>?_)
    .walk_at "r";rintro x2 y5 hx20 hx21 hd5 hy5;have cq:=dY [113,97] none (some (x2 % 3));have lq:[113,97].length=2:=rfl;have o0:o=0:=by omega
     walk_at "r";exact⟨_,_,y5,by rw [o0,drop_zero];exact suffix_append _ _,prefix_append _ _,by rw [length_append];omega,hd5,by omega,by omega,rfl⟩
    .have o1:o=dS bf (pw ws rs[i]):=hol.elim id fun z=>absurd (by rw [z];rfl) c2;exact⟨_,t,y4,by rw [o1];exact hglue,prefix_refl _,by omega,hd4,by omega,by omega,rfl⟩
  .rintro ρ ⟨o,u,y5,ho,hu1,hu2,hd5,hy5,hy5',rfl⟩;have co:eV (pw ws rs[i]) (some (o:Int)) none=(pw ws rs[i]).drop o:=fE _ _;have cll:((pw ws rs[i]).drop o).length=(pw ws rs[i]).length - o:=length_drop;walk_at "r";rw [co];refine⟨by omega,?_⟩;walk_at "r"
   refine⟨rs.length - 1,by omega,rs.eraseIdx i,js++[rs[i]],u++(pw ws rs[i]).drop o,y5,_,_,hpm,hd5,by rw [length_append];show _<=_+3*(js.length+1);omega,by omega,by rw [length_eraseIdx,if_pos hir],fun j hj=>?_,by rw [hbj];exact ho,?_,by rw [hbj]⟩
   .rcases mem_append.mp hj with h|h
    .exact (hin j h).trans (hu1.trans (prefix_append _ _)).isInfix
    .rw [mem_singleton.mp h];exact ho.isInfix
   .rw [length_append,length_append,cll];show _<=2+64*(js.length+1);omega
 .have c:rs=[]:=c;subst c;rw [append_nil] at hp;have hjl:js.length=ws.length:=by rw [hp.length_eq,length_range]
  have hall:∀w∈ws,w <:+: t:=fun w hw=>by
   obtain⟨j,hj,rfl⟩:=getElem_of_mem hw;rw [show ws[j]=pw ws j from Option.some.inj ((getElem?_eq_getElem hj).symm.trans (dQ hj))];exact hin j (hp.mem_iff.mpr (mem_range.mpr hj))
  cases cl with
  | true =>
   walk_at "r";rintro ρ rfl;walk_at "r";exact q t ys hall (by omega) hy (by omega) (by omega)
  | false =>
   have g5:Dk ys/\0<ys.length/\ys.length<=100000:=⟨hy,by omega,by omega⟩
   walk_at "r"
   refine⟨fun ρ=>∃(u:List Nat) (y5:List Int),t <+: u/\u.length<=t.length+2/\Dk y5/\ys.length<=y5.length+1/\y5.length<=ys.length/\ρ=[some (.own (y5.map .int)),some (.dat (.lst (ws.map .str))),some (.own (([]:List Nat).map nD)),some (.dat (.str u)),some (.dat (.bl false)),some (.dat (.str (xM ws js))),v6,v7],?_,?_⟩
   .walk_at "r";rintro x y4 hx0 hx1 hd4 hy4;have cq:=dY [112,113] none (some (x % 3));have lq:[112,113].length=2:=rfl;walk_at "r";exact⟨_,y4,prefix_append _ _,by rw [length_append];omega,hd4,by omega,by omega,rfl⟩
   .rintro ρ ⟨u,y5,hu1,hu2,hd5,hy5,hy5',rfl⟩;walk_at "r";exact q u y5 (fun w hw=>(hall w hw).trans hu1.isInfix) (by omega) hd5 (by omega) (by omega)
theorem mN:∀p ds Q,p.isOwn=true->bx p ds Q->tG d7 iH p ds Q:=fun p ds Q _ h=>by
 unfold bx at h
 split at h
 .exact l6 _ _ _ h
 .exact h.elim
def eB:PTS:=(aH (a8 (pOp Bi (pSl 2) (pFz (pOp DW (pFz (pC (.int 1))) (pSl 3)))) (ak 4)) (aH (a8 (dr [none,some 4] (uK (af (pFz (pCB gv (af (pSl 0) ao))) ao)) (ak 0) (pB (pOp rS (pFz (pOp yK (pFz (pOp EC (pSl 1) (pSl 0))) (pFz (pC (.int 1))))) (pFz (pC (.int 1))))) (bo 0)) (ak 5)) (cw (pCB yH (af (pFz (pOp bP (pFz (mC (af (pFz (pC (.int 0))) ao))) (pFz (dr [none,some 3,some 1,some 4,some 0] (dL (bo 5)) (ak 0) jy (pOp bP (pFz (pOp fIx (pFz (pOp fIx (pSl 2) (pSl 3))) (pSl 0))) (pFz (pOp fIx (pFz (pOp fIx (pSl 4) (pSl 0))) (pSl 1)))))))) ao)))))
theorem mO(ls td:List D)(m i:Int)(Q:PV->Prop)(h:bL ([.lst ls,.lst td,.int m,.int i]) Q):dP eB jq ([.lst ls,.lst td,.int m,.int i]) Q:=by
 show eB _ [some (.dat (.lst ls)),some (.dat (.lst td)),some (.dat (.int m)),some (.dat (.int i)),none,none];obtain⟨ws,rfl,tb,rfl,k,rfl,j,rfl,⟨hn,hk,hj,hb,hr,hw⟩,q⟩:=h;have h256:=jZ hn;have hkk:k<256:=by omega
 obtain⟨hle,hsub⟩:=sh ⟨k,hkk⟩ ⟨j,by omega⟩ hb;have hle:2^j<=k:=hle
 have er:(k:Int) - 1*2^(j:Int).toNat=((k - 2^j:Nat):Int):=by
  rw [toNat_natCast,Int.one_mul,natCast_sub hle,natCast_pow];rfl
 have hrk:k - 2^j<256:=lt_of_le_of_lt (sub_le _ _) hkk;have hr2:k - 2^j<2^ws.length:=lt_of_le_of_lt (sub_le _ _) hk;have hwr:=hw _ hr;unfold nd at q;have eo:h7 ws tb k j=(mem (k - 2^j)).map fun x=>cell tb (k - 2^j) x+lp ws x j:=rfl;generalize hR:k - 2^j=r at er hrk hr2 hr hwr eo;have hlm:(kH ws).length=ws.length:=length_map _;have hM:0<=(j:Int)/\(j:Int)<=1000000/\(1:Int).natAbs<2^64:=⟨by omega,by omega,by decide⟩
 have mem_eq:(List.range ws.length).filter r.testBit=mem r:=by
  unfold mem;obtain⟨d,hd⟩:∃d,8=ws.length+d:=⟨8 - ws.length,by omega⟩
  have:∀d,(List.range (ws.length+d)).filter r.testBit=(List.range ws.length).filter r.testBit:=fun d=>by
   induction d with
   | zero=>rfl
   | succ d ih =>
    rw [<- add_assoc,range_succ,filter_append,ih,filter_cons,if_neg]
    .simp
    .intro z;have:=nH hr2 z;omega
  rw [hd,this d]
 walk_at "r";rw [er,hlm];walk_at "r"
 refine cfR (fun x=>r.testBit x) nD (fun x hx v K1 K2 k1 k2=>?_) (fun v=>?_)
 .have e:=xr r x;show (0:Int)<=(x:Int)/\gL (decide (Builtin.bitAnd ((r:Int) / 2^(x:Int).toNat) 1=1)) _ _;refine⟨by omega,?_⟩;rw [e]
  cases h:r.testBit x with
  | true=>exact k1 _ h
  | false=>exact k2 _ h
 rw [toNat_natCast,mem_eq];have hml:=BO r;walk_at "r"
 refine cm1 (e:=nD) (xs:=mem r) (fun x=>.int (cell tb r x+lp ws x j)) (fun x hx v K1 k1=>?_) (fun v=>?_)
 .have hxn:x<ws.length:=nH hr2 ((mem_iff hrk).mp hx);walk_at "r";refine⟨_,BU hr,?_⟩;walk_at "r";refine⟨_,BN (by omega),?_⟩;walk_at "r";refine⟨_,zh hxn,?_⟩;walk_at "r";refine⟨_,Ee hj,?_⟩;walk_at "r";exact k1 _
 rw [show (mem r).map (fun x=>D.int (cell tb r x+lp ws x j))=(h7 ws tb k j).map D.int by rw [eo,map_map];rfl]
 have hol:[D.int 0].length+((h7 ws tb k j).map D.int).length<=1000000:=by
  rw [eo,length_map,length_map];rw [length_map] at hml;show 1+_<=_;omega
 walk_at "r";refine⟨0::h7 ws tb k j,rfl,zero_lt_succ _,fun mx hm1 hm2=>?_⟩;rw [<- xt hm1 hm2] at q;exact q
theorem pA:∀ds Q,bL ds Q->dP eB jq ds Q:=fun ds Q h=>by
 unfold bL at h
 split at h
 .exact mO _ _ _ _ _ h
 .exact h.elim
def fe:PTS:=(aH (a8 (pCB gv (af (pSl 0) ao)) (ak 1)) (aH (a8 (mC ao) (ak 2)) (aH (ir (uK (af (pFz (pOp DW (pFz (pC (.int 1))) (pSl 1))) ao)) (ak 3) (aH (a8 (pOp ou (pFz (mC (af (pFz (pUn xJ (pFz (pC (.int 1))))) ao))) (pSl 1)) (ak 4)) (aH (ir (uK (af (pFz (bo 1)) ao)) (ak 5) (kQ (pB (pOp rS (pFz (pOp yK (pFz (pOp EC (pSl 3) (pSl 5))) (pFz (pC (.int 1))))) (pFz (pC (.int 1))))) (zG 4 (D8 (bF bL (af (pFz (bo 0)) (af (pFz (bo 2)) (af (pFz (bo 3)) (af (pFz (bo 5)) ao)))))) (bo 5)) cU)) (gO (xI 2 (bo 4)))))) (cw (bo 2)))))
theorem pD(ls:List D)(Q:PV->Prop)(h:bV ([.lst ls]) Q):dP fe km ([.lst ls]) Q:=by
 show fe _ [some (.dat (.lst ls)),none,none,none,none,none];obtain⟨ws,rfl,hn,q⟩:=h;have hlm:(kH ws).length=ws.length:=length_map _;have h256:=jZ hn;have hM:0<=(ws.length:Int)/\(ws.length:Int)<=1000000/\(1:Int).natAbs<2^64:=⟨by omega,by omega,by decide⟩
 have e1:=FE ws.length;have hr2:(-1000000:Int)<=1*2^(ws.length:Int).toNat:=by rw [e1];exact Int.le_trans (show (-1000000:Int)<=0 by decide) (natCast_nonneg _)
 have hr3:(1:Int)*2^(ws.length:Int).toNat<=1000000:=by rw [e1];exact Int.le_trans (ofNat_le.mpr h256) (by decide)
 have hM2:0<=((kH ws).length:Int)/\((kH ws).length:Int)<=1000000/\(1:Int).natAbs<2^64:=by rw [hlm];exact hM
 have hr4:(-1000000:Int)<=1*2^((kH ws).length:Int).toNat:=by rw [hlm];exact hr2
 have hr5:(1:Int)*2^((kH ws).length:Int).toNat<=1000000:=by rw [hlm];exact hr3
 walk_at "r";rw [hlm,e1,toNat_natCast];generalize hN:2^ws.length=N at h256 q
 refine⟨fun k ρ=>∃(tb:List (List Int)) (v5 v6 v7:Option PV),Exa ws tb/\tb.length=k/\ρ=[some (.dat (.lst (kH ws))),some (.dat (.int (ws.length:Int))),some (.own (tb.map si)),v5,v6,v7],⟨[],_,_,_,⟨fun r hr=>absurd hr (not_lt_zero r),fun r hr=>absurd hr (not_lt_zero r),fun r hr=>absurd hr (not_lt_zero r)⟩,rfl,rfl⟩,?_,?_⟩
 .rintro k ρ _ hk rfl ⟨tb,v5,v6,v7,hG,htl,rfl⟩;have htm:(tb.map si).length=tb.length:=length_map _;have w2:(-1000000:Int)<=(ws.length:Int)/\(ws.length:Int)<=1000000/\(ws.length:Int).toNat*[D.int (-1)].length<=1000000:=⟨by omega,by omega,by show _*1<=_;omega⟩
  have er:=BV ws.length;walk_at "r";rw [er,toNat_natCast]
  refine⟨fun i ρ=>∃(r:List Int) (v7:Option PV),BW ws tb k i r/\ρ=[some (.dat (.lst (kH ws))),some (.dat (.int (ws.length:Int))),some (.own (tb.map si)),some (.dat (.int (k:Int))),some (.own (r.map .int)),v7],⟨_,_,uZ ws tb k,rfl⟩,?_,?_⟩
  .rintro i ρ _ hi rfl ⟨r,v7,hR,rfl⟩;have hrl:=hR.len;have hrm:(r.map D.int).length=r.length:=length_map _;have eb:=xr k i;walk_at "r";refine (show gL (decide (Builtin.bitAnd ((k:Int) / 2^(i:Int).toNat) 1=1)) _ _ from ?_);rw [eb]
   cases hb:k.testBit i with
   | false =>
    exact⟨r,_,xz hR hb,rfl⟩
   | true =>
    have hpw:0<2^i:=pow_pos (by decide);have hki:2^i<=k:=(sh ⟨k,by omega⟩ ⟨i,by omega⟩ hb).1;have cond:ws.length<=8/\k<2^ws.length/\i<ws.length/\k.testBit i=true/\k - 2^i<tb.length/\∀r,r<tb.length->(tb.getD r []).length=ws.length:=⟨hn,by omega,hi,hb,by omega,hG.wid⟩
    walk_at "r";refine⟨i,Fy (by rw [hrm,hrl];exact hi),?_⟩;rw [<- map_set (f:=D.int)];exact⟨_,_,zj hR hi hb,rfl⟩
  .rintro ρ ⟨r,v7,hR,rfl⟩;walk_at "r";exact⟨tb++[r],_,_,_,xA hn (by omega) hG (by rw [htl];exact hR),by rw [length_append,htl];rfl,by rw [map_append];rfl⟩
 .rintro ρ ⟨tb,v5,v6,v7,hG,htl,rfl⟩;walk_at "r";exact q tb hG htl
theorem q0:∀ds Q,bV ds Q->dP fe km ds Q:=fun ds Q h=>by
 unfold bV at h
 split at h
 .exact pD _ _ h
 .exact h.elim
def fg:PTS:=(aH (kQ (pB (pOp xL (pFz (pCB gv (af (pSl 0) ao))) (pFz (pCB gv (af (pSl 1) ao))))) (cw (pOp fLt (pFz (pCB gv (af (pSl 0) ao))) (pFz (pCB gv (af (pSl 1) ao))))) cU) (aH (ir (wF (af (pFz (bo 0)) (af (pFz (bo 1)) ao))) (iT 2 (dC (ak 2) (dC (ak 3) mE))) (kQ (pB (pOp xL (pSl 2) (pSl 3))) (cw (pOp fLt (pSl 2) (pSl 3))) cU)) (cw (pC (.bl false)))))
theorem pE(a b:List Nat)(Q:PV->Prop)(h:bu ([.str a,.str b]) Q):dP fg kn ([.str a,.str b]) Q:=by
 show fg _ [some (.dat (.str a)),some (.dat (.str b)),none,none];obtain⟨⟨ha,hb⟩,q⟩:=h;walk_at "r"
 refine qe (fun c=>?_) (fun c=>?_)
 .unfold ahB at q;rw [if_pos (by omega)] at q;walk_at "r";rw [show decide ((a.length:Int)<(b.length:Int))=decide (a.length<b.length) from decide_eq_decide.mpr (by omega)];exact q
 .have hl:a.length=b.length:=by omega
  walk_at "r"
  refine⟨fun k ρ=>∃v2 v3:Option PV,a.take k=b.take k/\ρ=[some (.dat (.str a)),some (.dat (.str b)),v2,v3],⟨_,_,rfl,rfl⟩,?_,?_⟩
  .rintro k ρ _ hk rfl ⟨v2,v3,hp,rfl⟩;have hk:k<a.length:=by omega
   walk_at "r"
   refine qe (fun c2=>?_) (fun c2=>?_)
   .have hne:a.getD k 0≠b.getD k 0:=fun z=>c2 (by rw [z]);rw [FH hl hk hp hne] at q;walk_at "r";rw [show decide ([a.getD k 0]<[b.getD k 0])=decide (a.getD k 0<b.getD k 0) from decide_eq_decide.mpr (Ek _ _)];exact q
   .have he:a.getD k 0=b.getD k 0:=by
     have c2:[a.getD k 0]=[b.getD k 0]:=c2;exact (List.cons.inj c2).1
    exact⟨_,_,xB hl hk hp he,rfl⟩
  .rintro ρ ⟨v2,v3,hp,rfl⟩;rw [show min a.length b.length=a.length by omega,take_length,hl,take_length] at hp;rw [hp,nu] at q;walk_at "r";exact q
theorem rc:∀ds Q,bu ds Q->dP fg kn ds Q:=fun ds Q h=>by
 unfold bu at h
 split at h
 .exact pE _ _ _ h
 .exact h.elim
def fh:PTS:=(cw (pOp rS (pFz (dr [none,some 0] (dL (bo 1)) (ak 0) (pB (pOp (Bu true) (pSl 0) (pSl 1))) (bo 0))) (pFz (mC ao))))
theorem pF(t:List Nat)(ds:List D)(Q:PV->Prop)(h:bW ([.str t,.lst ds]) Q):dP fh ko ([.str t,.lst ds]) Q:=by
 show fh _ [some (.dat (.str t)),some (.dat (.lst ds))];obtain⟨ps,rfl,⟨hn,hw⟩,q⟩:=h;have hlm:(ps.map D.str).length=ps.length:=length_map _;have eF:=lV (ws:=ps.filter fun p=>!eC p t) fun w h=>(hw w (mem_filter.mp h).1).2;have eD:=kl (ps.filter fun p=>!eC p t)
 have e3:(decide ((ps.filter fun p=>!eC p t)=[]))=ps.all fun p=>eC p t:=by
  rw [Bool.eq_iff_iff,decide_eq_true_eq,filter_eq_nil_iff,all_eq_true];exact⟨fun h x hx=>by have:=h x hx;simpa using this,fun h x hx=>by rw [h x hx];decide⟩
 rw [<- e3] at q;walk_at "r"
 refine cf1 (fun p=>!eC p t) (fun p=>.str p) (fun p hp v K1 K2 k1 k2=>?_) (fun v=>?_)
 .walk_at "r"
  cases hs:eC p t with
  | true=>exact k2 _ (by rw [hs];rfl)
  | false=>exact k1 _ (by rw [hs];rfl)
 .walk_at "r";rw [eD];exact q
theorem rd:∀ds Q,bW ds Q->dP fh ko ds Q:=fun ds Q h=>by
 unfold bW at h
 split at h
 .exact pF _ _ _ h
 .exact h.elim
def dO:PTS:=(aH (a8 (pOp gG (pFz (bN aB 0 ao)) (pFz (pC (.int 26)))) (ak 1)) (aH (a8 (pOp bP (pFz (pC (.int 8))) (pFz (pOp gG (pFz (bN aB 0 ao)) (pFz (pC (.int 3)))))) (ak 2)) (aH (a8 (dr [none,some 1] (uK (af (pFz (pOp bP (pSl 2) (pFz (pC (.int 1))))) ao)) (ak 0) jy (pOp fIx (pFz (pC (.str [97,98,99,100,101,102,103,104,105,106,107,108,109,110,111,112,113,114,115,116,117,118,119,120,121,122]))) (pFz (pOp gG (pFz (pOp bP (pSl 1) (pFz (pOp ou (pFz (pC (.int 7))) (pSl 0))))) (pFz (pC (.int 26))))))) (ak 3)) (aH (a8 (dr [none,some 3] (uK (af (pFz (bo 2)) ao)) (ak 0) jy (pOp bP (pFz (pOp fIx (pSl 1) (pSl 0))) (pFz (pOp fIx (pSl 1) (pFz (pOp bP (pSl 0) (pFz (pC (.int 1))))))))) (ak 4)) (aH (a8 (pOp gG (pFz (bN aB 0 ao)) (pSl 2)) (ak 5)) (aH (a8 (pOp bP (pFz (yW (pFz (df (pSl 4) (c8 (bo 5)) dq)) (pUn xJ (pFz (pC (.int 1)))))) (pFz (df (pSl 4) dq (c8 (bo 5))))) (ak 4)) (cw (pOp rS (pFz (bF aS (af (pFz (uO "Family" aO (af (pFz (bo 4)) ao))) ao))) (pFz (pSM tJ (pC (.str [])) (af (pSl 3) ao)))))))))))
theorem kL(ds:List D)(Q:PV->PV->Prop)(h:bA (.own ds) ([]) Q):tG dO ia (.own ds) ([]) Q:=by
 show dO _ [some (.own ds),none,none,none,none,none];obtain⟨zs,rfl,⟨hz,h3,hzu⟩,q⟩:=h;have g0:Dk zs/\0<zs.length/\zs.length<=100000:=⟨hz,by omega,by omega⟩
 walk_at "r";rintro a y1 ha0 ha1 hd1 hl1;obtain⟨f,hf,hf26⟩:∃f:Nat,a % 26=(f:Int)/\f<26:=⟨(a % 26).toNat,by omega,by omega⟩
 have g1:Dk y1/\0<y1.length/\y1.length<=100000:=⟨hd1,by omega,by omega⟩
 walk_at "r";rintro b y2 hb0 hb1 hd2 hl2;rw [hf];obtain⟨n,hn,hn8,hn10⟩:∃n:Nat,8+b % 3=(n:Int)/\8<=n/\n<=10:=⟨(8+b % 3).toNat,by omega,by omega,by omega⟩
 walk_at "r";rw [hn]
 refine cmR (fun k=>.str [97+(f+7*k) % 26]) (fun k hk v K1 k1=>?_) (fun v=>?_)
 .rw [show ((n:Int)+1).toNat=n+1 by omega] at hk;walk_at "r";rw [show ((f:Int)+7*(k:Int)) % 26=(((f+7*k) % 26:Nat):Int) by omega];exact⟨_,Ae (mod_lt _ (by decide)),k1 _⟩
 rw [show ((n:Int)+1).toNat=n+1 by omega,show (List.range (n+1)).map (fun k=>D.str [97+(f+7*k) % 26])=(iu (n+1) f).map fun c=>.str [c] by unfold iu;rw [map_map];rfl];have hll:(iu (n+1) f).length=n+1:=by unfold iu;rw [length_map,length_range]
 have hL:=qJ (n+1) f;have hnd:=xD (show n+1<=11 by omega) hf26;generalize iu (n+1) f=ls at hll hL hnd;have hlm:(ls.map fun c=>D.str [c]).length=ls.length:=length_map _;walk_at "r"
 refine cmR (fun k=>.str [ls.getD k 0,ls.getD (k+1) 0]) (fun k hk v K1 k1=>?_) (fun v=>?_)
 .rw [toNat_natCast] at hk;walk_at "r";refine⟨_,kW (by omega),?_⟩;walk_at "r";refine⟨_,kW (j:=k+1) (by omega),?_⟩;walk_at "r";exact k1 _
 rw [toNat_natCast,show (List.range n).map (fun k=>D.str [ls.getD k 0,ls.getD (k+1) 0])=(prs ls n).map .str by unfold prs;rw [map_map];rfl];have hpl:=BX ls n;have hpc:=BY hL hll.symm;have hpm:((prs ls n).map D.str).length=(prs ls n).length:=length_map _;have hlst:=fun (ps:List (List Nat)) (h:ps.Perm (prs ls n))=>BZ hll (by omega) hnd h;generalize prs ls n=W at hpl hpc hpm hlst;have g2:Dk y2/\0<y2.length/\y2.length<=100000:=⟨hd2,by omega,by omega⟩
 walk_at "r";rintro c y3 hc0 hc1 hd3 hl3
 obtain⟨tn,htn,htn2⟩:∃tn:Nat,c % (n:Int)=(tn:Int)/\tn<n:=by
  have e0:=emod_nonneg c (show (n:Int)≠0 by omega);have e1:=emod_lt_of_pos c (show 0<(n:Int) by omega);exact⟨(c % (n:Int)).toNat,by omega,by omega⟩
 walk_at "r";rw [htn,fE,fo];rw [<- map_drop,<- map_take,<- map_reverse,<- map_append];have hpr:((W.drop tn).reverse++W.take tn).Perm W:=((reverse_perm _).append_right _).trans (perm_append_comm.trans (by rw [take_append_drop]));have hln:=hpr.length_eq;have hp2:Pcs 60 ((W.drop tn).reverse++W.take tn):=fun w hw=>hpc w (hpr.mem_iff.mp hw);have hl2:=hlst _ hpr;generalize (W.drop tn).reverse++W.take tn=ps at hln hp2 hl2
 refine⟨by rw [length_map,length_map,length_reverse,length_drop,length_take];omega,?_⟩;have hk2:ps.length<=40/\Pcs 60 ps:=⟨by omega,hp2⟩
 have h12:Pcs 60 ps/\(ah ps).length<=12:=⟨hp2,Nat.le_trans (dU ps) (by omega)⟩
 walk_at "r";intro t ht;rw [ht.uniq hl2];have hfl:(ls.map fun c=>[c]).flatten=ls:=kU ls;have hj:(ls.map fun c=>D.str [c])=(ls.map fun c=>[c]).map .str:=by rw [map_map];rfl
 walk_at "r";refine⟨_,hj,by rw [hfl];omega,?_⟩;rw [hfl];walk_at "r";rw [decide_eq_true rfl];exact q y3 hd3 (by omega)
theorem l8:∀p ds Q,p.isOwn=true->bA p ds Q->tG dO ia p ds Q:=fun p ds Q _ h=>by
 unfold bA at h
 split at h
 .exact kL _ _ h
 .exact h.elim
def cX:PTS:=(aH (a8 (pCB xq (af (pFz (pC (.str [97,98,99,100,101,102,103,104,105,106,107,108,109,110,111,112,113,114,115,116,117,118,119,120,121,122]))) ao)) (ak 1)) (aH (a8 (mC ao) (ak 2)) (aH (ir (uK (af (pFz (pOp bP (pFz (pC (.int 9))) (pFz (pOp gG (pFz (bN aB 0 ao)) (pFz (pC (.int 3))))))) ao)) (ak 3) (gO (xI 2 (tL 1 (pOp gG (pFz (bN aB 0 ao)) (pFz (pCB gv (af (pSl 1) ao)))))))) (aH (a8 (df (pSl 2) dq (c8 (pC (.int 4)))) (iT 4 (dC (ak 4) (dC (ak 5) (dC (ak 6) (dC (ak 7) mE)))))) (aH (a8 (pOp bP (pFz (pC (.int 2))) (pFz (pOp gG (pFz (bN aB 0 ao)) (pFz (pC (.int 8)))))) (ak 8)) (aH (a8 (pOp bP (pFz (mC (af (pFz (pOp bP (pSl 6) (pFz (pOp ou (pFz (pOp bP (pSl 4) (pSl 5))) (pSl 8))))) (af (pFz (pOp ou (pFz (pOp bP (pSl 5) (pSl 4))) (pSl 8))) (af (pFz (pOp bP (pFz (pOp ou (pFz (pOp bP (pSl 4) (pSl 5))) (pSl 8))) (pSl 7))) ao))))) (pFz (df (pSl 2) (c8 (pC (.int 4))) dq))) (ak 9)) (aH (a8 (pOp gG (pFz (bN aB 0 ao)) (pFz (pCB gv (af (pSl 9) ao)))) (ak 10)) (aH (a8 (pOp bP (pFz (yW (pFz (df (pSl 9) (c8 (bo 10)) dq)) (pUn xJ (pFz (pC (.int 1)))))) (pFz (df (pSl 9) dq (c8 (bo 10))))) (ak 9)) (cw (pOp rS (pFz (bF aS (af (pFz (uO "Family" aO (af (pFz (bo 9)) ao))) ao))) (pFz (pSM tJ (pC (.str [])) (af (pFz (pCB xo (af (pFz (pOp bP (pFz (mC (af (pFz (pOp bP (pFz (pOp bP (pSl 6) (pFz (pOp ou (pFz (pOp bP (pSl 4) (pSl 5))) (pFz (pOp bP (pSl 8) (pFz (pC (.int 1))))))))) (pSl 7))) ao))) (pFz (df (pSl 2) (c8 (pC (.int 4))) dq)))) ao))) ao)))))))))))))
theorem ja(ds:List D)(Q:PV->PV->Prop)(h:a9 (.own ds) ([]) Q):tG cX e7 (.own ds) ([]) Q:=by
 show cX _ [some (.own ds),none,none,none,none,none,none,none,none,none,none];obtain⟨zs,rfl,⟨hz,h3,hzu⟩,q⟩:=h;have g0:Dk zs/\0<zs.length/\zs.length<=100000:=⟨hz,by omega,by omega⟩
 walk_at "r";rintro a y1 ha0 ha1 hd1 hl1;obtain⟨n,hn,hn8,hn10⟩:∃n:Nat,9+a % 3=(n:Int)/\9<=n/\n<=11:=⟨(9+a % 3).toNat,by omega,by omega,by omega⟩
 walk_at "r";rw [hn,toNat_natCast]
 refine⟨fun k ρ=>∃(lt sg:List Nat) (ys:List Int) (v3:Option PV),(sg++lt).Perm Cf/\sg.length=k/\Dk ys/\y1.length=ys.length+k/\ρ=[some (.own (ys.map .int)),some (.own (sg1 lt)),some (.own (sg1 sg)),v3,none,none,none,none,none,none,none],⟨Cf,[],y1,_,List.Perm.refl _,rfl,hd1,rfl,rfl⟩,?_,?_⟩
 .rintro k ρ _ hk rfl ⟨lt,sg,ys,v3,hp,hsl,hdy,hyl,rfl⟩;have hpl:=hp.length_eq;rw [length_append,show Cf.length=26 from rfl] at hpl;have g1:Dk ys/\0<ys.length/\ys.length<=100000:=⟨hdy,by omega,by omega⟩
  have hll:=o8 lt;have hsm:=o8 sg;walk_at "r";rintro b y2 hb0 hb1 hd2 hl2
  obtain⟨i,hi,hi2⟩:∃i:Nat,b % ((sg1 lt).length:Int)=(i:Int)/\i<lt.length:=by
   rw [hll];have e0:=emod_nonneg b (show (lt.length:Int)≠0 by omega);have e1:=emod_lt_of_pos b (show 0<(lt.length:Int) by omega);exact⟨(b % (lt.length:Int)).toNat,by omega,by omega⟩
  walk_at "r";rw [hi];refine⟨i,.str [lt[i]],⟨by rw [hll];exact Fy hi2,by omega⟩,B3 hi2,?_⟩;walk_at "r";rw [xE];refine⟨lt.eraseIdx i,sg++[lt[i]],y2,_,?_,by rw [length_append,hsl];rfl,hd2,by omega,by rw [B2];rfl⟩;rw [append_assoc];exact ((perm_append_comm.trans (qu hi2)).append_left sg).trans hp
 rintro ρ ⟨lt,sg,ys,v3,hp,hsl,hdy,hyl,rfl⟩;have hnd:=hp.nodup_iff.mpr B0;have hsn:sg.Nodup:=hnd.sublist (sublist_append_left ..);have hsL:∀x∈sg,Lts [x]:=fun x hx=>B1 fun y hy=>by rw [mem_singleton.mp hy];exact hp.mem_iff.mp (mem_append_left _ hx)
 obtain⟨A,B,C,E,ss,rfl⟩:∃A B C E ss,sg=A::B::C::E::ss:=by
  match sg,hsl with
  | A::B::C::E::ss,_=>exact⟨A,B,C,E,ss,rfl⟩
  | [],h=>exact absurd h (by show 0≠n;omega)
  | [_],h=>exact absurd h (by show 1≠n;omega)
  | [_,_],h=>exact absurd h (by show 2≠n;omega)
  | [_,_,_],h=>exact absurd h (by show 3≠n;omega)
 have c4:eV (sg1 (A::B::C::E::ss)) none (some 4)=[.str [A],.str [B],.str [C],.str [E]]:=by rw [show (4:Int)=((4:Nat):Int) from rfl,fo];rfl
 have c5:eV (sg1 (A::B::C::E::ss)) (some 4) none=sg1 ss:=by rw [show (4:Int)=((4:Nat):Int) from rfl,fE];rfl
 have hsl:ss.length+4=n:=by rw [<- hsl];rfl
 have g2:Dk ys/\0<ys.length/\ys.length<=100000:=⟨hdy,by omega,by omega⟩
 walk_at "r";rintro b y2 hb0 hb1 hd2 hl2;obtain⟨t,ht,ht2,ht9⟩:∃t:Nat,2+b % 8=(t:Int)/\2<=t/\t<=9:=⟨(2+b % 8).toNat,by omega,by omega,by omega⟩
 have w1:(-1000000:Int)<=(t:Int)/\(t:Int)<=1000000/\(t:Int).toNat*([A]++[B]).length<=1000000:=⟨by omega,by omega,by show _*2<=_;omega⟩
 have w2:(-1000000:Int)<=(t:Int)/\(t:Int)<=1000000/\(t:Int).toNat*([B]++[A]).length<=1000000:=⟨by omega,by omega,by show _*2<=_;omega⟩
 have w3:(-1000000:Int)<=(t:Int)+1/\(t:Int)+1<=1000000/\((t:Int)+1).toNat*([A]++[B]).length<=1000000:=⟨by omega,by omega,by show _*2<=_;omega⟩
 have r1:kO ([A]++[B]) (t:Int)=alt A B (2*t):=o5 A B t;have r2:kO ([B]++[A]) (t:Int)=alt B A (2*t):=o5 B A t;have r3:kO ([A]++[B]) ((t:Int)+1)=alt A B (2*t+2):=o5 A B (t+1);have l1:=dz A B (2*t);have l2:=dz B A (2*t);have l3:=dz A B (2*t+2);walk_at "r";rw [ht];walk_at "r";rw [r1];refine⟨by rw [l1];show 1+_<=_;omega,?_⟩;walk_at "r";rw [r1,r2];refine⟨by rw [l1];show _+1<=_;omega,?_⟩;walk_at "r";rw [c5]
 have hA:=hsL A (by simp);have hB:=hsL B (by simp);have hC:=hsL C (by simp);have hE:=hsL E (by simp);obtain⟨W,hW⟩:∃W:List (List Nat),W=[[C]++alt A B (2*t),alt B A (2*t),alt A B (2*t)++[E]]++ss.map fun c=>[c]:=⟨_,rfl⟩
 have hWD:[D.str ([C]++alt A B (2*t)),D.str (alt B A (2*t)),D.str (alt A B (2*t)++[E])]++sg1 ss=W.map .str:=by rw [hW,map_append];rfl
 have hWl:W.length=ss.length+3:=by rw [hW,length_append,length_map];show 3+_=_;omega
 have hWm:(W.map D.str).length=W.length:=length_map _
 have hWmem:∀w,w∈W ↔ w=C::alt A B (2*t)\/w=alt B A (2*t)\/w=alt A B (2*t)++[E]\/∃s∈ss,w=[s]:=fun w=>by
  rw [hW,mem_append,mem_map];simp only [mem_cons,not_mem_nil,or_false,cons_append,nil_append,or_assoc];exact or_congr Iff.rfl (or_congr Iff.rfl (or_congr Iff.rfl ⟨fun ⟨s,h,e⟩=>⟨s,h,e.symm⟩,fun ⟨s,h,e⟩=>⟨s,h,e.symm⟩⟩))
 have hWp:Pcs 60 W:=fun w hw=>by
  rcases (hWmem w).mp hw with rfl|rfl|rfl|⟨s,hs,rfl⟩
  .exact⟨zero_lt_succ _,by rw [length_cons,l1];omega,hC.app (sj hA hB)⟩
  .exact⟨by rw [l2];omega,by rw [l2];omega,sj hB hA⟩
  .exact⟨by rw [length_append,l1];omega,by rw [length_append,l1];show _+1<=_;omega,(sj hA hB).app hE⟩
  .exact⟨by show 0<1;decide,by show 1<=60;decide,hsL s (by simp [hs])⟩
 have hdis:A≠B/\A≠C/\A≠E/\B≠C/\B≠E/\C≠E:=by
  simp only [nodup_cons,mem_cons,not_or] at hsn;exact⟨hsn.1.1,hsn.1.2.1,hsn.1.2.2.1,hsn.2.1.1,hsn.2.1.2.1,hsn.2.2.1.1⟩
 have hsd:∀s∈ss,s∉[A,B,C,E]:=fun s hs=>by
  simp only [nodup_cons,mem_cons,not_or] at hsn;simp only [mem_cons,not_mem_nil,or_false,not_or];exact⟨fun z=>hsn.1.2.2.2 (z ▸ hs),fun z=>hsn.2.1.2.2 (z ▸ hs),fun z=>hsn.2.2.1.2 (z ▸ hs),fun z=>hsn.2.2.2.1 (z ▸ hs)⟩
 have hssn:ss.Nodup:=by
  simp only [nodup_cons] at hsn;exact hsn.2.2.2.2
 have hlst:=fun (ps sb:List (List Nat)) (h:ps.Perm W) (hp:sb.Perm ((C::(alt A B (2*t+2)++[E]))::ss.map fun s=>[s])) (hs:sb.Pairwise (fun a b=>¬ b<a))=>qD ht2 hdis hsd hssn hp hs (ps:=ps) (fun w=>by rw [h.mem_iff];exact hWmem w);rw [hWD];refine⟨by rw [o8];show 3+_<=_;omega,?_⟩;clear hW hWD hWmem;have g3:Dk y2/\0<y2.length/\y2.length<=100000:=⟨hd2,by omega,by omega⟩
 walk_at "r";rintro c y3 hc0 hc1 hd3 hl3
 obtain⟨tn,htn,htn2⟩:∃tn:Nat,c % ((W.map D.str).length:Int)=(tn:Int)/\tn<W.length:=by
  rw [hWm];have e0:=emod_nonneg c (show (W.length:Int)≠0 by omega);have e1:=emod_lt_of_pos c (show 0<(W.length:Int) by omega);exact⟨(c % (W.length:Int)).toNat,by omega,by omega⟩
 walk_at "r";rw [htn,fE,fo];rw [<- map_drop,<- map_take,<- map_reverse,<- map_append];have hpr:((W.drop tn).reverse++W.take tn).Perm W:=((reverse_perm _).append_right _).trans (perm_append_comm.trans (by rw [take_append_drop]));have hln:=hpr.length_eq;have hp2:Pcs 60 ((W.drop tn).reverse++W.take tn):=fun w hw=>hWp w (hpr.mem_iff.mp hw);have hl2':=fun sb=>hlst _ sb hpr;refine⟨by rw [length_map,length_map,length_reverse,length_drop,length_take];omega,?_⟩
 generalize (W.drop tn).reverse++W.take tn=ps at hln hp2 hl2';have hk2:ps.length<=40/\Pcs 60 ps:=⟨by omega,hp2⟩
 have h12:Pcs 60 ps/\(ah ps).length<=12:=⟨hp2,Nat.le_trans (dU ps) (by omega)⟩
 walk_at "r";intro t0 ht0;walk_at "r";rw [r3];refine⟨by rw [l3];show 1+_<=_;omega,?_⟩;walk_at "r";rw [c5];refine⟨by rw [o8];show 1+_<=_;omega,?_⟩;have hso:[D.str ([C]++alt A B (2*t+2)++[E])]++sg1 ss=((C::(alt A B (2*t+2)++[E]))::ss.map fun s=>[s]).map .str:=rfl;have hsol:((C::(alt A B (2*t+2)++[E]))::ss.map fun s=>[s]).length<64:=by rw [length_cons,length_map];omega
 rw [hso];walk_at "r";intro sb hsp hss
 have hfl:sb.flatten.length<=1000:=by
  rw [length_flatten,(hsp.map List.length).sum_nat,<- length_flatten,flatten_cons,kU,length_append,length_cons,length_append,l3];show _+1+1+_<=_;omega
 rw [ht0.uniq (hl2' sb hsp hss)];walk_at "r";rw [decide_eq_true rfl];exact q y3 hd3 (by omega)
theorem jt:∀p ds Q,p.isOwn=true->a9 p ds Q->tG cX e7 p ds Q:=fun p ds Q _ h=>by
 unfold a9 at h
 split at h
 .exact ja _ _ h
 .exact h.elim
def ug:PTS:=(aH (a8 (bF cF (af (pFz (bo 0)) (af (pFz (pC (.int 1180))) ao))) (ak 1)) (aH (a8 (bN bQ 1 (af (pFz (pC (.int 7))) ao)) (ak 2)) (aH (a8 (bF bU (af (pFz (bo 2)) ao)) (ak 3)) (aH (a8 (bF bV (af (pFz (bF cG (af (pFz (bo 3)) ao))) ao)) (ak 4)) (aH (a8 (pOp Bi (pFz (pCB yv (af (pFz (dr [none] (dL (bo 3)) (ak 0) jy (pCB gv (af (pSl 0) ao)))) ao))) (pFz (pCB yH (af (pFz (pOp bP (pFz (mC (af (pFz (pC (.int 0))) ao))) (pFz (pOp fIx (pSl 4) (pFz (pUn xJ (pFz (pC (.int 1))))))))) ao)))) (ak 5)) (aH (a8 (bF aS (af (pFz (uO "Family" aO (af (pFz (bo 2)) ao))) ao)) (ak 6)) (aH (kQ (pOr (wl (pB (EA .str (pSl 6)))) (pOr (pB (pOp xL (pFz (pCB gv (af (pSl 6) ao))) (pSl 5))) (wl (pB (bF bW (af (pFz (bo 6)) (af (pFz (bo 2)) ao))))))) (cw (pC (.bl false))) cU) (aH (a8 (dr [none,some 1,some 3] (uK (af (pFz (pC (.int 40))) ao)) (ak 0) jy (bN bx 1 (af (pFz (bo 2)) ao))) (ak 7)) (aH (a8 (dr [none,some 6] (dL (bo 7)) (ak 0) (pB (bF bu (af (pFz (bo 0)) (af (pFz (bo 1)) ao)))) (bo 0)) (ak 8)) (aH (kQ (pOr (pB (pOp xL (pSl 8) (pFz (mC ao)))) (pB (pOp xL (pFz (bF aS (af (pFz (uO "Family" aO (af (pFz (yW (pSl 2) (pUn xJ (pFz (pC (.int 1)))))) ao))) ao))) (pSl 6)))) (cw (pC (.bl false))) cU) (aH (a8 (pOp bP (pFz (df (pSl 7) dq (c8 (pC (.int 6))))) (pFz (mC (af (pFz (bo 6)) (af (pFz (pC (.str []))) (af (pFz (bN bt 1 (af (pFz (pC (.str [97,98]))) (af (pFz (pOp bP (pFz (pC (.int 1))) (pFz (pOp gG (pFz (bN aB 1 ao)) (pFz (pC (.int 4))))))) ao)))) ao)))))) (ak 7)) (aH (gO (xI 7 (bN bt 1 (af (pFz (pC (.str [97,122]))) (af (pFz (pC (.int 3))) ao))))) (aH (ir (dL (bo 7)) (ak 9) (ir (dL (bo 7)) (ak 10) (aH (kQ (pB (pOp xL (pFz (bF bq (af (pFz (bo 9)) (af (pFz (bo 10)) ao)))) (pFz (bF bu (af (pFz (bo 9)) (af (pFz (bo 10)) ao)))))) (cw (pC (.bl false))) cU) (kQ (wl (pB (EA .bool (pFz (bF bq (af (pFz (bo 9)) (af (pFz (bo 10)) ao))))))) (cw (pC (.bl false))) cU)))) (aH (a8 (pOp gG (pFz (bN aB 1 ao)) (pFz (pC (.int 12)))) (ak 11)) (aH (kQ (pOr (Cb (pB (pOp rS (pSl 11) (pFz (pC (.int 1))))) (wl (pB (bN bA 1 ao)))) (Cb (pB (pOp rS (pSl 11) (pFz (pC (.int 5))))) (wl (pB (bN a9 1 ao))))) (cw (pC (.bl false))) cU) (cw (pOp rS (pFz (bF aS (af (pFz (uO "Family" aO (af (pFz (pCB jh (af (pSl 2) ao))) ao))) ao))) (pSl 6))))))))))))))))))
theorem B5(ns:List Int)(h63:ns.length<=63)(Q:PV->Prop)(q:Q (.dat (.bl true))):dP ug Ag [.scr ns] Q:=by
 show ug _ [some (.dat (.scr ns)),none,none,none,none,none,none,none,none,none,none,none];walk_at "r";rintro z1 hz1 hl1;have hl1:z1.length=1180:=hl1;have g1:Dk z1/\z1.length<=10000:=⟨hz1,by omega⟩
 walk_at "r";rintro ps z2 hp0 hps hz2 hl2 hl2';have hp0:ps.length<=7:=by omega
 have hk:ps.length<=40/\∀w∈ps,w.length<=60/\Lts w:=⟨by omega,fun w hw=>⟨(hps w hw).2.1,(hps w hw).2.2⟩⟩
 have hk2:ps.length<=40/\Pcs 60 ps:=⟨by omega,hps⟩
 have hwn:=dU ps;have hwo:=GE hk.1 hps;have hwm:((ah ps).map D.str).length=(ah ps).length:=length_map _;have hpm:(ps.map D.str).length=ps.length:=length_map _;have h8:(ah ps).length<=8:=by omega
 have h256:=jZ h8;have h12:Pcs 60 ps/\(ah ps).length<=12:=⟨hps,by omega⟩
 have hsum:fV ps=((ah ps).map fun w=>(w.length:Int)).sum:=rfl;walk_at "r";rintro tb hE htb;have hp2:0<2^(ah ps).length:=pow_pos (by decide);have hwl:=hE.wid (2^(ah ps).length - 1) (by omega);have hlong:=fun (t:List Nat) (h:Lst (uS ps) t)=>zk hps hE h8 htb h;have htm:(tb.map si).length=tb.length:=length_map _
 have hlast:atI (tb.map si) (-1)=some (si (tb.getD (2^(ah ps).length - 1) [])):=by
  have:=xu (ds:=tb.map si) (by omega);rw [this,htm,htb,gw (show (tb.map si)[2^(ah ps).length - 1]?=some (si (tb.getD (2^(ah ps).length - 1) [])) by rw [getElem?_map,getElem?_eq_getElem (by omega),getD_eq_getElem?_getD,getElem?_eq_getElem (by omega)];rfl)]
 generalize hLR:tb.getD (2^(ah ps).length - 1) []=LR at hlast hwl hlong;have hl1':[D.int 0].length+(LR.map D.int).length<=1000000:=by rw [length_map];show 1+_<=_;omega
 walk_at "r"
 refine cm1 (e:=D.str) (xs:=ah ps) (fun w=>.int (w.length:Int)) (fun w hw v K1 k1=>?_) (fun v=>?_)
 .walk_at "r";exact k1 _
 walk_at "r";refine⟨(ah ps).map fun w=>(w.length:Int),by rw [map_map];rfl,?_⟩;walk_at "r";refine⟨_,hlast,?_⟩;walk_at "r";refine⟨0::LR,rfl,zero_lt_succ _,fun mx hm1 hm2=>?_⟩;have hmx:mx=uX (0::LR):=xt hm1 hm2;rw [hmx,<- hsum];walk_at "r";intro t ht;have htl:=hlong t ht;have hall:(ps.all fun p=>eC p t)=true:=all_eq_true.mpr fun p hp=>gT.mpr (ht.1 p hp)
 have ht4:t.length<=4000:=by
  obtain⟨⟨js,hj,e⟩,_⟩:=t6 hps ht;have h1:=D3 (Bw fun w hw=>(hwo.2 w hw).2) js;have h2:=Bv hj;rw [e];have:js.length*60<=8*60:=mul_le_mul_right 60 (by omega);omega
 walk_at "r"
 refine⟨fun k xs τ=>∃(v:Option PV) (y:List Int) (tx:List (List Nat)),τ=[v,some (.own (y.map .int)),some (.dat (.lst ((ah ps).map .str)))]/\Dk y/\z2.length<=y.length+(3*(ah ps).length+3)*k/\y.length<=z2.length/\xs=tx.map .str/\tx.length=k/\∀t∈tx,t.length<=4000/\∀w∈ah ps,w <:+: t,⟨none,z2,[],rfl,hz2,by omega,Nat.le_refl _,rfl,rfl,(fun t ht=>(not_mem_nil ht).elim)⟩,?_,?_⟩
 .rintro k xs τ _ hk rfl ⟨v,y,tx,rfl,hy,hyl2,hyl3,rfl,htl,htx⟩;have hk:k<40:=hk;have hk3:(3*(ah ps).length+3)*k<=24*39:=mul_le_mul (by omega) (by omega);have g4:Ch (ah ps)/\Dk y/\3*(ah ps).length+3<=y.length/\y.length<=10000:=⟨hwo,hy,by omega,by omega⟩
  walk_at "r";rintro u y4 hu1 hu2 hd4 hy4 hy4'
  exact⟨_,y4,tx++[u],rfl,hd4,by rw [mul_succ];omega,by omega,by rw [map_append];rfl,by rw [length_append,htl];rfl,fun x hx=>by
   rcases mem_append.mp hx with h|h
   .exact htx x h
   .rw [mem_singleton.mp h];exact⟨hu2,hu1⟩⟩
 rintro xs τ ⟨v,y,tx,rfl,hy,hyl2,hyl3,rfl,htxl,htx⟩;have htxl:tx.length=40:=htxl
 have hyl:140<=y.length:=by
  have hk3:(3*(ah ps).length+3)*40<=24*40:=mul_le_mul (by omega) (by omega);have:z2.length<=y.length+(3*(ah ps).length+3)*40:=hyl2;omega
 clear hyl2;have htxm:(tx.map D.str).length=tx.length:=length_map _;have hHold:∀u∈tx,uS ps u:=fun u hu p hp=>tW (fun w hw=>(hk.2 w hw).1) (htx u hu).2 hp;have hfil:(tx.filter fun u=>ahB u t)=[]:=filter_eq_nil_iff.mpr fun u hu=>by rw [ht.2 u (hHold u hu)];decide
 walk_at "r"
 refine cf1 (e:=D.str) (xs:=tx) (fun u=>ahB u t) (fun u=>.str u) (fun u hu v K1 K2 k1 k2=>?_) (fun v=>?_)
 .have hu4:=(htx u hu).1;have g5:u.length<=100000/\t.length<=100000:=⟨by omega,by omega⟩
  walk_at "r"
  refine zD (fun c=>?_) (fun c=>?_)
  .walk_at "r";exact k1 _ c
  .exact k2 _ c
 rw [hfil];have hrv:ps.reverse.length<=40/\Pcs 60 ps.reverse:=⟨by rw [length_reverse];omega,fun w hw=>hps w (mem_reverse.mp hw)⟩
 have hrl:(ah ps.reverse).length<=12:=Nat.le_trans (dU _) (by rw [length_reverse];omega);have hrt:=fun (u:List Nat) (h:Lst (uS ps.reverse) u)=>h.congr (S':=uS ps) fun x=>⟨fun z p hp=>z p (mem_reverse.mpr hp),fun z p hp=>z p (mem_reverse.mp hp)⟩
 have e3:vd (.lst []) (.lst []):=vd.of (Sh.lstI []) (Sh.lstI []);have e4:deq (.lst []) (.lst [])=true:=tH (Sh.lstI []);walk_at "r";refine⟨ps.reverse,by rw [<- map_reverse];exact ve.lst _,hrv,rfl,?_⟩;walk_at "r";refine⟨⟨hrv.2,hrl⟩,fun u hu=>?_⟩;rw [(hrt u hu).uniq ht];clear hu u;have hy0:Dk y/\0<y.length/\y.length<=100000:=⟨hy,by omega,by omega⟩
 have c6:eV (tx.map D.str) none (some 6)=(tx.take 6).map .str:=by rw [sV,show (6:Int)=((6:Nat):Int) from rfl,fo]
 walk_at "r";rintro b y1 hb0 hb1 hd1 hl1;have gab:0<[97,98].length/\[97,98].length<=26/\Lts [97,98]:=⟨by decide,by decide,oI.mp (by decide)⟩
 have gaz:0<[97,122].length/\[97,122].length<=26/\Lts [97,122]:=⟨by decide,by decide,oI.mp (by decide)⟩
 have g6:Dk y1/\y1.length<=100000:=⟨hd1,by omega⟩
 have g7:0<=1+b % 4/\1+b % 4<=(y1.length:Int):=⟨by omega,by omega⟩
 walk_at "r";rintro s1 y2 hs1 hs1L _ hd2 hl2;rw [c6];have hc6:((tx.take 6).map D.str).length<=6:=by rw [length_map,length_take];omega
 have hs1l:s1.length<=4:=by omega
 have eT:(tx.take 6).map D.str++[D.str t,D.str [],D.str s1]=(tx.take 6++[t,[],s1]).map .str:=by rw [map_append];rfl
 have hT9:∀u∈tx.take 6++[t,[],s1],u.length<=4000:=fun u hu=>by
  rcases mem_append.mp hu with h|h
  .exact (htx u (mem_of_mem_take h)).1
  .simp only [mem_cons,not_mem_nil,or_false] at h
   rcases h with rfl|rfl|rfl
   .exact ht4
   .exact zero_le _
   .omega
 have hT9l:(tx.take 6++[t,[],s1]).length<=9:=by rw [length_append,length_take];show _+3<=_;omega
 have g8:Dk y2/\y2.length<=100000:=⟨hd2,by omega⟩
 have g9:(0:Int)<=3/\(3:Int)<=(y2.length:Int):=⟨by decide,by omega⟩
 walk_at "r";rw [eT];refine⟨by show _+3<=_;omega,?_⟩;generalize tx.take 6++[t,[],s1]=T9 at hT9 hT9l;have hT9m:(T9.map D.str).length=T9.length:=length_map _;walk_at "r";rintro s2 y3 hs2 hs2L _ hd3 hl3;have hs2l:s2.length=3:=hs2
 have hTT:∀u∈T9++[s2],u.length<=4000:=fun u hu=>by
  rcases mem_append.mp hu with h|h
  .exact hT9 u h
  .rw [mem_singleton.mp h];omega
 have hTl:(T9++[s2]).length<=10:=by rw [length_append];show _+1<=_;omega
 have eT2:T9.map D.str++[D.str s2]=(T9++[s2]).map .str:=by rw [map_append];rfl
 walk_at "r";rw [eT2];generalize T9++[s2]=T at hTT hTl;have hTm:(T.map D.str).length=T.length:=length_map _;walk_at "r"
 refine Fx (α:=List Nat) (e:=D.str) (xs:=T) (fun (pre:List (List Nat)) ρ=>∃v9 v10:Option PV,ρ=[some (.dat (.scr ns)),some (.own (y3.map .int)),some (.dat (.lst (ps.map .str))),some (.dat (.lst ((ah ps).map .str))),some (.dat (.lst (tb.map si))),some (.dat (.int (fV ps - uX (0::LR)))),some (.dat (.str t)),some (.dat (.lst (T.map .str))),some (.own (([]:List (List Nat)).map fun u=>D.str u)),v9,v10,none]) ⟨_,_,rfl⟩ ?_ ?_
 .rintro pre x suf ρ ej ⟨v9,v10,rfl⟩;have hx4:=hTT x (by rw [ej];simp);clear ej;walk_at "r"
  refine Fx (α:=List Nat) (e:=D.str) (xs:=T) (fun (pre:List (List Nat)) ρ=>∃v10:Option PV,ρ=[some (.dat (.scr ns)),some (.own (y3.map .int)),some (.dat (.lst (ps.map .str))),some (.dat (.lst ((ah ps).map .str))),some (.dat (.lst (tb.map si))),some (.dat (.int (fV ps - uX (0::LR)))),some (.dat (.str t)),some (.dat (.lst (T.map .str))),some (.own (([]:List (List Nat)).map fun u=>D.str u)),some (.dat (.str x)),v10,none]) ⟨_,rfl⟩ ?_ ?_
  .rintro pre2 w suf2 ρ ej ⟨v10,rfl⟩;have hw4:=hTT w (by rw [ej];simp);have gxw:x.length<=100000/\w.length<=100000:=⟨by omega,by omega⟩
   have hsb:Sh (.bl (ahB x w)):=by cases ahB x w <;> exact⟨rfl,rfl⟩
   have ebb:vd (.bl (ahB x w)) (.bl (ahB x w)):=vd.of hsb hsb;have ebd:deq (.bl (ahB x w)) (.bl (ahB x w))=true:=tH hsb;clear ej;walk_at "r";rw [ebd];walk_at "r";exact⟨_,rfl⟩
  rintro ρ ⟨v10,rfl⟩;exact⟨_,_,rfl⟩
 rintro ρ ⟨v9,v10,rfl⟩;have g10:Dk y3/\0<y3.length/\y3.length<=100000:=⟨hd3,by omega,by omega⟩
 walk_at "r";rintro c y4 hc0 hc1 hd4 hl4;have g11:Dk y4/\3<=y4.length/\y4.length<=10000:=⟨hd4,by omega,by omega⟩
 have g12:Dk y4/\20<=y4.length/\y4.length<=10000:=⟨hd4,by omega,by omega⟩
 have htp:=fun (u:List Nat) (h:Lst (uS ps) u)=>h.uniq ht;walk_at "r"
 refine gF (fun c1=>?_) (fun c1=>?_)
 .walk_at "r";rintro y5 hd5 hl5;have c5:¬ (c % 12=5):=by omega
  walk_at "r";intro u hu;rw [htp u hu];walk_at "r";rw [decide_eq_true rfl];exact q
 .walk_at "r"
  refine gF (fun c2=>?_) (fun c2=>?_)
  .walk_at "r";rintro y5 hd5 hl5;walk_at "r";intro u hu;rw [htp u hu];walk_at "r";rw [decide_eq_true rfl];exact q
  .walk_at "r";intro u hu;rw [htp u hu];walk_at "r";rw [decide_eq_true rfl];exact q
theorem Ep:∀ds Q,ue ds Q->dP ug Ag ds Q:=fun ds Q h=>by
 obtain⟨ns,rfl,h63,q⟩:=h;exact B5 ns h63 Q q
section
variable {P:Program}{w:World}{K:PySem.W.Frag}{mg:Str->Option Value}{base:Heap}
theorem nL:∀ds Q,cv ds Q->ds.length=1:=fun ds Q h=>by unfold cv at h;split at h;(first|rfl|exact h.elim);(first|rfl|exact h.elim)
theorem u8(D:cS K mg "members" lG)(T:Txt mg)(TC:TxC K):Cal P w K mg base 1 "members" ["mark"] (spP K cv):=by
 refine D.ok uV (fun _ _ _ _ _ _ us hl=>match us,hl with|[_],_=>rfl) (fun vs H Q E h=>?_) (fun f cdv A outer s H vs Q E hr h=>?_)
 .exact jA nL h
 .have hu:=hr.units;exact⟨_,(ax (bi (bO (wi:=(nV (bB (CW K "int" By (bg 0)) fB))) (g:=(cm 0)) (tts:=(tBI (tOp yJ (tOp EB (bg 1) (bg 0)) (tC (V.int 1))))) (te:=(bg 0)) ["i","mark"] [none,some 0] rfl (cR rfl T.b_range (paC (BC K rfl PySem.F.plainAttrs_int PySem.F.slot_int_bit_length PySem.F.type_int_bit_length Bz (pv 0)) ag)) (fun _ _ _ _=>⟨(aF (i:=0) (by show List.Nodup (["i","mark"]:List Str);decide +kernel) rfl (by walk_at "o")),(fR (D7 (aE wJ (aE Bo (pv 1) (pv 0)) aq))),(pv 0)⟩) (by kernel_rfl)))),fnP (K:=K) (c:=cv) (ps:=il) (N:=["mark"]) (bj (bp (ix:=[none,some 0]) rfl (kE (aa (ac (BB (am (i:=0)))) ae)) (fun fs hc=>(aC (i:=0) (gQ hc (by decide)))) (FB (al rT (ac (al wI (aj (i:=1)) (aj (i:=0)))) (ac le_int))) (am (i:=0)))) (fun ds Q h=>Nat.le_trans (le_of_eq (nL ds Q h)) (by decide)) u4 h⟩
theorem l9:∀ds Q,bq ds Q->ds.length=2:=fun ds Q h=>by unfold bq at h;split at h;(first|rfl|exact h.elim);(first|rfl|exact h.elim)
theorem sG(D:cS K mg "is_ahead" jN)(T:Txt mg)(TC:TxC K):Cal P w K mg base 1 "is_ahead" ["one","other"] (spP K bq):=by
 refine D.ok r0 (fun _ _ _ _ _ _ us hl=>match us,hl with|[_,_],_=>rfl) (fun vs H Q E h=>?_) (fun f cdv A outer s H vs Q E hr h=>?_)
 .exact jA l9 h
 .have hu:=hr.units;exact⟨_,(ai (eE (bw (ql K rfl hu) (ay (cY K rfl) rfl T.b_len PySem.boot_len (paC (pv 0) ag)) (ay (cY K rfl) rfl T.b_len PySem.boot_len (paC (pv 1) ag)) (bH _)) (ax (bi (eH A1 (ay (cY K rfl) rfl T.b_len PySem.boot_len (paC (pv 0) ag)) (ay (cY K rfl) rfl T.b_len PySem.boot_len (paC (pv 1) ag)) (bH _)))) bZ) (ax (bi (eH A1 (pv 0) (pv 1) (bH _))))),fnP (K:=K) (c:=bq) (ps:=gc) (N:=["one","other"]) (au (eJ (iP (al kc (ac (bD bI (aa (aj (i:=0)) ae))) (ac (bD bI (aa (aj (i:=1)) ae))))) (bj (al rL (ac (bD bI (aa (aj (i:=0)) ae))) (ac (bD bI (aa (aj (i:=1)) ae))))) b9) (bj (al rL (aj (i:=0)) (aj (i:=1))))) (fun ds Q h=>Nat.le_trans (le_of_eq (l9 ds Q h)) (by decide)) sm h⟩
theorem md:∀ds Q,bz ds Q->ds.length=1:=fun ds Q h=>by unfold bz at h;split at h;(first|rfl|exact h.elim);(first|rfl|exact h.elim)
theorem sH(D:cS K mg "foremost" jO)(T:Txt mg)(TC:TxC K)(C_is_ahead:Cal P w K mg base 1 "is_ahead" ["one","other"] (spP K bq)):Cal P w K mg base 2 "foremost" ["texts"] (spP K bz):=by
 refine D.ok f9 (fun _ _ _ _ _ _ us hl=>match us,hl with|[_],_=>rfl) (fun vs H Q E h=>?_) (fun f cdv A outer s H vs Q E hr h=>?_)
 .exact jA md h
 .have hu:=hr.units;exact⟨_,(ai (aJ (i:=1) f9.nd rfl (by walk_at "o") (dH (jg K rfl) (pv 0) aq (fun _ _=>rfl))) (ai (eG PassesOwn.never rfl (cH K rfl (bJ (mD K rfl) (pv 0) (cp aq) cK)) (aF (i:=2) f9.nd rfl (by walk_at "o")) (ax (eE (dM (aD C_is_ahead (hr.mono (by decide)) (paC (pv 2) (paC (pv 1) ag)))) (ax (aJ (i:=1) f9.nd rfl (by walk_at "o") (pv 2))) bZ))) (ax (bi (pv 1))))),fnP (K:=K) (c:=bz) (ps:=gf) (N:=["texts","best","text"]) (au (aG (al dJ (aj (i:=0)) (ac le_int)) (aA (i:=1) rfl)) (au (eM (cI (bK (aj (i:=0)) (bC le_int) bM)) (aC (i:=2) rfl) (eJ (rK (aN (c:=bq) (aa (ac (am (i:=2))) (aa (ac (am (i:=1))) ae)))) (aG (am (i:=2)) (aA (i:=1) rfl)) b9)) (bj (am (i:=1))))) (fun ds Q h=>Nat.le_trans (le_of_eq (md ds Q h)) (by decide)) sr h⟩
theorem fi:∀ds Q,aT ds Q->ds.length=1:=fun ds Q h=>by unfold aT at h;split at h;(first|rfl|exact h.elim);(first|rfl|exact h.elim)
theorem ju(D:cS K mg "check_few_words" dW)(T:Txt mg)(TC:TxC K)(C_Family_many:Do P w K mg base 1 (cJ K "Family") "many" ["self"] (spP K aW)):Cal P w K mg base 2 "check_few_words" ["family"] (spP K aT):=by
 refine D.ok jn (fun _ _ _ _ _ _ us hl=>match us,hl with|[_],_=>rfl) (fun vs H Q E h=>?_) (fun f cdv A outer s H vs Q E hr h=>?_)
 .exact jA fi h
 .have hu:=hr.units;exact⟨_,(ax (eE (bw Bj (tm (pv 0) TC.cl_Family C_Family_many (hr.mono (by decide))) (oj rfl T.g_MOST_SHORTEST_WORDS) (bH _)) (ax nS) bZ)),fnP (K:=K) (c:=aT) (ps:=cW) (N:=["family"]) (eJ (iP (al rM (ac (tE (c0:="Family") (m:="many") (ns0:=["pieces","kept","words","left","laps","total"]) (c:=aW) (by decide +kernel) (am (i:=0)) ae)) (ac (le_int (i:=12))))) oz b9) (fun ds Q h=>Nat.le_trans (le_of_eq (fi ds Q h)) (by decide)) jr h⟩
theorem me:∀ds Q,cC ds Q->ds.length=2:=fun ds Q h=>by unfold cC at h;split at h;(first|rfl|exact h.elim);(first|rfl|exact h.elim)
theorem sI(D:cS K mg "heads_of" jP)(T:Txt mg)(TC:TxC K):Cal P w K mg base 1 "heads_of" ["words","laps"] (spP K cC):=by
 refine D.ok r8 (fun _ _ _ _ _ _ us hl=>match us,hl with|[_,_],_=>rfl) (fun vs H Q E h=>?_) (fun f cdv A outer s H vs Q E hr h=>?_)
 .exact jA me h
 .have hu:=hr.units;exact⟨_,(ax (bi (bO (wi:=(Bn K (bB (bg 0) (bB (bg 1) fB)))) (g:=(zP K 2 (kz (cm 0) (kz (cm 1) Ao)))) (tts:=je) (te:=(og [none,some 0] (iQ K (bg 1)) (cm 0) je (tSl (DB K) (bg 1) nZ (x5 (tOp wy (tCB (lu K) (bB (bg 1) fB)) (bg 0)))))) ["word","row"] [none,none] rfl (wE K rfl rfl T.b_zip (paC (pv 0) (paC (pv 1) ag))) (fun _ _ _ _=>⟨(kd K rfl (n:=2) rfl (cj (aF (i:=0) (by show List.Nodup (["word","row"]:List Str);decide +kernel) rfl (by walk_at "o")) (cj (aF (i:=1) (by show List.Nodup (["word","row"]:List Str);decide +kernel) rfl (by walk_at "o")) gI))),cr,(bO (wi:=(iQ K (bg 1))) (g:=(cm 0)) (tts:=je) (te:=(tSl (DB K) (bg 1) nZ (x5 (tOp wy (tCB (lu K) (bB (bg 1) fB)) (bg 0))))) ["k","word"] [none,some 0] rfl (cH K rfl (pv 1)) (fun _ _ _ _=>⟨(aF (i:=0) (by show List.Nodup (["k","word"]:List Str);decide +kernel) rfl (by walk_at "o")),cr,(bJ (mD K rfl) (pv 1) cK (cp (aE rP (ay (cY K rfl) rfl T.b_len PySem.boot_len (paC (pv 1) ag)) (pv 0))))⟩) (by kernel_rfl))⟩) (by kernel_rfl)))),fnP (K:=K) (c:=cC) (ps:=gg) (N:=["words","laps"]) (bj (wT (bp (ix:=[none,none]) rfl (wG (aa (ac (am (i:=0))) (aa (ac (am (i:=1))) ae))) (fun fs hc=>(iU (ck (aC (i:=0) (gQ hc (by decide))) (ck (aC (i:=1) (gQ hc (by decide))) gN)))) dg (bp (ix:=[none,some 0]) rfl (cI (am (i:=1))) (fun fs hc=>(aC (i:=0) (gQ hc (by decide)))) dg (bK (aj (i:=1)) bM (bC (al ln (ac (bD bI (aa (aj (i:=1)) ae))) (aj (i:=0))))))))) (fun ds Q h=>Nat.le_trans (le_of_eq (me ds Q h)) (by decide)) su h⟩
theorem kq:∀ds Q,bS ds Q->ds.length=1:=fun ds Q h=>by unfold bS at h;split at h;(first|rfl|exact h.elim);(first|rfl|exact h.elim)
theorem re(D:cS K mg "sets_left" iX)(T:Txt mg)(TC:TxC K)(C_members:Cal P w K mg base 1 "members" ["mark"] (spP K cv)):Cal P w K mg base 2 "sets_left" ["many"] (spP K bS):=by
 refine D.ok qE (fun _ _ _ _ _ _ us hl=>match us,hl with|[_],_=>rfl) (fun vs H Q E h=>?_) (fun f cdv A outer s H vs Q E hr h=>?_)
 .exact jA kq h
 .have hu:=hr.units;exact⟨_,(ax (bi (bO (wi:=(nV (bB (tOp DU (tC (V.int 1)) (bg 0)) fB))) (g:=(cm 0)) (tts:=je) (te:=(og [none,some 0] (iQ K (fm (spP K cv) [] E0 (bB (bg 0) fB))) (cm 0) je (CN (bB (bg 0) (bB (tOp wy (bg 1) (tOp DU (tC (V.int 1)) (bg 0))) fB))))) ["mark"] [none] rfl (cR rfl T.b_range (paC (aE yI aq (pv 0)) ag)) (fun _ _ _ _=>⟨(aF (i:=0) (by show List.Nodup (["mark"]:List Str);decide +kernel) rfl (by walk_at "o")),cr,(bO (wi:=(iQ K (fm (spP K cv) [] E0 (bB (bg 0) fB)))) (g:=(cm 0)) (tts:=je) (te:=(CN (bB (bg 0) (bB (tOp wy (bg 1) (tOp DU (tC (V.int 1)) (bg 0))) fB)))) ["i","mark"] [none,some 0] rfl (cH K rfl (aD C_members (hr.mono (by decide)) (paC (pv 0) ag))) (fun _ _ _ _=>⟨(aF (i:=0) (by show List.Nodup (["i","mark"]:List Str);decide +kernel) rfl (by walk_at "o")),cr,(vv (paC (pv 0) (paC (aE rP (pv 1) (aE yI aq (pv 0))) ag)))⟩) (by kernel_rfl))⟩) (by kernel_rfl)))),fnP (K:=K) (c:=bS) (ps:=e8) (N:=["many"]) (bj (wT (bp (ix:=[none]) rfl (kE (aa (ac (al tN (ac le_int) (aj (i:=0)))) ae)) (fun fs hc=>(aC (i:=0) (gQ hc (by decide)))) dg (bp (ix:=[none,some 0]) rfl (cI (aN (c:=cv) (aa (ac (am (i:=0))) ae))) (fun fs hc=>(aC (i:=0) (gQ hc (by decide)))) dg (wk (aa (ac (am (i:=0))) (aa (ac (al ln (aj (i:=1)) (ac (al tN (ac le_int) (aj (i:=0)))))) ae))))))) (fun ds Q h=>Nat.le_trans (le_of_eq (kq ds Q h)) (by decide)) qP h⟩
theorem mf:∀ds Q,cD ds Q->ds.length=3:=fun ds Q h=>by unfold cD at h;split at h;(first|rfl|exact h.elim);(first|rfl|exact h.elim)
theorem sJ(D:cS K mg "all_ends" jQ)(T:Txt mg)(TC:TxC K)(C_foremost:Cal P w K mg base 2 "foremost" ["texts"] (spP K bz)):Cal P w K mg base 3 "all_ends" ["heads","lasts","lefts"] (spP K cD):=by
 refine D.ok ga (fun _ _ _ _ _ _ us hl=>match us,hl with|[_,_,_],_=>rfl) (fun vs H Q E h=>?_) (fun f cdv A outer s H vs Q E hr h=>?_)
 .exact jA mf h
 .have hu:=hr.units;exact⟨_,(ai (aJ (i:=3) ga.nd rfl (by walk_at "o") (dA ag)) (ai (eG PassesOwn.never rfl (cH K rfl (pv 2)) (aF (i:=4) ga.nd rfl (by walk_at "o")) (ai (aJ (i:=5) ga.nd rfl (by walk_at "o") (bO (wi:=(iQ K (bg 4))) (g:=(zP K 2 (kz (cm 0) (kz (cm 1) Ao)))) (tts:=je) (te:=(CN (bB (bg 0) (bB (tOp (m5 K) (tOp (m5 K) (bg 2) (bg 1)) (bg 0)) fB)))) ["j","rest","ends"] [none,none,some 3] rfl (cH K rfl (pv 4)) (fun _ _ _ _=>⟨(kd K rfl (n:=2) rfl (cj (aF (i:=0) (by show List.Nodup (["j","rest","ends"]:List Str);decide +kernel) rfl (by walk_at "o")) (cj (aF (i:=1) (by show List.Nodup (["j","rest","ends"]:List Str);decide +kernel) rfl (by walk_at "o")) gI))),cr,(vv (paC (pv 0) (paC (dH (jg K rfl) (dH (jg K rfl) (pv 2) (pv 1) (fun _ _=>rfl)) (pv 0) (fun _ _=>rfl)) ag)))⟩) (by kernel_rfl))) (ax (fk (eX K rfl PySem.F.plainAttrs_list PySem.F.slot_list_append PySem.F.type_list_append dI (pv 3) (paC (xQ (BJ K rfl (pv 5)) (bO (wi:=(iQ K (bg 0))) (g:=(cm 0)) (tts:=je) (te:=(fm (spP K bz) [] E0 (bB (og [none,none,some 0] (iQ K (bg 1)) (zP K 2 (kz (cm 0) (kz (cm 1) Ao))) je (tOp (mG K) (tOp (m5 K) (bg 2) (bg 0)) (bg 1))) fB))) ["row","nexts"] [none,some 5] rfl (cH K rfl (pv 0)) (fun _ _ _ _=>⟨(aF (i:=0) (by show List.Nodup (["row","nexts"]:List Str);decide +kernel) rfl (by walk_at "o")),cr,(aD C_foremost (hr.mono (by decide)) (paC (bO (wi:=(iQ K (bg 1))) (g:=(zP K 2 (kz (cm 0) (kz (cm 1) Ao)))) (tts:=je) (te:=(tOp (mG K) (tOp (m5 K) (bg 2) (bg 0)) (bg 1))) ["j","end","row"] [none,none,some 0] rfl (cH K rfl (pv 1)) (fun _ _ _ _=>⟨(kd K rfl (n:=2) rfl (cj (aF (i:=0) (by show List.Nodup (["j","end","row"]:List Str);decide +kernel) rfl (by walk_at "o")) (cj (aF (i:=1) (by show List.Nodup (["j","end","row"]:List Str);decide +kernel) rfl (by walk_at "o")) gI))),cr,(aE (ba K rfl) (dH (jg K rfl) (pv 2) (pv 0) (fun _ _=>rfl)) (pv 1))⟩) (by kernel_rfl)) ag))⟩) (by kernel_rfl)) (cu (zJ K rfl) rfl T.b_list boot_list (paC (pv 1) ag))) ag)))))) (ax (bi (pv 3))))),fnP (K:=K) (c:=cD) (ps:=gh) (N:=["heads","lasts","lefts","ends","choices","nexts"]) (au (aG (dB ae) (aA (i:=3) rfl)) (au (eM (cI (am (i:=2))) (aC (i:=4) rfl) (au (aG (bp (ix:=[none,none,some 3]) rfl (cI (am (i:=4))) (fun fs hc=>(iU (ck (aC (i:=0) (gQ hc (by decide))) (ck (aC (i:=1) (gQ hc (by decide))) gN)))) dg (wk (aa (ac (am (i:=0))) (aa (ac (al dJ (ac (al dJ (aj (i:=2)) (aj (i:=1)))) (aj (i:=0)))) ae)))) (aA (i:=5) rfl)) (ft (j8 (i:=3) (E7 (FD (am (i:=5))) (bp (ix:=[none,some 5]) rfl (cI (am (i:=0))) (fun fs hc=>(aC (i:=0) (gQ hc (by decide)))) dg (aN (c:=bz) (aa (ac (bp (ix:=[none,none,some 0]) rfl (cI (am (i:=1))) (fun fs hc=>(iU (ck (aC (i:=0) (gQ hc (by decide))) (ck (aC (i:=1) (gQ hc (by decide))) gN)))) dg (al aL (ac (al dJ (aj (i:=2)) (aj (i:=0)))) (aj (i:=1))))) ae))) (bD wv (aa (aj (i:=1)) ae))))))) (bj (am (i:=3))))) (fun ds Q h=>Nat.le_trans (le_of_eq (mf ds Q h)) (by decide)) sv h⟩
theorem gD:∀ds Q,bc ds Q->ds.length=3:=fun ds Q h=>by unfold bc at h;split at h;(first|rfl|exact h.elim);(first|rfl|exact h.elim)
theorem kM(D:cS K mg "foremost_text" eP)(T:Txt mg)(TC:TxC K)(C_all_ends:Cal P w K mg base 3 "all_ends" ["heads","lasts","lefts"] (spP K cD))(C_foremost:Cal P w K mg base 2 "foremost" ["texts"] (spP K bz))(C_heads_of:Cal P w K mg base 1 "heads_of" ["words","laps"] (spP K cC)):Cal P w K mg base 4 "foremost_text" ["words","laps","lefts"] (spP K bc):=by
 refine D.ok gy (fun _ _ _ _ _ _ us hl=>match us,hl with|[_,_,_],_=>rfl) (fun vs H Q E h=>?_) (fun f cdv A outer s H vs Q E hr h=>?_)
 .exact jA gD h
 .have hu:=hr.units;exact⟨_,(ai (aJ (i:=3) gy.nd rfl (by walk_at "o") (aD C_all_ends (hr.mono (by decide)) (paC (aD C_heads_of (hr.mono (by decide)) (paC (pv 0) (paC (pv 1) ag))) (paC (pv 0) (paC (pv 2) ag))))) (ax (bi (aD C_foremost (hr.mono (by decide)) (paC (Eb K rfl (bO (wi:=(iQ K (tOp (m5 K) (bg 2) (tUn DP (tC (V.int 1)))))) (g:=(zP K 2 (kz (cm 0) (kz (cm 1) Ao)))) (tts:=je) (te:=(tOp (m5 K) (tOp (m5 K) (bg 2) (bg 1)) (bg 0))) ["j","rest","ends"] [none,none,some 3] rfl (cH K rfl (dH (jg K rfl) (pv 2) (pM j6 aq) (fun _ _=>rfl))) (fun _ _ _ _=>⟨(kd K rfl (n:=2) rfl (cj (aF (i:=0) (by show List.Nodup (["j","rest","ends"]:List Str);decide +kernel) rfl (by walk_at "o")) (cj (aF (i:=1) (by show List.Nodup (["j","rest","ends"]:List Str);decide +kernel) rfl (by walk_at "o")) gI))),cr,(dH (jg K rfl) (dH (jg K rfl) (pv 2) (pv 1) (fun _ _=>rfl)) (pv 0) (fun _ _=>rfl))⟩) (by kernel_rfl)) (zn (dA (paC (di (l:=[]) (by decide +kernel)) ag)))) ag))))),fnP (K:=K) (c:=bc) (ps:=du) (N:=["words","laps","lefts","ends"]) (au (aG (aN (c:=cD) (aa (ac (aN (c:=cC) (aa (ac (am (i:=0))) (aa (ac (am (i:=1))) ae)))) (aa (ac (am (i:=0))) (aa (ac (am (i:=2))) ae)))) (aA (i:=3) rfl)) (bj (aN (c:=bz) (aa (ac (Ec (bp (ix:=[none,none,some 3]) rfl (cI (al dJ (aj (i:=2)) (ac (qf j9 (ac le_int))))) (fun fs hc=>(iU (ck (aC (i:=0) (gQ hc (by decide))) (ck (aC (i:=1) (gQ hc (by decide))) gN)))) dg (al dJ (ac (al dJ (aj (i:=2)) (aj (i:=1)))) (aj (i:=0)))) (dB (aa (ac (le_str (l:=[]))) ae)))) ae)))) (fun ds Q h=>Nat.le_trans (le_of_eq (gD ds Q h)) (by decide)) kI h⟩
theorem mh:∀ds Q,aS ds Q->ds.length=1:=fun ds Q h=>by unfold aS at h;split at h;(first|rfl|exact h.elim);(first|rfl|exact h.elim)
theorem sK(D:cS K mg "shortest" jR)(T:Txt mg)(TC:TxC K)(C_Family_many:Do P w K mg base 1 (cJ K "Family") "many" ["self"] (spP K aW))(C_check_few_words:Cal P w K mg base 2 "check_few_words" ["family"] (spP K aT))(C_foremost_text:Cal P w K mg base 4 "foremost_text" ["words","laps","lefts"] (spP K bc))(C_sets_left:Cal P w K mg base 2 "sets_left" ["many"] (spP K bS)):Cal P w K mg base 5 "shortest" ["family"] (spP K aS):=by
 refine D.ok r9 (fun _ _ _ _ _ _ us hl=>match us,hl with|[_],_=>rfl) (fun vs H Q E h=>?_) (fun f cdv A outer s H vs Q E hr h=>?_)
 .exact jA mh h
 .have hu:=hr.units;exact⟨_,(ai (fk (aD C_check_few_words (hr.mono (by decide)) (paC (pv 0) ag))) (ax (bi (aD C_foremost_text (hr.mono (by decide)) (paC (ek K rfl (pv 0) rfl) (paC (ek K rfl (pv 0) rfl) (paC (aD C_sets_left (hr.mono (by decide)) (paC (tm (pv 0) TC.cl_Family C_Family_many (hr.mono (by decide))) ag)) ag))))))),fnP (K:=K) (c:=aS) (ps:=gi) (N:=["family"]) (au (ft (aN (c:=aT) (aa (ac (am (i:=0))) ae))) (bj (aN (c:=bc) (aa (ac (gx (ns0:=["pieces","kept","words","left","laps","total"]) TC.cl_Family TC.n_Family_words (i:=2) (by decide +kernel) (aj (i:=0)))) (aa (ac (gx (ns0:=["pieces","kept","words","left","laps","total"]) TC.cl_Family TC.n_Family_laps (i:=4) (by decide +kernel) (aj (i:=0)))) (aa (ac (aN (c:=bS) (aa (ac (tE (c0:="Family") (m:="many") (ns0:=["pieces","kept","words","left","laps","total"]) (c:=aW) (by decide +kernel) (am (i:=0)) ae)) ae))) ae)))))) (fun ds Q h=>Nat.le_trans (le_of_eq (mh ds Q h)) (by decide)) sw h⟩
theorem Ah:∀ds Q,gB ds Q->ds.length=2:=fun ds Q h=>by unfold gB at h;split at h;(first|rfl|exact h.elim);(first|rfl|exact h.elim)
theorem Er(D:cS K mg "lap" BM)(T:Txt mg)(TC:TxC K):Cal P w K mg base 1 "lap" ["one","other"] (spP K gB):=by
 refine D.ok zZ (fun _ _ _ _ _ _ us hl=>match us,hl with|[_,_],_=>rfl) (fun vs H Q E h=>?_) (fun f cdv A outer s H vs Q E hr h=>?_)
 .exact jA Ah h
 .have hu:=hr.units;exact⟨_,(ai (eG PassesOwn.never rfl (pY rfl T.b_range (paC (aE rP (ay (zH rfl) rfl T.b_min boot_min (paC (ay (cY K rfl) rfl T.b_len PySem.boot_len (paC (pv 0) ag)) (paC (ay (cY K rfl) rfl T.b_len PySem.boot_len (paC (pv 1) ag)) ag))) aq) (paC aq (paC (pM j6 aq) ag)))) (aF (i:=2) zZ.nd rfl (by walk_at "o")) (ax (eE (dM (eX K rfl PySem.F.plainAttrs_str PySem.F.slot_str_endswith PySem.F.type_str_endswith Be (pv 0) (paC (bJ (mD K rfl) (pv 1) cK (cp (pv 2))) ag))) (ax (bi (pv 2))) bZ))) (ax (bi aq))),fnP (K:=K) (c:=gB) (ps:=uf) (N:=["one","other","k"]) (au (eM (DD (aa (ac (al ln (ac (bD wq (aa (ac (bD bI (aa (aj (i:=0)) ae))) (aa (ac (bD bI (aa (aj (i:=1)) ae))) ae)))) (ac le_int))) (aa (ac le_int) (aa (ac (qf j9 (ac le_int))) ae)))) (aC (i:=2) rfl) (eJ (rK (yw Bg (am (i:=0)) (aa (ac (bK (aj (i:=1)) bM (bC (am (i:=2))))) ae))) (bj (am (i:=2))) b9)) (bj le_int)) (fun ds Q h=>Nat.le_trans (le_of_eq (Ah ds Q h)) (by decide)) En h⟩
theorem mj:∀ds Q,cE ds Q->ds.length=1:=fun ds Q h=>by unfold cE at h;split at h;(first|rfl|exact h.elim);(first|rfl|exact h.elim)
theorem sL(D:cS K mg "all_laps" jT)(T:Txt mg)(TC:TxC K)(C_lap:Cal P w K mg base 1 "lap" ["one","other"] (spP K gB)):Cal P w K mg base 2 "all_laps" ["words"] (spP K cE):=by
 refine D.ok sd (fun _ _ _ _ _ _ us hl=>match us,hl with|[_],_=>rfl) (fun vs H Q E h=>?_) (fun f cdv A outer s H vs Q E hr h=>?_)
 .exact jA mj h
 .have hu:=hr.units;exact⟨_,(ax (bi (cu (iR K rfl) rfl T.b_tuple boot_tuple (paC (bO (wi:=(iQ K (bg 0))) (g:=(cm 0)) (tts:=je) (te:=(tCB (Bc K) (bB (og [none,some 0] (iQ K (bg 1)) (cm 0) je (fm (spP K gB) [] E0 (bB (bg 1) (bB (bg 0) fB)))) fB))) ["one","words"] [none,some 0] rfl (cH K rfl (pv 0)) (fun _ _ _ _=>⟨(aF (i:=0) (by show List.Nodup (["one","words"]:List Str);decide +kernel) rfl (by walk_at "o")),cr,(cu (iR K rfl) rfl T.b_tuple boot_tuple (paC (bO (wi:=(iQ K (bg 1))) (g:=(cm 0)) (tts:=je) (te:=(fm (spP K gB) [] E0 (bB (bg 1) (bB (bg 0) fB)))) ["other","one"] [none,some 0] rfl (cH K rfl (pv 1)) (fun _ _ _ _=>⟨(aF (i:=0) (by show List.Nodup (["other","one"]:List Str);decide +kernel) rfl (by walk_at "o")),cr,(aD C_lap (hr.mono (by decide)) (paC (pv 1) (paC (pv 0) ag)))⟩) (by kernel_rfl)) ag))⟩) (by kernel_rfl)) ag)))),fnP (K:=K) (c:=cE) (ps:=gj) (N:=["words"]) (bj (bD fT (aa (ac (bp (ix:=[none,some 0]) rfl (cI (am (i:=0))) (fun fs hc=>(aC (i:=0) (gQ hc (by decide)))) dg (bD fT (aa (ac (bp (ix:=[none,some 0]) rfl (cI (am (i:=1))) (fun fs hc=>(aC (i:=0) (gQ hc (by decide)))) dg (aN (c:=gB) (aa (ac (am (i:=1))) (aa (ac (am (i:=0))) ae))))) ae)))) ae))) (fun ds Q h=>Nat.le_trans (le_of_eq (mj ds Q h)) (by decide)) sx h⟩
theorem nM:∀ds Q,de ds Q->ds.length=3:=fun ds Q h=>by unfold de at h;split at h;(first|rfl|exact h.elim);(first|rfl|exact h.elim)
theorem va(D:sX K mg "is_text" fL [.int 0,.int 4000])(T:Txt mg)(TC:TxC K):Dn P w K mg base 1 "is_text" ["thing","least","most"] [.int 0,.int 4000] (spP K de):=by
 refine D.ok uW (fun dT kV doc pm an cdv ct items us n hi hn hl=>?_) (fun vs H Q E h=>?_) (fun f cdv A outer s H vs Q E hr h=>?_)
 .obtain⟨i0,i1,rfl⟩:∃i0 i1,items=[i0,i1]:=match items,hi with|[i0,i1],_=>⟨i0,i1,rfl⟩
  have hn':n=0\/n=1\/n=2:=by (have:n<=2:=hn);omega
  rcases hn' with rfl|rfl|rfl
  .have hl2:us.length=1:=by (simp at hl;omega)
   match us,hl2 with
   | [_],_=>exact⟨_,rfl,rfl⟩
  .have hl2:us.length=2:=by (simp at hl;omega)
   match us,hl2 with
   | [_,_],_=>exact⟨_,rfl,rfl⟩
  .have hl2:us.length=3:=by (simp at hl;omega)
   match us,hl2 with
   | [_,_,_],_=>exact⟨_,rfl,rfl⟩
 .exact jA nM h
 .have hu:=hr.units;exact⟨_,(ai (eE (PW.pt (uh (iy (dM (ay (A5 K rfl) rfl T.b_isinstance boot_isinstance (paC (pv 0) (paC (rz (v:=.ty "str") rfl T.b_str boot_str rfl) ag))))) (pJ (iy (xT Ez Ez (pv 1) (ay (cY K rfl) rfl T.b_len PySem.boot_len (paC (pv 0) ag)) (pv 2)))))) (ax (bi rp)) bZ) (ax (bi (ay (Fl K rfl rfl) rfl T.b_all boot_all (paC (bO (wi:=(iQ K (bg 0))) (g:=(cm 0)) (tts:=je) (te:=(sR Ey Ey (tC (V.str (S [97]))) (bg 0) (tC (V.str (S [122]))))) ["sign"] [none] rfl (cH K rfl (pv 0)) (fun _ _ _ _=>⟨(aF (i:=0) (by show List.Nodup (["sign"]:List Str);decide +kernel) rfl (by walk_at "o")),cr,(xS Ez Ez (di (l:=[97]) (by decide +kernel)) (pv 0) (di (l:=[122]) (by decide +kernel)))⟩) (by kernel_rfl)) ag))))),fnP (K:=K) (c:=de) (ps:=im) (N:=["thing","least","most"]) (au (eJ (uJ (iB (rK (wn .str (aj (i:=0))))) (iB (iP (tq yt yt (aj (i:=1)) (ac (bD bI (aa (aj (i:=0)) ae))) (aj (i:=2)))))) (bj rJ) b9) (bj (bD DK (aa (ac (bp (ix:=[none]) rfl (cI (am (i:=0))) (fun fs hc=>(aC (i:=0) (gQ hc (by decide)))) dg (tq yt yt (ac (le_str (l:=[97]))) (aj (i:=0)) (ac (le_str (l:=[122])))))) ae)))) (fun ds Q h=>Nat.le_trans (le_of_eq (nM ds Q h)) (by decide)) u5 h⟩
theorem iI:∀ds Q,aV ds Q->ds.length=2:=fun ds Q h=>by unfold aV at h;split at h;(first|rfl|exact h.elim);(first|rfl|exact h.elim)
theorem mP(D:cS K mg "first_place" fW)(T:Txt mg)(TC:TxC K):Cal P w K mg base 1 "first_place" ["text","piece"] (spP K aV):=by
 refine D.ok mH (fun _ _ _ _ _ _ us hl=>match us,hl with|[_,_],_=>rfl) (fun vs H Q E h=>?_) (fun f cdv A outer s H vs Q E hr h=>?_)
 .exact jA iI h
 .have hu:=hr.units;exact⟨_,(ax (bi (eX K rfl PySem.F.plainAttrs_str PySem.F.slot_str_find PySem.F.type_str_find yx (pv 0) (paC (pv 1) ag)))),fnP (K:=K) (c:=aV) (ps:=dZ) (N:=["text","piece"]) (bj (yw yz (am (i:=0)) (aa (aj (i:=1)) ae))) (fun ds Q h=>Nat.le_trans (le_of_eq (iI ds Q h)) (by decide)) mJ h⟩
theorem ib:∀ds Q,bn ds Q->ds.length=1:=fun ds Q h=>by unfold bn at h;split at h;(first|rfl|exact h.elim);(first|rfl|exact h.elim)
theorem ml(D:cS K mg "check_pieces" fz)(T:Txt mg)(TC:TxC K)(C_is_text:Dn P w K mg base 1 "is_text" ["thing","least","most"] [.int 0,.int 4000] (spP K de)):Cal P w K mg base 2 "check_pieces" ["things"] (spP K bn):=by
 refine D.ok eR (fun _ _ _ _ _ _ us hl=>match us,hl with|[_],_=>rfl) (fun vs H Q E h=>?_) (fun f cdv A outer s H vs Q E hr h=>?_)
 .exact jA ib h
 .have hu:=hr.units;exact⟨_,(ai (eE (bw Bj (ay (cY K rfl) rfl T.b_len PySem.boot_len (paC (pv 0) ag)) (oj rfl T.g_MOST_PIECES) (bH _)) (ax nS) bZ) (ax (eG PassesOwn.never rfl (tF K rfl rfl T.b_enumerate (paC (pv 0) ag)) (kd K rfl (n:=2) rfl (cj (aF (i:=1) eR.nd rfl (by walk_at "o")) (cj (aF (i:=2) eR.nd rfl (by walk_at "o")) gI))) (ax (eE (iy (dM (yL 2 C_is_text (hr.mono (by decide)) (by decide) (paC (pv 2) (paC aq (paC (oj rfl T.g_MOST_SIGNS) ag)))))) (ax nS) bZ))))),fnP (K:=K) (c:=bn) (ps:=dN) (N:=["things","at","thing"]) (au (eJ (iP (al rM (ac (bD bI (aa (aj (i:=0)) ae))) (ac (le_int (i:=40))))) oz b9) (eM (wp (aa (ac (am (i:=0))) ae)) (iU (ck (aC (i:=1) rfl) (ck (aC (i:=2) rfl) gN))) (eJ (iB (rK (yA (ds:=[]) (by repeat (first|exact .nil|exact .cons (.int _) .nil|refine .cons (.int _) ?_)) (aa (ac (am (i:=2))) (aa (ac le_int) (aa (ac (le_int (i:=60))) ae)))))) oz b9))) (fun ds Q h=>Nat.le_trans (le_of_eq (ib ds Q h)) (by decide)) lY h⟩
theorem gE:∀ds Q,aI ds Q->ds.length=2:=fun ds Q h=>by unfold aI at h;split at h;(first|rfl|exact h.elim);(first|rfl|exact h.elim)
theorem kN(D:cS K mg "stands_within" eQ)(T:Txt mg)(TC:TxC K)(C_first_place:Cal P w K mg base 1 "first_place" ["text","piece"] (spP K aV)):Cal P w K mg base 2 "stands_within" ["piece","other"] (spP K aI):=by
 refine D.ok kG (fun _ _ _ _ _ _ us hl=>match us,hl with|[_,_],_=>rfl) (fun vs H Q E h=>?_) (fun f cdv A outer s H vs Q E hr h=>?_)
 .exact jA gE h
 .have hu:=hr.units;exact⟨_,(ax (bi (eH GC (aD C_first_place (hr.mono (by decide)) (paC (pv 1) (paC (pv 0) ag))) aq (bH _)))),fnP (K:=K) (c:=aI) (ps:=dw) (N:=["piece","other"]) (bj (al Fc (ac (aN (c:=aV) (aa (ac (am (i:=1))) (aa (ac (am (i:=0))) ae)))) (ac le_int))) (fun ds Q h=>Nat.le_trans (le_of_eq (gE ds Q h)) (by decide)) kK h⟩
theorem nN:∀ds Q,cL ds Q->ds.length=2:=fun ds Q h=>by unfold cL at h;split at h;(first|rfl|exact h.elim);(first|rfl|exact h.elim)
theorem vb(D:cS K mg "is_kept" lH)(T:Txt mg)(TC:TxC K)(C_stands_within:Cal P w K mg base 2 "stands_within" ["piece","other"] (spP K aI)):Cal P w K mg base 3 "is_kept" ["pieces","at"] (spP K cL):=by
 refine D.ok jY (fun _ _ _ _ _ _ us hl=>match us,hl with|[_,_],_=>rfl) (fun vs H Q E h=>?_) (fun f cdv A outer s H vs Q E hr h=>?_)
 .exact jA nN h
 .have hu:=hr.units;exact⟨_,(ai (aJ (i:=2) jY.nd rfl (by walk_at "o") (dH (jg K rfl) (pv 0) (pv 1) (fun _ _=>rfl))) (ai (iO (wi:=(iQ K (bg 0))) (g:=(cm 0)) (tts:=(nW (tOp Fs (tCB (lu K) (bB (bg 0) fB)) (tCB (lu K) (bB (bg 1) fB))))) (te:=(bg 0)) (i:=3) ["other","piece"] [none,some 2] jY.nd rfl (Or.inl rfl) rfl (cH K rfl (pv 0)) (fun _ _ _ _=>⟨(aF (i:=0) (by show List.Nodup (["other","piece"]:List Str);decide +kernel) rfl (by walk_at "o")),(fR (bw Bj (ay (cY K rfl) rfl T.b_len PySem.boot_len (paC (pv 0) ag)) (ay (cY K rfl) rfl T.b_len PySem.boot_len (paC (pv 1) ag)) (bH _))),(pv 0)⟩) (by kernel_rfl)) (ax (bi (Cu (eH (kS K rfl) (pv 2) (bJ (mD K rfl) (pv 0) cK (cp (pv 1))) (by with_unfolding_all rfl)) (zn (Cv (ay (Fm K rfl rfl) rfl T.b_any boot_any (paC (bO (wi:=(iQ K (bg 3))) (g:=(cm 0)) (tts:=je) (te:=(fm (spP K aI) [] E0 (bB (bg 1) (bB (bg 0) fB)))) ["other","piece"] [none,some 2] rfl (cH K rfl (pv 3)) (fun _ _ _ _=>⟨(aF (i:=0) (by show List.Nodup (["other","piece"]:List Str);decide +kernel) rfl (by walk_at "o")),cr,(aD C_stands_within (hr.mono (by decide)) (paC (pv 1) (paC (pv 0) ag)))⟩) (by kernel_rfl)) ag))))))))),fnP (K:=K) (c:=cL) (ps:=io) (N:=["pieces","at","piece","longer"]) (au (aG (al dJ (aj (i:=0)) (aj (i:=1))) (aA (i:=2) rfl)) (au (aG (bp (ix:=[none,some 2]) rfl (cI (am (i:=0))) (fun fs hc=>(aC (i:=0) (gQ hc (by decide)))) (iP (al rM (ac (bD bI (aa (aj (i:=0)) ae))) (ac (bD bI (aa (aj (i:=1)) ae))))) (am (i:=0))) (aA (i:=3) rfl)) (bj (Dt (al qx (aj (i:=2)) (ac (bK (aj (i:=0)) bM (bC (am (i:=1)))))) (Du (bD DL (aa (ac (bp (ix:=[none,some 2]) rfl (cI (am (i:=3))) (fun fs hc=>(aC (i:=0) (gQ hc (by decide)))) dg (aN (c:=aI) (aa (ac (am (i:=1))) (aa (ac (am (i:=0))) ae))))) ae))))))) (fun ds Q h=>Nat.le_trans (le_of_eq (nN ds Q h)) (by decide)) u6 h⟩
theorem mn:∀ds Q,cg ds Q->ds.length=3:=fun ds Q h=>by unfold cg at h;split at h;(first|rfl|exact h.elim);(first|rfl|exact h.elim)
theorem sM(D:cS K mg "left_row" jU)(T:Txt mg)(TC:TxC K)(C_first_place:Cal P w K mg base 1 "first_place" ["text","piece"] (spP K aV))(C_stands_within:Cal P w K mg base 2 "stands_within" ["piece","other"] (spP K aI)):Cal P w K mg base 3 "left_row" ["pieces","kept","at"] (spP K cg):=by
 refine D.ok lJ (fun _ _ _ _ _ _ us hl=>match us,hl with|[_,_,_],_=>rfl) (fun vs H Q E h=>?_) (fun f cdv A outer s H vs Q E hr h=>?_)
 .exact jA mn h
 .have hu:=hr.units;exact⟨_,(ai (aJ (i:=3) lJ.nd rfl (by walk_at "o") (ay (DJ K rfl rfl) rfl T.b_min boot_min (paC (bO (wi:=(iQ K (bg 1))) (g:=(cm 0)) (tts:=(tB (fm (spP K aI) [] E0 (bB (tOp (m5 K) (bg 1) (bg 2)) (bB (tOp (m5 K) (bg 1) (bg 0)) fB))))) (te:=(bg 0)) ["one","pieces","at"] [none,some 0,some 2] rfl (cH K rfl (pv 1)) (fun _ _ _ _=>⟨(aF (i:=0) (by show List.Nodup (["one","pieces","at"]:List Str);decide +kernel) rfl (by walk_at "o")),(fR (dM (aD C_stands_within (hr.mono (by decide)) (paC (dH (jg K rfl) (pv 1) (pv 2) (fun _ _=>rfl)) (paC (dH (jg K rfl) (pv 1) (pv 0) (fun _ _=>rfl)) ag))))),(pv 0)⟩) (by kernel_rfl)) ag))) (ax (bi (vv (paC (pv 2) (paC (pv 3) (paC (aD C_first_place (hr.mono (by decide)) (paC (dH (jg K rfl) (pv 0) (pv 3) (fun _ _=>rfl)) (paC (dH (jg K rfl) (pv 0) (pv 2) (fun _ _=>rfl)) ag))) ag))))))),fnP (K:=K) (c:=cg) (ps:=gk) (N:=["pieces","kept","at","holder"]) (au (aG (bD Bb (aa (ac (bp (ix:=[none,some 0,some 2]) rfl (cI (am (i:=1))) (fun fs hc=>(aC (i:=0) (gQ hc (by decide)))) (rK (aN (c:=aI) (aa (ac (al dJ (aj (i:=1)) (aj (i:=2)))) (aa (ac (al dJ (aj (i:=1)) (aj (i:=0)))) ae)))) (am (i:=0)))) ae)) (aA (i:=3) rfl)) (bj (wk (aa (ac (am (i:=2))) (aa (ac (am (i:=3))) (aa (ac (aN (c:=aV) (aa (ac (al dJ (aj (i:=0)) (aj (i:=3)))) (aa (ac (al dJ (aj (i:=0)) (aj (i:=2)))) ae)))) ae)))))) (fun ds Q h=>Nat.le_trans (le_of_eq (mn ds Q h)) (by decide)) sB h⟩
theorem iJ:∀p ds Q,aO p ds Q->ds.length+1=2:=fun p ds Q h=>by unfold aO at h;split at h;(first|rfl|exact h.elim);(first|rfl|exact h.elim)
theorem mQ(D:sZ K mg (cJ K "Family") "Family" "Family.__init__" cO)(T:Txt mg)(TC:TxC K)(C_all_laps:Cal P w K mg base 2 "all_laps" ["words"] (spP K cE))(C_check_pieces:Cal P w K mg base 2 "check_pieces" ["things"] (spP K bn))(C_is_kept:Cal P w K mg base 3 "is_kept" ["pieces","at"] (spP K cL))(C_left_row:Cal P w K mg base 3 "left_row" ["pieces","kept","at"] (spP K cg)):AT P w K mg base 4 (cJ K "Family") "Family" ["self","pieces"] (spR K aO):=by
 refine D.ok iC (fun _ _ _ _ _ _ us hl=>match us,hl with|[_,_],_=>rfl) (fun vs H Q E h=>?_) (fun f cdv A outer s H vs Q E hr h=>?_)
 .exact Bk iJ h
 .have hu:=hr.units;exact⟨_,(ai (fk (aD C_check_pieces (hr.mono (by decide)) (paC (pv 1) ag))) (ai (mW (pv 0) (cu (iR K rfl) rfl T.b_tuple boot_tuple (paC (pv 1) ag)) rfl) (ai (aJ (i:=2) iC.nd rfl (by walk_at "o") (cu (zK K rfl rfl) rfl T.b_list boot_list (paC (p8 rfl T.b_range (paC (ay (cY K rfl) rfl T.b_len PySem.boot_len (paC (ek K rfl (pv 0) rfl) ag)) ag)) ag))) (ai (mW (pv 0) (cu (iR K rfl) rfl T.b_tuple boot_tuple (paC (bO (wi:=(iQ K (bg 2))) (g:=(cm 0)) (tts:=(tB (fm (spP K cL) [] E0 (bB (xG K (bg 1) "pieces") (bB (bg 0) fB))))) (te:=(bg 0)) ["at","self"] [none,some 0] rfl (cH K rfl (pv 2)) (fun _ _ _ _=>⟨(aF (i:=0) (by show List.Nodup (["at","self"]:List Str);decide +kernel) rfl (by walk_at "o")),(fR (dM (aD C_is_kept (hr.mono (by decide)) (paC (ek K rfl (pv 1) rfl) (paC (pv 0) ag))))),(pv 0)⟩) (by kernel_rfl)) ag)) rfl) (ai (mW (pv 0) (cu (iR K rfl) rfl T.b_tuple boot_tuple (paC (bO (wi:=(iQ K (xG K (bg 0) "kept"))) (g:=(cm 0)) (tts:=je) (te:=(tOp (m5 K) (xG K (bg 1) "pieces") (bg 0))) ["at","self"] [none,some 0] rfl (cH K rfl (ek K rfl (pv 0) rfl)) (fun _ _ _ _=>⟨(aF (i:=0) (by show List.Nodup (["at","self"]:List Str);decide +kernel) rfl (by walk_at "o")),cr,(dH (jg K rfl) (ek K rfl (pv 1) rfl) (pv 0) (fun _ _=>rfl))⟩) (by kernel_rfl)) ag)) rfl) (ai (mW (pv 0) (cu (iR K rfl) rfl T.b_tuple boot_tuple (paC (bO (wi:=(iQ K (bg 2))) (g:=(cm 0)) (tts:=(nW (tOp (Ce K true) (bg 0) (xG K (bg 1) "kept")))) (te:=(fm (spP K cg) [] E0 (bB (xG K (bg 1) "pieces") (bB (xG K (bg 1) "kept") (bB (bg 0) fB))))) ["at","self"] [none,some 0] rfl (cH K rfl (pv 2)) (fun _ _ _ _=>⟨(aF (i:=0) (by show List.Nodup (["at","self"]:List Str);decide +kernel) rfl (by walk_at "o")),(fR (bw (kS K rfl) (pv 0) (ek K rfl (pv 1) rfl) (by with_unfolding_all rfl))),(aD C_left_row (hr.mono (by decide)) (paC (ek K rfl (pv 1) rfl) (paC (ek K rfl (pv 1) rfl) (paC (pv 0) ag))))⟩) (by kernel_rfl)) ag)) rfl) (ai (mW (pv 0) (aD C_all_laps (hr.mono (by decide)) (paC (ek K rfl (pv 0) rfl) ag)) rfl) (ax (mW (pv 0) (ay (zI K rfl rfl) rfl T.b_sum boot_sum (paC (bO (wi:=(iQ K (xG K (bg 0) "words"))) (g:=(cm 0)) (tts:=je) (te:=(tCB (lu K) (bB (bg 0) fB))) ["word"] [none] rfl (cH K rfl (ek K rfl (pv 0) rfl)) (fun _ _ _ _=>⟨(aF (i:=0) (by show List.Nodup (["word"]:List Str);decide +kernel) rfl (by walk_at "o")),cr,(ay (cY K rfl) rfl T.b_len PySem.boot_len (paC (pv 0) ag))⟩) (by kernel_rfl)) ag)) rfl))))))))),fnR (K:=K) (c:=aO) (ps:=d0) (N:=["self","pieces","indexes"]) (au (ft (aN (c:=bn) (aa (ac (am (i:=1))) ae))) (au (jD (c0:="Family") (ns0:=[]) (i:=0) TC.cl_Family TC.n_Family_pieces (by decide +kernel) (bD fT (aa (aj (i:=1)) ae))) (au (aG (tw false (aa (ac (bD bI (aa (ac (gx (ns0:=["pieces"]) TC.cl_Family TC.n_Family_pieces (i:=0) (by decide +kernel) (aj (i:=0)))) ae))) ae)) (aA (i:=2) rfl)) (au (jD (c0:="Family") (ns0:=["pieces"]) (i:=0) TC.cl_Family TC.n_Family_kept (by decide +kernel) (bD fT (aa (ac (bp (ix:=[none,some 0]) rfl (cI (am (i:=2))) (fun fs hc=>(aC (i:=0) (gQ hc (by decide)))) (rK (aN (c:=cL) (aa (ac (gx (ns0:=["pieces"]) TC.cl_Family TC.n_Family_pieces (i:=0) (by decide +kernel) (aj (i:=1)))) (aa (ac (am (i:=0))) ae)))) (am (i:=0)))) ae))) (au (jD (c0:="Family") (ns0:=["pieces","kept"]) (i:=0) TC.cl_Family TC.n_Family_words (by decide +kernel) (bD fT (aa (ac (bp (ix:=[none,some 0]) rfl (cI (gx (ns0:=["pieces","kept"]) TC.cl_Family TC.n_Family_kept (i:=1) (by decide +kernel) (aj (i:=0)))) (fun fs hc=>(aC (i:=0) (gQ hc (by decide)))) dg (al dJ (ac (gx (ns0:=["pieces","kept"]) TC.cl_Family TC.n_Family_pieces (i:=0) (by decide +kernel) (aj (i:=1)))) (aj (i:=0))))) ae))) (au (jD (c0:="Family") (ns0:=["pieces","kept","words"]) (i:=0) TC.cl_Family TC.n_Family_left (by decide +kernel) (bD fT (aa (ac (bp (ix:=[none,some 0]) rfl (cI (am (i:=2))) (fun fs hc=>(aC (i:=0) (gQ hc (by decide)))) (iP (al qx (aj (i:=0)) (ac (gx (ns0:=["pieces","kept","words"]) TC.cl_Family TC.n_Family_kept (i:=1) (by decide +kernel) (aj (i:=1)))))) (aN (c:=cg) (aa (ac (gx (ns0:=["pieces","kept","words"]) TC.cl_Family TC.n_Family_pieces (i:=0) (by decide +kernel) (aj (i:=1)))) (aa (ac (gx (ns0:=["pieces","kept","words"]) TC.cl_Family TC.n_Family_kept (i:=1) (by decide +kernel) (aj (i:=1)))) (aa (ac (am (i:=0))) ae)))))) ae))) (au (jD (c0:="Family") (ns0:=["pieces","kept","words","left"]) (i:=0) TC.cl_Family TC.n_Family_laps (by decide +kernel) (aN (c:=cE) (aa (ac (gx (ns0:=["pieces","kept","words","left"]) TC.cl_Family TC.n_Family_words (i:=2) (by decide +kernel) (aj (i:=0)))) ae))) (jD (c0:="Family") (ns0:=["pieces","kept","words","left","laps"]) (i:=0) TC.cl_Family TC.n_Family_total (by decide +kernel) (bD wt (aa (ac (bp (ix:=[none]) rfl (cI (gx (ns0:=["pieces","kept","words","left","laps"]) TC.cl_Family TC.n_Family_words (i:=2) (by decide +kernel) (aj (i:=0)))) (fun fs hc=>(aC (i:=0) (gQ hc (by decide)))) dg (bD bI (aa (aj (i:=0)) ae)))) ae)))))))))) (fun p ds Q h=>Nat.le_trans (le_of_eq (iJ p ds Q h)) (by decide)) mK h⟩
theorem iK:∀ds Q,aW ds Q->ds.length=1:=fun ds Q h=>by unfold aW at h;split at h;(first|rfl|exact h.elim);(first|rfl|exact h.elim)
theorem mR(D:sY K (cJ K "Family") "many" "Family.many" cP)(T:Txt mg)(TC:TxC K):Do P w K mg base 1 (cJ K "Family") "many" ["self"] (spP K aW):=by
 refine D.ok mI (fun _ _ _ _ _ _ us hl=>match us,hl with|[_],_=>rfl) (fun vs H Q E h=>?_) (fun f cdv A outer s H vs Q E hr h=>?_)
 .exact jA iK h
 .have hu:=hr.units;exact⟨_,(ax (bi (ay (cY K rfl) rfl T.b_len PySem.boot_len (paC (ek K rfl (pv 0) rfl) ag)))),fnP (K:=K) (c:=aW) (ps:=d5) (N:=["self"]) (bj (bD bI (aa (ac (gx (ns0:=["pieces","kept","words","left","laps","total"]) TC.cl_Family TC.n_Family_words (i:=2) (by decide +kernel) (aj (i:=0)))) ae))) (fun ds Q h=>Nat.le_trans (le_of_eq (iK ds Q h)) (by decide)) mL h⟩
theorem kr:∀ds Q,bT ds Q->ds.length=2:=fun ds Q h=>by unfold bT at h;split at h;(first|rfl|exact h.elim);(first|rfl|exact h.elim)
theorem rf(D:cS K mg "_law_mixed" iY)(T:Txt mg)(TC:TxC K):Cal P w K mg base 1 "_law_mixed" ["_law_cell","_law_k"] (spP K bT):=by
 refine D.ok eh (fun _ _ _ _ _ _ us hl=>match us,hl with|[_,_],_=>rfl) (fun vs H Q E h=>?_) (fun f cdv A outer s H vs Q E hr h=>?_)
 .exact jA kr h
 .have hu:=hr.units;exact⟨_,(ai (aJ (i:=2) eh.nd rfl (by walk_at "o") (aE (ba K rfl) (aE (ba K rfl) (aE (ba K rfl) (aE cT (pv 0) aq) (aE gM (aE gM (pv 1) (pv 1)) aq)) (aE gM (pv 1) aq)) aq)) (ai (aJ (i:=2) eh.nd rfl (by walk_at "o") (aE cT (pv 2) aq)) (ai (aJ (i:=2) eh.nd rfl (by walk_at "o") (aE cT (aE gM (pv 2) (pv 2)) aq)) (ai (aJ (i:=2) eh.nd rfl (by walk_at "o") (aE cT (aE gM (aE (ba K rfl) (aE (ba K rfl) (pv 2) (aE gM (pv 1) aq)) aq) aq) aq)) (ax (bi (aE qi (aE cT (aE gM (pv 2) (pv 2)) aq) aq))))))),fnP (K:=K) (c:=bT) (ps:=e9) (N:=["_law_cell","_law_k","_law_number"]) (au (aG (al aL (ac (al aL (ac (al aL (ac (al bE (aj (i:=0)) (ac le_int))) (ac (al ef (ac (al ef (aj (i:=1)) (aj (i:=1)))) (ac le_int))))) (ac (al ef (aj (i:=1)) (ac le_int))))) (ac le_int)) (aA (i:=2) rfl)) (au (aG (al bE (aj (i:=2)) (ac le_int)) (aA (i:=2) rfl)) (au (aG (al bE (ac (al ef (aj (i:=2)) (aj (i:=2)))) (ac le_int)) (aA (i:=2) rfl)) (au (aG (al bE (ac (al ef (ac (al aL (ac (al aL (aj (i:=2)) (ac (al ef (aj (i:=1)) (ac le_int))))) (ac le_int))) (ac le_int))) (ac le_int)) (aA (i:=2) rfl)) (bj (al lr (ac (al bE (ac (al ef (aj (i:=2)) (aj (i:=2)))) (ac le_int))) (ac le_int))))))) (fun ds Q h=>Nat.le_trans (le_of_eq (kr ds Q h)) (by decide)) qU h⟩
theorem mq:∀ds Q,cF ds Q->ds.length=2:=fun ds Q h=>by unfold cF at h;split at h;(first|rfl|exact h.elim);(first|rfl|exact h.elim)
theorem sN(D:cS K mg "_law_deck" jV)(T:Txt mg)(TC:TxC K)(C_law_mixed:Cal P w K mg base 1 "_law_mixed" ["_law_cell","_law_k"] (spP K bT)):Cal P w K mg base 2 "_law_deck" ["_law_script","_law_many"] (spP K cF):=by
 refine D.ok cQ (fun _ _ _ _ _ _ us hl=>match us,hl with|[_,_],_=>rfl) (fun vs H Q E h=>?_) (fun f cdv A outer s H vs Q E hr h=>?_)
 .exact jA mq h
 .have hu:=hr.units;exact⟨_,(ai (aJ (i:=2) cQ.nd rfl (by walk_at "o") (aE (ba K rfl) (cu (zJ K rfl) rfl T.b_list boot_list (paC (pv 0) ag)) (dA (paC (ay (cY K rfl) rfl T.b_len PySem.boot_len (paC (pv 0) ag)) ag)))) (ai (aJ (i:=3) cQ.nd rfl (by walk_at "o") (dA ag)) (ai (aJ (i:=4) cQ.nd rfl (by walk_at "o") aq) (ai (nU PassesOwn.never (bw A1 (ay (cY K rfl) rfl T.b_len PySem.boot_len (paC (pv 3) ag)) (pv 1) (bH _)) (ai (eG PassesOwn.never rfl (cH K rfl (pv 2)) (aF (i:=5) cQ.nd rfl (by walk_at "o")) (ai (aJ (i:=6) cQ.nd rfl (by walk_at "o") (pv 5)) (ai (lj (eE (PW.pt (uh (bw Bj (pv 4) aq (bH _)) (pJ (bw A1 (pv 5) (aE Ft aq aq) (bH _))))) (ai (fk (eX K rfl PySem.F.plainAttrs_list PySem.F.slot_list_append PySem.F.type_list_append dI (pv 3) (paC (aE cT (aD C_law_mixed (hr.mono (by decide)) (paC (pv 5) (paC (aE (ba K rfl) (ay (cY K rfl) rfl T.b_len PySem.boot_len (paC (pv 3) ag)) aq) ag))) aq) ag))) (ax (aJ (i:=6) cQ.nd rfl (by walk_at "o") aq))) bZ)) (ax (nU PassesOwn.never (PW.pt (pK (bw Bj (pv 6) aq (bH _)) (kX (bw A1 (ay (cY K rfl) rfl T.b_len PySem.boot_len (paC (pv 3) ag)) (pv 1) (bH _))))) (ai (fk (eX K rfl PySem.F.plainAttrs_list PySem.F.slot_list_append PySem.F.type_list_append dI (pv 3) (paC (aE cT (pv 6) aq) ag))) (ax (aJ (i:=6) cQ.nd rfl (by walk_at "o") (aE qi (pv 6) aq))))))))) (ax (aJ (i:=4) cQ.nd rfl (by walk_at "o") (aE (ba K rfl) (pv 4) aq))))) (ax (bi (rO K rfl rfl (bJ (mD K rfl) (pv 3) cK (cp (pv 1))) rfl T.b_list rfl T.b_reversed))))))),fnP (K:=K) (c:=cF) (ps:=gm) (N:=["_law_script","_law_many","_law_cells","_law_found","_law_turn","_law_cell","_law_rest"]) (au (aG (al aL (ac (bD wv (aa (aj (i:=0)) ae))) (ac (dB (aa (ac (bD bI (aa (aj (i:=0)) ae))) ae)))) (aA (i:=2) rfl)) (au (aG (dB ae) (aA (i:=3) rfl)) (au (aG le_int (aA (i:=4) rfl)) (au (oB (iP (al rL (ac (bD bI (aa (aj (i:=3)) ae))) (aj (i:=1)))) (au (eM (cI (am (i:=2))) (aC (i:=5) rfl) (au (aG (am (i:=5)) (aA (i:=6) rfl)) (au (lv (eJ (uJ (iP (al rM (aj (i:=4)) (ac le_int))) (iP (al rL (aj (i:=5)) (ac (al Dw (ac le_int) (ac le_int)))))) (au (ft (j8 (i:=3) (al bE (ac (aN (c:=bT) (aa (ac (am (i:=5))) (aa (ac (al aL (ac (bD bI (aa (aj (i:=3)) ae))) (ac le_int))) ae)))) (ac le_int)))) (aG le_int (aA (i:=6) rfl))) b9)) (oB (qg (iP (al rM (aj (i:=6)) (ac le_int))) (iP (al rL (ac (bD bI (aa (aj (i:=3)) ae))) (aj (i:=1))))) (au (ft (j8 (i:=3) (al bE (aj (i:=6)) (ac le_int)))) (aG (al lr (aj (i:=6)) (ac le_int)) (aA (i:=6) rfl))))))) (aG (al aL (aj (i:=4)) (ac le_int)) (aA (i:=4) rfl)))) (bj (uM (ac (bK (aj (i:=3)) bM (bC (am (i:=1))))))))))) (fun ds Q h=>Nat.le_trans (le_of_eq (mq ds Q h)) (by decide)) sC h⟩
theorem mr:∀p ds Q,aB p ds Q->ds.length+1=1:=fun p ds Q h=>by unfold aB at h;split at h;(first|rfl|exact h.elim);(first|rfl|exact h.elim)
theorem sO(D:cS K mg "_law_next" jW)(T:Txt mg)(TC:TxC K):Cal P w K mg base 1 "_law_next" ["_law_deck_here"] (spR K aB):=by
 refine D.ok se (fun _ _ _ _ _ _ us hl=>match us,hl with|[_],_=>rfl) (fun vs H Q E h=>?_) (fun f cdv A outer s H vs Q E hr h=>?_)
 .exact Bk mr h
 .have hu:=hr.units;exact⟨_,(ax (bi (zy PySem.F.plainAttrs_list PySem.F.slot_list_pop PySem.F.type_list_pop CY (pv 0)))),fnR (K:=K) (c:=aB) (ps:=gn) (N:=["_law_deck_here"]) (bj (DF (i:=0))) (fun p ds Q h=>Nat.le_trans (le_of_eq (mr p ds Q h)) (by decide)) sD h⟩
theorem kt:∀p ds Q,bt p ds Q->ds.length+1=3:=fun p ds Q h=>by unfold bt at h;split at h;(first|rfl|exact h.elim);(first|rfl|exact h.elim)
theorem rg(D:cS K mg "_law_signs" iZ)(T:Txt mg)(TC:TxC K)(C_law_next:Cal P w K mg base 1 "_law_next" ["_law_deck_here"] (spR K aB)):Cal P w K mg base 2 "_law_signs" ["_law_deck_here","_law_letters","_law_many"] (spR K bt):=by
 refine D.ok eZ (fun _ _ _ _ _ _ us hl=>match us,hl with|[_,_,_],_=>rfl) (fun vs H Q E h=>?_) (fun f cdv A outer s H vs Q E hr h=>?_)
 .exact Bk kt h
 .have hu:=hr.units;exact⟨_,(ai (aJ (i:=3) eZ.nd rfl (by walk_at "o") (di (l:=[]) (by decide +kernel))) (ai (eG PassesOwn.never rfl (cR rfl T.b_range (paC (pv 2) ag)) (aF (i:=4) eZ.nd rfl (by walk_at "o")) (ax (aJ (i:=3) eZ.nd rfl (by walk_at "o") (aE (ba K rfl) (pv 3) (dH (jg K rfl) (pv 1) (aE cT (aD C_law_next (hr.mono (by decide)) (paC (pv 0) ag)) (ay (cY K rfl) rfl T.b_len PySem.boot_len (paC (pv 1) ag))) (fun _ _=>rfl)))))) (ax (bi (pv 3))))),fnR (K:=K) (c:=bt) (ps:=fb) (N:=["_law_deck_here","_law_letters","_law_many","_law_found","_law_k"]) (au (aG (le_str (l:=[])) (aA (i:=3) rfl)) (au (eM (kE (aa (ac (am (i:=2))) ae)) (aC (i:=4) rfl) (aG (al aL (aj (i:=3)) (ac (al dJ (aj (i:=1)) (ac (al bE (ac (aU (i:=0) ae)) (ac (bD bI (aa (aj (i:=1)) ae)))))))) (aA (i:=3) rfl))) (bj (am (i:=3))))) (fun p ds Q h=>Nat.le_trans (le_of_eq (kt p ds Q h)) (by decide)) qX h⟩
theorem jv:∀p ds Q,bQ p ds Q->ds.length+1=2:=fun p ds Q h=>by unfold bQ at h;split at h;(first|rfl|exact h.elim);(first|rfl|exact h.elim)
theorem pG(D:cS K mg "_law_pieces" gX)(T:Txt mg)(TC:TxC K)(C_law_next:Cal P w K mg base 1 "_law_next" ["_law_deck_here"] (spR K aB))(C_law_signs:Cal P w K mg base 2 "_law_signs" ["_law_deck_here","_law_letters","_law_many"] (spR K bt)):Cal P w K mg base 3 "_law_pieces" ["_law_deck_here","_law_most"] (spR K bQ):=by
 refine D.ok bd (fun _ _ _ _ _ _ us hl=>match us,hl with|[_,_],_=>rfl) (fun vs H Q E h=>?_) (fun f cdv A outer s H vs Q E hr h=>?_)
 .exact Bk jv h
 .have hu:=hr.units;exact⟨_,(ai (aJ (i:=2) bd.nd rfl (by walk_at "o") (aE cT (aD C_law_next (hr.mono (by decide)) (paC (pv 0) ag)) aq)) (ai (aJ (i:=3) bd.nd rfl (by walk_at "o") (dH (jg K rfl) (dA (paC aq (paC aq (paC aq (paC aq ag))))) (aE cT (aD C_law_next (hr.mono (by decide)) (paC (pv 0) ag)) aq) (fun _ _=>rfl))) (ai (iO (wi:=(nV (bB (bg 3) fB))) (g:=(cm 0)) (tts:=je) (te:=(tOp (m5 K) (tC (V.str (S [97,98,99,100,101,102,103,104,105,106,107,108,109,110,111,112,113,114,115,116,117,118,119,120,121,122]))) (tOp Bh (tOp (mG K) (bg 1) (tOp yr (tC (V.int 7)) (bg 0))) (tC (V.int 26))))) (i:=4) ["_law_k","_law_first_here"] [none,some 2] bd.nd rfl (Or.inl rfl) rfl (cR rfl T.b_range (paC (pv 3) ag)) (fun _ _ _ _=>⟨(aF (i:=0) (by show List.Nodup (["_law_k","_law_first_here"]:List Str);decide +kernel) rfl (by walk_at "o")),cr,(dH (jg K rfl) (di (l:=[97,98,99,100,101,102,103,104,105,106,107,108,109,110,111,112,113,114,115,116,117,118,119,120,121,122]) (by decide +kernel)) (aE cT (aE (ba K rfl) (pv 1) (aE gM aq (pv 0))) aq) (fun _ _=>rfl))⟩) (by kernel_rfl)) (ai (aJ (i:=5) bd.nd rfl (by walk_at "o") (aE cT (aD C_law_next (hr.mono (by decide)) (paC (pv 0) ag)) aq)) (ai (aJ (i:=6) bd.nd rfl (by walk_at "o") (aE (ba K rfl) aq (aE cT (aD C_law_next (hr.mono (by decide)) (paC (pv 0) ag)) aq))) (ai (aJ (i:=7) bd.nd rfl (by walk_at "o") (aE gM (aD C_law_signs (hr.mono (by decide)) (paC (pv 0) (paC (pv 4) (paC (aE (ba K rfl) aq (aE cT (aD C_law_next (hr.mono (by decide)) (paC (pv 0) ag)) aq)) ag)))) aq)) (ai (aJ (i:=8) bd.nd rfl (by walk_at "o") (dA ag)) (ai (eG PassesOwn.never rfl (cR rfl T.b_range (paC (aE cT (aD C_law_next (hr.mono (by decide)) (paC (pv 0) ag)) (aE (ba K rfl) (pv 1) aq)) ag)) (aF (i:=9) bd.nd rfl (by walk_at "o")) (ai (aJ (i:=10) bd.nd rfl (by walk_at "o") (aD C_law_next (hr.mono (by decide)) (paC (pv 0) ag))) (ai (aJ (i:=11) bd.nd rfl (by walk_at "o") (bJ (mD K rfl) (pv 7) (cp (aE cT (pv 10) aq)) (cp (aE (ba K rfl) (aE (ba K rfl) (aE cT (pv 10) aq) (pv 6)) (aE qi (aE cT (aE qi (pv 10) aq) aq) aq))))) (ai (lj (eE (bw (jF K rfl hu) (pv 5) aq (bH _)) (ax (aJ (i:=11) bd.nd rfl (by walk_at "o") (aD C_law_signs (hr.mono (by decide)) (paC (pv 0) (paC (pv 4) (paC (aE (ba K rfl) aq (aE cT (pv 10) aq)) ag)))))) bZ)) (ai (lj (eE (bw (jF K rfl hu) (pv 5) aq (bH _)) (ax (aJ (i:=11) bd.nd rfl (by walk_at "o") (aE (ba K rfl) (aE (ba K rfl) (aE gM (dH (jg K rfl) (pv 4) aq (fun _ _=>rfl)) (aE cT (pv 10) aq)) (dH (jg K rfl) (pv 4) aq (fun _ _=>rfl))) (aE gM (dH (jg K rfl) (pv 4) aq (fun _ _=>rfl)) (aE cT (aE qi (pv 10) aq) aq))))) bZ)) (ax (fk (eX K rfl PySem.F.plainAttrs_list PySem.F.slot_list_append PySem.F.type_list_append dI (pv 8) (paC (pv 11) ag))))))))) (ax (bi (pv 8))))))))))),fnR (K:=K) (c:=bQ) (ps:=eA) (N:=["_law_deck_here","_law_most","_law_first_here","_law_many","_law_letters","_law_sort","_law_long","_law_text","_law_pieces_here","_law_k","_law_at","_law_piece"]) (au (aG (al bE (ac (aU (i:=0) ae)) (ac le_int)) (aA (i:=2) rfl)) (au (aG (al dJ (ac (dB (aa (ac le_int) (aa (ac le_int) (aa (ac le_int) (aa (ac le_int) ae)))))) (ac (al bE (ac (aU (i:=0) ae)) (ac le_int)))) (aA (i:=3) rfl)) (au (aG (bp (ix:=[none,some 2]) rfl (kE (aa (ac (am (i:=3))) ae)) (fun fs hc=>(aC (i:=0) (gQ hc (by decide)))) dg (al dJ (ac (le_str (l:=[97,98,99,100,101,102,103,104,105,106,107,108,109,110,111,112,113,114,115,116,117,118,119,120,121,122]))) (ac (al bE (ac (al aL (aj (i:=1)) (ac (al ef (ac le_int) (aj (i:=0)))))) (ac le_int))))) (aA (i:=4) rfl)) (au (aG (al bE (ac (aU (i:=0) ae)) (ac le_int)) (aA (i:=5) rfl)) (au (aG (al aL (ac le_int) (ac (al bE (ac (aU (i:=0) ae)) (ac le_int)))) (aA (i:=6) rfl)) (au (aG (al ef (ac (aU (i:=0) (aa (ac (am (i:=4))) (aa (ac (al aL (ac le_int) (ac (al bE (ac (aU (i:=0) ae)) (ac le_int))))) ae)))) (ac le_int)) (aA (i:=7) rfl)) (au (aG (dB ae) (aA (i:=8) rfl)) (au (eM (kE (aa (ac (al bE (ac (aU (i:=0) ae)) (ac (al aL (aj (i:=1)) (ac le_int))))) ae)) (aC (i:=9) rfl) (au (aG (aU (i:=0) ae) (aA (i:=10) rfl)) (au (aG (bK (aj (i:=7)) (bC (al bE (aj (i:=10)) (ac le_int))) (bC (al aL (ac (al aL (ac (al bE (aj (i:=10)) (ac le_int))) (aj (i:=6)))) (ac (al lr (ac (al bE (ac (al lr (aj (i:=10)) (ac le_int))) (ac le_int))) (ac le_int)))))) (aA (i:=11) rfl)) (au (lv (eJ (iP (al fK (aj (i:=5)) (ac le_int))) (aG (aU (i:=0) (aa (ac (am (i:=4))) (aa (ac (al aL (ac le_int) (ac (al bE (aj (i:=10)) (ac le_int))))) ae))) (aA (i:=11) rfl)) b9)) (au (lv (eJ (iP (al fK (aj (i:=5)) (ac le_int))) (aG (al aL (ac (al aL (ac (al ef (ac (al dJ (aj (i:=4)) (ac le_int))) (ac (al bE (aj (i:=10)) (ac le_int))))) (ac (al dJ (aj (i:=4)) (ac le_int))))) (ac (al ef (ac (al dJ (aj (i:=4)) (ac le_int))) (ac (al bE (ac (al lr (aj (i:=10)) (ac le_int))) (ac le_int)))))) (aA (i:=11) rfl)) b9)) (ft (j8 (i:=8) (am (i:=11))))))))) (bj (am (i:=8))))))))))) (fun p ds Q h=>Nat.le_trans (le_of_eq (jv p ds Q h)) (by decide)) px h⟩
theorem ku:∀ds Q,bU ds Q->ds.length=1:=fun ds Q h=>by unfold bU at h;split at h;(first|rfl|exact h.elim);(first|rfl|exact h.elim)
theorem rh(D:cS K mg "_law_words" i3)(T:Txt mg)(TC:TxC K):Cal P w K mg base 1 "_law_words" ["_law_pieces_here"] (spP K bU):=by
 refine D.ok ei (fun _ _ _ _ _ _ us hl=>match us,hl with|[_],_=>rfl) (fun vs H Q E h=>?_) (fun f cdv A outer s H vs Q E hr h=>?_)
 .exact jA ku h
 .have hu:=hr.units;exact⟨_,(ai (aJ (i:=1) ei.nd rfl (by walk_at "o") (dA ag)) (ai (eG PassesOwn.never rfl (tF K rfl rfl T.b_enumerate (paC (pv 0) ag)) (kd K rfl (n:=2) rfl (cj (aF (i:=2) ei.nd rfl (by walk_at "o")) (cj (aF (i:=3) ei.nd rfl (by walk_at "o")) gI))) (ai (iO (wi:=(iQ K (bg 0))) (g:=(cm 0)) (tts:=(EE (nW (tOp Fs (tCB (lu K) (bB (bg 0) fB)) (tCB (lu K) (bB (bg 1) fB)))) (nW (tOp (Ce K false) (bg 1) (bg 0))))) (te:=(bg 0)) (i:=4) ["_law_other","_law_piece"] [none,some 3] ei.nd rfl (Or.inl rfl) rfl (cH K rfl (pv 0)) (fun _ _ _ _=>⟨(aF (i:=0) (by show List.Nodup (["_law_other","_law_piece"]:List Str);decide +kernel) rfl (by walk_at "o")),(fR (PW.pt (pK (bw Bj (ay (cY K rfl) rfl T.b_len PySem.boot_len (paC (pv 0) ag)) (ay (cY K rfl) rfl T.b_len PySem.boot_len (paC (pv 1) ag)) (bH _)) (kX (bw (FA K rfl) (pv 1) (pv 0) (by with_unfolding_all rfl)))))),(pv 0)⟩) (by kernel_rfl)) (ax (eE (PW.pt (pK (bw (jF K rfl hu) (pv 4) (dA ag) (bH _)) (kX (bw (kS K rfl) (pv 3) (bJ (mD K rfl) (pv 0) cK (cp (pv 2))) (by with_unfolding_all rfl))))) (ax (fk (eX K rfl PySem.F.plainAttrs_list PySem.F.slot_list_append PySem.F.type_list_append dI (pv 1) (paC (pv 3) ag)))) bZ)))) (ax (bi (pv 1))))),fnP (K:=K) (c:=bU) (ps:=fc) (N:=["_law_pieces_here","_law_found","_law_k","_law_piece","_law_longer"]) (au (aG (dB ae) (aA (i:=1) rfl)) (au (eM (wp (aa (ac (am (i:=0))) ae)) (iU (ck (aC (i:=2) rfl) (ck (aC (i:=3) rfl) gN))) (au (aG (bp (ix:=[none,some 3]) rfl (cI (am (i:=0))) (fun fs hc=>(aC (i:=0) (gQ hc (by decide)))) (qg (iP (al rM (ac (bD bI (aa (aj (i:=0)) ae))) (ac (bD bI (aa (aj (i:=1)) ae))))) (iP (al qx (aj (i:=1)) (aj (i:=0))))) (am (i:=0))) (aA (i:=4) rfl)) (eJ (qg (iP (al fK (aj (i:=4)) (ac (dB ae)))) (iP (al qx (aj (i:=3)) (ac (bK (aj (i:=0)) bM (bC (am (i:=2)))))))) (ft (j8 (i:=1) (am (i:=3)))) b9))) (bj (am (i:=1))))) (fun ds Q h=>Nat.le_trans (le_of_eq (ku ds Q h)) (by decide)) qY h⟩
theorem nO:∀ds Q,bG ds Q->ds.length=2:=fun ds Q h=>by unfold bG at h;split at h;(first|rfl|exact h.elim);(first|rfl|exact h.elim)
theorem vc(D:cS K mg "_law_lap" lI)(T:Txt mg)(TC:TxC K):Cal P w K mg base 1 "_law_lap" ["_law_one","_law_other"] (spP K bG):=by
 refine D.ok nF (fun _ _ _ _ _ _ us hl=>match us,hl with|[_,_],_=>rfl) (fun vs H Q E h=>?_) (fun f cdv A outer s H vs Q E hr h=>?_)
 .exact jA nO h
 .have hu:=hr.units;exact⟨_,(ai (eG PassesOwn.never rfl (pY rfl T.b_range (paC (aE rP (ay (zH rfl) rfl T.b_min boot_min (paC (ay (cY K rfl) rfl T.b_len PySem.boot_len (paC (pv 0) ag)) (paC (ay (cY K rfl) rfl T.b_len PySem.boot_len (paC (pv 1) ag)) ag))) aq) (paC aq (paC (pM j6 aq) ag)))) (aF (i:=2) nF.nd rfl (by walk_at "o")) (ax (eE (bw (jF K rfl hu) (bJ (mD K rfl) (pv 0) (cp (aE rP (ay (cY K rfl) rfl T.b_len PySem.boot_len (paC (pv 0) ag)) (pv 2))) cK) (bJ (mD K rfl) (pv 1) cK (cp (pv 2))) (bH _)) (ax (bi (pv 2))) bZ))) (ax (bi aq))),fnP (K:=K) (c:=bG) (ps:=ip) (N:=["_law_one","_law_other","_law_k"]) (au (eM (DD (aa (ac (al ln (ac (bD wq (aa (ac (bD bI (aa (aj (i:=0)) ae))) (aa (ac (bD bI (aa (aj (i:=1)) ae))) ae)))) (ac le_int))) (aa (ac le_int) (aa (ac (qf j9 (ac le_int))) ae)))) (aC (i:=2) rfl) (eJ (iP (al fK (ac (bK (aj (i:=0)) (bC (al ln (ac (bD bI (aa (aj (i:=0)) ae))) (aj (i:=2)))) bM)) (ac (bK (aj (i:=1)) bM (bC (am (i:=2))))))) (bj (am (i:=2))) b9)) (bj le_int)) (fun ds Q h=>Nat.le_trans (le_of_eq (nO ds Q h)) (by decide)) u7 h⟩
theorem mw:∀ds Q,cG ds Q->ds.length=1:=fun ds Q h=>by unfold cG at h;split at h;(first|rfl|exact h.elim);(first|rfl|exact h.elim)
theorem sP(D:cS K mg "_law_laps" jX)(T:Txt mg)(TC:TxC K)(C_law_lap:Cal P w K mg base 1 "_law_lap" ["_law_one","_law_other"] (spP K bG)):Cal P w K mg base 2 "_law_laps" ["_law_words_here"] (spP K cG):=by
 refine D.ok sf (fun _ _ _ _ _ _ us hl=>match us,hl with|[_],_=>rfl) (fun vs H Q E h=>?_) (fun f cdv A outer s H vs Q E hr h=>?_)
 .exact jA mw h
 .have hu:=hr.units;exact⟨_,(ax (bi (bO (wi:=(iQ K (bg 0))) (g:=(cm 0)) (tts:=je) (te:=(og [none,some 0] (iQ K (bg 1)) (cm 0) je (fm (spP K bG) [] E0 (bB (bg 1) (bB (bg 0) fB))))) ["_law_one","_law_words_here"] [none,some 0] rfl (cH K rfl (pv 0)) (fun _ _ _ _=>⟨(aF (i:=0) (by show List.Nodup (["_law_one","_law_words_here"]:List Str);decide +kernel) rfl (by walk_at "o")),cr,(bO (wi:=(iQ K (bg 1))) (g:=(cm 0)) (tts:=je) (te:=(fm (spP K bG) [] E0 (bB (bg 1) (bB (bg 0) fB)))) ["_law_other","_law_one"] [none,some 0] rfl (cH K rfl (pv 1)) (fun _ _ _ _=>⟨(aF (i:=0) (by show List.Nodup (["_law_other","_law_one"]:List Str);decide +kernel) rfl (by walk_at "o")),cr,(aD C_law_lap (hr.mono (by decide)) (paC (pv 1) (paC (pv 0) ag)))⟩) (by kernel_rfl))⟩) (by kernel_rfl)))),fnP (K:=K) (c:=cG) (ps:=gp) (N:=["_law_words_here"]) (bj (wT (bp (ix:=[none,some 0]) rfl (cI (am (i:=0))) (fun fs hc=>(aC (i:=0) (gQ hc (by decide)))) dg (bp (ix:=[none,some 0]) rfl (cI (am (i:=1))) (fun fs hc=>(aC (i:=0) (gQ hc (by decide)))) dg (aN (c:=bG) (aa (ac (am (i:=1))) (aa (ac (am (i:=0))) ae))))))) (fun ds Q h=>Nat.le_trans (le_of_eq (mw ds Q h)) (by decide)) sF h⟩
theorem iM:∀p ds Q,bx p ds Q->ds.length+1=2:=fun p ds Q h=>by unfold bx at h;split at h;(first|rfl|exact h.elim);(first|rfl|exact h.elim)
theorem mS(D:cS K mg "_law_holding" f8)(T:Txt mg)(TC:TxC K)(C_law_lap:Cal P w K mg base 1 "_law_lap" ["_law_one","_law_other"] (spP K bG))(C_law_next:Cal P w K mg base 1 "_law_next" ["_law_deck_here"] (spR K aB)):Cal P w K mg base 2 "_law_holding" ["_law_deck_here","_law_words_here"] (spR K bx):=by
 refine D.ok bb (fun _ _ _ _ _ _ us hl=>match us,hl with|[_,_],_=>rfl) (fun vs H Q E h=>?_) (fun f cdv A outer s H vs Q E hr h=>?_)
 .exact Bk iM h
 .have hu:=hr.units;exact⟨_,(ai (aJ (i:=2) bb.nd rfl (by walk_at "o") (cu (zK K rfl rfl) rfl T.b_list boot_list (paC (p8 rfl T.b_range (paC (ay (cY K rfl) rfl T.b_len PySem.boot_len (paC (pv 1) ag)) ag)) ag))) (ai (aJ (i:=3) bb.nd rfl (by walk_at "o") (bJ (mD K rfl) (di (l:=[112,113]) (by decide +kernel)) cK (cp (aE cT (aD C_law_next (hr.mono (by decide)) (paC (pv 0) ag)) aq)))) (ai (aJ (i:=4) bb.nd rfl (by walk_at "o") (eH Bj (aE cT (aD C_law_next (hr.mono (by decide)) (paC (pv 0) ag)) aq) aq (bH _))) (ai (aJ (i:=5) bb.nd rfl (by walk_at "o") (di (l:=[]) (by decide +kernel))) (ai (nU PassesOwn.never (bw (ql K rfl hu) (pv 2) (dA ag) (bH _)) (ai (aJ (i:=6) bb.nd rfl (by walk_at "o") (dH (jg K rfl) (pv 1) (eX K rfl PySem.F.plainAttrs_list PySem.F.slot_list_pop PySem.F.type_list_pop sU (pv 2) (paC (aE cT (aD C_law_next (hr.mono (by decide)) (paC (pv 0) ag)) (ay (cY K rfl) rfl T.b_len PySem.boot_len (paC (pv 2) ag))) ag)) (fun _ _=>rfl))) (ai (aJ (i:=7) bb.nd rfl (by walk_at "o") (aD C_law_lap (hr.mono (by decide)) (paC (pv 5) (paC (pv 6) ag)))) (ai (lj (eE (iy (dM (pv 4))) (ai (aJ (i:=7) bb.nd rfl (by walk_at "o") (dH (jg K rfl) (dA (paC (pv 7) (paC aq ag))) (aE cT (aD C_law_next (hr.mono (by decide)) (paC (pv 0) ag)) aq) (fun _ _=>rfl))) (ax (eE (bw (jF K rfl hu) (pv 7) aq (bH _)) (ax (aJ (i:=3) bb.nd rfl (by walk_at "o") (aE (ba K rfl) (pv 3) (bJ (mD K rfl) (di (l:=[113,97]) (by decide +kernel)) cK (cp (aE cT (aD C_law_next (hr.mono (by decide)) (paC (pv 0) ag)) aq)))))) bZ))) bZ)) (ai (aJ (i:=3) bb.nd rfl (by walk_at "o") (aE (ba K rfl) (pv 3) (bJ (mD K rfl) (pv 6) (cp (pv 7)) cK))) (ax (aJ (i:=5) bb.nd rfl (by walk_at "o") (pv 6)))))))) (ai (lj (eE (iy (dM (pv 4))) (ax (aJ (i:=3) bb.nd rfl (by walk_at "o") (aE (ba K rfl) (pv 3) (bJ (mD K rfl) (di (l:=[112,113]) (by decide +kernel)) cK (cp (aE cT (aD C_law_next (hr.mono (by decide)) (paC (pv 0) ag)) aq)))))) bZ)) (ax (bi (pv 3))))))))),fnR (K:=K) (c:=bx) (ps:=d7) (N:=["_law_deck_here","_law_words_here","_law_left","_law_text","_law_close","_law_earlier","_law_word","_law_shared"]) (au (aG (tw false (aa (ac (bD bI (aa (aj (i:=1)) ae))) ae)) (aA (i:=2) rfl)) (au (aG (bK (ac (le_str (l:=[112,113]))) bM (bC (al bE (ac (aU (i:=0) ae)) (ac le_int)))) (aA (i:=3) rfl)) (au (aG (al rM (ac (al bE (ac (aU (i:=0) ae)) (ac le_int))) (ac le_int)) (aA (i:=4) rfl)) (au (aG (le_str (l:=[])) (aA (i:=5) rfl)) (au (oB (iP (al kc (aj (i:=2)) (ac (dB ae)))) (au (aG (al dJ (aj (i:=1)) (ac (tM (i:=2) (al bE (ac (aU (i:=0) ae)) (ac (bD bI (aa (aj (i:=2)) ae))))))) (aA (i:=6) rfl)) (au (aG (aN (c:=bG) (aa (ac (am (i:=5))) (aa (ac (am (i:=6))) ae))) (aA (i:=7) rfl)) (au (lv (eJ (iB (rK (am (i:=4)))) (au (aG (al dJ (ac (dB (aa (ac (am (i:=7))) (aa (ac le_int) ae)))) (ac (al bE (ac (aU (i:=0) ae)) (ac le_int)))) (aA (i:=7) rfl)) (eJ (iP (al fK (aj (i:=7)) (ac le_int))) (aG (al aL (aj (i:=3)) (ac (bK (ac (le_str (l:=[113,97]))) bM (bC (al bE (ac (aU (i:=0) ae)) (ac le_int)))))) (aA (i:=3) rfl)) b9)) b9)) (au (aG (al aL (aj (i:=3)) (ac (bK (aj (i:=6)) (bC (am (i:=7))) bM))) (aA (i:=3) rfl)) (aG (am (i:=6)) (aA (i:=5) rfl))))))) (au (lv (eJ (iB (rK (am (i:=4)))) (aG (al aL (aj (i:=3)) (ac (bK (ac (le_str (l:=[112,113]))) bM (bC (al bE (ac (aU (i:=0) ae)) (ac le_int)))))) (aA (i:=3) rfl)) b9)) (bj (am (i:=3))))))))) (fun p ds Q h=>Nat.le_trans (le_of_eq (iM p ds Q h)) (by decide)) mN h⟩
theorem jw:∀ds Q,bL ds Q->ds.length=4:=fun ds Q h=>by unfold bL at h;split at h;(first|rfl|exact h.elim);(first|rfl|exact h.elim)
theorem pH(D:cS K mg "_law_needed" gY)(T:Txt mg)(TC:TxC K):Cal P w K mg base 1 "_law_needed" ["_law_laps_here","_law_table_here","_law_mark","_law_i"] (spP K bL):=by
 refine D.ok gb (fun _ _ _ _ _ _ us hl=>match us,hl with|[_,_,_,_],_=>rfl) (fun vs H Q E h=>?_) (fun f cdv A outer s H vs Q E hr h=>?_)
 .exact jA jw h
 .have hu:=hr.units;exact⟨_,(ai (aJ (i:=4) gb.nd rfl (by walk_at "o") (aE rP (pv 2) (aE yI aq (pv 3)))) (ai (iO (wi:=(nV (bB (tCB (lu K) (bB (bg 0) fB)) fB))) (g:=(cm 0)) (tts:=(nW (tOp (wC K false) (tOp yJ (tOp EB (bg 1) (bg 0)) (tC (V.int 1))) (tC (V.int 1))))) (te:=(bg 0)) (i:=5) ["_law_j","_law_below"] [none,some 4] gb.nd rfl (Or.inl rfl) rfl (cR rfl T.b_range (paC (ay (cY K rfl) rfl T.b_len PySem.boot_len (paC (pv 0) ag)) ag)) (fun _ _ _ _=>⟨(aF (i:=0) (by show List.Nodup (["_law_j","_law_below"]:List Str);decide +kernel) rfl (by walk_at "o")),(fR (bw (jF K rfl hu) (aE wJ (aE Bo (pv 1) (pv 0)) aq) aq (bH _))),(pv 0)⟩) (by kernel_rfl)) (ax (bi (ay (zO K rfl rfl) rfl T.b_max boot_max (paC (aE (ba K rfl) (dA (paC aq ag)) (bO (wi:=(iQ K (bg 5))) (g:=(cm 0)) (tts:=je) (te:=(tOp (mG K) (tOp (m5 K) (tOp (m5 K) (bg 2) (bg 3)) (bg 0)) (tOp (m5 K) (tOp (m5 K) (bg 4) (bg 0)) (bg 1)))) ["_law_j","_law_i","_law_table_here","_law_below","_law_laps_here"] [none,some 3,some 1,some 4,some 0] rfl (cH K rfl (pv 5)) (fun _ _ _ _=>⟨(aF (i:=0) (by show List.Nodup (["_law_j","_law_i","_law_table_here","_law_below","_law_laps_here"]:List Str);decide +kernel) rfl (by walk_at "o")),cr,(aE (ba K rfl) (dH (jg K rfl) (dH (jg K rfl) (pv 2) (pv 3) (fun _ _=>rfl)) (pv 0) (fun _ _=>rfl)) (dH (jg K rfl) (dH (jg K rfl) (pv 4) (pv 0) (fun _ _=>rfl)) (pv 1) (fun _ _=>rfl)))⟩) (by kernel_rfl))) ag)))))),fnP (K:=K) (c:=bL) (ps:=eB) (N:=["_law_laps_here","_law_table_here","_law_mark","_law_i","_law_below","_law_others"]) (au (aG (al ln (aj (i:=2)) (ac (al tN (ac le_int) (aj (i:=3))))) (aA (i:=4) rfl)) (au (aG (bp (ix:=[none,some 4]) rfl (kE (aa (ac (bD bI (aa (aj (i:=0)) ae))) ae)) (fun fs hc=>(aC (i:=0) (gQ hc (by decide)))) (iP (al fK (ac (al rT (ac (al wI (aj (i:=1)) (aj (i:=0)))) (ac le_int))) (ac le_int))) (am (i:=0))) (aA (i:=5) rfl)) (bj (bD wH (aa (ac (al aL (ac (dB (aa (ac le_int) ae))) (ac (bp (ix:=[none,some 3,some 1,some 4,some 0]) rfl (cI (am (i:=5))) (fun fs hc=>(aC (i:=0) (gQ hc (by decide)))) dg (al aL (ac (al dJ (ac (al dJ (aj (i:=2)) (aj (i:=3)))) (aj (i:=0)))) (ac (al dJ (ac (al dJ (aj (i:=4)) (aj (i:=0)))) (aj (i:=1))))))))) ae))))) (fun ds Q h=>Nat.le_trans (le_of_eq (jw ds Q h)) (by decide)) pA h⟩
theorem kv:∀ds Q,bV ds Q->ds.length=1:=fun ds Q h=>by unfold bV at h;split at h;(first|rfl|exact h.elim);(first|rfl|exact h.elim)
theorem rj(D:cS K mg "_law_table" i4)(T:Txt mg)(TC:TxC K)(C_law_needed:Cal P w K mg base 1 "_law_needed" ["_law_laps_here","_law_table_here","_law_mark","_law_i"] (spP K bL)):Cal P w K mg base 2 "_law_table" ["_law_laps_here"] (spP K bV):=by
 refine D.ok dF (fun _ _ _ _ _ _ us hl=>match us,hl with|[_],_=>rfl) (fun vs H Q E h=>?_) (fun f cdv A outer s H vs Q E hr h=>?_)
 .exact jA kv h
 .have hu:=hr.units;exact⟨_,(ai (aJ (i:=1) dF.nd rfl (by walk_at "o") (ay (cY K rfl) rfl T.b_len PySem.boot_len (paC (pv 0) ag))) (ai (aJ (i:=2) dF.nd rfl (by walk_at "o") (dA ag)) (ai (eG PassesOwn.never rfl (cR rfl T.b_range (paC (aE yI aq (pv 1)) ag)) (aF (i:=3) dF.nd rfl (by walk_at "o")) (ai (aJ (i:=4) dF.nd rfl (by walk_at "o") (aE gM (dA (paC (pM j6 aq) ag)) (pv 1))) (ai (eG PassesOwn.never rfl (cR rfl T.b_range (paC (pv 1) ag)) (aF (i:=5) dF.nd rfl (by walk_at "o")) (ax (eE (bw (jF K rfl hu) (aE wJ (aE Bo (pv 3) (pv 5)) aq) aq (bH _)) (ax (BD (aD C_law_needed (hr.mono (by decide)) (paC (pv 0) (paC (pv 2) (paC (pv 3) (paC (pv 5) ag))))) (CA (pv 4) (pv 5) x6))) bZ))) (ax (fk (eX K rfl PySem.F.plainAttrs_list PySem.F.slot_list_append PySem.F.type_list_append dI (pv 2) (paC (pv 4) ag))))))) (ax (bi (pv 2)))))),fnP (K:=K) (c:=bV) (ps:=fe) (N:=["_law_laps_here","_law_many","_law_table_here","_law_mark","_law_row","_law_i"]) (au (aG (bD bI (aa (aj (i:=0)) ae)) (aA (i:=1) rfl)) (au (aG (dB ae) (aA (i:=2) rfl)) (au (eM (kE (aa (ac (al tN (ac le_int) (aj (i:=1)))) ae)) (aC (i:=3) rfl) (au (aG (al ef (ac (dB (aa (ac (qf j9 (ac le_int))) ae))) (aj (i:=1))) (aA (i:=4) rfl)) (au (eM (kE (aa (ac (am (i:=1))) ae)) (aC (i:=5) rfl) (eJ (iP (al fK (ac (al rT (ac (al wI (aj (i:=3)) (aj (i:=5)))) (ac le_int))) (ac le_int))) (A8 (i:=4) (BE (aN (c:=bL) (aa (ac (am (i:=0))) (aa (ac (am (i:=2))) (aa (ac (am (i:=3))) (aa (ac (am (i:=5))) ae)))))) (am (i:=5))) b9)) (ft (j8 (i:=2) (am (i:=4))))))) (bj (am (i:=2)))))) (fun ds Q h=>Nat.le_trans (le_of_eq (kv ds Q h)) (by decide)) q0 h⟩
theorem kx:∀ds Q,bu ds Q->ds.length=2:=fun ds Q h=>by unfold bu at h;split at h;(first|rfl|exact h.elim);(first|rfl|exact h.elim)
theorem rk(D:cS K mg "_law_first" i5)(T:Txt mg)(TC:TxC K):Cal P w K mg base 1 "_law_first" ["_law_one","_law_other"] (spP K bu):=by
 refine D.ok gZ (fun _ _ _ _ _ _ us hl=>match us,hl with|[_,_],_=>rfl) (fun vs H Q E h=>?_) (fun f cdv A outer s H vs Q E hr h=>?_)
 .exact jA kx h
 .have hu:=hr.units;exact⟨_,(ai (eE (bw (ql K rfl hu) (ay (cY K rfl) rfl T.b_len PySem.boot_len (paC (pv 0) ag)) (ay (cY K rfl) rfl T.b_len PySem.boot_len (paC (pv 1) ag)) (bH _)) (ax (bi (eH A1 (ay (cY K rfl) rfl T.b_len PySem.boot_len (paC (pv 0) ag)) (ay (cY K rfl) rfl T.b_len PySem.boot_len (paC (pv 1) ag)) (bH _)))) bZ) (ai (eG PassesOwn.never rfl (wE K rfl rfl T.b_zip (paC (pv 0) (paC (pv 1) ag))) (kd K rfl (n:=2) rfl (cj (aF (i:=2) gZ.nd rfl (by walk_at "o")) (cj (aF (i:=3) gZ.nd rfl (by walk_at "o")) gI))) (ax (eE (bw (ql K rfl hu) (pv 2) (pv 3) (bH _)) (ax (bi (eH A1 (pv 2) (pv 3) (bH _)))) bZ))) (ax (bi rp)))),fnP (K:=K) (c:=bu) (ps:=fg) (N:=["_law_one","_law_other","_law_a","_law_b"]) (au (eJ (iP (al kc (ac (bD bI (aa (aj (i:=0)) ae))) (ac (bD bI (aa (aj (i:=1)) ae))))) (bj (al rL (ac (bD bI (aa (aj (i:=0)) ae))) (ac (bD bI (aa (aj (i:=1)) ae))))) b9) (au (eM (wG (aa (ac (am (i:=0))) (aa (ac (am (i:=1))) ae))) (iU (ck (aC (i:=2) rfl) (ck (aC (i:=3) rfl) gN))) (eJ (iP (al kc (aj (i:=2)) (aj (i:=3)))) (bj (al rL (aj (i:=2)) (aj (i:=3)))) b9)) (bj rJ))) (fun ds Q h=>Nat.le_trans (le_of_eq (kx ds Q h)) (by decide)) rc h⟩
theorem ky:∀ds Q,bW ds Q->ds.length=2:=fun ds Q h=>by unfold bW at h;split at h;(first|rfl|exact h.elim);(first|rfl|exact h.elim)
theorem rl(D:cS K mg "_law_holds" i6)(T:Txt mg)(TC:TxC K):Cal P w K mg base 1 "_law_holds" ["_law_text","_law_pieces_here"] (spP K bW):=by
 refine D.ok qF (fun _ _ _ _ _ _ us hl=>match us,hl with|[_,_],_=>rfl) (fun vs H Q E h=>?_) (fun f cdv A outer s H vs Q E hr h=>?_)
 .exact jA ky h
 .have hu:=hr.units;exact⟨_,(ax (bi (eH (jF K rfl hu) (bO (wi:=(iQ K (bg 1))) (g:=(cm 0)) (tts:=(nW (tOp (Ce K true) (bg 0) (bg 1)))) (te:=(bg 0)) ["_law_piece","_law_text"] [none,some 0] rfl (cH K rfl (pv 1)) (fun _ _ _ _=>⟨(aF (i:=0) (by show List.Nodup (["_law_piece","_law_text"]:List Str);decide +kernel) rfl (by walk_at "o")),(fR (bw (kS K rfl) (pv 0) (pv 1) (by with_unfolding_all rfl))),(pv 0)⟩) (by kernel_rfl)) (dA ag) (bH _)))),fnP (K:=K) (c:=bW) (ps:=fh) (N:=["_law_text","_law_pieces_here"]) (bj (al fK (ac (bp (ix:=[none,some 0]) rfl (cI (am (i:=1))) (fun fs hc=>(aC (i:=0) (gQ hc (by decide)))) (iP (al qx (aj (i:=0)) (aj (i:=1)))) (am (i:=0)))) (ac (dB ae)))) (fun ds Q h=>Nat.le_trans (le_of_eq (ky ds Q h)) (by decide)) rd h⟩
theorem ic:∀p ds Q,bA p ds Q->ds.length+1=1:=fun p ds Q h=>by unfold bA at h;split at h;(first|rfl|exact h.elim);(first|rfl|exact h.elim)
theorem my(D:cS K mg "_law_row_told" fA)(T:Txt mg)(TC:TxC K)(C_Family_init:AT P w K mg base 4 (cJ K "Family") "Family" ["self","pieces"] (spR K aO))(C_law_next:Cal P w K mg base 1 "_law_next" ["_law_deck_here"] (spR K aB))(C_shortest:Cal P w K mg base 5 "shortest" ["family"] (spP K aS)):Cal P w K mg base 6 "_law_row_told" ["_law_deck_here"] (spR K bA):=by
 refine D.ok cf (fun _ _ _ _ _ _ us hl=>match us,hl with|[_],_=>rfl) (fun vs H Q E h=>?_) (fun f cdv A outer s H vs Q E hr h=>?_)
 .exact Bk ic h
 .have hu:=hr.units;exact⟨_,(ai (aJ (i:=1) cf.nd rfl (by walk_at "o") (aE cT (aD C_law_next (hr.mono (by decide)) (paC (pv 0) ag)) aq)) (ai (aJ (i:=2) cf.nd rfl (by walk_at "o") (aE (ba K rfl) aq (aE cT (aD C_law_next (hr.mono (by decide)) (paC (pv 0) ag)) aq))) (ai (aJ (i:=3) cf.nd rfl (by walk_at "o") (bO (wi:=(nV (bB (tOp (mG K) (bg 2) (tC (V.int 1))) fB))) (g:=(cm 0)) (tts:=je) (te:=(tOp (m5 K) (tC (V.str (S [97,98,99,100,101,102,103,104,105,106,107,108,109,110,111,112,113,114,115,116,117,118,119,120,121,122]))) (tOp Bh (tOp (mG K) (bg 1) (tOp yr (tC (V.int 7)) (bg 0))) (tC (V.int 26))))) ["_law_k","_law_first_here"] [none,some 1] rfl (cR rfl T.b_range (paC (aE (ba K rfl) (pv 2) aq) ag)) (fun _ _ _ _=>⟨(aF (i:=0) (by show List.Nodup (["_law_k","_law_first_here"]:List Str);decide +kernel) rfl (by walk_at "o")),cr,(dH (jg K rfl) (di (l:=[97,98,99,100,101,102,103,104,105,106,107,108,109,110,111,112,113,114,115,116,117,118,119,120,121,122]) (by decide +kernel)) (aE cT (aE (ba K rfl) (pv 1) (aE gM aq (pv 0))) aq) (fun _ _=>rfl))⟩) (by kernel_rfl))) (ai (iO (wi:=(nV (bB (bg 2) fB))) (g:=(cm 0)) (tts:=je) (te:=(tOp (mG K) (tOp (m5 K) (bg 1) (bg 0)) (tOp (m5 K) (bg 1) (tOp (mG K) (bg 0) (tC (V.int 1)))))) (i:=4) ["_law_k","_law_letters"] [none,some 3] cf.nd rfl (Or.inl rfl) rfl (cR rfl T.b_range (paC (pv 2) ag)) (fun _ _ _ _=>⟨(aF (i:=0) (by show List.Nodup (["_law_k","_law_letters"]:List Str);decide +kernel) rfl (by walk_at "o")),cr,(aE (ba K rfl) (dH (jg K rfl) (pv 1) (pv 0) (fun _ _=>rfl)) (dH (jg K rfl) (pv 1) (aE (ba K rfl) (pv 0) aq) (fun _ _=>rfl)))⟩) (by kernel_rfl)) (ai (aJ (i:=5) cf.nd rfl (by walk_at "o") (aE cT (aD C_law_next (hr.mono (by decide)) (paC (pv 0) ag)) (pv 2))) (ai (aJ (i:=4) cf.nd rfl (by walk_at "o") (aE (ba K rfl) (rW K rfl (bJ (mD K rfl) (pv 4) (cp (pv 5)) cK) (pM j6 aq)) (bJ (mD K rfl) (pv 4) cK (cp (pv 5))))) (ax (bi (eH (jF K rfl hu) (aD C_shortest (hr.mono (by decide)) (paC (ji C_Family_init (hr.mono (by decide)) (paC (pv 4) ag)) ag)) (eX K rfl PySem.F.plainAttrs_str PySem.F.slot_str_join PySem.F.type_str_join (tI K rfl) (di (l:=[]) (by decide +kernel)) (paC (pv 3) ag)) (bH _)))))))))),fnR (K:=K) (c:=bA) (ps:=dO) (N:=["_law_deck_here","_law_first_here","_law_many","_law_letters","_law_words_here","_law_turn"]) (au (aG (al bE (ac (aU (i:=0) ae)) (ac le_int)) (aA (i:=1) rfl)) (au (aG (al aL (ac le_int) (ac (al bE (ac (aU (i:=0) ae)) (ac le_int)))) (aA (i:=2) rfl)) (au (aG (bp (ix:=[none,some 1]) rfl (kE (aa (ac (al aL (aj (i:=2)) (ac le_int))) ae)) (fun fs hc=>(aC (i:=0) (gQ hc (by decide)))) dg (al dJ (ac (le_str (l:=[97,98,99,100,101,102,103,104,105,106,107,108,109,110,111,112,113,114,115,116,117,118,119,120,121,122]))) (ac (al bE (ac (al aL (aj (i:=1)) (ac (al ef (ac le_int) (aj (i:=0)))))) (ac le_int))))) (aA (i:=3) rfl)) (au (aG (bp (ix:=[none,some 3]) rfl (kE (aa (ac (am (i:=2))) ae)) (fun fs hc=>(aC (i:=0) (gQ hc (by decide)))) dg (al aL (ac (al dJ (aj (i:=1)) (aj (i:=0)))) (ac (al dJ (aj (i:=1)) (ac (al aL (aj (i:=0)) (ac le_int))))))) (aA (i:=4) rfl)) (au (aG (al bE (ac (aU (i:=0) ae)) (aj (i:=2))) (aA (i:=5) rfl)) (au (aG (al aL (ac (rX (ac (bK (aj (i:=4)) (bC (am (i:=5))) bM)) (qf j9 (ac le_int)))) (ac (bK (aj (i:=4)) bM (bC (am (i:=5)))))) (aA (i:=4) rfl)) (bj (al fK (ac (aN (c:=aS) (aa (ac (lA (aa (ac (am (i:=4))) ae))) ae))) (ac (yw tK (le_str (l:=[])) (aa (aj (i:=3)) ae))))))))))) (fun p ds Q h=>Nat.le_trans (le_of_eq (ic p ds Q h)) (by decide)) l8 h⟩
theorem fj:∀p ds Q,a9 p ds Q->ds.length+1=1:=fun p ds Q h=>by unfold a9 at h;split at h;(first|rfl|exact h.elim);(first|rfl|exact h.elim)
theorem jx(D:cS K mg "_law_blocks_told" dX)(T:Txt mg)(TC:TxC K)(C_Family_init:AT P w K mg base 4 (cJ K "Family") "Family" ["self","pieces"] (spR K aO))(C_law_next:Cal P w K mg base 1 "_law_next" ["_law_deck_here"] (spR K aB))(C_shortest:Cal P w K mg base 5 "shortest" ["family"] (spP K aS)):Cal P w K mg base 6 "_law_blocks_told" ["_law_deck_here"] (spR K a9):=by
 refine D.ok aK (fun _ _ _ _ _ _ us hl=>match us,hl with|[_],_=>rfl) (fun vs H Q E h=>?_) (fun f cdv A outer s H vs Q E hr h=>?_)
 .exact Bk fj h
 .have hu:=hr.units;exact⟨_,(ai (aJ (i:=1) aK.nd rfl (by walk_at "o") (cu (BL rfl) rfl T.b_list boot_list (paC (di (l:=[97,98,99,100,101,102,103,104,105,106,107,108,109,110,111,112,113,114,115,116,117,118,119,120,121,122]) (by decide +kernel)) ag))) (ai (aJ (i:=2) aK.nd rfl (by walk_at "o") (dA ag)) (ai (eG PassesOwn.never rfl (cR rfl T.b_range (paC (aE (ba K rfl) aq (aE cT (aD C_law_next (hr.mono (by decide)) (paC (pv 0) ag)) aq)) ag)) (aF (i:=3) aK.nd rfl (by walk_at "o")) (ax (fk (eX K rfl PySem.F.plainAttrs_list PySem.F.slot_list_append PySem.F.type_list_append dI (pv 2) (paC (eX K rfl PySem.F.plainAttrs_list PySem.F.slot_list_pop PySem.F.type_list_pop sU (pv 1) (paC (aE cT (aD C_law_next (hr.mono (by decide)) (paC (pv 0) ag)) (ay (cY K rfl) rfl T.b_len PySem.boot_len (paC (pv 1) ag))) ag)) ag))))) (ai (zp (bJ (mD K rfl) (pv 2) cK (cp aq)) (kd K rfl (n:=4) rfl (cj (aF (i:=4) aK.nd rfl (by walk_at "o")) (cj (aF (i:=5) aK.nd rfl (by walk_at "o")) (cj (aF (i:=6) aK.nd rfl (by walk_at "o")) (cj (aF (i:=7) aK.nd rfl (by walk_at "o")) gI)))))) (ai (aJ (i:=8) aK.nd rfl (by walk_at "o") (aE (ba K rfl) aq (aE cT (aD C_law_next (hr.mono (by decide)) (paC (pv 0) ag)) aq))) (ai (aJ (i:=9) aK.nd rfl (by walk_at "o") (aE (ba K rfl) (dA (paC (aE (ba K rfl) (pv 6) (aE gM (aE (ba K rfl) (pv 4) (pv 5)) (pv 8))) (paC (aE gM (aE (ba K rfl) (pv 5) (pv 4)) (pv 8)) (paC (aE (ba K rfl) (aE gM (aE (ba K rfl) (pv 4) (pv 5)) (pv 8)) (pv 7)) ag)))) (bJ (mD K rfl) (pv 2) (cp aq) cK))) (ai (aJ (i:=10) aK.nd rfl (by walk_at "o") (aE cT (aD C_law_next (hr.mono (by decide)) (paC (pv 0) ag)) (ay (cY K rfl) rfl T.b_len PySem.boot_len (paC (pv 9) ag)))) (ai (aJ (i:=9) aK.nd rfl (by walk_at "o") (aE (ba K rfl) (rW K rfl (bJ (mD K rfl) (pv 9) (cp (pv 10)) cK) (pM j6 aq)) (bJ (mD K rfl) (pv 9) cK (cp (pv 10))))) (ax (bi (eH (jF K rfl hu) (aD C_shortest (hr.mono (by decide)) (paC (ji C_Family_init (hr.mono (by decide)) (paC (pv 9) ag)) ag)) (eX K rfl PySem.F.plainAttrs_str PySem.F.slot_str_join PySem.F.type_str_join (tI K rfl) (di (l:=[]) (by decide +kernel)) (paC (ay (BK K rfl) rfl T.b_sorted boot_sorted (paC (aE (ba K rfl) (dA (paC (aE (ba K rfl) (aE (ba K rfl) (pv 6) (aE gM (aE (ba K rfl) (pv 4) (pv 5)) (aE (ba K rfl) (pv 8) aq))) (pv 7)) ag)) (bJ (mD K rfl) (pv 2) (cp aq) cK)) ag)) ag)) (bH _)))))))))))),fnR (K:=K) (c:=a9) (ps:=cX) (N:=["_law_deck_here","_law_left","_law_signs_here","_law_k","_law_a","_law_b","_law_c","_law_d","_law_times","_law_words_here","_law_turn"]) (au (aG (bD zd (aa (ac (le_str (l:=[97,98,99,100,101,102,103,104,105,106,107,108,109,110,111,112,113,114,115,116,117,118,119,120,121,122]))) ae)) (aA (i:=1) rfl)) (au (aG (dB ae) (aA (i:=2) rfl)) (au (eM (kE (aa (ac (al aL (ac le_int) (ac (al bE (ac (aU (i:=0) ae)) (ac le_int))))) ae)) (aC (i:=3) rfl) (ft (j8 (i:=2) (tM (i:=1) (al bE (ac (aU (i:=0) ae)) (ac (bD bI (aa (aj (i:=1)) ae)))))))) (au (aG (bK (aj (i:=2)) bM (bC le_int)) (DX (ck (aC (i:=4) rfl) (ck (aC (i:=5) rfl) (ck (aC (i:=6) rfl) (ck (aC (i:=7) rfl) gN)))))) (au (aG (al aL (ac le_int) (ac (al bE (ac (aU (i:=0) ae)) (ac le_int)))) (aA (i:=8) rfl)) (au (aG (al aL (ac (dB (aa (ac (al aL (aj (i:=6)) (ac (al ef (ac (al aL (aj (i:=4)) (aj (i:=5)))) (aj (i:=8)))))) (aa (ac (al ef (ac (al aL (aj (i:=5)) (aj (i:=4)))) (aj (i:=8)))) (aa (ac (al aL (ac (al ef (ac (al aL (aj (i:=4)) (aj (i:=5)))) (aj (i:=8)))) (aj (i:=7)))) ae))))) (ac (bK (aj (i:=2)) (bC le_int) bM))) (aA (i:=9) rfl)) (au (aG (al bE (ac (aU (i:=0) ae)) (ac (bD bI (aa (aj (i:=9)) ae)))) (aA (i:=10) rfl)) (au (aG (al aL (ac (rX (ac (bK (aj (i:=9)) (bC (am (i:=10))) bM)) (qf j9 (ac le_int)))) (ac (bK (aj (i:=9)) bM (bC (am (i:=10)))))) (aA (i:=9) rfl)) (bj (al fK (ac (aN (c:=aS) (aa (ac (lA (aa (ac (am (i:=9))) ae))) ae))) (ac (yw tK (le_str (l:=[])) (aa (ac (bD za (aa (ac (al aL (ac (dB (aa (ac (al aL (ac (al aL (aj (i:=6)) (ac (al ef (ac (al aL (aj (i:=4)) (aj (i:=5)))) (ac (al aL (aj (i:=8)) (ac le_int))))))) (aj (i:=7)))) ae))) (ac (bK (aj (i:=2)) (bC le_int) bM)))) ae))) ae))))))))))))) (fun p ds Q h=>Nat.le_trans (le_of_eq (fj p ds Q h)) (by decide)) jt h⟩
theorem Aj:∀ds Q,ue ds Q->ds.length=1:=fun ds Q h=>by obtain⟨_,rfl,_⟩:=h;rfl
theorem Es(D:cS K mg "law" ze)(T:Txt mg)(TC:TxC K)(C_Family_init:AT P w K mg base 4 (cJ K "Family") "Family" ["self","pieces"] (spR K aO))(C_law_blocks_told:Cal P w K mg base 6 "_law_blocks_told" ["_law_deck_here"] (spR K a9))(C_law_deck:Cal P w K mg base 2 "_law_deck" ["_law_script","_law_many"] (spP K cF))(C_law_first:Cal P w K mg base 1 "_law_first" ["_law_one","_law_other"] (spP K bu))(C_law_holding:Cal P w K mg base 2 "_law_holding" ["_law_deck_here","_law_words_here"] (spR K bx))(C_law_holds:Cal P w K mg base 1 "_law_holds" ["_law_text","_law_pieces_here"] (spP K bW))(C_law_laps:Cal P w K mg base 2 "_law_laps" ["_law_words_here"] (spP K cG))(C_law_next:Cal P w K mg base 1 "_law_next" ["_law_deck_here"] (spR K aB))(C_law_pieces:Cal P w K mg base 3 "_law_pieces" ["_law_deck_here","_law_most"] (spR K bQ))(C_law_row_told:Cal P w K mg base 6 "_law_row_told" ["_law_deck_here"] (spR K bA))(C_law_signs:Cal P w K mg base 2 "_law_signs" ["_law_deck_here","_law_letters","_law_many"] (spR K bt))(C_law_table:Cal P w K mg base 2 "_law_table" ["_law_laps_here"] (spP K bV))(C_law_words:Cal P w K mg base 1 "_law_words" ["_law_pieces_here"] (spP K bU))(C_is_ahead:Cal P w K mg base 1 "is_ahead" ["one","other"] (spP K bq))(C_shortest:Cal P w K mg base 5 "shortest" ["family"] (spP K aS)):Cal P w K mg base 7 "law" ["_law_script"] (spP K ue):=by
 refine D.ok fM (fun _ _ _ _ _ _ us hl=>match us,hl with|[_],_=>rfl) (fun vs H Q E h=>?_) (fun f cdv A outer s H vs Q E hr h=>?_)
 .exact jA Aj h
 .have hu:=hr.units;exact⟨_,(ai (aJ (i:=1) fM.nd rfl (by walk_at "o") (aD C_law_deck (hr.mono (by decide)) (paC (pv 0) (paC aq ag)))) (ai (aJ (i:=2) fM.nd rfl (by walk_at "o") (aD C_law_pieces (hr.mono (by decide)) (paC (pv 1) (paC aq ag)))) (ai (aJ (i:=3) fM.nd rfl (by walk_at "o") (aD C_law_words (hr.mono (by decide)) (paC (pv 2) ag))) (ai (aJ (i:=4) fM.nd rfl (by walk_at "o") (aD C_law_table (hr.mono (by decide)) (paC (aD C_law_laps (hr.mono (by decide)) (paC (pv 3) ag)) ag))) (ai (aJ (i:=5) fM.nd rfl (by walk_at "o") (aE rP (ay (zI K rfl rfl) rfl T.b_sum boot_sum (paC (bO (wi:=(iQ K (bg 3))) (g:=(cm 0)) (tts:=je) (te:=(tCB (lu K) (bB (bg 0) fB))) ["_law_word"] [none] rfl (cH K rfl (pv 3)) (fun _ _ _ _=>⟨(aF (i:=0) (by show List.Nodup (["_law_word"]:List Str);decide +kernel) rfl (by walk_at "o")),cr,(ay (cY K rfl) rfl T.b_len PySem.boot_len (paC (pv 0) ag))⟩) (by kernel_rfl)) ag)) (ay (zO K rfl rfl) rfl T.b_max boot_max (paC (aE (ba K rfl) (dA (paC aq ag)) (dH (jg K rfl) (pv 4) (pM j6 aq) (fun _ _=>rfl))) ag)))) (ai (aJ (i:=6) fM.nd rfl (by walk_at "o") (aD C_shortest (hr.mono (by decide)) (paC (ji C_Family_init (hr.mono (by decide)) (paC (pv 2) ag)) ag))) (ai (eE (PW.pt (uh (iy (dM (ay (A5 K rfl) rfl T.b_isinstance boot_isinstance (paC (pv 6) (paC (rz (v:=.ty "str") rfl T.b_str boot_str rfl) ag))))) (uh (bw (ql K rfl hu) (ay (cY K rfl) rfl T.b_len PySem.boot_len (paC (pv 6) ag)) (pv 5) (bH _)) (pJ (iy (dM (aD C_law_holds (hr.mono (by decide)) (paC (pv 6) (paC (pv 2) ag))))))))) (ax (bi rp)) bZ) (ai (iO (wi:=(nV (bB (tC (V.int 40)) fB))) (g:=(cm 0)) (tts:=je) (te:=(fm (spR K bx) [] E0 (bB (bg 1) (bB (bg 2) fB)))) (i:=7) ["_law_k","_law_deck_here","_law_words_here"] [none,some 1,some 3] fM.nd rfl (Or.inl rfl) rfl (cR rfl T.b_range (paC aq ag)) (fun _ _ _ _=>⟨(aF (i:=0) (by show List.Nodup (["_law_k","_law_deck_here","_law_words_here"]:List Str);decide +kernel) rfl (by walk_at "o")),cr,(aD C_law_holding (hr.mono (by decide)) (paC (pv 1) (paC (pv 2) ag)))⟩) (by kernel_rfl)) (ai (iO (wi:=(iQ K (bg 7))) (g:=(cm 0)) (tts:=(tB (fm (spP K bu) [] E0 (bB (bg 0) (bB (bg 1) fB))))) (te:=(bg 0)) (i:=8) ["_law_text","_law_told"] [none,some 6] fM.nd rfl (Or.inl rfl) rfl (cH K rfl (pv 7)) (fun _ _ _ _=>⟨(aF (i:=0) (by show List.Nodup (["_law_text","_law_told"]:List Str);decide +kernel) rfl (by walk_at "o")),(fR (dM (aD C_law_first (hr.mono (by decide)) (paC (pv 0) (paC (pv 1) ag))))),(pv 0)⟩) (by kernel_rfl)) (ai (eE (PW.pt (uh (bw (ql K rfl hu) (pv 8) (dA ag) (bH _)) (pJ (bw (ql K rfl hu) (aD C_shortest (hr.mono (by decide)) (paC (ji C_Family_init (hr.mono (by decide)) (paC (rW K rfl (pv 2) (pM j6 aq)) ag)) ag)) (pv 6) (bH _))))) (ax (bi rp)) bZ) (ai (aJ (i:=7) fM.nd rfl (by walk_at "o") (aE (ba K rfl) (bJ (mD K rfl) (pv 7) cK (cp aq)) (dA (paC (pv 6) (paC (di (l:=[]) (by decide +kernel)) (paC (aD C_law_signs (hr.mono (by decide)) (paC (pv 1) (paC (di (l:=[97,98]) (by decide +kernel)) (paC (aE (ba K rfl) aq (aE cT (aD C_law_next (hr.mono (by decide)) (paC (pv 1) ag)) aq)) ag)))) ag)))))) (ai (fk (eX K rfl PySem.F.plainAttrs_list PySem.F.slot_list_append PySem.F.type_list_append dI (pv 7) (paC (aD C_law_signs (hr.mono (by decide)) (paC (pv 1) (paC (di (l:=[97,122]) (by decide +kernel)) (paC aq ag)))) ag))) (ai (eG PassesOwn.never rfl (cH K rfl (pv 7)) (aF (i:=9) fM.nd rfl (by walk_at "o")) (ax (eG PassesOwn.never rfl (cH K rfl (pv 7)) (aF (i:=10) fM.nd rfl (by walk_at "o")) (ai (eE (bw (ql K rfl hu) (aD C_is_ahead (hr.mono (by decide)) (paC (pv 9) (paC (pv 10) ag))) (aD C_law_first (hr.mono (by decide)) (paC (pv 9) (paC (pv 10) ag))) (bH _)) (ax (bi rp)) bZ) (ax (eE (iy (dM (ay (A5 K rfl) rfl T.b_isinstance boot_isinstance (paC (aD C_is_ahead (hr.mono (by decide)) (paC (pv 9) (paC (pv 10) ag))) (paC (rz (v:=.ty "bool") rfl T.b_bool boot_bool rfl) ag))))) (ax (bi rp)) bZ)))))) (ai (aJ (i:=11) fM.nd rfl (by walk_at "o") (aE cT (aD C_law_next (hr.mono (by decide)) (paC (pv 1) ag)) aq)) (ai (eE (PW.pt (uh (PW.pt (pK (bw (jF K rfl hu) (pv 11) aq (bH _)) (kX (iy (dM (aD C_law_row_told (hr.mono (by decide)) (paC (pv 1) ag))))))) (pJ (PW.pt (pK (bw (jF K rfl hu) (pv 11) aq (bH _)) (kX (iy (dM (aD C_law_blocks_told (hr.mono (by decide)) (paC (pv 1) ag)))))))))) (ax (bi rp)) bZ) (ax (bi (eH (jF K rfl hu) (aD C_shortest (hr.mono (by decide)) (paC (ji C_Family_init (hr.mono (by decide)) (paC (cu (iR K rfl) rfl T.b_tuple boot_tuple (paC (pv 2) ag)) ag)) ag)) (pv 6) (bH _))))))))))))))))))),fnP (K:=K) (c:=ue) (ps:=ug) (N:=["_law_script","_law_deck_here","_law_pieces_here","_law_words_here","_law_table_here","_law_long","_law_told","_law_texts","_law_ahead","_law_one","_law_other","_law_sort"]) (au (aG (aN (c:=cF) (aa (ac (am (i:=0))) (aa (ac le_int) ae))) (aA (i:=1) rfl)) (au (aG (aU (i:=1) (aa (ac le_int) ae)) (aA (i:=2) rfl)) (au (aG (aN (c:=bU) (aa (ac (am (i:=2))) ae)) (aA (i:=3) rfl)) (au (aG (aN (c:=bV) (aa (ac (aN (c:=cG) (aa (ac (am (i:=3))) ae))) ae)) (aA (i:=4) rfl)) (au (aG (al ln (ac (bD wt (aa (ac (bp (ix:=[none]) rfl (cI (am (i:=3))) (fun fs hc=>(aC (i:=0) (gQ hc (by decide)))) dg (bD bI (aa (aj (i:=0)) ae)))) ae))) (ac (bD wH (aa (ac (al aL (ac (dB (aa (ac le_int) ae))) (ac (al dJ (aj (i:=4)) (ac (qf j9 (ac le_int))))))) ae)))) (aA (i:=5) rfl)) (au (aG (aN (c:=aS) (aa (ac (lA (aa (ac (am (i:=2))) ae))) ae)) (aA (i:=6) rfl)) (au (eJ (uJ (iB (rK (wn .str (aj (i:=6))))) (uJ (iP (al kc (ac (bD bI (aa (aj (i:=6)) ae))) (aj (i:=5)))) (iB (rK (aN (c:=bW) (aa (ac (am (i:=6))) (aa (ac (am (i:=2))) ae))))))) (bj rJ) b9) (au (aG (bp (ix:=[none,some 1,some 3]) rfl (kE (aa (ac le_int) ae)) (fun fs hc=>(aC (i:=0) (gQ hc (by decide)))) dg (aU (i:=1) (aa (ac (am (i:=2))) ae))) (aA (i:=7) rfl)) (au (aG (bp (ix:=[none,some 6]) rfl (cI (am (i:=7))) (fun fs hc=>(aC (i:=0) (gQ hc (by decide)))) (rK (aN (c:=bu) (aa (ac (am (i:=0))) (aa (ac (am (i:=1))) ae)))) (am (i:=0))) (aA (i:=8) rfl)) (au (eJ (uJ (iP (al kc (aj (i:=8)) (ac (dB ae)))) (iP (al kc (ac (aN (c:=aS) (aa (ac (lA (aa (ac (rX (aj (i:=2)) (qf j9 (ac le_int)))) ae))) ae))) (aj (i:=6))))) (bj rJ) b9) (au (aG (al aL (ac (bK (aj (i:=7)) bM (bC le_int))) (ac (dB (aa (ac (am (i:=6))) (aa (ac (le_str (l:=[]))) (aa (ac (aU (i:=1) (aa (ac (le_str (l:=[97,98]))) (aa (ac (al aL (ac le_int) (ac (al bE (ac (aU (i:=1) ae)) (ac le_int))))) ae)))) ae)))))) (aA (i:=7) rfl)) (au (ft (j8 (i:=7) (aU (i:=1) (aa (ac (le_str (l:=[97,122]))) (aa (ac le_int) ae))))) (au (eM (cI (am (i:=7))) (aC (i:=9) rfl) (eM (cI (am (i:=7))) (aC (i:=10) rfl) (au (eJ (iP (al kc (ac (aN (c:=bq) (aa (ac (am (i:=9))) (aa (ac (am (i:=10))) ae)))) (ac (aN (c:=bu) (aa (ac (am (i:=9))) (aa (ac (am (i:=10))) ae)))))) (bj rJ) b9) (eJ (iB (rK (wn .bool (ac (aN (c:=bq) (aa (ac (am (i:=9))) (aa (ac (am (i:=10))) ae))))))) (bj rJ) b9)))) (au (aG (al bE (ac (aU (i:=1) ae)) (ac le_int)) (aA (i:=11) rfl)) (au (eJ (uJ (qg (iP (al fK (aj (i:=11)) (ac le_int))) (iB (rK (aU (i:=1) ae)))) (qg (iP (al fK (aj (i:=11)) (ac le_int))) (iB (rK (aU (i:=1) ae))))) (bj rJ) b9) (bj (al fK (ac (aN (c:=aS) (aa (ac (lA (aa (ac (bD fT (aa (aj (i:=2)) ae))) ae))) ae))) (aj (i:=6))))))))))))))))))) (fun ds Q h=>Nat.le_trans (le_of_eq (Aj ds Q h)) (by decide)) Ep h⟩
end
theorem Et{l:PySem.W.OpenLaw}{w:World}{K:PySem.W.Frag}{h:Heap}{mg:Str->Option Value}{fa:Addr}(X:K.In h)(G:h.Ns mainGlobals mg)(hfa:mg "law"=some (.ref fa))
  {C_Family:Addr} (aC_Family:PySem.W.nsIn K mainGlobals "Family"=some (some (.ref C_Family))) (pg_Family:PySem.W.plainGet K C_Family Str.empty=true) (hd_Family:PySem.W.hasDictIn K C_Family=true) (po_Family:PySem.W.plainOver K C_Family=true) (sa_Family:PySem.W.findIn K (.ref C_Family) "__setattr__"=some (some (.builtin "object.__setattr__"))) (mk_Family:PySem.W.makesIn K C_Family=true) (kc_Family:PySem.W.keepIn K (.ref C_Family)=true)
  (n_Family_pieces:PySem.W.findIn K (.ref C_Family) "pieces"=some none)
  (n_Family_kept:PySem.W.findIn K (.ref C_Family) "kept"=some none)
  (n_Family_words:PySem.W.findIn K (.ref C_Family) "words"=some none)
  (n_Family_left:PySem.W.findIn K (.ref C_Family) "left"=some none)
  (n_Family_laps:PySem.W.findIn K (.ref C_Family) "laps"=some none)
  (n_Family_total:PySem.W.findIn K (.ref C_Family) "total"=some none)
  (d1:ik K "members" lG)
  (d2:ik K "is_ahead" jN)
  (d3:ik K "heads_of" jP)
  (d4:ik K "lap" BM)
  {f5:Addr}{oc5 kV5 dc5 pm5 cd5 ct5:Value}{od5 an5 dd5:Option Addr}{sl5 st5:Array (Option Value)}{dT5:Addr}{n5:Nat}{u5_0 u5_1:Tok} (a5:PySem.W.nsIn K mainGlobals "is_text"=some (some (.ref f5))) (l5:K.lookup f5=some ⟨oc5,od5,.func (PySem.W.fnOf "is_text" "is_text" (dh fL) (cB fL) (ar fL) (.ref dT5) kV5 dc5 pm5 an5 cd5 ct5),sl5⟩) (c5:PySem.W.codeIn K cd5 "is_text"=true) (k5:PySem.W.keepIn K (.ref f5)=true) (t5:K.lookup dT5=some ⟨.type "tuple",dd5,.seq [.int 0 u5_0,.int 4000 u5_1].toArray n5,st5⟩)
  (d6:ik K "first_place" fW)
  {f7:Addr}{oc7 kV7 dc7 pm7 cd7 ct7:Value}{od7 an7:Option Addr}{sl7:Array (Option Value)} (a7:PySem.W.findIn K (.ref C_Family) "many"=some (some (.ref f7))) (i7:PySem.W.isFn K (.ref f7)=true) (l7:K.lookup f7=some ⟨oc7,od7,.func (PySem.W.fnOf "many" "Family.many" (dh cP) (cB cP) (ar cP) .none kV7 dc7 pm7 an7 cd7 ct7),sl7⟩) (c7:PySem.W.codeIn K cd7 "Family.many"=true) (k7:PySem.W.keepIn K (.ref f7)=true)
  (d8:ik K "_law_mixed" iY)
  (d9:ik K "_law_next" jW)
  (d10:ik K "_law_words" i3)
  (d11:ik K "_law_lap" lI)
  (d12:ik K "_law_needed" gY)
  (d13:ik K "_law_first" i5)
  (d14:ik K "_law_holds" i6)
  (d15:ik K "foremost" jO)
  (d16:ik K "check_few_words" dW)
  (d17:ik K "sets_left" iX)
  (d18:ik K "all_laps" jT)
  (d19:ik K "check_pieces" fz)
  (d20:ik K "stands_within" eQ)
  (d21:ik K "_law_deck" jV)
  (d22:ik K "_law_signs" iZ)
  (d23:ik K "_law_laps" jX)
  (d24:ik K "_law_holding" f8)
  (d25:ik K "_law_table" i4)
  (d26:ik K "all_ends" jQ)
  (d27:ik K "is_kept" lH)
  (d28:ik K "left_row" jU)
  (d29:ik K "_law_pieces" gX)
  (d30:ik K "foremost_text" eP)
  {f31:Addr}{oc31 kV31 dc31 pm31 cd31 ct31:Value}{od31 an31:Option Addr}{sl31:Array (Option Value)} (a31:PySem.W.findIn K (.ref C_Family) "__init__"=some (some (.ref f31))) (i31:PySem.W.isFn K (.ref f31)=true) (l31:K.lookup f31=some ⟨oc31,od31,.func (PySem.W.fnOf "__init__" "Family.__init__" (dh cO) (cB cO) (ar cO) .none kV31 dc31 pm31 an31 cd31 ct31),sl31⟩) (c31:PySem.W.codeIn K cd31 "Family.__init__"=true) (k31:PySem.W.keepIn K (.ref f31)=true)
  (d32:ik K "shortest" jR)
  (d33:ik K "_law_row_told" fA)
  (d34:ik K "_law_blocks_told" dX)
  (d35:ik K "law" ze)
  (z1:PySem.W.nsIn K mainGlobals "all"=some none)
  (z2:PySem.W.nsIn K mainGlobals "any"=some none)
  (z3:PySem.W.nsIn K mainGlobals "bool"=some none)
  (z4:PySem.W.nsIn K mainGlobals "enumerate"=some none)
  (z5:PySem.W.nsIn K mainGlobals "isinstance"=some none)
  (z6:PySem.W.nsIn K mainGlobals "len"=some none)
  (z7:PySem.W.nsIn K mainGlobals "list"=some none)
  (z8:PySem.W.nsIn K mainGlobals "max"=some none)
  (z9:PySem.W.nsIn K mainGlobals "min"=some none)
  (z10:PySem.W.nsIn K mainGlobals "range"=some none)
  (z11:PySem.W.nsIn K mainGlobals "reversed"=some none)
  (z12:PySem.W.nsIn K mainGlobals "sorted"=some none)
  (z13:PySem.W.nsIn K mainGlobals "str"=some none)
  (z14:PySem.W.nsIn K mainGlobals "sum"=some none)
  (z15:PySem.W.nsIn K mainGlobals "tuple"=some none)
  (z16:PySem.W.nsIn K mainGlobals "zip"=some none)
  {ty1:Tok} (y1:PySem.W.nsIn K mainGlobals "MOST_PIECES"=some (some (.int 40 ty1)))
  {ty2:Tok} (y2:PySem.W.nsIn K mainGlobals "MOST_SHORTEST_WORDS"=some (some (.int 12 ty2)))
  {ty3:Tok} (y3:PySem.W.nsIn K mainGlobals "MOST_SIGNS"=some (some (.int 60 ty3))) :
  ∃fd:FuncData,(∀(s:Shared) (v:Value),BindsTo s fd ⟨[v],[]⟩ [("_law_script",v)])/\∀base:Heap,K.In base->base.Ns mainGlobals mg->nY l.prog w K mg base CX0 7 fa fd ["_law_script"] (uD K):=by
 have eC_Family:=yn aC_Family;have TC:TxC K:=⟨by rw [eC_Family];exact⟨pg_Family,hd_Family,po_Family,sa_Family⟩,by show PySem.W.findIn K (.ref (cJ K "Family")) "pieces"=some none;rw [eC_Family];exact n_Family_pieces,by show PySem.W.findIn K (.ref (cJ K "Family")) "kept"=some none;rw [eC_Family];exact n_Family_kept,by show PySem.W.findIn K (.ref (cJ K "Family")) "words"=some none;rw [eC_Family];exact n_Family_words,by show PySem.W.findIn K (.ref (cJ K "Family")) "left"=some none;rw [eC_Family];exact n_Family_left,by show PySem.W.findIn K (.ref (cJ K "Family")) "laps"=some none;rw [eC_Family];exact n_Family_laps,by show PySem.W.findIn K (.ref (cJ K "Family")) "total"=some none;rw [eC_Family];exact n_Family_total⟩
 have D_members:=bR d1 X G;have D_is_ahead:=bR d2 X G;have D_heads_of:=bR d3 X G;have D_lap:=bR d4 X G;have D_is_text:sX K mg "is_text" fL [.int 0,.int 4000]:=⟨⟨f5,dT5,oc5,od5,an5,dd5,kV5,dc5,pm5,cd5,ct5,sl5,st5,[.int 0 u5_0,.int 4000 u5_1],n5,l5,c5,k5,PySem.W.mg_of X G a5,t5,(.cons ⟨_,rfl⟩ (.cons ⟨_,rfl⟩ .nil))⟩⟩
 have D_first_place:=bR d6 X G;have D_Family_many:sY K (cJ K "Family") "many" "Family.many" cP:=by rw [eC_Family];exact⟨⟨f7,_,vE (st:=cP) l7 c7 k7,⟨a7,i7,k7⟩⟩⟩
 have D_law_mixed:=bR d8 X G;have D_law_next:=bR d9 X G;have D_law_words:=bR d10 X G;have D_law_lap:=bR d11 X G;have D_law_needed:=bR d12 X G;have D_law_first:=bR d13 X G;have D_law_holds:=bR d14 X G;have D_foremost:=bR d15 X G;have D_check_few_words:=bR d16 X G;have D_sets_left:=bR d17 X G;have D_all_laps:=bR d18 X G;have D_check_pieces:=bR d19 X G;have D_stands_within:=bR d20 X G;have D_law_deck:=bR d21 X G
 have D_law_signs:=bR d22 X G;have D_law_laps:=bR d23 X G;have D_law_holding:=bR d24 X G;have D_law_table:=bR d25 X G;have D_all_ends:=bR d26 X G;have D_is_kept:=bR d27 X G;have D_left_row:=bR d28 X G;have D_law_pieces:=bR d29 X G;have D_foremost_text:=bR d30 X G;have D_Family_init:sZ K mg (cJ K "Family") "Family" "Family.__init__" cO:=by rw [eC_Family];exact⟨⟨f31,_,vE (st:=cO) l31 c31 k31,⟨mk_Family,a31,i31,kc_Family⟩,PySem.W.mg_of X G aC_Family⟩⟩
 have D_shortest:=bR d32 X G;have D_law_row_told:=bR d33 X G;have D_law_blocks_told:=bR d34 X G;have D_law:=bR d35 X G;have T:Txt mg:=⟨PySem.W.mg_none_of X G z1,PySem.W.mg_none_of X G z2,PySem.W.mg_none_of X G z3,PySem.W.mg_none_of X G z4,PySem.W.mg_none_of X G z5,PySem.W.mg_none_of X G z6,PySem.W.mg_none_of X G z7,PySem.W.mg_none_of X G z8,PySem.W.mg_none_of X G z9,PySem.W.mg_none_of X G z10,PySem.W.mg_none_of X G z11,PySem.W.mg_none_of X G z12,PySem.W.mg_none_of X G z13,PySem.W.mg_none_of X G z14,PySem.W.mg_none_of X G z15,PySem.W.mg_none_of X G z16,⟨_,PySem.W.mg_of X G y1⟩,⟨_,PySem.W.mg_of X G y2⟩,⟨_,PySem.W.mg_of X G y3⟩⟩
 refine Dg (st:=ze) hfa D_law (fun _ _ _ _ _ _ s v=>.of_eq rfl) fun base=>?_;have C_members:=u8 (P:=l.prog) (w:=w) (base:=base) D_members T TC;have C_is_ahead:=sG (P:=l.prog) (w:=w) (base:=base) D_is_ahead T TC;have C_heads_of:=sI (P:=l.prog) (w:=w) (base:=base) D_heads_of T TC;have C_lap:=Er (P:=l.prog) (w:=w) (base:=base) D_lap T TC;have C_is_text:=va (P:=l.prog) (w:=w) (base:=base) D_is_text T TC
 have C_first_place:=mP (P:=l.prog) (w:=w) (base:=base) D_first_place T TC;have C_Family_many:=mR (P:=l.prog) (w:=w) (base:=base) D_Family_many T TC;have C_law_mixed:=rf (P:=l.prog) (w:=w) (base:=base) D_law_mixed T TC;have C_law_next:=sO (P:=l.prog) (w:=w) (base:=base) D_law_next T TC;have C_law_words:=rh (P:=l.prog) (w:=w) (base:=base) D_law_words T TC;have C_law_lap:=vc (P:=l.prog) (w:=w) (base:=base) D_law_lap T TC
 have C_law_needed:=pH (P:=l.prog) (w:=w) (base:=base) D_law_needed T TC;have C_law_first:=rk (P:=l.prog) (w:=w) (base:=base) D_law_first T TC;have C_law_holds:=rl (P:=l.prog) (w:=w) (base:=base) D_law_holds T TC;have C_foremost:=sH (P:=l.prog) (w:=w) (base:=base) D_foremost T TC C_is_ahead;have C_check_few_words:=ju (P:=l.prog) (w:=w) (base:=base) D_check_few_words T TC C_Family_many;have C_sets_left:=re (P:=l.prog) (w:=w) (base:=base) D_sets_left T TC C_members
 have C_all_laps:=sL (P:=l.prog) (w:=w) (base:=base) D_all_laps T TC C_lap;have C_check_pieces:=ml (P:=l.prog) (w:=w) (base:=base) D_check_pieces T TC C_is_text;have C_stands_within:=kN (P:=l.prog) (w:=w) (base:=base) D_stands_within T TC C_first_place;have C_law_deck:=sN (P:=l.prog) (w:=w) (base:=base) D_law_deck T TC C_law_mixed;have C_law_signs:=rg (P:=l.prog) (w:=w) (base:=base) D_law_signs T TC C_law_next
 have C_law_laps:=sP (P:=l.prog) (w:=w) (base:=base) D_law_laps T TC C_law_lap;have C_law_holding:=mS (P:=l.prog) (w:=w) (base:=base) D_law_holding T TC C_law_lap C_law_next;have C_law_table:=rj (P:=l.prog) (w:=w) (base:=base) D_law_table T TC C_law_needed;have C_all_ends:=sJ (P:=l.prog) (w:=w) (base:=base) D_all_ends T TC C_foremost;have C_is_kept:=vb (P:=l.prog) (w:=w) (base:=base) D_is_kept T TC C_stands_within
 have C_left_row:=sM (P:=l.prog) (w:=w) (base:=base) D_left_row T TC C_first_place C_stands_within;have C_law_pieces:=pG (P:=l.prog) (w:=w) (base:=base) D_law_pieces T TC C_law_next C_law_signs;have C_foremost_text:=kM (P:=l.prog) (w:=w) (base:=base) D_foremost_text T TC C_all_ends C_foremost C_heads_of;have C_Family_init:=mQ (P:=l.prog) (w:=w) (base:=base) D_Family_init T TC C_all_laps C_check_pieces C_is_kept C_left_row
 have C_shortest:=sK (P:=l.prog) (w:=w) (base:=base) D_shortest T TC C_Family_many C_check_few_words C_foremost_text C_sets_left;have C_law_row_told:=my (P:=l.prog) (w:=w) (base:=base) D_law_row_told T TC C_Family_init C_law_next C_shortest;have C_law_blocks_told:=jx (P:=l.prog) (w:=w) (base:=base) D_law_blocks_told T TC C_Family_init C_law_next C_shortest;exact (Es (P:=l.prog) (w:=w) (base:=base) D_law T TC C_Family_init C_law_blocks_told C_law_deck C_law_first C_law_holding C_law_holds C_law_laps C_law_next C_law_pieces C_law_row_told C_law_signs C_law_table C_law_words C_is_ahead C_shortest).imp fun _ _ _ _ h=>A9 h
end K37

open PySem PySem.W PyProof.Rows
local macro_rules | `(tactic| walk_at "fn") => `(tactic| (refine' L2.D5 ?a ?l ?c ?k; (case a => k_is); (case l => k_is); (case c => k_is); (case k => k_is)))
set_option maxRecDepth 100000 in
set_option maxHeartbeats 0 in
theorem PySem.Challenge.cw_shortglue_k37_shortest_and_first_holds : PySem.Challenge.rw_shortglue_k37_shortest_and_first.Holds := by
  refine topHd ?_
  k_fill
  refine L2.Dh (l := PySem.Challenge.rw_shortglue_k37_shortest_and_first) (k := 7) (x := "_law_script") rfl rfl ⟨rfl, by decide, by decide⟩ (fun w h Y => PySem.W.kIn_of Y) ?F
  case F =>
    intro w mg fa h KX G hmg
    refine' K37.Et KX G hmg ?aC_Family ?pg_Family ?hd_Family ?po_Family ?sa_Family ?mk_Family ?kc_Family ?n_Family_pieces ?n_Family_kept ?n_Family_words ?n_Family_left ?n_Family_laps ?n_Family_total ?d1 ?d2 ?d3 ?d4 ?a5 ?l5 ?c5 ?k5 ?t5 ?d6 ?a7 ?i7 ?l7 ?c7 ?k7 ?d8 ?d9 ?d10 ?d11 ?d12 ?d13 ?d14 ?d15 ?d16 ?d17 ?d18 ?d19 ?d20 ?d21 ?d22 ?d23 ?d24 ?d25 ?d26 ?d27 ?d28 ?d29 ?d30 ?a31 ?i31 ?l31 ?c31 ?k31 ?d32 ?d33 ?d34 ?d35 ?z1 ?z2 ?z3 ?z4 ?z5 ?z6 ?z7 ?z8 ?z9 ?z10 ?z11 ?z12 ?z13 ?z14 ?z15 ?z16 ?y1 ?y2 ?y3
    (case aC_Family => k_is)
    (case pg_Family => k_is)
    (case hd_Family => k_is)
    (case po_Family => k_is)
    (case sa_Family => k_is)
    (case mk_Family => k_is)
    (case kc_Family => k_is)
    (case n_Family_pieces => k_is)
    (case n_Family_kept => k_is)
    (case n_Family_words => k_is)
    (case n_Family_left => k_is)
    (case n_Family_laps => k_is)
    (case n_Family_total => k_is)
    (case d1 => walk_at "fn")
    (case d2 => walk_at "fn")
    (case d3 => walk_at "fn")
    (case d4 => walk_at "fn")
    (case a5 => k_is)
    (case l5 => k_is)
    (case c5 => k_is)
    (case k5 => k_is)
    (case t5 => k_is)
    (case d6 => walk_at "fn")
    (case a7 => k_is)
    (case i7 => k_is)
    (case l7 => k_is)
    (case c7 => k_is)
    (case k7 => k_is)
    (case d8 => walk_at "fn")
    (case d9 => walk_at "fn")
    (case d10 => walk_at "fn")
    (case d11 => walk_at "fn")
    (case d12 => walk_at "fn")
    (case d13 => walk_at "fn")
    (case d14 => walk_at "fn")
    (case d15 => walk_at "fn")
    (case d16 => walk_at "fn")
    (case d17 => walk_at "fn")
    (case d18 => walk_at "fn")
    (case d19 => walk_at "fn")
    (case d20 => walk_at "fn")
    (case d21 => walk_at "fn")
    (case d22 => walk_at "fn")
    (case d23 => walk_at "fn")
    (case d24 => walk_at "fn")
    (case d25 => walk_at "fn")
    (case d26 => walk_at "fn")
    (case d27 => walk_at "fn")
    (case d28 => walk_at "fn")
    (case d29 => walk_at "fn")
    (case d30 => walk_at "fn")
    (case a31 => k_is)
    (case i31 => k_is)
    (case l31 => k_is)
    (case c31 => k_is)
    (case k31 => k_is)
    (case d32 => walk_at "fn")
    (case d33 => walk_at "fn")
    (case d34 => walk_at "fn")
    (case d35 => walk_at "fn")
    (case z1 => k_is)
    (case z2 => k_is)
    (case z3 => k_is)
    (case z4 => k_is)
    (case z5 => k_is)
    (case z6 => k_is)
    (case z7 => k_is)
    (case z8 => k_is)
    (case z9 => k_is)
    (case z10 => k_is)
    (case z11 => k_is)
    (case z12 => k_is)
    (case z13 => k_is)
    (case z14 => k_is)
    (case z15 => k_is)
    (case z16 => k_is)
    (case y1 => k_is)
    (case y2 => k_is)
    (case y3 => k_is)
